/- Lemmas for the last text. Conditions: those that each names. -/
import Derived.Test.YtgmcjddjdidpjaaGreatDoorVY9ToY10
set_option linter.unusedVariables false
set_option maxRecDepth 100000
set_option maxHeartbeats 16000000
namespace Go.Proofs.YtgmcjddjdidpjaaGreatDoor
open Go.Proofs.Tryz
open Go.RowKit
theorem Ro.one{B:Nat}{n:Nd}{a0 a1 a2 a3 a4 a5 a6 a7:Value}{W:World}(h:Qm W (fun g=>B<=g) n [a0,a1,a2,a3,a4,a5,a6,a7])(hB:B<=W.heap.size):Ro B (.slice (some ⟨W.heap.size,0,none⟩) 1 1) [n] (W.alloc (.cells #[a0,a1,a2,a3,a4,a5,a6,a7] 58)):=by
 refine⟨[a0,a1,a2,a3,a4,a5,a6,a7],⟨rfl,.inr ⟨W.heap.size,1,_,rfl,hB,Qq _ _ rfl,Nat.le_refl _,by unfold maxLen;omega,rfl,rfl⟩⟩,?_⟩;rw[Zz];refine⟨[a0,a1,a2,a3,a4,a5,a6,a7],[],by simp,Qm.kept (fun g cur hp hq=>⟨Below.heap_alloc W _ g (Qz hq),hp,?_⟩) n _ h,by rw[Zz];trivial⟩;intro e;have e2:W.heap.size=g:=Option.some.inj e;have:=Qz hq;omega
theorem z8q(R b:Nat)(v:Value)(L:List Tok)(ru ne:Nat)(inn:Nat->Pr)(hg:Zx L)(ha:Adv L inn)(ho:MC 193 (fun k=>Zb L inn L.length k []) (fun _=>True) R b v L ru ne):
  MC 154 (chS L inn) (fun _=>True) R b v L ru ne:=by
 intro k B w h hk _ hB;obtain⟨iT,hiT,hzT0,hzT1,hzT2⟩:=info_parts Tryz.infoNd;have HE0:Hid (En w R b v L k ru ne (w.alloc Zo)):=En.start h;have HM:Hid (MC 193 (fun k=>Zb L inn L.length k []) (fun _=>True) R b v L ru ne):=ho;have HG:Hid (Zx L):=hg;have HA:Hid (Adv L inn):=ha;have hll:=hg.len;have HO:=hid (ho k (w.heap.size+1) (w.alloc Zo) (h.alloc _) hk trivial (by simp));unfold chS;cases hs:Zb L inn L.length k []with
 |inl c=>
  simp only[hs]at HO;clear ho h hg ha HM hs;show Calls _ _ _ _ (fun e w'=>Qp (.inl c) B R b v L ru ne w e w');go_enter func154,ntmps154
  go_wp2_with fail
  refine HO.out.mono ?_;rintro e w1 hA;have HAP:Hid (Qp (.inl c) B R b v L ru ne w e w1):=Qp.up HE0.out hA;obtain⟨f,rfl,_,_⟩:=hA;clear HO HE0
  go_wp2_with fail
  exact⟨rfl,HAP.out⟩
 |inr q=>
  obtain⟨n,k1⟩:=q;have hk1:=Bm hg ha _ _ _ _ _ hk hs;simp only[hs]at HO;obtain⟨RES,hR⟩:∃RES,RES=Xh L inn L.length k1 [n]:=⟨_,rfl⟩;have HM0:Hid (Xh L inn L.length k1 [n]=RES):=hR.symm;show Calls _ _ _ _ (fun e w'=>Qp (Xh L inn L.length k1 [n]) B R b v L ru ne w e w');rw[<-hR];clear hR h ho hg ha hs;go_enter func154,ntmps154
  go_wp2_with fail
  refine HO.out.mono ?_;rintro e w1 ⟨cs,rfl,HN,HR,HGr⟩;have HE1:=hid (HE0.out.grown HR.out HGr.out);clear HO HR HGr HE0;obtain⟨kd,T,C,so,sl,sc,hcs⟩:=HN.out.shape;obtain⟨p,hp⟩:∃p,p=n.at':=⟨_,rfl⟩;rw[<-hp]at hcs;subst hcs;clear hp;dsimp only[n8];have HRo1:=hid (Ro.one HN.out HE1.out.size);have HE2:=hid (HE1.out.alloc (.cells #[.int .i64 kd,.string T,.int .u64 (wd C 0),.int .u64 (wd C 1),.int .u64 (wd C 2),.int .u64 (wd C 3),.slice so sl sc,.int .i64 p] 58));clear HN HE1
  go_wp2_with fail
  go_loopw [3] (fun a wr=>∃(f j:Nat) (m:Nd) (r:List Nd),j<L.length/\L.length<=f+j/\r.length<=j/\Hid (Xh L inn f j (m::r)=RES)/\Hid (Ro (w.heap.size+1) a (m::r) wr)/\Hid (En w R b v L j ru ne wr)) (fun _ wr=>L.length-Gy R wr)
  case atStart=>exact⟨L.length,k1,n,[],hk1.2,by omega,by simp,HM0,HRo1,HE2⟩
  case round=>
   obtain⟨f,j,m,r,hj,hfj,haj,HMj,HRo,HE⟩:=hrel;clear HM0 HE2 HRo1;have HS:=Db R b v L j ru ne hj HG.out;have hjl:(j:Int)+1<9223372036854775807:=by omega
   cases f with
   |zero=>omega
   |succ f=>
   by_cases hz:sgT (gL L j)={data:=#[47]}
   ·have hj1:=HG.out.sg hj hz
    rw[hz]at HS;have HC:=hid (fun(W:World) (h:Rd W R b v L (j+1) ru ne)=>HM.out (j+1) W.heap.size W h hj1 trivial L0q);cases hs:Zb L inn L.length (j+1) []with
    |inl c=>
     have HF:Hid (RES=.inl c):=by show _=_;rw[<-HMj.out,Xh,if_pos hz,hs]
     simp only[hs]at HC;clear hs hz HMj
     go_wp2_with fail
     refine(HS.out _ HE.out.1).mono ?_;rintro e w2 ⟨rfl,hb2⟩;have HE3:=hid (HE.out.below hb2);clear hb2 HE HS HRo;obtain⟨r0,r1,r2,r3,q0,q1,q2,q3⟩:=HE3.out.1.cells;have hR3:=HE3.out.1.lt;have HE4:=hid HE3.out.next;clear HE3
     go_wp2_with fail
     refine(HC.out _ HE4.out.1).mono ?_;rintro e w5 hA;have HAP:Hid (Qp RES B R b v L ru ne w e w5):=by show Qp _ _ _ _ _ _ _ _ _ _ _;rw[HF.out];exact Qp.up HE4.out hA
     obtain⟨f',rfl,_,_⟩:=hA;clear HE4 HC HF r0 r1 r2 r3 q0 q1 q2 q3 hR3
     go_wp2_with fail
     exact⟨rfl,HAP.out⟩
    |inr q=>
     obtain⟨n2,k'⟩:=q;have hk':=Bm HG.out HA.out _ _ _ _ _ hj1 hs;have HM2:Hid (Xh L inn f k' ((m::r)++[n2])=RES):=by show _=_;rw[<-HMj.out,Xh,if_pos hz,hs]
     simp only[hs]at HC;clear hs hz HMj;have HJ:Hid (Gy R wr=j):=Mf HE.out.1
     go_wp2_with fail
     refine(HS.out _ HE.out.1).mono ?_;rintro e w2 ⟨rfl,hb2⟩;have HE3:=hid (HE.out.below hb2);have HRo3:=hid (HRo.out.below hb2);clear hb2 HE HS HRo;obtain⟨r0,r1,r2,r3,q0,q1,q2,q3⟩:=HE3.out.1.cells;have hR3:=HE3.out.1.lt;have HE4:=hid HE3.out.next;have HRo4:=hid (HRo3.out.grown (G.setR (u:=.int .i64 ((j:Int)+1)) (j:=1) (G.refl w2 R)) (by have:=HE3.out.lt;omega));clear HE3 HRo3
     go_wp2_with fail
     refine(HC.out _ HE4.out.1).mono ?_;rintro e w5 ⟨cs,rfl,HN,HR,HGr⟩;have HE5:=hid (HE4.out.grown HR.out HGr.out);have HRo5:=hid (HRo4.out.grown HGr.out (by have:=HE4.out.lt;omega));have HPV:=hid (HRo4.out.blk);have HW1:Hid (w.heap.size+1<=(w2.setCell ⟨R,1,none⟩ (.int .i64 ((j:Int)+1))).heap.size):=HE4.out.size;clear HE4 HRo4 HR HGr HC r0 r1 r2 r3 q0 q1 q2 q3 hR3;obtain⟨kd,T,C,so,sl,sc,hcs⟩:=HN.out.shape;obtain⟨p,hp⟩:∃p,p=n2.at':=⟨_,rfl⟩;rw[<-hp]at hcs;subst hcs;clear hp;obtain⟨xs,hx1,hx2⟩:=HRo5.out;have HX1:=hid hx1;have HX2:=hid hx2;clear hx1 hx2 HRo5;rw[List.length_cons]at HX1;dsimp only[n8]
     go_wp2_with(first|(at_builtin;refine wpList_append_own_at _ rfl (.tmp 17) (.tmp 20) 56 rfl (w.heap.size+1) 58 iT (.agg #[.int .i64 0,.string ⟨#[]⟩,.int .u64 0,.int .u64 0,.int .u64 0,.int .u64 0,.slice none 0 0,.int .i64 0]) 8 88 Tryz.underlying56 hiT hzT0 hzT1 hzT2 rfl (by decide) _ _ _ rfl (HX1.out.alloc _) ⟨w5.heap.size,0,none⟩ 1 1 (n8 kd T C (.slice so sl sc) p) rfl rfl (z1M w5 _ _ _ _ _ _ _ _ 58) (z1N _ _ _ _ _ _ _ _ _ _) (by unfold maxLen;omega) (by omega) (by have:=HE5.out.size;simp;omega) ?_;intro v6 w6 hown6 hgr6 hnil6 hat6))
     have HRo6:Hid (Ro (w.heap.size+1) v6 ((m::r)++[n2]) w6):=Ro.app HX1.out HX2.out HN.out HW1.out HPV.out ((Below.refl _ w5).alloc L0q _) hown6 hgr6 hat6;have HE6:Hid (En w R b v L k' ru ne w6):=(HE5.out.alloc _).rowed hgr6 (fun g e=>by have:=(HX1.out.lt g e).1;omega);have HJ6:Hid (Gy R w6=k'):=Mf HE6.out.1;clear hown6 hgr6 hnil6 hat6 HX1 HX2 HN HE5 HPV HW1
     go_wp2_with fail
     go_roundw
     case rel=>exact⟨f,k',m,r++[n2],hk'.2,by omega,by simp;omega,HM2,HRo6,HE6⟩
     case measure=>rw[HJ.out,HJ6.out];omega
   ·have HF:Hid (RES=.inr (Vg 7 (m::r),j)):=by show _=_;rw[<-HMj.out,Xh,if_neg hz]
    obtain⟨Z,hZ⟩:∃Z,Z=sgT (gL L j):=⟨_,rfl⟩;rw[<-hZ]at HS hz;have z1:(Z.toList == [47])=false:=Fj hz;clear hZ hz HMj HM;obtain⟨xs0,hx0,_⟩:=HRo.out;rw[List.length_cons]at hx0;obtain⟨g,cap,hsl⟩:=Fz hx0 (by omega);clear hx0;subst hsl;obtain⟨q,hq⟩:∃q,q=r.length:=⟨_,rfl⟩;have HMm:Hid (q=r.length):=hq;rw[<-hq]at haj ⊢;clear hq
    go_wp2_with fail
    refine(HS.out _ HE.out.1).mono ?_;rintro e w2 ⟨rfl,hb2⟩;have HE1:=hid (HE.out.below hb2);have HRo1:=hid (HRo.out.below hb2);clear hb2 HE HS HRo;obtain⟨g',cap',hq,HJ⟩:=HRo1.out.joined HE1.out.size (by rw[<-HMm.out];omega) 7;rw[<-HMm.out]at HJ hq;cases hq;clear HRo1
    go_wp2_with fail
    refine HJ.out.mono ?_;rintro e w3 ⟨cs,rfl,HN3,HB2⟩;have HE3:=hid (HE1.out.below HB2.out);clear HB2 HE1 HJ;obtain⟨kd,T,C,so,sl,sc,hcs⟩:=HN3.out.shape;obtain⟨p,hp⟩:∃p,p=(Vg 7 (m::r)).at':=⟨_,rfl⟩;rw[<-hp]at hcs;subst hcs;clear hp;dsimp only[n8];obtain⟨⟨k0,k1,k2,k3,k4,k5,k6,k7⟩,⟨f0,f1,f2,f3,f4,f5,f6,f7⟩⟩:=HE3.out.cells
    go_wp2_with fail
    (try simp only[Exit.inBlock,Exit.then])
    obtain⟨⟨c0,c1,c2,c3,c4,c5,c6,c7⟩,_⟩:=Qd (Ub HE3.out.2.2.1 (kd:Int) T (wd C 0:Nat) (wd C 1:Nat) (wd C 2:Nat) (wd C 3:Nat) (.slice so sl sc) (p:Int));refine bodyPost_ret (v:=.agg (n8 kd T C (.slice so sl sc) p).toArray) (by simp[results,Tryz.results154,go_sem,c0,c1,c2,c3,c4,c5,c6,c7]) rfl ?_;rw[HF.out];exact HE3.out.fin HN3.out hB
theorem Rd.setNest{w:World}{R b:Nat}{v:Value}{L:List Tok}{k ru ne:Nat}(h:Rd w R b v L k ru ne):Rd (w.setCell ⟨R,3,none⟩ (.int .i64 ((ne:Int)+1))) R b v L k ru (ne+1):=by
 have h2:=h.nest (ne+1);rw[show(((ne+1:Nat):Int))=(ne:Int)+1 by omega]at h2;exact h2
theorem En.nestD{w W:World}{R b:Nat}{v:Value}{L:List Tok}{k ru ne:Nat}(h:En w R b v L k ru (ne+1) W):En w R b v L k ru ne (W.setCell ⟨R,3,none⟩ (.int .i64 ne)):=
 ⟨h.1.nest ne,G.setR h.2.1,(Below.heap_setCell _ _ _ _ (show w.heap.size≠R by have:=h.lt;omega)).trans h.2.2.1,h.2.2.2.1,h.2.2.2.2⟩
theorem En.start'{w W:World}{R b:Nat}{v:Value}{L:List Tok}{k k0 ru ne ne0:Nat}(h0:Rd w R b v L k0 ru ne0)(h:Rd W R b v L k ru ne)(hg:w.grownBy W (some R))(hs:W.heap.size=w.heap.size):En w R b v L k ru ne (W.alloc Zo):=
 ⟨h.alloc _,G.alloc hg,by rw[<-hs];exact Qq W _ rfl,h0.lt,fun g hg e=>by have:=(h0.2.lt _ e).2;omega⟩
theorem z8r(R b:Nat)(v:Value)(L:List Tok)(ru:Nat)(hg:Zx L):
  MC 276 (Xk L 0) (fun k=>sgT (gL L k)={data:=#[40]}) R b v L ru 24:=by
 intro k B w h hk _ hB;rw[Xk];have HF:=z1K R b v L k ru 24 hk hg;have HE:Hid (En w R b v L k ru 24 (w.alloc Zo)):=En.start h;obtain⟨r0,r1,r2,r3,q0,q1,q2,q3⟩:=HE.out.1.cells;have r3':(w.alloc Zo).cell? ⟨R,3,none⟩=some (.int .i64 24):=r3;clear h r0 r1 r2 r3 q0 q1 q2 q3;go_enter func276,ntmps276
 go_wp2_with fail
 refine(HF.out 2 _ HE.out.1).mono ?_;rintro e w1 ⟨f,rfl,HP⟩;have HA:Hid (Qp (.inl (2,(gL L k).2.2.2)) B R b v L ru 24 w (.panicked [{v:=.iface 81 (.pointer (some ⟨f,0,none⟩)),recovered:=false}]) w1):=Qp.up (B':=0) (ne':=24) HE.out ⟨f,rfl,hid ⟨HP.out.1,HP.out.2.1⟩,hid (G.below HP.out.2.2)⟩;clear HP HE HF r3'
 go_wp2_with fail
 exact⟨rfl,HA.out⟩
theorem z8s(R b:Nat)(v:Value)(L:List Tok)(ru ne d:Nat)(hg:Zx L)(hne:ne<24)(ho:MC 154 (chS L (Xk L d)) (fun _=>True) R b v L ru (ne+1)):
  MC 276 (Xk L (d+1)) (fun k=>sgT (gL L k)={data:=#[40]}) R b v L ru ne:=by
 intro k B w h hk hs0 hB;rw[Xk];have hk1:=hg.sg hk hs0;have hkl:(k:Int)+1<9223372036854775807:=by have:=hg.len;omega
 have t24:((ne:Int) == 24)=false:=by simp;omega
 have HE2:Hid (En w R b v L (k+1) ru (ne+1) (((w.setCell ⟨R,1,none⟩ (.int .i64 ((k:Int)+1))).setCell ⟨R,3,none⟩ (.int .i64 ((ne:Int)+1))).alloc Zo)):=En.start' h h.next1.setNest (G.setR (G.setR (G.refl w R))) (by simp);have HO:=Hp ho (k+1) (w.heap.size+1) hk1;have HG:Hid (Zx L):=hg;have HA0:=hid (Bp hg d);obtain⟨r0,r1,r2,r3,q0,q1,q2,q3⟩:=h.cells;have hRl:=h.lt;clear h ho hs0 hg;cases hs:chS L (Xk L d) (k+1)with
 |inl c=>
  rw[hs]at HO;clear hs;show Calls _ _ _ _ (fun e w'=>Qp (.inl c) B R b v L ru ne w e w');go_enter func276,ntmps276
  go_wp2_with fail
  refine(HO.out _ HE2.out.1 (by have:=HE2.out.size;omega)).mono ?_;rintro e w3 hA;have HA:Hid (Qp (.inl c) B R b v L ru ne w e w3):=Qp.up HE2.out hA;obtain⟨f,rfl,_,_⟩:=hA;clear HE2 HO r0 r1 r2 r3 q0 q1 q2 q3
  go_wp2_with fail
  exact⟨rfl,HA.out⟩
 |inr q=>
  obtain⟨n,k'⟩:=q;rw[hs]at HO;have hk':=Sw HG.out HA0.out hk1 hs;have HS:=Db R b v L k' ru (ne+1) hk'.2 HG.out;have HW:=Hd R b v L k' ru (ne+1) hk'.2 HG.out;have hkl2:(k':Int)+1<9223372036854775807:=by have:=HG.out.len;omega
  unfold Bh;simp only;clear hs HA0;by_cases hz:sgT (gL L k')={data:=#[41]}
  ·rw[if_pos hz]
   rw[hz]at HS;clear hz HW;go_enter func276,ntmps276
   go_wp2_with fail
   refine(HO.out _ HE2.out.1 (by have:=HE2.out.size;omega)).mono ?_;rintro e w3 ⟨cs,rfl,HN,HR,HGr⟩;have HE3:=hid (HE2.out.grown HR.out HGr.out);clear HE2 HO HR HGr r0 r1 r2 r3 q0 q1 q2 q3 hRl;obtain⟨kd,T,C,so,sl,sc,hcs⟩:=HN.out.shape;obtain⟨p,hp⟩:∃p,p=n.at':=⟨_,rfl⟩;rw[<-hp]at hcs;subst hcs;clear hp;dsimp only[n8];have HE4:=hid (HE3.out.alloc (.cells #[.int .i64 kd,.string T,.int .u64 (wd C 0),.int .u64 (wd C 1),.int .u64 (wd C 2),.int .u64 (wd C 3),.slice so sl sc,.int .i64 p] 58));have HN4:=hid (HN.out.below (((Below.refl _ w3).alloc L0q (.cells #[.int .i64 kd,.string T,.int .u64 (wd C 0),.int .u64 (wd C 1),.int .u64 (wd C 2),.int .u64 (wd C 3),.slice so sl sc,.int .i64 p] 58))));have HK4:Hid ((w3.alloc (.cells #[.int .i64 kd,.string T,.int .u64 (wd C 0),.int .u64 (wd C 1),.int .u64 (wd C 2),.int .u64 (wd C 3),.slice so sl sc,.int .i64 p] 58)).heap[w3.heap.size]? =some (.cells #[.int .i64 kd,.string T,.int .u64 (wd C 0),.int .u64 (wd C 1),.int .u64 (wd C 2),.int .u64 (wd C 3),.slice so sl sc,.int .i64 p] 58)):=Qq _ _ rfl;have HS4:Hid (w.heap.size<w3.heap.size):=HE3.out.size;clear HE3 HN
   go_wp2_with fail
   refine(HS.out _ HE4.out.1).mono ?_;rintro e w5 ⟨rfl,hb5⟩;have HE5:=hid (HE4.out.below hb5);have HN5:=hid (HN4.out.below hb5);have HK5:=hid ((hb5.block _ (by simp)).trans HK4.out);have HL5:Hid (w3.heap.size<w5.heap.size):=Nat.lt_of_lt_of_le (by simp) hb5.size;clear hb5 HS HE4 HN4 HK4;obtain⟨⟨m0,m1,m2,m3,m4,m5,m6,m7⟩,⟨y0,y1,y2,y3,y4,y5,y6,y7⟩⟩:=Qd HK5.out;obtain⟨⟨k0,k1,k2,k3,k4,k5,k6,k7⟩,⟨f0,f1,f2,f3,f4,f5,f6,f7⟩⟩:=HE5.out.cells;obtain⟨r0,r1,r2,r3,q0,q1,q2,q3⟩:=HE5.out.1.cells;have r3':w5.cell? ⟨R,3,none⟩=some (.int .i64 ((ne:Int)+1)):=by rw[r3];simp
   clear r3;have hRl:=HE5.out.lt;have hS4:=HS4.out;have hL5:=HL5.out;have hRN:R≠w3.heap.size:=by omega
   have hRQ:R≠w.heap.size:=by omega
   have hQN:w.heap.size≠w3.heap.size:=by omega
   have HE7:=hid HE5.out.next.nestD;have HN7:=hid (Qm.grown HN5.out (G.setR (u:=.int .i64 ne) (j:=3) (G.setR (u:=.int .i64 ((k':Int)+1)) (j:=1) (G.refl w5 R))) HE5.out.1.1);clear HE5 HN5 HK5 HS4 HL5
   go_wp2_with fail
   (try simp only[Exit.inBlock,Exit.then])
   obtain⟨⟨c0,c1,c2,c3,c4,c5,c6,c7⟩,_⟩:=Qd (Ub HE7.out.2.2.1 (kd:Int) T (wd C 0:Nat) (wd C 1:Nat) (wd C 2:Nat) (wd C 3:Nat) (.slice so sl sc) (p:Int));refine bodyPost_ret (v:=.agg (n8 kd T C (.slice so sl sc) p).toArray) (by simp[results,Tryz.results276,go_sem,c0,c1,c2,c3,c4,c5,c6,c7]) rfl ?_;exact HE7.out.fin HN7.out hB
  ·rw[if_neg hz]
   obtain⟨Z,hZ⟩:∃Z,Z=sgT (gL L k'):=⟨_,rfl⟩;rw[<-hZ]at HS hz;have z1:(Z.toList == [41])=false:=Fj hz;clear hz hZ;go_enter func276,ntmps276
   go_wp2_with fail
   refine(HO.out _ HE2.out.1 (by have:=HE2.out.size;omega)).mono ?_;rintro e w3 ⟨cs,rfl,HN,HR,HGr⟩;have HE3:=hid (HE2.out.grown HR.out HGr.out);clear HE2 HO HR HGr r0 r1 r2 r3 q0 q1 q2 q3 hRl;obtain⟨kd,T,C,so,sl,sc,hcs⟩:=HN.out.shape;obtain⟨p,hp⟩:∃p,p=n.at':=⟨_,rfl⟩;rw[<-hp]at hcs;subst hcs;clear hp;dsimp only[n8];have HE4:=hid (HE3.out.alloc (.cells #[.int .i64 kd,.string T,.int .u64 (wd C 0),.int .u64 (wd C 1),.int .u64 (wd C 2),.int .u64 (wd C 3),.slice so sl sc,.int .i64 p] 58));clear HE3 HN
   go_wp2_with fail
   refine(HS.out _ HE4.out.1).mono ?_;rintro e w5 ⟨rfl,hb5⟩;have HE5:=hid (HE4.out.below hb5);clear hb5 HS HE4
   go_wp2_with fail
   refine(HW.out _ HE5.out.1).mono ?_;rintro e w6 ⟨f,rfl,HP⟩;have HA:Hid (Qp (.inl (wrC (gL L k'),(gL L k').2.2.2)) B R b v L ru ne w (.panicked [{v:=.iface 81 (.pointer (some ⟨f,0,none⟩)),recovered:=false}]) w6):=Qp.up (B':=0) (ne':=ne) HE5.out ⟨f,rfl,hid ⟨HP.out.1,HP.out.2.1⟩,hid (G.below HP.out.2.2)⟩;clear HP HE5 HW
   go_wp2_with fail
   exact⟨rfl,HA.out⟩
theorem z1O(R b:Nat)(v:Value)(L:List Tok)(ru ne:Nat)(inn:Nat->Pr)(hg:Zx L)(ha:Adv L inn)(hi:MC 276 inn (fun k=>sgT (gL L k)={data:=#[40]}) R b v L ru ne):
  MC 154 (chS L inn) (fun _=>True) R b v L ru ne:=
 z8q R b v L ru ne inn hg ha (z8p R b v L ru ne inn hg ha (z8o R b v L ru ne inn hg ha (z8n R b v L ru ne inn hg ha (z8m R b v L ru ne inn hg hi))))
theorem z1P(R b:Nat)(v:Value)(L:List Tok)(ru:Nat)(hg:Zx L):∀(d ne:Nat),ne+d=24->MC 154 (chS L (Xk L d)) (fun _=>True) R b v L ru ne
 |0,ne,h=>by
  have h':ne=24:=by omega
  subst h';exact z1O R b v L ru 24 _ hg (Bp hg 0) (z8r R b v L ru hg)
 |d+1,ne,h=>z1O R b v L ru ne _ hg (Bp hg (d+1)) (z8s R b v L ru ne d hg (by omega) (z1P R b v L ru hg d (ne+1) (by omega)))
section
abbrev Rl:=ByteArray×Nd×Nat
def Vv(w:World)(P:Nat->Prop)(r:Rl)(c:List Value):Prop:=∃cs,c=.string r.1::(cs++[.int .i64 (r.2.2:Int)])/\Qm w P r.2.1 cs
def ruE(N:ByteArray)(p:Nat)(r:Pr):(Nat×Nat) ⊕ (Rl×Nat):=match r with
 | .inl e=>.inl e
 | .inr (n,k')=>.inr ((N,n,p),k')
def ruS(L:List Tok)(ru k:Nat):(Nat×Nat) ⊕ (Rl×Nat):=
 if(gL L k).1≠1 then .inl (wrC (gL L k),(gL L k).2.2.2)
 else if ru=64 then .inl (2,(gL L k).2.2.2)
 else if(gL L (k+1)).1≠2 then .inl (wrC (gL L (k+1)),(gL L (k+1)).2.2.2)
 else ruE (gL L k).2.1 (gL L k).2.2.2 (chS L (Xk L 24) (k+2))
theorem z1Q{L:List Tok}(hg:Zx L){ru k k':Nat}{x:Rl}(hk:k<L.length)(h:ruS L ru k=.inr (x,k')):k+2<=k'/\k'<L.length:=by
 unfold ruS at h;split at h
 ·cases h
 ·rename_i h1
  split at h
  ·cases h
  ·split at h
   ·cases h
   ·rename_i h2
    have hk1:=hg.nxt k hk (by omega);have hk2:=hg.nxt (k+1) hk1 (by omega);cases hs:chS L (Xk L 24) (k+2)with
    |inl e=>rw[hs]at h;cases h
    |inr q=>
     obtain⟨n,j⟩:=q;rw[hs]at h;have:=Sw hg (Bp hg 24) hk2 hs;simp only[ruE,Sum.inr.injEq,Prod.mk.injEq]at h;omega
def Mg(r:(Nat×Nat) ⊕ (Rl×Nat))(B R b:Nat)(v:Value)(L:List Tok)(ru:Nat)(w:World)(e:Ending)(w':World):Prop:=
 match r with
 | .inr (x,k')=>∃cs:List Value,e=.returned (.agg cs.toArray)/\Hid (Vv w' (fun g=>B<=g) x cs)/\Hid (Rd w' R b v L k' (ru+1) 0)/\Hid (w.grownBy w' (some R))
 | .inl c=>∃f,e=.panicked [{v:=.iface 81 (.pointer (some ⟨f,0,none⟩)),recovered:=false}]/\Hid (w.heap.size<=f/\Flt w' f c)/\Hid (w.grownBy w' (some R))
def Ek(O:Obj)(w:World)(R b:Nat)(v:Value)(L:List Tok)(k ru ne:Nat)(W:World):Prop:=
 Rd W R b v L k ru ne/\w.grownBy W (some R)/\W.heap[w.heap.size]? =some O/\R<w.heap.size/\(∀g,w.heap.size<=g->v.ownBlock≠some g)
section
variable {O:Obj} {w W W':World} {R b:Nat} {v:Value} {L:List Tok} {k k' ru ru' ne ne':Nat}
theorem Ek.start(O:Obj)(h:Rd w R b v L k ru ne):Ek O w R b v L k ru ne (w.alloc O):=
 ⟨h.alloc _,G.alloc (G.refl w R),Qq w _ rfl,h.lt,fun g hg e=>by have:=(h.2.lt _ e).2;omega⟩
theorem Ek.size(h:Ek O w R b v L k ru ne W):w.heap.size<W.heap.size:=Qz h.2.2.1
theorem Ek.lt(h:Ek O w R b v L k ru ne W):R<w.heap.size:=h.2.2.2.1
theorem Ek.grown(h:Ek O w R b v L k ru ne W)(hr:Rd W' R b v L k' ru' ne')(hg:W.grownBy W' (some R)):Ek O w R b v L k' ru' ne' W':=
 ⟨hr,G.trans h.2.1 hg,(hg.block _ h.size (fun e=>by have:=Option.some.inj e;have:=h.lt;omega)).trans h.2.2.1,h.2.2.2.1,h.2.2.2.2⟩
theorem Ek.below(h:Ek O w R b v L k ru ne W)(hb:Below W.heap.size W W'):Ek O w R b v L k ru ne W':=h.grown (h.1.below hb) (G.below hb)
theorem Ek.alloc(h:Ek O w R b v L k ru ne W)(o:Obj):Ek O w R b v L k ru ne (W.alloc o):=h.below (B0q.alloc L0q _)
theorem Ek.next(h:Ek O w R b v L k ru ne W):Ek O w R b v L (k+1) ru ne (W.setCell ⟨R,1,none⟩ (.int .i64 ((k:Int)+1))):=h.grown h.1.next1 (G.setR (G.refl W R))
theorem Ek.rules(h:Ek O w R b v L k ru ne W):Ek O w R b v L k (ru+1) ne (W.setCell ⟨R,2,none⟩ (.int .i64 ((ru:Int)+1))):=by
 have h2:=h.1.rules (ru+1);rw[show(((ru+1:Nat):Int))=(ru:Int)+1 by omega]at h2;exact h.grown h2 (G.setR (G.refl W R))
theorem Ek.up(h:Ek O w R b v L k ru ne W){c:Nat×Nat}{B f:Nat}{w':World}(hf:W.heap.size<=f)(hF:Flt w' f c)(hg:W.grownBy w' (some R)):Mg (.inl c) B R b v L ru' w (.panicked [{v:=.iface 81 (.pointer (some ⟨f,0,none⟩)),recovered:=false}]) w':=
 ⟨f,rfl,hid ⟨by have:=h.size;omega,hF⟩,hid (G.trans h.2.1 hg)⟩
end
@[reducible] def Zr:Obj:=.cells #[.string ⟨#[]⟩,.int .i64 0,.string ⟨#[]⟩,.int .u64 0,.int .u64 0,.int .u64 0,.int .u64 0,.slice none 0 0,.int .i64 0,.int .i64 0] 65
@[reducible] def Hc (w:World) (g:Nat) (N:ByteArray) (kd:Int) (T:ByteArray) (c0 c1 c2 c3:Int) (sv:Value) (p:Int) (q:Int):World:=(((((((((w.setCell ⟨g,0,none⟩ (.string N)).setCell ⟨g,1,none⟩ (.int .i64 kd)).setCell ⟨g,2,none⟩ (.string T)).setCell ⟨g,3,none⟩ (.int .u64 c0)).setCell ⟨g,4,none⟩ (.int .u64 c1)).setCell ⟨g,5,none⟩ (.int .u64 c2)).setCell ⟨g,6,none⟩ (.int .u64 c3)).setCell ⟨g,7,none⟩ sv).setCell ⟨g,8,none⟩ (.int .i64 p)).setCell ⟨g,9,none⟩ (.int .i64 q)
theorem z8t{w:World}{g:Nat}{a0 a1 a2 a3 a4 a5 a6 a7 a8 a9:Value}(h:w.heap[g]? =some (.cells #[a0,a1,a2,a3,a4,a5,a6,a7,a8,a9] 65))(N:ByteArray)(kd:Int)(T:ByteArray)(c0 c1 c2 c3:Int)(sv:Value)(p q:Int):
  (Hc w g N kd T c0 c1 c2 c3 sv p q).heap[g]? =some (.cells #[.string N,.int .i64 kd,.string T,.int .u64 c0,.int .u64 c1,.int .u64 c2,.int .u64 c3,sv,.int .i64 p,.int .i64 q] 65):=by
 simp only[World.setCell,Array.getElem?_modify,if_true,Option.map_map];rw[h];simp
theorem Dh{w:World}{g:Nat}{a0 a1 a2 a3 a4 a5 a6 a7 a8 a9:Value}(h:w.heap[g]? =some (.cells #[a0,a1,a2,a3,a4,a5,a6,a7,a8,a9] 65)):
  (w.cell? ⟨g,0,none⟩=some a0/\w.cell? ⟨g,1,none⟩=some a1/\w.cell? ⟨g,2,none⟩=some a2/\w.cell? ⟨g,3,none⟩=some a3/\w.cell? ⟨g,4,none⟩=some a4/\w.cell? ⟨g,5,none⟩=some a5/\w.cell? ⟨g,6,none⟩=some a6/\w.cell? ⟨g,7,none⟩=some a7/\w.cell? ⟨g,8,none⟩=some a8/\w.cell? ⟨g,9,none⟩=some a9)/\
  (w.frozen? ⟨g,0,none⟩=false/\w.frozen? ⟨g,1,none⟩=false/\w.frozen? ⟨g,2,none⟩=false/\w.frozen? ⟨g,3,none⟩=false/\w.frozen? ⟨g,4,none⟩=false/\w.frozen? ⟨g,5,none⟩=false/\w.frozen? ⟨g,6,none⟩=false/\w.frozen? ⟨g,7,none⟩=false/\w.frozen? ⟨g,8,none⟩=false/\w.frozen? ⟨g,9,none⟩=false):=by
 refine⟨⟨?_,?_,?_,?_,?_,?_,?_,?_,?_,?_⟩,⟨?_,?_,?_,?_,?_,?_,?_,?_,?_,?_⟩⟩<;>simp[World.cell?,World.frozen?,h]
theorem z8u{w:World}{g:Nat}{a0 a1 a2 a3 a4 a5 a6:Value}(h:w.heap[g]? =some (.cells #[a0,a1,a2,a3,a4,a5,a6] 145)):
  w.cell? ⟨g,0,none⟩=some a0/\w.cell? ⟨g,1,none⟩=some a1/\w.cell? ⟨g,6,none⟩=some a6:=by
 refine⟨?_,?_,?_⟩<;>simp[World.cell?,h]
theorem Ek.fin{w W:World}{B R b:Nat}{v sv:Value}{L:List Tok}{k ru kd C p q:Nat}{N T:ByteArray}{n:Nd}{o:Obj}(h:Ek Zr w R b v L k ru 0 W)(hn:Qm W (fun g=>w.heap.size+1<=g) n (n8 kd T C sv p))(hB:B<=w.heap.size):
  Mg (.inr ((N,n,q),k)) B R b v L ru w (.returned (.agg #[.string N,.int .i64 kd,.string T,.int .u64 (wd C 0),.int .u64 (wd C 1),.int .u64 (wd C 2),.int .u64 (wd C 3),sv,.int .i64 p,.int .i64 q]))
   ((Hc (W.setCell ⟨R,2,none⟩ (.int .i64 ((ru:Int)+1))) w.heap.size N (kd:Int) T (wd C 0:Nat) (wd C 1:Nat) (wd C 2:Nat) (wd C 3:Nat) sv (p:Int) (q:Int)).alloc o):=by
 have h2:=h.rules;have hRQ:w.heap.size≠R:=by have:=h.lt;omega
 have hv:=h.2.2.2.2 w.heap.size L0q;have hg:=Nat.le_refl w.heap.size;have hb:∀V:World,Below V.heap.size V (V.alloc o):=fun V=>(Below.refl _ V).alloc L0q _
 refine⟨.string N::(n8 kd T C sv p++[.int .i64 q]),rfl,hid ⟨n8 kd T C sv p,rfl,?_⟩,hid ((((((((((((h2.1.other hRQ hv).other hRQ hv).other hRQ hv).other hRQ hv).other hRQ hv).other hRQ hv).other hRQ hv).other hRQ hv).other hRQ hv).other hRQ hv)).below (hb _)),hid (G.alloc (G.setN (G.setN (G.setN (G.setN (G.setN (G.setN (G.setN (G.setN (G.setN (G.setN h2.2.1 hg) hg) hg) hg) hg) hg) hg) hg) hg) hg))⟩;refine Qm.below ?_ (hb _);refine Qm.kept (fun g cur hp hq=>⟨?_,show B<=g by have hp':w.heap.size+1<=g:=hp;omega⟩) n _ (Qm.grown hn (G.setR (u:=.int .i64 ((ru:Int)+1)) (j:=2) (G.refl W R)) h.1.1);have hne:∀j:Nat,g≠(⟨w.heap.size,j,none⟩:Addr).block:=fun j e=>by have e2:g=w.heap.size:=e;have hp':w.heap.size+1<=g:=hp;omega
 have s:∀(V:World) (j:Nat) (u:Value),(V.setCell ⟨w.heap.size,j,none⟩ u).heap[g]? =V.heap[g]? :=fun V j u=>Below.heap_setCell _ _ _ _ (hne j)
 unfold Hc;rw[s,s,s,s,s,s,s,s,s,s]
theorem z1R(R b:Nat)(v:Value)(L:List Tok)(ru k B:Nat)(w:World)(hg:Zx L)(h:Rd w R b v L k ru 0)(hk:k<L.length)(hru:ru<=64)(hB:B<=w.heap.size):
  Calls prog 105 #[.pointer (some ⟨R,0,none⟩)] w fun e w'=>Mg (ruS L ru k) B R b v L ru w e w':=by
 have fd0:=Tryz.fld0;have HT:=Fw R b v L k ru 0 hk hg;have HW:=Hd R b v L k ru 0 hk hg;have HF:=z1K R b v L k ru 0 hk hg;have HE:Hid (Ek Zr w R b v L k ru 0 (w.alloc Zr)):=Ek.start Zr h;have hkl:(k:Int)+2<9223372036854775807:=by have:=hg.len;omega
 have HG:Hid (Zx L):=hg;unfold ruS;by_cases h1:(gL L k).1=1
 ·rw[if_neg (by omega)]
  have hk1:=hg.nxt k hk (by omega);have HT1:=Fw R b v L (k+1) ru 0 hk1 hg;have HW1:=Hd R b v L (k+1) ru 0 hk1 hg;obtain⟨t,ht⟩:∃t,t=gL L k:=⟨_,rfl⟩;rw[<-ht]at HT HF h1 ⊢;clear ht HW;obtain⟨tk,N,tC,q⟩:=t;have h1':tk=1:=h1;subst h1';clear h1 h;by_cases h64:ru=64
  ·rw[if_pos h64]
   subst h64;go_enter func105,ntmps105
   go_wp2_with fail
   refine(HT.out _ HE.out.1).mono ?_;rintro e w1 ⟨rfl,hb1⟩;have HE1:=hid (HE.out.below hb1);clear hb1 HE HT;dsimp only[tkv];have HE2:=hid (HE1.out.alloc (.cells #[.int .i64 1,.string N,.int .u64 (wd tC 0),.int .u64 (wd tC 1),.int .u64 (wd tC 2),.int .u64 (wd tC 3),.int .i64 q] 145));obtain⟨r0,r1,r2,r3,q0,q1,q2,q3⟩:=HE1.out.1.cells;have r2':w1.cell? ⟨R,2,none⟩=some (.int .i64 64):=r2;clear r0 r1 r2 r3 q0 q1 q2 q3;have hR1:=HE1.out.1.lt;clear HE1
   go_wp2_with fail
   refine(HF.out 2 _ HE2.out.1).mono ?_;rintro e w3 ⟨f,rfl,HP⟩;have HA:=hid (HE2.out.up (B:=B) (ru':=64) HP.out.1 HP.out.2.1 (G.below HP.out.2.2));clear HP HE2 HF r2'
   go_wp2_with fail
   exact⟨rfl,HA.out⟩
  rw[if_neg h64];have t64:((ru:Int) == 64)=false:=by simp;omega
  by_cases h2:(gL L (k+1)).1=2
  ·rw[if_neg (by omega)]
   have hk2:=hg.nxt (k+1) hk1 (by omega);have HC:=hid (fun(W:World) (h:Rd W R b v L (k+2) ru 0) (hB:w.heap.size+1<=W.heap.size)=>z1P R b v L ru hg 24 0 (by omega) (k+2) (w.heap.size+1) W h hk2 trivial hB);obtain⟨t,ht⟩:∃t,t=gL L (k+1):=⟨_,rfl⟩;rw[<-ht]at HT1 h2;clear ht HW1;obtain⟨tk,uN,uC,uq⟩:=t;have h2':tk=2:=h2;subst h2';clear h2;cases hs:chS L (Xk L 24) (k+2)with
   |inl c=>
    rw[hs]at HC;show Calls _ _ _ _ (fun e w'=>Mg (.inl c) B R b v L ru w e w');go_enter func105,ntmps105
    go_wp2_with fail
    refine(HT.out _ HE.out.1).mono ?_;rintro e w1 ⟨rfl,hb1⟩;have HE1:=hid (HE.out.below hb1);clear hb1 HE HT HF;dsimp only[tkv];have HE2:=hid (HE1.out.next.alloc (.cells #[.int .i64 1,.string N,.int .u64 (wd tC 0),.int .u64 (wd tC 1),.int .u64 (wd tC 2),.int .u64 (wd tC 3),.int .i64 q] 145));have HK2:Hid (((w1.setCell ⟨R,1,none⟩ (.int .i64 ((k:Int)+1))).alloc (.cells #[.int .i64 1,.string N,.int .u64 (wd tC 0),.int .u64 (wd tC 1),.int .u64 (wd tC 2),.int .u64 (wd tC 3),.int .i64 q] 145)).heap[w1.heap.size]? =some (.cells #[.int .i64 1,.string N,.int .u64 (wd tC 0),.int .u64 (wd tC 1),.int .u64 (wd tC 2),.int .u64 (wd tC 3),.int .i64 q] 145)):=Qq _ _ (by simp);have HS1:Hid (w.heap.size<w1.heap.size):=HE1.out.size;obtain⟨r0,r1,r2,r3,q0,q1,q2,q3⟩:=HE1.out.1.cells;have hR1:=HE1.out.1.lt;clear HE1
    go_wp2_with fail
    refine(HT1.out _ HE2.out.1).mono ?_;rintro e w4 ⟨rfl,hb4⟩;have HE4:=hid (HE2.out.below hb4);have HK4:=hid ((hb4.block _ (by simp)).trans HK2.out);have HL4:Hid (w1.heap.size<w4.heap.size):=Nat.lt_of_lt_of_le (by simp) hb4.size;clear hb4 HE2 HK2 HT1 r0 r1 r2 r3 q0 q1 q2 q3 hR1;dsimp only[tkv];obtain⟨r0,r1,r2,r3,q0,q1,q2,q3⟩:=HE4.out.1.cells;have r1':w4.cell? ⟨R,1,none⟩=some (.int .i64 ((k:Int)+1)):=by rw[r1];simp
    clear r1;have hR4:=HE4.out.1.lt;have HE5:Hid (Ek Zr w R b v L (k+2) ru 0 (w4.setCell ⟨R,1,none⟩ (.int .i64 ((k:Int)+2)))):=by
     have:=HE4.out.next;rw[show(((k+1:Nat):Int))+1=(k:Int)+2 by omega]at this;exact this
    have HK5:=hid ((Below.heap_setCell w4 ⟨R,1,none⟩ (.int .i64 ((k:Int)+2)) w1.heap.size (show w1.heap.size≠R by have:=HS1.out;have:=HE4.out.lt;omega)).trans HK4.out);have HL5:=HL4;have hk2i:(k:Int)+1+1=(k:Int)+2:=by omega
    clear HE4 HK4 HL4
    go_wp2_with fail
    refine(HC.out _ HE5.out.1 (by have:=HE5.out.size;omega)).mono ?_;clear r0 r1' r2 r3 q0 q1 q2 q3 hR4;rintro e w6 ⟨f,rfl,HFl,HGr⟩;have HA:=hid (HE5.out.up (B:=B) (ru':=ru) HFl.out.1 HFl.out.2 HGr.out);clear HE5 HC HK5 HFl HGr
    go_wp2_with fail
    exact⟨rfl,HA.out⟩
   |inr x=>
    obtain⟨n,k'⟩:=x;rw[hs]at HC;show Calls _ _ _ _ (fun e w'=>Mg (.inr ((N,n,q),k')) B R b v L ru w e w');go_enter func105,ntmps105
    go_wp2_with fail
    refine(HT.out _ HE.out.1).mono ?_;rintro e w1 ⟨rfl,hb1⟩;have HE1:=hid (HE.out.below hb1);clear hb1 HE HT HF;dsimp only[tkv];have HE2:=hid (HE1.out.next.alloc (.cells #[.int .i64 1,.string N,.int .u64 (wd tC 0),.int .u64 (wd tC 1),.int .u64 (wd tC 2),.int .u64 (wd tC 3),.int .i64 q] 145));have HK2:Hid (((w1.setCell ⟨R,1,none⟩ (.int .i64 ((k:Int)+1))).alloc (.cells #[.int .i64 1,.string N,.int .u64 (wd tC 0),.int .u64 (wd tC 1),.int .u64 (wd tC 2),.int .u64 (wd tC 3),.int .i64 q] 145)).heap[w1.heap.size]? =some (.cells #[.int .i64 1,.string N,.int .u64 (wd tC 0),.int .u64 (wd tC 1),.int .u64 (wd tC 2),.int .u64 (wd tC 3),.int .i64 q] 145)):=Qq _ _ (by simp);have HS1:Hid (w.heap.size<w1.heap.size):=HE1.out.size;obtain⟨r0,r1,r2,r3,q0,q1,q2,q3⟩:=HE1.out.1.cells;have hR1:=HE1.out.1.lt;clear HE1
    go_wp2_with fail
    refine(HT1.out _ HE2.out.1).mono ?_;rintro e w4 ⟨rfl,hb4⟩;have HE4:=hid (HE2.out.below hb4);have HK4:=hid ((hb4.block _ (by simp)).trans HK2.out);have HL4:Hid (w1.heap.size<w4.heap.size):=Nat.lt_of_lt_of_le (by simp) hb4.size;clear hb4 HE2 HK2 HT1 r0 r1 r2 r3 q0 q1 q2 q3 hR1;dsimp only[tkv];obtain⟨r0,r1,r2,r3,q0,q1,q2,q3⟩:=HE4.out.1.cells;have r1':w4.cell? ⟨R,1,none⟩=some (.int .i64 ((k:Int)+1)):=by rw[r1];simp
    clear r1;have hR4:=HE4.out.1.lt;have HE5:Hid (Ek Zr w R b v L (k+2) ru 0 (w4.setCell ⟨R,1,none⟩ (.int .i64 ((k:Int)+2)))):=by
     have:=HE4.out.next;rw[show(((k+1:Nat):Int))+1=(k:Int)+2 by omega]at this;exact this
    have HK5:=hid ((Below.heap_setCell w4 ⟨R,1,none⟩ (.int .i64 ((k:Int)+2)) w1.heap.size (show w1.heap.size≠R by have:=HS1.out;have:=HE4.out.lt;omega)).trans HK4.out);have HL5:=HL4;have hk2i:(k:Int)+1+1=(k:Int)+2:=by omega
    clear HE4 HK4 HL4
    go_wp2_with fail
    refine(HC.out _ HE5.out.1 (by have:=HE5.out.size;omega)).mono ?_;clear r0 r1' r2 r3 q0 q1 q2 q3 hR4;rintro e w6 ⟨cs,rfl,HN,HR,HGr⟩;have HE6:=hid (HE5.out.grown HR.out HGr.out);have HK6:=hid ((HGr.out.block _ (by have:=HL5.out;simp;omega) (fun e=>by have e2:w1.heap.size=R:=Option.some.inj e;have:=HE5.out.lt;have:=HS1.out;omega)).trans HK5.out);have HL6:Hid (w1.heap.size<w6.heap.size):=Nat.lt_of_lt_of_le (by have:=HL5.out;simp;omega) HGr.out.size;clear HE5 HC HK5 HR HGr HL5;obtain⟨kd,T,C,so,sl,sc,hcs⟩:=HN.out.shape;obtain⟨p,hp⟩:∃p,p=n.at':=⟨_,rfl⟩;rw[<-hp]at hcs;subst hcs;clear hp;dsimp only[n8];obtain⟨z0,z1,z6⟩:=z8u HK6.out;obtain⟨⟨k0,k1,k2,k3,k4,k5,k6,k7,k8,k9⟩,⟨f0,f1,f2,f3,f4,f5,f6,f7,f8,f9⟩⟩:=Dh HE6.out.2.2.1;obtain⟨r0,r1,r2,r3,q0,q1,q2,q3⟩:=HE6.out.1.cells;have hR6:=HE6.out.1.lt;have hRl:=HE6.out.lt;have hS1:=HS1.out;have hL6:=HL6.out;have hRT:R≠w1.heap.size:=by omega
    have hRQ:R≠w.heap.size:=by omega
    have hQT:w.heap.size≠w1.heap.size:=by omega
    have hQl:w.heap.size<w6.heap.size:=by omega
    have hru2:(ru:Int)+1<9223372036854775807:=by omega
    clear HK6 HS1 HL6
    go_wp2_with fail
    (try simp only[Exit.inBlock,Exit.then])
    have hS:=z8t (w:=w6.setCell ⟨R,2,none⟩ (.int .i64 ((ru:Int)+1))) (g:=w.heap.size) HE6.out.rules.2.2.1 N (kd:Int) T (wd C 0:Nat) (wd C 1:Nat) (wd C 2:Nat) (wd C 3:Nat) (.slice so sl sc) (p:Int) (q:Int);have hS2:=fun o:Obj=>(Below.heap_alloc (Hc (w6.setCell ⟨R,2,none⟩ (.int .i64 ((ru:Int)+1))) w.heap.size N (kd:Int) T (wd C 0:Nat) (wd C 1:Nat) (wd C 2:Nat) (wd C 3:Nat) (.slice so sl sc) (p:Int) (q:Int)) o w.heap.size (by simp;omega)).trans hS
    obtain⟨⟨c0,c1,c2,c3,c4,c5,c6,c7,c8,c9⟩,_⟩:=Dh (hS2 (.cells #[.int .i64 kd,.string T,.int .u64 (wd C 0),.int .u64 (wd C 1),.int .u64 (wd C 2),.int .u64 (wd C 3),.slice so sl sc,.int .i64 p] 58));refine bodyPost_ret (v:=.agg #[.string N,.int .i64 kd,.string T,.int .u64 (wd C 0),.int .u64 (wd C 1),.int .u64 (wd C 2),.int .u64 (wd C 3),.slice so sl sc,.int .i64 p,.int .i64 q]) (by simp[results,Tryz.results105,go_sem,c0,c1,c2,c3,c4,c5,c6,c7,c8,c9]) rfl ?_;exact HE6.out.fin HN.out hB
  ·rw[if_pos h2]
   obtain⟨t,ht⟩:∃t,t=gL L (k+1):=⟨_,rfl⟩;rw[<-ht]at HT1 HW1 h2 ⊢;clear ht;obtain⟨tk,uN,uC,uq⟩:=t;have t2:((tk:Int) != 2)=true:=by have h2':tk≠2:=h2;rw[bne_iff_ne];omega
   clear h2;go_enter func105,ntmps105
   go_wp2_with fail
   refine(HT.out _ HE.out.1).mono ?_;rintro e w1 ⟨rfl,hb1⟩;have HE1:=hid (HE.out.below hb1);clear hb1 HE HT HF;dsimp only[tkv];have HE2:=hid (HE1.out.next.alloc (.cells #[.int .i64 1,.string N,.int .u64 (wd tC 0),.int .u64 (wd tC 1),.int .u64 (wd tC 2),.int .u64 (wd tC 3),.int .i64 q] 145));have HK2:Hid (((w1.setCell ⟨R,1,none⟩ (.int .i64 ((k:Int)+1))).alloc (.cells #[.int .i64 1,.string N,.int .u64 (wd tC 0),.int .u64 (wd tC 1),.int .u64 (wd tC 2),.int .u64 (wd tC 3),.int .i64 q] 145)).heap[w1.heap.size]? =some (.cells #[.int .i64 1,.string N,.int .u64 (wd tC 0),.int .u64 (wd tC 1),.int .u64 (wd tC 2),.int .u64 (wd tC 3),.int .i64 q] 145)):=Qq _ _ (by simp);have HS1:Hid (w.heap.size<w1.heap.size):=HE1.out.size;obtain⟨r0,r1,r2,r3,q0,q1,q2,q3⟩:=HE1.out.1.cells;have hR1:=HE1.out.1.lt;clear HE1
   go_wp2_with fail
   refine(HT1.out _ HE2.out.1).mono ?_;rintro e w4 ⟨rfl,hb4⟩;have HE4:=hid (HE2.out.below hb4);have HK4:=hid ((hb4.block _ (by simp)).trans HK2.out);have HL4:Hid (w1.heap.size<w4.heap.size):=Nat.lt_of_lt_of_le (by simp) hb4.size;clear hb4 HE2 HK2 HT1 r0 r1 r2 r3 q0 q1 q2 q3 hR1;dsimp only[tkv]
   go_wp2_with fail
   refine(HW1.out _ HE4.out.1).mono ?_;rintro e w5 ⟨f,rfl,HP⟩;have HA:=hid (HE4.out.up (B:=B) (ru':=ru) HP.out.1 HP.out.2.1 (G.below HP.out.2.2));clear HP HE4 HW1
   go_wp2_with fail
   exact⟨rfl,HA.out⟩
 ·rw[if_pos h1]
  obtain⟨t,ht⟩:∃t,t=gL L k:=⟨_,rfl⟩;rw[<-ht]at HT HW h1 ⊢;clear ht HF;obtain⟨tk,N,tC,q⟩:=t;have t1:((tk:Int) != 1)=true:=by have h2':tk≠1:=h1;rw[bne_iff_ne];omega
  clear h1 h;go_enter func105,ntmps105
  go_wp2_with fail
  refine(HT.out _ HE.out.1).mono ?_;rintro e w1 ⟨rfl,hb1⟩;have HE1:=hid (HE.out.below hb1);clear hb1 HE HT;dsimp only[tkv];have HE2:=hid (HE1.out.alloc (.cells #[.int .i64 tk,.string N,.int .u64 (wd tC 0),.int .u64 (wd tC 1),.int .u64 (wd tC 2),.int .u64 (wd tC 3),.int .i64 q] 145));clear HE1
  go_wp2_with fail
  refine(HW.out _ HE2.out.1).mono ?_;rintro e w3 ⟨f,rfl,HP⟩;have HA:=hid (HE2.out.up (B:=B) (ru':=ru) HP.out.1 HP.out.2.1 (G.below HP.out.2.2));clear HP HE2 HW
  go_wp2_with fail
  exact⟨rfl,HA.out⟩
end
end Go.Proofs.YtgmcjddjdidpjaaGreatDoor
