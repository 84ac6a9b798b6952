/- Lemmas for the last text. Conditions: those that each names. -/
import Derived.Test.YtlogolpcipiceaaGreatDoorVY9ToY10
set_option linter.unusedVariables false
set_option maxRecDepth 100000
set_option maxHeartbeats 16000000
namespace Go.Proofs.YtlogolpcipiceaaGreatDoor
open Go.Proofs.Tryz
open Go.RowKit
variable {W w:World} {R b k ru:Nat} {v:Value} {L:List Tok}
theorem Ro.one{B:Nat}{n:Nd}{a0 a1 a2 a3 a4 a5 a6 a7:Value}(h:Qy W (fun g=>B<=g) n [a0,a1,a2,a3,a4,a5,a6,a7])(hB:B<=W.heap.size):Ro B (.slice (some ⟨W.heap.size,0,none⟩) 1 1) [n] (W.alloc (.cells #[a0,a1,a2,a3,a4,a5,a6,a7] 71)):=by
 refine⟨[a0,a1,a2,a3,a4,a5,a6,a7],⟨rfl,.inr ⟨W.heap.size,1,_,rfl,hB,Qx _ _ rfl,Nat.le_refl _,by unfold maxLen;omega,rfl,rfl⟩⟩,?_⟩;rw[Qm];refine⟨[a0,a1,a2,a3,a4,a5,a6,a7],[],by simp,Qy.kept (fun g cur hp hq=>⟨Below.heap_alloc W _ g (Qz hq),hp,?_⟩) n _ h,by rw[Qm];trivial⟩;intro e;have e2:W.heap.size=g:=Option.some.inj e;have:=Qz hq;omega
theorem z6K(R b:Nat)(v:Value)(L:List Tok)(ru ne:Nat)(inn:Nat->Pr)(hg:Qc L)(ha:Adv L inn)(ho:MC 196 (fun k=>Zx L inn L.length k []) (fun _=>True) R b v L ru ne):
  MC 166 (chS L inn) (fun _=>True) R b v L ru ne:=by
 intro k B w h hk _ hB;obtain⟨iT,hiT,hzT0,hzT1,hzT2⟩:=info_parts Tryz.infoNd;have HE0:Hid (En w R b v L k ru ne (w.alloc Zo)):=En.start h;have HM:Hid (MC 196 (fun k=>Zx L inn L.length k []) (fun _=>True) R b v L ru ne):=ho;have HG:Hid (Qc L):=hg;have HA:Hid (Adv L inn):=ha;have hll:=hg.len;have HO:=hid (ho k (w.heap.size+1) (w.alloc Zo) (h.alloc _) hk trivial (by simp));unfold chS;cases hs:Zx L inn L.length k []with
 |inl c=>
  simp only[hs]at HO;clear ho h hg ha HM hs;show Calls _ _ _ _ (fun e w'=>Qf (.inl c) B R b v L ru ne w e w');go_enter func166,ntmps166
  go_wp2_with fail
  refine HO.out.mono ?_;rintro e w1 hA;have HAP:Hid (Qf (.inl c) B R b v L ru ne w e w1):=Qf.up HE0.out hA;obtain⟨f,rfl,_,_⟩:=hA;clear HO HE0
  go_wp2_with fail
  exact⟨rfl,HAP.out⟩
 |inr q=>
  obtain⟨n,k1⟩:=q;have hk1:=Ng hg ha _ _ _ _ _ hk hs;simp only[hs]at HO;obtain⟨RES,hR⟩:∃RES,RES=Zd L inn L.length k1 [n]:=⟨_,rfl⟩;have HM0:Hid (Zd L inn L.length k1 [n]=RES):=hR.symm;show Calls _ _ _ _ (fun e w'=>Qf (Zd L inn L.length k1 [n]) B R b v L ru ne w e w');rw[<-hR];clear hR h ho hg ha hs;go_enter func166,ntmps166
  go_wp2_with fail
  refine HO.out.mono ?_;rintro e w1 ⟨cs,rfl,HN,HR,HGr⟩;have HE1:=hid (HE0.out.grown HR.out HGr.out);clear HO HR HGr HE0;obtain⟨kd,T,C,so,sl,sc,hcs⟩:=HN.out.shape;obtain⟨p,hp⟩:∃p,p=n.at':=⟨_,rfl⟩;rw[<-hp]at hcs;subst hcs;clear hp;dsimp only[n8];have HRo1:=hid (Ro.one HN.out HE1.out.size);have HE2:=hid (HE1.out.alloc (.cells #[.int .i64 kd,.string T,.int .u64 (wd C 0),.int .u64 (wd C 1),.int .u64 (wd C 2),.int .u64 (wd C 3),.slice so sl sc,.int .i64 p] 71));clear HN HE1
  go_wp2_with fail
  go_loopw [3] (fun a wr=>∃(f j:Nat) (m:Nd) (r:List Nd),j<L.length/\L.length<=f+j/\r.length<=j/\Hid (Zd L inn f j (m::r)=RES)/\Hid (Ro (w.heap.size+1) a (m::r) wr)/\Hid (En w R b v L j ru ne wr)) (fun _ wr=>L.length-Ud R wr)
  case atStart=>exact⟨L.length,k1,n,[],hk1.2,by omega,by simp,HM0,HRo1,HE2⟩
  case round=>
   obtain⟨f,j,m,r,hj,hfj,haj,HMj,HRo,HE⟩:=hrel;clear HM0 HE2 HRo1;have HS:=Gf R b v L j ru ne hj HG.out;have hjl:(j:Int)+1<9223372036854775807:=by omega
   cases f with
   |zero=>omega
   |succ f=>
   by_cases hz:sgT (gL L j)={data:=#[47]}
   ·have hj1:=HG.out.sg hj hz
    rw[hz]at HS;have HC:=hid (fun(W:World) (h:Rd W R b v L (j+1) ru ne)=>HM.out (j+1) W.heap.size W h hj1 trivial L0q);cases hs:Zx L inn L.length (j+1) []with
    |inl c=>
     have HF:Hid (RES=.inl c):=by show _=_;rw[<-HMj.out,Zd,if_pos hz,hs]
     simp only[hs]at HC;clear hs hz HMj
     go_wp2_with fail
     refine(HS.out _ HE.out.1).mono ?_;rintro e w2 ⟨rfl,hb2⟩;have HE3:=hid (HE.out.below hb2);clear hb2 HE HS HRo;obtain⟨r0,r1,r2,r3,q0,q1,q2,q3⟩:=HE3.out.1.cells;have hR3:=HE3.out.1.lt;have HE4:=hid HE3.out.next;clear HE3
     go_wp2_with fail
     refine(HC.out _ HE4.out.1).mono ?_;rintro e w5 hA;have HAP:Hid (Qf RES B R b v L ru ne w e w5):=by show Qf _ _ _ _ _ _ _ _ _ _ _;rw[HF.out];exact Qf.up HE4.out hA
     obtain⟨f',rfl,_,_⟩:=hA;clear HE4 HC HF r0 r1 r2 r3 q0 q1 q2 q3 hR3
     go_wp2_with fail
     exact⟨rfl,HAP.out⟩
    |inr q=>
     obtain⟨n2,k'⟩:=q;have hk':=Ng HG.out HA.out _ _ _ _ _ hj1 hs;have HM2:Hid (Zd L inn f k' ((m::r)++[n2])=RES):=by show _=_;rw[<-HMj.out,Zd,if_pos hz,hs]
     simp only[hs]at HC;clear hs hz HMj;have HJ:Hid (Ud R wr=j):=Dd HE.out.1
     go_wp2_with fail
     refine(HS.out _ HE.out.1).mono ?_;rintro e w2 ⟨rfl,hb2⟩;have HE3:=hid (HE.out.below hb2);have HRo3:=hid (HRo.out.below hb2);clear hb2 HE HS HRo;obtain⟨r0,r1,r2,r3,q0,q1,q2,q3⟩:=HE3.out.1.cells;have hR3:=HE3.out.1.lt;have HE4:=hid HE3.out.next;have HRo4:=hid (HRo3.out.grown (G.setR (u:=.int .i64 ((j:Int)+1)) (j:=1) (G.refl w2 R)) (by have:=HE3.out.lt;omega));clear HE3 HRo3
     go_wp2_with fail
     refine(HC.out _ HE4.out.1).mono ?_;rintro e w5 ⟨cs,rfl,HN,HR,HGr⟩;have HE5:=hid (HE4.out.grown HR.out HGr.out);have HRo5:=hid (HRo4.out.grown HGr.out (by have:=HE4.out.lt;omega));have HPV:=hid (HRo4.out.blk);have HW1:Hid (w.heap.size+1<=(w2.setCell ⟨R,1,none⟩ (.int .i64 ((j:Int)+1))).heap.size):=HE4.out.size;clear HE4 HRo4 HR HGr HC r0 r1 r2 r3 q0 q1 q2 q3 hR3;obtain⟨kd,T,C,so,sl,sc,hcs⟩:=HN.out.shape;obtain⟨p,hp⟩:∃p,p=n2.at':=⟨_,rfl⟩;rw[<-hp]at hcs;subst hcs;clear hp;obtain⟨xs,hx1,hx2⟩:=HRo5.out;have HX1:=hid hx1;have HX2:=hid hx2;clear hx1 hx2 HRo5;rw[List.length_cons]at HX1;dsimp only[n8]
     go_wp2_with(first|(at_builtin;refine wpList_append_own_at _ rfl (.tmp 17) (.tmp 20) 69 rfl (w.heap.size+1) 71 iT (.agg #[.int .i64 0,.string ⟨#[]⟩,.int .u64 0,.int .u64 0,.int .u64 0,.int .u64 0,.slice none 0 0,.int .i64 0]) 8 88 Tryz.underlying69 hiT hzT0 hzT1 hzT2 rfl (by decide) _ _ _ rfl (HX1.out.alloc _) ⟨w5.heap.size,0,none⟩ 1 1 (n8 kd T C (.slice so sl sc) p) rfl rfl (z0z w5 _ _ _ _ _ _ _ _ 71) (z0A _ _ _ _ _ _ _ _ _ _) (by unfold maxLen;omega) (by omega) (by have:=HE5.out.size;simp;omega) ?_;intro v6 w6 hown6 hgr6 hnil6 hat6))
     have HRo6:Hid (Ro (w.heap.size+1) v6 ((m::r)++[n2]) w6):=Ro.app HX1.out HX2.out HN.out HW1.out HPV.out ((Below.refl _ w5).alloc L0q _) hown6 hgr6 hat6;have HE6:Hid (En w R b v L k' ru ne w6):=(HE5.out.alloc _).rowed hgr6 (fun g e=>by have:=(HX1.out.lt g e).1;omega);have HJ6:Hid (Ud R w6=k'):=Dd HE6.out.1;clear hown6 hgr6 hnil6 hat6 HX1 HX2 HN HE5 HPV HW1
     go_wp2_with fail
     go_roundw
     case rel=>exact⟨f,k',m,r++[n2],hk'.2,by omega,by simp;omega,HM2,HRo6,HE6⟩
     case measure=>rw[HJ.out,HJ6.out];omega
   ·have HF:Hid (RES=.inr (Yy 7 (m::r),j)):=by show _=_;rw[<-HMj.out,Zd,if_neg hz]
    obtain⟨Z,hZ⟩:∃Z,Z=sgT (gL L j):=⟨_,rfl⟩;rw[<-hZ]at HS hz;have z1:(Z.toList == [47])=false:=Jw hz;clear hZ hz HMj HM;obtain⟨xs0,hx0,_⟩:=HRo.out;rw[List.length_cons]at hx0;obtain⟨g,cap,hsl⟩:=Jk hx0 (by omega);clear hx0;subst hsl;obtain⟨q,hq⟩:∃q,q=r.length:=⟨_,rfl⟩;have HMm:Hid (q=r.length):=hq;rw[<-hq]at haj ⊢;clear hq
    go_wp2_with fail
    refine(HS.out _ HE.out.1).mono ?_;rintro e w2 ⟨rfl,hb2⟩;have HE1:=hid (HE.out.below hb2);have HRo1:=hid (HRo.out.below hb2);clear hb2 HE HS HRo;obtain⟨g',cap',hq,HJ⟩:=HRo1.out.joined HE1.out.size (by rw[<-HMm.out];omega) 7;rw[<-HMm.out]at HJ hq;cases hq;clear HRo1
    go_wp2_with fail
    refine HJ.out.mono ?_;rintro e w3 ⟨cs,rfl,HN3,HB2⟩;have HE3:=hid (HE1.out.below HB2.out);clear HB2 HE1 HJ;obtain⟨kd,T,C,so,sl,sc,hcs⟩:=HN3.out.shape;obtain⟨p,hp⟩:∃p,p=(Yy 7 (m::r)).at':=⟨_,rfl⟩;rw[<-hp]at hcs;subst hcs;clear hp;dsimp only[n8];obtain⟨⟨k0,k1,k2,k3,k4,k5,k6,k7⟩,⟨f0,f1,f2,f3,f4,f5,f6,f7⟩⟩:=HE3.out.cells
    go_wp2_with fail
    (try simp only[Exit.inBlock,Exit.then])
    obtain⟨⟨c0,c1,c2,c3,c4,c5,c6,c7⟩,_⟩:=Qw (Vg HE3.out.2.2.1 (kd:Int) T (wd C 0:Nat) (wd C 1:Nat) (wd C 2:Nat) (wd C 3:Nat) (.slice so sl sc) (p:Int));refine bodyPost_ret (v:=.agg (n8 kd T C (.slice so sl sc) p).toArray) (by simp[results,Tryz.results166,go_sem,c0,c1,c2,c3,c4,c5,c6,c7]) rfl ?_;rw[HF.out];exact HE3.out.fin HN3.out hB
theorem Rd.setNest{ne:Nat}(h:Rd w R b v L k ru ne):Rd (w.setCell ⟨R,3,none⟩ (.int .i64 ((ne:Int)+1))) R b v L k ru (ne+1):=by
 have h2:=h.nest (ne+1);rw[show(((ne+1:Nat):Int))=(ne:Int)+1 by omega]at h2;exact h2
theorem En.nestD{ne:Nat}(h:En w R b v L k ru (ne+1) W):En w R b v L k ru ne (W.setCell ⟨R,3,none⟩ (.int .i64 ne)):=
 ⟨h.1.nest ne,G.setR h.2.1,(Below.heap_setCell _ _ _ _ (show w.heap.size≠R by have:=h.lt;omega)).trans h.2.2.1,h.2.2.2.1,h.2.2.2.2⟩
theorem En.start'{k0 ne ne0:Nat}(h0:Rd w R b v L k0 ru ne0)(h:Rd W R b v L k ru ne)(hg:w.grownBy W (some R))(hs:W.heap.size=w.heap.size):En w R b v L k ru ne (W.alloc Zo):=
 ⟨h.alloc _,G.alloc hg,by rw[<-hs];exact Qx W _ rfl,h0.lt,fun g hg e=>by have:=(h0.2.lt _ e).2;omega⟩
theorem z6L(R b:Nat)(v:Value)(L:List Tok)(ru:Nat)(hg:Qc L):
  MC 292 (Zy L 0) (fun k=>sgT (gL L k)={data:=#[40]}) R b v L ru 24:=by
 intro k B w h hk _ hB;rw[Zy];have HF:=z0x R b v L k ru 24 hk hg;have HE:Hid (En w R b v L k ru 24 (w.alloc Zo)):=En.start h;obtain⟨r0,r1,r2,r3,q0,q1,q2,q3⟩:=HE.out.1.cells;have r3':(w.alloc Zo).cell? ⟨R,3,none⟩=some (.int .i64 24):=r3;clear h r0 r1 r2 r3 q0 q1 q2 q3;go_enter func292,ntmps292
 go_wp2_with fail
 refine(HF.out 2 _ HE.out.1).mono ?_;rintro e w1 ⟨f,rfl,HP⟩;have HA:Hid (Qf (.inl (2,(gL L k).2.2.2)) B R b v L ru 24 w (.panicked [{v:=.iface 95 (.pointer (some ⟨f,0,none⟩)),recovered:=false}]) w1):=Qf.up (B':=0) (ne':=24) HE.out ⟨f,rfl,hid ⟨HP.out.1,HP.out.2.1⟩,hid (G.below HP.out.2.2)⟩;clear HP HE HF r3'
 go_wp2_with fail
 exact⟨rfl,HA.out⟩
theorem z6M(R b:Nat)(v:Value)(L:List Tok)(ru ne d:Nat)(hg:Qc L)(hne:ne<24)(ho:MC 166 (chS L (Zy L d)) (fun _=>True) R b v L ru (ne+1)):
  MC 292 (Zy L (d+1)) (fun k=>sgT (gL L k)={data:=#[40]}) R b v L ru ne:=by
 intro k B w h hk hs0 hB;rw[Zy];have hk1:=hg.sg hk hs0;have hkl:(k:Int)+1<9223372036854775807:=by have:=hg.len;omega
 have t24:((ne:Int) == 24)=false:=by simp;omega
 have HE2:Hid (En w R b v L (k+1) ru (ne+1) (((w.setCell ⟨R,1,none⟩ (.int .i64 ((k:Int)+1))).setCell ⟨R,3,none⟩ (.int .i64 ((ne:Int)+1))).alloc Zo)):=En.start' h h.next1.setNest (G.setR (G.setR (G.refl w R))) (by simp);have HO:=Bf ho (k+1) (w.heap.size+1) hk1;have HG:Hid (Qc L):=hg;have HA0:=hid (Nb hg d);obtain⟨r0,r1,r2,r3,q0,q1,q2,q3⟩:=h.cells;have hRl:=h.lt;clear h ho hs0 hg;cases hs:chS L (Zy L d) (k+1)with
 |inl c=>
  rw[hs]at HO;clear hs;show Calls _ _ _ _ (fun e w'=>Qf (.inl c) B R b v L ru ne w e w');go_enter func292,ntmps292
  go_wp2_with fail
  refine(HO.out _ HE2.out.1 (by have:=HE2.out.size;omega)).mono ?_;rintro e w3 hA;have HA:Hid (Qf (.inl c) B R b v L ru ne w e w3):=Qf.up HE2.out hA;obtain⟨f,rfl,_,_⟩:=hA;clear HE2 HO r0 r1 r2 r3 q0 q1 q2 q3
  go_wp2_with fail
  exact⟨rfl,HA.out⟩
 |inr q=>
  obtain⟨n,k'⟩:=q;rw[hs]at HO;have hk':=Ic HG.out HA0.out hk1 hs;have HS:=Gf R b v L k' ru (ne+1) hk'.2 HG.out;have HW:=By R b v L k' ru (ne+1) hk'.2 HG.out;have hkl2:(k':Int)+1<9223372036854775807:=by have:=HG.out.len;omega
  unfold Nf;simp only;clear hs HA0;by_cases hz:sgT (gL L k')={data:=#[41]}
  ·rw[if_pos hz]
   rw[hz]at HS;clear hz HW;go_enter func292,ntmps292
   go_wp2_with fail
   refine(HO.out _ HE2.out.1 (by have:=HE2.out.size;omega)).mono ?_;rintro e w3 ⟨cs,rfl,HN,HR,HGr⟩;have HE3:=hid (HE2.out.grown HR.out HGr.out);clear HE2 HO HR HGr r0 r1 r2 r3 q0 q1 q2 q3 hRl;obtain⟨kd,T,C,so,sl,sc,hcs⟩:=HN.out.shape;obtain⟨p,hp⟩:∃p,p=n.at':=⟨_,rfl⟩;rw[<-hp]at hcs;subst hcs;clear hp;dsimp only[n8];have HE4:=hid (HE3.out.alloc (.cells #[.int .i64 kd,.string T,.int .u64 (wd C 0),.int .u64 (wd C 1),.int .u64 (wd C 2),.int .u64 (wd C 3),.slice so sl sc,.int .i64 p] 71));have HN4:=hid (HN.out.below (((Below.refl _ w3).alloc L0q (.cells #[.int .i64 kd,.string T,.int .u64 (wd C 0),.int .u64 (wd C 1),.int .u64 (wd C 2),.int .u64 (wd C 3),.slice so sl sc,.int .i64 p] 71))));have HK4:Hid ((w3.alloc (.cells #[.int .i64 kd,.string T,.int .u64 (wd C 0),.int .u64 (wd C 1),.int .u64 (wd C 2),.int .u64 (wd C 3),.slice so sl sc,.int .i64 p] 71)).heap[w3.heap.size]? =some (.cells #[.int .i64 kd,.string T,.int .u64 (wd C 0),.int .u64 (wd C 1),.int .u64 (wd C 2),.int .u64 (wd C 3),.slice so sl sc,.int .i64 p] 71)):=Qx _ _ rfl;have HS4:Hid (w.heap.size<w3.heap.size):=HE3.out.size;clear HE3 HN
   go_wp2_with fail
   refine(HS.out _ HE4.out.1).mono ?_;rintro e w5 ⟨rfl,hb5⟩;have HE5:=hid (HE4.out.below hb5);have HN5:=hid (HN4.out.below hb5);have HK5:=hid ((hb5.block _ (by simp)).trans HK4.out);have HL5:Hid (w3.heap.size<w5.heap.size):=Nat.lt_of_lt_of_le (by simp) hb5.size;clear hb5 HS HE4 HN4 HK4;obtain⟨⟨m0,m1,m2,m3,m4,m5,m6,m7⟩,⟨y0,y1,y2,y3,y4,y5,y6,y7⟩⟩:=Qw HK5.out;obtain⟨⟨k0,k1,k2,k3,k4,k5,k6,k7⟩,⟨f0,f1,f2,f3,f4,f5,f6,f7⟩⟩:=HE5.out.cells;obtain⟨r0,r1,r2,r3,q0,q1,q2,q3⟩:=HE5.out.1.cells;have r3':w5.cell? ⟨R,3,none⟩=some (.int .i64 ((ne:Int)+1)):=by rw[r3];simp
   clear r3;have hRl:=HE5.out.lt;have hS4:=HS4.out;have hL5:=HL5.out;have hRN:R≠w3.heap.size:=by omega
   have hRQ:R≠w.heap.size:=by omega
   have hQN:w.heap.size≠w3.heap.size:=by omega
   have HE7:=hid HE5.out.next.nestD;have HN7:=hid (Qy.grown HN5.out (G.setR (u:=.int .i64 ne) (j:=3) (G.setR (u:=.int .i64 ((k':Int)+1)) (j:=1) (G.refl w5 R))) HE5.out.1.1);clear HE5 HN5 HK5 HS4 HL5
   go_wp2_with fail
   (try simp only[Exit.inBlock,Exit.then])
   obtain⟨⟨c0,c1,c2,c3,c4,c5,c6,c7⟩,_⟩:=Qw (Vg HE7.out.2.2.1 (kd:Int) T (wd C 0:Nat) (wd C 1:Nat) (wd C 2:Nat) (wd C 3:Nat) (.slice so sl sc) (p:Int));refine bodyPost_ret (v:=.agg (n8 kd T C (.slice so sl sc) p).toArray) (by simp[results,Tryz.results292,go_sem,c0,c1,c2,c3,c4,c5,c6,c7]) rfl ?_;exact HE7.out.fin HN7.out hB
  ·rw[if_neg hz]
   obtain⟨Z,hZ⟩:∃Z,Z=sgT (gL L k'):=⟨_,rfl⟩;rw[<-hZ]at HS hz;have z1:(Z.toList == [41])=false:=Jw hz;clear hz hZ;go_enter func292,ntmps292
   go_wp2_with fail
   refine(HO.out _ HE2.out.1 (by have:=HE2.out.size;omega)).mono ?_;rintro e w3 ⟨cs,rfl,HN,HR,HGr⟩;have HE3:=hid (HE2.out.grown HR.out HGr.out);clear HE2 HO HR HGr r0 r1 r2 r3 q0 q1 q2 q3 hRl;obtain⟨kd,T,C,so,sl,sc,hcs⟩:=HN.out.shape;obtain⟨p,hp⟩:∃p,p=n.at':=⟨_,rfl⟩;rw[<-hp]at hcs;subst hcs;clear hp;dsimp only[n8];have HE4:=hid (HE3.out.alloc (.cells #[.int .i64 kd,.string T,.int .u64 (wd C 0),.int .u64 (wd C 1),.int .u64 (wd C 2),.int .u64 (wd C 3),.slice so sl sc,.int .i64 p] 71));clear HE3 HN
   go_wp2_with fail
   refine(HS.out _ HE4.out.1).mono ?_;rintro e w5 ⟨rfl,hb5⟩;have HE5:=hid (HE4.out.below hb5);clear hb5 HS HE4
   go_wp2_with fail
   refine(HW.out _ HE5.out.1).mono ?_;rintro e w6 ⟨f,rfl,HP⟩;have HA:Hid (Qf (.inl (wrC (gL L k'),(gL L k').2.2.2)) B R b v L ru ne w (.panicked [{v:=.iface 95 (.pointer (some ⟨f,0,none⟩)),recovered:=false}]) w6):=Qf.up (B':=0) (ne':=ne) HE5.out ⟨f,rfl,hid ⟨HP.out.1,HP.out.2.1⟩,hid (G.below HP.out.2.2)⟩;clear HP HE5 HW
   go_wp2_with fail
   exact⟨rfl,HA.out⟩
theorem z0B(R b:Nat)(v:Value)(L:List Tok)(ru ne:Nat)(inn:Nat->Pr)(hg:Qc L)(ha:Adv L inn)(hi:MC 292 inn (fun k=>sgT (gL L k)={data:=#[40]}) R b v L ru ne):
  MC 166 (chS L inn) (fun _=>True) R b v L ru ne:=
 z6K R b v L ru ne inn hg ha (z6J R b v L ru ne inn hg ha (z6I R b v L ru ne inn hg ha (z6H R b v L ru ne inn hg ha (z6G R b v L ru ne inn hg hi))))
theorem z0C(R b:Nat)(v:Value)(L:List Tok)(ru:Nat)(hg:Qc L):∀(d ne:Nat),ne+d=24->MC 166 (chS L (Zy L d)) (fun _=>True) R b v L ru ne
 |0,ne,h=>by
  have h':ne=24:=by omega
  subst h';exact z0B R b v L ru 24 _ hg (Nb hg 0) (z6L R b v L ru hg)
 |d+1,ne,h=>z0B R b v L ru ne _ hg (Nb hg (d+1)) (z6M R b v L ru ne d hg (by omega) (z0C R b v L ru hg d (ne+1) (by omega)))
end Go.Proofs.YtlogolpcipiceaaGreatDoor
