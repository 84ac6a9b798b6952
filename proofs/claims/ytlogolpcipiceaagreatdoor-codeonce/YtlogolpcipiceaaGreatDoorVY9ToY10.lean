/- Lemmas for the last text. Conditions: those that each names. -/
import Derived.Test.YtlogolpcipiceaaGreatDoorVY8
import Derived.Maps.AppendAt
set_option linter.unusedVariables false
set_option maxRecDepth 100000
set_option maxHeartbeats 16000000
namespace Go.Proofs.YtlogolpcipiceaaGreatDoor
open Go.Proofs.Tryz
open Go.RowKit
variable {B R b ru:Nat} {v:Value} {L:List Tok} {W W' w:World} {acc:List Nd}
theorem z6H(R b:Nat)(v:Value)(L:List Tok)(ru ne:Nat)(inn:Nat->Pr)(hg:Qc L)(ha:Adv L inn)(ho:MC 282 (Vb L inn) (fun _=>True) R b v L ru ne):
  MC 266 (Jy L inn) (fun _=>True) R b v L ru ne:=by
 intro k B w h hk _ hB;have hO:=ho k (w.heap.size+1) (w.alloc Zo) (h.alloc _) hk trivial (by simp);have HE:Hid (En w R b v L k ru ne (w.alloc Zo)):=En.start h;unfold Jy;cases hs:Vb L inn k with
 |inl c=>
  rw[hs]at hO;have HO:=hid hO;clear hO hs ho h;show Calls _ _ _ _ (fun e w'=>Qf (.inl c) B R b v L ru ne w e w');go_enter func266,ntmps266
  go_wp2_with fail
  refine HO.out.mono ?_;rintro e w1 hA;have HA:Hid (Qf (.inl c) B R b v L ru ne w e w1):=Qf.up HE.out hA;obtain⟨f,rfl,_,_⟩:=hA
  go_wp2_with fail
  exact⟨rfl,HA.out⟩
 |inr q=>
  obtain⟨n,k'⟩:=q;have hk':=(z0t hg ha hk hs).2;rw[hs]at hO;have HO:=hid hO;have HS:=Gf R b v L k' ru ne hk' hg;unfold Uh;simp only;obtain⟨Z,hZ⟩:∃Z,Z=sgT (gL L k'):=⟨_,rfl⟩;rw[<-hZ]at HS ⊢;have HP:=hid (fun w=>z6m Z w);obtain⟨r,hr⟩:∃r,r=rpK Z:=⟨_,rfl⟩;rw[<-hr]at HP ⊢;have hkl:(k':Int)+1<9223372036854775807:=by have:=hg.len;omega
  clear hO hs ho h hZ hr;by_cases hr0:r=0
  ·subst hr0
   rw[if_pos rfl];go_enter func266,ntmps266
   go_wp2_with fail
   refine HO.out.mono ?_;rintro e w1 ⟨cs,rfl,HN,HR,HG⟩;have HE1:=hid (HE.out.grown HR.out HG.out);clear HR HG HO HE;obtain⟨kd,T,C,so,sl,sc,hcs⟩:=HN.out.shape;obtain⟨p,hp⟩:∃p,p=n.at':=⟨_,rfl⟩;rw[<-hp]at hcs;subst hcs;clear hp;dsimp only[n8];have HE2:=hid (HE1.out.alloc (.cells #[.int .i64 kd,.string T,.int .u64 (wd C 0),.int .u64 (wd C 1),.int .u64 (wd C 2),.int .u64 (wd C 3),.slice so sl sc,.int .i64 p] 71));have HN2:=hid (HN.out.below (((Below.refl _ w1).alloc L0q (.cells #[.int .i64 kd,.string T,.int .u64 (wd C 0),.int .u64 (wd C 1),.int .u64 (wd C 2),.int .u64 (wd C 3),.slice so sl sc,.int .i64 p] 71))));have HK2:Hid ((w1.alloc (.cells #[.int .i64 kd,.string T,.int .u64 (wd C 0),.int .u64 (wd C 1),.int .u64 (wd C 2),.int .u64 (wd C 3),.slice so sl sc,.int .i64 p] 71)).heap[w1.heap.size]? =some (.cells #[.int .i64 kd,.string T,.int .u64 (wd C 0),.int .u64 (wd C 1),.int .u64 (wd C 2),.int .u64 (wd C 3),.slice so sl sc,.int .i64 p] 71)):=Qx _ _ rfl;have HS2:Hid (w.heap.size<w1.heap.size):=HE1.out.size;clear HE1 HN
   go_wp2_with fail
   refine(HS.out _ HE2.out.1).mono ?_;rintro e w2 ⟨rfl,hb2⟩;have HE3:=hid (HE2.out.below hb2);have HN3:=hid (HN2.out.below hb2);have HK3:=hid ((hb2.block _ (by simp)).trans HK2.out);have HL3:Hid (w1.heap.size<w2.heap.size):=Nat.lt_of_lt_of_le (by simp) hb2.size;clear hb2 HS HE2 HN2 HK2
   go_wp2_with fail
   refine(HP.out _).mono ?_;rintro e w3 ⟨rfl,hw3⟩;rw[hw3];clear hw3 HP;obtain⟨⟨m0,m1,m2,m3,m4,m5,m6,m7⟩,⟨y0,y1,y2,y3,y4,y5,y6,y7⟩⟩:=Qw HK3.out;obtain⟨⟨k0,k1,k2,k3,k4,k5,k6,k7⟩,⟨f0,f1,f2,f3,f4,f5,f6,f7⟩⟩:=HE3.out.cells;have hS2:=HS2.out;have hL3:=HL3.out;have hQN:w.heap.size≠w1.heap.size:=by omega
   go_wp2_with fail
   (try simp only[Exit.inBlock,Exit.then])
   obtain⟨⟨c0,c1,c2,c3,c4,c5,c6,c7⟩,_⟩:=Qw (Vg HE3.out.2.2.1 (kd:Int) T (wd C 0:Nat) (wd C 1:Nat) (wd C 2:Nat) (wd C 3:Nat) (.slice so sl sc) (p:Int));refine bodyPost_ret (v:=.agg (n8 kd T C (.slice so sl sc) p).toArray) (by simp[results,Tryz.results266,go_sem,c0,c1,c2,c3,c4,c5,c6,c7]) rfl ?_;exact HE3.out.fin HN3.out hB
  ·rw[if_neg hr0]
   have t0:((r:Int) == 0)=false:=by simp;omega
   go_enter func266,ntmps266
   go_wp2_with fail
   refine HO.out.mono ?_;rintro e w1 ⟨cs,rfl,HN,HR,HG⟩;have HE1:=hid (HE.out.grown HR.out HG.out);clear HR HG HO HE;obtain⟨kd,T,C,so,sl,sc,hcs⟩:=HN.out.shape;obtain⟨p,hp⟩:∃p,p=n.at':=⟨_,rfl⟩;rw[<-hp]at hcs;subst hcs;have HPn:Hid (n.at'=p):=hp.symm;clear hp;dsimp only[n8];have HE2:=hid (HE1.out.alloc (.cells #[.int .i64 kd,.string T,.int .u64 (wd C 0),.int .u64 (wd C 1),.int .u64 (wd C 2),.int .u64 (wd C 3),.slice so sl sc,.int .i64 p] 71));have HN2:=hid (HN.out.below (((Below.refl _ w1).alloc L0q (.cells #[.int .i64 kd,.string T,.int .u64 (wd C 0),.int .u64 (wd C 1),.int .u64 (wd C 2),.int .u64 (wd C 3),.slice so sl sc,.int .i64 p] 71))));have HK2:Hid ((w1.alloc (.cells #[.int .i64 kd,.string T,.int .u64 (wd C 0),.int .u64 (wd C 1),.int .u64 (wd C 2),.int .u64 (wd C 3),.slice so sl sc,.int .i64 p] 71)).heap[w1.heap.size]? =some (.cells #[.int .i64 kd,.string T,.int .u64 (wd C 0),.int .u64 (wd C 1),.int .u64 (wd C 2),.int .u64 (wd C 3),.slice so sl sc,.int .i64 p] 71)):=Qx _ _ rfl;have HS2:Hid (w.heap.size<w1.heap.size):=HE1.out.size;clear HE1 HN hr0
   go_wp2_with fail
   refine(HS.out _ HE2.out.1).mono ?_;rintro e w2 ⟨rfl,hb2⟩;have HE3:=hid (HE2.out.below hb2);have HN3:=hid (HN2.out.below hb2);have HK3:=hid ((hb2.block _ (by simp)).trans HK2.out);have HL3:Hid (w1.heap.size<w2.heap.size):=Nat.lt_of_lt_of_le (by simp) hb2.size;clear hb2 HS HE2 HN2 HK2
   go_wp2_with fail
   refine(HP.out _).mono ?_;rintro e w3 ⟨rfl,hw3⟩;rw[hw3];clear hw3 HP;obtain⟨⟨m0,m1,m2,m3,m4,m5,m6,m7⟩,⟨y0,y1,y2,y3,y4,y5,y6,y7⟩⟩:=Qw HK3.out;obtain⟨r0,r1,r2,r3,q0,q1,q2,q3⟩:=HE3.out.1.cells;have hRl:=HE3.out.lt;have hS2:=HS2.out;have hL3:=HL3.out;have hR2:=HE3.out.1.lt;have hRN:R≠w1.heap.size:=by omega
   have hQN:w.heap.size≠w1.heap.size:=by omega
   have HE4:=hid HE3.out.next;have HN4:=hid (Qy.grown HN3.out (G.setR (u:=.int .i64 ((k':Int)+1)) (j:=1) (G.refl w2 R)) HE3.out.1.1);clear HE3 HN3 HK3
   go_wp2_with fail
   refine(Id r p (w.heap.size+1) n _ _ HN4.out (by have:=HE4.out.size;omega)).mono ?_;rintro e w5 ⟨cs,rfl,HN5,HB5⟩;have HE5:=hid (HE4.out.below HB5.out);clear HN4 HE4 HB5;obtain⟨kd2,T2,C2,so2,sl2,sc2,hcs⟩:=HN5.out.shape;rw[show(Nd.mk r {data:=#[]} 0 [n] p).at'=p from rfl]at hcs;subst hcs;obtain⟨p2,hp2⟩:∃q,q=p:=⟨p,rfl⟩;dsimp only[n8];obtain⟨⟨k0,k1,k2,k3,k4,k5,k6,k7⟩,⟨f0,f1,f2,f3,f4,f5,f6,f7⟩⟩:=HE5.out.cells;clear m0 m1 m2 m3 m4 m5 m6 m7 y0 y1 y2 y3 y4 y5 y6 y7 r0 r1 r2 r3 q0 q1 q2 q3
   go_wp2_with fail
   rw[HPn.out]
   (try simp only[Exit.inBlock,Exit.then])
   obtain⟨⟨c0,c1,c2,c3,c4,c5,c6,c7⟩,_⟩:=Qw (Vg HE5.out.2.2.1 (kd2:Int) T2 (wd C2 0:Nat) (wd C2 1:Nat) (wd C2 2:Nat) (wd C2 3:Nat) (.slice so2 sl2 sc2) (p:Int));refine bodyPost_ret (v:=.agg (n8 kd2 T2 C2 (.slice so2 sl2 sc2) p).toArray) (by simp[results,Tryz.results266,go_sem,c0,c1,c2,c3,c4,c5,c6,c7]) rfl ?_;exact HE5.out.fin HN5.out hB
theorem Bf{F:Nat}{sp:Nat->Pr}{ne:Nat}(ho:MC F sp (fun _=>True) R b v L ru ne)(k B:Nat)(hk:k<L.length):Hid (∀w:World,Rd w R b v L k ru ne->B<=w.heap.size->Calls prog F #[.pointer (some ⟨R,0,none⟩)] w fun e w'=>Qf (sp k) B R b v L ru ne w e w'):=
 fun w h hB=>ho k B w h hk trivial hB
theorem z6I(R b:Nat)(v:Value)(L:List Tok)(ru ne:Nat)(inn:Nat->Pr)(hg:Qc L)(ha:Adv L inn)(ho:MC 266 (Jy L inn) (fun _=>True) R b v L ru ne):
  MC 232 (Vq L inn) (fun _=>True) R b v L ru ne:=by
 intro k B w h hk _ hB;have fd3:=Tryz.fld3;have HT:=Jf R b v L k ru ne hk hg;have HS:=Gf R b v L k ru ne hk hg;have HE:Hid (En w R b v L k ru ne (w.alloc Zo)):=En.start h;have hkl:(k:Int)+1<9223372036854775807:=by have:=hg.len;omega
 unfold Vq;obtain⟨Z,hZ⟩:∃Z,Z=sgT (gL L k):=⟨_,rfl⟩;rw[<-hZ]at HS ⊢;obtain⟨t,ht⟩:∃t,t=gL L k:=⟨_,rfl⟩;rw[<-ht]at HT ⊢;clear ht;obtain⟨tk,tT,tC,p⟩:=t;by_cases hz12:Z={data:=#[33]}
 ·rw[if_pos hz12]
  have hk1:=hg.sg hk (hZ▸hz12);have HO:=Bf ho (k+1) (w.heap.size+1) hk1;subst hz12;clear hZ ho h;cases hs:Jy L inn (k+1)with
  |inl c=>
   rw[hs]at HO;clear hs;show Calls _ _ _ _ (fun e w'=>Qf (.inl c) B R b v L ru ne w e w');go_enter func232,ntmps232
   go_wp2_with fail
   refine(HT.out _ HE.out.1).mono ?_;rintro e w1 ⟨rfl,hb1⟩;have HE1:=hid (HE.out.below hb1);clear hb1 HE HT;dsimp only[tkv]
   go_wp2_with fail
   refine(HS.out _ HE1.out.1).mono ?_;rintro e w2 ⟨rfl,hb2⟩;have HE2:=hid (HE1.out.below hb2);clear hb2 HE1 HS;obtain⟨r0,r1,r2,r3,q0,q1,q2,q3⟩:=HE2.out.1.cells;have hR2:=HE2.out.1.lt;have HE3:=hid HE2.out.next;clear HE2
   go_wp2_with fail
   refine(HO.out _ HE3.out.1 (by have:=HE3.out.size;omega)).mono ?_;rintro e w3 hA;have HA:Hid (Qf (.inl c) B R b v L ru ne w e w3):=Qf.up HE3.out hA;obtain⟨f,rfl,_,_⟩:=hA;clear HE3 HO r0 r1 r2 r3 q0 q1 q2 q3
   go_wp2_with fail
   exact⟨rfl,HA.out⟩
  |inr q=>
   obtain⟨n,k'⟩:=q;rw[hs]at HO;clear hs;show Calls _ _ _ _ (fun e w'=>Qf (.inr (.mk 12 {data:=#[]} 0 [n] p,k')) B R b v L ru ne w e w');go_enter func232,ntmps232
   go_wp2_with fail
   refine(HT.out _ HE.out.1).mono ?_;rintro e w1 ⟨rfl,hb1⟩;have HE1:=hid (HE.out.below hb1);clear hb1 HE HT;dsimp only[tkv]
   go_wp2_with fail
   refine(HS.out _ HE1.out.1).mono ?_;rintro e w2 ⟨rfl,hb2⟩;have HE2:=hid (HE1.out.below hb2);clear hb2 HE1 HS;obtain⟨r0,r1,r2,r3,q0,q1,q2,q3⟩:=HE2.out.1.cells;have hR2:=HE2.out.1.lt;have HE3:=hid HE2.out.next;clear HE2
   go_wp2_with fail
   refine(HO.out _ HE3.out.1 (by have:=HE3.out.size;omega)).mono ?_;rintro e w3 ⟨cs,rfl,HN,HR,HG⟩;have HE4:=hid (HE3.out.grown HR.out HG.out);clear HE3 HO HR HG r0 r1 r2 r3 q0 q1 q2 q3 hR2;have HV:=hid (Id 12 p (w.heap.size+1) n _ _ HN.out (by have:=HE4.out.size;omega));obtain⟨kd,T,C,so,sl,sc,hcs⟩:=HN.out.shape;obtain⟨p',hp⟩:∃p',p'=n.at':=⟨_,rfl⟩;rw[<-hp]at hcs;subst hcs;clear hp;dsimp only[n8]at HV ⊢
   go_wp2_with fail
   refine HV.out.mono ?_;rintro e w5 ⟨cs,rfl,HN5,HB5⟩;have HE5:=hid (HE4.out.below HB5.out);clear HV HN HE4 HB5;obtain⟨kd2,T2,C2,so2,sl2,sc2,hcs⟩:=HN5.out.shape;rw[show(Nd.mk 12 {data:=#[]} 0 [n] p).at'=p from rfl]at hcs;subst hcs;dsimp only[n8];obtain⟨⟨k0,k1,k2,k3,k4,k5,k6,k7⟩,⟨f0,f1,f2,f3,f4,f5,f6,f7⟩⟩:=HE5.out.cells
   go_wp2_with fail
   (try simp only[Exit.inBlock,Exit.then])
   obtain⟨⟨c0,c1,c2,c3,c4,c5,c6,c7⟩,_⟩:=Qw (Vg HE5.out.2.2.1 (kd2:Int) T2 (wd C2 0:Nat) (wd C2 1:Nat) (wd C2 2:Nat) (wd C2 3:Nat) (.slice so2 sl2 sc2) (p:Int));refine bodyPost_ret (v:=.agg (n8 kd2 T2 C2 (.slice so2 sl2 sc2) p).toArray) (by simp[results,Tryz.results232,go_sem,c0,c1,c2,c3,c4,c5,c6,c7]) rfl ?_;exact HE5.out.fin HN5.out hB
 rw[if_neg hz12];have e1:(Z.toList == [33])=false:=Jw hz12;by_cases hz11:Z={data:=#[38]}
 ·rw[if_pos hz11]
  have hk1:=hg.sg hk (hZ▸hz11);have HO:=Bf ho (k+1) (w.heap.size+1) hk1;subst hz11;clear hz12 e1;clear hZ ho h;cases hs:Jy L inn (k+1)with
  |inl c=>
   rw[hs]at HO;clear hs;show Calls _ _ _ _ (fun e w'=>Qf (.inl c) B R b v L ru ne w e w');go_enter func232,ntmps232
   go_wp2_with fail
   refine(HT.out _ HE.out.1).mono ?_;rintro e w1 ⟨rfl,hb1⟩;have HE1:=hid (HE.out.below hb1);clear hb1 HE HT;dsimp only[tkv]
   go_wp2_with fail
   refine(HS.out _ HE1.out.1).mono ?_;rintro e w2 ⟨rfl,hb2⟩;have HE2:=hid (HE1.out.below hb2);clear hb2 HE1 HS;obtain⟨r0,r1,r2,r3,q0,q1,q2,q3⟩:=HE2.out.1.cells;have hR2:=HE2.out.1.lt;have HE3:=hid HE2.out.next;clear HE2
   go_wp2_with fail
   refine(HO.out _ HE3.out.1 (by have:=HE3.out.size;omega)).mono ?_;rintro e w3 hA;have HA:Hid (Qf (.inl c) B R b v L ru ne w e w3):=Qf.up HE3.out hA;obtain⟨f,rfl,_,_⟩:=hA;clear HE3 HO r0 r1 r2 r3 q0 q1 q2 q3
   go_wp2_with fail
   exact⟨rfl,HA.out⟩
  |inr q=>
   obtain⟨n,k'⟩:=q;rw[hs]at HO;clear hs;show Calls _ _ _ _ (fun e w'=>Qf (.inr (.mk 11 {data:=#[]} 0 [n] p,k')) B R b v L ru ne w e w');go_enter func232,ntmps232
   go_wp2_with fail
   refine(HT.out _ HE.out.1).mono ?_;rintro e w1 ⟨rfl,hb1⟩;have HE1:=hid (HE.out.below hb1);clear hb1 HE HT;dsimp only[tkv]
   go_wp2_with fail
   refine(HS.out _ HE1.out.1).mono ?_;rintro e w2 ⟨rfl,hb2⟩;have HE2:=hid (HE1.out.below hb2);clear hb2 HE1 HS;obtain⟨r0,r1,r2,r3,q0,q1,q2,q3⟩:=HE2.out.1.cells;have hR2:=HE2.out.1.lt;have HE3:=hid HE2.out.next;clear HE2
   go_wp2_with fail
   refine(HO.out _ HE3.out.1 (by have:=HE3.out.size;omega)).mono ?_;rintro e w3 ⟨cs,rfl,HN,HR,HG⟩;have HE4:=hid (HE3.out.grown HR.out HG.out);clear HE3 HO HR HG r0 r1 r2 r3 q0 q1 q2 q3 hR2;have HV:=hid (Id 11 p (w.heap.size+1) n _ _ HN.out (by have:=HE4.out.size;omega));obtain⟨kd,T,C,so,sl,sc,hcs⟩:=HN.out.shape;obtain⟨p',hp⟩:∃p',p'=n.at':=⟨_,rfl⟩;rw[<-hp]at hcs;subst hcs;clear hp;dsimp only[n8]at HV ⊢
   go_wp2_with fail
   refine HV.out.mono ?_;rintro e w5 ⟨cs,rfl,HN5,HB5⟩;have HE5:=hid (HE4.out.below HB5.out);clear HV HN HE4 HB5;obtain⟨kd2,T2,C2,so2,sl2,sc2,hcs⟩:=HN5.out.shape;rw[show(Nd.mk 11 {data:=#[]} 0 [n] p).at'=p from rfl]at hcs;subst hcs;dsimp only[n8];obtain⟨⟨k0,k1,k2,k3,k4,k5,k6,k7⟩,⟨f0,f1,f2,f3,f4,f5,f6,f7⟩⟩:=HE5.out.cells
   go_wp2_with fail
   (try simp only[Exit.inBlock,Exit.then])
   obtain⟨⟨c0,c1,c2,c3,c4,c5,c6,c7⟩,_⟩:=Qw (Vg HE5.out.2.2.1 (kd2:Int) T2 (wd C2 0:Nat) (wd C2 1:Nat) (wd C2 2:Nat) (wd C2 3:Nat) (.slice so2 sl2 sc2) (p:Int));refine bodyPost_ret (v:=.agg (n8 kd2 T2 C2 (.slice so2 sl2 sc2) p).toArray) (by simp[results,Tryz.results232,go_sem,c0,c1,c2,c3,c4,c5,c6,c7]) rfl ?_;exact HE5.out.fin HN5.out hB
 rw[if_neg hz11];have e2:(Z.toList == [38])=false:=Jw hz11;have HO:=Bf ho k (w.heap.size+1) hk;clear hZ ho h hz11 hz12;cases hs:Jy L inn k with
 |inl c=>
  rw[hs]at HO;clear hs;go_enter func232,ntmps232
  go_wp2_with fail
  refine(HT.out _ HE.out.1).mono ?_;rintro e w1 ⟨rfl,hb1⟩;have HE1:=hid (HE.out.below hb1);clear hb1 HE HT;dsimp only[tkv]
  go_wp2_with fail
  refine(HS.out _ HE1.out.1).mono ?_;rintro e w2 ⟨rfl,hb2⟩;have HE2:=hid (HE1.out.below hb2);clear hb2 HE1 HS
  go_wp2_with fail
  refine(HO.out _ HE2.out.1 (by have:=HE2.out.size;omega)).mono ?_;rintro e w3 hA;have HA:Hid (Qf (.inl c) B R b v L ru ne w e w3):=Qf.up HE2.out hA;obtain⟨f,rfl,_,_⟩:=hA;clear HE2 HO
  go_wp2_with fail
  exact⟨rfl,HA.out⟩
 |inr q=>
  obtain⟨n,k'⟩:=q;rw[hs]at HO;clear hs;go_enter func232,ntmps232
  go_wp2_with fail
  refine(HT.out _ HE.out.1).mono ?_;rintro e w1 ⟨rfl,hb1⟩;have HE1:=hid (HE.out.below hb1);clear hb1 HE HT;dsimp only[tkv]
  go_wp2_with fail
  refine(HS.out _ HE1.out.1).mono ?_;rintro e w2 ⟨rfl,hb2⟩;have HE2:=hid (HE1.out.below hb2);clear hb2 HE1 HS
  go_wp2_with fail
  refine(HO.out _ HE2.out.1 (by have:=HE2.out.size;omega)).mono ?_;rintro e w3 ⟨cs,rfl,HN,HR,HG⟩;have HE4:=hid (HE2.out.grown HR.out HG.out);clear HE2 HO HR HG;obtain⟨kd,T,C,so,sl,sc,hcs⟩:=HN.out.shape;obtain⟨p',hp⟩:∃p',p'=n.at':=⟨_,rfl⟩;rw[<-hp]at hcs;subst hcs;clear hp;dsimp only[n8];obtain⟨⟨k0,k1,k2,k3,k4,k5,k6,k7⟩,⟨f0,f1,f2,f3,f4,f5,f6,f7⟩⟩:=HE4.out.cells
  go_wp2_with fail
  (try simp only[Exit.inBlock,Exit.then])
  obtain⟨⟨c0,c1,c2,c3,c4,c5,c6,c7⟩,_⟩:=Qw (Vg HE4.out.2.2.1 (kd:Int) T (wd C 0:Nat) (wd C 1:Nat) (wd C 2:Nat) (wd C 3:Nat) (.slice so sl sc) (p':Int));refine bodyPost_ret (v:=.agg (n8 kd T C (.slice so sl sc) p').toArray) (by simp[results,Tryz.results232,go_sem,c0,c1,c2,c3,c4,c5,c6,c7]) rfl ?_;exact HE4.out.fin HN.out hB
def Ro(B:Nat)(pv:Value)(acc:List Nd)(W:World):Prop:=
 ∃xs,W.ownsRow B 71 8 pv acc.length xs/\Qm W (fun g=>B<=g/\pv.ownBlock≠some g) acc xs
theorem Qz{g:Nat}{o:Obj}(h:w.heap[g]? =some o):g<w.heap.size:=by
 rcases Nat.lt_or_ge g w.heap.size with h1|h1
 ·exact h1
 ·rw[Array.getElem?_eq_none h1]at h;cases h
theorem Ro.grown{pv:Value}(h:Ro B pv acc W)(hg:W.grownBy W' (some R))(hR:R<B):Ro B pv acc W':=by
 obtain⟨xs,h1,h2⟩:=h;refine⟨xs,h1.kept hg (.inr (fun e=>by have:=(h1.lt _ e).1;omega)),Qm.kept (fun g cur hp hq=>⟨hg.block g (Qz hq) (fun e=> ?_),hp⟩) _ _ h2⟩;have e2:g=R:=Option.some.inj e;have:=hp.1;omega
theorem Ro.below{pv:Value}(h:Ro B pv acc W)(hb:Below W.heap.size W W'):Ro B pv acc W':=by
 obtain⟨xs,h1,h2⟩:=h;exact⟨xs,Ux h1 hb,Qm.kept (fun g cur hp hq=>⟨hb.block g (Qz hq),hp⟩) _ _ h2⟩
theorem Ro.blk{pv:Value}(h:Ro B pv acc W):∀g,pv.ownBlock=some g->g<W.heap.size:=fun g e=>by obtain⟨xs,h1,_⟩:=h;exact(h1.lt _ e).2
theorem Ro.nil(B:Nat)(W:World):Ro B (.slice none 0 0) [] W:=⟨[],World.ownsRow_nil _ _ _ _,by rw[Qm];trivial⟩
theorem Ro.app{D:Nat}{pv pv':Value}{xs c:List Value}{n:Nd}{W2 W3 W4:World}(ho:W2.ownsRow B 71 8 pv acc.length xs)(ha:Qm W2 (fun g=>B<=g/\pv.ownBlock≠some g) acc xs)(hn:Qy W2 (fun g=>D<=g) n c)(hD:B<=D)(hpv:∀g,pv.ownBlock=some g->g<D)(hb:Below W2.heap.size W2 W3)
  (hown:W4.ownsRow B 71 8 pv' (acc.length+1) (xs++c))(hgr:W3.grownBy W4 pv.ownBlock)(hat:pv'.ownBlock=pv.ownBlock∨pv'.ownBlock=some W3.heap.size):Ro B pv' (acc++[n]) W4:=by
 have key:∀g,g<W2.heap.size->pv.ownBlock≠some g->W4.heap[g]? =W2.heap[g]? /\pv'.ownBlock≠some g:=fun g hl hne=>by
  have hs:=hb.size;refine⟨(hgr.block g (by omega) (fun e=>hne e.symm)).trans (hb.block g hl),?_⟩;rcases hat with h|h
  ·rw[h];exact hne
  ·rw[h];intro e;have:=Option.some.inj e;omega
 refine⟨xs++c,by simpa using hown,Qm.append _ _ _ _ (Qm.kept (fun g cur hp hq=> ?_) _ _ ha) ho.1 (Qy.kept (fun g cur hp hq=> ?_) _ _ hn)⟩
 ·have:=key g (Qz hq) hp.2
  exact⟨this.1,hp.1,this.2⟩
 ·have:=key g (Qz hq) (fun e=>by have:=hpv g e;omega)
  exact⟨this.1,by omega,this.2⟩
theorem En.rowed{k ne:Nat}{row:Option Nat}(h:En w R b v L k ru ne W)(hg:W.grownBy W' row)(hr:∀g,row=some g->w.heap.size<g):En w R b v L k ru ne W':=by
 have hR:=h.lt;have hs:=h.size;have hne:some R≠row:=fun e=>by have:=hr R e.symm;omega
 have hnq:some w.heap.size≠row:=fun e=>by have:=hr _ e.symm;omega
 have hvv:v.ownBlock=none∨v.ownBlock≠row:=by
  cases hv:v.ownBlock with
  |none=>exact .inl rfl
  |some g=>exact .inr (fun e=>h.2.2.2.2 g (by have:=hr g e.symm;omega) hv)
 exact⟨⟨(hg.block R (by omega) hne).trans h.1.1,h.1.2.kept hg hvv⟩,⟨hg.os.trans h.2.1.os,hg.tape.trans h.2.1.tape,hg.output.trans h.2.1.output,Nat.le_trans h.2.1.size hg.size,fun j hj hne=>(hg.block j (by omega) (fun e=>by have:=hr j e.symm;omega)).trans (h.2.1.block j hj hne)⟩,(hg.block _ hs hnq).trans h.2.2.1,hR,h.2.2.2.2⟩
theorem Tryz.infoNd:(Tryz.prog.info? 71).map (fun i=>(i.zero,i.size,i.bytes))=some (some (.agg #[.int .i64 0,.string ⟨#[]⟩,.int .u64 0,.int .u64 0,.int .u64 0,.int .u64 0,.slice none 0 0,.int .i64 0]),8,88):=by kernel_rfl
theorem z0z(w:World)(a b c d e f g h:Value)(t:TypeId):∀j x,[a,b,c,d,e,f,g,h][j]? =some x->(w.alloc (.cells #[a,b,c,d,e,f,g,h] t)).cell? ((⟨w.heap.size,0,none⟩:Addr).add j)=some x:=by
 intro j x hj
 match j,hj with
 |0,hj=>simp at hj;subst hj;simp[Addr.add]
 |1,hj=>simp at hj;subst hj;simp[Addr.add]
 |2,hj=>simp at hj;subst hj;simp[Addr.add]
 |3,hj=>simp at hj;subst hj;simp[Addr.add]
 |4,hj=>simp at hj;subst hj;simp[Addr.add]
 |5,hj=>simp at hj;subst hj;simp[Addr.add]
 |6,hj=>simp at hj;subst hj;simp[Addr.add]
 |7,hj=>simp at hj;subst hj;simp[Addr.add]
theorem z0A(a:Int)(T:ByteArray)(c0 c1 c2 c3:Int)(so:Option Addr)(sl sc:Nat)(p:Int):∀u∈[Value.int .i64 a,.string T,.int .u64 c0,.int .u64 c1,.int .u64 c2,.int .u64 c3,.slice so sl sc,.int .i64 p],u.oneCell'=true:=by
 intro u hu;simp at hu;rcases hu with rfl|rfl|rfl|rfl|rfl|rfl|rfl|rfl<;>rfl
theorem Ro.joined{pv:Value}{n:Nd}{r:List Nd}(h:Ro B pv (n::r) W)(hB:B<=W.heap.size)(hr:r.length<=100000)(kd:Nat):∃g cap,pv=.slice (some ⟨g,0,none⟩) (r.length+1) cap/\Hid (Calls prog 198 #[.int .i64 kd,.slice (some ⟨g,0,none⟩) (r.length+1) cap] W fun e w'=>∃cs:List Value,e=.returned (.agg cs.toArray)/\Hid (Qy w' (fun g=>B<=g) (Yy kd (n::r)) cs)/\Hid (Below W.heap.size W w')):=by
 obtain⟨xs,h1,h2⟩:=h;rw[List.length_cons]at h1;obtain⟨g,cap,rfl⟩:=Jk h1 (by omega);exact⟨g,cap,rfl,z6s kd B g cap n r xs W h1 (h2.weak (fun g h=>h.1)) hB hr⟩
theorem Ro.shape0{pv:Value}(h:Ro B pv [] W):∃a c,pv=.slice a 0 c:=by
 obtain⟨xs,h1,h2⟩:=h;exact z0m h1
def Ud(R:Nat)(w:World):Nat:=(intOf ((w.cell? ⟨R,1,none⟩).getD (.int .i64 0))).toNat
theorem Dd{k ne:Nat}(h:Rd w R b v L k ru ne):Ud R w=k:=by
 unfold Ud;rw[h.cells.2.1];simp[intOf]
theorem z6J(R b:Nat)(v:Value)(L:List Tok)(ru ne:Nat)(inn:Nat->Pr)(hg:Qc L)(ha:Adv L inn)(ho:MC 232 (Vq L inn) (fun _=>True) R b v L ru ne):
  MC 196 (fun k=>Zx L inn L.length k []) (fun _=>True) R b v L ru ne:=by
 intro k B w h hk _ hB;obtain⟨iT,hiT,hzT0,hzT1,hzT2⟩:=info_parts Tryz.infoNd;have fd3:=Tryz.fld3;have HE0:Hid (En w R b v L k ru ne (w.alloc Zo)):=En.start h;obtain⟨RES,hR⟩:∃RES,RES=Zx L inn L.length k []:=⟨_,rfl⟩;have HM0:Hid (Zx L inn L.length k []=RES):=hR.symm;simp only;rw[<-hR];have HM:Hid (MC 232 (Vq L inn) (fun _=>True) R b v L ru ne):=ho;have HG:Hid (Qc L):=hg;have HA:Hid (Adv L inn):=ha;have hll:=hg.len;clear hR h ho hg ha;go_enter func196,ntmps196
 go_wp2_with fail
 go_loopw [3] (fun a wr=>∃(f j:Nat) (acc:List Nd),j<L.length/\L.length<=f+j/\acc.length<=j/\Hid (Zx L inn f j acc=RES)/\Hid (Ro (w.heap.size+1) a acc wr)/\Hid (En w R b v L j ru ne wr)) (fun _ wr=>L.length-Ud R wr)
 case atStart=>exact⟨L.length,k,[],hk,by omega,by simp,HM0,hid (Ro.nil _ _),HE0⟩
 case round=>
  obtain⟨f,j,acc,hj,hfj,haj,HMj,HRo,HE⟩:=hrel;clear HM0 HE0;have HI:=z6y R b v L j ru ne hj HG.out;have HT:=Jf R b v L j ru ne hj HG.out;cases f with
  |zero=>omega
  |succ f=>
  cases hpt:ptB L j (gL L j)with
  |true=>
   rw[hpt]at HI;have HC:=hid (fun(W:World) (h:Rd W R b v L j ru ne)=>HM.out j W.heap.size W h hj trivial L0q);clear HM HT;cases hs:Vq L inn j with
   |inl c=>
    have HF:Hid (RES=.inl c):=by show _=_;rw[<-HMj.out,Zx,if_pos hpt,hs]
    rw[hs]at HC;clear hs hpt HMj
    go_wp2_with fail
    refine(HI.out _ HE.out.1).mono ?_;rintro e w1 ⟨rfl,hb1⟩;have HE1:=hid (HE.out.below hb1);clear hb1 HE HI HRo
    go_wp2_with fail
    refine(HC.out _ HE1.out.1).mono ?_;rintro e w2 hA;have HAP:Hid (Qf RES B R b v L ru ne w e w2):=by show Qf _ _ _ _ _ _ _ _ _ _ _;rw[HF.out];exact Qf.up HE1.out hA
    obtain⟨f',rfl,_,_⟩:=hA;clear HE1 HC HF
    go_wp2_with fail
    exact⟨rfl,HAP.out⟩
   |inr q=>
    obtain⟨n,k'⟩:=q;have hk':=z0v HG.out HA.out hj hs;have HM2:Hid (Zx L inn f k' (acc++[n])=RES):=by show _=_;rw[<-HMj.out,Zx,if_pos hpt,hs]
    rw[hs]at HC;clear hs hpt HMj
    go_wp2_with fail
    refine(HI.out _ HE.out.1).mono ?_;rintro e w1 ⟨rfl,hb1⟩;have HE1:=hid (HE.out.below hb1);have HRo1:=hid (HRo.out.below hb1);have HJ:Hid (Ud R wr=j):=Dd HE.out.1;clear hb1 HE HI HRo
    go_wp2_with fail
    refine(HC.out _ HE1.out.1).mono ?_;rintro e w2 ⟨cs,rfl,HN,HR,HGr⟩;have HE2:=hid (HE1.out.grown HR.out HGr.out);have HRo2:=hid (HRo1.out.grown HGr.out (by have:=HE1.out.lt;omega));have HPV:=hid (HRo1.out.blk);have HW1:Hid (w.heap.size+1<=w1.heap.size):=HE1.out.size;clear HE1 HRo1 HR HGr HC;obtain⟨kd,T,C,so,sl,sc,hcs⟩:=HN.out.shape;obtain⟨p,hp⟩:∃p,p=n.at':=⟨_,rfl⟩;rw[<-hp]at hcs;subst hcs;clear hp;obtain⟨xs,hx1,hx2⟩:=HRo2.out;have HX1:=hid hx1;have HX2:=hid hx2;clear hx1 hx2 HRo2;dsimp only[n8]
    go_wp2_with(first|(at_builtin;refine wpList_append_own_at _ rfl (.tmp 6) (.tmp 9) 69 rfl (w.heap.size+1) 71 iT (.agg #[.int .i64 0,.string ⟨#[]⟩,.int .u64 0,.int .u64 0,.int .u64 0,.int .u64 0,.slice none 0 0,.int .i64 0]) 8 88 Tryz.underlying69 hiT hzT0 hzT1 hzT2 rfl (by decide) _ _ _ rfl (HX1.out.alloc _) ⟨w2.heap.size,0,none⟩ 1 1 (n8 kd T C (.slice so sl sc) p) rfl rfl (z0z w2 _ _ _ _ _ _ _ _ 71) (z0A _ _ _ _ _ _ _ _ _ _) (by unfold maxLen;omega) (by omega) (by have:=HE2.out.size;simp;omega) ?_;intro v4 w4 hown4 hgr4 hnil4 hat4))
    have HRo4:Hid (Ro (w.heap.size+1) v4 (acc++[n]) w4):=Ro.app HX1.out HX2.out HN.out HW1.out HPV.out ((Below.refl _ w2).alloc L0q _) hown4 hgr4 hat4;have HE4:Hid (En w R b v L k' ru ne w4):=(HE2.out.alloc _).rowed hgr4 (fun g e=>by have:=(HX1.out.lt g e).1;omega);have HJ4:Hid (Ud R w4=k'):=Dd HE4.out.1;clear hown4 hgr4 hnil4 hat4 HX1 HX2 HN HE2 HPV HW1
    go_wp2_with fail
    go_roundw
    case rel=>exact⟨f,k',acc++[n],hk'.2,by omega,by simp;omega,HM2,HRo4,HE4⟩
    case measure=>rw[HJ.out,HJ4.out];omega
  |false=>
   rw[hpt]at HI;clear HM;cases acc with
   |nil=>
    have HF:Hid (RES=.inr (.mk 1 {data:=#[]} 0 [] (gL L j).2.2.2,j)):=by show _=_;rw[<-HMj.out,Zx,if_neg (by rw[hpt];decide)];rfl
    obtain⟨sa,sc0,hsl⟩:=HRo.out.shape0;subst hsl;clear hpt HMj HRo
    go_wp2_with fail
    refine(HI.out _ HE.out.1).mono ?_;rintro e w1 ⟨rfl,hb1⟩;have HE1:=hid (HE.out.below hb1);clear hb1 HE HI
    go_wp2_with fail
    refine(HT.out _ HE1.out.1).mono ?_;rintro e w2 ⟨rfl,hb2⟩;have HE3:=hid (HE1.out.below hb2);clear hb2 HE1 HT;obtain⟨t,ht⟩:∃t,t=gL L j:=⟨_,rfl⟩;rw[<-ht]at HF ⊢;clear ht;obtain⟨tk,tT,tC,p⟩:=t;dsimp only[tkv];obtain⟨⟨k0,k1,k2,k3,k4,k5,k6,k7⟩,⟨f0,f1,f2,f3,f4,f5,f6,f7⟩⟩:=HE3.out.cells
    go_wp2_with fail
    (try simp only[Exit.inBlock,Exit.then])
    obtain⟨⟨c0,c1,c2,c3,c4,c5,c6,c7⟩,_⟩:=Qw (Vg HE3.out.2.2.1 1 {data:=#[]} 0 0 0 0 (.slice none 0 0) (p:Int));refine bodyPost_ret (v:=.agg (n8 1 {data:=#[]} 0 (.slice none 0 0) p).toArray) (by simp[results,Tryz.results196,go_sem,c0,c1,c2,c3,c4,c5,c6,c7,Jq]) rfl ?_;rw[HF.out];have hf:=HE3.out.fin (B:=B) (n:=.mk 1 {data:=#[]} 0 [] p) (sv:=.slice none 0 0) (kd:=1) (T:={data:=#[]}) (C:=0) (p:=p) (by rw[Qy];exact⟨_,rfl,.inl ⟨rfl,rfl⟩⟩) hB;simpa [Jq]using hf
   |cons n r=>
    have HF:Hid (RES=.inr (Yy 6 (n::r),j)):=by show _=_;rw[<-HMj.out,Zx,if_neg (by rw[hpt];decide)];rfl
    rw[List.length_cons]at haj;clear hpt HMj;obtain⟨xs0,hx0,_⟩:=HRo.out;rw[List.length_cons]at hx0;obtain⟨g,cap,hsl⟩:=Jk hx0 (by omega);clear hx0;subst hsl;have t0:((r.length:Int)+1 == 0)=false:=by simp;omega
    obtain⟨m,hm⟩:∃m,m=r.length:=⟨_,rfl⟩;have HMm:Hid (m=r.length):=hm;rw[<-hm]at t0 haj ⊢;clear hm
    go_wp2_with fail
    refine(HI.out _ HE.out.1).mono ?_;rintro e w1 ⟨rfl,hb1⟩;have HE1:=hid (HE.out.below hb1);have HRo1:=hid (HRo.out.below hb1);clear hb1 HE HI HRo HT;obtain⟨g',cap',hq,HJ⟩:=HRo1.out.joined HE1.out.size (by rw[<-HMm.out];omega) 6;rw[<-HMm.out]at HJ hq;cases hq;clear HRo1
    go_wp2_with fail
    refine HJ.out.mono ?_;rintro e w2 ⟨cs,rfl,HN3,HB2⟩;have HE3:=hid (HE1.out.below HB2.out);clear HB2 HE1 HJ;obtain⟨kd,T,C,so,sl,sc,hcs⟩:=HN3.out.shape;obtain⟨p,hp⟩:∃p,p=(Yy 6 (n::r)).at':=⟨_,rfl⟩;rw[<-hp]at hcs;subst hcs;clear hp;dsimp only[n8];obtain⟨⟨k0,k1,k2,k3,k4,k5,k6,k7⟩,⟨f0,f1,f2,f3,f4,f5,f6,f7⟩⟩:=HE3.out.cells
    go_wp2_with fail
    (try simp only[Exit.inBlock,Exit.then])
    obtain⟨⟨c0,c1,c2,c3,c4,c5,c6,c7⟩,_⟩:=Qw (Vg HE3.out.2.2.1 (kd:Int) T (wd C 0:Nat) (wd C 1:Nat) (wd C 2:Nat) (wd C 3:Nat) (.slice so sl sc) (p:Int));refine bodyPost_ret (v:=.agg (n8 kd T C (.slice so sl sc) p).toArray) (by simp[results,Tryz.results196,go_sem,c0,c1,c2,c3,c4,c5,c6,c7]) rfl ?_;rw[HF.out];exact HE3.out.fin HN3.out hB
end Go.Proofs.YtlogolpcipiceaaGreatDoor
