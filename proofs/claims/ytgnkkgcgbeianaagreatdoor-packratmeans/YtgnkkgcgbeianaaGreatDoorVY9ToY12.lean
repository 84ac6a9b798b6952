/- Lemmas for the last text. Conditions: those that each names. -/
import Derived.Test.YtgnkkgcgbeianaaGreatDoorVY6ToY8
import Derived.Maps.AppendAt
set_option linter.unusedVariables false
set_option maxRecDepth 100000
set_option maxHeartbeats 16000000
namespace Go.Proofs.YtgnkkgcgbeianaaGreatDoor
open Go.Proofs.Tryz
open Go.RowKit
variable {B R b k ru:Nat} {v:Value} {L:List Tok} {W W' w:World} {acc:List Nd} {n:Nd}
theorem z7Q(R b:Nat)(v:Value)(L:List Tok)(ru ne:Nat)(inn:Nat->Pr)(hg:Ql L)(ha:Adv L inn)(ho:MC 270 (Fd L inn) (fun _=>True) R b v L ru ne):
  MC 249 (Jg L inn) (fun _=>True) R b v L ru ne:=by
 intro k B w h hk _ hB;have hO:=ho k (w.heap.size+1) (w.alloc Zo) (h.alloc _) hk trivial (by simp);have HE:Hid (En w R b v L k ru ne (w.alloc Zo)):=En.start h;unfold Jg;cases hs:Fd L inn k with
 |inl c=>
  rw[hs]at hO;have HO:=hid hO;clear hO hs ho h;show Calls _ _ _ _ (fun e w'=>Qd (.inl c) B R b v L ru ne w e w');go_enter func249,ntmps249
  go_wp2_with fail
  refine HO.out.mono ?_;rintro e o hA;have HA:Hid (Qd (.inl c) B R b v L ru ne w e o):=Qd.up HE.out hA;obtain⟨f,rfl,_,_⟩:=hA
  go_wp2_with fail
  exact⟨rfl,HA.out⟩
 |inr q=>
  obtain⟨n,k'⟩:=q;have ar:=(z0S hg ha hk hs).2;rw[hs]at hO;have HO:=hid hO;have HS:=Gh R b v L k' ru ne ar hg;unfold Cx;simp only;obtain⟨Z,hZ⟩:∃Z,Z=sgT (gL L k'):=⟨_,rfl⟩;rw[<-hZ]at HS ⊢;have HP:=hid (fun w=>z7u Z w);obtain⟨r,hr⟩:∃r,r=rpK Z:=⟨_,rfl⟩;rw[<-hr]at HP ⊢;have ay:(k':Int)+1<9223372036854775807:=by have:=hg.len;omega
  clear hO hs ho h hZ hr;by_cases hr0:r=0
  ·subst hr0
   rw[if_pos rfl];go_enter func249,ntmps249
   go_wp2_with fail
   refine HO.out.mono ?_;rintro e o ⟨cs,rfl,U,HR,HG⟩;have V:=hid (HE.out.grown HR.out HG.out);clear HR HG HO HE;obtain⟨kd,T,C,t,y,A,I⟩:=U.out.shape;obtain⟨p,hp⟩:∃p,p=n.at':=⟨_,rfl⟩;rw[<-hp]at I;subst I;clear hp;dsimp only[n8];have Y:=hid (V.out.alloc (.cells #[zI (kd:Int),zT T,zU (wd C 0:Nat),zU (wd C 1:Nat),zU (wd C 2:Nat),zU (wd C 3:Nat),.slice t y A,zI (p:Int)] 81));have aa:=hid (U.out.below (((Below.refl _ o).alloc L0q (.cells #[zI (kd:Int),zT T,zU (wd C 0:Nat),zU (wd C 1:Nat),zU (wd C 2:Nat),zU (wd C 3:Nat),.slice t y A,zI (p:Int)] 81))));have ab:Hid ((o.alloc (.cells #[zI (kd:Int),zT T,zU (wd C 0:Nat),zU (wd C 1:Nat),zU (wd C 2:Nat),zU (wd C 3:Nat),.slice t y A,zI (p:Int)] 81)).heap[o.heap.size]? =some (.cells #[zI (kd:Int),zT T,zU (wd C 0:Nat),zU (wd C 1:Nat),zU (wd C 2:Nat),zU (wd C 3:Nat),.slice t y A,zI (p:Int)] 81)):=Qx _ _ rfl;have af:Hid (w.heap.size<o.heap.size):=V.out.size;clear V U
   go_wp2_with fail
   refine(HS.out _ Y.out.1).mono ?_;rintro e w2 ⟨rfl,D⟩;have E:=hid (Y.out.below D);have ad:=hid (aa.out.below D);have ae:=hid ((D.block _ (by simp)).trans ab.out);have ag:Hid (o.heap.size<w2.heap.size):=Nat.lt_of_lt_of_le (by simp) D.size;clear D HS Y aa ab
   go_wp2_with fail
   refine(HP.out _).mono ?_;rintro e w3 ⟨rfl,ac⟩;rw[ac];clear ac HP;obtain⟨⟨m0,m1,m2,m3,m4,m5,m6,m7⟩,⟨y0,y1,y2,y3,y4,y5,y6,y7⟩⟩:=Qg ae.out;obtain⟨⟨k0,k1,k2,k3,k4,k5,k6,k7⟩,⟨f0,f1,f2,f3,f4,f5,f6,f7⟩⟩:=E.out.cells;have au:=af.out;have av:=ag.out;have aw:w.heap.size≠o.heap.size:=by omega
   go_wp2_with fail
   (try simp only[Exit.inBlock,Exit.then])
   obtain⟨⟨c0,c1,c2,c3,c4,c5,c6,c7⟩,_⟩:=Qg (Vw E.out.2.2.1 (kd:Int) T (wd C 0:Nat) (wd C 1:Nat) (wd C 2:Nat) (wd C 3:Nat) (.slice t y A) (p:Int));refine bodyPost_ret (v:=.agg (n8 kd T C (.slice t y A) p).toArray) (by simp[results,Tryz.results249,go_sem,c0,c1,c2,c3,c4,c5,c6,c7]) rfl ?_;exact E.out.fin ad.out hB
  ·rw[if_neg hr0]
   have t0:((r:Int) == 0)=false:=by simp;omega
   go_enter func249,ntmps249
   go_wp2_with fail
   refine HO.out.mono ?_;rintro e o ⟨cs,rfl,U,HR,HG⟩;have V:=hid (HE.out.grown HR.out HG.out);clear HR HG HO HE;obtain⟨kd,T,C,t,y,A,I⟩:=U.out.shape;obtain⟨p,hp⟩:∃p,p=n.at':=⟨_,rfl⟩;rw[<-hp]at I;subst I;have ax:Hid (n.at'=p):=hp.symm;clear hp;dsimp only[n8];have Y:=hid (V.out.alloc (.cells #[zI (kd:Int),zT T,zU (wd C 0:Nat),zU (wd C 1:Nat),zU (wd C 2:Nat),zU (wd C 3:Nat),.slice t y A,zI (p:Int)] 81));have aa:=hid (U.out.below (((Below.refl _ o).alloc L0q (.cells #[zI (kd:Int),zT T,zU (wd C 0:Nat),zU (wd C 1:Nat),zU (wd C 2:Nat),zU (wd C 3:Nat),.slice t y A,zI (p:Int)] 81))));have ab:Hid ((o.alloc (.cells #[zI (kd:Int),zT T,zU (wd C 0:Nat),zU (wd C 1:Nat),zU (wd C 2:Nat),zU (wd C 3:Nat),.slice t y A,zI (p:Int)] 81)).heap[o.heap.size]? =some (.cells #[zI (kd:Int),zT T,zU (wd C 0:Nat),zU (wd C 1:Nat),zU (wd C 2:Nat),zU (wd C 3:Nat),.slice t y A,zI (p:Int)] 81)):=Qx _ _ rfl;have af:Hid (w.heap.size<o.heap.size):=V.out.size;clear V U hr0
   go_wp2_with fail
   refine(HS.out _ Y.out.1).mono ?_;rintro e w2 ⟨rfl,D⟩;have E:=hid (Y.out.below D);have ad:=hid (aa.out.below D);have ae:=hid ((D.block _ (by simp)).trans ab.out);have ag:Hid (o.heap.size<w2.heap.size):=Nat.lt_of_lt_of_le (by simp) D.size;clear D HS Y aa ab
   go_wp2_with fail
   refine(HP.out _).mono ?_;rintro e w3 ⟨rfl,ac⟩;rw[ac];clear ac HP;obtain⟨⟨m0,m1,m2,m3,m4,m5,m6,m7⟩,⟨y0,y1,y2,y3,y4,y5,y6,y7⟩⟩:=Qg ae.out;obtain⟨r0,r1,r2,r3,q0,q1,q2,q3⟩:=E.out.1.cells;have az:=E.out.lt;have au:=af.out;have av:=ag.out;have aA:=E.out.1.lt;have aB:R≠o.heap.size:=by omega
   have aw:w.heap.size≠o.heap.size:=by omega
   have ah:=hid E.out.next;have aj:=hid (Qh.grown ad.out (G.setR (u:=zI ((k':Int)+1)) (j:=1) (G.refl w2 R)) E.out.1.1);clear E ad ae
   go_wp2_with fail
   refine(Ok r p (w.heap.size+1) n _ _ aj.out (by have:=ah.out.size;omega)).mono ?_;rintro e w5 ⟨cs,rfl,ak,al⟩;have ai:=hid (ah.out.below al.out);clear aj ah al;obtain⟨am,T2,C2,ao,ap,aq,I⟩:=ak.out.shape;rw[show(Nd.mk r {data:=#[]} 0 [n] p).at'=p from rfl]at I;subst I;obtain⟨p2,aC⟩:∃q,q=p:=⟨p,rfl⟩;dsimp only[n8];obtain⟨⟨k0,k1,k2,k3,k4,k5,k6,k7⟩,⟨f0,f1,f2,f3,f4,f5,f6,f7⟩⟩:=ai.out.cells;clear m0 m1 m2 m3 m4 m5 m6 m7 y0 y1 y2 y3 y4 y5 y6 y7 r0 r1 r2 r3 q0 q1 q2 q3
   go_wp2_with fail
   rw[ax.out]
   (try simp only[Exit.inBlock,Exit.then])
   obtain⟨⟨c0,c1,c2,c3,c4,c5,c6,c7⟩,_⟩:=Qg (Vw ai.out.2.2.1 (am:Int) T2 (wd C2 0:Nat) (wd C2 1:Nat) (wd C2 2:Nat) (wd C2 3:Nat) (.slice ao ap aq) (p:Int));refine bodyPost_ret (v:=.agg (n8 am T2 C2 (.slice ao ap aq) p).toArray) (by simp[results,Tryz.results249,go_sem,c0,c1,c2,c3,c4,c5,c6,c7]) rfl ?_;exact ai.out.fin ak.out hB
theorem Cw{F:Nat}{sp:Nat->Pr}{ne:Nat}(o:MC F sp (fun _=>True) R b v L ru ne)(k B:Nat)(r:k<L.length):Hid (∀w:World,Rd w R b v L k ru ne->B<=w.heap.size->Calls prog F #[zP R 0] w fun e w'=>Qd (sp k) B R b v L ru ne w e w'):=
 fun w h t=>o k B w h r trivial t
theorem z7R(R b:Nat)(v:Value)(L:List Tok)(ru ne:Nat)(inn:Nat->Pr)(hg:Ql L)(ha:Adv L inn)(ho:MC 249 (Jg L inn) (fun _=>True) R b v L ru ne):
  MC 213 (Gb L inn) (fun _=>True) R b v L ru ne:=by
 intro k B w h hk _ hB;have aj:=Tryz.fld3;have U:=Jh R b v L k ru ne hk hg;have V:=Gh R b v L k ru ne hk hg;have D:Hid (En w R b v L k ru ne (w.alloc Zo)):=En.start h;have ak:(k:Int)+1<9223372036854775807:=by have:=hg.len;omega
 unfold Gb;obtain⟨Z,hZ⟩:∃Z,Z=sgT (gL L k):=⟨_,rfl⟩;rw[<-hZ]at V ⊢;obtain⟨t,ht⟩:∃t,t=gL L k:=⟨_,rfl⟩;rw[<-ht]at U ⊢;clear ht;obtain⟨tk,tT,tC,p⟩:=t;by_cases hz12:Z={data:=#[33]}
 ·rw[if_pos hz12]
  have ai:=hg.sg hk (hZ▸hz12);have y:=Cw ho (k+1) (w.heap.size+1) ai;subst hz12;clear hZ ho h;cases hs:Jg L inn (k+1)with
  |inl c=>
   rw[hs]at y;clear hs;show Calls _ _ _ _ (fun e w'=>Qd (.inl c) B R b v L ru ne w e w');go_enter func213,ntmps213
   go_wp2_with fail
   refine(U.out _ D.out.1).mono ?_;rintro e w1 ⟨rfl,E⟩;have r:=hid (D.out.below E);clear E D U;dsimp only[tkv]
   go_wp2_with fail
   refine(V.out _ r.out.1).mono ?_;rintro e w2 ⟨rfl,G⟩;have o:=hid (r.out.below G);clear G r V;obtain⟨r0,r1,r2,r3,q0,q1,q2,q3⟩:=o.out.1.cells;have ab:=o.out.1.lt;have A:=hid o.out.next;clear o
   go_wp2_with fail
   refine(y.out _ A.out.1 (by have:=A.out.size;omega)).mono ?_;rintro e w3 hA;have HA:Hid (Qd (.inl c) B R b v L ru ne w e w3):=Qd.up A.out hA;obtain⟨f,rfl,_,_⟩:=hA;clear A y r0 r1 r2 r3 q0 q1 q2 q3
   go_wp2_with fail
   exact⟨rfl,HA.out⟩
  |inr q=>
   obtain⟨n,k'⟩:=q;rw[hs]at y;clear hs;show Calls _ _ _ _ (fun e w'=>Qd (.inr (.mk 12 {data:=#[]} 0 [n] p,k')) B R b v L ru ne w e w');go_enter func213,ntmps213
   go_wp2_with fail
   refine(U.out _ D.out.1).mono ?_;rintro e w1 ⟨rfl,E⟩;have r:=hid (D.out.below E);clear E D U;dsimp only[tkv]
   go_wp2_with fail
   refine(V.out _ r.out.1).mono ?_;rintro e w2 ⟨rfl,G⟩;have o:=hid (r.out.below G);clear G r V;obtain⟨r0,r1,r2,r3,q0,q1,q2,q3⟩:=o.out.1.cells;have ab:=o.out.1.lt;have A:=hid o.out.next;clear o
   go_wp2_with fail
   refine(y.out _ A.out.1 (by have:=A.out.size;omega)).mono ?_;rintro e w3 ⟨cs,rfl,HN,HR,HG⟩;have Y:=hid (A.out.grown HR.out HG.out);clear A y HR HG r0 r1 r2 r3 q0 q1 q2 q3 ab;have HV:=hid (Ok 12 p (w.heap.size+1) n _ _ HN.out (by have:=Y.out.size;omega));obtain⟨kd,T,C,so,sl,sc,I⟩:=HN.out.shape;obtain⟨p',hp⟩:∃p',p'=n.at':=⟨_,rfl⟩;rw[<-hp]at I;subst I;clear hp;dsimp only[n8]at HV ⊢
   go_wp2_with fail
   refine HV.out.mono ?_;rintro e w5 ⟨cs,rfl,ac,ad⟩;have aa:=hid (Y.out.below ad.out);clear HV HN Y ad;obtain⟨ae,T2,C2,af,ag,ah,I⟩:=ac.out.shape;rw[show(Nd.mk 12 {data:=#[]} 0 [n] p).at'=p from rfl]at I;subst I;dsimp only[n8];obtain⟨⟨k0,k1,k2,k3,k4,k5,k6,k7⟩,⟨f0,f1,f2,f3,f4,f5,f6,f7⟩⟩:=aa.out.cells
   go_wp2_with fail
   (try simp only[Exit.inBlock,Exit.then])
   obtain⟨⟨c0,c1,c2,c3,c4,c5,c6,c7⟩,_⟩:=Qg (Vw aa.out.2.2.1 (ae:Int) T2 (wd C2 0:Nat) (wd C2 1:Nat) (wd C2 2:Nat) (wd C2 3:Nat) (.slice af ag ah) (p:Int));refine bodyPost_ret (v:=.agg (n8 ae T2 C2 (.slice af ag ah) p).toArray) (by simp[results,Tryz.results213,go_sem,c0,c1,c2,c3,c4,c5,c6,c7]) rfl ?_;exact aa.out.fin ac.out hB
 rw[if_neg hz12];have e1:(Z.toList == [33])=false:=Jy hz12;by_cases hz11:Z={data:=#[38]}
 ·rw[if_pos hz11]
  have ai:=hg.sg hk (hZ▸hz11);have y:=Cw ho (k+1) (w.heap.size+1) ai;subst hz11;clear hz12 e1;clear hZ ho h;cases hs:Jg L inn (k+1)with
  |inl c=>
   rw[hs]at y;clear hs;show Calls _ _ _ _ (fun e w'=>Qd (.inl c) B R b v L ru ne w e w');go_enter func213,ntmps213
   go_wp2_with fail
   refine(U.out _ D.out.1).mono ?_;rintro e w1 ⟨rfl,E⟩;have r:=hid (D.out.below E);clear E D U;dsimp only[tkv]
   go_wp2_with fail
   refine(V.out _ r.out.1).mono ?_;rintro e w2 ⟨rfl,G⟩;have o:=hid (r.out.below G);clear G r V;obtain⟨r0,r1,r2,r3,q0,q1,q2,q3⟩:=o.out.1.cells;have ab:=o.out.1.lt;have A:=hid o.out.next;clear o
   go_wp2_with fail
   refine(y.out _ A.out.1 (by have:=A.out.size;omega)).mono ?_;rintro e w3 hA;have HA:Hid (Qd (.inl c) B R b v L ru ne w e w3):=Qd.up A.out hA;obtain⟨f,rfl,_,_⟩:=hA;clear A y r0 r1 r2 r3 q0 q1 q2 q3
   go_wp2_with fail
   exact⟨rfl,HA.out⟩
  |inr q=>
   obtain⟨n,k'⟩:=q;rw[hs]at y;clear hs;show Calls _ _ _ _ (fun e w'=>Qd (.inr (.mk 11 {data:=#[]} 0 [n] p,k')) B R b v L ru ne w e w');go_enter func213,ntmps213
   go_wp2_with fail
   refine(U.out _ D.out.1).mono ?_;rintro e w1 ⟨rfl,E⟩;have r:=hid (D.out.below E);clear E D U;dsimp only[tkv]
   go_wp2_with fail
   refine(V.out _ r.out.1).mono ?_;rintro e w2 ⟨rfl,G⟩;have o:=hid (r.out.below G);clear G r V;obtain⟨r0,r1,r2,r3,q0,q1,q2,q3⟩:=o.out.1.cells;have ab:=o.out.1.lt;have A:=hid o.out.next;clear o
   go_wp2_with fail
   refine(y.out _ A.out.1 (by have:=A.out.size;omega)).mono ?_;rintro e w3 ⟨cs,rfl,HN,HR,HG⟩;have Y:=hid (A.out.grown HR.out HG.out);clear A y HR HG r0 r1 r2 r3 q0 q1 q2 q3 ab;have HV:=hid (Ok 11 p (w.heap.size+1) n _ _ HN.out (by have:=Y.out.size;omega));obtain⟨kd,T,C,so,sl,sc,I⟩:=HN.out.shape;obtain⟨p',hp⟩:∃p',p'=n.at':=⟨_,rfl⟩;rw[<-hp]at I;subst I;clear hp;dsimp only[n8]at HV ⊢
   go_wp2_with fail
   refine HV.out.mono ?_;rintro e w5 ⟨cs,rfl,ac,ad⟩;have aa:=hid (Y.out.below ad.out);clear HV HN Y ad;obtain⟨ae,T2,C2,af,ag,ah,I⟩:=ac.out.shape;rw[show(Nd.mk 11 {data:=#[]} 0 [n] p).at'=p from rfl]at I;subst I;dsimp only[n8];obtain⟨⟨k0,k1,k2,k3,k4,k5,k6,k7⟩,⟨f0,f1,f2,f3,f4,f5,f6,f7⟩⟩:=aa.out.cells
   go_wp2_with fail
   (try simp only[Exit.inBlock,Exit.then])
   obtain⟨⟨c0,c1,c2,c3,c4,c5,c6,c7⟩,_⟩:=Qg (Vw aa.out.2.2.1 (ae:Int) T2 (wd C2 0:Nat) (wd C2 1:Nat) (wd C2 2:Nat) (wd C2 3:Nat) (.slice af ag ah) (p:Int));refine bodyPost_ret (v:=.agg (n8 ae T2 C2 (.slice af ag ah) p).toArray) (by simp[results,Tryz.results213,go_sem,c0,c1,c2,c3,c4,c5,c6,c7]) rfl ?_;exact aa.out.fin ac.out hB
 rw[if_neg hz11];have e2:(Z.toList == [38])=false:=Jy hz11;have y:=Cw ho k (w.heap.size+1) hk;clear hZ ho h hz11 hz12;cases hs:Jg L inn k with
 |inl c=>
  rw[hs]at y;clear hs;go_enter func213,ntmps213
  go_wp2_with fail
  refine(U.out _ D.out.1).mono ?_;rintro e w1 ⟨rfl,E⟩;have r:=hid (D.out.below E);clear E D U;dsimp only[tkv]
  go_wp2_with fail
  refine(V.out _ r.out.1).mono ?_;rintro e w2 ⟨rfl,G⟩;have o:=hid (r.out.below G);clear G r V
  go_wp2_with fail
  refine(y.out _ o.out.1 (by have:=o.out.size;omega)).mono ?_;rintro e w3 hA;have HA:Hid (Qd (.inl c) B R b v L ru ne w e w3):=Qd.up o.out hA;obtain⟨f,rfl,_,_⟩:=hA;clear o y
  go_wp2_with fail
  exact⟨rfl,HA.out⟩
 |inr q=>
  obtain⟨n,k'⟩:=q;rw[hs]at y;clear hs;go_enter func213,ntmps213
  go_wp2_with fail
  refine(U.out _ D.out.1).mono ?_;rintro e w1 ⟨rfl,E⟩;have r:=hid (D.out.below E);clear E D U;dsimp only[tkv]
  go_wp2_with fail
  refine(V.out _ r.out.1).mono ?_;rintro e w2 ⟨rfl,G⟩;have o:=hid (r.out.below G);clear G r V
  go_wp2_with fail
  refine(y.out _ o.out.1 (by have:=o.out.size;omega)).mono ?_;rintro e w3 ⟨cs,rfl,HN,HR,HG⟩;have Y:=hid (o.out.grown HR.out HG.out);clear o y HR HG;obtain⟨kd,T,C,so,sl,sc,I⟩:=HN.out.shape;obtain⟨p',hp⟩:∃p',p'=n.at':=⟨_,rfl⟩;rw[<-hp]at I;subst I;clear hp;dsimp only[n8];obtain⟨⟨k0,k1,k2,k3,k4,k5,k6,k7⟩,⟨f0,f1,f2,f3,f4,f5,f6,f7⟩⟩:=Y.out.cells
  go_wp2_with fail
  (try simp only[Exit.inBlock,Exit.then])
  obtain⟨⟨c0,c1,c2,c3,c4,c5,c6,c7⟩,_⟩:=Qg (Vw Y.out.2.2.1 (kd:Int) T (wd C 0:Nat) (wd C 1:Nat) (wd C 2:Nat) (wd C 3:Nat) (.slice so sl sc) (p':Int));refine bodyPost_ret (v:=.agg (n8 kd T C (.slice so sl sc) p').toArray) (by simp[results,Tryz.results213,go_sem,c0,c1,c2,c3,c4,c5,c6,c7]) rfl ?_;exact Y.out.fin HN.out hB
def Ro(B:Nat)(pv:Value)(acc:List Nd)(W:World):Prop:=
 ∃xs,W.ownsRow B 81 8 pv acc.length xs/\Qp W (fun g=>B<=g/\pv.ownBlock≠some g) acc xs
theorem Qq{g:Nat}{o:Obj}(h:w.heap[g]? =some o):g<w.heap.size:=by
 rcases Nat.lt_or_ge g w.heap.size with r|r
 ·exact r
 ·rw[Array.getElem?_eq_none r]at h;cases h
theorem Ro.grown{pv:Value}(h:Ro B pv acc W)(o:W.grownBy W' (some R))(D:R<B):Ro B pv acc W':=by
 obtain⟨xs,r,y⟩:=h;refine⟨xs,r.kept o (.inr (fun e=>by have:=(r.lt _ e).1;omega)),Qp.kept (fun g E t A=>⟨o.block g (Qq A) (fun e=> ?_),t⟩) _ _ y⟩;have G:g=R:=Option.some.inj e;have:=t.1;omega
theorem Ro.below{pv:Value}(h:Ro B pv acc W)(o:zB W W'):Ro B pv acc W':=by
 obtain⟨xs,r,t⟩:=h;exact⟨xs,Xh r o,Qp.kept (fun g D y A=>⟨o.block g (Qq A),y⟩) _ _ t⟩
theorem Ro.blk{pv:Value}(h:Ro B pv acc W):∀g,pv.ownBlock=some g->g<W.heap.size:=fun g e=>by obtain⟨xs,o,_⟩:=h;exact(o.lt _ e).2
theorem Ro.nil(B:Nat)(W:World):Ro B (.slice none 0 0) [] W:=⟨[],World.ownsRow_nil _ _ _ _,by rw[Qp];trivial⟩
theorem Ro.app{D:Nat}{pv r:Value}{xs c:List Value}{o t W4:World}(U:o.ownsRow B 81 8 pv acc.length xs)(ha:Qp o (fun g=>B<=g/\pv.ownBlock≠some g) acc xs)(V:Qh o (fun g=>D<=g) n c)(hD:B<=D)(Y:∀g,pv.ownBlock=some g->g<D)(E:zB o t)
  (Z:W4.ownsRow B 81 8 r (acc.length+1) (xs++c))(aa:t.grownBy W4 pv.ownBlock)(ab:r.ownBlock=pv.ownBlock∨r.ownBlock=some t.heap.size):Ro B r (acc++[n]) W4:=by
 have G:∀g,g<o.heap.size->pv.ownBlock≠some g->W4.heap[g]? =o.heap[g]? /\r.ownBlock≠some g:=fun g hl I=>by
  have hs:=E.size;refine⟨(aa.block g (by omega) (fun e=>I e.symm)).trans (E.block g hl),?_⟩;rcases ab with h|h
  ·rw[h];exact I
  ·rw[h];intro e;have:=Option.some.inj e;omega
 refine⟨xs++c,by simpa using Z,Qp.append _ _ _ _ (Qp.kept (fun g ac y A=> ?_) _ _ ha) U.1 (Qh.kept (fun g ac y A=> ?_) _ _ V)⟩
 ·have:=G g (Qq A) y.2
  exact⟨this.1,y.1,this.2⟩
 ·have:=G g (Qq A) (fun e=>by have:=Y g e;omega)
  exact⟨this.1,by omega,this.2⟩
theorem En.rowed{ne:Nat}{row:Option Nat}(h:En w R b v L k ru ne W)(o:W.grownBy W' row)(r:∀g,row=some g->w.heap.size<g):En w R b v L k ru ne W':=by
 have y:=h.lt;have A:=h.size;have t:some R≠row:=fun e=>by have:=r R e.symm;omega
 have D:some w.heap.size≠row:=fun e=>by have:=r _ e.symm;omega
 have E:v.ownBlock=none∨v.ownBlock≠row:=by
  cases hv:v.ownBlock with
  |none=>exact .inl rfl
  |some g=>exact .inr (fun e=>h.2.2.2.2 g (by have:=r g e.symm;omega) hv)
 exact⟨⟨(o.block R (by omega) t).trans h.1.1,h.1.2.kept o E⟩,⟨o.os.trans h.2.1.os,o.tape.trans h.2.1.tape,o.output.trans h.2.1.output,Nat.le_trans h.2.1.size o.size,fun j G t=>(o.block j (by omega) (fun e=>by have:=r j e.symm;omega)).trans (h.2.1.block j G t)⟩,(o.block _ A D).trans h.2.2.1,y,h.2.2.2.2⟩
theorem Tryz.infoNd:(Tryz.prog.info? 81).map (fun i=>(i.zero,i.size,i.bytes))=some (some (.agg #[zI 0,zT {data:=#[]},zU 0,zU 0,zU 0,zU 0,.slice none 0 0,zI 0]),8,88):=by kernel_rfl
theorem Oy(w:World)(a b c d e f g h:Value)(t:TypeId):∀j x,[a,b,c,d,e,f,g,h][j]? =some x->(w.alloc (.cells #[a,b,c,d,e,f,g,h] t)).cell? ((⟨w.heap.size,0,none⟩:Addr).add j)=some x:=by
 intro j x o
 match j,o with
 |0,o=>simp at o;subst o;simp[Addr.add]
 |1,o=>simp at o;subst o;simp[Addr.add]
 |2,o=>simp at o;subst o;simp[Addr.add]
 |3,o=>simp at o;subst o;simp[Addr.add]
 |4,o=>simp at o;subst o;simp[Addr.add]
 |5,o=>simp at o;subst o;simp[Addr.add]
 |6,o=>simp at o;subst o;simp[Addr.add]
 |7,o=>simp at o;subst o;simp[Addr.add]
theorem Of(a:Int)(T:zA)(c0 c1 c2 c3:Int)(o:Option Addr)(r t:Nat)(p:Int):∀u∈[Value.int .i64 a,zT T,zU c0,zU c1,zU c2,zU c3,.slice o r t,zI p],u.oneCell'=true:=by
 intro u h;simp at h;rcases h with rfl|rfl|rfl|rfl|rfl|rfl|rfl|rfl<;>rfl
theorem Ro.joined{pv:Value}{r:List Nd}(h:Ro B pv (n::r) W)(A:B<=W.heap.size)(D:r.length<=100000)(kd:Nat):∃g o,pv=zS g (r.length+1) o/\Hid (Calls prog 181 #[zI (kd:Int),zS g (r.length+1) o] W fun e w'=>∃y:List Value,e=.returned (.agg y.toArray)/\Hid (Qh w' (fun g=>B<=g) (Jf kd (n::r)) y)/\Hid (zB W w')):=by
 obtain⟨xs,t,E⟩:=h;rw[List.length_cons]at t;obtain⟨g,o,rfl⟩:=Jv t (by omega);exact⟨g,o,rfl,z7A kd B g o n r xs W t (E.weak (fun g h=>h.1)) A D⟩
theorem Ro.shape0{pv:Value}(h:Ro B pv [] W):∃a c,pv=.slice a 0 c:=by
 obtain⟨xs,o,r⟩:=h;exact Dd o
def Up(R:Nat)(w:World):Nat:=(intOf ((w.cell? ⟨R,1,none⟩).getD (zI 0))).toNat
theorem Dp{ne:Nat}(h:Rd w R b v L k ru ne):Up R w=k:=by
 unfold Up;rw[h.cells.2.1];simp[intOf]
theorem z7S(R b:Nat)(v:Value)(L:List Tok)(ru ne:Nat)(inn:Nat->Pr)(hg:Ql L)(ha:Adv L inn)(ho:MC 213 (Gb L inn) (fun _=>True) R b v L ru ne):
  MC 179 (fun k=>Xd L inn L.length k []) (fun _=>True) R b v L ru ne:=by
 intro k B w h hk _ hB;obtain⟨iT,aB,aC,aD,aE⟩:=info_parts Tryz.infoNd;have aL:=Tryz.fld3;have ai:Hid (En w R b v L k ru ne (w.alloc Zo)):=En.start h;obtain⟨E,hR⟩:∃E,E=Xd L inn L.length k []:=⟨_,rfl⟩;have aj:Hid (Xd L inn L.length k []=E):=hR.symm;simp only;rw[<-hR];have HM:Hid (MC 213 (Gb L inn) (fun _=>True) R b v L ru ne):=ho;have HG:Hid (Ql L):=hg;have HA:Hid (Adv L inn):=ha;have aM:=hg.len;clear hR h ho hg ha;go_enter func179,ntmps179
 go_wp2_with fail
 go_loopw [3] (fun a wr=>∃(f j:Nat) (acc:List Nd),j<L.length/\L.length<=f+j/\acc.length<=j/\Hid (Xd L inn f j acc=E)/\Hid (Ro (w.heap.size+1) a acc wr)/\Hid (En w R b v L j ru ne wr)) (fun _ wr=>L.length-Up R wr)
 case atStart=>exact⟨L.length,k,[],hk,by omega,by simp,aj,hid (Ro.nil _ _),ai⟩
 case round=>
  obtain⟨f,j,acc,hj,aN,ak,G,I,y⟩:=hrel;clear aj ai;have D:=z7H R b v L j ru ne hj HG.out;have HT:=Jh R b v L j ru ne hj HG.out;cases f with
  |zero=>omega
  |succ f=>
  cases hpt:ptB L j (gL L j)with
  |true=>
   rw[hpt]at D;have Z:=hid (fun(W:World) (h:Rd W R b v L j ru ne)=>HM.out j W.heap.size W h hj trivial L0q);clear HM HT;cases hs:Gb L inn j with
   |inl c=>
    have U:Hid (E=.inl c):=by show _=_;rw[<-G.out,Xd,if_pos hpt,hs]
    rw[hs]at Z;clear hs hpt G
    go_wp2_with fail
    refine(D.out _ y.out.1).mono ?_;rintro e w1 ⟨rfl,A⟩;have o:=hid (y.out.below A);clear A y D I
    go_wp2_with fail
    refine(Z.out _ o.out.1).mono ?_;rintro e V hA;have aF:Hid (Qd E B R b v L ru ne w e V):=by show Qd _ _ _ _ _ _ _ _ _ _ _;rw[U.out];exact Qd.up o.out hA
    obtain⟨f',rfl,_,_⟩:=hA;clear o Z U
    go_wp2_with fail
    exact⟨rfl,aF.out⟩
   |inr q=>
    obtain⟨n,k'⟩:=q;have aG:=z0U HG.out HA.out hj hs;have aH:Hid (Xd L inn f k' (acc++[n])=E):=by show _=_;rw[<-G.out,Xd,if_pos hpt,hs]
    rw[hs]at Z;clear hs hpt G
    go_wp2_with fail
    refine(D.out _ y.out.1).mono ?_;rintro e w1 ⟨rfl,A⟩;have o:=hid (y.out.below A);have aa:=hid (I.out.below A);have HJ:Hid (Up R wr=j):=Dp y.out.1;clear A y D I
    go_wp2_with fail
    refine(Z.out _ o.out.1).mono ?_;rintro e V ⟨cs,rfl,HN,HR,ad⟩;have ae:=hid (o.out.grown HR.out ad.out);have al:=hid (aa.out.grown ad.out (by have:=o.out.lt;omega));have am:=hid (aa.out.blk);have ao:Hid (w.heap.size+1<=w1.heap.size):=o.out.size;clear o aa HR ad Z;obtain⟨kd,T,C,so,sl,sc,ab⟩:=HN.out.shape;obtain⟨p,hp⟩:∃p,p=n.at':=⟨_,rfl⟩;rw[<-hp]at ab;subst ab;clear hp;obtain⟨xs,ap,aq⟩:=al.out;have ac:=hid ap;have ar:=hid aq;clear ap aq al;dsimp only[n8]
    go_wp2_with(first|(at_builtin;refine wpList_append_own_at _ rfl (.tmp 6) (.tmp 9) 79 rfl (w.heap.size+1) 81 iT (.agg #[zI 0,zT {data:=#[]},zU 0,zU 0,zU 0,zU 0,.slice none 0 0,zI 0]) 8 88 Tryz.underlying79 aB aC aD aE rfl (by decide) _ _ _ rfl (ac.out.alloc _) ⟨V.heap.size,0,none⟩ 1 1 (n8 kd T C (.slice so sl sc) p) rfl rfl (Oy V _ _ _ _ _ _ _ _ 81) (Of _ _ _ _ _ _ _ _ _ _) (by unfold maxLen;omega) (by omega) (by have:=ae.out.size;simp;omega) ?_;intro v4 w4 au af aI av))
    have aJ:Hid (Ro (w.heap.size+1) v4 (acc++[n]) w4):=Ro.app ac.out ar.out HN.out ao.out am.out ((Below.refl _ V).alloc L0q _) au af av;have aw:Hid (En w R b v L k' ru ne w4):=(ae.out.alloc _).rowed af (fun g e=>by have:=(ac.out.lt g e).1;omega);have aK:Hid (Up R w4=k'):=Dp aw.out.1;clear au af aI av ac ar HN ae am ao
    go_wp2_with fail
    go_roundw
    case rel=>exact⟨f,k',acc++[n],aG.2,by omega,by simp;omega,aH,aJ,aw⟩
    case measure=>rw[HJ.out,aK.out];omega
  |false=>
   rw[hpt]at D;clear HM;cases acc with
   |nil=>
    have U:Hid (E=.inr (.mk 1 {data:=#[]} 0 [] (gL L j).2.2.2,j)):=by show _=_;rw[<-G.out,Xd,if_neg (by rw[hpt];decide)];rfl
    obtain⟨sa,aO,ag⟩:=I.out.shape0;subst ag;clear hpt G I
    go_wp2_with fail
    refine(D.out _ y.out.1).mono ?_;rintro e w1 ⟨rfl,A⟩;have o:=hid (y.out.below A);clear A y D
    go_wp2_with fail
    refine(HT.out _ o.out.1).mono ?_;rintro e V ⟨rfl,ax⟩;have Y:=hid (o.out.below ax);clear ax o HT;obtain⟨t,ht⟩:∃t,t=gL L j:=⟨_,rfl⟩;rw[<-ht]at U ⊢;clear ht;obtain⟨tk,tT,tC,p⟩:=t;dsimp only[tkv];obtain⟨⟨k0,k1,k2,k3,k4,k5,k6,k7⟩,⟨f0,f1,f2,f3,f4,f5,f6,f7⟩⟩:=Y.out.cells
    go_wp2_with fail
    (try simp only[Exit.inBlock,Exit.then])
    obtain⟨⟨c0,c1,c2,c3,c4,c5,c6,c7⟩,_⟩:=Qg (Vw Y.out.2.2.1 1 {data:=#[]} 0 0 0 0 (.slice none 0 0) (p:Int));refine bodyPost_ret (v:=.agg (n8 1 {data:=#[]} 0 (.slice none 0 0) p).toArray) (by simp[results,Tryz.results179,go_sem,c0,c1,c2,c3,c4,c5,c6,c7,Jk]) rfl ?_;rw[U.out];have hf:=Y.out.fin (B:=B) (n:=.mk 1 {data:=#[]} 0 [] p) (sv:=.slice none 0 0) (kd:=1) (T:={data:=#[]}) (C:=0) (p:=p) (by rw[Qh];exact⟨_,rfl,.inl ⟨rfl,rfl⟩⟩) hB;simpa [Jk]using hf
   |cons n r=>
    have U:Hid (E=.inr (Jf 6 (n::r),j)):=by show _=_;rw[<-G.out,Xd,if_neg (by rw[hpt];decide)];rfl
    rw[List.length_cons]at ak;clear hpt G;obtain⟨aP,ah,_⟩:=I.out;rw[List.length_cons]at ah;obtain⟨g,aQ,ag⟩:=Jv ah (by omega);clear ah;subst ag;have t0:((r.length:Int)+1 == 0)=false:=by simp;omega
    obtain⟨m,hm⟩:∃m,m=r.length:=⟨_,rfl⟩;have ay:Hid (m=r.length):=hm;rw[<-hm]at t0 ak ⊢;clear hm
    go_wp2_with fail
    refine(D.out _ y.out.1).mono ?_;rintro e w1 ⟨rfl,A⟩;have o:=hid (y.out.below A);have aa:=hid (I.out.below A);clear A y D I HT;obtain⟨g',aR,hq,HJ⟩:=aa.out.joined o.out.size (by rw[<-ay.out];omega) 6;rw[<-ay.out]at HJ hq;cases hq;clear aa
    go_wp2_with fail
    refine HJ.out.mono ?_;rintro e V ⟨cs,rfl,az,aA⟩;have Y:=hid (o.out.below aA.out);clear aA o HJ;obtain⟨kd,T,C,so,sl,sc,ab⟩:=az.out.shape;obtain⟨p,hp⟩:∃p,p=(Jf 6 (n::r)).at':=⟨_,rfl⟩;rw[<-hp]at ab;subst ab;clear hp;dsimp only[n8];obtain⟨⟨k0,k1,k2,k3,k4,k5,k6,k7⟩,⟨f0,f1,f2,f3,f4,f5,f6,f7⟩⟩:=Y.out.cells
    go_wp2_with fail
    (try simp only[Exit.inBlock,Exit.then])
    obtain⟨⟨c0,c1,c2,c3,c4,c5,c6,c7⟩,_⟩:=Qg (Vw Y.out.2.2.1 (kd:Int) T (wd C 0:Nat) (wd C 1:Nat) (wd C 2:Nat) (wd C 3:Nat) (.slice so sl sc) (p:Int));refine bodyPost_ret (v:=.agg (n8 kd T C (.slice so sl sc) p).toArray) (by simp[results,Tryz.results179,go_sem,c0,c1,c2,c3,c4,c5,c6,c7]) rfl ?_;rw[U.out];exact Y.out.fin az.out hB
theorem Ro.one{o a1 a2 a3 a4 r t y:Value}(h:Qh W (fun g=>B<=g) n [o,a1,a2,a3,a4,r,t,y])(D:B<=W.heap.size):Ro B (zS W.heap.size 1 1) [n] (W.alloc (.cells #[o,a1,a2,a3,a4,r,t,y] 81)):=by
 refine⟨[o,a1,a2,a3,a4,r,t,y],⟨rfl,.inr ⟨W.heap.size,1,_,rfl,D,Qx _ _ rfl,Nat.le_refl _,by unfold maxLen;omega,rfl,rfl⟩⟩,?_⟩;rw[Qp];refine⟨[o,a1,a2,a3,a4,r,t,y],[],by simp,Qh.kept (fun g G E A=>⟨Below.heap_alloc W _ g (Qq A),E,?_⟩) n _ h,by rw[Qp];trivial⟩;intro e;have I:W.heap.size=g:=Option.some.inj e;have:=Qq A;omega
theorem z7T(R b:Nat)(v:Value)(L:List Tok)(ru ne:Nat)(inn:Nat->Pr)(hg:Ql L)(ha:Adv L inn)(ho:MC 179 (fun k=>Xd L inn L.length k []) (fun _=>True) R b v L ru ne):
  MC 145 (chS L inn) (fun _=>True) R b v L ru ne:=by
 intro k B w h hk _ hB;obtain⟨iT,aF,aG,aH,aI⟩:=info_parts Tryz.infoNd;have af:Hid (En w R b v L k ru ne (w.alloc Zo)):=En.start h;have HM:Hid (MC 179 (fun k=>Xd L inn L.length k []) (fun _=>True) R b v L ru ne):=ho;have HG:Hid (Ql L):=hg;have HA:Hid (Adv L inn):=ha;have aR:=hg.len;have HO:=hid (ho k (w.heap.size+1) (w.alloc Zo) (h.alloc _) hk trivial (by simp));unfold chS;cases hs:Xd L inn L.length k []with
 |inl c=>
  simp only[hs]at HO;clear ho h hg ha HM hs;show Calls _ _ _ _ (fun e w'=>Qd (.inl c) B R b v L ru ne w e w');go_enter func145,ntmps145
  go_wp2_with fail
  refine HO.out.mono ?_;rintro e w1 hA;have ag:Hid (Qd (.inl c) B R b v L ru ne w e w1):=Qd.up af.out hA;obtain⟨f,rfl,_,_⟩:=hA;clear HO af
  go_wp2_with fail
  exact⟨rfl,ag.out⟩
 |inr q=>
  obtain⟨n,k1⟩:=q;have aJ:=Nf hg ha _ _ _ _ _ hk hs;simp only[hs]at HO;obtain⟨D,hR⟩:∃D,D=Vd L inn L.length k1 [n]:=⟨_,rfl⟩;have am:Hid (Vd L inn L.length k1 [n]=D):=hR.symm;show Calls _ _ _ _ (fun e w'=>Qd (Vd L inn L.length k1 [n]) B R b v L ru ne w e w');rw[<-hR];clear hR h ho hg ha hs;go_enter func145,ntmps145
  go_wp2_with fail
  refine HO.out.mono ?_;rintro e w1 ⟨cs,rfl,V,HR,aa⟩;have Y:=hid (af.out.grown HR.out aa.out);clear HO HR aa af;obtain⟨kd,T,C,so,sl,sc,E⟩:=V.out.shape;obtain⟨p,I⟩:∃p,p=n.at':=⟨_,rfl⟩;rw[<-I]at E;subst E;clear I;dsimp only[n8];have ad:=hid (Ro.one V.out Y.out.size);have ao:=hid (Y.out.alloc (.cells #[zI (kd:Int),zT T,zU (wd C 0:Nat),zU (wd C 1:Nat),zU (wd C 2:Nat),zU (wd C 3:Nat),.slice so sl sc,zI (p:Int)] 81));clear V Y
  go_wp2_with fail
  go_loopw [3] (fun a wr=>∃(f j:Nat) (m:Nd) (r:List Nd),j<L.length/\L.length<=f+j/\r.length<=j/\Hid (Vd L inn f j (m::r)=D)/\Hid (Ro (w.heap.size+1) a (m::r) wr)/\Hid (En w R b v L j ru ne wr)) (fun _ wr=>L.length-Up R wr)
  case atStart=>exact⟨L.length,k1,n,[],aJ.2,by omega,by simp,am,ad,ao⟩
  case round=>
   obtain⟨f,j,m,r,hj,aS,aK,ab,ac,t⟩:=hrel;clear am ao ad;have U:=Gh R b v L j ru ne hj HG.out;have aT:(j:Int)+1<9223372036854775807:=by omega
   cases f with
   |zero=>omega
   |succ f=>
   by_cases hz:sgT (gL L j)={data:=#[47]}
   ·have ap:=HG.out.sg hj hz
    rw[hz]at U;have HC:=hid (fun(W:World) (h:Rd W R b v L (j+1) ru ne)=>HM.out (j+1) W.heap.size W h ap trivial L0q);cases hs:Xd L inn L.length (j+1) []with
    |inl c=>
     have HF:Hid (D=.inl c):=by show _=_;rw[<-ab.out,Vd,if_pos hz,hs]
     simp only[hs]at HC;clear hs hz ab
     go_wp2_with fail
     refine(U.out _ t.out.1).mono ?_;rintro e w2 ⟨rfl,y⟩;have o:=hid (t.out.below y);clear y t U ac;obtain⟨r0,r1,r2,r3,q0,q1,q2,q3⟩:=o.out.1.cells;have ah:=o.out.1.lt;have A:=hid o.out.next;clear o
     go_wp2_with fail
     refine(HC.out _ A.out.1).mono ?_;rintro e w5 hA;have ag:Hid (Qd D B R b v L ru ne w e w5):=by show Qd _ _ _ _ _ _ _ _ _ _ _;rw[HF.out];exact Qd.up A.out hA
     obtain⟨f',rfl,_,_⟩:=hA;clear A HC HF r0 r1 r2 r3 q0 q1 q2 q3 ah
     go_wp2_with fail
     exact⟨rfl,ag.out⟩
    |inr q=>
     obtain⟨n2,k'⟩:=q;have aL:=Nf HG.out HA.out _ _ _ _ _ ap hs;have aM:Hid (Vd L inn f k' ((m::r)++[n2])=D):=by show _=_;rw[<-ab.out,Vd,if_pos hz,hs]
     simp only[hs]at HC;clear hs hz ab;have HJ:Hid (Up R wr=j):=Dp t.out.1
     go_wp2_with fail
     refine(U.out _ t.out.1).mono ?_;rintro e w2 ⟨rfl,y⟩;have o:=hid (t.out.below y);have aq:=hid (ac.out.below y);clear y t U ac;obtain⟨r0,r1,r2,r3,q0,q1,q2,q3⟩:=o.out.1.cells;have ah:=o.out.1.lt;have A:=hid o.out.next;have ai:=hid (aq.out.grown (G.setR (u:=zI ((j:Int)+1)) (j:=1) (G.refl w2 R)) (by have:=o.out.lt;omega));clear o aq
     go_wp2_with fail
     refine(HC.out _ A.out.1).mono ?_;rintro e w5 ⟨cs,rfl,V,HR,aa⟩;have aj:=hid (A.out.grown HR.out aa.out);have ar:=hid (ai.out.grown aa.out (by have:=A.out.lt;omega));have au:=hid (ai.out.blk);have av:Hid (w.heap.size+1<=(w2.setCell ⟨R,1,none⟩ (zI ((j:Int)+1))).heap.size):=A.out.size;clear A ai HR aa HC r0 r1 r2 r3 q0 q1 q2 q3 ah;obtain⟨kd,T,C,so,sl,sc,E⟩:=V.out.shape;obtain⟨p,I⟩:∃p,p=n2.at':=⟨_,rfl⟩;rw[<-I]at E;subst E;clear I;obtain⟨xs,aw,ax⟩:=ar.out;have ae:=hid aw;have ay:=hid ax;clear aw ax ar;rw[List.length_cons]at ae;dsimp only[n8]
     go_wp2_with(first|(at_builtin;refine wpList_append_own_at _ rfl (.tmp 17) (.tmp 20) 79 rfl (w.heap.size+1) 81 iT (.agg #[zI 0,zT {data:=#[]},zU 0,zU 0,zU 0,zU 0,.slice none 0 0,zI 0]) 8 88 Tryz.underlying79 aF aG aH aI rfl (by decide) _ _ _ rfl (ae.out.alloc _) ⟨w5.heap.size,0,none⟩ 1 1 (n8 kd T C (.slice so sl sc) p) rfl rfl (Oy w5 _ _ _ _ _ _ _ _ 81) (Of _ _ _ _ _ _ _ _ _ _) (by unfold maxLen;omega) (by omega) (by have:=aj.out.size;simp;omega) ?_;intro v6 w6 az ak aN aA))
     have aO:Hid (Ro (w.heap.size+1) v6 ((m::r)++[n2]) w6):=Ro.app ae.out ay.out V.out av.out au.out ((Below.refl _ w5).alloc L0q _) az ak aA;have aB:Hid (En w R b v L k' ru ne w6):=(aj.out.alloc _).rowed ak (fun g e=>by have:=(ae.out.lt g e).1;omega);have aP:Hid (Up R w6=k'):=Dp aB.out.1;clear az ak aN aA ae ay V aj au av
     go_wp2_with fail
     go_roundw
     case rel=>exact⟨f,k',m,r++[n2],aL.2,by omega,by simp;omega,aM,aO,aB⟩
     case measure=>rw[HJ.out,aP.out];omega
   ·have HF:Hid (D=.inr (Jf 7 (m::r),j)):=by show _=_;rw[<-ab.out,Vd,if_neg hz]
    obtain⟨Z,hZ⟩:∃Z,Z=sgT (gL L j):=⟨_,rfl⟩;rw[<-hZ]at U hz;have z1:(Z.toList == [47])=false:=Jy hz;clear hZ hz ab HM;obtain⟨aU,al,_⟩:=ac.out;rw[List.length_cons]at al;obtain⟨g,aV,aQ⟩:=Jv al (by omega);clear al;subst aQ;obtain⟨q,hq⟩:∃q,q=r.length:=⟨_,rfl⟩;have aC:Hid (q=r.length):=hq;rw[<-hq]at aK ⊢;clear hq
    go_wp2_with fail
    refine(U.out _ t.out.1).mono ?_;rintro e w2 ⟨rfl,y⟩;have Y:=hid (t.out.below y);have ad:=hid (ac.out.below y);clear y t U ac;obtain⟨g',aW,hq,HJ⟩:=ad.out.joined Y.out.size (by rw[<-aC.out];omega) 7;rw[<-aC.out]at HJ hq;cases hq;clear ad
    go_wp2_with fail
    refine HJ.out.mono ?_;rintro e w3 ⟨cs,rfl,aD,aE⟩;have o:=hid (Y.out.below aE.out);clear aE Y HJ;obtain⟨kd,T,C,so,sl,sc,E⟩:=aD.out.shape;obtain⟨p,I⟩:∃p,p=(Jf 7 (m::r)).at':=⟨_,rfl⟩;rw[<-I]at E;subst E;clear I;dsimp only[n8];obtain⟨⟨k0,k1,k2,k3,k4,k5,k6,k7⟩,⟨f0,f1,f2,f3,f4,f5,f6,f7⟩⟩:=o.out.cells
    go_wp2_with fail
    (try simp only[Exit.inBlock,Exit.then])
    obtain⟨⟨c0,c1,c2,c3,c4,c5,c6,c7⟩,_⟩:=Qg (Vw o.out.2.2.1 (kd:Int) T (wd C 0:Nat) (wd C 1:Nat) (wd C 2:Nat) (wd C 3:Nat) (.slice so sl sc) (p:Int));refine bodyPost_ret (v:=.agg (n8 kd T C (.slice so sl sc) p).toArray) (by simp[results,Tryz.results145,go_sem,c0,c1,c2,c3,c4,c5,c6,c7]) rfl ?_;rw[HF.out];exact o.out.fin aD.out hB
theorem Rd.setNest{ne:Nat}(h:Rd w R b v L k ru ne):Rd (w.setCell ⟨R,3,none⟩ (zI ((ne:Int)+1))) R b v L k ru (ne+1):=by
 have o:=h.nest (ne+1);rw[show(((ne+1:Nat):Int))=(ne:Int)+1 by omega]at o;exact o
theorem En.nestD{ne:Nat}(h:En w R b v L k ru (ne+1) W):En w R b v L k ru ne (W.setCell ⟨R,3,none⟩ (zI (ne:Int))):=
 ⟨h.1.nest ne,G.setR h.2.1,(Below.heap_setCell _ _ _ _ (show w.heap.size≠R by have:=h.lt;omega)).trans h.2.2.1,h.2.2.2.1,h.2.2.2.2⟩
theorem En.start'{k0 ne t:Nat}(o:Rd w R b v L k0 ru t)(h:Rd W R b v L k ru ne)(r:w.grownBy W (some R))(y:W.heap.size=w.heap.size):En w R b v L k ru ne (W.alloc Zo):=
 ⟨h.alloc _,G.alloc r,by rw[<-y];exact Qx W _ rfl,o.lt,fun g r e=>by have:=(o.2.lt _ e).2;omega⟩
theorem z7U(R b:Nat)(v:Value)(L:List Tok)(ru:Nat)(A:Ql L):
  MC 286 (Vy L 0) (fun k=>sgT (gL L k)={data:=#[40]}) R b v L ru 24:=by
 intro k B w h D _ hB;rw[Vy];have t:=z0W R b v L k ru 24 D A;have o:Hid (En w R b v L k ru 24 (w.alloc Zo)):=En.start h;obtain⟨E,I,U,y,V,Y,Z,q3⟩:=o.out.1.cells;have aa:(w.alloc Zo).cell? ⟨R,3,none⟩=some (zI 24):=y;clear h E I U y V Y Z q3;go_enter func286,ntmps286
 go_wp2_with fail
 refine(t.out 2 _ o.out.1).mono ?_;rintro e w1 ⟨f,rfl,r⟩;have HA:Hid (Qd (.inl (2,(gL L k).2.2.2)) B R b v L ru 24 w (.panicked [{v:=.iface 134 (zP f 0),recovered:=false}]) w1):=Qd.up (B':=0) (ne':=24) o.out ⟨f,rfl,hid ⟨r.out.1,r.out.2.1⟩,hid (G.below r.out.2.2)⟩;clear r o t aa
 go_wp2_with fail
 exact⟨rfl,HA.out⟩
theorem z7V(R b:Nat)(v:Value)(L:List Tok)(ru ne d:Nat)(hg:Ql L)(ar:ne<24)(ho:MC 145 (chS L (Vy L d)) (fun _=>True) R b v L ru (ne+1)):
  MC 286 (Vy L (d+1)) (fun k=>sgT (gL L k)={data:=#[40]}) R b v L ru ne:=by
 intro k B w h hk ae hB;rw[Vy];have af:=hg.sg hk ae;have au:(k:Int)+1<9223372036854775807:=by have:=hg.len;omega
 have av:((ne:Int) == 24)=false:=by simp;omega
 have o:Hid (En w R b v L (k+1) ru (ne+1) (((w.setCell ⟨R,1,none⟩ (.int .i64 ((k:Int)+1))).setCell ⟨R,3,none⟩ (.int .i64 ((ne:Int)+1))).alloc Zo)):=En.start' h h.next1.setNest (G.setR (G.setR (G.refl w R))) (by simp);have y:=Cw ho (k+1) (w.heap.size+1) af;have HG:Hid (Ql L):=hg;have ag:=hid (Ng hg d);obtain⟨r0,r1,r2,V,q0,q1,q2,q3⟩:=h.cells;have ad:=h.lt;clear h ho ae hg;cases hs:chS L (Vy L d) (k+1)with
 |inl c=>
  rw[hs]at y;clear hs;show Calls _ _ _ _ (fun e w'=>Qd (.inl c) B R b v L ru ne w e w');go_enter func286,ntmps286
  go_wp2_with fail
  refine(y.out _ o.out.1 (by have:=o.out.size;omega)).mono ?_;rintro e r hA;have HA:Hid (Qd (.inl c) B R b v L ru ne w e r):=Qd.up o.out hA;obtain⟨f,rfl,_,_⟩:=hA;clear o y r0 r1 r2 V q0 q1 q2 q3
  go_wp2_with fail
  exact⟨rfl,HA.out⟩
 |inr q=>
  obtain⟨n,k'⟩:=q;rw[hs]at y;have ah:=Ow HG.out ag.out af hs;have Y:=Gh R b v L k' ru (ne+1) ah.2 HG.out;have HW:=Ck R b v L k' ru (ne+1) ah.2 HG.out;have aw:(k':Int)+1<9223372036854775807:=by have:=HG.out.len;omega
  unfold Cj;simp only;clear hs ag;by_cases hz:sgT (gL L k')={data:=#[41]}
  ·rw[if_pos hz]
   rw[hz]at Y;clear hz HW;go_enter func286,ntmps286
   go_wp2_with fail
   refine(y.out _ o.out.1 (by have:=o.out.size;omega)).mono ?_;rintro e r ⟨cs,rfl,HN,HR,ab⟩;have aa:=hid (o.out.grown HR.out ab.out);clear o y HR ab r0 r1 r2 V q0 q1 q2 q3 ad;obtain⟨kd,T,C,A,D,E,ac⟩:=HN.out.shape;obtain⟨p,hp⟩:∃p,p=n.at':=⟨_,rfl⟩;rw[<-hp]at ac;subst ac;clear hp;dsimp only[n8];have U:=hid (aa.out.alloc (.cells #[.int .i64 kd,.string T,.int .u64 (wd C 0),.int .u64 (wd C 1),.int .u64 (wd C 2),.int .u64 (wd C 3),.slice A D E,.int .i64 p] 81));have ai:=hid (HN.out.below (((Below.refl _ r).alloc L0q (.cells #[.int .i64 kd,.string T,.int .u64 (wd C 0),.int .u64 (wd C 1),.int .u64 (wd C 2),.int .u64 (wd C 3),.slice A D E,.int .i64 p] 81))));have aj:Hid ((r.alloc (.cells #[.int .i64 kd,.string T,.int .u64 (wd C 0),.int .u64 (wd C 1),.int .u64 (wd C 2),.int .u64 (wd C 3),.slice A D E,.int .i64 p] 81)).heap[r.heap.size]? =some (.cells #[.int .i64 kd,.string T,.int .u64 (wd C 0),.int .u64 (wd C 1),.int .u64 (wd C 2),.int .u64 (wd C 3),.slice A D E,.int .i64 p] 81)):=Qx _ _ rfl;have ak:Hid (w.heap.size<r.heap.size):=aa.out.size;clear aa HN
   go_wp2_with fail
   refine(Y.out _ U.out.1).mono ?_;rintro e w5 ⟨rfl,I⟩;have t:=hid (U.out.below I);have al:=hid (ai.out.below I);have am:=hid ((I.block _ (by simp)).trans aj.out);have ao:Hid (r.heap.size<w5.heap.size):=Nat.lt_of_lt_of_le (by simp) I.size;clear I Y U ai aj;obtain⟨⟨m0,m1,m2,m3,m4,m5,m6,m7⟩,⟨y0,y1,y2,y3,y4,y5,y6,y7⟩⟩:=Qg am.out;obtain⟨⟨k0,k1,k2,k3,k4,k5,k6,k7⟩,⟨f0,f1,f2,f3,f4,f5,f6,f7⟩⟩:=t.out.cells;obtain⟨r0,r1,r2,V,q0,q1,q2,q3⟩:=t.out.1.cells;have ax:w5.cell? ⟨R,3,none⟩=some (.int .i64 ((ne:Int)+1)):=by rw[V];simp
   clear V;have ad:=t.out.lt;have ay:=ak.out;have az:=ao.out;have aA:R≠r.heap.size:=by omega
   have aB:R≠w.heap.size:=by omega
   have aC:w.heap.size≠r.heap.size:=by omega
   have ap:=hid t.out.next.nestD;have aq:=hid (Qh.grown al.out (G.setR (u:=.int .i64 ne) (j:=3) (G.setR (u:=.int .i64 ((k':Int)+1)) (j:=1) (G.refl w5 R))) t.out.1.1);clear t al am ak ao
   go_wp2_with fail
   (try simp only[Exit.inBlock,Exit.then])
   obtain⟨⟨c0,c1,c2,c3,c4,c5,c6,c7⟩,_⟩:=Qg (Vw ap.out.2.2.1 (kd:Int) T (wd C 0:Nat) (wd C 1:Nat) (wd C 2:Nat) (wd C 3:Nat) (.slice A D E) (p:Int));refine bodyPost_ret (v:=.agg (n8 kd T C (.slice A D E) p).toArray) (by simp[results,Tryz.results286,go_sem,c0,c1,c2,c3,c4,c5,c6,c7]) rfl ?_;exact ap.out.fin aq.out hB
  ·rw[if_neg hz]
   obtain⟨Z,hZ⟩:∃Z,Z=sgT (gL L k'):=⟨_,rfl⟩;rw[<-hZ]at Y hz;have z1:(Z.toList == [41])=false:=Jy hz;clear hz hZ;go_enter func286,ntmps286
   go_wp2_with fail
   refine(y.out _ o.out.1 (by have:=o.out.size;omega)).mono ?_;rintro e r ⟨cs,rfl,HN,HR,ab⟩;have aa:=hid (o.out.grown HR.out ab.out);clear o y HR ab r0 r1 r2 V q0 q1 q2 q3 ad;obtain⟨kd,T,C,A,D,E,ac⟩:=HN.out.shape;obtain⟨p,hp⟩:∃p,p=n.at':=⟨_,rfl⟩;rw[<-hp]at ac;subst ac;clear hp;dsimp only[n8];have U:=hid (aa.out.alloc (.cells #[.int .i64 kd,.string T,.int .u64 (wd C 0),.int .u64 (wd C 1),.int .u64 (wd C 2),.int .u64 (wd C 3),.slice A D E,.int .i64 p] 81));clear aa HN
   go_wp2_with fail
   refine(Y.out _ U.out.1).mono ?_;rintro e w5 ⟨rfl,I⟩;have t:=hid (U.out.below I);clear I Y U
   go_wp2_with fail
   refine(HW.out _ t.out.1).mono ?_;rintro e w6 ⟨f,rfl,HP⟩;have HA:Hid (Qd (.inl (wrC (gL L k'),(gL L k').2.2.2)) B R b v L ru ne w (.panicked [{v:=.iface 134 (.pointer (some ⟨f,0,none⟩)),recovered:=false}]) w6):=Qd.up (B':=0) (ne':=ne) t.out ⟨f,rfl,hid ⟨HP.out.1,HP.out.2.1⟩,hid (G.below HP.out.2.2)⟩;clear HP t HW
   go_wp2_with fail
   exact⟨rfl,HA.out⟩
theorem z0Y(R b:Nat)(v:Value)(L:List Tok)(ru ne:Nat)(inn:Nat->Pr)(h:Ql L)(ha:Adv L inn)(o:MC 286 inn (fun k=>sgT (gL L k)={data:=#[40]}) R b v L ru ne):
  MC 145 (chS L inn) (fun _=>True) R b v L ru ne:=
 z7T R b v L ru ne inn h ha (z7S R b v L ru ne inn h ha (z7R R b v L ru ne inn h ha (z7Q R b v L ru ne inn h ha (z7P R b v L ru ne inn h o))))
theorem z0Z(R b:Nat)(v:Value)(L:List Tok)(ru:Nat)(o:Ql L):∀(d ne:Nat),ne+d=24->MC 145 (chS L (Vy L d)) (fun _=>True) R b v L ru ne
 |0,ne,h=>by
  have r:ne=24:=by omega
  subst r;exact z0Y R b v L ru 24 _ o (Ng o 0) (z7U R b v L ru o)
 |d+1,ne,h=>z0Y R b v L ru ne _ o (Ng o (d+1)) (z7V R b v L ru ne d o (by omega) (z0Z R b v L ru o d (ne+1) (by omega)))
end Go.Proofs.YtgnkkgcgbeianaaGreatDoor
