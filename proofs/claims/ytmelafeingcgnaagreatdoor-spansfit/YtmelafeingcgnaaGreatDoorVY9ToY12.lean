/- Lemmas for the last text. Conditions: those that each names. -/
import Derived.Test.YtmelafeingcgnaaGreatDoorVY6ToY8
import Derived.Maps.AppendAt
set_option linter.unusedVariables false
set_option maxRecDepth 100000
set_option maxHeartbeats 16000000
namespace Go.Proofs.YtmelafeingcgnaaGreatDoor
open Go.Proofs.Tryz
open Go.RowKit
variable {B R b k ru:Nat} {v:Value} {L:List Tok} {W W' w:World} {acc:List Nd} {n:Nd}
theorem z8b(R b:Nat)(v:Value)(L:List Tok)(ru ne:Nat)(inn:Nat->Pr)(hg:Ql L)(ha:Adv L inn)(ho:MC 280 (Fy L inn) (fun _=>True) R b v L ru ne):
  MC 260 (Jd L inn) (fun _=>True) R b v L ru ne:=by
 intro k B w h hk _ hB;have hO:=ho k (w.heap.size+1) (w.alloc Zo) (h.alloc _) hk trivial (by simp);have HE:Hid (En w R b v L k ru ne (w.alloc Zo)):=En.start h;unfold Jd;cases hs:Fy L inn k with
 |inl c=>
  rw[hs]at hO;have HO:=hid hO;clear hO hs ho h;show Calls _ _ _ _ (fun e w'=>Qd (.inl c) B R b v L ru ne w e w');go_enter func260,ntmps260
  go_wp2_with fail
  refine HO.out.mono ?_;rintro e w1 hA;have HA:Hid (Qd (.inl c) B R b v L ru ne w e w1):=Qd.up HE.out hA;obtain⟨f,rfl,_,_⟩:=hA
  go_wp2_with fail
  exact⟨rfl,HA.out⟩
 |inr q=>
  obtain⟨n,k'⟩:=q;have au:=(z0X hg ha hk hs).2;rw[hs]at hO;have HO:=hid hO;have HS:=Gw R b v L k' ru ne au hg;unfold Cw;simp only;obtain⟨Z,hZ⟩:∃Z,Z=sgT (gL L k'):=⟨_,rfl⟩;rw[<-hZ]at HS ⊢;have HP:=hid (fun w=>z7F Z w);obtain⟨r,hr⟩:∃r,r=rpK Z:=⟨_,rfl⟩;rw[<-hr]at HP ⊢;have az:(k':Int)+1<9223372036854775807:=by have:=hg.len;omega
  clear hO hs ho h hZ hr;by_cases hr0:r=0
  ·subst hr0
   rw[if_pos rfl];go_enter func260,ntmps260
   go_wp2_with fail
   refine HO.out.mono ?_;rintro e w1 ⟨cs,rfl,V,HR,HG⟩;have Y:=hid (HE.out.grown HR.out HG.out);clear HR HG HO HE;obtain⟨kd,T,C,o,y,A,U⟩:=V.out.shape;obtain⟨p,hp⟩:∃p,p=n.at':=⟨_,rfl⟩;rw[<-hp]at U;subst U;clear hp;dsimp only[n8];have aa:=hid (Y.out.alloc (.cells #[zI (kd:Int),zT T,zU (wd C 0:Nat),zU (wd C 1:Nat),zU (wd C 2:Nat),zU (wd C 3:Nat),.slice o y A,zI (p:Int)] 119));have ab:=hid (V.out.below (((Below.refl _ w1).alloc L0q (.cells #[zI (kd:Int),zT T,zU (wd C 0:Nat),zU (wd C 1:Nat),zU (wd C 2:Nat),zU (wd C 3:Nat),.slice o y A,zI (p:Int)] 119))));have ac:Hid ((w1.alloc (.cells #[zI (kd:Int),zT T,zU (wd C 0:Nat),zU (wd C 1:Nat),zU (wd C 2:Nat),zU (wd C 3:Nat),.slice o y A,zI (p:Int)] 119)).heap[w1.heap.size]? =some (.cells #[zI (kd:Int),zT T,zU (wd C 0:Nat),zU (wd C 1:Nat),zU (wd C 2:Nat),zU (wd C 3:Nat),.slice o y A,zI (p:Int)] 119)):=Qx _ _ rfl;have ag:Hid (w.heap.size<w1.heap.size):=Y.out.size;clear Y V
   go_wp2_with fail
   refine(HS.out _ aa.out.1).mono ?_;rintro e w2 ⟨rfl,D⟩;have E:=hid (aa.out.below D);have ae:=hid (ab.out.below D);have af:=hid ((D.block _ (by simp)).trans ac.out);have ah:Hid (w1.heap.size<w2.heap.size):=Nat.lt_of_lt_of_le (by simp) D.size;clear D HS aa ab ac
   go_wp2_with fail
   refine(HP.out _).mono ?_;rintro e w3 ⟨rfl,ad⟩;rw[ad];clear ad HP;obtain⟨⟨m0,m1,m2,m3,m4,m5,m6,m7⟩,⟨y0,y1,y2,y3,y4,y5,y6,y7⟩⟩:=Qf af.out;obtain⟨⟨k0,k1,k2,k3,k4,k5,k6,k7⟩,⟨f0,f1,f2,f3,f4,f5,f6,f7⟩⟩:=E.out.cells;have av:=ag.out;have aw:=ah.out;have ax:w.heap.size≠w1.heap.size:=by omega
   go_wp2_with fail
   (try simp only[Exit.inBlock,Exit.then])
   obtain⟨⟨c0,c1,c2,c3,c4,c5,c6,c7⟩,_⟩:=Qf (Vb E.out.2.2.1 (kd:Int) T (wd C 0:Nat) (wd C 1:Nat) (wd C 2:Nat) (wd C 3:Nat) (.slice o y A) (p:Int));refine bodyPost_ret (v:=.agg (n8 kd T C (.slice o y A) p).toArray) (by simp[results,Tryz.results260,go_sem,c0,c1,c2,c3,c4,c5,c6,c7]) rfl ?_;exact E.out.fin ae.out hB
  ·rw[if_neg hr0]
   have t0:((r:Int) == 0)=false:=by simp;omega
   go_enter func260,ntmps260
   go_wp2_with fail
   refine HO.out.mono ?_;rintro e w1 ⟨cs,rfl,V,HR,HG⟩;have Y:=hid (HE.out.grown HR.out HG.out);clear HR HG HO HE;obtain⟨kd,T,C,o,y,A,U⟩:=V.out.shape;obtain⟨p,hp⟩:∃p,p=n.at':=⟨_,rfl⟩;rw[<-hp]at U;subst U;have ay:Hid (n.at'=p):=hp.symm;clear hp;dsimp only[n8];have aa:=hid (Y.out.alloc (.cells #[zI (kd:Int),zT T,zU (wd C 0:Nat),zU (wd C 1:Nat),zU (wd C 2:Nat),zU (wd C 3:Nat),.slice o y A,zI (p:Int)] 119));have ab:=hid (V.out.below (((Below.refl _ w1).alloc L0q (.cells #[zI (kd:Int),zT T,zU (wd C 0:Nat),zU (wd C 1:Nat),zU (wd C 2:Nat),zU (wd C 3:Nat),.slice o y A,zI (p:Int)] 119))));have ac:Hid ((w1.alloc (.cells #[zI (kd:Int),zT T,zU (wd C 0:Nat),zU (wd C 1:Nat),zU (wd C 2:Nat),zU (wd C 3:Nat),.slice o y A,zI (p:Int)] 119)).heap[w1.heap.size]? =some (.cells #[zI (kd:Int),zT T,zU (wd C 0:Nat),zU (wd C 1:Nat),zU (wd C 2:Nat),zU (wd C 3:Nat),.slice o y A,zI (p:Int)] 119)):=Qx _ _ rfl;have ag:Hid (w.heap.size<w1.heap.size):=Y.out.size;clear Y V hr0
   go_wp2_with fail
   refine(HS.out _ aa.out.1).mono ?_;rintro e w2 ⟨rfl,D⟩;have E:=hid (aa.out.below D);have ae:=hid (ab.out.below D);have af:=hid ((D.block _ (by simp)).trans ac.out);have ah:Hid (w1.heap.size<w2.heap.size):=Nat.lt_of_lt_of_le (by simp) D.size;clear D HS aa ab ac
   go_wp2_with fail
   refine(HP.out _).mono ?_;rintro e w3 ⟨rfl,ad⟩;rw[ad];clear ad HP;obtain⟨⟨m0,m1,m2,m3,m4,m5,m6,m7⟩,⟨y0,y1,y2,y3,y4,y5,y6,y7⟩⟩:=Qf af.out;obtain⟨r0,r1,r2,r3,q0,q1,q2,q3⟩:=E.out.1.cells;have aA:=E.out.lt;have av:=ag.out;have aw:=ah.out;have aB:=E.out.1.lt;have aC:R≠w1.heap.size:=by omega
   have ax:w.heap.size≠w1.heap.size:=by omega
   have ai:=hid E.out.next;have ak:=hid (Qh.grown ae.out (G.setR (u:=zI ((k':Int)+1)) (j:=1) (G.refl w2 R)) E.out.1.1);clear E ae af
   go_wp2_with fail
   refine(Ll r p (w.heap.size+1) n _ _ ak.out (by have:=ai.out.size;omega)).mono ?_;rintro e w5 ⟨cs,rfl,al,am⟩;have aj:=hid (ai.out.below am.out);clear ak ai am;obtain⟨ao,T2,C2,ap,aq,ar,U⟩:=al.out.shape;rw[show(Nd.mk r {data:=#[]} 0 [n] p).at'=p from rfl]at U;subst U;obtain⟨p2,aD⟩:∃q,q=p:=⟨p,rfl⟩;dsimp only[n8];obtain⟨⟨k0,k1,k2,k3,k4,k5,k6,k7⟩,⟨f0,f1,f2,f3,f4,f5,f6,f7⟩⟩:=aj.out.cells;clear m0 m1 m2 m3 m4 m5 m6 m7 y0 y1 y2 y3 y4 y5 y6 y7 r0 r1 r2 r3 q0 q1 q2 q3
   go_wp2_with fail
   rw[ay.out]
   (try simp only[Exit.inBlock,Exit.then])
   obtain⟨⟨c0,c1,c2,c3,c4,c5,c6,c7⟩,_⟩:=Qf (Vb aj.out.2.2.1 (ao:Int) T2 (wd C2 0:Nat) (wd C2 1:Nat) (wd C2 2:Nat) (wd C2 3:Nat) (.slice ap aq ar) (p:Int));refine bodyPost_ret (v:=.agg (n8 ao T2 C2 (.slice ap aq ar) p).toArray) (by simp[results,Tryz.results260,go_sem,c0,c1,c2,c3,c4,c5,c6,c7]) rfl ?_;exact aj.out.fin al.out hB
theorem Cg{F:Nat}{sp:Nat->Pr}{ne:Nat}(o:MC F sp (fun _=>True) R b v L ru ne)(k B:Nat)(r:k<L.length):Hid (∀w:World,Rd w R b v L k ru ne->B<=w.heap.size->Calls prog F #[zP R 0] w fun e w'=>Qd (sp k) B R b v L ru ne w e w'):=
 fun w h y=>o k B w h r trivial y
theorem z8c(R b:Nat)(v:Value)(L:List Tok)(ru ne:Nat)(inn:Nat->Pr)(hg:Ql L)(ha:Adv L inn)(ho:MC 260 (Jd L inn) (fun _=>True) R b v L ru ne):
  MC 225 (Gv L inn) (fun _=>True) R b v L ru ne:=by
 intro k B w h hk _ hB;have ak:=Tryz.fld3;have V:=Jm R b v L k ru ne hk hg;have Y:=Gw R b v L k ru ne hk hg;have D:Hid (En w R b v L k ru ne (w.alloc Zo)):=En.start h;have al:(k:Int)+1<9223372036854775807:=by have:=hg.len;omega
 unfold Gv;obtain⟨Z,hZ⟩:∃Z,Z=sgT (gL L k):=⟨_,rfl⟩;rw[<-hZ]at Y ⊢;obtain⟨t,ht⟩:∃t,t=gL L k:=⟨_,rfl⟩;rw[<-ht]at V ⊢;clear ht;obtain⟨tk,tT,tC,p⟩:=t;by_cases hz12:Z={data:=#[33]}
 ·rw[if_pos hz12]
  have aj:=hg.sg hk (hZ▸hz12);have y:=Cg ho (k+1) (w.heap.size+1) aj;subst hz12;clear hZ ho h;cases hs:Jd L inn (k+1)with
  |inl c=>
   rw[hs]at y;clear hs;show Calls _ _ _ _ (fun e w'=>Qd (.inl c) B R b v L ru ne w e w');go_enter func225,ntmps225
   go_wp2_with fail
   refine(V.out _ D.out.1).mono ?_;rintro e w1 ⟨rfl,E⟩;have r:=hid (D.out.below E);clear E D V;dsimp only[tkv]
   go_wp2_with fail
   refine(Y.out _ r.out.1).mono ?_;rintro e w2 ⟨rfl,G⟩;have o:=hid (r.out.below G);clear G r Y;obtain⟨r0,r1,r2,r3,q0,q1,q2,q3⟩:=o.out.1.cells;have ac:=o.out.1.lt;have A:=hid o.out.next;clear o
   go_wp2_with fail
   refine(y.out _ A.out.1 (by have:=A.out.size;omega)).mono ?_;rintro e w3 hA;have HA:Hid (Qd (.inl c) B R b v L ru ne w e w3):=Qd.up A.out hA;obtain⟨f,rfl,_,_⟩:=hA;clear A y r0 r1 r2 r3 q0 q1 q2 q3
   go_wp2_with fail
   exact⟨rfl,HA.out⟩
  |inr q=>
   obtain⟨n,k'⟩:=q;rw[hs]at y;clear hs;show Calls _ _ _ _ (fun e w'=>Qd (.inr (.mk 12 {data:=#[]} 0 [n] p,k')) B R b v L ru ne w e w');go_enter func225,ntmps225
   go_wp2_with fail
   refine(V.out _ D.out.1).mono ?_;rintro e w1 ⟨rfl,E⟩;have r:=hid (D.out.below E);clear E D V;dsimp only[tkv]
   go_wp2_with fail
   refine(Y.out _ r.out.1).mono ?_;rintro e w2 ⟨rfl,G⟩;have o:=hid (r.out.below G);clear G r Y;obtain⟨r0,r1,r2,r3,q0,q1,q2,q3⟩:=o.out.1.cells;have ac:=o.out.1.lt;have A:=hid o.out.next;clear o
   go_wp2_with fail
   refine(y.out _ A.out.1 (by have:=A.out.size;omega)).mono ?_;rintro e w3 ⟨cs,rfl,HN,HR,HG⟩;have aa:=hid (A.out.grown HR.out HG.out);clear A y HR HG r0 r1 r2 r3 q0 q1 q2 q3 ac;have HV:=hid (Ll 12 p (w.heap.size+1) n _ _ HN.out (by have:=aa.out.size;omega));obtain⟨kd,T,C,so,sl,sc,U⟩:=HN.out.shape;obtain⟨p',hp⟩:∃p',p'=n.at':=⟨_,rfl⟩;rw[<-hp]at U;subst U;clear hp;dsimp only[n8]at HV ⊢
   go_wp2_with fail
   refine HV.out.mono ?_;rintro e w5 ⟨cs,rfl,ad,ae⟩;have ab:=hid (aa.out.below ae.out);clear HV HN aa ae;obtain⟨af,T2,C2,ag,ah,ai,U⟩:=ad.out.shape;rw[show(Nd.mk 12 {data:=#[]} 0 [n] p).at'=p from rfl]at U;subst U;dsimp only[n8];obtain⟨⟨k0,k1,k2,k3,k4,k5,k6,k7⟩,⟨f0,f1,f2,f3,f4,f5,f6,f7⟩⟩:=ab.out.cells
   go_wp2_with fail
   (try simp only[Exit.inBlock,Exit.then])
   obtain⟨⟨c0,c1,c2,c3,c4,c5,c6,c7⟩,_⟩:=Qf (Vb ab.out.2.2.1 (af:Int) T2 (wd C2 0:Nat) (wd C2 1:Nat) (wd C2 2:Nat) (wd C2 3:Nat) (.slice ag ah ai) (p:Int));refine bodyPost_ret (v:=.agg (n8 af T2 C2 (.slice ag ah ai) p).toArray) (by simp[results,Tryz.results225,go_sem,c0,c1,c2,c3,c4,c5,c6,c7]) rfl ?_;exact ab.out.fin ad.out hB
 rw[if_neg hz12];have e1:(Z.toList == [33])=false:=Jg hz12;by_cases hz11:Z={data:=#[38]}
 ·rw[if_pos hz11]
  have aj:=hg.sg hk (hZ▸hz11);have y:=Cg ho (k+1) (w.heap.size+1) aj;subst hz11;clear hz12 e1;clear hZ ho h;cases hs:Jd L inn (k+1)with
  |inl c=>
   rw[hs]at y;clear hs;show Calls _ _ _ _ (fun e w'=>Qd (.inl c) B R b v L ru ne w e w');go_enter func225,ntmps225
   go_wp2_with fail
   refine(V.out _ D.out.1).mono ?_;rintro e w1 ⟨rfl,E⟩;have r:=hid (D.out.below E);clear E D V;dsimp only[tkv]
   go_wp2_with fail
   refine(Y.out _ r.out.1).mono ?_;rintro e w2 ⟨rfl,G⟩;have o:=hid (r.out.below G);clear G r Y;obtain⟨r0,r1,r2,r3,q0,q1,q2,q3⟩:=o.out.1.cells;have ac:=o.out.1.lt;have A:=hid o.out.next;clear o
   go_wp2_with fail
   refine(y.out _ A.out.1 (by have:=A.out.size;omega)).mono ?_;rintro e w3 hA;have HA:Hid (Qd (.inl c) B R b v L ru ne w e w3):=Qd.up A.out hA;obtain⟨f,rfl,_,_⟩:=hA;clear A y r0 r1 r2 r3 q0 q1 q2 q3
   go_wp2_with fail
   exact⟨rfl,HA.out⟩
  |inr q=>
   obtain⟨n,k'⟩:=q;rw[hs]at y;clear hs;show Calls _ _ _ _ (fun e w'=>Qd (.inr (.mk 11 {data:=#[]} 0 [n] p,k')) B R b v L ru ne w e w');go_enter func225,ntmps225
   go_wp2_with fail
   refine(V.out _ D.out.1).mono ?_;rintro e w1 ⟨rfl,E⟩;have r:=hid (D.out.below E);clear E D V;dsimp only[tkv]
   go_wp2_with fail
   refine(Y.out _ r.out.1).mono ?_;rintro e w2 ⟨rfl,G⟩;have o:=hid (r.out.below G);clear G r Y;obtain⟨r0,r1,r2,r3,q0,q1,q2,q3⟩:=o.out.1.cells;have ac:=o.out.1.lt;have A:=hid o.out.next;clear o
   go_wp2_with fail
   refine(y.out _ A.out.1 (by have:=A.out.size;omega)).mono ?_;rintro e w3 ⟨cs,rfl,HN,HR,HG⟩;have aa:=hid (A.out.grown HR.out HG.out);clear A y HR HG r0 r1 r2 r3 q0 q1 q2 q3 ac;have HV:=hid (Ll 11 p (w.heap.size+1) n _ _ HN.out (by have:=aa.out.size;omega));obtain⟨kd,T,C,so,sl,sc,U⟩:=HN.out.shape;obtain⟨p',hp⟩:∃p',p'=n.at':=⟨_,rfl⟩;rw[<-hp]at U;subst U;clear hp;dsimp only[n8]at HV ⊢
   go_wp2_with fail
   refine HV.out.mono ?_;rintro e w5 ⟨cs,rfl,ad,ae⟩;have ab:=hid (aa.out.below ae.out);clear HV HN aa ae;obtain⟨af,T2,C2,ag,ah,ai,U⟩:=ad.out.shape;rw[show(Nd.mk 11 {data:=#[]} 0 [n] p).at'=p from rfl]at U;subst U;dsimp only[n8];obtain⟨⟨k0,k1,k2,k3,k4,k5,k6,k7⟩,⟨f0,f1,f2,f3,f4,f5,f6,f7⟩⟩:=ab.out.cells
   go_wp2_with fail
   (try simp only[Exit.inBlock,Exit.then])
   obtain⟨⟨c0,c1,c2,c3,c4,c5,c6,c7⟩,_⟩:=Qf (Vb ab.out.2.2.1 (af:Int) T2 (wd C2 0:Nat) (wd C2 1:Nat) (wd C2 2:Nat) (wd C2 3:Nat) (.slice ag ah ai) (p:Int));refine bodyPost_ret (v:=.agg (n8 af T2 C2 (.slice ag ah ai) p).toArray) (by simp[results,Tryz.results225,go_sem,c0,c1,c2,c3,c4,c5,c6,c7]) rfl ?_;exact ab.out.fin ad.out hB
 rw[if_neg hz11];have e2:(Z.toList == [38])=false:=Jg hz11;have y:=Cg ho k (w.heap.size+1) hk;clear hZ ho h hz11 hz12;cases hs:Jd L inn k with
 |inl c=>
  rw[hs]at y;clear hs;go_enter func225,ntmps225
  go_wp2_with fail
  refine(V.out _ D.out.1).mono ?_;rintro e w1 ⟨rfl,E⟩;have r:=hid (D.out.below E);clear E D V;dsimp only[tkv]
  go_wp2_with fail
  refine(Y.out _ r.out.1).mono ?_;rintro e w2 ⟨rfl,G⟩;have o:=hid (r.out.below G);clear G r Y
  go_wp2_with fail
  refine(y.out _ o.out.1 (by have:=o.out.size;omega)).mono ?_;rintro e w3 hA;have HA:Hid (Qd (.inl c) B R b v L ru ne w e w3):=Qd.up o.out hA;obtain⟨f,rfl,_,_⟩:=hA;clear o y
  go_wp2_with fail
  exact⟨rfl,HA.out⟩
 |inr q=>
  obtain⟨n,k'⟩:=q;rw[hs]at y;clear hs;go_enter func225,ntmps225
  go_wp2_with fail
  refine(V.out _ D.out.1).mono ?_;rintro e w1 ⟨rfl,E⟩;have r:=hid (D.out.below E);clear E D V;dsimp only[tkv]
  go_wp2_with fail
  refine(Y.out _ r.out.1).mono ?_;rintro e w2 ⟨rfl,G⟩;have o:=hid (r.out.below G);clear G r Y
  go_wp2_with fail
  refine(y.out _ o.out.1 (by have:=o.out.size;omega)).mono ?_;rintro e w3 ⟨cs,rfl,HN,HR,HG⟩;have aa:=hid (o.out.grown HR.out HG.out);clear o y HR HG;obtain⟨kd,T,C,so,sl,sc,U⟩:=HN.out.shape;obtain⟨p',hp⟩:∃p',p'=n.at':=⟨_,rfl⟩;rw[<-hp]at U;subst U;clear hp;dsimp only[n8];obtain⟨⟨k0,k1,k2,k3,k4,k5,k6,k7⟩,⟨f0,f1,f2,f3,f4,f5,f6,f7⟩⟩:=aa.out.cells
  go_wp2_with fail
  (try simp only[Exit.inBlock,Exit.then])
  obtain⟨⟨c0,c1,c2,c3,c4,c5,c6,c7⟩,_⟩:=Qf (Vb aa.out.2.2.1 (kd:Int) T (wd C 0:Nat) (wd C 1:Nat) (wd C 2:Nat) (wd C 3:Nat) (.slice so sl sc) (p':Int));refine bodyPost_ret (v:=.agg (n8 kd T C (.slice so sl sc) p').toArray) (by simp[results,Tryz.results225,go_sem,c0,c1,c2,c3,c4,c5,c6,c7]) rfl ?_;exact aa.out.fin HN.out hB
def Ro(B:Nat)(pv:Value)(acc:List Nd)(W:World):Prop:=
 ∃xs,W.ownsRow B 119 8 pv acc.length xs/\Qp W (fun g=>B<=g/\pv.ownBlock≠some g) acc xs
theorem Qq{g:Nat}{o:Obj}(h:w.heap[g]? =some o):g<w.heap.size:=by
 rcases Nat.lt_or_ge g w.heap.size with r|r
 ·exact r
 ·rw[Array.getElem?_eq_none r]at h;cases h
theorem Ro.grown{pv:Value}(h:Ro B pv acc W)(o:W.grownBy W' (some R))(E:R<B):Ro B pv acc W':=by
 obtain⟨xs,r,A⟩:=h;refine⟨xs,r.kept o (.inr (fun e=>by have:=(r.lt _ e).1;omega)),Qp.kept (fun g G y D=>⟨o.block g (Qq D) (fun e=> ?_),y⟩) _ _ A⟩;have U:g=R:=Option.some.inj e;have:=y.1;omega
theorem Ro.below{pv:Value}(h:Ro B pv acc W)(o:zB W W'):Ro B pv acc W':=by
 obtain⟨xs,r,y⟩:=h;exact⟨xs,Xf r o,Qp.kept (fun g E A D=>⟨o.block g (Qq D),A⟩) _ _ y⟩
theorem Ro.blk{pv:Value}(h:Ro B pv acc W):∀g,pv.ownBlock=some g->g<W.heap.size:=fun g e=>by obtain⟨xs,o,_⟩:=h;exact(o.lt _ e).2
theorem Ro.nil(B:Nat)(W:World):Ro B (.slice none 0 0) [] W:=⟨[],World.ownsRow_nil _ _ _ _,by rw[Qp];trivial⟩
theorem Ro.app{D:Nat}{pv r:Value}{xs c:List Value}{o y W4:World}(Y:o.ownsRow B 119 8 pv acc.length xs)(ha:Qp o (fun g=>B<=g/\pv.ownBlock≠some g) acc xs)(Z:Qh o (fun g=>D<=g) n c)(hD:B<=D)(aa:∀g,pv.ownBlock=some g->g<D)(G:zB o y)
  (ab:W4.ownsRow B 119 8 r (acc.length+1) (xs++c))(ac:y.grownBy W4 pv.ownBlock)(ad:r.ownBlock=pv.ownBlock∨r.ownBlock=some y.heap.size):Ro B r (acc++[n]) W4:=by
 have U:∀g,g<o.heap.size->pv.ownBlock≠some g->W4.heap[g]? =o.heap[g]? /\r.ownBlock≠some g:=fun g hl V=>by
  have hs:=G.size;refine⟨(ac.block g (by omega) (fun e=>V e.symm)).trans (G.block g hl),?_⟩;rcases ad with h|h
  ·rw[h];exact V
  ·rw[h];intro e;have:=Option.some.inj e;omega
 refine⟨xs++c,by simpa using ab,Qp.append _ _ _ _ (Qp.kept (fun g ae A E=> ?_) _ _ ha) Y.1 (Qh.kept (fun g ae A E=> ?_) _ _ Z)⟩
 ·have:=U g (Qq E) A.2
  exact⟨this.1,A.1,this.2⟩
 ·have:=U g (Qq E) (fun e=>by have:=aa g e;omega)
  exact⟨this.1,by omega,this.2⟩
theorem En.rowed{ne:Nat}{row:Option Nat}(h:En w R b v L k ru ne W)(o:W.grownBy W' row)(r:∀g,row=some g->w.heap.size<g):En w R b v L k ru ne W':=by
 have A:=h.lt;have D:=h.size;have y:some R≠row:=fun e=>by have:=r R e.symm;omega
 have E:some w.heap.size≠row:=fun e=>by have:=r _ e.symm;omega
 have G:v.ownBlock=none∨v.ownBlock≠row:=by
  cases hv:v.ownBlock with
  |none=>exact .inl rfl
  |some g=>exact .inr (fun e=>h.2.2.2.2 g (by have:=r g e.symm;omega) hv)
 exact⟨⟨(o.block R (by omega) y).trans h.1.1,h.1.2.kept o G⟩,⟨o.os.trans h.2.1.os,o.tape.trans h.2.1.tape,o.output.trans h.2.1.output,Nat.le_trans h.2.1.size o.size,fun j U y=>(o.block j (by omega) (fun e=>by have:=r j e.symm;omega)).trans (h.2.1.block j U y)⟩,(o.block _ D E).trans h.2.2.1,A,h.2.2.2.2⟩
theorem Tryz.infoNd:(Tryz.prog.info? 119).map (fun i=>(i.zero,i.size,i.bytes))=some (some (.agg #[zI 0,zT {data:=#[]},zU 0,zU 0,zU 0,zU 0,.slice none 0 0,zI 0]),8,88):=by kernel_rfl
theorem Ok(w:World)(a b c d e f g h:Value)(t:TypeId):∀j x,[a,b,c,d,e,f,g,h][j]? =some x->(w.alloc (.cells #[a,b,c,d,e,f,g,h] t)).cell? ((⟨w.heap.size,0,none⟩:Addr).add j)=some x:=by
 intro j x o
 match j,o with
 |0,o=>simp at o;subst o;simp[Addr.add]
 |1,o=>simp at o;subst o;simp[Addr.add]
 |2,o=>simp at o;subst o;simp[Addr.add]
 |3,o=>simp at o;subst o;simp[Addr.add]
 |4,o=>simp at o;subst o;simp[Addr.add]
 |5,o=>simp at o;subst o;simp[Addr.add]
 |6,o=>simp at o;subst o;simp[Addr.add]
 |7,o=>simp at o;subst o;simp[Addr.add]
theorem Ov(a:Int)(T:zA)(c0 c1 c2 c3:Int)(o:Option Addr)(r y:Nat)(p:Int):∀u∈[Value.int .i64 a,zT T,zU c0,zU c1,zU c2,zU c3,.slice o r y,zI p],u.oneCell'=true:=by
 intro u h;simp at h;rcases h with rfl|rfl|rfl|rfl|rfl|rfl|rfl|rfl<;>rfl
theorem Ro.joined{pv:Value}{r:List Nd}(h:Ro B pv (n::r) W)(D:B<=W.heap.size)(E:r.length<=100000)(kd:Nat):∃g o,pv=zS g (r.length+1) o/\Hid (Calls prog 193 #[zI (kd:Int),zS g (r.length+1) o] W fun e w'=>∃A:List Value,e=.returned (.agg A.toArray)/\Hid (Qh w' (fun g=>B<=g) (Jh kd (n::r)) A)/\Hid (zB W w')):=by
 obtain⟨xs,y,G⟩:=h;rw[List.length_cons]at y;obtain⟨g,o,rfl⟩:=Vc y (by omega);exact⟨g,o,rfl,z7L kd B g o n r xs W y (G.weak (fun g h=>h.1)) D E⟩
theorem Ro.shape0{pv:Value}(h:Ro B pv [] W):∃a c,pv=.slice a 0 c:=by
 obtain⟨xs,o,r⟩:=h;exact Yd o
def Jz(R:Nat)(w:World):Nat:=(intOf ((w.cell? ⟨R,1,none⟩).getD (zI 0))).toNat
theorem Dp{ne:Nat}(h:Rd w R b v L k ru ne):Jz R w=k:=by
 unfold Jz;rw[h.cells.2.1];simp[intOf]
theorem z8d(R b:Nat)(v:Value)(L:List Tok)(ru ne:Nat)(inn:Nat->Pr)(hg:Ql L)(ha:Adv L inn)(ho:MC 225 (Gv L inn) (fun _=>True) R b v L ru ne):
  MC 191 (fun k=>Xc L inn L.length k []) (fun _=>True) R b v L ru ne:=by
 intro k B w h hk _ hB;obtain⟨iT,aB,aC,aD,aE⟩:=info_parts Tryz.infoNd;have aL:=Tryz.fld3;have ai:Hid (En w R b v L k ru ne (w.alloc Zo)):=En.start h;obtain⟨E,hR⟩:∃E,E=Xc L inn L.length k []:=⟨_,rfl⟩;have aj:Hid (Xc L inn L.length k []=E):=hR.symm;simp only;rw[<-hR];have HM:Hid (MC 225 (Gv L inn) (fun _=>True) R b v L ru ne):=ho;have HG:Hid (Ql L):=hg;have HA:Hid (Adv L inn):=ha;have aM:=hg.len;clear hR h ho hg ha;go_enter func191,ntmps191
 go_wp2_with fail
 go_loopw [3] (fun a wr=>∃(f j:Nat) (acc:List Nd),j<L.length/\L.length<=f+j/\acc.length<=j/\Hid (Xc L inn f j acc=E)/\Hid (Ro (w.heap.size+1) a acc wr)/\Hid (En w R b v L j ru ne wr)) (fun _ wr=>L.length-Jz R wr)
 case atStart=>exact⟨L.length,k,[],hk,by omega,by simp,aj,hid (Ro.nil _ _),ai⟩
 case round=>
  obtain⟨f,j,acc,hj,aN,ak,G,U,y⟩:=hrel;clear aj ai;have D:=z7S R b v L j ru ne hj HG.out;have HT:=Jm R b v L j ru ne hj HG.out;cases f with
  |zero=>omega
  |succ f=>
  cases hpt:ptB L j (gL L j)with
  |true=>
   rw[hpt]at D;have HC:=hid (fun(W:World) (h:Rd W R b v L j ru ne)=>HM.out j W.heap.size W h hj trivial L0q);clear HM HT;cases hs:Gv L inn j with
   |inl c=>
    have V:Hid (E=.inl c):=by show _=_;rw[<-G.out,Xc,if_pos hpt,hs]
    rw[hs]at HC;clear hs hpt G
    go_wp2_with fail
    refine(D.out _ y.out.1).mono ?_;rintro e w1 ⟨rfl,A⟩;have o:=hid (y.out.below A);clear A y D U
    go_wp2_with fail
    refine(HC.out _ o.out.1).mono ?_;rintro e Y hA;have aF:Hid (Qd E B R b v L ru ne w e Y):=by show Qd _ _ _ _ _ _ _ _ _ _ _;rw[V.out];exact Qd.up o.out hA
    obtain⟨f',rfl,_,_⟩:=hA;clear o HC V
    go_wp2_with fail
    exact⟨rfl,aF.out⟩
   |inr q=>
    obtain⟨n,k'⟩:=q;have aG:=z0Z HG.out HA.out hj hs;have aH:Hid (Xc L inn f k' (acc++[n])=E):=by show _=_;rw[<-G.out,Xc,if_pos hpt,hs]
    rw[hs]at HC;clear hs hpt G
    go_wp2_with fail
    refine(D.out _ y.out.1).mono ?_;rintro e w1 ⟨rfl,A⟩;have o:=hid (y.out.below A);have aa:=hid (U.out.below A);have HJ:Hid (Jz R wr=j):=Dp y.out.1;clear A y D U
    go_wp2_with fail
    refine(HC.out _ o.out.1).mono ?_;rintro e Y ⟨cs,rfl,HN,HR,ad⟩;have ae:=hid (o.out.grown HR.out ad.out);have al:=hid (aa.out.grown ad.out (by have:=o.out.lt;omega));have am:=hid (aa.out.blk);have ao:Hid (w.heap.size+1<=w1.heap.size):=o.out.size;clear o aa HR ad HC;obtain⟨kd,T,C,so,sl,sc,ab⟩:=HN.out.shape;obtain⟨p,hp⟩:∃p,p=n.at':=⟨_,rfl⟩;rw[<-hp]at ab;subst ab;clear hp;obtain⟨xs,ap,aq⟩:=al.out;have ac:=hid ap;have ar:=hid aq;clear ap aq al;dsimp only[n8]
    go_wp2_with(first|(at_builtin;refine wpList_append_own_at _ rfl (.tmp 6) (.tmp 9) 117 rfl (w.heap.size+1) 119 iT (.agg #[zI 0,zT {data:=#[]},zU 0,zU 0,zU 0,zU 0,.slice none 0 0,zI 0]) 8 88 Tryz.underlying117 aB aC aD aE rfl (by decide) _ _ _ rfl (ac.out.alloc _) ⟨Y.heap.size,0,none⟩ 1 1 (n8 kd T C (.slice so sl sc) p) rfl rfl (Ok Y _ _ _ _ _ _ _ _ 119) (Ov _ _ _ _ _ _ _ _ _ _) (by unfold maxLen;omega) (by omega) (by have:=ae.out.size;simp;omega) ?_;intro v4 w4 au af aI av))
    have aJ:Hid (Ro (w.heap.size+1) v4 (acc++[n]) w4):=Ro.app ac.out ar.out HN.out ao.out am.out ((Below.refl _ Y).alloc L0q _) au af av;have aw:Hid (En w R b v L k' ru ne w4):=(ae.out.alloc _).rowed af (fun g e=>by have:=(ac.out.lt g e).1;omega);have aK:Hid (Jz R w4=k'):=Dp aw.out.1;clear au af aI av ac ar HN ae am ao
    go_wp2_with fail
    go_roundw
    case rel=>exact⟨f,k',acc++[n],aG.2,by omega,by simp;omega,aH,aJ,aw⟩
    case measure=>rw[HJ.out,aK.out];omega
  |false=>
   rw[hpt]at D;clear HM;cases acc with
   |nil=>
    have V:Hid (E=.inr (.mk 1 {data:=#[]} 0 [] (gL L j).2.2.2,j)):=by show _=_;rw[<-G.out,Xc,if_neg (by rw[hpt];decide)];rfl
    obtain⟨sa,aO,ag⟩:=U.out.shape0;subst ag;clear hpt G U
    go_wp2_with fail
    refine(D.out _ y.out.1).mono ?_;rintro e w1 ⟨rfl,A⟩;have o:=hid (y.out.below A);clear A y D
    go_wp2_with fail
    refine(HT.out _ o.out.1).mono ?_;rintro e Y ⟨rfl,ax⟩;have Z:=hid (o.out.below ax);clear ax o HT;obtain⟨t,ht⟩:∃t,t=gL L j:=⟨_,rfl⟩;rw[<-ht]at V ⊢;clear ht;obtain⟨tk,tT,tC,p⟩:=t;dsimp only[tkv];obtain⟨⟨k0,k1,k2,k3,k4,k5,k6,k7⟩,⟨f0,f1,f2,f3,f4,f5,f6,f7⟩⟩:=Z.out.cells
    go_wp2_with fail
    (try simp only[Exit.inBlock,Exit.then])
    obtain⟨⟨c0,c1,c2,c3,c4,c5,c6,c7⟩,_⟩:=Qf (Vb Z.out.2.2.1 1 {data:=#[]} 0 0 0 0 (.slice none 0 0) (p:Int));refine bodyPost_ret (v:=.agg (n8 1 {data:=#[]} 0 (.slice none 0 0) p).toArray) (by simp[results,Tryz.results191,go_sem,c0,c1,c2,c3,c4,c5,c6,c7,Um]) rfl ?_;rw[V.out];have hf:=Z.out.fin (B:=B) (n:=.mk 1 {data:=#[]} 0 [] p) (sv:=.slice none 0 0) (kd:=1) (T:={data:=#[]}) (C:=0) (p:=p) (by rw[Qh];exact⟨_,rfl,.inl ⟨rfl,rfl⟩⟩) hB;simpa [Um]using hf
   |cons n r=>
    have V:Hid (E=.inr (Jh 6 (n::r),j)):=by show _=_;rw[<-G.out,Xc,if_neg (by rw[hpt];decide)];rfl
    rw[List.length_cons]at ak;clear hpt G;obtain⟨aP,ah,_⟩:=U.out;rw[List.length_cons]at ah;obtain⟨g,aQ,ag⟩:=Vc ah (by omega);clear ah;subst ag;have t0:((r.length:Int)+1 == 0)=false:=by simp;omega
    obtain⟨m,hm⟩:∃m,m=r.length:=⟨_,rfl⟩;have ay:Hid (m=r.length):=hm;rw[<-hm]at t0 ak ⊢;clear hm
    go_wp2_with fail
    refine(D.out _ y.out.1).mono ?_;rintro e w1 ⟨rfl,A⟩;have o:=hid (y.out.below A);have aa:=hid (U.out.below A);clear A y D U HT;obtain⟨g',aR,hq,HJ⟩:=aa.out.joined o.out.size (by rw[<-ay.out];omega) 6;rw[<-ay.out]at HJ hq;cases hq;clear aa
    go_wp2_with fail
    refine HJ.out.mono ?_;rintro e Y ⟨cs,rfl,az,aA⟩;have Z:=hid (o.out.below aA.out);clear aA o HJ;obtain⟨kd,T,C,so,sl,sc,ab⟩:=az.out.shape;obtain⟨p,hp⟩:∃p,p=(Jh 6 (n::r)).at':=⟨_,rfl⟩;rw[<-hp]at ab;subst ab;clear hp;dsimp only[n8];obtain⟨⟨k0,k1,k2,k3,k4,k5,k6,k7⟩,⟨f0,f1,f2,f3,f4,f5,f6,f7⟩⟩:=Z.out.cells
    go_wp2_with fail
    (try simp only[Exit.inBlock,Exit.then])
    obtain⟨⟨c0,c1,c2,c3,c4,c5,c6,c7⟩,_⟩:=Qf (Vb Z.out.2.2.1 (kd:Int) T (wd C 0:Nat) (wd C 1:Nat) (wd C 2:Nat) (wd C 3:Nat) (.slice so sl sc) (p:Int));refine bodyPost_ret (v:=.agg (n8 kd T C (.slice so sl sc) p).toArray) (by simp[results,Tryz.results191,go_sem,c0,c1,c2,c3,c4,c5,c6,c7]) rfl ?_;rw[V.out];exact Z.out.fin az.out hB
theorem Ro.one{o a1 a2 a3 a4 r y A:Value}(h:Qh W (fun g=>B<=g) n [o,a1,a2,a3,a4,r,y,A])(E:B<=W.heap.size):Ro B (zS W.heap.size 1 1) [n] (W.alloc (.cells #[o,a1,a2,a3,a4,r,y,A] 119)):=by
 refine⟨[o,a1,a2,a3,a4,r,y,A],⟨rfl,.inr ⟨W.heap.size,1,_,rfl,E,Qx _ _ rfl,Nat.le_refl _,by unfold maxLen;omega,rfl,rfl⟩⟩,?_⟩;rw[Qp];refine⟨[o,a1,a2,a3,a4,r,y,A],[],by simp,Qh.kept (fun g U G D=>⟨Below.heap_alloc W _ g (Qq D),G,?_⟩) n _ h,by rw[Qp];trivial⟩;intro e;have V:W.heap.size=g:=Option.some.inj e;have:=Qq D;omega
theorem z8e(R b:Nat)(v:Value)(L:List Tok)(ru ne:Nat)(inn:Nat->Pr)(hg:Ql L)(ha:Adv L inn)(ho:MC 191 (fun k=>Xc L inn L.length k []) (fun _=>True) R b v L ru ne):
  MC 167 (chS L inn) (fun _=>True) R b v L ru ne:=by
 intro k B w h hk _ hB;obtain⟨iT,aG,aH,aI,aJ⟩:=info_parts Tryz.infoNd;have ag:Hid (En w R b v L k ru ne (w.alloc Zo)):=En.start h;have HM:Hid (MC 191 (fun k=>Xc L inn L.length k []) (fun _=>True) R b v L ru ne):=ho;have HG:Hid (Ql L):=hg;have HA:Hid (Adv L inn):=ha;have aS:=hg.len;have HO:=hid (ho k (w.heap.size+1) (w.alloc Zo) (h.alloc _) hk trivial (by simp));unfold chS;cases hs:Xc L inn L.length k []with
 |inl c=>
  simp only[hs]at HO;clear ho h hg ha HM hs;show Calls _ _ _ _ (fun e w'=>Qd (.inl c) B R b v L ru ne w e w');go_enter func167,ntmps167
  go_wp2_with fail
  refine HO.out.mono ?_;rintro e w1 hA;have ah:Hid (Qd (.inl c) B R b v L ru ne w e w1):=Qd.up ag.out hA;obtain⟨f,rfl,_,_⟩:=hA;clear HO ag
  go_wp2_with fail
  exact⟨rfl,ah.out⟩
 |inr q=>
  obtain⟨n,k1⟩:=q;have aK:=Nw hg ha _ _ _ _ _ hk hs;simp only[hs]at HO;obtain⟨E,hR⟩:∃E,E=Uq L inn L.length k1 [n]:=⟨_,rfl⟩;have ao:Hid (Uq L inn L.length k1 [n]=E):=hR.symm;show Calls _ _ _ _ (fun e w'=>Qd (Uq L inn L.length k1 [n]) B R b v L ru ne w e w');rw[<-hR];clear hR h ho hg ha hs;go_enter func167,ntmps167
  go_wp2_with fail
  refine HO.out.mono ?_;rintro e w1 ⟨cs,rfl,HN,HR,ab⟩;have aa:=hid (ag.out.grown HR.out ab.out);clear HO HR ab ag;obtain⟨kd,T,C,so,sl,sc,U⟩:=HN.out.shape;obtain⟨p,V⟩:∃p,p=n.at':=⟨_,rfl⟩;rw[<-V]at U;subst U;clear V;dsimp only[n8];have ae:=hid (Ro.one HN.out aa.out.size);have ap:=hid (aa.out.alloc (.cells #[zI (kd:Int),zT T,zU (wd C 0:Nat),zU (wd C 1:Nat),zU (wd C 2:Nat),zU (wd C 3:Nat),.slice so sl sc,zI (p:Int)] 119));clear HN aa
  go_wp2_with fail
  go_loopw [3] (fun a wr=>∃(f j:Nat) (m:Nd) (r:List Nd),j<L.length/\L.length<=f+j/\r.length<=j/\Hid (Uq L inn f j (m::r)=E)/\Hid (Ro (w.heap.size+1) a (m::r) wr)/\Hid (En w R b v L j ru ne wr)) (fun _ wr=>L.length-Jz R wr)
  case atStart=>exact⟨L.length,k1,n,[],aK.2,by omega,by simp,ao,ae,ap⟩
  case round=>
   obtain⟨f,j,m,r,hj,aT,aL,ac,ad,y⟩:=hrel;clear ao ap ae;have Y:=Gw R b v L j ru ne hj HG.out;have aU:(j:Int)+1<9223372036854775807:=by omega
   cases f with
   |zero=>omega
   |succ f=>
   by_cases hz:sgT (gL L j)={data:=#[47]}
   ·have aq:=HG.out.sg hj hz
    rw[hz]at Y;have HC:=hid (fun(W:World) (h:Rd W R b v L (j+1) ru ne)=>HM.out (j+1) W.heap.size W h aq trivial L0q);cases hs:Xc L inn L.length (j+1) []with
    |inl c=>
     have HF:Hid (E=.inl c):=by show _=_;rw[<-ac.out,Uq,if_pos hz,hs]
     simp only[hs]at HC;clear hs hz ac
     go_wp2_with fail
     refine(Y.out _ y.out.1).mono ?_;rintro e w2 ⟨rfl,A⟩;have o:=hid (y.out.below A);clear A y Y ad;obtain⟨r0,r1,r2,r3,q0,q1,q2,q3⟩:=o.out.1.cells;have ai:=o.out.1.lt;have D:=hid o.out.next;clear o
     go_wp2_with fail
     refine(HC.out _ D.out.1).mono ?_;rintro e w5 hA;have ah:Hid (Qd E B R b v L ru ne w e w5):=by show Qd _ _ _ _ _ _ _ _ _ _ _;rw[HF.out];exact Qd.up D.out hA
     obtain⟨f',rfl,_,_⟩:=hA;clear D HC HF r0 r1 r2 r3 q0 q1 q2 q3 ai
     go_wp2_with fail
     exact⟨rfl,ah.out⟩
    |inr q=>
     obtain⟨n2,k'⟩:=q;have aM:=Nw HG.out HA.out _ _ _ _ _ aq hs;have aN:Hid (Uq L inn f k' ((m::r)++[n2])=E):=by show _=_;rw[<-ac.out,Uq,if_pos hz,hs]
     simp only[hs]at HC;clear hs hz ac;have HJ:Hid (Jz R wr=j):=Dp y.out.1
     go_wp2_with fail
     refine(Y.out _ y.out.1).mono ?_;rintro e w2 ⟨rfl,A⟩;have o:=hid (y.out.below A);have ar:=hid (ad.out.below A);clear A y Y ad;obtain⟨r0,r1,r2,r3,q0,q1,q2,q3⟩:=o.out.1.cells;have ai:=o.out.1.lt;have D:=hid o.out.next;have aj:=hid (ar.out.grown (G.setR (u:=zI ((j:Int)+1)) (j:=1) (G.refl w2 R)) (by have:=o.out.lt;omega));clear o ar
     go_wp2_with fail
     refine(HC.out _ D.out.1).mono ?_;rintro e w5 ⟨cs,rfl,HN,HR,ab⟩;have ak:=hid (D.out.grown HR.out ab.out);have au:=hid (aj.out.grown ab.out (by have:=D.out.lt;omega));have av:=hid (aj.out.blk);have aw:Hid (w.heap.size+1<=(w2.setCell ⟨R,1,none⟩ (zI ((j:Int)+1))).heap.size):=D.out.size;clear D aj HR ab HC r0 r1 r2 r3 q0 q1 q2 q3 ai;obtain⟨kd,T,C,so,sl,sc,U⟩:=HN.out.shape;obtain⟨p,V⟩:∃p,p=n2.at':=⟨_,rfl⟩;rw[<-V]at U;subst U;clear V;obtain⟨xs,ax,ay⟩:=au.out;have af:=hid ax;have az:=hid ay;clear ax ay au;rw[List.length_cons]at af;dsimp only[n8]
     go_wp2_with(first|(at_builtin;refine wpList_append_own_at _ rfl (.tmp 17) (.tmp 20) 117 rfl (w.heap.size+1) 119 iT (.agg #[zI 0,zT {data:=#[]},zU 0,zU 0,zU 0,zU 0,.slice none 0 0,zI 0]) 8 88 Tryz.underlying117 aG aH aI aJ rfl (by decide) _ _ _ rfl (af.out.alloc _) ⟨w5.heap.size,0,none⟩ 1 1 (n8 kd T C (.slice so sl sc) p) rfl rfl (Ok w5 _ _ _ _ _ _ _ _ 119) (Ov _ _ _ _ _ _ _ _ _ _) (by unfold maxLen;omega) (by omega) (by have:=ak.out.size;simp;omega) ?_;intro v6 w6 aA al aO aB))
     have aP:Hid (Ro (w.heap.size+1) v6 ((m::r)++[n2]) w6):=Ro.app af.out az.out HN.out aw.out av.out ((Below.refl _ w5).alloc L0q _) aA al aB;have aC:Hid (En w R b v L k' ru ne w6):=(ak.out.alloc _).rowed al (fun g e=>by have:=(af.out.lt g e).1;omega);have aQ:Hid (Jz R w6=k'):=Dp aC.out.1;clear aA al aO aB af az HN ak av aw
     go_wp2_with fail
     go_roundw
     case rel=>exact⟨f,k',m,r++[n2],aM.2,by omega,by simp;omega,aN,aP,aC⟩
     case measure=>rw[HJ.out,aQ.out];omega
   ·have HF:Hid (E=.inr (Jh 7 (m::r),j)):=by show _=_;rw[<-ac.out,Uq,if_neg hz]
    obtain⟨Z,hZ⟩:∃Z,Z=sgT (gL L j):=⟨_,rfl⟩;rw[<-hZ]at Y hz;have z1:(Z.toList == [47])=false:=Jg hz;clear hZ hz ac HM;obtain⟨aV,am,_⟩:=ad.out;rw[List.length_cons]at am;obtain⟨g,aW,aR⟩:=Vc am (by omega);clear am;subst aR;obtain⟨q,hq⟩:∃q,q=r.length:=⟨_,rfl⟩;have aD:Hid (q=r.length):=hq;rw[<-hq]at aL ⊢;clear hq
    go_wp2_with fail
    refine(Y.out _ y.out.1).mono ?_;rintro e w2 ⟨rfl,A⟩;have aa:=hid (y.out.below A);have ae:=hid (ad.out.below A);clear A y Y ad;obtain⟨g',aX,hq,HJ⟩:=ae.out.joined aa.out.size (by rw[<-aD.out];omega) 7;rw[<-aD.out]at HJ hq;cases hq;clear ae
    go_wp2_with fail
    refine HJ.out.mono ?_;rintro e w3 ⟨cs,rfl,aE,aF⟩;have o:=hid (aa.out.below aF.out);clear aF aa HJ;obtain⟨kd,T,C,so,sl,sc,U⟩:=aE.out.shape;obtain⟨p,V⟩:∃p,p=(Jh 7 (m::r)).at':=⟨_,rfl⟩;rw[<-V]at U;subst U;clear V;dsimp only[n8];obtain⟨⟨k0,k1,k2,k3,k4,k5,k6,k7⟩,⟨f0,f1,f2,f3,f4,f5,f6,f7⟩⟩:=o.out.cells
    go_wp2_with fail
    (try simp only[Exit.inBlock,Exit.then])
    obtain⟨⟨c0,c1,c2,c3,c4,c5,c6,c7⟩,_⟩:=Qf (Vb o.out.2.2.1 (kd:Int) T (wd C 0:Nat) (wd C 1:Nat) (wd C 2:Nat) (wd C 3:Nat) (.slice so sl sc) (p:Int));refine bodyPost_ret (v:=.agg (n8 kd T C (.slice so sl sc) p).toArray) (by simp[results,Tryz.results167,go_sem,c0,c1,c2,c3,c4,c5,c6,c7]) rfl ?_;rw[HF.out];exact o.out.fin aE.out hB
theorem Rd.setNest{ne:Nat}(h:Rd w R b v L k ru ne):Rd (w.setCell ⟨R,3,none⟩ (zI ((ne:Int)+1))) R b v L k ru (ne+1):=by
 have o:=h.nest (ne+1);rw[show(((ne+1:Nat):Int))=(ne:Int)+1 by omega]at o;exact o
theorem En.nestD{ne:Nat}(h:En w R b v L k ru (ne+1) W):En w R b v L k ru ne (W.setCell ⟨R,3,none⟩ (zI (ne:Int))):=
 ⟨h.1.nest ne,G.setR h.2.1,(Below.heap_setCell _ _ _ _ (show w.heap.size≠R by have:=h.lt;omega)).trans h.2.2.1,h.2.2.2.1,h.2.2.2.2⟩
theorem En.start'{y ne A:Nat}(o:Rd w R b v L y ru A)(h:Rd W R b v L k ru ne)(r:w.grownBy W (some R))(D:W.heap.size=w.heap.size):En w R b v L k ru ne (W.alloc Zo):=
 ⟨h.alloc _,G.alloc r,by rw[<-D];exact Qx W _ rfl,o.lt,fun g r e=>by have:=(o.2.lt _ e).2;omega⟩
theorem z8f(R b:Nat)(v:Value)(L:List Tok)(ru:Nat)(D:Ql L):
  MC 296 (Vh L 0) (fun k=>sgT (gL L k)={data:=#[40]}) R b v L ru 24:=by
 intro k B w h E _ hB;rw[Vh];have y:=z1b R b v L k ru 24 E D;have o:Hid (En w R b v L k ru 24 (w.alloc Zo)):=En.start h;obtain⟨U,V,Y,A,Z,q1,q2,q3⟩:=o.out.1.cells;have aa:(w.alloc Zo).cell? ⟨R,3,none⟩=some (zI 24):=A;clear h U V Y A Z q1 q2 q3;go_enter func296,ntmps296
 go_wp2_with fail
 refine(y.out 2 _ o.out.1).mono ?_;rintro e w1 ⟨f,rfl,r⟩;have HA:Hid (Qd (.inl (2,(gL L k).2.2.2)) B R b v L ru 24 w (.panicked [{v:=.iface 181 (zP f 0),recovered:=false}]) w1):=Qd.up (B':=0) (ne':=24) o.out ⟨f,rfl,hid ⟨r.out.1,r.out.2.1⟩,hid (G.below r.out.2.2)⟩;clear r o y aa
 go_wp2_with fail
 exact⟨rfl,HA.out⟩
theorem z8g(R b:Nat)(v:Value)(L:List Tok)(ru ne d:Nat)(hg:Ql L)(ar:ne<24)(ho:MC 167 (chS L (Vh L d)) (fun _=>True) R b v L ru (ne+1)):
  MC 296 (Vh L (d+1)) (fun k=>sgT (gL L k)={data:=#[40]}) R b v L ru ne:=by
 intro k B w h hk ae hB;rw[Vh];have af:=hg.sg hk ae;have au:(k:Int)+1<9223372036854775807:=by have:=hg.len;omega
 have av:((ne:Int) == 24)=false:=by simp;omega
 have o:Hid (En w R b v L (k+1) ru (ne+1) (((w.setCell ⟨R,1,none⟩ (.int .i64 ((k:Int)+1))).setCell ⟨R,3,none⟩ (.int .i64 ((ne:Int)+1))).alloc Zo)):=En.start' h h.next1.setNest (G.setR (G.setR (G.refl w R))) (by simp);have A:=Cg ho (k+1) (w.heap.size+1) af;have HG:Hid (Ql L):=hg;have ag:=hid (Ny hg d);obtain⟨r0,r1,r2,r3,q0,q1,q2,q3⟩:=h.cells;have ad:=h.lt;clear h ho ae hg;cases hs:chS L (Vh L d) (k+1)with
 |inl c=>
  rw[hs]at A;clear hs;show Calls _ _ _ _ (fun e w'=>Qd (.inl c) B R b v L ru ne w e w');go_enter func296,ntmps296
  go_wp2_with fail
  refine(A.out _ o.out.1 (by have:=o.out.size;omega)).mono ?_;rintro e r hA;have HA:Hid (Qd (.inl c) B R b v L ru ne w e r):=Qd.up o.out hA;obtain⟨f,rfl,_,_⟩:=hA;clear o A r0 r1 r2 r3 q0 q1 q2 q3
  go_wp2_with fail
  exact⟨rfl,HA.out⟩
 |inr q=>
  obtain⟨n,k'⟩:=q;rw[hs]at A;have ah:=Oq HG.out ag.out af hs;have HS:=Gw R b v L k' ru (ne+1) ah.2 HG.out;have HW:=Cf R b v L k' ru (ne+1) ah.2 HG.out;have aw:(k':Int)+1<9223372036854775807:=by have:=HG.out.len;omega
  unfold Cy;simp only;clear hs ag;by_cases hz:sgT (gL L k')={data:=#[41]}
  ·rw[if_pos hz]
   rw[hz]at HS;clear hz HW;go_enter func296,ntmps296
   go_wp2_with fail
   refine(A.out _ o.out.1 (by have:=o.out.size;omega)).mono ?_;rintro e r ⟨cs,rfl,HN,HR,ab⟩;have aa:=hid (o.out.grown HR.out ab.out);clear o A HR ab r0 r1 r2 r3 q0 q1 q2 q3 ad;obtain⟨kd,T,C,D,E,U,ac⟩:=HN.out.shape;obtain⟨p,hp⟩:∃p,p=n.at':=⟨_,rfl⟩;rw[<-hp]at ac;subst ac;clear hp;dsimp only[n8];have Y:=hid (aa.out.alloc (.cells #[.int .i64 kd,.string T,.int .u64 (wd C 0),.int .u64 (wd C 1),.int .u64 (wd C 2),.int .u64 (wd C 3),.slice D E U,.int .i64 p] 119));have ai:=hid (HN.out.below (((Below.refl _ r).alloc L0q (.cells #[.int .i64 kd,.string T,.int .u64 (wd C 0),.int .u64 (wd C 1),.int .u64 (wd C 2),.int .u64 (wd C 3),.slice D E U,.int .i64 p] 119))));have aj:Hid ((r.alloc (.cells #[.int .i64 kd,.string T,.int .u64 (wd C 0),.int .u64 (wd C 1),.int .u64 (wd C 2),.int .u64 (wd C 3),.slice D E U,.int .i64 p] 119)).heap[r.heap.size]? =some (.cells #[.int .i64 kd,.string T,.int .u64 (wd C 0),.int .u64 (wd C 1),.int .u64 (wd C 2),.int .u64 (wd C 3),.slice D E U,.int .i64 p] 119)):=Qx _ _ rfl;have ak:Hid (w.heap.size<r.heap.size):=aa.out.size;clear aa HN
   go_wp2_with fail
   refine(HS.out _ Y.out.1).mono ?_;rintro e w5 ⟨rfl,V⟩;have y:=hid (Y.out.below V);have al:=hid (ai.out.below V);have am:=hid ((V.block _ (by simp)).trans aj.out);have ao:Hid (r.heap.size<w5.heap.size):=Nat.lt_of_lt_of_le (by simp) V.size;clear V HS Y ai aj;obtain⟨⟨m0,m1,m2,m3,m4,m5,m6,m7⟩,⟨y0,y1,y2,y3,y4,y5,y6,y7⟩⟩:=Qf am.out;obtain⟨⟨k0,k1,k2,k3,k4,k5,k6,k7⟩,⟨f0,f1,f2,f3,f4,f5,f6,f7⟩⟩:=y.out.cells;obtain⟨r0,r1,r2,r3,q0,q1,q2,q3⟩:=y.out.1.cells;have ax:w5.cell? ⟨R,3,none⟩=some (.int .i64 ((ne:Int)+1)):=by rw[r3];simp
   clear r3;have ad:=y.out.lt;have ay:=ak.out;have az:=ao.out;have aA:R≠r.heap.size:=by omega
   have aB:R≠w.heap.size:=by omega
   have aC:w.heap.size≠r.heap.size:=by omega
   have ap:=hid y.out.next.nestD;have aq:=hid (Qh.grown al.out (G.setR (u:=.int .i64 ne) (j:=3) (G.setR (u:=.int .i64 ((k':Int)+1)) (j:=1) (G.refl w5 R))) y.out.1.1);clear y al am ak ao
   go_wp2_with fail
   (try simp only[Exit.inBlock,Exit.then])
   obtain⟨⟨c0,c1,c2,c3,c4,c5,c6,c7⟩,_⟩:=Qf (Vb ap.out.2.2.1 (kd:Int) T (wd C 0:Nat) (wd C 1:Nat) (wd C 2:Nat) (wd C 3:Nat) (.slice D E U) (p:Int));refine bodyPost_ret (v:=.agg (n8 kd T C (.slice D E U) p).toArray) (by simp[results,Tryz.results296,go_sem,c0,c1,c2,c3,c4,c5,c6,c7]) rfl ?_;exact ap.out.fin aq.out hB
  ·rw[if_neg hz]
   obtain⟨Z,hZ⟩:∃Z,Z=sgT (gL L k'):=⟨_,rfl⟩;rw[<-hZ]at HS hz;have z1:(Z.toList == [41])=false:=Jg hz;clear hz hZ;go_enter func296,ntmps296
   go_wp2_with fail
   refine(A.out _ o.out.1 (by have:=o.out.size;omega)).mono ?_;rintro e r ⟨cs,rfl,HN,HR,ab⟩;have aa:=hid (o.out.grown HR.out ab.out);clear o A HR ab r0 r1 r2 r3 q0 q1 q2 q3 ad;obtain⟨kd,T,C,D,E,U,ac⟩:=HN.out.shape;obtain⟨p,hp⟩:∃p,p=n.at':=⟨_,rfl⟩;rw[<-hp]at ac;subst ac;clear hp;dsimp only[n8];have Y:=hid (aa.out.alloc (.cells #[.int .i64 kd,.string T,.int .u64 (wd C 0),.int .u64 (wd C 1),.int .u64 (wd C 2),.int .u64 (wd C 3),.slice D E U,.int .i64 p] 119));clear aa HN
   go_wp2_with fail
   refine(HS.out _ Y.out.1).mono ?_;rintro e w5 ⟨rfl,V⟩;have y:=hid (Y.out.below V);clear V HS Y
   go_wp2_with fail
   refine(HW.out _ y.out.1).mono ?_;rintro e w6 ⟨f,rfl,HP⟩;have HA:Hid (Qd (.inl (wrC (gL L k'),(gL L k').2.2.2)) B R b v L ru ne w (.panicked [{v:=.iface 181 (.pointer (some ⟨f,0,none⟩)),recovered:=false}]) w6):=Qd.up (B':=0) (ne':=ne) y.out ⟨f,rfl,hid ⟨HP.out.1,HP.out.2.1⟩,hid (G.below HP.out.2.2)⟩;clear HP y HW
   go_wp2_with fail
   exact⟨rfl,HA.out⟩
theorem z1d(R b:Nat)(v:Value)(L:List Tok)(ru ne:Nat)(inn:Nat->Pr)(h:Ql L)(ha:Adv L inn)(o:MC 296 inn (fun k=>sgT (gL L k)={data:=#[40]}) R b v L ru ne):
  MC 167 (chS L inn) (fun _=>True) R b v L ru ne:=
 z8e R b v L ru ne inn h ha (z8d R b v L ru ne inn h ha (z8c R b v L ru ne inn h ha (z8b R b v L ru ne inn h ha (z8a R b v L ru ne inn h o))))
theorem z1e(R b:Nat)(v:Value)(L:List Tok)(ru:Nat)(o:Ql L):∀(d ne:Nat),ne+d=24->MC 167 (chS L (Vh L d)) (fun _=>True) R b v L ru ne
 |0,ne,h=>by
  have r:ne=24:=by omega
  subst r;exact z1d R b v L ru 24 _ o (Ny o 0) (z8f R b v L ru o)
 |d+1,ne,h=>z1d R b v L ru ne _ o (Ny o (d+1)) (z8g R b v L ru ne d o (by omega) (z1e R b v L ru o d (ne+1) (by omega)))
end Go.Proofs.YtmelafeingcgnaaGreatDoor
