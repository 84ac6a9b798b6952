/- Lemmas for the last text. Conditions: those that each names. -/
import Derived.Test.YtgnkkgcgbeianaaGreatDoorVGLToGO
import Derived.Test.YtgnkkgcgbeianaaGreatDoorVO5ToS4
import Derived.Tactics2
import Derived.Defers
import Derived.Recover
import Derived.Laws.Pointers
import Derived.Test.YtgnkkgcgbeianaaGreatDoorVT21ToC4
import Derived.Test.YtgnkkgcgbeianaaGreatDoorVXSnToGB
import Derived.Test.YtgnkkgcgbeianaaGreatDoorVX3ToX16
import Derived.Test.YtgnkkgcgbeianaaGreatDoorRows
import Derived.ProofKit
import Derived.OpenShut
import Derived.Carry
import Derived.Test.YtgnkkgcgbeianaaGreatDoorCards
import Derived.Test.YtgnkkgcgbeianaaGreatDoorTie
import Derived.LaidMore
import Derived.LaidHandle
import Derived.Stop.Joined
import Derived.SizedLaws
import Derived.Lib.LaidTab
import Derived.Test.YtgnkkgcgbeianaaGreatDoorVQ1ToQ3
import Derived.Stop.LaidErr
import Derived.LaidLaws
import Derived.Test.YtgnkkgcgbeianaaGreatDoorVR8ToO4
set_option linter.unusedVariables false
set_option maxRecDepth 100000
set_option maxHeartbeats 16000000
namespace Go.Proofs.YtgnkkgcgbeianaaGreatDoor
open Go.Proofs.Tryz
open Go.RowKit Go.Shelf Go.Maps
variable {W:World} {v0 v1 v2:Value}
section
theorem Pm.upd{B:Nat}{l:List ByteArray}{s:zA}(h:Pm W B l)(r:inN s l=false)(t:s.size<=maxLen)(hl:l.length<maxLen):∃W',(Instr.mapUpdate 127 (.map (some B)) (zT s) (zI (l.length:Nat))).run prog W=.ok () W'/\Pm W' B (l++[s])/\W.grownBy W' (some B):=by
 obtain⟨D,o,y⟩:=h;obtain⟨W',A,E,G⟩:=o.update Gq Tryz.underlying127 hl (Gx t) (plainElem_int Tryz.underlying3 (a:=((l.length:Nat):Int)) (WalkArith.wf_i64 (by unfold maxLen at hl;omega)));exact⟨W',A,Pm.put y o.isMap r E,G⟩
theorem z6A{W':World}{o a1 a2 a3 a4 r t y A:Addr}{v3 v4 v5 v6 v7 v8:Value}(h:W.cell? o=some v0/\W.cell? a1=some v1/\W.cell? a2=some v2/\W.cell? a3=some v3/\W.cell? a4=some v4/\W.cell? r=some v5/\W.cell? t=some v6/\W.cell? y=some v7/\W.cell? A=some v8)(D:zB W W'):W'.cell? o=some v0/\W'.cell? a1=some v1/\W'.cell? a2=some v2/\W'.cell? a3=some v3/\W'.cell? a4=some v4/\W'.cell? r=some v5/\W'.cell? t=some v6/\W'.cell? y=some v7/\W'.cell? A=some v8:=by
 obtain⟨E,G,I,U,V,Y,Z,z7,z8⟩:=h;have e:∀{a:Addr} {u:Value},W.cell? a=some u->W'.cell? a=some u:=fun{a u} h=>(D.cell (p:=a) (World.block_lt_of_cell? W _ h)).trans h
 exact⟨e E,e G,e I,e U,e V,e Y,e Z,e z7,e z8⟩
theorem y7y{W':World}{m r:Nat}{row:Option Nat}{v3 v4 v5 v6 v7 v8:Value}(h:zC W m 2 v0/\zC W r 1 v1/\zC W r 2 v2/\zC W r 3 v3/\zC W r 4 v4/\zC W r 5 v5/\zC W r 6 v6/\zC W r 7 v7/\zC W r 8 v8)(y:some m≠row)(t:some r≠row)(o:W.grownBy W' row):zC W' m 2 v0/\zC W' r 1 v1/\zC W' r 2 v2/\zC W' r 3 v3/\zC W' r 4 v4/\zC W' r 5 v5/\zC W' r 6 v6/\zC W' r 7 v7/\zC W' r 8 v8:=
 ⟨o.cell h.1 y,o.cell h.2.1 t,o.cell h.2.2.1 t,o.cell h.2.2.2.1 t,o.cell h.2.2.2.2.1 t,o.cell h.2.2.2.2.2.1 t,o.cell h.2.2.2.2.2.2.1 t,o.cell h.2.2.2.2.2.2.2.1 t,o.cell h.2.2.2.2.2.2.2.2 t⟩
structure Mw (w:World) (so:Option Addr) (n cap:Nat) (T:zA) (M:Nat) (sv:Value) (W:World):Prop where
 be:zB w W
 g:W.heap[w.heap.size]? =some (.cells #[.slice so n cap] 43)
 m:Smn W (w.heap.size+2) T (.map (some (w.heap.size+1))) sv 0 M
def MgP(rs:List Rr)(T:zA)(M:Nat)(w:World)(e:Ending)(w':World):Prop:=∃mB pv sv,e=.returned (zP mB 0)/\w.heap.size<=mB/\Smn w' mB T pv sv 0 M/\(∃L,Bd w' mB L rs sv)/\zB w w'
def Bj(w:World)(rs:List Rr)(j:Nat)(v:Value)(xs:List Value)(W:World):Prop:=W.ownsRow (w.heap.size+3) 132 1 v j xs/\∀i (hi:i<rs.length),i<j->∃x,xs[i]? =some x/\Mv W (w.heap.size+2) (fun b=>v.ownBlock≠some b) (fun N=>ixN N (nmL rs)) rs[i].2.1 x
theorem Bj.step{w W o t:World}{rs:List Rr}{j:Nat}{v:Value}{xs:List Value}{x:Value}{A E:Nat}{X:Obj}{u:Value}(h:Bj w rs j v xs W)(hj:j<rs.length)(hz:w.heap.size+3<=W.heap.size)(U:zB W o)(hx:Mv o (w.heap.size+2) (fun b=>W.heap.size<=b) (fun N=>ixN N (nmL rs)) rs[j].2.1 x)(ac:t.ownsRow (w.heap.size+3) 132 1 (zS A (j+1) E) (j+1) (xs++[x]))(V:(o.alloc X).grownBy t v.ownBlock)(ad:v.ownBlock=some A∨A=o.heap.size+1):Bj w rs (j+1) (zS A (j+1) E) (xs++[x]) (t.setCell ⟨w.heap.size+2,2,none⟩ u):=by
 have h2:=U.size;have ae:=h.1.lt;have ea:(o.alloc X).heap.size=o.heap.size+1:=World.size_alloc _ _;have af:o.heap.size+1<=t.heap.size:=by have:=V.size;omega
 have Y:∀b,b<o.heap.size->v.ownBlock≠some b->b≠w.heap.size+2->(t.setCell ⟨w.heap.size+2,2,none⟩ u).heap[b]? =o.heap[b]? :=fun b Z G h3=>(Below.heap_setCell t ⟨w.heap.size+2,2,none⟩ u b (by simpa using h3)).trans ((V.block b (by omega) (fun e=>G e.symm)).trans (Below.heap_alloc _ _ _ Z))
 have aa:∀b,b<o.heap.size->v.ownBlock≠some b->(Value.slice (some ⟨A,0,none⟩) (j+1) E).ownBlock≠some b:=fun b Z G e=>by
  have e:A=b:=Option.some.inj e;subst e;rcases ad with h|h
  ·exact G h
  ·omega
 refine⟨?_,fun i hi ag=> ?_⟩
 ·refine ownsRow_setCell_below ac ?_ u
  show w.heap.size+2<w.heap.size+3;omega
 ·have hl:xs.length=j:=by have:=h.1.1;omega
  by_cases e:i<j
  ·obtain⟨y,hy,hm⟩:=h.2 i hi e
   refine⟨y,by rw[List.getElem?_append_left (by omega)];exact hy,Jp (fun b r D=>aa b (by omega) r) (fun b I r D=> ?_) _ _ hm⟩;exact(Y b (by omega) r I).trans (U.block b D)
  ·obtain rfl:i=j:=by omega
   have ab:∀b,W.heap.size<=b->v.ownBlock≠some b:=fun b r e=>by have:=(ae b e).2;omega
   exact⟨x,by rw[List.getElem?_append_right (by omega),hl];simp,Jp (fun b r D=>aa b D (ab b r)) (fun b I r D=>Y b D (ab b r) I) _ _ hx⟩
theorem y7z(so:Option Addr)(n ak:Nat)(rs:List Rr)(T:zA)(M:Nat)(w:World)(h:Qb w w.heap.size so n rs)(bg:n<=1048576)(HZ:Hid (∀x∈rs,x.1.size<=maxLen))(aU:Hid (∀j (hj:j<rs.length),inN rs[j].1 (nmL (rs.take j))=false))
  (aq:Hid (∀x∈rs,∀(k:Int) (N:zA) (a b c d:Int) (U:Option Addr) (V Y:Nat) (p:Int),Qy w w.heap.size x.2.1 (r8 k N a b c d U V Y p)->∀W:World,zB w W->w.heap.size+2<W.heap.size->zC W (w.heap.size+2) 1 (.map (some (w.heap.size+1)))->Pm W (w.heap.size+1) (nmL rs)->Calls prog 54 #[zP (w.heap.size+2) 0,.agg #[zI k,zT N,zU a,zU b,zU c,zU d,.slice U V Y,zI p]] W (CtP (w.heap.size+2) (fun b=>W.heap.size<=b) (fun N=>ixN N (nmL rs)) x.2.1 W))):
  Calls prog 32 #[.agg #[.slice so n ak],zT T,zI (M:Int)] w (MgP rs T M w):=by
 have bh:∀W:World,(Instr.makeMap 127 (some (zI (n:Int)))).run prog W=.ok (.map (some W.heap.size)) (W.alloc (.map #[] 0)):=fun W=>by kernel_rfl
 obtain⟨iT,aV,aW,aX,aY⟩:=info_parts Tryz.infoMt;obtain⟨W0,ar⟩:∃W0,W0=((w.alloc (.cells #[.slice so n ak] 43)).alloc (.map #[] 0)).alloc (.cells #[zT T,.map (some (w.heap.size+1)),.slice none 0 0,zI 0,zI (M:Int)] 130):=⟨_,rfl⟩;have aE:Hid (Mw w so n ak T M (.slice none 0 0) W0):=by
  rw[ar];refine⟨(be2 _ _ _).alloc (by simp;omega) _,?_,?_⟩
  ·exact(Below.heap_alloc _ _ _ (by simp;omega)).trans ((Below.heap_alloc _ _ _ (by simp)).trans (Qx w _ rfl))
  ·exact Qx _ _ (by simp)
 have aF:Hid (Pm W0 (w.heap.size+1) []):=by
  rw[ar];have:=(Pm.made (w.alloc (.cells #[.slice so n ak] 43))).kept (World.grownBy_alloc _ (.cells #[zT T,.map (some (w.heap.size+1)),.slice none 0 0,zI 0,zI (M:Int)] 130) none) (by simp);rw[World.size_alloc]at this;exact this
 have HR:=hid h;have al:Hid (n=rs.length):=h.1;have aG:=hid ar;clear h ar;go_enter func32,ntmps32
 go_wp2_with fail
 rw[<-aG.out];clear aG
 go_loopw [23] (fun i wr=>∃j:Nat,i=zI (j:Int)/\j<=n/\Hid (Mw w so n ak T M (.slice none 0 0) wr)/\Hid (Pm wr (w.heap.size+1) (nmL (rs.take j)))) (fun i _=>n-(intOf i).toNat)
 case atStart=>exact⟨0,rfl,Nat.zero_le _,aE,by rw[List.take_zero];exact aF⟩
 case round=>
  obtain⟨j,rfl,hj,y,Z⟩:=hrel;by_cases hjn:j<n
  ·have aw:(j:Int)<(n:Int):=by omega
   have a0:decide ((j:Int)<(n:Int))=true:=by simp;omega
   have ac:j<rs.length:=by rw[<-al.out];exact hjn
   obtain⟨g,o,rfl,hg,k1,T1,a1,b1,c1,d1,U,V,Y,p1,au,z0,z1,z2,z3,z4,z5,z6,z7,z8,z9⟩:=HR.out.2.2 j ac;have ai:=y.out.be;have e:∀(o':Nat) (u:Value),zC w g o' u->zC wr g o' u:=fun o' u hu=>(ai.cell (p:=⟨g,o',none⟩) hg).trans hu
   replace z0:=e _ _ z0;replace z1:=e _ _ z1;replace z2:=e _ _ z2;replace z3:=e _ _ z3;replace z4:=e _ _ z4;replace z5:=e _ _ z5;replace z6:=e _ _ z6;replace z7:=e _ _ z7;replace z8:=e _ _ z8;replace z9:=e _ _ z9;have aZ:g<wr.heap.size:=World.block_lt_of_cell? wr _ z0;have aH:=hid (HZ.out _ (List.getElem_mem ac));have aI:Hid (nmL (rs.take (j+1))=nmL (rs.take j)++[rs[j].1]):=Pl rs j ac;have aJ:=hid (aU.out j ac);obtain⟨N0,am⟩:∃N0,N0=rs[j].1:=⟨_,rfl⟩;obtain⟨q1,ao⟩:∃q1,q1=rs[j].2.2:=⟨_,rfl⟩;rw[<-am]at z0 aH aI aJ;rw[<-ao]at z9;obtain⟨r,aa⟩:∃r,r=wr.alloc (.cells #[zT N0,zI k1,zT T1,zU a1,zU b1,zU c1,zU d1,.slice U V Y,zI p1,zI q1] 83):=⟨_,rfl⟩;have I:zB wr r:=by rw[aa];exact(Below.refl _ wr).alloc L0q _
   have E:r.heap[wr.heap.size]? =some (.cells #[zT N0,zI k1,zT T1,zU a1,zU b1,zU c1,zU d1,.slice U V Y,zI p1,zI q1] 83):=by rw[aa];exact Qx wr _ rfl
   have lm:w.heap.size+2<wr.heap.size:=Qq y.out.m;have ax:w.heap.size+1+1<r.heap.size:=Nat.lt_of_lt_of_le lm I.size;have a2:wr.heap.size<r.heap.size:=Qq E;have ay:Hid (zC r.drew (w.heap.size+1+1) 1 (.map (some (w.heap.size+1)))/\zC r.drew wr.heap.size 0 (zT N0)/\Pm r.drew (w.heap.size+1) (nmL (rs.take j))):=⟨(I.cell (p:=⟨w.heap.size+2,1,none⟩) lm).trans (Vg y.out.m).1.2.1,(Qj E 0 _ rfl).1,Z.out.below I.drew Z.out.lt⟩;have ad:=hid I.drew;have az:=hid aa;clear aq E I aa am ao e ai au
   go_wp2_with fail
   rw[<-az.out];refine Qc 7 (fun W:World=>zC W (w.heap.size+1+1) 1 (.map (some (w.heap.size+1)))/\zC W wr.heap.size 0 (zT N0)/\Pm W (w.heap.size+1) (nmL (rs.take j))) (by kernel_rfl) ay.out (fun t=> ?_);refine Qz 0 t ?_;refine Qz 1 t ?_;refine Qz 2 t ?_;refine Qz 3 t ?_;refine Qz 4 t ?_;refine Qz 5 t ?_;refine Qz 6 t ?_;refine Yj (fun K D=> ?_);obtain⟨W6,aK,aL,aj⟩:=Pm.upd t.2.2 aJ.out aH.out (by rw[nmL,List.length_map,List.length_take];unfold maxLen;omega);rw[show((nmL (rs.take j)).length)=j by rw[nmL,List.length_map,List.length_take];omega]at aK;have a3:=hid aL;have ae:=hid aj;clear t aL aj
   go_simp
   refine D.out _ _ ?_;clear D K aK
   go_wp2_with fail
   refine⟨⟨j+1,by go_num,by omega,hid ?_,hid ?_⟩,by simp[intOf];omega⟩
   ·have hb:=y.out.be.trans (ad.out.mono y.out.be.size)
    have ln:w.heap.size<r.drew.heap.size:=Nat.lt_of_lt_of_le (Qq y.out.g) ad.out.size;refine⟨hb.grown ae.out hb.size (fun g e=>by have:=Option.some.inj e;omega),(ae.out.block _ ln (fun e=>by have:=Option.some.inj e;omega)).trans ((ad.out.block _ (Qq y.out.g)).trans y.out.g),?_⟩;exact(ae.out.block _ ax (fun e=>by have:=Option.some.inj e;omega)).trans ((ad.out.block _ (Qq y.out.m)).trans y.out.m)
   ·rw[aI.out]
    exact a3.out
  ·have a0:decide ((j:Int)<(n:Int))=false:=by simp;omega
   have aw:¬(j:Int)<(n:Int):=by omega
   have aM:rs.take j=rs:=List.take_of_length_le (by rw[<-al.out];omega);rw[aM]at Z;have gc:=(Qk y.out.g).1;have a4:=Qq y.out.g;clear aM hj hjn
   go_wp2_with fail
   clear gc a4
   go_loopw [39] (fun i wr=>∃(j:Nat) (v:Value) (xs:List Value),i=zI (j:Int)/\j<=n/\Hid (Mw w so n ak T M v wr)/\Hid (Pm wr (w.heap.size+1) (nmL rs))/\Hid (Bj w rs j v xs wr)) (fun i _=>n-(intOf i).toNat)
   case atStart=>exact⟨0,.slice none 0 0,[],rfl,Nat.zero_le _,y,Z,hid ⟨World.ownsRow_nil _ _ _ _,fun i hi h=>by omega⟩⟩
   case round=>
   obtain⟨j,v,xs,rfl,hj,y,Z,ab⟩:=hrel;obtain⟨sa,af,rfl⟩:=Dd ab.out.1;by_cases hjn:j<n
   ·have aw:(j:Int)<(n:Int):=by omega
    have a0:decide ((j:Int)<(n:Int))=true:=by simp;omega
    have ac:j<rs.length:=by rw[<-al.out];exact hjn
    obtain⟨g,o,rfl,hg,k1,T1,a1,b1,c1,d1,U,V,Y,p1,au,z0,z1,z2,z3,z4,z5,z6,z7,z8,z9⟩:=HR.out.2.2 j ac;have ai:=y.out.be;have e:∀(o':Nat) (u:Value),zC w g o' u->zC wr g o' u:=fun o' u hu=>(ai.cell (p:=⟨g,o',none⟩) hg).trans hu
    replace z0:=e _ _ z0;replace z1:=e _ _ z1;replace z2:=e _ _ z2;replace z3:=e _ _ z3;replace z4:=e _ _ z4;replace z5:=e _ _ z5;replace z6:=e _ _ z6;replace z7:=e _ _ z7;replace z8:=e _ _ z8;replace z9:=e _ _ z9;have aZ:g<wr.heap.size:=World.block_lt_of_cell? wr _ z0;have aN:=aq.out rs[j] (List.getElem_mem ac) k1 T1 a1 b1 c1 d1 U V Y p1 au;obtain⟨N0,am⟩:∃N0,N0=rs[j].1:=⟨_,rfl⟩;obtain⟨q1,ao⟩:∃q1,q1=rs[j].2.2:=⟨_,rfl⟩;rw[<-am]at z0;rw[<-ao]at z9;obtain⟨r,aa⟩:∃r,r=wr.alloc (.cells #[zT N0,zI k1,zT T1,zU a1,zU b1,zU c1,zU d1,.slice U V Y,zI p1,zI q1] 83):=⟨_,rfl⟩;have I:zB wr r:=by rw[aa];exact(Below.refl _ wr).alloc L0q _
    have E:r.heap[wr.heap.size]? =some (.cells #[zT N0,zI k1,zT T1,zU a1,zU b1,zU c1,zU d1,.slice U V Y,zI p1,zI q1] 83):=by rw[aa];exact Qx wr _ rfl
    have lm:w.heap.size+2<wr.heap.size:=Qq y.out.m;have ax:w.heap.size+1+1<r.heap.size:=Nat.lt_of_lt_of_le lm I.size;have a2:wr.heap.size<r.heap.size:=Qq E;have aA:w.heap.size+2<r.drew.heap.size:=ax;have av:=(I.block _ (Qq y.out.m)).trans y.out.m;have HC:=hid (aN r.drew (ai.trans (I.mono ai.size)).drew aA (Vg av).1.2.1 (Z.out.below I.drew Z.out.lt));have ay:Hid (zC r.drew (w.heap.size+1+1) 2 (.slice sa j af)/\zC r.drew wr.heap.size 1 (zI k1)/\zC r.drew wr.heap.size 2 (zT T1)/\zC r.drew wr.heap.size 3 (zU a1)/\zC r.drew wr.heap.size 4 (zU b1)/\zC r.drew wr.heap.size 5 (zU c1)/\zC r.drew wr.heap.size 6 (zU d1)/\zC r.drew wr.heap.size 7 (.slice U V Y)/\zC r.drew wr.heap.size 8 (zI p1)):=⟨(Vg av).1.2.2.1,(Qj E 1 _ rfl).1,(Qj E 2 _ rfl).1,(Qj E 3 _ rfl).1,(Qj E 4 _ rfl).1,(Qj E 5 _ rfl).1,(Qj E 6 _ rfl).1,(Qj E 7 _ rfl).1,(Qj E 8 _ rfl).1⟩;have a5:Hid (∀A,Below r.drew.heap.size r.drew A->A.ownsRow (w.heap.size+3) 132 1 (.slice sa j af) j xs):=fun A h3=>Xh (w:=r.drew) (Xh ab.out.1 I).drew h3
    have ap:Hid (∀A,Below r.drew.heap.size r.drew A->w.heap.size+3<A.heap.size/\A.heap[w.heap.size+1+1]? =some (.cells #[zT T,.map (some (w.heap.size+1)),.slice sa j af,zI ((0:Nat):Int),zI (M:Int)] 130)):=fun A h3=>⟨by have:=h3.size;have e1:r.drew.heap.size=r.heap.size:=rfl;omega,(h3.block _ aA).trans av⟩
    have aB:=ab.out.1.lt;have aO:Hid (some (w.heap.size+1+1)≠(Value.slice sa j af).ownBlock):=fun e=>by have:=(aB _ e.symm).1;omega
    have a6:Hid (some wr.heap.size≠(Value.slice sa j af).ownBlock):=fun e=>by have:=(aB _ e.symm).2;omega
    have m1:j+1<=maxLen:=by unfold maxLen;omega
    have m2:(j+1)*8<=140737488355328:=by omega
    have ad:=hid I.drew;have az:=hid aa;clear aq E I aa am ao e ai au aN av aB aA aF aE
    go_wp2_with fail
    rw[<-az.out];refine Qc 13 (fun W:World=>zC W (w.heap.size+1+1) 2 (.slice sa j af)/\zC W wr.heap.size 1 (zI k1)/\zC W wr.heap.size 2 (zT T1)/\zC W wr.heap.size 3 (zU a1)/\zC W wr.heap.size 4 (zU b1)/\zC W wr.heap.size 5 (zU c1)/\zC W wr.heap.size 6 (zU d1)/\zC W wr.heap.size 7 (.slice U V Y)/\zC W wr.heap.size 8 (zI p1)) (by kernel_rfl) ay.out (fun t=> ?_);refine Qz 0 t ?_;refine Qz 1 t ?_;refine Qz 2 t ?_;refine Qz 3 t ?_;refine Qz 4 t ?_;refine Qz 5 t ?_;refine Qz 6 t ?_;refine Qz 7 t ?_
    (refine Qf 8 (fun K D=> ?_);go_simp;refine HC.out.mono ?_;rintro e A ⟨e1,e2,rfl,aP,ag⟩;have a7:=hid aP;have ah:=hid ag;clear aP ag;go_simp;replace t:=z6A t ah.out;refine D.out _ _ t ?_;clear D K)
    (try simp only[Act.put,zY])
    (refine Qf 9 (fun K D=> ?_);go_simp;replace t:=z6A t ((Below.refl _ A).alloc L0q (.cells #[.func (.func 88) #[] #[zP e1 0,zP e2 0]] 132));refine D.out _ _ t ?_;clear D K)
    (try simp only[Act.put,zY])
    (refine Qf 10 (fun K D=> ?_);refine step_append_lies _ rfl (.tmp 47) (.tmp 52) 128 rfl (w.heap.size+3) 132 iT .nilFunc 1 8 Tryz.underlying128 aV aW aX aY rfl (by decide) (.slice sa j af) j xs (by rfl) ((a5.out A ah.out).alloc _) ⟨A.heap.size,0,none⟩ 1 1 [.func (.func 88) #[] #[zP e1 0,zP e2 0]] (by rfl) rfl (cell_one_new _ _ _) (by simp[Value.oneCell']) (by decide) m1 m2 (by rw[World.size_alloc];have:=(ap.out A ah.out).1;omega) (A.heap.size+1) (World.size_alloc _ _) ?_;intro g6 bi w6 aQ aj aR bj;replace t:=y7y t aO.out a6.out aj;have aC:=hid (((aj.block (w.heap.size+1+1) (by rw[World.size_alloc];have:=(ap.out A ah.out).1;omega) aO.out).trans (Below.heap_alloc _ _ _ (by have:=(ap.out A ah.out).1;omega))).trans ((ap.out A ah.out).2));have a8:=hid aQ;have ae:=hid aj;have a9:=hid aR;clear aQ aj aR;refine D.out _ _ t ?_;clear D K)
    (try simp only[Act.put,zY])
    (refine Qf 11 (fun K D=> ?_);go_simp;refine D.out _ _ t ?_;clear D K)
    (try simp only[Act.put,zY])
    refine Qz 12 t ?_;refine Yj (fun K D=> ?_);obtain⟨⟨s0,s1,s2,s3,s4⟩,f2,_⟩:=Vg aC.out;have ls:=Qq aC.out;clear t
    go_simp
    refine D.out _ _ ?_;clear D K s0 s1 s2 s3 s4 f2 ls
    go_wp2_with fail
    have ag:=ad.out.trans (ah.out.mono ad.out.size);have aS:=y.out.be.trans (ag.mono y.out.be.size);have aT:=aS.alloc aS.size (.cells #[.func (.func 88) #[] #[zP e1 0,zP e2 0]] 132);have bk:=(ap.out A ah.out).1;have lX:w.heap.size<(A.alloc (.cells #[.func (.func 88) #[] #[zP e1 0,zP e2 0]] 132)).heap.size:=by rw[World.size_alloc];omega
    have aD:=ab.out.1.lt;have ba:=aT.grown ae.out aT.size (fun g e=>by have:=(aD g e).1;omega);refine⟨⟨j+1,_,_,by go_num,by omega,hid ?_,hid ?_,hid (ab.out.step ac (by omega) ag (Jp (fun b (h:r.drew.heap.size<=b) _=>Nat.le_trans ad.out.size h) (fun _ _ _ _=>rfl) _ _ a7.out) a8.out ae.out a9.out)⟩,by simp[intOf];omega⟩
    ·refine⟨ba.setCell (p:=⟨w.heap.size+2,2,none⟩) (by show w.heap.size<=w.heap.size+2;omega) _,?_,Qw aC.out 2 _⟩
     refine(Below.heap_setCell w6 ⟨w.heap.size+2,2,none⟩ _ w.heap.size (by show w.heap.size≠w.heap.size+2;omega)).trans ((ae.out.block _ lX (fun e=>by have:=(aD _ e.symm).1;omega)).trans ((Below.heap_alloc _ _ _ (by omega)).trans ((ag.block _ (Qq y.out.g)).trans y.out.g)))
    ·have bb:=(Z.out.below ag Z.out.lt).below ((Below.refl _ A).alloc L0q (.cells #[.func (.func 88) #[] #[zP e1 0,zP e2 0]] 132)) (by have:=(Z.out.below ag Z.out.lt).lt;exact this)
     exact(bb.kept ae.out (fun e=>by have:=(aD _ e.symm).1;omega)).kept (row:=some (w.heap.size+2)) (G.setR (G.refl _ _)) (fun e=>by have:=Option.some.inj e;omega)
   ·have a0:decide ((j:Int)<(n:Int))=false:=by simp;omega
    have aw:¬(j:Int)<(n:Int):=by omega
    obtain rfl:n=j:=by omega
    have HF:Hid (MgP rs T M w (.returned (zP (w.heap.size+1+1) 0)) wr):=by
     refine⟨w.heap.size+2,_,_,rfl,by omega,y.out.m,⟨fun _=>True,sa,af,by rw[al.out],?_⟩,y.out.be⟩;have bc:=al.out;cases hrs:rs with
     |nil=>rw[List.map_nil,Mvs];trivial
     |cons x0 r0=>
      have bl:0<n:=by rw[bc,hrs];simp
      obtain⟨m,rfl⟩:∃m,n=m+1:=⟨n-1,by omega⟩;obtain⟨g9,bm,e9⟩:=ownsRow_succ ab.out.1;cases e9;rw[<-hrs];have h9:=(ab.out.1.lt g9 rfl).1;refine z0n (by omega) trivial _ 0 fun i hi=> ?_
      have bd:i<rs.length:=by simpa using hi
      obtain⟨x,h3,h4⟩:=ab.out.2 i bd (by omega);refine⟨x,?_,?_⟩
      ·have:=ab.out.1.cells rfl i x h3
       have e2:((⟨g9,0,none⟩:Addr).add i)=⟨g9,i,none⟩:=by
        unfold Addr.add;split
        ·rename_i h0;simp_all
        ·simp
       rw[Nat.zero_add,Nat.zero_add,<-e2];exact this
      ·have bf:(rs.map (fun x=>x.2.1))[i]'hi=rs[i].2.1:=by simp
       rw[bf];exact Jp (fun _ _ _=>trivial) (fun _ _ _ _=>rfl) _ _ h4
    clear aq
    go_wp2_with fail
    go_ret;exact HF.out
end
theorem y7A(p q r:Addr)(w:World):
  CallsD prog 55 #[.pointer (some p),.pointer (some q),.pointer (some r)] .returning w fun e h w'=>e=.returned (.tuple #[])/\h=.returning/\w'=w:=by
 refine callsD_of_wpS func55 rfl fun o y t=> ?_
 apply wpS_seq;apply wpS_region;simp[wpOpsS,go_sem,recoverD,t,ntmps55,Exit.thenS];refine wpS_of_wp ?_
 go_wp2
 cases o;simp_all[bodyPostS,results,Tryz.results55]
theorem y7B(b:Nat)(x y:Int)(v:Value)(w:World)(r:zC w b 0 (zI x))(t:zC w (b+1) 0 (zI y))(A:zC w (b+1+1) 0 v)(D:w.frozen? ⟨b,0,none⟩=false)(E:w.frozen? ⟨b+1,0,none⟩=false)(G:w.frozen? ⟨b+1+1,0,none⟩=false)(l:b+1+1<w.heap.size):
  CallsD prog 55 #[zP b 0,zP (b+1) 0,zP (b+1+1) 0] (.panicking bud) w fun e h w'=>e=.returned (.tuple #[])/\h=.panicking [{v:=.iface 36 (zI 50),recovered:=true}]/\w'=((w.setCell ⟨b,0,none⟩ (zI 0)).setCell ⟨b+1,0,none⟩ (zI 0)).setCell ⟨b+1+1,0,none⟩ (.iface 36 (zI 50)):=by
 unfold bud;have I:b<w.heap.size:=by omega
 have U:b+1<w.heap.size:=by omega
 have V:∀w:World,(Instr.typeAssert (.iface 36 (zI 50)) 20 36 true).run prog w=.ok (.tuple #[zI 50,.bool true]) w:=fun w=>by kernel_rfl
 have Y:∀w:World,(binOp BinOp.eql 20 (.iface 36 (zI 50)) .nilIface).run prog w=.ok (.bool false) w:=fun w=>by kernel_rfl
 refine callsD_of_wpS func55 rfl fun Z cs o=> ?_
 apply wpS_seq;apply wpS_region;simp[wpOpsS,go_sem,recoverD,o,ntmps55,Exit.thenS];refine wpS_of_wp ?_
 go_wp2
 simp[bodyPostS,results,Tryz.results55]
theorem z6B{w:World}{b:Nat}{u0 u1 u2:Value}{t0 t1 t2:TypeId}(h:zH w b (.cells #[u0] t0))(o:w.heap[b+1]? =some (.cells #[u1] t1))(r:w.heap[b+1+1]? =some (.cells #[u2] t2)):(((w.setCell ⟨b,0,none⟩ v0).setCell ⟨b+1,0,none⟩ v1).setCell ⟨b+1+1,0,none⟩ v2).cell? ⟨b,0,none⟩=some v0/\(((w.setCell ⟨b,0,none⟩ v0).setCell ⟨b+1,0,none⟩ v1).setCell ⟨b+1+1,0,none⟩ v2).cell? ⟨b+1,0,none⟩=some v1/\(((w.setCell ⟨b,0,none⟩ v0).setCell ⟨b+1,0,none⟩ v1).setCell ⟨b+1+1,0,none⟩ v2).cell? ⟨b+1+1,0,none⟩=some v2:=by
 have t:=(Below.heap_setCell ((w.setCell ⟨b,0,none⟩ v0).setCell ⟨b+1,0,none⟩ v1) ⟨b+1+1,0,none⟩ v2 b (by show b≠b+1+1;omega)).trans ((Below.heap_setCell (w.setCell ⟨b,0,none⟩ v0) ⟨b+1,0,none⟩ v1 b (by show b≠b+1;omega)).trans (Qw h 0 v0));have y:=(Below.heap_setCell ((w.setCell ⟨b,0,none⟩ v0).setCell ⟨b+1,0,none⟩ v1) ⟨b+1+1,0,none⟩ v2 (b+1) (by show b+1≠b+1+1;omega)).trans (Qw ((Below.heap_setCell w ⟨b,0,none⟩ v0 (b+1) (by show b+1≠b;omega)).trans o) 0 v1);have A:=Qw ((Below.heap_setCell (w.setCell ⟨b,0,none⟩ v0) ⟨b+1,0,none⟩ v1 (b+1+1) (by show b+1+1≠b+1;omega)).trans ((Below.heap_setCell w ⟨b,0,none⟩ v0 (b+1+1) (by show b+1+1≠b;omega)).trans r)) 0 v2;exact⟨(Qk t).1,(Qk y).1,(Qk A).1⟩
theorem y7C{w:World}{b:Nat}{u0 u1 u2:Value}{t0 t1 t2:TypeId}(h:zH w b (.cells #[u0] t0))(o:w.heap[b+1]? =some (.cells #[u1] t1))(r:w.heap[b+1+1]? =some (.cells #[u2] t2)):((((w.setCell ⟨b,0,none⟩ v0).setCell ⟨b,0,none⟩ v0).setCell ⟨b+1,0,none⟩ v1).setCell ⟨b+1+1,0,none⟩ v2).cell? ⟨b,0,none⟩=some v0/\((((w.setCell ⟨b,0,none⟩ v0).setCell ⟨b,0,none⟩ v0).setCell ⟨b+1,0,none⟩ v1).setCell ⟨b+1+1,0,none⟩ v2).cell? ⟨b+1,0,none⟩=some v1/\((((w.setCell ⟨b,0,none⟩ v0).setCell ⟨b,0,none⟩ v0).setCell ⟨b+1,0,none⟩ v1).setCell ⟨b+1+1,0,none⟩ v2).cell? ⟨b+1+1,0,none⟩=some v2:=
 z6B (w:=w.setCell ⟨b,0,none⟩ v0) (b:=b) (u0:=v0) (u1:=u1) (u2:=u2) (v0:=v0) (v1:=v1) (v2:=v2) (t0:=t0) (t1:=t1) (t2:=t2) (Qw h 0 v0) ((Below.heap_setCell w ⟨b,0,none⟩ v0 (b+1) (by show b+1≠b;omega)).trans o) ((Below.heap_setCell w ⟨b,0,none⟩ v0 (b+1+1) (by show b+1+1≠b;omega)).trans r)
def MaP(rs:List Rr)(T:zA)(mB M:Nat)(t:RT)(i:Nat)(w:World)(e:Ending)(w':World):Prop:=w.grownBy w' (some mB)/\
 ((∃x c,Mt (bdR rs) T (.one t) i x c/\c<=M/\e=.returned (.tuple #[zI (eI x),zI (c:Int),.nilIface]))∨
  ((∀x c,Mt (bdR rs) T (.one t) i x c->M<c)/\e=.returned (.tuple #[zI 0,zI 0,.iface 36 (zI 50)])))
theorem y7D(rs:List Rr)(T:zA)(mB M:Nat)(pv sv:Value)(t:RT)(i j g o n aa b1 b2:Nat)(w:World)(hs:Smn w mB T pv sv 0 M)(aj:sv=.slice (some ⟨g,o,none⟩) n aa)(hg:g≠mB)(hj:j<n)(hn:n<=1048576)(hc:zC w g (o+j) (fq2 88 b1 b2))
  (HP:Hid (∀W:World,zB w W->Calls prog 88 #[zI (i:Int),zP b1 0,zP b2 0] W (Po rs T mB pv sv M (.one t) i 0 W))):
  Calls prog 33 #[zP mB 0,zI (j:Int),zI (i:Int)] w (MaP rs T mB M t i w):=by
 subst aj;have ao:∀(fn:Fn) (first aa:Array Value) (w:World),(Instr.makeFunc fn first aa).run prog w=.ok (.func fn first aa) w:=fun _ _ _ _=>rfl
 obtain⟨U,V⟩:∃U,U=((w.alloc (.cells #[zI 0] 3)).alloc (.cells #[zI 0] 3)).alloc (.cells #[.nilIface] 30):=⟨_,rfl⟩;have ae:zB w U:=by rw[V];exact(be2 _ _ _).alloc (by simp;omega) _
 have HC:=hid (HP.out U ae);have ab:Hid (U.heap[w.heap.size]? =some (.cells #[zI 0] 3)):=by rw[V];exact(Below.heap_alloc _ _ _ (by simp;omega)).trans ((Below.heap_alloc _ _ _ (by simp)).trans (Qx w _ rfl))
 have ac:Hid (U.heap[w.heap.size+1]? =some (.cells #[zI 0] 3)):=by rw[V];exact(Below.heap_alloc _ _ _ (by simp)).trans (Qx _ _ (by simp))
 have ad:Hid (U.heap[w.heap.size+1+1]? =some (.cells #[.nilIface] 30)):=by rw[V];exact Qx _ _ (by simp)
 have lm:=Qq hs;have lg:g<w.heap.size:=World.block_lt_of_cell? w _ hc;have m2:=(Vg hs).1.2.2.1;have ap:mB<w.heap.size+1:=by omega
 have aq:mB<w.heap.size+1+1:=by omega
 have ar:g<w.heap.size+1:=by omega
 have au:g<w.heap.size+1+1:=by omega
 have av:(j:Int)<(n:Int):=by omega
 have ah:=hid ae;have af:=hid V;clear HP V ae hs;dsimp only[fq2]at hc
 go_enter_defers func33,ntmps33
 go_wp2_with fail
 rw[<-af.out];refine HC.out.mono ?_;rintro e w1 ⟨y,⟨x,c,hm,hk,rfl,Y⟩|⟨ai,rfl,k1,Y⟩⟩
 ·have E:=(y.block _ (Qq ab.out) (fun e=>by have:=Option.some.inj e;omega)).trans ab.out
  have I:=(y.block _ (Qq ac.out) (fun e=>by have:=Option.some.inj e;omega)).trans ac.out;have A:=(y.block _ (Qq ad.out) (fun e=>by have:=Option.some.inj e;omega)).trans ad.out;obtain⟨x0,y0⟩:=Qk E;obtain⟨x1,y1⟩:=Qk I;obtain⟨x2,y2⟩:=Qk A;have l0:=Qq E;have l1:=Qq I;have l2:=Qq A;rw[Nat.zero_add]at hk Y;have x3:=(Vg Y).1.2.2.2.1;have l3:=Qq Y;have aw:mB≠w.heap.size:=by omega
  have ax:mB≠w.heap.size+1:=by omega
  have ay:mB≠w.heap.size+1+1:=by omega
  have HM:=hid hm;have HK:=hid hk;obtain⟨r,D⟩:∃r,r=((((w1.setCell ⟨w.heap.size,0,none⟩ (zI (eI x))).setCell ⟨w.heap.size,0,none⟩ (zI (eI x))).setCell ⟨w.heap.size+1,0,none⟩ (zI (c:Int))).setCell ⟨w.heap.size+1+1,0,none⟩ .nilIface):=⟨_,rfl⟩;obtain⟨Z,r1,r2⟩:zC r w.heap.size 0 (zI (eI x))/\zC r (w.heap.size+1) 0 (zI (c:Int))/\r.cell? ⟨w.heap.size+1+1,0,none⟩=some .nilIface:=by
   rw[D];exact y7C E I A
  have ak:Hid (w.grownBy r (some mB)):=by
   rw[D];exact G.setN (G.setN (G.setN (G.setN (G.trans (G.below ah.out) y) L0q) L0q) (by omega)) (by omega)
  have HG:Hid (w.grownBy r.drew (some mB)):=G.to ak.out B0q.drew;replace Z:zC r.drew w.heap.size 0 (zI (eI x)):=Z;replace r1:zC r.drew (w.heap.size+1) 0 (zI (c:Int)):=r1;replace r2:r.drew.cell? ⟨w.heap.size+1+1,0,none⟩=some .nilIface:=r2;have ag:=hid D;clear hm hk Y y E I A HC af D
  go_wp2_with fail
  go_region
  all_goals(
   go_wp2_with fail
   rw[<-ag.out];refine leaves_cons (f:=55) (args:=#[zP w.heap.size 0,zP (w.heap.size+1) 0,zP (w.heap.size+1+1) 0]) (by simp) (by simp[go_sem]) ?_;refine(y7A _ _ _ _).mono ?_;rintro e u' al ⟨rfl,rfl,rfl⟩;simp[Leaves,settle,results,Tryz.results33,go_sem,Z,r1,r2];exact⟨HG.out,.inl ⟨x,c,HM.out,HK.out,rfl⟩⟩)
 ·have E:=(y.block _ (Qq ab.out) (fun e=>by have:=Option.some.inj e;omega)).trans ab.out
  have I:=(y.block _ (Qq ac.out) (fun e=>by have:=Option.some.inj e;omega)).trans ac.out;have A:=(y.block _ (Qq ad.out) (fun e=>by have:=Option.some.inj e;omega)).trans ad.out;obtain⟨x0,y0⟩:=Qk E;obtain⟨x1,y1⟩:=Qk I;obtain⟨x2,y2⟩:=Qk A;have l2:=Qq A;have am:=hid ai;obtain⟨r,D⟩:∃r,r=((w1.setCell ⟨w.heap.size,0,none⟩ (zI 0)).setCell ⟨w.heap.size+1,0,none⟩ (zI 0)).setCell ⟨w.heap.size+1+1,0,none⟩ (.iface 36 (zI 50)):=⟨_,rfl⟩;obtain⟨Z,r1,r2⟩:zC r w.heap.size 0 (zI 0)/\zC r (w.heap.size+1) 0 (zI 0)/\zC r (w.heap.size+1+1) 0 (.iface 36 (zI 50)):=by
   rw[D];exact z6B E I A
  have HG:Hid (w.grownBy r (some mB)):=by
   rw[D];exact G.setN (G.setN (G.setN (G.trans (G.below ah.out) y) L0q) (by omega)) (by omega)
  have ag:=hid D;clear ai Y y E I A HC af D
  go_wp2_with fail
  refine leaves_cons (f:=55) (args:=#[zP w.heap.size 0,zP (w.heap.size+1) 0,zP (w.heap.size+1+1) 0]) (by simp) (by simp[go_sem]) ?_;refine(y7B w.heap.size _ _ _ w1 x0 x1 x2 y0 y1 y2 l2).mono ?_;rintro e u' al ⟨rfl,rfl,rfl⟩;rw[<-ag.out];simp[Leaves,settle,results,Tryz.results33,go_sem,Z,r1,r2];exact⟨HG.out,.inr ⟨fun x c h=>by have:=am.out x c h;omega,rfl⟩⟩
def upB(L x:Int):Bool:=decide (0<=x)&&decide (x<=L)
theorem y7E(L x:Int)(w:World):Calls prog 31 #[zI L,zI x] w fun e w'=>e=.returned (.bool (upB L x))/\w'=w:=by
 unfold upB;by_cases h0:0<=x
 ·have h:decide (0<=x)=true:=by simpa using h0
  rw[h,Bool.true_and];go_enter func31,ntmps31
  go_wp2_with fail
  go_ret;exact⟨rfl,rfl⟩
 ·have h:decide (0<=x)=false:=by simpa using h0
  rw[h,Bool.false_and];go_enter func31,ntmps31
  go_wp2_with fail
  go_ret;exact⟨rfl,rfl⟩
def FmV(ok1:Bool)(ok2:Bool)(G:Int->Int->Value->Prop)(Z:Prop)(n k:Int)(v:Value):Prop:=
 (Z/\n=0/\k=0/\∃tt uu,v=.iface tt uu)∨(¬Z/\ok1=false/\n=0/\k=0/\v=.iface 36 (zI 1))∨(¬Z/\ok1=true/\ok2=false/\n=0/\k=0/\v=.iface 36 (zI 2))∨(¬Z/\ok1=true/\ok2=true/\G n k v)
theorem y7F(E:Option Addr)(n I:Nat)(r a m:Int)(T:zA)(Y b2 b3:Bool)(h:Y=upB ((n:Int)-1) r)(ag:b2=upB (T.size:Int) a)(A:b3=upB 1048576 m)(hn:n<=9223372036854775807)(hT:T.size<=9223372036854775807)(G:Int->Int->Value->Prop)(Z:Prop)(w:World)
  (ah:Hid (∀W:World,zB w W->Calls prog 28 #[.agg #[.slice E n I]] W fun e w'=>(Z/\∃tt uu,e=.returned (.iface tt uu))/\zB W w'∨(¬Z/\e=.returned .nilIface)/\zB W w'))
  (ac:Hid (¬Z->Y=true->b2=true->b3=true->T.size<=4096->∀W:World,zB w W->Calls prog 32 #[.agg #[.slice E n I],zT T,zI m] W fun e w'=>∃mB,e=.returned (zP mB 0)/\Hid (w.heap.size<=mB)/\Hid (zB W w')/\Hid (Calls prog 33 #[zP mB 0,zI r,zI a] w' fun e D=>∃x y v,e=.returned (.tuple #[zI x,zI y,v])/\G x y v/\w'.grownBy D (some mB)))):
  Calls prog 16 #[.agg #[.slice E n I],zI r,zT T,zI a,zI m] w fun e w'=>∃x y v,e=.returned (.tuple #[zI x,zI y,v])/\FmV (Y&&(b2&&b3)) (decide (T.size<=4096)) G Z x y v/\zB w w':=by
 have U:=hid y7E;have ar:IntKind.i64.wrap ((n:Int)-1)=(n:Int)-1:=by rw[IntKind.wrap_i64];omega
 obtain⟨V,aa⟩:∃V,V=w.alloc (.cells #[.slice E n I] 43):=⟨_,rfl⟩;have ad:zB w V:=by rw[aa];exact(Below.refl _ w).alloc L0q _
 have ai:V.heap[w.heap.size]? =some (.cells #[.slice E n I] 43):=by rw[aa];exact Qx w _ rfl
 have HC:=hid (ah.out V ad);have ab:=hid ad;have aj:=hid ai;have ae:=hid aa;have au:=h.symm;have av:=ag.symm;have aw:=A.symm;clear h ag A ah ad ai aa;go_enter func16,ntmps16
 go_wp2_with fail
 rw[<-ae.out];refine HC.out.mono ?_;rintro e w1 (⟨⟨hZ,tt,uu,rfl⟩,h⟩|⟨⟨hZ,rfl⟩,h⟩)
 ·have o:=hid (ab.out.trans (h.mono ab.out.size))
  clear h HC ae;have t:=hid hZ
  go_wp2_with fail
  refine bodyPost_ret (v:=(.tuple #[zI 0,zI 0,.iface tt uu])) (by simp[results,Tryz.results16,go_sem]) rfl ?_;exact⟨_,_,_,rfl,.inl ⟨t.out,rfl,rfl,_,_,rfl⟩,o.out⟩
 have o:=hid (ab.out.trans (h.mono ab.out.size));have af:=(h.block _ (Qq aj.out)).trans aj.out;have g2:=(Qk af).1;have ax:=Qq af;have t:=hid hZ;clear h HC ae af hZ;cases Y with
 |false=>
  go_wp2_with(first
   |(go_at_call 31;refine(U.out _ _ _).mono ?_;rintro e D ⟨rfl,rfl⟩))
  refine bodyPost_ret (v:=(.tuple #[zI 0,zI 0,.iface 36 (zI 1)])) (by simp[results,Tryz.results16,go_sem]) rfl ?_;exact⟨_,_,_,rfl,.inr (.inl ⟨t.out,rfl,rfl,rfl,rfl⟩),o.out⟩
 |true=>
  cases b2 with
  |false=>
   go_wp2_with(first
    |(go_at_call 31;refine(U.out _ _ _).mono ?_;rintro e D ⟨rfl,rfl⟩))
   refine bodyPost_ret (v:=(.tuple #[zI 0,zI 0,.iface 36 (zI 1)])) (by simp[results,Tryz.results16,go_sem]) rfl ?_;exact⟨_,_,_,rfl,.inr (.inl ⟨t.out,rfl,rfl,rfl,rfl⟩),o.out⟩
  |true=>
   cases b3 with
   |false=>
    go_wp2_with(first
     |(go_at_call 31;refine(U.out _ _ _).mono ?_;rintro e D ⟨rfl,rfl⟩))
    refine bodyPost_ret (v:=(.tuple #[zI 0,zI 0,.iface 36 (zI 1)])) (by simp[results,Tryz.results16,go_sem]) rfl ?_;exact⟨_,_,_,rfl,.inr (.inl ⟨t.out,rfl,rfl,rfl,rfl⟩),o.out⟩
   |true=>
    by_cases h4:T.size<=4096
    ·have a4:decide (4096<(T.size:Int))=false:=by simp;omega
     have al:¬(4096:Int)<(T.size:Int):=by omega
     have HM:=hid (ac.out t.out rfl rfl rfl h4);have HD:Hid (decide (T.size<=4096)=true):=decide_eq_true h4;clear ac h4
     go_wp2_with(first
      |(go_at_call 31;refine(U.out _ _ _).mono ?_;rintro e D ⟨rfl,rfl⟩)
      |(go_at_call 32;refine(HM.out _ o.out).mono ?_;rintro e w3 ⟨mB,rfl,am,ao,ap⟩))
     refine ap.out.mono ?_;rintro e w4 ⟨x,y,v,rfl,hG,ak⟩;have A:=o.out.trans (ao.out.mono o.out.size);have HF:=hid (A.grown ak A.size (fun g e=>by have:=Option.some.inj e;have:=am.out;omega));have aq:=hid hG;clear hG ak A
     go_wp2_with fail
     refine bodyPost_ret (v:=(.tuple #[zI x,zI y,v])) (by simp[results,Tryz.results16,go_sem]) rfl ?_;exact⟨_,_,_,rfl,.inr (.inr (.inr ⟨t.out,rfl,HD.out,aq.out⟩)),HF.out⟩
    ·have a4:decide (4096<(T.size:Int))=true:=by simp;omega
     have al:(4096:Int)<(T.size:Int):=by omega
     have HD:Hid (decide (T.size<=4096)=false):=decide_eq_false h4;clear ac h4
     go_wp2_with(first
      |(go_at_call 31;refine(U.out _ _ _).mono ?_;rintro e D ⟨rfl,rfl⟩))
     refine bodyPost_ret (v:=(.tuple #[zI 0,zI 0,.iface 36 (zI 2)])) (by simp[results,Tryz.results16,go_sem]) rfl ?_;exact⟨_,_,_,rfl,.inr (.inr (.inl ⟨t.out,rfl,HD.out,rfl,rfl,rfl⟩)),o.out⟩
def Gm(rs:List Rr)(r:Int)(T:zA)(a m:Int)(x y:Int)(v:Value):Prop:=∃hr:r.toNat<rs.length,(∃e c,Mt (bdR rs) T (.one (rs[r.toNat]'hr).2.1) a.toNat e c/\(c:Int)<=m/\x=eI e/\y=(c:Int)/\v=.nilIface)∨((∀e c,Mt (bdR rs) T (.one (rs[r.toNat]'hr).2.1) a.toNat e c->m<(c:Int))/\x=0/\y=0/\v=.iface 36 (zI 50))
theorem y7G{rs:List Rr}(h:(nmL rs).Nodup)(j:Nat)(o:j<rs.length):inN rs[j].1 (nmL (rs.take j))=false:=by
 cases e:inN rs[j].1 (nmL (rs.take j))with
 |false=>rfl
 |true=>
  have r:=Hv.1 e;have y:nmL (rs.take j)=(nmL rs).take j:=by unfold nmL;rw[List.map_take]
  rw[y]at r;have A:nmL rs=(nmL rs).take j++(nmL rs).drop j:=(List.take_append_drop _ _).symm;rw[A,List.nodup_append]at h;have t:j<(nmL rs).length:=by unfold nmL;rw[List.length_map];exact o
  have D:rs[j].1∈(nmL rs).drop j:=by
   rw[List.drop_eq_getElem_cons t];have E:(nmL rs)[j]? =some rs[j].1:=by
    unfold nmL;rw[List.getElem?_map,List.getElem?_eq_getElem o];rfl
   have:(nmL rs)[j]=rs[j].1:=Option.some.inj ((List.getElem?_eq_getElem t).symm.trans E);rw[this];exact List.mem_cons_self
  exact absurd rfl (h.2.2 _ r _ D)
theorem z0o{L x:Int}(h:upB L x=true):∃j:Nat,x=(j:Int)/\(j:Int)<=L:=by
 unfold upB at h;simp only[Bool.and_eq_true,decide_eq_true_eq]at h;exact⟨x.toNat,by omega,by omega⟩
theorem y7H(t:Option Addr)(n E:Nat)(rs:List Rr)(X:Option (Int ⊕ (Int×Int)))(B:Nat)(fp:Addr)(w:World)(hX:CkX rs X)(hP:X=none->PrG rs)(hC:CkC t n E rs X w)(hz:RgZ rs)(hu:RgU rs)(h:Qb w B t n rs)(hB:B<=w.heap.size)(hT:TabIs w)(hF:zC w (1) 0 (.iface 363 (.pointer (some fp))))(r a m:Int)(T:zA)(ak:T.size<=9223372036854775807)(W:World)(V:zB w W):
  Calls prog 16 #[.agg #[.slice t n E],zI r,zT T,zI a,zI m] W fun e w'=>∃x y v,e=.returned (.tuple #[zI x,zI y,v])/\FmV (upB ((n:Int)-1) r&&(upB (T.size:Int) a&&upB 1048576 m)) (decide (T.size<=4096)) (Gm rs r T a m) (soZ rs X≠none) x y v/\zB W w':=by
 have al:n<=9223372036854775807:=h.2.1;refine y7F t n E r a m T _ _ _ rfl rfl rfl al ak (Gm rs r T a m) (soZ rs X≠none) W (hid fun W' Y=> ?_) (hid fun hZ h1 h2 h3 h4 W' Y=> ?_)
 ·refine(z4m t n E rs X B fp w hX hP hC hz h hB hT hF W' (V.trans (Y.mono V.size))).mono fun e w' I=> ?_
  obtain⟨v,rfl,U,Z⟩:=I;by_cases A:soZ rs X=none
  ·rw[A]at U
   have U:v=.nilIface:=U;subst U;exact .inr ⟨⟨fun am=>am A,rfl⟩,Z⟩
  ·obtain⟨tt,uu,rfl⟩:=U.shape A
   exact .inl ⟨⟨A,tt,uu,rfl⟩,Z⟩
 ·have A:soZ rs X=none:=Classical.not_not.1 hZ
  obtain rfl:X=none:=by
   cases X with
   |none=>rfl
   |some x=>unfold soZ at A;cases A
  obtain⟨ao,ae,_⟩:=hX;obtain⟨j,rfl,hj⟩:=z0o h1;obtain⟨i,rfl,hi⟩:=z0o h2;obtain⟨M,rfl,hM⟩:=z0o h3;have af:=V.trans (Y.mono V.size);have aC:n=rs.length:=h.1;have D:j<rs.length:=by omega
  have aD:=(Jm ao).2;have hR:Qb W' W'.heap.size t n rs:=(h.below (af.mono hB)).upto (Nat.le_trans hB af.size);have aa:∀x∈rs,Fit (nmL rs) x.2.1:=fun x hx=>Hc (hP rfl) ae hz hx
  refine(y7z t n E rs T M W' hR (by omega) (hid fun x hx=>(hz x hx).1) (hid fun j hj=>y7G (Hw ae) j hj) (hid fun x hx k N a b c d ap n1 aq p ar W2 ag au hc hp=> ?_)).mono fun e w2 I=> ?_
  ·exact z6z (nmL rs) (W'.heap.size+1) (SizeOf.sizeOf x.2.1+1) x.2.1 (Nat.lt_succ_self _) k N a b c d ap n1 aq p W2 W'.heap.size _ (ar.below ag) ag.size (aa x hx) (hu x hx) au (fun b Z=>Z) hc hp
  ·obtain⟨mB,pv,sv,rfl,av,ab,⟨L,ah⟩,aw⟩:=I
   refine⟨mB,rfl,hid (Nat.le_trans (Nat.le_trans Y.size L0q) av),hid aw,hid ?_⟩;have ax:=ah;obtain⟨aE,ay,az,aA⟩:=ah;obtain⟨g,o,x,rfl,hg,ai,ac⟩:=Ug aA j (by simpa using D);obtain⟨d1,d2,rfl⟩:=Vb ac;rw[Nat.zero_add]at ai;have aB:(rs.map (fun x=>x.2.1))[j]'(by simpa using D)=rs[j].2.1:=by simp
   rw[aB]at ac;refine(y7D rs T mB M pv sv rs[j].2.1 i j g o rs.length ay d1 d2 w2 ab az hg D (by omega) ai (hid fun W3 ad=> ?_)).mono fun e w3 I=> ?_
   ·exact z6w h4 (by omega) aa (by omega) (M+1) rs[j].2.1 d1 d2 W3 i 0 (Vq (G.below ad) _ _ ac) (aa _ (List.getElem_mem D)) (ax.kept (G.below ad)) ((ad.block mB (Qq ab)).trans ab) (Nat.zero_le _) (by omega) (by omega)
   ·obtain⟨aj,⟨x,c,hm,hc,rfl⟩|⟨hn,rfl⟩⟩:=I
    ·exact⟨_,_,_,rfl,⟨by simpa using D,.inl ⟨x,c,by simpa using hm,by omega,rfl,rfl,rfl⟩⟩,aj⟩
    ·exact⟨_,_,_,rfl,⟨by simpa using D,.inr ⟨fun e c h=>by have:=hn e c (by simpa using h);omega,rfl,rfl,rfl⟩⟩,aj⟩
theorem y7I{A:Bool}{rs:List Rr}{r a:Nat}{m:Int}{T:zA}{Z:Prop}{x y:Int}{v:Value}(h:FmV A (decide (T.size<=4096)) (Gm rs r T a m) Z x y v):(v=.nilIface/\T.size<=4096/\∃(o:r<rs.length) (e:Option Nat) (c:Nat),Mt (bdQ rs) T (.one rs[r].2.1) a e c/\(c:Int)<=m/\x=eI e/\y=(c:Int))∨∃D E,v=.iface D E:=by
 rcases h with⟨_,_,_,h⟩|⟨_,_,_,_,h⟩|⟨_,_,_,_,_,h⟩|⟨_,_,G,o,⟨e,c,t,I,U,V,Y⟩|⟨_,_,_,h⟩⟩
 ·exact .inr h
 ·exact .inr ⟨_,_,h⟩
 ·exact .inr ⟨_,_,h⟩
 ·exact .inl ⟨Y,of_decide_eq_true G,by simpa using o,e,c,by simp only[Int.toNat_natCast]at t;exact t,I,U,V⟩
 ·exact .inr ⟨_,_,h⟩
theorem y7J(t:Option Addr)(n U:Nat)(rs:List Rr)(fp:Addr)(T:zA)(w:World)(V:Ud w)(Y:TabIs w)(hF:zC w (1) 0 (.iface 363 (.pointer (some fp))))(ah:Xm w)(hz:RgZ rs)(hu:RgU rs)(h:Qb w w.heap.size t n rs)(aJ:T.size<=9223372036854775807):
  Calls prog 4 #[.agg #[.slice t n U],zT T] w fun e w'=>e=.returned (.bool true)/\zB w w':=by
 obtain⟨X,hX,ai,hC⟩:=y1T t n U rs w.heap.size w hz hu h L0q Y;obtain⟨u1,ab⟩:∃u1,u1=w.alloc (.cells #[.slice t n U] 43):=⟨_,rfl⟩;have A:zB w u1:=by rw[ab];exact(Below.refl _ w).alloc L0q _
 have gu:u1.heap[w.heap.size]? =some (.cells #[.slice t n U] 43):=by rw[ab];exact Qx w _ rfl
 have aw:1<w.heap.size:=World.block_lt_of_cell? w _ hF;have ax:Hid (∀W:World,zB w W->zC W (1) 0 (.iface 363 (.pointer (some fp)))):=hid fun W hb=>(hb.cell (p:=⟨1,0,none⟩) aw).trans hF
 have HS:=hid (y6r fp u1 (V.below A V.lt) (Y.below A Y.lt) (ax.out u1 A) (ah.below A));have ay:=hid (fun(W:World) (hb:zB w W)=>y6s t n U rs X fp w hX ai hC hz hu h Y hF ah W hb);have aK:Hid (n=rs.length):=h.1;have aL:=hid (fun(r b:Int) (W:World) (hW:zB w W)=>y7H t n U rs X w.heap.size fp w hX ai hC hz hu h L0q Y hF r b 20000 T aJ W hW);clear V Y hz hu h hC hX ai hF ah aw ax;go_enter func4,ntmps4
 go_wp2_with fail
 rw[<-ab];refine HS.out.mono ?_;rintro e w1 ⟨rfl,aj⟩;have ak:=hid (A.trans (aj.out.mono A.size));have ac:=hid ((aj.out.block _ (Qq gu)).trans gu);obtain⟨x1,f1⟩:=Qk ac.out;clear HS aj ab A gu
 go_wp2_with fail
 refine(ay.out w1 ak.out).mono ?_;rintro e D ⟨oso,ol,oc,nso,nl,nc,rso,rl,rc,ev,rfl,al,aM⟩;have am:zB D (D.alloc (.cells #[.slice oso ol oc,.slice nso nl nc,.slice rso rl rc] 26)):=(Below.refl _ D).alloc L0q _;have ad:zB w1 (D.alloc (.cells #[.slice oso ol oc,.slice nso nl nc,.slice rso rl rc] 26)):=al.out.trans (am.mono al.out.size);have Z:=hid (ak.out.trans (ad.mono ak.out.size));clear x1 f1;rcases aM with⟨te,ue,rfl,rfl,rfl,rfl,rfl,rfl,rfl,rfl,rfl,rfl⟩|⟨rfl,G⟩
 ·go_wp2_with fail
  go_ret;exact⟨rfl,Z.out⟩
 have G:=hid (G.out.below am);have o:=hid (Qx D (.cells #[.slice oso ol oc,.slice nso nl nc,.slice rso rl rc] 26) rfl);obtain⟨pB,ao⟩:∃pB,pB=D.heap.size:=⟨_,rfl⟩;obtain⟨w2,ap⟩:∃w2,w2=D.alloc (.cells #[.slice oso ol oc,.slice nso nl nc,.slice rso rl rc] 26):=⟨_,rfl⟩;rw[<-ap]at ad G o Z;rw[<-ao]at o;have ae:=hid ((ad.block _ (Qq ac.out)).trans ac.out);have az:=hid ap;have aA:=hid ao;clear ay ad am ac al ap ao
 go_wp2_with fail
 rw[<-az.out,<-aA.out];clear az aA
 go_loopw [8] (fun i wr=>∃j:Nat,i=zI (j:Int)/\j<=n/\Hid (zB w2 wr)) (fun i _=>n-(intOf i).toNat)
 case atStart=>exact⟨0,rfl,Nat.zero_le _,hid B0q⟩
 case round=>
  obtain⟨j,rfl,hj,af⟩:=hrel;have aq:=hid ((af.out.block _ (Qq ae.out)).trans ae.out);have ar:=hid ((af.out.block _ (Qq o.out)).trans o.out);obtain⟨y0,yf⟩:=Qk aq.out;obtain⟨p0,p1,p2,_⟩:=Fy ar.out;have ly:=Qq aq.out;have lp:=Qq ar.out;by_cases hjn:j<n
  ·have aQ:(j:Int)<(n:Int):=by omega
   have b0:decide ((j:Int)<(n:Int))=true:=by simp;omega
   have aB:j<rs.length:=by rw[<-aK.out];exact hjn
   have aR:IntKind.i64.wrap ((j:Int)+1)=(j:Int)+1:=by have:=G.out.hs.len;rw[IntKind.wrap_i64];omega
   have aS:(j:Int)+1<9223372036854775808:=by have:=G.out.hs.len;omega
   clear p0 p1 p2 aq ar
   go_wp2_with fail
   clear y0 yf ly lp
   go_loopw [9] (fun q wr=>∃i:Nat,q=zI (i:Int)/\i<=T.size+1/\i<=12/\Hid (zB w2 wr)) (fun q _=>T.size+1-(intOf q).toNat)
   case atStart=>exact⟨0,rfl,Nat.zero_le _,Nat.zero_le _,af⟩
   case round=>
    obtain⟨i,rfl,hi,aT,I⟩:=hrel;have aC:=hid ((I.out.block _ (Qq ae.out)).trans ae.out);have aD:=hid ((I.out.block _ (Qq o.out)).trans o.out);obtain⟨y0,yf⟩:=Qk aC.out;obtain⟨p0,p1,p2,_⟩:=Fy aD.out;have ly:=Qq aC.out;have lp:=Qq aD.out;by_cases hiT:i<=T.size
    rotate_left
    ·have a0:decide ((i:Int)<=(T.size:Int))=false:=by simp;omega
     have a1:decide (i<=T.size)=false:=by simp;omega
     go_wp2_with fail
     exact⟨⟨j+1,by go_num,by omega,I⟩,by simp[intOf];omega⟩
    have a0:decide ((i:Int)<=(T.size:Int))=true:=by simp;omega
    have a1:decide (i<=T.size)=true:=by simp;omega
    by_cases hi2:i<12
    rotate_left
    ·have a2:decide ((i:Int)<12)=false:=by simp;omega
     have a3:decide (i<12)=false:=by simp;omega
     go_wp2_with fail
     exact⟨⟨j+1,by go_num,by omega,I⟩,by simp[intOf];omega⟩
    have a2:decide ((i:Int)<12)=true:=by simp;omega
    have a3:decide (i<12)=true:=by simp;omega
    have aE:=hid (Z.out.trans (I.out.mono Z.out.size));have aU:IntKind.i64.wrap ((i:Int)+1)=(i:Int)+1:=by rw[IntKind.wrap_i64];omega
    go_wp2_with fail
    refine(aL.out (j:Int) (i:Int) _ aE.out).mono ?_;rintro e w5 ⟨x,y,v,rfl,hv,au⟩;have aa:=hid (I.out.trans (au.mono I.out.size));clear y0 yf p0 p1 p2 ly lp aE;rcases y7I hv with⟨rfl,aN,hr,e0,c0,aF,aV,rfl,rfl⟩|⟨tt,uu,rfl⟩
    rotate_left
    ·clear hv au
     go_wp2_with fail
     exact⟨⟨i+1,by go_num,by omega,by omega,aa⟩,by simp[intOf];omega⟩
    obtain⟨e1,c,x1,N',hm⟩:=y6d G.out.hs T (rule:=j) (at':=i) aB hiT;obtain⟨n',⟨aO,aG⟩,aW⟩:=hm.mt;obtain⟨rfl,rfl⟩:=Gg aF aG;have aX:=hm.c2;have ag:=hid ((G.out.below aa.out).match hm aB hiT aN 20000 (by omega));have aH:enE e0=eI e0:=by cases e0<;>rfl
    rw[aH]at ag;have av:=hid ((aa.out.block _ (Qq o.out)).trans o.out);obtain⟨p0,p1,p2,_⟩:=Fy av.out;have lp:=Qq av.out;have d0:decide ((c0:Int)<(c:Int))=false:=by simp;omega
    have d1:decide (c0<c)=false:=by simp;omega
    have d2:decide ((c:Int)<1)=false:=by simp;omega
    have d3:decide (c<1)=false:=by simp;omega
    obtain⟨E,V⟩:∃E,E=eI e0:=⟨_,rfl⟩;rw[<-V]at ag ⊢;clear hv au hm aF aG aH V hr aO
    go_wp2_with fail
    refine ag.out.mono ?_;rintro e wz ⟨⟨_,rfl⟩|⟨aY,_⟩,aI⟩
    rotate_left
    ·omega
    have aP:=hid (aa.out.trans (aI.mono aa.out.size));clear ag aI p0 p1 p2 lp av aa
    go_wp2_with fail
    exact⟨⟨i+1,by go_num,by omega,by omega,aP⟩,by simp[intOf];omega⟩
  ·have b0:decide ((j:Int)<(n:Int))=false:=by simp;omega
   go_wp2_with fail
   go_ret;exact⟨rfl,Z.out.trans (af.out.mono Z.out.size)⟩
open Go.ChangeShapes Go.WideShapes
theorem Tryz.own:ownKnob Tryz.prog.godebug=none:=by kernel_rfl
theorem Tryz.et:Tryz.prog.globalNamed "errors.errorType"=some 0:=by kernel_rfl
theorem Tryz.rt:(Tryz.prog.cutTypes.find? (·.1 == "internal/reflectlite.rtype")).map (·.2)=some 168:=by kernel_rfl
theorem Tryz.oneRow:((List.range 393).filter fun t=>Tryz.prog.rowNamed t [101,114,114,111,114])=[30]:=by kernel_rfl
theorem Tryz.nTypes:Tryz.prog.types.size=393:=by kernel_rfl
theorem y7K{l:List (String×DataW Unit)}(h:handlesMet prog l W)(o:("errors.errorType",Rows.laid_errors_errorType)∈l):Ud W:=by
 obtain⟨y,u,A,D,E,G,I,r⟩:=h _ o;have U:y=[101,114,114,111,114]:=(Option.some.inj D).symm;subst U;obtain rfl:=Option.some.inj (Tryz.rt.symm.trans E);have o:A∈(List.range 393).filter fun t=>Tryz.prog.rowNamed t [101,114,114,111,114]:=List.mem_filter.2 ⟨List.mem_range.2 (by rw[<-Tryz.nTypes];exact G),I⟩
 rw[Tryz.oneRow]at o;obtain rfl:=List.mem_singleton.1 o;have V:typeHandle prog 30=zP (6) (30):=by kernel_rfl
 rw[V]at r;have:=World.var?_cell Tryz.et r 0;unfold Ud;simpa using this
theorem Tryz.laidOutW:laidOutB prog=true:=by kernel_rfl
theorem Tryz.gT:Tryz.prog.globalNamed "math/bits.deBruijn64tab"=some 5:=by kernel_rfl
theorem Tryz.gTType:(Tryz.prog.globals[5]?).map (·.type)=some 347:=by kernel_rfl
theorem Tryz.cellsTab:Tryz.prog.cellsOf 347=64:=by kernel_rfl
theorem Tryz.cellsU8:Tryz.prog.cellsOf 5=1:=by kernel_rfl
theorem y7L{rest:List (String×DataW Unit)}(h:laidMet prog (("math/bits.deBruijn64tab",Rows.laid_math_bits_deBruijn64tab)::rest) W):TabIs W:=by
 have o:Lib.TabIs prog W "math/bits.deBruijn64tab" .u8 (Lib.deBruijn64tab.map fun n:Nat=>(n:Int)):=Lib.tabIs_of_head (rest:=rest) Tryz.gT Tryz.gTType Tryz.underlying347 Tryz.underlying5 Tryz.cellsU8 Tryz.cellsTab h;intro i r;have:=o.cell Tryz.gT i (by simp[Lib.deBruijn64tab];omega);rw[this];congr 2;simp only[List.getD,List.getElem?_map];cases Lib.deBruijn64tab[i]? <;>rfl
theorem Tryz.gFo:Tryz.prog.globalNamed "muntin/sound.errFound"=some 1:=by kernel_rfl
theorem Tryz.gFoType:(Tryz.prog.globals[1]?).map (·.type)=some 30:=by kernel_rfl
theorem Tryz.star8:"*"++"errors.errorString"="*errors.errorString":=by decide
theorem Tryz.rowErrStr(u:TypeId)(h:Tryz.prog.typeName? 3 u=some "*errors.errorString"):u=363:=
 typeName_ptr_named (nm:="errors.errorString") (by rw[Tryz.star8];kernel_rfl) (by kernel_rfl) (by decide) u (by rw[Tryz.star8];exact h)
theorem Tryz.cellsErrStr:Tryz.prog.cellsOf 381=1:=by kernel_rfl
theorem Tryz.cellsStr8:Tryz.prog.cellsOf 9=1:=by kernel_rfl
theorem Tryz.gPw:Tryz.prog.globalNamed "internal/strconv.uint64pow10"=some 3:=by kernel_rfl
theorem Tryz.gPwType:(Tryz.prog.globals[3]?).map (·.type)=some 324:=by kernel_rfl
theorem Tryz.cellsPow:Tryz.prog.cellsOf 324=20:=by kernel_rfl
theorem y7M(h:laidMetH prog [("math/bits.deBruijn32tab",Rows.laid_math_bits_deBruijn32tab),("math/bits.deBruijn64tab",Rows.laid_math_bits_deBruijn64tab),("internal/strconv.uint64pow10",Rows.laid_internal_strconv_uint64pow10),("errors.errorType",Rows.laid_errors_errorType),("muntin/sound.errFound",Rows.laid_muntin_sound_errFound)] W):Ud W/\TabIs W/\Xm W/\∃r:Addr,zC W (1) 0 (.iface 363 (.pointer (some r))):=by
 have o:laidMet prog [("math/bits.deBruijn32tab",Rows.laid_math_bits_deBruijn32tab),("math/bits.deBruijn64tab",Rows.laid_math_bits_deBruijn64tab),("internal/strconv.uint64pow10",Rows.laid_internal_strconv_uint64pow10),("muntin/sound.errFound",Rows.laid_muntin_sound_errFound)] W/\handlesMet prog [("errors.errorType",Rows.laid_errors_errorType)] W:=h;have t1:=laidMet.tail o.1;have t2:=laidMet.tail t1;refine⟨y7K o.2 (List.mem_singleton.2 rfl),y7L (rest:=[("internal/strconv.uint64pow10",Rows.laid_internal_strconv_uint64pow10),("muntin/sound.errFound",Rows.laid_muntin_sound_errFound)]) t1,?_,?_⟩
 ·exact Lib.tabIs_of_head (rest:=[("muntin/sound.errFound",Rows.laid_muntin_sound_errFound)]) Tryz.gPw Tryz.gPwType Tryz.underlying324 Tryz.underlying52 Tryz.cellsU Tryz.cellsPow t2
 ·obtain⟨a,s,t,_⟩:=laid_sentinel (nm:="*errors.errorString") (text:=[102,111,117,110,100]) (laidMet.tail t2) Tryz.gFo Tryz.gFoType Tryz.underlying30 Tryz.rowErrStr Tryz.underlying363 Tryz.underlying381 rfl rfl Tryz.underlying9 Tryz.cellsErrStr Tryz.cellsStr8
  exact⟨a,by simpa using World.var?_cell Tryz.gFo t 0⟩
theorem y7V:True:=trivial
end Go.Proofs.YtgnkkgcgbeianaaGreatDoor
