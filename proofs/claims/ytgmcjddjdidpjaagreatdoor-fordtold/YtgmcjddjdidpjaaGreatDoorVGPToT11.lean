/- Lemmas for the last text. Conditions: those that each names. -/
import Derived.Test.YtgmcjddjdidpjaaGreatDoorVGLToGO
import Derived.Test.YtgmcjddjdidpjaaGreatDoorVO5
import Derived.Tactics2
import Derived.Defers
import Derived.Recover
import Derived.Laws.Pointers
import Derived.Test.YtgmcjddjdidpjaaGreatDoorVO6ToO16
set_option linter.unusedVariables false
set_option maxRecDepth 100000
set_option maxHeartbeats 8000000
namespace Go.Proofs.YtgmcjddjdidpjaaGreatDoor
open Go.Proofs.Tryz
open Go.RowKit Go.Shelf Go.Maps
variable {W:World} {v0 v1 v2:Value}
section
theorem Pm.upd{B:Nat}{l:List ByteArray}{s:ByteArray}(h:Pm W B l)(hn:inN s l=false)(hs:s.size<=maxLen)(hl:l.length<maxLen):∃W',(Instr.mapUpdate 102 (.map (some B)) (.string s) (.int .i64 (l.length:Nat))).run prog W=.ok () W'/\Pm W' B (l++[s])/\W.grownBy W' (some B):=by
 obtain⟨D,h1,h2⟩:=h;obtain⟨W',h3,h4,h5⟩:=h1.update Gp Tryz.underlying102 hl (Gc hs) (plainElem_int Tryz.underlying3 (a:=((l.length:Nat):Int)) (WalkArith.wf_i64 (by unfold maxLen at hl;omega)));exact⟨W',h3,Pm.put h2 h1.isMap hn h4,h5⟩
theorem z5P{W':World}{a0 a1 a2 a3 a4 a5 a6 a7 a8:Addr}{v3 v4 v5 v6 v7 v8:Value}(h:W.cell? a0=some v0/\W.cell? a1=some v1/\W.cell? a2=some v2/\W.cell? a3=some v3/\W.cell? a4=some v4/\W.cell? a5=some v5/\W.cell? a6=some v6/\W.cell? a7=some v7/\W.cell? a8=some v8)(hb:Below W.heap.size W W'):W'.cell? a0=some v0/\W'.cell? a1=some v1/\W'.cell? a2=some v2/\W'.cell? a3=some v3/\W'.cell? a4=some v4/\W'.cell? a5=some v5/\W'.cell? a6=some v6/\W'.cell? a7=some v7/\W'.cell? a8=some v8:=by
 obtain⟨z0,z1,z2,z3,z4,z5,z6,z7,z8⟩:=h;have e:∀{a:Addr} {u:Value},W.cell? a=some u->W'.cell? a=some u:=fun{a u} h=>(hb.cell (p:=a) (World.block_lt_of_cell? W _ h)).trans h
 exact⟨e z0,e z1,e z2,e z3,e z4,e z5,e z6,e z7,e z8⟩
theorem y4J{W':World}{m r:Nat}{row:Option Nat}{v3 v4 v5 v6 v7 v8:Value}(h:W.cell? ⟨m,2,none⟩=some v0/\W.cell? ⟨r,1,none⟩=some v1/\W.cell? ⟨r,2,none⟩=some v2/\W.cell? ⟨r,3,none⟩=some v3/\W.cell? ⟨r,4,none⟩=some v4/\W.cell? ⟨r,5,none⟩=some v5/\W.cell? ⟨r,6,none⟩=some v6/\W.cell? ⟨r,7,none⟩=some v7/\W.cell? ⟨r,8,none⟩=some v8)(n0:some m≠row)(n1:some r≠row)(hg:W.grownBy W' row):W'.cell? ⟨m,2,none⟩=some v0/\W'.cell? ⟨r,1,none⟩=some v1/\W'.cell? ⟨r,2,none⟩=some v2/\W'.cell? ⟨r,3,none⟩=some v3/\W'.cell? ⟨r,4,none⟩=some v4/\W'.cell? ⟨r,5,none⟩=some v5/\W'.cell? ⟨r,6,none⟩=some v6/\W'.cell? ⟨r,7,none⟩=some v7/\W'.cell? ⟨r,8,none⟩=some v8:=
 ⟨hg.cell h.1 n0,hg.cell h.2.1 n1,hg.cell h.2.2.1 n1,hg.cell h.2.2.2.1 n1,hg.cell h.2.2.2.2.1 n1,hg.cell h.2.2.2.2.2.1 n1,hg.cell h.2.2.2.2.2.2.1 n1,hg.cell h.2.2.2.2.2.2.2.1 n1,hg.cell h.2.2.2.2.2.2.2.2 n1⟩
structure Mw (w:World) (so:Option Addr) (n cap:Nat) (T:ByteArray) (M:Nat) (sv:Value) (W:World):Prop where
 be:Below w.heap.size w W
 g:W.heap[w.heap.size]? =some (.cells #[.slice so n cap] 24)
 m:Smn W (w.heap.size+2) T (.map (some (w.heap.size+1))) sv 0 M
def MgP(rs:List Rr)(T:ByteArray)(M:Nat)(w:World)(e:Ending)(w':World):Prop:=∃mB pv sv,e=.returned (.pointer (some ⟨mB,0,none⟩))/\w.heap.size<=mB/\Smn w' mB T pv sv 0 M/\(∃L,Bd w' mB L rs sv)/\Below w.heap.size w w'
def Bj(w:World)(rs:List Rr)(j:Nat)(v:Value)(xs:List Value)(W:World):Prop:=W.ownsRow (w.heap.size+3) 107 1 v j xs/\∀i (hi:i<rs.length),i<j->∃x,xs[i]? =some x/\Mv W (w.heap.size+2) (fun b=>v.ownBlock≠some b) (fun N=>ixN N (nmL rs)) rs[i].2.1 x
theorem Bj.step{w W w3 w6:World}{rs:List Rr}{j:Nat}{v:Value}{xs:List Value}{x:Value}{g6 cap6:Nat}{X:Obj}{u:Value}(h:Bj w rs j v xs W)(hj:j<rs.length)(hz:w.heap.size+3<=W.heap.size)(hb:Below W.heap.size W w3)(hx:Mv w3 (w.heap.size+2) (fun b=>W.heap.size<=b) (fun N=>ixN N (nmL rs)) rs[j].2.1 x)(hown:w6.ownsRow (w.heap.size+3) 107 1 (.slice (some ⟨g6,0,none⟩) (j+1) cap6) (j+1) (xs++[x]))(hgr:(w3.alloc X).grownBy w6 v.ownBlock)(hat:v.ownBlock=some g6∨g6=w3.heap.size+1):Bj w rs (j+1) (.slice (some ⟨g6,0,none⟩) (j+1) cap6) (xs++[x]) (w6.setCell ⟨w.heap.size+2,2,none⟩ u):=by
 have h2:=hb.size;have hlt:=h.1.lt;have ea:(w3.alloc X).heap.size=w3.heap.size+1:=World.size_alloc _ _;have hs6:w3.heap.size+1<=w6.heap.size:=by have:=hgr.size;omega
 have key:∀b,b<w3.heap.size->v.ownBlock≠some b->b≠w.heap.size+2->(w6.setCell ⟨w.heap.size+2,2,none⟩ u).heap[b]? =w3.heap[b]? :=fun b h1 hne h3=>(Below.heap_setCell w6 ⟨w.heap.size+2,2,none⟩ u b (by simpa using h3)).trans ((hgr.block b (by omega) (fun e=>hne e.symm)).trans (Below.heap_alloc _ _ _ h1))
 have hg6:∀b,b<w3.heap.size->v.ownBlock≠some b->(Value.slice (some ⟨g6,0,none⟩) (j+1) cap6).ownBlock≠some b:=fun b h1 hne e=>by
  have e:g6=b:=Option.some.inj e;subst e;rcases hat with h|h
  ·exact hne h
  ·omega
 refine⟨?_,fun i hi hij=> ?_⟩
 ·refine ownsRow_setCell_below hown ?_ u
  show w.heap.size+2<w.heap.size+3;omega
 ·have hl:xs.length=j:=by have:=h.1.1;omega
  by_cases e:i<j
  ·obtain⟨y,hy,hm⟩:=h.2 i hi e
   refine⟨y,by rw[List.getElem?_append_left (by omega)];exact hy,Fy (fun b hb1 hb2=>hg6 b (by omega) hb1) (fun b hb0 hb1 hb2=> ?_) _ _ hm⟩;exact(key b (by omega) hb1 hb0).trans (hb.block b hb2)
  ·obtain rfl:i=j:=by omega
   have hno:∀b,W.heap.size<=b->v.ownBlock≠some b:=fun b hb1 e=>by have:=(hlt b e).2;omega
   exact⟨x,by rw[List.getElem?_append_right (by omega),hl];simp,Fy (fun b hb1 hb2=>hg6 b hb2 (hno b hb1)) (fun b hb0 hb1 hb2=>key b hb2 (hno b hb1) hb0) _ _ hx⟩
theorem y4K(so:Option Addr)(n cap:Nat)(rs:List Rr)(T:ByteArray)(M:Nat)(w:World)(h:Qg w w.heap.size so n rs)(hn64:n<=1048576)(HZ:Hid (∀x∈rs,x.1.size<=maxLen))(HNo:Hid (∀j (hj:j<rs.length),inN rs[j].1 (nmL (rs.take j))=false))
  (HCt:Hid (∀x∈rs,∀(k:Int) (N:ByteArray) (a b c d:Int) (so1:Option Addr) (n1 cap1:Nat) (p:Int),Qv w w.heap.size x.2.1 (r8 k N a b c d so1 n1 cap1 p)->∀W:World,Below w.heap.size w W->w.heap.size+2<W.heap.size->W.cell? ⟨w.heap.size+2,1,none⟩=some (.map (some (w.heap.size+1)))->Pm W (w.heap.size+1) (nmL rs)->Calls prog 42 #[.pointer (some ⟨w.heap.size+2,0,none⟩),.agg #[.int .i64 k,.string N,.int .u64 a,.int .u64 b,.int .u64 c,.int .u64 d,.slice so1 n1 cap1,.int .i64 p]] W (CtP (w.heap.size+2) (fun b=>W.heap.size<=b) (fun N=>ixN N (nmL rs)) x.2.1 W))):
  Calls prog 26 #[.agg #[.slice so n cap],.string T,.int .i64 M] w (MgP rs T M w):=by
 have hmk:∀W:World,(Instr.makeMap 102 (some (.int .i64 n))).run prog W=.ok (.map (some W.heap.size)) (W.alloc (.map #[] 0)):=fun W=>by kernel_rfl
 obtain⟨iT,hiT,hzT0,hzT1,hzT2⟩:=info_parts Tryz.infoMt;obtain⟨W0,hW0⟩:∃W0,W0=((w.alloc (.cells #[.slice so n cap] 24)).alloc (.map #[] 0)).alloc (.cells #[.string T,.map (some (w.heap.size+1)),.slice none 0 0,.int .i64 0,.int .i64 M] 105):=⟨_,rfl⟩;have HM0:Hid (Mw w so n cap T M (.slice none 0 0) W0):=by
  rw[hW0];refine⟨(be2 _ _ _).alloc (by simp;omega) _,?_,?_⟩
  ·exact(Below.heap_alloc _ _ _ (by simp;omega)).trans ((Below.heap_alloc _ _ _ (by simp)).trans (Qq w _ rfl))
  ·exact Qq _ _ (by simp)
 have HP0:Hid (Pm W0 (w.heap.size+1) []):=by
  rw[hW0];have:=(Pm.made (w.alloc (.cells #[.slice so n cap] 24))).kept (World.grownBy_alloc _ (.cells #[.string T,.map (some (w.heap.size+1)),.slice none 0 0,.int .i64 0,.int .i64 M] 105) none) (by simp);rw[World.size_alloc]at this;exact this
 have HR:=hid h;have HNl:Hid (n=rs.length):=h.1;have HW0:=hid hW0;clear h hW0;go_enter func26,ntmps26
 go_wp2_with fail
 rw[<-HW0.out];clear HW0
 go_loopw [23] (fun i wr=>∃j:Nat,i=.int .i64 j/\j<=n/\Hid (Mw w so n cap T M (.slice none 0 0) wr)/\Hid (Pm wr (w.heap.size+1) (nmL (rs.take j)))) (fun i _=>n-(intOf i).toNat)
 case atStart=>exact⟨0,rfl,Nat.zero_le _,HM0,by rw[List.take_zero];exact HP0⟩
 case round=>
  obtain⟨j,rfl,hj,HMw,HPm⟩:=hrel;by_cases hjn:j<n
  ·have hjI:(j:Int)<(n:Int):=by omega
   have a0:decide ((j:Int)<(n:Int))=true:=by simp;omega
   have hjs:j<rs.length:=by rw[<-HNl.out];exact hjn
   obtain⟨g,o,rfl,hg,k1,T1,a1,b1,c1,d1,so1,n1,cap1,p1,rt1,z0,z1,z2,z3,z4,z5,z6,z7,z8,z9⟩:=HR.out.2.2 j hjs;have hbe:=HMw.out.be;have e:∀(o':Nat) (u:Value),w.cell? ⟨g,o',none⟩=some u->wr.cell? ⟨g,o',none⟩=some u:=fun o' u hu=>(hbe.cell (p:=⟨g,o',none⟩) hg).trans hu
   replace z0:=e _ _ z0;replace z1:=e _ _ z1;replace z2:=e _ _ z2;replace z3:=e _ _ z3;replace z4:=e _ _ z4;replace z5:=e _ _ z5;replace z6:=e _ _ z6;replace z7:=e _ _ z7;replace z8:=e _ _ z8;replace z9:=e _ _ z9;have hgl:g<wr.heap.size:=World.block_lt_of_cell? wr _ z0;have HSz:=hid (HZ.out _ (List.getElem_mem hjs));have HNx:Hid (nmL (rs.take (j+1))=nmL (rs.take j)++[rs[j].1]):=z0r rs j hjs;have HNj:=hid (HNo.out j hjs);obtain⟨N0,hN0⟩:∃N0,N0=rs[j].1:=⟨_,rfl⟩;obtain⟨q1,hq1⟩:∃q1,q1=rs[j].2.2:=⟨_,rfl⟩;rw[<-hN0]at z0 HSz HNx HNj;rw[<-hq1]at z9;obtain⟨W1,hW1⟩:∃W1,W1=wr.alloc (.cells #[.string N0,.int .i64 k1,.string T1,.int .u64 a1,.int .u64 b1,.int .u64 c1,.int .u64 d1,.slice so1 n1 cap1,.int .i64 p1,.int .i64 q1] 65):=⟨_,rfl⟩;have hb1:Below wr.heap.size wr W1:=by rw[hW1];exact(Below.refl _ wr).alloc L0q _
   have hn1:W1.heap[wr.heap.size]? =some (.cells #[.string N0,.int .i64 k1,.string T1,.int .u64 a1,.int .u64 b1,.int .u64 c1,.int .u64 d1,.slice so1 n1 cap1,.int .i64 p1,.int .i64 q1] 65):=by rw[hW1];exact Qq wr _ rfl
   have lm:w.heap.size+2<wr.heap.size:=Qz HMw.out.m;have lm1:w.heap.size+1+1<W1.heap.size:=Nat.lt_of_lt_of_le lm hb1.size;have lr1:wr.heap.size<W1.heap.size:=Qz hn1;have HS0:Hid (W1.drew.cell? ⟨w.heap.size+1+1,1,none⟩=some (.map (some (w.heap.size+1)))/\W1.drew.cell? ⟨wr.heap.size,0,none⟩=some (.string N0)/\Pm W1.drew (w.heap.size+1) (nmL (rs.take j))):=⟨(hb1.cell (p:=⟨w.heap.size+2,1,none⟩) lm).trans (Jz HMw.out.m).1.2.1,(Qf hn1 0 _ rfl).1,HPm.out.below hb1.drew HPm.out.lt⟩;have HB1:=hid hb1.drew;have HW1:=hid hW1;clear HCt hn1 hb1 hW1 hN0 hq1 e hbe rt1
   go_wp2_with fail
   rw[<-HW1.out];refine Vw 7 (fun W:World=>W.cell? ⟨w.heap.size+1+1,1,none⟩=some (.map (some (w.heap.size+1)))/\W.cell? ⟨wr.heap.size,0,none⟩=some (.string N0)/\Pm W (w.heap.size+1) (nmL (rs.take j))) (by kernel_rfl) HS0.out (fun hHeld=> ?_);refine Qx 0 hHeld ?_;refine Qx 1 hHeld ?_;refine Qx 2 hHeld ?_;refine Qx 3 hHeld ?_;refine Qx 4 hHeld ?_;refine Qx 5 hHeld ?_;refine Qx 6 hHeld ?_;refine Kq (fun K hK=> ?_);obtain⟨W6,hrun6,hpm6,hgr6⟩:=Pm.upd hHeld.2.2 HNj.out HSz.out (by rw[nmL,List.length_map,List.length_take];unfold maxLen;omega);rw[show((nmL (rs.take j)).length)=j by rw[nmL,List.length_map,List.length_take];omega]at hrun6;have HP6:=hid hpm6;have HG6:=hid hgr6;clear hHeld hpm6 hgr6
   go_simp
   refine hK.out _ _ ?_;clear hK K hrun6
   go_wp2_with fail
   refine⟨⟨j+1,by go_num,by omega,hid ?_,hid ?_⟩,by simp[intOf];omega⟩
   ·have hb:=HMw.out.be.trans (HB1.out.mono HMw.out.be.size)
    have ln:w.heap.size<W1.drew.heap.size:=Nat.lt_of_lt_of_le (Qz HMw.out.g) HB1.out.size;refine⟨hb.grown HG6.out hb.size (fun g e=>by have:=Option.some.inj e;omega),(HG6.out.block _ ln (fun e=>by have:=Option.some.inj e;omega)).trans ((HB1.out.block _ (Qz HMw.out.g)).trans HMw.out.g),?_⟩;exact(HG6.out.block _ lm1 (fun e=>by have:=Option.some.inj e;omega)).trans ((HB1.out.block _ (Qz HMw.out.m)).trans HMw.out.m)
   ·rw[HNx.out]
    exact HP6.out
  ·have a0:decide ((j:Int)<(n:Int))=false:=by simp;omega
   have hjI:¬(j:Int)<(n:Int):=by omega
   have hjn':rs.take j=rs:=List.take_of_length_le (by rw[<-HNl.out];omega);rw[hjn']at HPm;have gc:=(Qk HMw.out.g).1;have lgc:=Qz HMw.out.g;clear hjn' hj hjn
   go_wp2_with fail
   clear gc lgc
   go_loopw [39] (fun i wr=>∃(j:Nat) (v:Value) (xs:List Value),i=.int .i64 j/\j<=n/\Hid (Mw w so n cap T M v wr)/\Hid (Pm wr (w.heap.size+1) (nmL rs))/\Hid (Bj w rs j v xs wr)) (fun i _=>n-(intOf i).toNat)
   case atStart=>exact⟨0,.slice none 0 0,[],rfl,Nat.zero_le _,HMw,HPm,hid ⟨World.ownsRow_nil _ _ _ _,fun i hi h=>by omega⟩⟩
   case round=>
   obtain⟨j,v,xs,rfl,hj,HMw,HPm,HBj⟩:=hrel;obtain⟨sa,sca,rfl⟩:=Bb HBj.out.1;by_cases hjn:j<n
   ·have hjI:(j:Int)<(n:Int):=by omega
    have a0:decide ((j:Int)<(n:Int))=true:=by simp;omega
    have hjs:j<rs.length:=by rw[<-HNl.out];exact hjn
    obtain⟨g,o,rfl,hg,k1,T1,a1,b1,c1,d1,so1,n1,cap1,p1,rt1,z0,z1,z2,z3,z4,z5,z6,z7,z8,z9⟩:=HR.out.2.2 j hjs;have hbe:=HMw.out.be;have e:∀(o':Nat) (u:Value),w.cell? ⟨g,o',none⟩=some u->wr.cell? ⟨g,o',none⟩=some u:=fun o' u hu=>(hbe.cell (p:=⟨g,o',none⟩) hg).trans hu
    replace z0:=e _ _ z0;replace z1:=e _ _ z1;replace z2:=e _ _ z2;replace z3:=e _ _ z3;replace z4:=e _ _ z4;replace z5:=e _ _ z5;replace z6:=e _ _ z6;replace z7:=e _ _ z7;replace z8:=e _ _ z8;replace z9:=e _ _ z9;have hgl:g<wr.heap.size:=World.block_lt_of_cell? wr _ z0;have hct:=HCt.out rs[j] (List.getElem_mem hjs) k1 T1 a1 b1 c1 d1 so1 n1 cap1 p1 rt1;obtain⟨N0,hN0⟩:∃N0,N0=rs[j].1:=⟨_,rfl⟩;obtain⟨q1,hq1⟩:∃q1,q1=rs[j].2.2:=⟨_,rfl⟩;rw[<-hN0]at z0;rw[<-hq1]at z9;obtain⟨W1,hW1⟩:∃W1,W1=wr.alloc (.cells #[.string N0,.int .i64 k1,.string T1,.int .u64 a1,.int .u64 b1,.int .u64 c1,.int .u64 d1,.slice so1 n1 cap1,.int .i64 p1,.int .i64 q1] 65):=⟨_,rfl⟩;have hb1:Below wr.heap.size wr W1:=by rw[hW1];exact(Below.refl _ wr).alloc L0q _
    have hn1:W1.heap[wr.heap.size]? =some (.cells #[.string N0,.int .i64 k1,.string T1,.int .u64 a1,.int .u64 b1,.int .u64 c1,.int .u64 d1,.slice so1 n1 cap1,.int .i64 p1,.int .i64 q1] 65):=by rw[hW1];exact Qq wr _ rfl
    have lm:w.heap.size+2<wr.heap.size:=Qz HMw.out.m;have lm1:w.heap.size+1+1<W1.heap.size:=Nat.lt_of_lt_of_le lm hb1.size;have lr1:wr.heap.size<W1.heap.size:=Qz hn1;have lmd:w.heap.size+2<W1.drew.heap.size:=lm1;have hM1:=(hb1.block _ (Qz HMw.out.m)).trans HMw.out.m;have HC:=hid (hct W1.drew (hbe.trans (hb1.mono hbe.size)).drew lmd (Jz hM1).1.2.1 (HPm.out.below hb1.drew HPm.out.lt));have HS0:Hid (W1.drew.cell? ⟨w.heap.size+1+1,2,none⟩=some (.slice sa j sca)/\W1.drew.cell? ⟨wr.heap.size,1,none⟩=some (.int .i64 k1)/\W1.drew.cell? ⟨wr.heap.size,2,none⟩=some (.string T1)/\W1.drew.cell? ⟨wr.heap.size,3,none⟩=some (.int .u64 a1)/\W1.drew.cell? ⟨wr.heap.size,4,none⟩=some (.int .u64 b1)/\W1.drew.cell? ⟨wr.heap.size,5,none⟩=some (.int .u64 c1)/\W1.drew.cell? ⟨wr.heap.size,6,none⟩=some (.int .u64 d1)/\W1.drew.cell? ⟨wr.heap.size,7,none⟩=some (.slice so1 n1 cap1)/\W1.drew.cell? ⟨wr.heap.size,8,none⟩=some (.int .i64 p1)):=⟨(Jz hM1).1.2.2.1,(Qf hn1 1 _ rfl).1,(Qf hn1 2 _ rfl).1,(Qf hn1 3 _ rfl).1,(Qf hn1 4 _ rfl).1,(Qf hn1 5 _ rfl).1,(Qf hn1 6 _ rfl).1,(Qf hn1 7 _ rfl).1,(Qf hn1 8 _ rfl).1⟩;have HOw:Hid (∀w3,Below W1.drew.heap.size W1.drew w3->w3.ownsRow (w.heap.size+3) 107 1 (.slice sa j sca) j xs):=fun w3 h3=>Ym (w:=W1.drew) (Ym HBj.out.1 hb1).drew h3
    have HSz3:Hid (∀w3,Below W1.drew.heap.size W1.drew w3->w.heap.size+3<w3.heap.size/\w3.heap[w.heap.size+1+1]? =some (.cells #[.string T,.map (some (w.heap.size+1)),.slice sa j sca,.int .i64 ((0:Nat):Int),.int .i64 M] 105)):=fun w3 h3=>⟨by have:=h3.size;have e1:W1.drew.heap.size=W1.heap.size:=rfl;omega,(h3.block _ lmd).trans hM1⟩
    have hlt:=HBj.out.1.lt;have HNe:Hid (some (w.heap.size+1+1)≠(Value.slice sa j sca).ownBlock):=fun e=>by have:=(hlt _ e.symm).1;omega
    have HNn:Hid (some wr.heap.size≠(Value.slice sa j sca).ownBlock):=fun e=>by have:=(hlt _ e.symm).2;omega
    have m1:j+1<=maxLen:=by unfold maxLen;omega
    have m2:(j+1)*8<=140737488355328:=by omega
    have HB1:=hid hb1.drew;have HW1:=hid hW1;clear HCt hn1 hb1 hW1 hN0 hq1 e hbe rt1 hct hM1 hlt lmd HP0 HM0
    go_wp2_with fail
    rw[<-HW1.out];refine Vw 13 (fun W:World=>W.cell? ⟨w.heap.size+1+1,2,none⟩=some (.slice sa j sca)/\W.cell? ⟨wr.heap.size,1,none⟩=some (.int .i64 k1)/\W.cell? ⟨wr.heap.size,2,none⟩=some (.string T1)/\W.cell? ⟨wr.heap.size,3,none⟩=some (.int .u64 a1)/\W.cell? ⟨wr.heap.size,4,none⟩=some (.int .u64 b1)/\W.cell? ⟨wr.heap.size,5,none⟩=some (.int .u64 c1)/\W.cell? ⟨wr.heap.size,6,none⟩=some (.int .u64 d1)/\W.cell? ⟨wr.heap.size,7,none⟩=some (.slice so1 n1 cap1)/\W.cell? ⟨wr.heap.size,8,none⟩=some (.int .i64 p1)) (by kernel_rfl) HS0.out (fun hHeld=> ?_);refine Qx 0 hHeld ?_;refine Qx 1 hHeld ?_;refine Qx 2 hHeld ?_;refine Qx 3 hHeld ?_;refine Qx 4 hHeld ?_;refine Qx 5 hHeld ?_;refine Qx 6 hHeld ?_;refine Qx 7 hHeld ?_
    (refine Zy 8 (fun K hK=> ?_);go_simp;refine HC.out.mono ?_;rintro e w3 ⟨e1,e2,rfl,hv3,hb3⟩;have HV3:=hid hv3;have HB3:=hid hb3;clear hv3 hb3;go_simp;replace hHeld:=z5P hHeld HB3.out;refine hK.out _ _ hHeld ?_;clear hK K)
    (try simp only[Act.put,List.setIfInBounds_toArray,List.set_cons_zero,List.set_cons_succ])
    (refine Zy 9 (fun K hK=> ?_);go_simp;replace hHeld:=z5P hHeld ((Below.refl _ w3).alloc L0q (.cells #[.func (.func 72) #[] #[.pointer (some ⟨e1,0,none⟩),.pointer (some ⟨e2,0,none⟩)]] 107));refine hK.out _ _ hHeld ?_;clear hK K)
    (try simp only[Act.put,List.setIfInBounds_toArray,List.set_cons_zero,List.set_cons_succ])
    (refine Zy 10 (fun K hK=> ?_);refine step_append_lies _ rfl (.tmp 47) (.tmp 52) 103 rfl (w.heap.size+3) 107 iT .nilFunc 1 8 Tryz.underlying103 hiT hzT0 hzT1 hzT2 rfl (by decide) (.slice sa j sca) j xs (by rfl) ((HOw.out w3 HB3.out).alloc _) ⟨w3.heap.size,0,none⟩ 1 1 [.func (.func 72) #[] #[.pointer (some ⟨e1,0,none⟩),.pointer (some ⟨e2,0,none⟩)]] (by rfl) rfl (cell_one_new _ _ _) (by simp[Value.oneCell']) (by decide) m1 m2 (by rw[World.size_alloc];have:=(HSz3.out w3 HB3.out).1;omega) (w3.heap.size+1) (World.size_alloc _ _) ?_;intro g6 cap6 w6 hown6 hgr6 hat6 hlt6;replace hHeld:=y4J hHeld HNe.out HNn.out hgr6;have HM6:=hid (((hgr6.block (w.heap.size+1+1) (by rw[World.size_alloc];have:=(HSz3.out w3 HB3.out).1;omega) HNe.out).trans (Below.heap_alloc _ _ _ (by have:=(HSz3.out w3 HB3.out).1;omega))).trans ((HSz3.out w3 HB3.out).2));have HO6:=hid hown6;have HG6:=hid hgr6;have HA6:=hid hat6;clear hown6 hgr6 hat6;refine hK.out _ _ hHeld ?_;clear hK K)
    (try simp only[Act.put,List.setIfInBounds_toArray,List.set_cons_zero,List.set_cons_succ])
    (refine Zy 11 (fun K hK=> ?_);go_simp;refine hK.out _ _ hHeld ?_;clear hK K)
    (try simp only[Act.put,List.setIfInBounds_toArray,List.set_cons_zero,List.set_cons_succ])
    refine Qx 12 hHeld ?_;refine Kq (fun K hK=> ?_);obtain⟨⟨s0,s1,s2,s3,s4⟩,f2,_⟩:=Jz HM6.out;have ls:=Qz HM6.out;clear hHeld
    go_simp
    refine hK.out _ _ ?_;clear hK K s0 s1 s2 s3 s4 f2 ls
    go_wp2_with fail
    have hb3:=HB1.out.trans (HB3.out.mono HB1.out.size);have hbw:=HMw.out.be.trans (hb3.mono HMw.out.be.size);have hbX:=hbw.alloc hbw.size (.cells #[.func (.func 72) #[] #[.pointer (some ⟨e1,0,none⟩),.pointer (some ⟨e2,0,none⟩)]] 107);have hl3:=(HSz3.out w3 HB3.out).1;have lX:w.heap.size<(w3.alloc (.cells #[.func (.func 72) #[] #[.pointer (some ⟨e1,0,none⟩),.pointer (some ⟨e2,0,none⟩)]] 107)).heap.size:=by rw[World.size_alloc];omega
    have hob:=HBj.out.1.lt;have hb6:=hbX.grown HG6.out hbX.size (fun g e=>by have:=(hob g e).1;omega);refine⟨⟨j+1,_,_,by go_num,by omega,hid ?_,hid ?_,hid (HBj.out.step hjs (by omega) hb3 (Fy (fun b (h:W1.drew.heap.size<=b) _=>Nat.le_trans HB1.out.size h) (fun _ _ _ _=>rfl) _ _ HV3.out) HO6.out HG6.out HA6.out)⟩,by simp[intOf];omega⟩
    ·refine⟨hb6.setCell (p:=⟨w.heap.size+2,2,none⟩) (by show w.heap.size<=w.heap.size+2;omega) _,?_,Qy HM6.out 2 _⟩
     refine(Below.heap_setCell w6 ⟨w.heap.size+2,2,none⟩ _ w.heap.size (by show w.heap.size≠w.heap.size+2;omega)).trans ((HG6.out.block _ lX (fun e=>by have:=(hob _ e.symm).1;omega)).trans ((Below.heap_alloc _ _ _ (by omega)).trans ((hb3.block _ (Qz HMw.out.g)).trans HMw.out.g)))
    ·have hp3:=(HPm.out.below hb3 HPm.out.lt).below ((Below.refl _ w3).alloc L0q (.cells #[.func (.func 72) #[] #[.pointer (some ⟨e1,0,none⟩),.pointer (some ⟨e2,0,none⟩)]] 107)) (by have:=(HPm.out.below hb3 HPm.out.lt).lt;exact this)
     exact(hp3.kept HG6.out (fun e=>by have:=(hob _ e.symm).1;omega)).kept (row:=some (w.heap.size+2)) (G.setR (G.refl _ _)) (fun e=>by have:=Option.some.inj e;omega)
   ·have a0:decide ((j:Int)<(n:Int))=false:=by simp;omega
    have hjI:¬(j:Int)<(n:Int):=by omega
    obtain rfl:n=j:=by omega
    have HF:Hid (MgP rs T M w (.returned (.pointer (some ⟨w.heap.size+1+1,0,none⟩))) wr):=by
     refine⟨w.heap.size+2,_,_,rfl,by omega,HMw.out.m,⟨fun _=>True,sa,sca,by rw[HNl.out],?_⟩,HMw.out.be⟩;have hlen:=HNl.out;cases hrs:rs with
     |nil=>rw[List.map_nil,Mvs];trivial
     |cons x0 r0=>
      have hpos:0<n:=by rw[hlen,hrs];simp
      obtain⟨m,rfl⟩:∃m,n=m+1:=⟨n-1,by omega⟩;obtain⟨g9,cap9,e9⟩:=ownsRow_succ HBj.out.1;cases e9;rw[<-hrs];have h9:=(HBj.out.1.lt g9 rfl).1;refine z0I (by omega) trivial _ 0 fun i hi=> ?_
      have hi':i<rs.length:=by simpa using hi
      obtain⟨x,h3,h4⟩:=HBj.out.2 i hi' (by omega);refine⟨x,?_,?_⟩
      ·have:=HBj.out.1.cells rfl i x h3
       have e2:((⟨g9,0,none⟩:Addr).add i)=⟨g9,i,none⟩:=by
        unfold Addr.add;split
        ·rename_i h0;simp_all
        ·simp
       rw[Nat.zero_add,Nat.zero_add,<-e2];exact this
      ·have hget:(rs.map (fun x=>x.2.1))[i]'hi=rs[i].2.1:=by simp
       rw[hget];exact Fy (fun _ _ _=>trivial) (fun _ _ _ _=>rfl) _ _ h4
    clear HCt
    go_wp2_with fail
    go_ret;exact HF.out
end
theorem y4L(p q r:Addr)(w:World):
  CallsD prog 43 #[.pointer (some p),.pointer (some q),.pointer (some r)] .returning w fun e u' w'=>e=.returned (.tuple #[])/\u'=.returning/\w'=w:=by
 refine callsD_of_wpS func43 rfl fun c₀ cs hu=> ?_
 apply wpS_seq;apply wpS_region;simp[wpOpsS,go_sem,recoverD,hu,ntmps43,Exit.thenS];refine wpS_of_wp ?_
 go_wp2
 cases c₀;simp_all[bodyPostS,results,Tryz.results43]
theorem y4M(b:Nat)(x y:Int)(v:Value)(w:World)(hp:w.cell? ⟨b,0,none⟩=some (.int .i64 x))(hq:w.cell? ⟨b+1,0,none⟩=some (.int .i64 y))(hr:w.cell? ⟨b+1+1,0,none⟩=some v)(fp:w.frozen? ⟨b,0,none⟩=false)(fq:w.frozen? ⟨b+1,0,none⟩=false)(fr:w.frozen? ⟨b+1+1,0,none⟩=false)(l:b+1+1<w.heap.size):
  CallsD prog 43 #[.pointer (some ⟨b,0,none⟩),.pointer (some ⟨b+1,0,none⟩),.pointer (some ⟨b+1+1,0,none⟩)] (.panicking bud) w fun e u' w'=>e=.returned (.tuple #[])/\u'=.panicking [{v:=.iface 34 (.int .i64 50),recovered:=true}]/\w'=((w.setCell ⟨b,0,none⟩ (.int .i64 0)).setCell ⟨b+1,0,none⟩ (.int .i64 0)).setCell ⟨b+1+1,0,none⟩ (.iface 34 (.int .i64 50)):=by
 unfold bud;have l1:b<w.heap.size:=by omega
 have l2:b+1<w.heap.size:=by omega
 have hta:∀w:World,(Instr.typeAssert (.iface 34 (.int .i64 50)) 20 34 true).run prog w=.ok (.tuple #[.int .i64 50,.bool true]) w:=fun w=>by kernel_rfl
 have heq:∀w:World,(binOp BinOp.eql 20 (.iface 34 (.int .i64 50)) .nilIface).run prog w=.ok (.bool false) w:=fun w=>by kernel_rfl
 refine callsD_of_wpS func43 rfl fun c₀ cs hu=> ?_
 apply wpS_seq;apply wpS_region;simp[wpOpsS,go_sem,recoverD,hu,ntmps43,Exit.thenS];refine wpS_of_wp ?_
 go_wp2
 simp[bodyPostS,results,Tryz.results43]
theorem z5Q{w:World}{b:Nat}{u0 u1 u2:Value}{t0 t1 t2:TypeId}(f0:w.heap[b]? =some (.cells #[u0] t0))(f1:w.heap[b+1]? =some (.cells #[u1] t1))(f2:w.heap[b+1+1]? =some (.cells #[u2] t2)):(((w.setCell ⟨b,0,none⟩ v0).setCell ⟨b+1,0,none⟩ v1).setCell ⟨b+1+1,0,none⟩ v2).cell? ⟨b,0,none⟩=some v0/\(((w.setCell ⟨b,0,none⟩ v0).setCell ⟨b+1,0,none⟩ v1).setCell ⟨b+1+1,0,none⟩ v2).cell? ⟨b+1,0,none⟩=some v1/\(((w.setCell ⟨b,0,none⟩ v0).setCell ⟨b+1,0,none⟩ v1).setCell ⟨b+1+1,0,none⟩ v2).cell? ⟨b+1+1,0,none⟩=some v2:=by
 have g0:=(Below.heap_setCell ((w.setCell ⟨b,0,none⟩ v0).setCell ⟨b+1,0,none⟩ v1) ⟨b+1+1,0,none⟩ v2 b (by show b≠b+1+1;omega)).trans ((Below.heap_setCell (w.setCell ⟨b,0,none⟩ v0) ⟨b+1,0,none⟩ v1 b (by show b≠b+1;omega)).trans (Qy f0 0 v0));have g1:=(Below.heap_setCell ((w.setCell ⟨b,0,none⟩ v0).setCell ⟨b+1,0,none⟩ v1) ⟨b+1+1,0,none⟩ v2 (b+1) (by show b+1≠b+1+1;omega)).trans (Qy ((Below.heap_setCell w ⟨b,0,none⟩ v0 (b+1) (by show b+1≠b;omega)).trans f1) 0 v1);have g2:=Qy ((Below.heap_setCell (w.setCell ⟨b,0,none⟩ v0) ⟨b+1,0,none⟩ v1 (b+1+1) (by show b+1+1≠b+1;omega)).trans ((Below.heap_setCell w ⟨b,0,none⟩ v0 (b+1+1) (by show b+1+1≠b;omega)).trans f2)) 0 v2;exact⟨(Qk g0).1,(Qk g1).1,(Qk g2).1⟩
theorem y4N{w:World}{b:Nat}{u0 u1 u2:Value}{t0 t1 t2:TypeId}(f0:w.heap[b]? =some (.cells #[u0] t0))(f1:w.heap[b+1]? =some (.cells #[u1] t1))(f2:w.heap[b+1+1]? =some (.cells #[u2] t2)):((((w.setCell ⟨b,0,none⟩ v0).setCell ⟨b,0,none⟩ v0).setCell ⟨b+1,0,none⟩ v1).setCell ⟨b+1+1,0,none⟩ v2).cell? ⟨b,0,none⟩=some v0/\((((w.setCell ⟨b,0,none⟩ v0).setCell ⟨b,0,none⟩ v0).setCell ⟨b+1,0,none⟩ v1).setCell ⟨b+1+1,0,none⟩ v2).cell? ⟨b+1,0,none⟩=some v1/\((((w.setCell ⟨b,0,none⟩ v0).setCell ⟨b,0,none⟩ v0).setCell ⟨b+1,0,none⟩ v1).setCell ⟨b+1+1,0,none⟩ v2).cell? ⟨b+1+1,0,none⟩=some v2:=
 z5Q (w:=w.setCell ⟨b,0,none⟩ v0) (b:=b) (u0:=v0) (u1:=u1) (u2:=u2) (v0:=v0) (v1:=v1) (v2:=v2) (t0:=t0) (t1:=t1) (t2:=t2) (Qy f0 0 v0) ((Below.heap_setCell w ⟨b,0,none⟩ v0 (b+1) (by show b+1≠b;omega)).trans f1) ((Below.heap_setCell w ⟨b,0,none⟩ v0 (b+1+1) (by show b+1+1≠b;omega)).trans f2)
def MaP(rs:List Rr)(T:ByteArray)(mB M:Nat)(t:RT)(i:Nat)(w:World)(e:Ending)(w':World):Prop:=w.grownBy w' (some mB)/\
 ((∃x c,Mt (bdR rs) T (.one t) i x c/\c<=M/\e=.returned (.tuple #[.int .i64 (eI x),.int .i64 c,.nilIface]))∨
  ((∀x c,Mt (bdR rs) T (.one t) i x c->M<c)/\e=.returned (.tuple #[.int .i64 0,.int .i64 0,.iface 34 (.int .i64 50)])))
theorem y4O(rs:List Rr)(T:ByteArray)(mB M:Nat)(pv sv:Value)(t:RT)(i j g o n cap b1 b2:Nat)(w:World)(hs:Smn w mB T pv sv 0 M)(hsv:sv=.slice (some ⟨g,o,none⟩) n cap)(hg:g≠mB)(hj:j<n)(hn:n<=1048576)(hc:w.cell? ⟨g,o+j,none⟩=some (fq2 72 b1 b2))
  (HP:Hid (∀W:World,Below w.heap.size w W->Calls prog 72 #[.int .i64 i,.pointer (some ⟨b1,0,none⟩),.pointer (some ⟨b2,0,none⟩)] W (Po rs T mB pv sv M (.one t) i 0 W))):
  Calls prog 27 #[.pointer (some ⟨mB,0,none⟩),.int .i64 j,.int .i64 i] w (MaP rs T mB M t i w):=by
 subst hsv;have hmf:∀(fn:Fn) (first cap:Array Value) (w:World),(Instr.makeFunc fn first cap).run prog w=.ok (.func fn first cap) w:=fun _ _ _ _=>rfl
 obtain⟨W1,hW1⟩:∃W1,W1=((w.alloc (.cells #[.int .i64 0] 3)).alloc (.cells #[.int .i64 0] 3)).alloc (.cells #[.nilIface] 28):=⟨_,rfl⟩;have hb1:Below w.heap.size w W1:=by rw[hW1];exact(be2 _ _ _).alloc (by simp;omega) _
 have HC:=hid (HP.out W1 hb1);have HE0:Hid (W1.heap[w.heap.size]? =some (.cells #[.int .i64 0] 3)):=by rw[hW1];exact(Below.heap_alloc _ _ _ (by simp;omega)).trans ((Below.heap_alloc _ _ _ (by simp)).trans (Qq w _ rfl))
 have HE1:Hid (W1.heap[w.heap.size+1]? =some (.cells #[.int .i64 0] 3)):=by rw[hW1];exact(Below.heap_alloc _ _ _ (by simp)).trans (Qq _ _ (by simp))
 have HE2:Hid (W1.heap[w.heap.size+1+1]? =some (.cells #[.nilIface] 28)):=by rw[hW1];exact Qq _ _ (by simp)
 have lm:=Qz hs;have lg:g<w.heap.size:=World.block_lt_of_cell? w _ hc;have m2:=(Jz hs).1.2.2.1;have lm1:mB<w.heap.size+1:=by omega
 have lm2:mB<w.heap.size+1+1:=by omega
 have lg1:g<w.heap.size+1:=by omega
 have lg2:g<w.heap.size+1+1:=by omega
 have hjI:(j:Int)<(n:Int):=by omega
 have HB1:=hid hb1;have HW1:=hid hW1;clear HP hW1 hb1 hs;dsimp only[fq2]at hc
 go_enter_defers func27,ntmps27
 go_wp2_with fail
 rw[<-HW1.out];refine HC.out.mono ?_;rintro e w1 ⟨hg1,⟨x,c,hm,hk,rfl,hs1⟩|⟨hn1,rfl,k1,hs1⟩⟩
 ·have f0:=(hg1.block _ (Qz HE0.out) (fun e=>by have:=Option.some.inj e;omega)).trans HE0.out
  have f1:=(hg1.block _ (Qz HE1.out) (fun e=>by have:=Option.some.inj e;omega)).trans HE1.out;have f2:=(hg1.block _ (Qz HE2.out) (fun e=>by have:=Option.some.inj e;omega)).trans HE2.out;obtain⟨x0,y0⟩:=Qk f0;obtain⟨x1,y1⟩:=Qk f1;obtain⟨x2,y2⟩:=Qk f2;have l0:=Qz f0;have l1:=Qz f1;have l2:=Qz f2;rw[Nat.zero_add]at hk hs1;have x3:=(Jz hs1).1.2.2.2.1;have l3:=Qz hs1;have ne0:mB≠w.heap.size:=by omega
  have ne1:mB≠w.heap.size+1:=by omega
  have ne2:mB≠w.heap.size+1+1:=by omega
  have HM:=hid hm;have HK:=hid hk;obtain⟨wf,hwf⟩:∃wf,wf=((((w1.setCell ⟨w.heap.size,0,none⟩ (.int .i64 (eI x))).setCell ⟨w.heap.size,0,none⟩ (.int .i64 (eI x))).setCell ⟨w.heap.size+1,0,none⟩ (.int .i64 c)).setCell ⟨w.heap.size+1+1,0,none⟩ .nilIface):=⟨_,rfl⟩;obtain⟨r0,r1,r2⟩:wf.cell? ⟨w.heap.size,0,none⟩=some (.int .i64 (eI x))/\wf.cell? ⟨w.heap.size+1,0,none⟩=some (.int .i64 c)/\wf.cell? ⟨w.heap.size+1+1,0,none⟩=some .nilIface:=by
   rw[hwf];exact y4N f0 f1 f2
  have HG0:Hid (w.grownBy wf (some mB)):=by
   rw[hwf];exact G.setN (G.setN (G.setN (G.setN (G.trans (G.below HB1.out) hg1) L0q) L0q) (by omega)) (by omega)
  have HG:Hid (w.grownBy wf.drew (some mB)):=G.to HG0.out B0q.drew;replace r0:wf.drew.cell? ⟨w.heap.size,0,none⟩=some (.int .i64 (eI x)):=r0;replace r1:wf.drew.cell? ⟨w.heap.size+1,0,none⟩=some (.int .i64 c):=r1;replace r2:wf.drew.cell? ⟨w.heap.size+1+1,0,none⟩=some .nilIface:=r2;have HWf:=hid hwf;clear hm hk hs1 hg1 f0 f1 f2 HC HW1 hwf
  go_wp2_with fail
  go_region
  all_goals(
   go_wp2_with fail
   rw[<-HWf.out];refine leaves_cons (f:=43) (args:=#[.pointer (some ⟨w.heap.size,0,none⟩),.pointer (some ⟨w.heap.size+1,0,none⟩),.pointer (some ⟨w.heap.size+1+1,0,none⟩)]) (by simp) (by simp[go_sem]) ?_;refine(y4L _ _ _ _).mono ?_;rintro e u' w'' ⟨rfl,rfl,rfl⟩;simp[Leaves,settle,results,Tryz.results27,go_sem,r0,r1,r2];exact⟨HG.out,.inl ⟨x,c,HM.out,HK.out,rfl⟩⟩)
 ·have f0:=(hg1.block _ (Qz HE0.out) (fun e=>by have:=Option.some.inj e;omega)).trans HE0.out
  have f1:=(hg1.block _ (Qz HE1.out) (fun e=>by have:=Option.some.inj e;omega)).trans HE1.out;have f2:=(hg1.block _ (Qz HE2.out) (fun e=>by have:=Option.some.inj e;omega)).trans HE2.out;obtain⟨x0,y0⟩:=Qk f0;obtain⟨x1,y1⟩:=Qk f1;obtain⟨x2,y2⟩:=Qk f2;have l2:=Qz f2;have HNo:=hid hn1;obtain⟨wf,hwf⟩:∃wf,wf=((w1.setCell ⟨w.heap.size,0,none⟩ (.int .i64 0)).setCell ⟨w.heap.size+1,0,none⟩ (.int .i64 0)).setCell ⟨w.heap.size+1+1,0,none⟩ (.iface 34 (.int .i64 50)):=⟨_,rfl⟩;obtain⟨r0,r1,r2⟩:wf.cell? ⟨w.heap.size,0,none⟩=some (.int .i64 0)/\wf.cell? ⟨w.heap.size+1,0,none⟩=some (.int .i64 0)/\wf.cell? ⟨w.heap.size+1+1,0,none⟩=some (.iface 34 (.int .i64 50)):=by
   rw[hwf];exact z5Q f0 f1 f2
  have HG:Hid (w.grownBy wf (some mB)):=by
   rw[hwf];exact G.setN (G.setN (G.setN (G.trans (G.below HB1.out) hg1) L0q) (by omega)) (by omega)
  have HWf:=hid hwf;clear hn1 hs1 hg1 f0 f1 f2 HC HW1 hwf
  go_wp2_with fail
  refine leaves_cons (f:=43) (args:=#[.pointer (some ⟨w.heap.size,0,none⟩),.pointer (some ⟨w.heap.size+1,0,none⟩),.pointer (some ⟨w.heap.size+1+1,0,none⟩)]) (by simp) (by simp[go_sem]) ?_;refine(y4M w.heap.size _ _ _ w1 x0 x1 x2 y0 y1 y2 l2).mono ?_;rintro e u' w'' ⟨rfl,rfl,rfl⟩;rw[<-HWf.out];simp[Leaves,settle,results,Tryz.results27,go_sem,r0,r1,r2];exact⟨HG.out,.inr ⟨fun x c h=>by have:=HNo.out x c h;omega,rfl⟩⟩
theorem Ay(k:Int)(so:Option Addr)(n cap:Nat)(w:World):
  Calls prog 88 #[.int .i64 k,.slice so n cap] w fun e w'=>e=.returned (.agg #[.int .i64 k,.string ⟨#[]⟩,.int .u64 0,.int .u64 0,.int .u64 0,.int .u64 0,.slice so n cap,.int .i64 0])/\Below w.heap.size w w':=by
 go_enter func88,ntmps88
 go_wp2_with fail
 refine bodyPost_ret (v:=.agg #[.int .i64 k,.string ⟨#[]⟩,.int .u64 0,.int .u64 0,.int .u64 0,.int .u64 0,.slice so n cap,.int .i64 0]) (by simp[results,Tryz.results88,go_sem]) rfl ?_;refine⟨rfl,?_⟩
 first|exact Below.refl _ _|exact B0q.alloc L0q _
theorem z5R(k:Int)(T:ByteArray)(a b c d p:Int)(so:Option Addr)(n cap:Nat)(w:World)(h:k=9∨k=10):
  Calls prog 108 #[.agg #[.int .i64 k,.string T,.int .u64 a,.int .u64 b,.int .u64 c,.int .u64 d,.slice so n cap,.int .i64 p]] w fun e w'=>e=.returned (.bool true)/\Below w.heap.size w w':=by
 rcases h with rfl|rfl
 ·go_enter func108,ntmps108
  go_wp2_with fail
  go_ret;refine⟨rfl,?_⟩
  first|exact Below.refl _ _|exact B0q.alloc L0q _
 ·go_enter func108,ntmps108
  go_wp2_with fail
  go_ret;refine⟨rfl,?_⟩
  first|exact Below.refl _ _|exact B0q.alloc L0q _
theorem y4P(k:Int)(T:ByteArray)(a b c d p:Int)(so:Option Addr)(n cap:Nat)(w:World)(h1:k≠9)(h2:k≠10):
  Calls prog 108 #[.agg #[.int .i64 k,.string T,.int .u64 a,.int .u64 b,.int .u64 c,.int .u64 d,.slice so n cap,.int .i64 p]] w fun e w'=>e=.returned (.bool false)/\Below w.heap.size w w':=by
 have q1:(k == 9)=false:=by rw[beq_eq_false_iff_ne];exact h1
 have q2:(k == 10)=false:=by rw[beq_eq_false_iff_ne];exact h2
 go_enter func108,ntmps108
 go_wp2_with fail
 go_ret;refine⟨rfl,?_⟩
 first|exact Below.refl _ _|exact B0q.alloc L0q _
end Go.Proofs.YtgmcjddjdidpjaaGreatDoor
