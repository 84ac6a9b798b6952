/- Lemmas for the last text. Conditions: those that each names. -/
import Derived.Test.YtlogolpcipiceaaGreatDoorVC10aToC12p
import Derived.Deep.RegionHeld3
import Derived.Deep.AppendLies
import Derived.Deep.RegionLaw
import Derived.Deep.DeepCutAuto
import Derived.SizedLaws
import Derived.Test.YtlogolpcipiceaaGreatDoorVS9ToO13
import Derived.Test.YtlogolpcipiceaaGreatDoorVEAsToX11
import Derived.Test.YtlogolpcipiceaaGreatDoorRows
import Derived.ProofKit
import Derived.OpenShut
import Derived.Carry
import Derived.Test.YtlogolpcipiceaaGreatDoorCards
import Derived.Test.YtlogolpcipiceaaGreatDoorTie
import Derived.LaidMore
import Derived.LaidHandle
import Derived.Stop.Joined
import Derived.Lib.LaidTab
import Derived.Test.YtlogolpcipiceaaGreatDoorVX17ToQ1
import Derived.Stop.LaidErr
import Derived.LaidLaws
import Derived.Test.YtlogolpcipiceaaGreatDoorVS1ToO4
set_option linter.unusedVariables false
set_option maxRecDepth 100000
namespace Go.Proofs.YtlogolpcipiceaaGreatDoor
open Go.Proofs.Tryz
open Go.RowKit Go.Shelf Go.Maps
theorem Rk.move{w w':World}{B B' g o g' o':Nat}{x:Rr}(h:Rk w B g o x)(hc:∀q,q<10->w'.cell? ⟨g',o'+q,none⟩=w.cell? ⟨g,o+q,none⟩)(hb:Below B w w')(hB:B<=B'):Rk w' B' g' o' x:=by
 obtain⟨k,T,a,b,c,d,so,n,cap,p,h1,z0,z1,z2,z3,z4,z5,z6,z7,z8,z9⟩:=h;exact⟨k,T,a,b,c,d,so,n,cap,p,Qj.upto hB _ _ (h1.below hb),(hc 0 (by omega)).trans z0,(hc 1 (by omega)).trans z1,(hc 2 (by omega)).trans z2,(hc 3 (by omega)).trans z3,(hc 4 (by omega)).trans z4,(hc 5 (by omega)).trans z5,(hc 6 (by omega)).trans z6,(hc 7 (by omega)).trans z7,(hc 8 (by omega)).trans z8,(hc 9 (by omega)).trans z9⟩
theorem Rk.ok{w:World}{B g o:Nat}{x:Rr}(h:Rk w B g o x)(q:Nat)(hq:q<10):∃v,w.cell? ⟨g,o+q,none⟩=some v/\v.oneCell'=true:=by
 obtain⟨k,T,a,b,c,d,so,n,cap,p,h1,z0,z1,z2,z3,z4,z5,z6,z7,z8,z9⟩:=h
 match q,hq with
 |0,_=>exact⟨_,z0,rfl⟩
 |1,_=>exact⟨_,z1,rfl⟩
 |2,_=>exact⟨_,z2,rfl⟩
 |3,_=>exact⟨_,z3,rfl⟩
 |4,_=>exact⟨_,z4,rfl⟩
 |5,_=>exact⟨_,z5,rfl⟩
 |6,_=>exact⟨_,z6,rfl⟩
 |7,_=>exact⟨_,z7,rfl⟩
 |8,_=>exact⟨_,z8,rfl⟩
 |9,_=>exact⟨_,z9,rfl⟩
theorem y4p{w:World}{B g o n:Nat}{rs:List Rr}(h:Qy w B (some ⟨g,o,none⟩) n rs):∃xs:List Value,xs.length=n*10/\(∀i u,xs[i]? =some u->w.cell? ⟨g,o+i,none⟩=some u)/\∀u∈xs,u.oneCell'=true:=by
 have hk:∀i,i<n*10->∃v,w.cell? ⟨g,o+i,none⟩=some v/\v.oneCell'=true:=fun i hi=>by
  obtain⟨g',o',e,_,hr⟩:=h.2.2 (i/10) (by have:=h.1;omega);simp only[Option.some.injEq,Addr.mk.injEq,and_true]at e;obtain⟨rfl,rfl⟩:=e;have:=hr.ok (i%10) (by omega);rw[Nat.add_assoc,show i/10*10+i%10=i by omega]at this;exact this
 refine⟨(List.range (n*10)).map fun i=>(w.cell? ⟨g,o+i,none⟩).getD .nilIface,by simp,fun i u hu=> ?_,fun u hu=> ?_⟩
 ·rw[List.getElem?_map]at hu
  rcases Nat.lt_or_ge i (n*10)with hi|hi
  ·rw[List.getElem?_range hi]at hu
   obtain⟨v,hv,_⟩:=hk i hi;have hu':(w.cell? ⟨g,o+i,none⟩).getD .nilIface=u:=Option.some.inj hu;rw[hv]at hu' ⊢;exact congrArg some hu'
  ·rw[List.getElem?_eq_none (by simpa using hi)]at hu
   cases hu
 ·obtain⟨i,hi,rfl⟩:=List.mem_map.1 hu
  obtain⟨v,hv,ho⟩:=hk i (List.mem_range.1 hi);rw[hv];exact ho
theorem y4q{w w':World}{B B' base g o n g6 cap6:Nat}{rs:List Rr}{xs news:List Value}{x:Rr}(h:Qy w B (some ⟨g,o,none⟩) n rs)(hl:xs.length=n*10)(hx:∀i u,xs[i]? =some u->w.cell? ⟨g,o+i,none⟩=some u)(hb:Below B w w')(hB:B<=B')(hn:n+1<=maxLen)(hg6:g6<B')
  (hown:w'.ownsRow base 73 10 (.slice (some ⟨g6,0,none⟩) (n+1) cap6) (n+1) (xs++news))(hR:∀o',(∀q u,news[q]? =some u->w'.cell? ⟨g6,o'+q,none⟩=some u)->Rk w' B' g6 o' x):Qy w' B' (some ⟨g6,0,none⟩) (n+1) (rs++[x]):=by
 have hc:=hown.cells (g:=g6) rfl;have hc2:∀j u,(xs++news)[j]? =some u->w'.cell? ⟨g6,0+j,none⟩=some u:=fun j u hj=>by
  have:=hc j u hj;simp only[Addr.add]at this;by_cases h0:j=0
  ·subst h0;simpa using this
  ·rw[if_neg h0]at this;exact this
 refine⟨by rw[List.length_append,<-h.1];rfl,hn,fun j hj=>⟨g6,0,rfl,hg6,?_⟩⟩;by_cases hjn:j<rs.length
 ·rw[List.getElem_append_left hjn]
  obtain⟨g',o',e,_,hr⟩:=h.2.2 j hjn;simp only[Option.some.injEq,Addr.mk.injEq,and_true]at e;obtain⟨rfl,rfl⟩:=e;refine hr.move (fun q hq=> ?_) hb hB;have hlt:j*10+q<xs.length:=by rw[hl,h.1];omega
  have e1:=hx (j*10+q) _ (List.getElem?_eq_getElem hlt);have e2:=hc2 (j*10+q) xs[j*10+q] (by rw[List.getElem?_append_left hlt,List.getElem?_eq_getElem hlt]);rw[Nat.add_assoc,Nat.add_assoc,e1,e2]
 ·have ej:j=rs.length:=by rw[List.length_append]at hj;simp at hj;omega
  subst ej;rw[List.getElem_append_right L0q];simp only[Nat.sub_self,List.getElem_cons_zero];refine hR _ fun q u hq=> ?_
  have e2:=hc2 (rs.length*10+q) u (by rw[List.getElem?_append_right (by rw[hl,h.1];omega),hl,h.1,Nat.add_sub_cancel_left];exact hq);rw[Nat.add_assoc];exact e2
theorem y4r{P:Program}{w:World}{ops:Array Oper}{o:Oper}{a:Act}{K:Act->World->Prop}{Q:Exit->Act->World->Prop}{E:Prop}(hgd:o.guard=none)(s x:Operand)(t:TypeId)
  (ho:o.op=.call {callee:=.builtin .append,args:=#[s,x],argTypes:=#[t,t]})(e:TypeId)(i:TypeInfo)(ht:P.underlying t=some (.slice e))(hi:P.info? e=some i)(so:Option Addr)(c:Nat)
  (hs:a.eval s=.slice none 0 0)(hx:a.eval x=.slice so 0 c)(h:K (a.put o.dst (.slice none 0 0)) w):
  if Region.wanted o (yielded ops a.tmps)=true then Oper.wp P o a w K Q else E:=by
 have hw:Region.wanted o (yielded ops a.tmps)=true:=by simp[Region.wanted,hgd]
 rw[if_pos hw];have hr:(Builtin.append_ #[t,t] o.type #[.slice none 0 0,.slice so 0 c]).run P w=.ok (.slice none 0 0) w:=by
  cases so<;>simp[Builtin.append_,run_underlying ht,sizeOf,typeInfo,hi,Builtin.lenOf,Builtin.firstCells,loadCells,loadCellsFrom]
 unfold Oper.wp execOp;simp only[ho,resolve,invoke,builtin,Sem.run_bind,Sem.run_pure,Result.andThen_ok,List.map_toArray,List.map_cons,List.map_nil,hs,hx,hr];exact h
theorem Wc{w2 W W':World}{g h:Nat}{y0 y1 y2 y3 y4 y5 y6 y7 v:Value}(hs:Hid (Below w2.heap.size w2 W)/\W.cell? ⟨g,0,none⟩=some v/\W.cell? ⟨h,0,none⟩=some y0/\W.cell? ⟨h,1,none⟩=some y1/\W.cell? ⟨h,2,none⟩=some y2/\W.cell? ⟨h,3,none⟩=some y3/\W.cell? ⟨h,4,none⟩=some y4/\W.cell? ⟨h,5,none⟩=some y5/\W.cell? ⟨h,6,none⟩=some y6/\W.cell? ⟨h,7,none⟩=some y7)(hg:Hid (g<w2.heap.size/\h<w2.heap.size))(hb:Below w2.heap.size W W'):
  Hid (Below w2.heap.size w2 W')/\W'.cell? ⟨g,0,none⟩=some v/\W'.cell? ⟨h,0,none⟩=some y0/\W'.cell? ⟨h,1,none⟩=some y1/\W'.cell? ⟨h,2,none⟩=some y2/\W'.cell? ⟨h,3,none⟩=some y3/\W'.cell? ⟨h,4,none⟩=some y4/\W'.cell? ⟨h,5,none⟩=some y5/\W'.cell? ⟨h,6,none⟩=some y6/\W'.cell? ⟨h,7,none⟩=some y7:=by
 obtain⟨z,z0,z1,z2,z3,z4,z5,z6,z7,z8⟩:=hs;have e:∀j,W'.cell? ⟨h,j,none⟩=W.cell? ⟨h,j,none⟩:=fun j=>hb.cell (p:=⟨h,j,none⟩) hg.out.2
 exact⟨hid (z.out.trans hb),(hb.cell (p:=⟨g,0,none⟩) hg.out.1).trans z0,(e _).trans z1,(e _).trans z2,(e _).trans z3,(e _).trans z4,(e _).trans z5,(e _).trans z6,(e _).trans z7,(e _).trans z8⟩
theorem z5E{w2 W:World}(o:Obj)(h:Hid (Below w2.heap.size w2 W)):Below w2.heap.size W (W.alloc o):=(Below.refl _ W).alloc h.out.size o
theorem Bq{w2 W W':World}(h:Hid (Below w2.heap.size w2 W))(hb:Below w2.heap.size W W'):Hid (Below w2.heap.size w2 W'):=hid (h.out.trans hb)
theorem Iy{w2 W W':World}{row:Option Nat}(h:Hid (Below w2.heap.size w2 W))(hg:W.grownBy W' row)(hr:∀g,row=some g->w2.heap.size<=g):Below w2.heap.size W W':=(Below.refl _ W).grown hg h.out.size hr
theorem z5F(g o j:Nat):(⟨g,o,none⟩:Addr).add j=⟨g,o+j,none⟩:=by unfold Addr.add;split<;>simp_all
theorem y4s{g o j n:Nat}(h:g<n):((⟨g,o,none⟩:Addr).add j).block<n:=by rw[z5F];exact h
theorem z5G{w2 w5:World}{M g5 n cap5:Nat}{xs:List Value}(h:w5.ownsRow (M+1) 73 10 (.slice (some ⟨g5,0,none⟩) n cap5) n xs)(hM:Hid (M=w2.heap.size)):∀g,Value.ownBlock (.slice (some ⟨g5,0,none⟩) n cap5)=some g->w2.heap.size<=g:=fun g e=>by
 have:=(h.lt g e).1;have:=hM.out;omega
theorem y4t{Wz w5 w6:World}{M g5 n cap5:Nat}{xs:List Value}{X:Obj}(hZ:Wz.heap.size=M+1)(hm:Wz.heap[M]? =some Zg)(h5:Wz.drew.grownBy w5 (Value.ownBlock (.slice none 0 0)))(h:w5.ownsRow (M+1) 73 10 (.slice (some ⟨g5,0,none⟩) n cap5) n xs)(h6:(w5.alloc X).grownBy w6 (Value.ownBlock (.slice (some ⟨g5,0,none⟩) n cap5))):w6.heap[M]? =some Zg:=by
 have s5:=h5.size;have e:Wz.drew.heap.size=M+1:=hZ;refine(h6.block M (by rw[World.size_alloc];omega) (fun e=>by have:=(h.lt M e.symm).1;omega)).trans ((Below.heap_alloc _ _ _ (by omega)).trans ((h5.block M (by omega) (fun e=>by cases e)).trans hm))
theorem y4u{Wz w5 w6:World}{M g5 n cap5:Nat}{xs:List Value}{X:Obj}(hZ:Wz.heap.size=M+1)(hm:Wz.heap[M]? =some Zg)(h5:(Wz.alloc X).drew.grownBy w5 (Value.ownBlock (.slice none 0 0)))(h:w5.ownsRow (M+1) 73 10 (.slice (some ⟨g5,0,none⟩) n cap5) n xs)(h6:w5.grownBy w6 (Value.ownBlock (.slice (some ⟨g5,0,none⟩) n cap5))):w6.heap[M]? =some Zg:=by
 have s5:(Wz.alloc X).heap.size<=w5.heap.size:=h5.size;rw[World.size_alloc]at s5;refine(h6.block M (by omega) (fun e=>by have:=(h.lt M e.symm).1;omega)).trans ((h5.block M (by show _<(Wz.alloc X).heap.size;rw[World.size_alloc];omega) (fun e=>by cases e)).trans ((Below.heap_alloc _ _ _ (by omega)).trans hm))
theorem y4v{w w2 w6:World}{M g6 cap6 n:Nat}{so:Option Addr}{rs:List Rr}{k a1 b1 c1 d1 p:Int}{T:ByteArray}{so1:Option Addr}{n1 cap1:Nat}{t:RT}{xs:List Value}(hM:M=w2.heap.size)(h:Qy w w.heap.size so n rs)(hb:Below w.heap.size w w2)(hw:Below w2.heap.size w2 w6)
  (ht:Qj w w.heap.size t (r8 k T a1 b1 c1 d1 so1 n1 cap1 p))(hn:n+1<=maxLen)(hl:xs.length=n*10)(hx:∀g o,so=some ⟨g,o,none⟩->∀i u,xs[i]? =some u->w.cell? ⟨g,o+i,none⟩=some u)
  (hown:w6.ownsRow (M+1) 73 10 (.slice (some ⟨g6,0,none⟩) (n+1) cap6) (n+1) (xs++[.string {data:=#[99,111,100,101,109,111,114,101]},.int .i64 k,.string T,.int .u64 a1,.int .u64 b1,.int .u64 c1,.int .u64 d1,.slice so1 n1 cap1,.int .i64 p,.int .i64 0]))(v:Value):
  Qy (w6.setCell ⟨M,0,none⟩ v) (w6.setCell ⟨M,0,none⟩ v).heap.size (some ⟨g6,0,none⟩) (n+1) (rs++[({data:=#[99,111,100,101,109,111,114,101]},t,0)])/\Below w2.heap.size w2 (w6.setCell ⟨M,0,none⟩ v):=by
 have hB:Below w2.heap.size w2 (w6.setCell ⟨M,0,none⟩ v):=hw.setCell (p:=⟨M,0,none⟩) (by show _<=M;omega) v;refine⟨?_,hB⟩;have hb7:Below w.heap.size w (w6.setCell ⟨M,0,none⟩ v):=hb.trans (hB.mono hb.size);have hg6:M+1<=g6/\g6<w6.heap.size:=hown.lt g6 rfl;have hown7:(w6.setCell ⟨M,0,none⟩ v).ownsRow (M+1) 73 10 (.slice (some ⟨g6,0,none⟩) (n+1) cap6) (n+1) (xs++[.string {data:=#[99,111,100,101,109,111,114,101]},.int .i64 k,.string T,.int .u64 a1,.int .u64 b1,.int .u64 c1,.int .u64 d1,.slice so1 n1 cap1,.int .i64 p,.int .i64 0]):=hown.kept (G.setR (G.refl w6 M)) (.inr (fun e=>by have e2:g6=M:=Option.some.inj e;omega));obtain⟨W7,hW7⟩:∃W7,W7=w6.setCell ⟨M,0,none⟩ v:=⟨_,rfl⟩;have hs7:W7.heap.size=w6.heap.size:=by rw[hW7,World.size_setCell]
 rw[<-hW7]at hb7 hown7 ⊢;have hR:∀o',(∀q u,([.string {data:=#[99,111,100,101,109,111,114,101]},.int .i64 k,.string T,.int .u64 a1,.int .u64 b1,.int .u64 c1,.int .u64 d1,.slice so1 n1 cap1,.int .i64 p,.int .i64 0]:List Value)[q]? =some u->W7.cell? ⟨g6,o'+q,none⟩=some u)->Rk W7 W7.heap.size g6 o' ({data:=#[99,111,100,101,109,111,114,101]},t,0):=fun o' hc=>
  ⟨k,T,a1,b1,c1,d1,so1,n1,cap1,p,Qj.upto hb7.size _ _ (ht.below hb7),hc 0 _ rfl,hc 1 _ rfl,hc 2 _ rfl,hc 3 _ rfl,hc 4 _ rfl,hc 5 _ rfl,hc 6 _ rfl,hc 7 _ rfl,hc 8 _ rfl,hc 9 _ rfl⟩
 cases rs with
 |nil=>
  have hn0:n=0:=h.1;subst hn0;have hx0:xs=[]:=List.eq_nil_of_length_eq_zero (by simpa using hl);subst hx0;refine⟨rfl,hn,fun j hj=>⟨g6,0,rfl,by omega,?_⟩⟩;have ej:j=0:=by simp at hj;omega
  subst ej;refine hR _ fun q u hq=> ?_
  have hc:=hown7.cells (g:=g6) rfl q u hq;simp only[Addr.add]at hc;by_cases h0:q=0
  ·subst h0;simpa using hc
  ·rw[if_neg h0]at hc
   rw[Nat.zero_mul,Nat.zero_add];rw[Nat.zero_add]at hc;exact hc
 |cons y r=>
  obtain⟨g,o,rfl,hg,_⟩:=h.2.2 0 (by simp);exact y4q h hl (hx g o rfl) hb7 hb7.size hn (by omega) hown7 hR
theorem y4w{rs:List Rr}{x:Rr}(h:RgZ rs)(h1:x.1.size<=9223372036854775807)(h2:RtZ x.2.1):RgZ (rs++[x]):=fun y hy=>by
 rcases List.mem_append.1 hy with h'|h'
 ·exact h y h'
 ·obtain rfl:=List.mem_singleton.1 h'
  exact⟨h1,h2⟩
theorem y4x{rs:List Rr}{x:Rr}(h:RgU rs)(h2:RtU x.2.1):RgU (rs++[x]):=fun y hy=>by
 rcases List.mem_append.1 hy with h'|h'
 ·exact h y h'
 ·obtain rfl:=List.mem_singleton.1 h'
  exact h2
structure PgR (rs:List Rr) (oso:Option Addr) (ol:Nat) (nso:Option Addr) (nl:Nat) (rso:Option Addr) (rl:Nat) (W:World):Prop where
 ck:ckR rs=none
 lo:ol=(pgG rs).2.length
 ln:nl=rs.length
 lr:rl=rs.length
 l2:(pgG rs).2.length<=200
 l6:rs.length<=64
 o:∀i (hi:i<(pgG rs).2.length),∃g so cap,oso=some ⟨g,0,none⟩/\g<W.heap.size/\W.cell? ⟨g,i*7,none⟩=some (.int .i64 (pgG rs).2[i].1)/\W.cell? ⟨g,i*7+1,none⟩=some (.string (pgG rs).2[i].2.1)/\W.cell? ⟨g,i*7+6,none⟩=some (.slice so (pgG rs).2[i].2.2.2.length cap)
 n:∀i (hi:i<rs.length),∃g,nso=some ⟨g,0,none⟩/\g<W.heap.size/\W.cell? ⟨g,i,none⟩=some (.string rs[i].1)
 r:∀i (hi:i<rs.length),∃g x,rso=some ⟨g,0,none⟩/\g<W.heap.size/\(pgG rs).1[i]? =some x/\W.cell? ⟨g,i,none⟩=some (.int .i64 x)
theorem PgR.below{rs:List Rr}{oso:Option Addr}{ol:Nat}{nso:Option Addr}{nl:Nat}{rso:Option Addr}{rl:Nat}{W W':World}(h:PgR rs oso ol nso nl rso rl W)(hb:Below W.heap.size W W'):PgR rs oso ol nso nl rso rl W':=by
 refine⟨h.ck,h.lo,h.ln,h.lr,h.l2,h.l6,fun i hi=> ?_,fun i hi=> ?_,fun i hi=> ?_⟩
 ·obtain⟨g,so,cap,h1,h2,h3,h4,h5⟩:=h.o i hi
  exact⟨g,so,cap,h1,Nat.lt_of_lt_of_le h2 hb.size,(hb.cell (p:=⟨g,i*7,none⟩) h2).trans h3,(hb.cell (p:=⟨g,i*7+1,none⟩) h2).trans h4,(hb.cell (p:=⟨g,i*7+6,none⟩) h2).trans h5⟩
 ·obtain⟨g,h1,h2,h3⟩:=h.n i hi
  exact⟨g,h1,Nat.lt_of_lt_of_le h2 hb.size,(hb.cell (p:=⟨g,i,none⟩) h2).trans h3⟩
 ·obtain⟨g,x,h1,h2,h3,h4⟩:=h.r i hi
  exact⟨g,x,h1,Nat.lt_of_lt_of_le h2 hb.size,h3,(hb.cell (p:=⟨g,i,none⟩) h2).trans h4⟩
def PgS(rs:List Rr)(W:World)(e:Ending)(w':World):Prop:=∃oso ol oc nso nl nc rso rl rc ev,e=.returned (.tuple #[.agg #[.slice oso ol oc,.slice nso nl nc,.slice rso rl rc],ev])/\Hid (Below W.heap.size W w')/\((∃tt uu,ev=.iface tt uu)∨(ev=.nilIface/\Hid (PgR rs oso ol nso nl rso rl w')))
theorem z5H(so:Option Addr)(n cap:Nat)(rs:List Rr)(X:Option (Int ⊕ (Int×Int)))(B:Nat)(fp:Addr)(w:World)(hX:CkX rs X)(hP:X=none->PrG rs)(hC:CkC so n cap rs X w)(hz:RgZ rs)(hu:RgU rs)(h:Qy w B so n rs)(hB:B<=w.heap.size)(hT:TabIs w)(hF:w.cell? ⟨1,0,none⟩=some (.iface 379 (.pointer (some fp))))(hPw:Vw w)(W:World)(hW:Below w.heap.size w W):
  Calls prog 11 #[.agg #[.slice so n cap]] W (PgS rs W):=by
 refine(z5x so n cap rs X B fp w hX hP hC hz hu h hB hT hF hPw W hW).mono fun e w' he=> ?_
 obtain⟨hb,⟨_,tt,uu,rfl⟩|⟨_,_,rfl⟩|⟨hE,hl,Q,v,vn,vr,xs,B2,rfl,hB2,ho,hops,hq,hn,hr⟩⟩:=he
 ·exact⟨_,_,_,_,_,_,_,_,_,_,rfl,hb,.inl ⟨tt,uu,rfl⟩⟩
 ·exact⟨_,_,_,_,_,_,_,_,_,_,rfl,hb,.inl ⟨_,_,rfl⟩⟩
 ·have e0:soZ rs X=none:=Classical.not_not.1 hE
  obtain rfl:X=none:=by
   cases X with
   |none=>rfl
   |some x=>unfold soZ at e0;cases e0
  obtain⟨hok,hck,_⟩:=hX;have h64:=(Gb hok).2;have hlr:(pgG rs).1.length=rs.length:=(Al (fun T=>fdI T (nmL rs)) rs []).2.1.1;obtain⟨oso,oc,ev⟩:=Uv ho;obtain⟨nso,nc,en⟩:=Uv hn;obtain⟨rso,rc,er⟩:=Uv hr;refine⟨oso,_,oc,nso,_,nc,rso,_,rc,_,by rw[ev,en,er];rfl,hb,.inr ⟨rfl,hid ⟨hck,rfl,rfl,rfl,hl,h64,fun i hi=> ?_,fun i hi=> ?_,fun i hi=> ?_⟩⟩⟩
  ·obtain⟨g,c,e1,_,hg,hc⟩:=Bz ho (Nat.lt_of_le_of_lt (Nat.zero_le i) hi)
   rw[ev]at e1;injection e1 with e1 _ _
   obtain⟨cs,⟨so3,cap3,hcs,_⟩,hx⟩:=hops i hi;subst hcs;exact⟨g,so3,cap3,e1,hg,hc (i*7) _ (hx 0 _ rfl),hc (i*7+1) _ (hx 1 _ rfl),hc (i*7+6) _ (hx 6 _ rfl)⟩
  ·obtain⟨g,c,e1,_,hg,hc⟩:=Bz hn (Nat.lt_of_le_of_lt (Nat.zero_le i) hi)
   rw[en]at e1;injection e1 with e1 _ _
   exact⟨g,e1,hg,hc i _ (by unfold nS;rw[List.getElem?_map,List.getElem?_eq_getElem hi];rfl)⟩
  ·obtain⟨g,c,e1,_,hg,hc⟩:=Bz hr (Nat.lt_of_le_of_lt (Nat.zero_le i) hi)
   rw[er]at e1;injection e1 with e1 _ _
   have hi':i<(pgG rs).1.length:=by omega
   refine⟨g,(pgG rs).1[i],e1,hg,List.getElem?_eq_getElem hi',hc i _ ?_⟩;show(nI (pgG rs).1)[i]? =_;unfold nI;rw[List.getElem?_map,List.getElem?_eq_getElem hi'];rfl
section
open Go.ChangeShapes Go.WideShapes Go.ChangeAt
theorem Tryz.bytesRule:Tryz.prog.bytesOf 73=112:=by kernel_rfl
section
variable {H:Type} {enc:TypeId×Value->H} {W:World} {sp:Nat->Bool} {hl:Bool}
theorem y4y{e t:TypeId}{y:DataW H}{elems rest:List (DataW H)}(hu:Tryz.prog.underlying t=some (.slice e))(hy:y=.slice elems rest)(hw:∀n∈y.weights prog t,n<=reachBytes):elems.length*Tryz.prog.bytesOf e<=reachBytes:=by
 subst hy;refine Nat.le_trans (Nat.mul_le_mul_right _ (Nat.le_add_right _ rest.length)) (hw _ ?_);simp only[DataW.weights,hu,List.mem_cons,List.mem_append,true_or]
theorem y4z{t:TypeId}{fs:Array Field}{l:List (String×TypeId×Nat)}(hu:Tryz.prog.underlying t=some (.struct fs))(hl:fs.toList.map (fun f=>(f.name,f.type,f.offset))=l){xs:List (DataW H×List MemPlace)}{y:DataW H}(hy:y=.agg (xs.map (·.1)))(hw:∀n∈y.weights prog t,n<=reachBytes){i:Nat}{q:String×TypeId×Nat}{x:DataW H×List MemPlace}(hi:l[i]? =some q)(hx:xs[i]? =some x):∀n∈x.1.weights prog q.2.1,n<=reachBytes:=by
 subst hy;intro n hn;refine hw n ?_;simp only[DataW.weights,hu];refine DataW.weights_mem_each (j:=i) (t:=q.2.1) (d:=x.1) ?_ (by rw[List.getElem?_map,hx];rfl) n hn;have h2:fs.toList.map (·.type)=l.map (fun x=>x.2.1):=by rw[<-hl,List.map_map];rfl
 rw[h2,List.getElem?_map,hi];rfl
theorem y4A{so:Option Addr}{n cap:Nat}{d:DataW H}{ps:List MemPlace}(h:DataW.Trod enc prog W 0 sp hl 24 (.agg #[.slice so n cap]) d ps)(hw:∀m∈d.weights prog 24,m<=reachBytes):n*112<=140737488351232:=by
 obtain⟨fuel,hf⟩:=h;obtain⟨xs,m,rfl,hx,hlen,hxs,hf⟩:=DataW.trod_struct Tryz.structGram hf;rw[Hv Tryz.fieldsGram]at hxs
 match xs,hxs with
 |[y0],_=>
 have hd:d=.agg ([y0].map (·.1)):=congrArg Prod.fst hx;have w0:=y4z Tryz.structGram Tryz.fieldsGram hd hw (i:=0) rfl (x:=y0) rfl;obtain⟨f0,g0,t0,o0⟩:=Jc Tryz.fieldsGram 0 _ rfl;have r0:=hf 0 f0 g0;simp only[Value.cells,t0,o0,Tryz.cellsRules,List.drop_zero,List.take_succ_cons,List.take_zero,List.getElem?_cons_zero]at r0;rcases DataW.trod_slice Tryz.sliceRules r0 with⟨e6,_⟩|⟨ad,len,cap',elems,rest,m2,hm2,e6,ex,_,hlc,hcm,hel,hev,_⟩
 ·simp only[List.cons.injEq,and_true,Value.slice.injEq]at e6
  obtain⟨rfl,rfl,rfl⟩:=e6;omega
 ·simp only[List.cons.injEq,and_true,Value.slice.injEq]at e6
  obtain⟨rfl,rfl,rfl⟩:=e6;have u1:=y4y Tryz.sliceRules (by rw[ex]) w0;rw[List.length_map,hel,Tryz.bytesRule]at u1;exact u1
end
end
open Go.ChangeShapes Go.WideShapes
theorem Tryz.et:Tryz.prog.globalNamed "errors.errorType"=some 0:=by kernel_rfl
theorem Tryz.rt:(Tryz.prog.cutTypes.find? (·.1 == "internal/reflectlite.rtype")).map (·.2)=some 206:=by kernel_rfl
theorem Tryz.oneRow:((List.range 410).filter fun t=>Tryz.prog.rowNamed t [101,114,114,111,114])=[33]:=by kernel_rfl
theorem Tryz.nTypes:Tryz.prog.types.size=410:=by kernel_rfl
theorem y4B{W:World}{l:List (String×DataW Unit)}(h:handlesMet prog l W)(hm:("errors.errorType",Rows.laid_errors_errorType)∈l):Xz W:=by
 obtain⟨name,u,ty,e1,e2,e3,e4,e5⟩:=h _ hm;have en:name=[101,114,114,111,114]:=(Option.some.inj e1).symm;subst en;obtain rfl:=Option.some.inj (Tryz.rt.symm.trans e2);have hm:ty∈(List.range 410).filter fun t=>Tryz.prog.rowNamed t [101,114,114,111,114]:=List.mem_filter.2 ⟨List.mem_range.2 (by rw[<-Tryz.nTypes];exact e3),e4⟩
 rw[Tryz.oneRow]at hm;obtain rfl:=List.mem_singleton.1 hm;have hh:typeHandle prog 33=.pointer (some ⟨6,33,none⟩):=by kernel_rfl
 rw[hh]at e5;have:=World.var?_cell Tryz.et e5 0;unfold Xz;simpa using this
theorem Tryz.gT:Tryz.prog.globalNamed "math/bits.deBruijn64tab"=some 5:=by kernel_rfl
theorem Tryz.gTType:(Tryz.prog.globals[5]?).map (·.type)=some 368:=by kernel_rfl
theorem Tryz.cellsTab:Tryz.prog.cellsOf 368=64:=by kernel_rfl
theorem Tryz.cellsU8:Tryz.prog.cellsOf 5=1:=by kernel_rfl
theorem y4C{W:World}{rest:List (String×DataW Unit)}(h:laidMet prog (("math/bits.deBruijn64tab",Rows.laid_math_bits_deBruijn64tab)::rest) W):TabIs W:=by
 have hT:Lib.TabIs prog W "math/bits.deBruijn64tab" .u8 (Lib.deBruijn64tab.map fun n:Nat=>(n:Int)):=Lib.tabIs_of_head (rest:=rest) Tryz.gT Tryz.gTType Tryz.underlying368 Tryz.underlying5 Tryz.cellsU8 Tryz.cellsTab h;intro i hi;have:=hT.cell Tryz.gT i (by simp[Lib.deBruijn64tab];omega);rw[this];congr 2;simp only[List.getD,List.getElem?_map];cases Lib.deBruijn64tab[i]? <;>rfl
theorem Tryz.gFo:Tryz.prog.globalNamed "muntin/sound.errFound"=some 1:=by kernel_rfl
theorem Tryz.gFoType:(Tryz.prog.globals[1]?).map (·.type)=some 33:=by kernel_rfl
theorem Tryz.star8:"*"++"errors.errorString"="*errors.errorString":=by decide
theorem Tryz.rowErrStr(u:TypeId)(h:Tryz.prog.typeName? 3 u=some "*errors.errorString"):u=379:=
 typeName_ptr_named (nm:="errors.errorString") (by rw[Tryz.star8];kernel_rfl) (by kernel_rfl) (by decide) u (by rw[Tryz.star8];exact h)
theorem Tryz.cellsErrStr:Tryz.prog.cellsOf 398=1:=by kernel_rfl
theorem Tryz.cellsStr8:Tryz.prog.cellsOf 9=1:=by kernel_rfl
theorem Tryz.gPw:Tryz.prog.globalNamed "internal/strconv.uint64pow10"=some 3:=by kernel_rfl
theorem Tryz.gPwType:(Tryz.prog.globals[3]?).map (·.type)=some 346:=by kernel_rfl
theorem Tryz.cellsPow:Tryz.prog.cellsOf 346=20:=by kernel_rfl
theorem y4D{W:World}(h:laidMetH prog [("math/bits.deBruijn32tab",Rows.laid_math_bits_deBruijn32tab),("math/bits.deBruijn64tab",Rows.laid_math_bits_deBruijn64tab),("internal/strconv.uint64pow10",Rows.laid_internal_strconv_uint64pow10),("errors.errorType",Rows.laid_errors_errorType),("muntin/sound.errFound",Rows.laid_muntin_sound_errFound)] W):Xz W/\TabIs W/\Vw W/\∃fp:Addr,W.cell? ⟨1,0,none⟩=some (.iface 379 (.pointer (some fp))):=by
 have h':laidMet prog [("math/bits.deBruijn32tab",Rows.laid_math_bits_deBruijn32tab),("math/bits.deBruijn64tab",Rows.laid_math_bits_deBruijn64tab),("internal/strconv.uint64pow10",Rows.laid_internal_strconv_uint64pow10),("muntin/sound.errFound",Rows.laid_muntin_sound_errFound)] W/\handlesMet prog [("errors.errorType",Rows.laid_errors_errorType)] W:=h;have t1:=laidMet.tail h'.1;have t2:=laidMet.tail t1;refine⟨y4B h'.2 (List.mem_singleton.2 rfl),y4C (rest:=[("internal/strconv.uint64pow10",Rows.laid_internal_strconv_uint64pow10),("muntin/sound.errFound",Rows.laid_muntin_sound_errFound)]) t1,?_,?_⟩
 ·exact Lib.tabIs_of_head (rest:=[("muntin/sound.errFound",Rows.laid_muntin_sound_errFound)]) Tryz.gPw Tryz.gPwType Tryz.underlying346 Tryz.underlying66 Tryz.cellsU Tryz.cellsPow t2
 ·obtain⟨a,s,hv,_⟩:=laid_sentinel (nm:="*errors.errorString") (text:=[102,111,117,110,100]) (laidMet.tail t2) Tryz.gFo Tryz.gFoType Tryz.underlying33 Tryz.rowErrStr Tryz.underlying379 Tryz.underlying398 rfl rfl Tryz.underlying9 Tryz.cellsErrStr Tryz.cellsStr8
  exact⟨a,by simpa using World.var?_cell Tryz.gFo hv 0⟩
theorem y4K:True:=trivial
end Go.Proofs.YtlogolpcipiceaaGreatDoor
