/- Lemmas for the last text. Conditions: those that each names. -/
import Derived.Test.YtgnkkgcgbeianaaGreatDoorVO5
import Derived.Shelf.Lay
import Derived.Shelf.Sort.Plain
import Derived.Shelf.Slices.CompactI
import Derived.Shelf.Slices.In.SortNone
import Derived.Sort.OwnSortedInts
import Derived.Ground.NamesProg
import Derived.Ground.Names2Prog
import Derived.Test.YtgnkkgcgbeianaaGreatDoorVS1ToO4
import Derived.Laws.EntriesVeiled
set_option linter.unusedVariables false
set_option maxRecDepth 100000
set_option maxHeartbeats 8000000
namespace Go.Proofs.YtgnkkgcgbeianaaGreatDoor
open Go.Proofs.Tryz
end Go.Proofs.YtgnkkgcgbeianaaGreatDoor
namespace Go.Proofs
open Go.Shelf
shelf_lay Lays.n189 Nm 189 at Tryz as Tryz.lays189
shelf_lay Lays2.n20 Nm2 20 at Tryz as Tryz.lays2_20
end Go.Proofs
namespace Go.Proofs.YtgnkkgcgbeianaaGreatDoor
open Go.Proofs.Tryz
open Go.RowKit Go.Shelf Go.Sort
variable {W w:World} {k n s:Nat} {v:Value} {cur:Array Value} {xs:List Value} {T:ByteArray}
theorem y2t(blk h o:Nat)(zs:List Int)(w:World)(r:Holds (Value.int .i64) w blk h zs.toArray)(t:blk<w.heap.size)(A:zs.length<4611686018427387904):
 Calls prog 117 #[.slice (some ⟨blk,h,none⟩) zs.length o] w fun e w'=>
  e=.returned (.tuple #[])/\∃n os,w'=grow (putRow (Value.int .i64) (Sort.ahead w n) blk h (zs.mergeSort fun x y=>decide (x<=y)).toArray) os:=Any.slices_Sort_int Tryz.lays189 blk h o zs w r t A
theorem y2u(p:Option Addr)(h:Nat)(w:World):
 Calls prog 117 #[.slice p 0 h] w fun e w'=>e=.returned (.tuple #[])/\w'=w:=Any.slices_Sort_int_none Tryz.lays189 p h w
theorem y2v(blk h o:Nat)(zs:List Int)(w:World)(r:Holds (Value.int .i64) w blk h zs.toArray)(t:zs.length<=9223372036854775807)(y:zs.length<=o):
 Calls prog 118 #[.slice (some ⟨blk,h,none⟩) zs.length o] w fun e w'=>e=.returned (.slice (some ⟨blk,h,none⟩) (Lib.compact zs).length o)/\∃q,w'=putRow (Value.int .i64) (Sort.ahead w q) blk h (Lib.compact zs++List.replicate (zs.length-(Lib.compact zs).length) 0).toArray:=Any.slices_Compact_int Tryz.lays2_20 blk h o zs w r t y
theorem y2w(a:Option Addr)(h:Nat)(w:World):
 Calls prog 118 #[.slice a 0 h] w fun e w'=>e=.returned (.slice a 0 h)/\w'=w:=Any.slices_Compact_int_empty Tryz.lays2_20 a h w
theorem z3Q(zs:List Int):(Lib.compact zs).length<=zs.length:=by
 unfold Lib.compact Lib.compactUpTo;rw[List.length_map];exact Nat.le_trans (List.length_filter_le _ _) (by simp)
def srt(zs:List Int):List Int:=zs.mergeSort fun x y=>decide (x<=y)
theorem Av(zs:List Int):(srt zs).length=zs.length:=List.length_mergeSort zs
theorem y2x{zs:List Int}(h:W.ownsRow s 3 1 v zs.length (zs.map (Value.int .i64)))(V:zs.length<=1048576):
  Calls prog 117 #[v] W fun e w'=>e=.returned (.tuple #[])/\w'.ownsRow s 3 1 v zs.length ((srt zs).map (Value.int .i64))/\W.grownBy w' v.ownBlock:=by
 rcases h.2 with⟨rfl,y⟩|⟨g,A,cur,rfl,D,r,E,G,I,U⟩
 ·refine(y2u none 0 W).mono fun e w' o=>⟨o.1,?_,?_⟩
  ·rw[o.2]
   cases zs with
   |nil=>rw[show srt []=[]from List.length_eq_zero_iff.1 (Av [])];exact h
   |cons _ _=>simp at y
  ·rw[o.2]
   exact⟨rfl,rfl,rfl,Nat.le_refl _,fun _ _ _=>rfl⟩
 ·refine(y2t g 0 A zs W (holds_of_blockI r (by rw[<-U,Nat.mul_one])) (Array.getElem?_eq_some_iff.1 r).1 (by omega)).mono fun e w' o=> ?_
  obtain⟨o,n,os,t⟩:=o;refine⟨o,?_,?_⟩
  ·rw[t]
   exact ownsRow_sortedI (Av zs) D r E G I
  ·rw[t]
   exact grownBy_sortedI _
theorem y2y{zs:List Int}(h:W.ownsRow s 3 1 v zs.length (zs.map (Value.int .i64)))(hz:zs.length<=1048576):
  Calls prog 118 #[v] W fun e w'=>∃t,e=.returned t/\w'.ownsRow s 3 1 t (Lib.compact zs).length ((Lib.compact zs).map (Value.int .i64))/\W.grownBy w' v.ownBlock:=by
 rcases h.2 with⟨rfl,G⟩|⟨g,y,cur,rfl,I,A,U,V,D,Y⟩
 ·refine(y2w none 0 W).mono fun e w' o=>⟨_,o.1,?_,?_⟩
  ·rw[o.2]
   cases zs with
   |nil=>exact h
   |cons _ _=>simp at G
  ·rw[o.2]
   exact⟨rfl,rfl,rfl,Nat.le_refl _,fun _ _ _=>rfl⟩
 ·refine(y2v g 0 y zs W (holds_of_blockI A (by rw[<-Y,Nat.mul_one])) (by omega) U).mono fun e w' o=> ?_
  obtain⟨o,q,Z⟩:=o;have hc:=z3Q zs;have hl:(Lib.compact zs++List.replicate (zs.length-(Lib.compact zs).length) 0).length=zs.length:=by
   rw[List.length_append,List.length_replicate];omega
  have E:w'=grow (putRow (Value.int .i64) (Sort.ahead W q) g 0 (Lib.compact zs++List.replicate (zs.length-(Lib.compact zs).length) 0).toArray) #[]:=by rw[grow_empty];exact Z
  refine⟨_,o,⟨by simp,.inr ⟨g,y,_,rfl,I,by rw[E];exact heap_sortedI _ A,by omega,V,by simp[putCells,D],?_⟩⟩,by rw[E];exact grownBy_sortedI _⟩;have r:=take_putCellsI cur (Lib.compact zs++List.replicate (zs.length-(Lib.compact zs).length) 0) (by rw[hl,D];omega);rw[hl]at r;obtain⟨X,hX⟩:∃X,X=(putCells (Value.int .i64) 0 (Lib.compact zs++List.replicate (zs.length-(Lib.compact zs).length) 0).toArray cur).toList:=⟨_,rfl⟩;rw[<-hX]at r ⊢;have e:X.take (Lib.compact zs).length=(X.take zs.length).take (Lib.compact zs).length:=by rw[List.take_take,Nat.min_eq_left hc]
  rw[Nat.mul_one,e,r,List.map_append,List.take_append_of_le_length (by simp),List.take_of_length_le (by simp)]
open Go.Maps
attribute [local go_sem] Oper.semAt_some
theorem Tryz.infoInt:(Tryz.prog.info? 3).map (fun i=>(i.zero,i.size,i.bytes))=some (some (.int .i64 0),1,8):=by kernel_rfl
def ixV(l:List ByteArray)(s:ByteArray):Nat:=if inN s l then ixN s l else 0
def ixL(l:List ByteArray)(q:List (ByteArray×Int)):List Int:=q.map fun x=>(ixV l x.1:Int)
theorem Qj{g:Nat}{t:TypeId}(h:w.heap[g]? =some (.cells cur t))(j:Nat)(v:Value)(o:cur[j]? =some v):w.cell? ⟨g,j,none⟩=some v/\w.frozen? ⟨g,j,none⟩=false:=by
 constructor
 ·simp[World.cell?,h,o]
 ·simp[World.frozen?,h]
theorem Qk{g:Nat}{t:TypeId}(h:w.heap[g]? =some (.cells cur t))(j:Nat)(v:Value):(w.setCell ⟨g,j,none⟩ v).heap[g]? =some (.cells (cur.setIfInBounds j v) t):=by
 obtain⟨o,r⟩:=Array.getElem?_eq_some_iff.1 h;show(w.heap.modify g _)[g]? =_;rw[Array.getElem?_eq_getElem (by rw[Array.size_modify];exact o),Array.getElem_modify_self,r];rfl
def usR(l:List ByteArray)(x:Rr):List Int:=Lib.compact (srt (ixL l (rfT x.2.1)))
structure Uw (w:World) (ub n:Nat) (vs:List Value) (us:List (List Int)) (W:World):Prop where
 blk:W.heap[ub]? =some (.cells (vs++List.replicate (n-vs.length) (Value.slice none 0 0)).toArray 24)
 len:vs.length=us.length
 row:∀i (h1:i<vs.length) (h2:i<us.length),W.ownsRow w.heap.size 3 1 vs[i] us[i].length (us[i].map (Value.int .i64))
 be:Below w.heap.size w W
 lo:w.heap.size<=ub
theorem y2z{α:Type}(vs:List α)(n:Nat)(z:α)(h:vs.length<n):(vs++List.replicate (n-vs.length) z).toArray[vs.length]? =some z:=by
 rw[List.getElem?_toArray,List.getElem?_append_right L0q,Nat.sub_self,List.getElem?_replicate,if_pos (by omega)]
theorem y2A{α:Type}(vs:List α)(n:Nat)(z v:α)(h:vs.length<n):(vs++List.replicate (n-vs.length) z).toArray.setIfInBounds vs.length v=((vs++[v])++List.replicate (n-(vs++[v]).length) z).toArray:=by
 have e:n-vs.length=(n-(vs++[v]).length)+1:=by simp;omega
 rw[e,List.replicate_succ];simp
theorem y2B{W':World}{S:Nat}(h:W.ownsRow s 3 1 v k xs)(t:Below S W W')(y:S=W.heap.size):W'.ownsRow s 3 1 v k xs:=by
 refine⟨h.1,?_⟩;rcases h.2 with o|⟨g,A,cur,o,D,r,E⟩
 ·exact .inl o
 ·exact .inr ⟨g,A,cur,o,D,(t.block g (by rw[y];exact(Array.getElem?_eq_some_iff.1 r).1)).trans r,E⟩
theorem z3R{o j:Nat}{u:Value}(h:W.ownsRow s 3 1 v k xs)(y:W.heap[o]? =some (.cells cur 24)):(W.setCell ⟨o,j,none⟩ u).ownsRow s 3 1 v k xs:=by
 refine⟨h.1,?_⟩;rcases h.2 with r|⟨g,A,D,r,E,t,G⟩
 ·exact .inl r
 ·refine .inr ⟨g,A,D,r,E,(Below.heap_setCell _ _ _ g (fun e=> ?_)).trans t,G⟩
  have e:g=o:=e;rw[e,y]at t;cases t
theorem z3S{r:Nat}(h:W.ownsRow s 3 1 v k xs)(A:r<=s):W.ownsRow r 3 1 v k xs:=by
 refine⟨h.1,?_⟩;rcases h.2 with o|⟨g,t,cur,o,D,y⟩
 ·exact .inl o
 ·exact .inr ⟨g,t,cur,o,by omega,y⟩
theorem Uw.below{o:Nat}{vs:List Value}{us:List (List Int)}{W':World}(h:Uw w o n vs us W)(r:Below W.heap.size W W'):Uw w o n vs us W':=
 ⟨(r.block o (Array.getElem?_eq_some_iff.1 h.blk).1).trans h.blk,h.len,fun i t y=>y2B (h.row i t y) r rfl,h.be.trans (r.mono h.be.size),h.lo⟩
theorem Uw.step{w:World}{o n:Nat}{vs:List Value}{us:List (List Int)}{W:World}{v:Value}{u:List Int}(h:Uw w o n vs us W)(t:vs.length<n)(y:W.ownsRow w.heap.size 3 1 v u.length (u.map (Value.int .i64))):Uw w o n (vs++[v]) (us++[u]) (W.setCell ⟨o,vs.length,none⟩ v):=by
 refine⟨by rw[Qk h.blk,y2A vs n _ v t],by simp[h.len],fun i A G=> ?_,h.be.setCell (p:=⟨o,vs.length,none⟩) h.lo v,h.lo⟩;by_cases hi:i<vs.length
 ·have r:i<us.length:=by rw[<-h.len];exact hi
  rw[List.getElem_append_left hi,List.getElem_append_left r];exact z3R (h.row i hi r) h.blk
 ·have D:i=vs.length:=by simp at A;omega
  subst D;have E:vs.length=us.length:=h.len;rw[List.getElem_append_right (by omega)];have:(us++[u])[vs.length]=u:=by rw[List.getElem_append_right (by omega)];simp[E]
  rw[this];simp only[Nat.sub_self,List.getElem_cons_zero];exact z3R y h.blk
theorem Tryz.infoInts:(Tryz.prog.info? 24).map (fun i=>(i.zero,i.size,i.bytes))=some (some (.slice none 0 0),1,24):=by kernel_rfl
theorem z3T(z:Value)(h:z.cells=#[z])(k:Nat):madeCells z.cells k=(List.replicate k z).toArray:=by
 rw[h];unfold madeCells;apply Array.ext
 ·simp
 ·intro i o r
  simp[Nat.mod_one]
theorem y2C(n:Nat)(A:n<=1048576)(W:World):(Instr.makeSlice 69 (.int .i64 n) (.int .i64 n)).run prog W=.ok (.slice (some ⟨W.heap.size,0,none⟩) n n) (W.alloc (.cells (List.replicate n (Value.slice none 0 0)).toArray 24)):=by
 obtain⟨h,o,r,t,y⟩:=info_parts Tryz.infoInts;rw[run_make W 69 24 h (.slice none 0 0) Tryz.underlying69 o r .i64 .i64 n n (by omega) (by omega) (by rw[y];omega) (by omega),t,z3T _ rfl];simp
inductive Rch (us:List (List Int)) (a:Nat):Nat->Prop where
 |refl:Rch us a a
 |step {b c:Nat}:Rch us a b->(c:Int)∈us.getD b []->Rch us a c
theorem Rch.trans{us:List (List Int)}{a b c:Nat}(h:Rch us a b)(k:Rch us b c):Rch us a c:=by
 induction k with
 |refl=>exact h
 |step _ hm ih=>exact ih.step hm
def unm(sn:List Bool):Nat:=(sn.filter (· == false)).length
theorem z3U:∀(o:List Bool) (p:Nat),o[p]? =some false->unm (o.set p true)<unm o
 |[],p,h=>by simp at h
 |b::r,0,h=>by
  obtain rfl:b=false:=by simpa using h
  simp[unm]
 |b::r,p+1,h=>by
  have t:=z3U r p (by simpa using h);unfold unm at t ⊢;rw[List.set_cons_succ,List.filter_cons,List.filter_cons];split
  ·simp only[List.length_cons];omega
  ·exact t
theorem z3V:∀(a b:List Bool),b.length=a.length->(∀i:Nat,a[i]? =some true->b[i]? =some true)->unm b<=unm a
 |[],[],_,_=>Nat.le_refl _
 |[],_::_,h,_=>by simp at h
 |_::_,[],h,_=>by simp at h
 |x::r,y::q,h,hm=>by
  have o:=z3V r q (by simpa using h) (fun i t=>by have:=hm (i+1) (by simpa using t);simpa using this);have A:=hm 0;unfold unm at o ⊢;rw[List.filter_cons,List.filter_cons];cases x<;>cases y<;>simp_all;omega
def Hb(W:World)(B:Nat)(rv:Value)(u:List Int):Prop:=∃so cap,rv=.slice so u.length cap/\u.length<=1048576/\∀j (hj:j<u.length),∃g o,so=some ⟨g,o,none⟩/\g<B/\W.cell? ⟨g,o+j,none⟩=some (.int .i64 u[j])
def UsM(W:World)(B:Nat)(uv:Value)(us:List (List Int)):Prop:=∃so cap,uv=.slice so us.length cap/\us.length<=1048576/\∀i (hi:i<us.length),∃g o rv,so=some ⟨g,o,none⟩/\g<B/\W.cell? ⟨g,o+i,none⟩=some rv/\Hb W B rv us[i]
theorem y2D{a b:Nat}{x y:Array Value}{t u:TypeId}(h:W.heap[a]? =some (.cells x t))(k:W.heap[b]? =some (.cells y u))(o:t≠u):a≠b:=fun e=>by
 subst e;rw[h]at k;cases k;exact o rfl
theorem z3W{sb:Nat}{o:List Bool}(h:W.heap[sb]? =some (.cells (o.map Value.bool).toArray 4)){p:Nat}{b:Bool}(r:o[p]? =some b):W.cell? ⟨sb,p,none⟩=some (.bool b)/\W.frozen? ⟨sb,p,none⟩=false:=Qj h p _ (by simp[r])
theorem Aw(L:List Int):(srt L).Perm L:=List.mergeSort_perm L _
theorem Tryz.infoBool:(Tryz.prog.info? 4).map (fun i=>(i.zero,i.size,i.bytes))=some (some (.bool false),1,1):=by kernel_rfl
theorem y2E(n:Nat)(A:n<=1048576)(W:World):(Instr.makeSlice 220 (.int .i64 n) (.int .i64 n)).run prog W=.ok (.slice (some ⟨W.heap.size,0,none⟩) n n) (W.alloc (.cells (Array.replicate n (Value.bool false)) 4)):=by
 obtain⟨h,o,r,t,y⟩:=info_parts Tryz.infoBool;rw[run_make W 220 4 h (.bool false) Tryz.underlying220 o r .i64 .i64 n n (by omega) (by omega) (by rw[y];omega) (by omega),t,z3T _ rfl];simp
mutual
def Tq:RT->Nd->Prop
 | .mk k T a b c d s _,.mk kd T' C s' _=>k=(kd:Int)/\T'=T/\a=(wd C 0:Nat)/\b=(wd C 1:Nat)/\c=(wd C 2:Nat)/\d=(wd C 3:Nat)/\TqL s s'
def TqL:List RT->List Nd->Prop
 |[],[]=>True
 |t::r,n::q=>Tq t n/\TqL r q
 |_,_=>False
end
theorem TqL.len:∀{s:List RT} {q:List Nd},TqL s q->Gk q=Qb s/\q.isEmpty=s.isEmpty
 |[],[],_=>⟨rfl,rfl⟩
 |[],_::_,h=>by simp[TqL]at h
 |_::_,[],h=>by simp[TqL]at h
 |t::r,n::q,h=>by
  rw[TqL]at h;exact⟨by rw[Gk,Qb,h.2.len.1],rfl⟩
mutual
theorem z3X{w:World}{B s0:Nat}(E:B<=s0):∀(t:RT) (n:Nd) (A:List Value),Tq t n->Qv w B t A->NdV s0 w n A
 | .mk k T a b c d s p,.mk kd T' C s' pn,A,h,y=>by
   rw[Tq]at h;obtain⟨rfl,rfl,rfl,rfl,rfl,rfl,r⟩:=h;rw[Qv]at y;obtain⟨G,I,rfl,y⟩:=y;rw[NdV];refine⟨G,I,p,by rw[r.len.1],?_⟩;rcases y with D|⟨D,g,o,rfl,Y,U,V⟩
   ·exact .inl (by rw[r.len.2];exact D)
   ·exact .inr ⟨by rw[r.len.2];exact D,g,o,rfl,by omega,by rw[r.len.1];exact U,z3Y E s s' g o r V⟩
theorem z3Y{w:World}{B s0:Nat}(y:B<=s0):∀(s:List RT) (q:List Nd) (g o:Nat),TqL s q->Zx w B g o s->Yk s0 w g o q
 |[],[],g,o,_,_=>by rw[Yk];trivial
 |[],_::_,_,_,h,_=>by simp[TqL]at h
 |_::_,[],_,_,h,_=>by simp[TqL]at h
 |t::r,n::q,g,o,h,ht=>by
  rw[TqL]at h;rw[Zx]at ht;obtain⟨⟨A,D,E⟩,G⟩:=ht;rw[Yk];exact⟨⟨A,z3X y t n A h.1 D,E⟩,z3Y y r q g _ h.2 G⟩
end
def TqR:List Rr->List Rl->Prop
 |[],[]=>True
 |x::r,y::q=>y.1=x.1/\Tq x.2.1 y.2.1/\TqR r q
 |_,_=>False
theorem TqR.len:∀{rs:List Rr} {ns:List Rl},TqR rs ns->ns.length=rs.length
 |[],[],_=>rfl
 |[],_::_,h=>by simp[TqR]at h
 |_::_,[],h=>by simp[TqR]at h
 |x::r,y::q,h=>by
  rw[TqR]at h;simp[h.2.2.len]
theorem TqR.get:∀{rs:List Rr} {ns:List Rl},TqR rs ns->∀(j:Nat) (o:j<rs.length) (t:j<ns.length),ns[j].1=rs[j].1/\Tq rs[j].2.1 ns[j].2.1
 |[],[],_,j,o,_=>by simp at o
 |[],_::_,h,_,_,_=>by simp[TqR]at h
 |_::_,[],h,_,_,_=>by simp[TqR]at h
 |x::r,y::q,h,0,_,_=>by
  rw[TqR]at h;exact⟨h.1,h.2.1⟩
 |x::r,y::q,h,j+1,o,t=>by
  rw[TqR]at h;exact h.2.2.get j (by simpa using o) (by simpa using t)
theorem y2F{B s0:Nat}{t:Option Addr}{rs:List Rr}{ns:List Rl}(G:B<=s0)(r:TqR rs ns)(h:Qf w B t n rs):RgV s0 w t n ns:=by
 refine⟨by rw[r.len];exact h.1,h.2.1,fun j y=> ?_⟩;have A:j<rs.length:=by rw[<-r.len];exact y
 obtain⟨g,o,I,hg,k,T,a,b,c,d,U,V,Y,p,rt,Z,z1,z2,z3,z4,z5,z6,z7,z8,z9⟩:=h.2.2 j A;obtain⟨e1,e2⟩:=r.get j A y;have D:=z3X G _ _ _ e2 rt;obtain⟨kd,T1,C,aa,sl,sc,p1,E⟩:=D.shape;dsimp only[r8,v8]at E;cases E;exact⟨g,o,I,by omega,kd,T,C,U,V,Y,p,_,D,by rw[e1];exact Z,z1,z2,z3,z4,z5,z6,z7,z8,z9⟩
theorem y2G(o:Option Addr)(n r:Nat)(rs:List Rr)(B:Nat)(w:World)(t:RgZ rs)(h:Qf w B o n rs)(y:B<=w.heap.size)(E:okG rs=false):
  Calls prog 231 #[.agg #[.slice o n r]] w fun e w'=>e=.returned (.tuple #[.string ⟨#[]⟩,.iface 36 (.int .i64 20)])/\Below w.heap.size w w':=by
 have A:=hid (fun(W:World) (D:Below w.heap.size w W)=>z3C o n r rs B W t (h.below (D.mono y)) (Nat.le_trans y D.size));rw[E]at A;clear h t;go_enter func231,ntmps231
 go_wp2_with(first|(go_at_call 263;refine(A.out _ ?hh).mono ?_;(case hh=>exact B0q.alloc L0q _);rintro e I ⟨rfl,G⟩))
 go_ret2
 exact⟨rfl,((Below.refl _ w).alloc L0q _).trans (G.mono (by simp))⟩
theorem Hh(o:Option Addr)(n t:Nat)(rs:List Rr)(ns:List Rl)(B:Nat)(w:World)(Y:RgZ rs)(h:Qf w B o n rs)(G:B<=w.heap.size)(hk:okG rs=true)(Z:TqR rs ns)(hx:∀x∈ns,Ruk Nmq x)(I:TabIs w):
  Calls prog 231 #[.agg #[.slice o n t]] w fun e w'=>e=.returned (Gh ns)/\Below w.heap.size w w':=by
 have HI:=hid (fun(W:World) (r:Below w.heap.size w W)=>z3C o n t rs B W Y (h.below (r.mono G)) (Nat.le_trans G r.size));have HT:=hid (fun(W:World) (r:Below w.heap.size w W)=>y1L hx n t o W (y2F (Nat.le_trans G r.size) Z (h.below (r.mono G))) (I.below r I.lt));rw[hk]at HI;obtain⟨A,E,hA⟩:∃A E,Gh ns=.tuple #[A,E]:=by
  unfold Gh;split
  ·exact⟨_,_,rfl⟩
  ·split
   ·exact⟨_,_,rfl⟩
   ·exact⟨_,_,rfl⟩
 rw[hA]at HT ⊢;obtain⟨y,D⟩:∃y,y=w.alloc (.cells #[.slice o n t] 43):=⟨_,rfl⟩;have U:Hid (Below w.heap.size w y):=by rw[D];exact(Below.refl _ w).alloc L0q _
 have ab:Hid (y.heap[w.heap.size]? =some (.cells #[.slice o n t] 43)):=by rw[D];exact Qx w _ rfl
 have ac:Hid (y.heap.size=w.heap.size+1):=by rw[D];exact World.size_alloc _ _
 have ad:=hid D;clear D h Y I hx Z hA;go_enter func231,ntmps231
 go_wp2_with(first|(go_at_call 263;rw[<-ad.out];refine(HI.out _ U.out).mono ?_;rintro e wq ⟨rfl,aa⟩;have c0:=(Qw ((aa.block _ (by rw[ac.out];exact Nat.lt_succ_self _)).trans ab.out)).1;have V:Hid (Below w.heap.size w wq):=U.out.trans (aa.mono U.out.size))|(go_at_call 264;refine(HT.out _ V.out).mono ?_;rintro e wz ⟨rfl,ae⟩))
 go_ret2
 exact⟨rfl,V.out.trans (ae.mono V.out.size)⟩
mutual
def toR:Nd->RT
 | .mk kd T C s p=>.mk (kd:Int) T (wd C 0:Nat) (wd C 1:Nat) (wd C 2:Nat) (wd C 3:Nat) (Vh s) (p:Int)
def Vh:List Nd->List RT
 |[]=>[]
 |n::r=>toR n::Vh r
end
mutual
theorem z3Z:∀n:Nd,Tq (toR n) n
 | .mk kd T C s p=>by
   rw[toR,Tq];exact⟨rfl,rfl,rfl,rfl,rfl,rfl,z4a s⟩
theorem z4a:∀s:List Nd,TqL (Vh s) s
 |[]=>by rw[Vh,TqL];trivial
 |n::r=>by
  rw[Vh,TqL];exact⟨z3Z n,z4a r⟩
end
theorem Hd:∀s:List Nd,Qb (Vh s)=Gk s/\(Vh s).isEmpty=s.isEmpty
 |[]=>⟨rfl,rfl⟩
 |n::r=>⟨by rw[Vh,Qb,Gk,(Hd r).1],by rw[Vh];rfl⟩
mutual
theorem z4b{w:World}{P:Nat->Prop}:∀(n:Nd) (o:List Value),Sm n n->Qh w P n o->Qv w w.heap.size (toR n) o
 | .mk kd T C s p,o,hs,h=>by
   rw[Sm]at hs;rw[Qh]at h;obtain⟨_,_,_,hl,G⟩:=hs;obtain⟨sv,rfl,h⟩:=h;rw[toR,Qv];rcases h with⟨r,rfl⟩|⟨r,g,A,cur,rfl,_,t,_,D⟩
   ·have E:s=[]:=by simpa using r
    subst E;exact⟨none,0,rfl,.inl rfl⟩
   ·refine⟨some ⟨g,0,none⟩,A,by rw[(Hd s).1],.inr ⟨by rw[(Hd s).2];exact r,g,0,rfl,Qq t,by rw[(Hd s).1,Km];unfold maxLen;omega,z4c s cur.toList g 0 hl D fun j u y=> ?_⟩⟩
    rw[Array.getElem?_toList]at y;simp[World.cell?,t,y]
theorem z4c{w:World}{P:Nat->Prop}:∀(s:List Nd) (vs:List Value) (g o:Nat),SmL s s->Qc w P s vs->(∀j u,vs[j]? =some u->w.cell? ⟨g,o+j,none⟩=some u)->Zx w w.heap.size g o (Vh s)
 |[],vs,g,o,_,_,_=>by rw[Vh,Zx];trivial
 |n::r,vs,g,o,hs,h,hc=>by
  rw[SmL]at hs;rw[Qc]at h;obtain⟨c,rest,rfl,y,A⟩:=h;have hl:=y.len;rw[Vh,Zx];refine⟨⟨c,z4b n c hs.1 y,fun j u t=>hc j u ?_⟩,z4c r rest g (o+8) hs.2 A fun j u t=> ?_⟩
  ·have:j<c.length:=(List.getElem?_eq_some_iff.1 t).1
   rw[List.getElem?_append_left this];exact t
  ·rw[Nat.add_assoc]
   refine hc (8+j) u ?_;rw[List.getElem?_append_right (by omega),hl,Nat.add_sub_cancel_left];exact t
end
theorem Ay(h:T={data:=#[]}):T.toList.isEmpty=true:=by
 subst h;rw[ByteArray.toList_eq];rfl
theorem Af(h:T.toList.isEmpty=true):T={data:=#[]}:=by
 rw[ByteArray.toList_eq]at h;apply ByteArray.ext;simpa using h
theorem TqL.length{s:List RT}{q:List Nd}(h:TqL s q):q.length=Qb s:=by rw[<-Km];exact h.len.1
theorem Nj:zc ((wd 0 0:Nat):Int) ((wd 0 1:Nat):Int) ((wd 0 2:Nat):Int) ((wd 0 3:Nat):Int)=true:=by decide
theorem y2H{kd:Nat}{C:Nat}{s:List Nd}(o:s.length=n)(r:(kd=1/\T={data:=#[]}/\C=0/\s=[])∨(kd=2/\C=0/\s=[])∨(kd=3/\T={data:=#[]}/\s=[])∨(kd=4/\T={data:=#[]}/\C=0/\s=[])∨(kd=5/\C=0/\s=[])∨
   ((kd=6∨kd=7)/\T={data:=#[]}/\C=0/\2<=s.length)∨(8<=kd/\kd<=12/\T={data:=#[]}/\C=0/\s.length=1))(t:kd=2->T.size<=255)(y:kd=5->nmS T=true):
  okN (kd:Int) T (wd C 0:Nat) (wd C 1:Nat) (wd C 2:Nat) (wd C 3:Nat) n=true:=by
 unfold okN;subst o;rcases r with⟨rfl,h,rfl,rfl⟩|⟨rfl,rfl,rfl⟩|⟨rfl,h,rfl⟩|⟨rfl,h,rfl,rfl⟩|⟨rfl,rfl,rfl⟩|⟨A,h,rfl,hl⟩|⟨D,E,h,rfl,hl⟩
 ·rw[if_pos (by decide),Ay h,Nj];rfl
 ·rw[if_neg (by decide),if_pos (by decide),Nj,decide_eq_true (by have:=t rfl;omega)];rfl
 ·rw[if_neg (by decide),if_neg (by decide),if_pos (by decide),Ay h];rfl
 ·rw[if_pos (by decide),Ay h,Nj];rfl
 ·rw[if_neg (by decide),if_neg (by decide),if_neg (by decide),if_pos (by decide),Nj,y rfl];rfl
 ·rw[if_neg (by omega),if_neg (by omega),if_neg (by omega),if_neg (by omega),if_pos (by omega),Ay h,Nj,decide_eq_true (by omega)];rfl
 ·rw[if_neg (by omega),if_neg (by omega),if_neg (by omega),if_neg (by omega),if_neg (by omega),if_pos (by omega),Ay h,Nj,hl];rfl
mutual
theorem Wg:∀(t:RT) (n:Nd),Tq t n->Vk n->Wf Nmq n->okT t=true/\RtZ t
 | .mk k T a b c d s p,.mk kd T' C s' pn,h,hv,hw=>by
   rw[Tq]at h;obtain⟨rfl,rfl,rfl,rfl,rfl,rfl,r⟩:=h;have V:=hv.kd;rw[Vk]at hv;rw[Wf]at hw;obtain⟨y,E⟩:=hv;obtain⟨A,D,Y,G⟩:=hw;obtain⟨I,U⟩:=z4d s s' r E G;rw[okT,RtZ,I,Bool.and_true];refine⟨y2H r.length y A D,?_,U⟩;have o:∀T:ByteArray,T={data:=#[]}->T.size<=9223372036854775807:=fun T h=>by rw[h];decide
   rcases y with q|q|q|q|q|q|q
   ·exact o _ q.2.1
   ·have:=A q.1;omega
   ·exact o _ q.2.1
   ·exact o _ q.2.1
   ·have:=Hk (D q.1);omega
   ·exact o _ q.2.1
   ·exact o _ q.2.2.1
theorem z4d:∀(s:List RT) (q:List Nd),TqL s q->VkL q->WfL Nmq q->okL s=true/\Xl s
 |[],[],_,_,_=>by rw[okL,Xl];exact⟨rfl,trivial⟩
 |[],_::_,h,_,_=>by simp[TqL]at h
 |_::_,[],h,_,_=>by simp[TqL]at h
 |t::r,n::q,h,hv,hw=>by
  rw[TqL]at h;rw[VkL]at hv;rw[WfL]at hw;obtain⟨a1,a2⟩:=Wg t n h.1 hv.1 hw.1;obtain⟨o,y⟩:=z4d r q h.2 hv.2 hw.2;rw[okL,Xl,a1,o];exact⟨rfl,a2,y⟩
end
end Go.Proofs.YtgnkkgcgbeianaaGreatDoor
