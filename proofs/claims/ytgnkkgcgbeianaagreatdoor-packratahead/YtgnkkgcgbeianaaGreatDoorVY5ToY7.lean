/- Lemmas for the last text. Conditions: those that each names. -/
import Derived.Test.YtgnkkgcgbeianaaGreatDoorVY3ToY4
import Derived.WalkLawsBesides
set_option linter.unusedVariables false
set_option maxRecDepth 100000
set_option maxHeartbeats 8000000
namespace Go.Proofs.YtgnkkgcgbeianaaGreatDoor
open Go.Proofs.Tryz
open Go.RowKit
variable {W w w':World} {R b g j k k' ru:Nat} {u v:Value} {L:List Tok} {n:Nd}
abbrev Pr:=(Nat×Nat) ⊕ (Nd×Nat)
def Qd(r:Pr)(B R b:Nat)(v:Value)(L:List Tok)(ru ne:Nat)(w:World)(e:Ending)(w':World):Prop:=
 match r with
 | .inr (n,k')=>∃cs:List Value,e=.returned (.agg cs.toArray)/\Hid (Qh w' (fun g=>B<=g) n cs)/\Hid (Rd w' R b v L k' ru ne)/\Hid (w.grownBy w' (some R))
 | .inl c=>∃f,e=.panicked [{v:=.iface 134 (.pointer (some ⟨f,0,none⟩)),recovered:=false}]/\Hid (w.heap.size<=f/\Flt w' f c)/\Hid (w.grownBy w' (some R))
theorem Rd.other{ne:Nat}(h:Rd w R b v L k ru ne)(o:g≠R)(r:v.ownBlock≠some g):Rd (w.setCell ⟨g,j,none⟩ u) R b v L k ru ne:=
 ⟨(Below.heap_setCell _ _ _ _ (Ne.symm o)).trans h.1,h.2.kept (row:=some g) ⟨rfl,rfl,rfl,by simp,fun i y t=>Below.heap_setCell _ _ _ _ (fun e=>t (by rw[e]))⟩ (.inr r)⟩
theorem G.below(h:Below w.heap.size w w'):w.grownBy w' (some R):=⟨h.os,h.tape,h.output,h.size,fun j o _=>h.block j o⟩
theorem G.setR(h:w.grownBy w' (some R)):w.grownBy (w'.setCell ⟨R,j,none⟩ u) (some R):=
 ⟨h.os,h.tape,h.output,by simpa using h.size,fun i r o=>(Below.heap_setCell _ _ _ _ (fun e=>o (by rw[e]))).trans (h.block i r o)⟩
theorem G.setN(h:w.grownBy w' (some R))(t:w.heap.size<=g):w.grownBy (w'.setCell ⟨g,j,none⟩ u) (some R):=
 ⟨h.os,h.tape,h.output,by simpa using h.size,fun i o r=>(Below.heap_setCell _ _ _ _ (fun e=>by have y:i=g:=e;omega)).trans (h.block i o r)⟩
theorem G.alloc{w w':World}{r:Option Nat}{o:Obj}(h:w.grownBy w' r):w.grownBy (w'.alloc o) r:=
 ⟨h.os,h.tape,h.output,by have:=h.size;simp;omega,fun i t y=>(Below.heap_alloc w' o i (Nat.lt_of_lt_of_le t h.size)).trans (h.block i t y)⟩
@[reducible] def st8 (w:World) (g:Nat) (kd:Int) (T:ByteArray) (c0 c1 c2 c3:Int) (sv:Value) (p:Int):World:=(((((((w.setCell ⟨g,0,none⟩ (.int .i64 kd)).setCell ⟨g,1,none⟩ (.string T)).setCell ⟨g,2,none⟩ (.int .u64 c0)).setCell ⟨g,3,none⟩ (.int .u64 c1)).setCell ⟨g,4,none⟩ (.int .u64 c2)).setCell ⟨g,5,none⟩ (.int .u64 c3)).setCell ⟨g,6,none⟩ sv).setCell ⟨g,7,none⟩ (.int .i64 p)
theorem Uz{o a1 a2 a3 a4 r t y:Value}(h:w.heap[g]? =some (.cells #[o,a1,a2,a3,a4,r,t,y] 81))(kd:Int)(T:ByteArray)(c0 c1 c2 c3:Int)(sv:Value)(p:Int):
  (st8 w g kd T c0 c1 c2 c3 sv p).heap[g]? =some (.cells #[.int .i64 kd,.string T,.int .u64 c0,.int .u64 c1,.int .u64 c2,.int .u64 c3,sv,.int .i64 p] 81):=by
 simp only[World.setCell,Array.getElem?_modify,if_true,Option.map_map];rw[h];simp
theorem z9w(B R b:Nat)(v:Value)(L:List Tok)(k ru ne:Nat)(T:ByteArray)(C p:Nat)(w:World)(h:Rd w R b v L k ru ne)(hk:k<L.length)(ht:L[k]=(3,T,C,p))(hl:L.length<=10000)(hB:B<=w.heap.size):
  Calls prog 270 #[.pointer (some ⟨R,0,none⟩)] w fun e w'=>Qd (.inr (.mk 2 T C [] p,k+1)) B R b v L ru ne w e w':=by
 have ac:=Tryz.fld0;have HT:Hid (∀w:World,Rd w R b v L k ru ne->Calls prog 98 #[.pointer (some ⟨R,0,none⟩)] w fun e w'=>e=.returned (tkv (3,T,C,p))/\Below w.heap.size w w'):=fun w h=>ht▸Gb R b v L k ru ne w h hk hl
 have V:Hid (Rd w R b v L k ru ne):=h;have ad:=h.lt;obtain⟨W,E⟩:∃W,W=w.alloc (.cells #[.int .i64 0,.string ⟨#[]⟩,.int .u64 0,.int .u64 0,.int .u64 0,.int .u64 0,.slice none 0 0,.int .i64 0] 81):=⟨_,rfl⟩;have U:Hid (Below w.heap.size w W):=by show Below _ _ _;rw[E];exact B0q.alloc L0q _
 clear h ht;go_enter func270,ntmps270
 go_wp2_with fail
 rw[<-E];refine(HT.out W (V.out.below U.out)).mono ?_;rintro e o ⟨rfl,I⟩;have ab:Hid (Below w.heap.size w o):=U.out.trans (I.mono U.out.size);have Y:Hid (Rd o R b v L k ru ne):=(V.out.below U.out).below I;obtain⟨r0,r1,r2,r3,q0,q1,q2,q3⟩:=Y.out.cells;have ae:=Y.out.lt;have af:W.heap.size<=o.heap.size:=I.size;have Z:Hid (o.heap[w.heap.size]? =some (.cells #[.int .i64 0,.string ⟨#[]⟩,.int .u64 0,.int .u64 0,.int .u64 0,.int .u64 0,.slice none 0 0,.int .i64 0] 81)):=by
  show _=_;rw[I.block w.heap.size (by rw[E];simp),E];exact Qx w _ rfl
 obtain⟨k0,k1,k2,k3,k4,k5,k6,k7⟩:o.cell? ⟨w.heap.size,0,none⟩=some (.int .i64 0)/\o.cell? ⟨w.heap.size,1,none⟩=some (.string ⟨#[]⟩)/\o.cell? ⟨w.heap.size,2,none⟩=some (.int .u64 0)/\o.cell? ⟨w.heap.size,3,none⟩=some (.int .u64 0)/\o.cell? ⟨w.heap.size,4,none⟩=some (.int .u64 0)/\o.cell? ⟨w.heap.size,5,none⟩=some (.int .u64 0)/\o.cell? ⟨w.heap.size,6,none⟩=some (.slice none 0 0)/\o.cell? ⟨w.heap.size,7,none⟩=some (.int .i64 0):=by
  refine⟨?_,?_,?_,?_,?_,?_,?_,?_⟩<;>simp[World.cell?,Z.out]
 obtain⟨f0,f1,f2,f3,f4,f5,f6,f7⟩:o.frozen? ⟨w.heap.size,0,none⟩=false/\o.frozen? ⟨w.heap.size,1,none⟩=false/\o.frozen? ⟨w.heap.size,2,none⟩=false/\o.frozen? ⟨w.heap.size,3,none⟩=false/\o.frozen? ⟨w.heap.size,4,none⟩=false/\o.frozen? ⟨w.heap.size,5,none⟩=false/\o.frozen? ⟨w.heap.size,6,none⟩=false/\o.frozen? ⟨w.heap.size,7,none⟩=false:=by
  refine⟨?_,?_,?_,?_,?_,?_,?_,?_⟩<;>simp[World.frozen?,Z.out]
 have ag:w.heap.size<o.heap.size:=by have ah:w.heap.size<W.heap.size:=(by rw[E];simp)
                                     omega
 have t:R≠w.heap.size:=by omega
 clear I E;dsimp only[tkv]
 go_wp2_with fail
 have hX:(o.setCell ⟨R,1,none⟩ (.int .i64 ((k:Int)+1))).heap[w.heap.size]? =some (.cells #[.int .i64 0,.string ⟨#[]⟩,.int .u64 0,.int .u64 0,.int .u64 0,.int .u64 0,.slice none 0 0,.int .i64 0] 81):=(Below.heap_setCell _ _ _ _ (Ne.symm t)).trans Z.out;have hY:=Uz hX 2 T (wd C 0:Nat) (wd C 1:Nat) (wd C 2:Nat) (wd C 3:Nat) (.slice none 0 0) (p:Int);have hZ:∀o1 o2:Obj,(((st8 (o.setCell ⟨R,1,none⟩ (.int .i64 ((k:Int)+1))) w.heap.size 2 T (wd C 0:Nat) (wd C 1:Nat) (wd C 2:Nat) (wd C 3:Nat) (.slice none 0 0) (p:Int)).alloc o1).alloc o2).heap[w.heap.size]? =some (.cells #[.int .i64 2,.string T,.int .u64 (wd C 0),.int .u64 (wd C 1),.int .u64 (wd C 2),.int .u64 (wd C 3),.slice none 0 0,.int .i64 p] 81):=fun o1 o2=>
  (Below.heap_alloc _ o2 _ (by simp;omega)).trans ((Below.heap_alloc _ o1 _ (by simp;omega)).trans hY)
 have y:=hZ (.cells #[.int .i64 3,.string T,.int .u64 (wd C 0),.int .u64 (wd C 1),.int .u64 (wd C 2),.int .u64 (wd C 3),.int .i64 p] 139) (.cells #[.int .i64 2,.string T,.int .u64 (wd C 0),.int .u64 (wd C 1),.int .u64 (wd C 2),.int .u64 (wd C 3),.slice none 0 0,.int .i64 p] 81);obtain⟨r,aa⟩:∃r,r=((st8 (o.setCell ⟨R,1,none⟩ (.int .i64 ((k:Int)+1))) w.heap.size 2 T (wd C 0:Nat) (wd C 1:Nat) (wd C 2:Nat) (wd C 3:Nat) (.slice none 0 0) (p:Int)).alloc (.cells #[.int .i64 3,.string T,.int .u64 (wd C 0),.int .u64 (wd C 1),.int .u64 (wd C 2),.int .u64 (wd C 3),.int .i64 p] 139)).alloc (.cells #[.int .i64 2,.string T,.int .u64 (wd C 0),.int .u64 (wd C 1),.int .u64 (wd C 2),.int .u64 (wd C 3),.slice none 0 0,.int .i64 p] 81):=⟨_,rfl⟩;rw[<-aa]at y ⊢
 (try simp only[Exit.inBlock,Exit.then])
 have c0:r.cell? ⟨w.heap.size,0,none⟩=some (.int .i64 2):=by simp[World.cell?,y]
 have c1:r.cell? ⟨w.heap.size,1,none⟩=some (.string T):=by simp[World.cell?,y]
 have c2:r.cell? ⟨w.heap.size,2,none⟩=some (.int .u64 (wd C 0)):=by simp[World.cell?,y]
 have c3:r.cell? ⟨w.heap.size,3,none⟩=some (.int .u64 (wd C 1)):=by simp[World.cell?,y]
 have c4:r.cell? ⟨w.heap.size,4,none⟩=some (.int .u64 (wd C 2)):=by simp[World.cell?,y]
 have c5:r.cell? ⟨w.heap.size,5,none⟩=some (.int .u64 (wd C 3)):=by simp[World.cell?,y]
 have c6:r.cell? ⟨w.heap.size,6,none⟩=some (.slice none 0 0):=by simp[World.cell?,y]
 have c7:r.cell? ⟨w.heap.size,7,none⟩=some (.int .i64 p):=by simp[World.cell?,y]
 refine bodyPost_ret (v:=.agg (n8 2 T C (.slice none 0 0) p).toArray) (by simp[results,Tryz.results270,go_sem,c0,c1,c2,c3,c4,c5,c6,c7]) rfl ?_;have A:v.ownBlock≠some w.heap.size:=fun e=>by have:=(V.out.2.lt _ e).2;omega
 have hN:Rd (o.setCell ⟨R,1,none⟩ (.int .i64 ((k:Int)+1))) R b v L (k+1) ru ne:=by
  have:=Y.out.next (k+1);rw[show(((k+1:Nat):Int))=(k:Int)+1 by omega]at this;exact this
 refine⟨_,rfl,hid (by rw[Qh];exact⟨_,rfl,.inl ⟨rfl,rfl⟩⟩),hid ?_,hid ?_⟩
 ·rw[aa]
  exact(((((((((hN.other (Ne.symm t) A).other (Ne.symm t) A).other (Ne.symm t) A).other (Ne.symm t) A).other (Ne.symm t) A).other (Ne.symm t) A).other (Ne.symm t) A).other (Ne.symm t) A).below (B0q.alloc L0q _)).below (B0q.alloc L0q _)
 ·rw[aa]
  have D:=Nat.le_refl w.heap.size;exact G.alloc (G.alloc (G.setN (G.setN (G.setN (G.setN (G.setN (G.setN (G.setN (G.setN (G.setR (G.below ab.out)) D) D) D) D) D) D) D) D))
theorem z9x(B R b:Nat)(v:Value)(L:List Tok)(k ru ne:Nat)(T:ByteArray)(C p:Nat)(w:World)(h:Rd w R b v L k ru ne)(hk:k<L.length)(ht:L[k]=(4,T,C,p))(hl:L.length<=10000)(hB:B<=w.heap.size):
  Calls prog 270 #[.pointer (some ⟨R,0,none⟩)] w fun e w'=>Qd (.inr (.mk 3 T C [] p,k+1)) B R b v L ru ne w e w':=by
 have ac:=Tryz.fld0;have HT:Hid (∀w:World,Rd w R b v L k ru ne->Calls prog 98 #[.pointer (some ⟨R,0,none⟩)] w fun e w'=>e=.returned (tkv (4,T,C,p))/\Below w.heap.size w w'):=fun w h=>ht▸Gb R b v L k ru ne w h hk hl
 have V:Hid (Rd w R b v L k ru ne):=h;have ad:=h.lt;obtain⟨W,E⟩:∃W,W=w.alloc (.cells #[.int .i64 0,.string ⟨#[]⟩,.int .u64 0,.int .u64 0,.int .u64 0,.int .u64 0,.slice none 0 0,.int .i64 0] 81):=⟨_,rfl⟩;have U:Hid (Below w.heap.size w W):=by show Below _ _ _;rw[E];exact B0q.alloc L0q _
 clear h ht;go_enter func270,ntmps270
 go_wp2_with fail
 rw[<-E];refine(HT.out W (V.out.below U.out)).mono ?_;rintro e o ⟨rfl,I⟩;have ab:Hid (Below w.heap.size w o):=U.out.trans (I.mono U.out.size);have Y:Hid (Rd o R b v L k ru ne):=(V.out.below U.out).below I;obtain⟨r0,r1,r2,r3,q0,q1,q2,q3⟩:=Y.out.cells;have ae:=Y.out.lt;have af:W.heap.size<=o.heap.size:=I.size;have Z:Hid (o.heap[w.heap.size]? =some (.cells #[.int .i64 0,.string ⟨#[]⟩,.int .u64 0,.int .u64 0,.int .u64 0,.int .u64 0,.slice none 0 0,.int .i64 0] 81)):=by
  show _=_;rw[I.block w.heap.size (by rw[E];simp),E];exact Qx w _ rfl
 obtain⟨k0,k1,k2,k3,k4,k5,k6,k7⟩:o.cell? ⟨w.heap.size,0,none⟩=some (.int .i64 0)/\o.cell? ⟨w.heap.size,1,none⟩=some (.string ⟨#[]⟩)/\o.cell? ⟨w.heap.size,2,none⟩=some (.int .u64 0)/\o.cell? ⟨w.heap.size,3,none⟩=some (.int .u64 0)/\o.cell? ⟨w.heap.size,4,none⟩=some (.int .u64 0)/\o.cell? ⟨w.heap.size,5,none⟩=some (.int .u64 0)/\o.cell? ⟨w.heap.size,6,none⟩=some (.slice none 0 0)/\o.cell? ⟨w.heap.size,7,none⟩=some (.int .i64 0):=by
  refine⟨?_,?_,?_,?_,?_,?_,?_,?_⟩<;>simp[World.cell?,Z.out]
 obtain⟨f0,f1,f2,f3,f4,f5,f6,f7⟩:o.frozen? ⟨w.heap.size,0,none⟩=false/\o.frozen? ⟨w.heap.size,1,none⟩=false/\o.frozen? ⟨w.heap.size,2,none⟩=false/\o.frozen? ⟨w.heap.size,3,none⟩=false/\o.frozen? ⟨w.heap.size,4,none⟩=false/\o.frozen? ⟨w.heap.size,5,none⟩=false/\o.frozen? ⟨w.heap.size,6,none⟩=false/\o.frozen? ⟨w.heap.size,7,none⟩=false:=by
  refine⟨?_,?_,?_,?_,?_,?_,?_,?_⟩<;>simp[World.frozen?,Z.out]
 have ag:w.heap.size<o.heap.size:=by have ah:w.heap.size<W.heap.size:=(by rw[E];simp)
                                     omega
 have t:R≠w.heap.size:=by omega
 clear I E;dsimp only[tkv]
 go_wp2_with fail
 have hX:(o.setCell ⟨R,1,none⟩ (.int .i64 ((k:Int)+1))).heap[w.heap.size]? =some (.cells #[.int .i64 0,.string ⟨#[]⟩,.int .u64 0,.int .u64 0,.int .u64 0,.int .u64 0,.slice none 0 0,.int .i64 0] 81):=(Below.heap_setCell _ _ _ _ (Ne.symm t)).trans Z.out;have hY:=Uz hX 3 T (wd C 0:Nat) (wd C 1:Nat) (wd C 2:Nat) (wd C 3:Nat) (.slice none 0 0) (p:Int);have hZ:∀o1 o2:Obj,(((st8 (o.setCell ⟨R,1,none⟩ (.int .i64 ((k:Int)+1))) w.heap.size 3 T (wd C 0:Nat) (wd C 1:Nat) (wd C 2:Nat) (wd C 3:Nat) (.slice none 0 0) (p:Int)).alloc o1).alloc o2).heap[w.heap.size]? =some (.cells #[.int .i64 3,.string T,.int .u64 (wd C 0),.int .u64 (wd C 1),.int .u64 (wd C 2),.int .u64 (wd C 3),.slice none 0 0,.int .i64 p] 81):=fun o1 o2=>
  (Below.heap_alloc _ o2 _ (by simp;omega)).trans ((Below.heap_alloc _ o1 _ (by simp;omega)).trans hY)
 have y:=hZ (.cells #[.int .i64 4,.string T,.int .u64 (wd C 0),.int .u64 (wd C 1),.int .u64 (wd C 2),.int .u64 (wd C 3),.int .i64 p] 139) (.cells #[.int .i64 3,.string T,.int .u64 (wd C 0),.int .u64 (wd C 1),.int .u64 (wd C 2),.int .u64 (wd C 3),.slice none 0 0,.int .i64 p] 81);obtain⟨r,aa⟩:∃r,r=((st8 (o.setCell ⟨R,1,none⟩ (.int .i64 ((k:Int)+1))) w.heap.size 3 T (wd C 0:Nat) (wd C 1:Nat) (wd C 2:Nat) (wd C 3:Nat) (.slice none 0 0) (p:Int)).alloc (.cells #[.int .i64 4,.string T,.int .u64 (wd C 0),.int .u64 (wd C 1),.int .u64 (wd C 2),.int .u64 (wd C 3),.int .i64 p] 139)).alloc (.cells #[.int .i64 3,.string T,.int .u64 (wd C 0),.int .u64 (wd C 1),.int .u64 (wd C 2),.int .u64 (wd C 3),.slice none 0 0,.int .i64 p] 81):=⟨_,rfl⟩;rw[<-aa]at y ⊢
 (try simp only[Exit.inBlock,Exit.then])
 have c0:r.cell? ⟨w.heap.size,0,none⟩=some (.int .i64 3):=by simp[World.cell?,y]
 have c1:r.cell? ⟨w.heap.size,1,none⟩=some (.string T):=by simp[World.cell?,y]
 have c2:r.cell? ⟨w.heap.size,2,none⟩=some (.int .u64 (wd C 0)):=by simp[World.cell?,y]
 have c3:r.cell? ⟨w.heap.size,3,none⟩=some (.int .u64 (wd C 1)):=by simp[World.cell?,y]
 have c4:r.cell? ⟨w.heap.size,4,none⟩=some (.int .u64 (wd C 2)):=by simp[World.cell?,y]
 have c5:r.cell? ⟨w.heap.size,5,none⟩=some (.int .u64 (wd C 3)):=by simp[World.cell?,y]
 have c6:r.cell? ⟨w.heap.size,6,none⟩=some (.slice none 0 0):=by simp[World.cell?,y]
 have c7:r.cell? ⟨w.heap.size,7,none⟩=some (.int .i64 p):=by simp[World.cell?,y]
 refine bodyPost_ret (v:=.agg (n8 3 T C (.slice none 0 0) p).toArray) (by simp[results,Tryz.results270,go_sem,c0,c1,c2,c3,c4,c5,c6,c7]) rfl ?_;have A:v.ownBlock≠some w.heap.size:=fun e=>by have:=(V.out.2.lt _ e).2;omega
 have hN:Rd (o.setCell ⟨R,1,none⟩ (.int .i64 ((k:Int)+1))) R b v L (k+1) ru ne:=by
  have:=Y.out.next (k+1);rw[show(((k+1:Nat):Int))=(k:Int)+1 by omega]at this;exact this
 refine⟨_,rfl,hid (by rw[Qh];exact⟨_,rfl,.inl ⟨rfl,rfl⟩⟩),hid ?_,hid ?_⟩
 ·rw[aa]
  exact(((((((((hN.other (Ne.symm t) A).other (Ne.symm t) A).other (Ne.symm t) A).other (Ne.symm t) A).other (Ne.symm t) A).other (Ne.symm t) A).other (Ne.symm t) A).other (Ne.symm t) A).below (B0q.alloc L0q _)).below (B0q.alloc L0q _)
 ·rw[aa]
  have D:=Nat.le_refl w.heap.size;exact G.alloc (G.alloc (G.setN (G.setN (G.setN (G.setN (G.setN (G.setN (G.setN (G.setN (G.setR (G.below ab.out)) D) D) D) D) D) D) D) D))
theorem z9y(B R b:Nat)(v:Value)(L:List Tok)(k ru ne:Nat)(t:Tok)(w:World)(h:Rd w R b v L k ru ne)(U:k<L.length)(r:L[k]=t)(h1:t.1≠1)(h3:t.1≠3)(h4:t.1≠4)(hd:¬sgT t={data:=#[46]})(V:¬sgT t={data:=#[40]})(hl:L.length<=10000)(hB:B<=w.heap.size):
  Calls prog 270 #[.pointer (some ⟨R,0,none⟩)] w fun e w'=>Qd (.inl (wrC t,t.2.2.2)) B R b v L ru ne w e w':=by
 have aj:=Tryz.fld0;have HT:Hid (∀w:World,Rd w R b v L k ru ne->Calls prog 98 #[.pointer (some ⟨R,0,none⟩)] w fun e w'=>e=.returned (tkv t)/\Below w.heap.size w w'):=fun w h=>r▸Gb R b v L k ru ne w h U hl
 have y:Hid (∀w:World,Rd w R b v L k ru ne->Calls prog 180 #[.pointer (some ⟨R,0,none⟩)] w fun e w'=>e=.returned (.string (sgT t))/\Below w.heap.size w w'):=fun w h=>r▸Ph R b v L k ru ne w h U hl
 have HW:Hid (∀w:World,Rd w R b v L k ru ne->Calls prog 143 #[.pointer (some ⟨R,0,none⟩)] w fun e w'=>∃f,e=.returned (.pointer (some ⟨f,0,none⟩))/\Hid (w.heap.size<=f/\Flt w' f (wrC t,t.2.2.2)/\Below w.heap.size w w')):=fun w h=>r▸z1Q R b v L k ru ne w h U hl
 have A:Hid (Rd w R b v L k ru ne):=h;obtain⟨Z,hZ⟩:∃Z,Z=sgT t:=⟨_,rfl⟩;rw[<-hZ]at y hd V;have s1:(Z.toList == [46])=false:=Gv hd;have s2:(Z.toList == [40])=false:=Gv V;obtain⟨kd,T,C,p⟩:=t;have t1:((kd:Int) == 1)=false:=by have ac:kd≠1:=h1;simp;omega
 have t3:((kd:Int) == 3)=false:=by have ac:kd≠3:=h3;simp;omega
 have t4:((kd:Int) == 4)=false:=by have ac:kd≠4:=h4;simp;omega
 obtain⟨W,Y⟩:∃W,W=w.alloc (.cells #[.int .i64 0,.string ⟨#[]⟩,.int .u64 0,.int .u64 0,.int .u64 0,.int .u64 0,.slice none 0 0,.int .i64 0] 81):=⟨_,rfl⟩;have aa:Hid (Below w.heap.size w W):=by show Below _ _ _;rw[Y];exact B0q.alloc L0q _
 clear h r hd V hZ h1 h3 h4;go_enter func270,ntmps270
 go_wp2_with fail
 rw[<-Y];clear Y;refine(HT.out W (A.out.below aa.out)).mono ?_;rintro e w1 ⟨rfl,ad⟩;have ab:Hid (Below w.heap.size w w1):=aa.out.trans (ad.mono aa.out.size);clear ad HT;dsimp only[tkv];have ae:∀a c:Obj,Hid (Below w.heap.size w ((w1.alloc a).alloc c)):=fun a c=>(ab.out.alloc ab.out.size _).alloc (by have:=ab.out.size;simp;omega) _
 have D:=hid ae;clear ae
 go_wp2_with fail
 refine(y.out _ (A.out.below (D.out _ _).out)).mono ?_;rintro e w2 ⟨rfl,af⟩;have E:Hid (Below w.heap.size w w2):=(D.out _ _).out.trans (af.mono (D.out _ _).out.size);clear af D
 go_wp2_with fail
 refine(y.out w2 (A.out.below E.out)).mono ?_;rintro e w3 ⟨rfl,ag⟩;have o:Hid (Below w.heap.size w w3):=E.out.trans (ag.mono E.out.size);clear ag E y
 go_wp2_with fail
 refine(HW.out w3 (A.out.below o.out)).mono ?_;rintro e w4 ⟨f,rfl,I⟩;have ah:Hid (Below w.heap.size w w4):=o.out.trans (I.out.2.2.mono o.out.size);have ai:Hid (w.heap.size<=f/\Flt w4 f (wrC (kd,T,C,p),p)):=⟨Nat.le_trans o.out.size I.out.1,I.out.2.1⟩;clear I o HW
 go_wp2_with fail
 exact⟨rfl,⟨f,rfl,ai,hid (G.below ah.out)⟩⟩
def gL(L:List Tok)(k:Nat):Tok:=(L[k]?).getD (6,{data:=#[]},0,0)
theorem Vy(h:k<L.length):gL L k=L[k]:=by
 unfold gL;rw[List.getElem?_eq_getElem h];rfl
structure Ql (L:List Tok):Prop where
 len:L.length<=10000
 nxt:∀k,k<L.length->(gL L k).1≠6->k+1<L.length
 sgn:∀k,(gL L k).1=5->∃x,x<256/\(gL L k).2.1=nb [x]
def Uq(L:List Tok)(inn:Nat->Pr)(k:Nat):Pr:=
 if(gL L k).1=1/\hdB L k=false then .inr (.mk 5 (gL L k).2.1 (gL L k).2.2.1 [] (gL L k).2.2.2,k+1)
 else if(gL L k).1=3 then .inr (.mk 2 (gL L k).2.1 (gL L k).2.2.1 [] (gL L k).2.2.2,k+1)
 else if(gL L k).1=4 then .inr (.mk 3 (gL L k).2.1 (gL L k).2.2.1 [] (gL L k).2.2.2,k+1)
 else if sgT (gL L k)={data:=#[46]}then .inr (.mk 4 {data:=#[]} (gL L k).2.2.1 [] (gL L k).2.2.2,k+1)
 else if sgT (gL L k)={data:=#[40]}then inn k
 else .inl (wrC (gL L k),(gL L k).2.2.2)
def Jf(L:List Tok)(r:Pr):Pr:=match r with
 | .inl e=>.inl e
 | .inr (n,k')=>if rpK (sgT (gL L k'))=0 then .inr (n,k')else .inr (.mk (rpK (sgT (gL L k'))) {data:=#[]} 0 [n] n.at',k'+1)
def Gw(L:List Tok)(inn:Nat->Pr)(k:Nat):Pr:=Jf L (Uq L inn k)
def ovS(kd p:Nat)(r:Pr):Pr:=match r with
 | .inl e=>.inl e
 | .inr (n,k')=>.inr (.mk kd {data:=#[]} 0 [n] p,k')
def Vf(L:List Tok)(inn:Nat->Pr)(k:Nat):Pr:=
 if sgT (gL L k)={data:=#[33]}then ovS 12 (gL L k).2.2.2 (Gw L inn (k+1))
 else if sgT (gL L k)={data:=#[38]}then ovS 11 (gL L k).2.2.2 (Gw L inn (k+1))
 else Gw L inn k
def Zy(L:List Tok)(inn:Nat->Pr):Nat->Nat->List Nd->Pr
 |0,_,_=>.inl (0,0)
 |f+1,k,acc=>if ptB L k (gL L k)=true then(match Vf L inn k with
   | .inl e=>.inl e
   | .inr (n,k')=>Zy L inn f k' (acc++[n]))
  else if acc.isEmpty=true then .inr (.mk 1 {data:=#[]} 0 [] (gL L k).2.2.2,k)else .inr (Vq 6 acc,k)
def Xq(L:List Tok)(inn:Nat->Pr):Nat->Nat->List Nd->Pr
 |0,_,_=>.inl (0,0)
 |f+1,k,acc=>if sgT (gL L k)={data:=#[47]}then(match Zy L inn L.length (k+1) []with
   | .inl e=>.inl e
   | .inr (n,k')=>Xq L inn f k' (acc++[n]))
  else .inr (Vq 7 acc,k)
def chE(L:List Tok)(inn:Nat->Pr)(r:Pr):Pr:=match r with
 | .inl e=>.inl e
 | .inr (n,k')=>Xq L inn L.length k' [n]
def chS(L:List Tok)(inn:Nat->Pr)(k:Nat):Pr:=chE L inn (Zy L inn L.length k [])
def My(L:List Tok)(r:Pr):Pr:=match r with
 | .inl e=>.inl e
 | .inr (n,k')=>if sgT (gL L k')={data:=#[41]}then .inr (n,k'+1)else .inl (wrC (gL L k'),(gL L k').2.2.2)
def Zc(L:List Tok):Nat->Nat->Pr
 |0,k=>.inl (2,(gL L k).2.2.2)
 |d+1,k=>My L (chS L (Zc L d) (k+1))
def Adv(L:List Tok)(inn:Nat->Pr):Prop:=∀k n k',k<L.length->sgT (gL L k)={data:=#[40]}->inn k=.inr (n,k')->k<k'/\k'<L.length
theorem Fw{t:Tok}{x:UInt8}(h:sgT t={data:=#[x]}):t.1=5:=by
 unfold sgT at h;split at h
 ·assumption
 ·exact absurd (congrArg (fun a:ByteArray=>a.data.size) h) (by simp)
theorem Ql.sg(o:Ql L){x:UInt8}(r:k<L.length)(h:sgT (gL L k)={data:=#[x]}):k+1<L.length:=
 o.nxt k r (by rw[Fw h];decide)
theorem z1T{y:Nat->Pr}(r:Ql L)(ha:Adv L y)(o:k<L.length)(h:Uq L y k=.inr (n,k')):k<k'/\k'<L.length:=by
 unfold Uq at h;split at h
 ·rename_i A
  simp only[Sum.inr.injEq,Prod.mk.injEq]at h;have:=r.nxt k o (by omega);omega
 ·split at h
  ·simp only[Sum.inr.injEq,Prod.mk.injEq]at h
   have:=r.nxt k o (by omega);omega
  ·split at h
   ·simp only[Sum.inr.injEq,Prod.mk.injEq]at h
    have:=r.nxt k o (by omega);omega
   ·split at h
    ·rename_i t
     simp only[Sum.inr.injEq,Prod.mk.injEq]at h;have:=r.sg o t;omega
    ·split at h
     ·rename_i t
      exact ha k n k' o t h
     ·cases h
theorem z9z{t:Tok}(h:rpK (sgT t)≠0):t.1=5:=by
 unfold rpK at h;split at h
 ·rename_i o;exact Fw o
 ·split at h
  ·rename_i o;exact Fw o
  ·split at h
   ·rename_i o;exact Fw o
   ·exact absurd rfl h
theorem z9A(o:Ql L){r:Pr}(t:∀m j,r=.inr (m,j)->k<j/\j<L.length)(h:Jf L r=.inr (n,k')):k<k'/\k'<L.length:=by
 cases r with
 |inl e=>cases h
 |inr q=>
  obtain⟨m,j⟩:=q;have y:=t m j rfl;unfold Jf at h;simp only at h;split at h
  ·simp only[Sum.inr.injEq,Prod.mk.injEq]at h
   omega
  ·rename_i A
   have:=o.nxt j y.2 (by rw[z9z A];decide);simp only[Sum.inr.injEq,Prod.mk.injEq]at h;omega
theorem Pp{o:Nat->Pr}(r:Ql L)(ha:Adv L o)(t:k<L.length)(h:Gw L o k=.inr (n,k')):k<k'/\k'<L.length:=
 z9A r (fun m j e=>z1T r ha t e) h
theorem z1U{kd p:Nat}{r:Pr}(h:ovS kd p r=.inr (n,k')):∃m,r=.inr (m,k'):=by
 cases r with
 |inl e=>cases h
 |inr q=>
  obtain⟨m,j⟩:=q;unfold ovS at h;simp only[Sum.inr.injEq,Prod.mk.injEq]at h;exact⟨m,by rw[h.2]⟩
theorem z1V{A:Nat->Pr}(o:Ql L)(ha:Adv L A)(r:k<L.length)(h:Vf L A k=.inr (n,k')):k<k'/\k'<L.length:=by
 unfold Vf at h;split at h
 ·rename_i t
  obtain⟨m,y⟩:=z1U h;have:=Pp o ha (o.sg r t) y;omega
 ·split at h
  ·rename_i t
   obtain⟨m,y⟩:=z1U h;have:=Pp o ha (o.sg r t) y;omega
  ·exact Pp o ha r h
theorem Mf{L:List Tok}{o:Nat->Pr}(r:Ql L)(ha:Adv L o):∀(f k:Nat) (acc:List Nd) (n:Nd) (k':Nat),k<L.length->Zy L o f k acc=.inr (n,k')->k<=k'/\k'<L.length
 |0,_,_,_,_,_,h=>by rw[Zy]at h;cases h
 |f+1,k,acc,n,k',hk,h=>by
  rw[Zy]at h;split at h
  ·split at h
   ·cases h
   ·rename_i m j t
    have y:=z1V r ha hk t;have A:=Mf r ha f j (acc++[m]) n k' y.2 h;omega
  ·split at h
   ·simp only[Sum.inr.injEq,Prod.mk.injEq]at h;omega
   ·simp only[Sum.inr.injEq,Prod.mk.injEq]at h;omega
theorem z1W{L:List Tok}{r:Nat->Pr}(o:Ql L)(ha:Adv L r):∀(f k:Nat) (acc:List Nd) (n:Nd) (k':Nat),k<L.length->Xq L r f k acc=.inr (n,k')->k<=k'/\k'<L.length
 |0,_,_,_,_,_,h=>by rw[Xq]at h;cases h
 |f+1,k,acc,n,k',hk,h=>by
  rw[Xq]at h;split at h
  ·rename_i t
   split at h
   ·cases h
   ·rename_i m j y
    have A:=Mf o ha _ _ _ _ _ (o.sg hk t) y;have D:=z1W o ha f j (acc++[m]) n k' A.2 h;omega
  ·simp only[Sum.inr.injEq,Prod.mk.injEq]at h;omega
theorem Pc{o:Nat->Pr}(r:Ql L)(ha:Adv L o)(t:k<L.length)(h:chS L o k=.inr (n,k')):k<=k'/\k'<L.length:=by
 unfold chS at h;cases hr:Zy L o L.length k []with
 |inl e=>rw[hr]at h;cases h
 |inr q=>
  obtain⟨m,j⟩:=q;rw[hr]at h;have y:=Mf r ha _ _ _ _ _ t hr;have A:=z1W r ha _ _ _ _ _ y.2 h;omega
theorem Rz{r:Pr}(h:My L r=.inr (n,k')):∃j,r=.inr (n,j)/\sgT (gL L j)={data:=#[41]}/\k'=j+1:=by
 cases r with
 |inl e=>cases h
 |inr q=>
  obtain⟨m,j⟩:=q;unfold My at h;simp only at h;split at h
  ·rename_i o
   simp only[Sum.inr.injEq,Prod.mk.injEq]at h;exact⟨j,by rw[h.1],o,h.2.symm⟩
  ·cases h
theorem Mg{L:List Tok}(o:Ql L):∀d,Adv L (Zc L d)
 |0=>fun k n k' _ _ h=>by rw[Zc]at h;cases h
 |d+1=>fun k n k' r t h=>by
  rw[Zc]at h;obtain⟨j,y,A,E⟩:=Rz h;have D:=Pc o (Mg o d) (o.sg r t) y;have G:=o.sg D.2 A;omega
theorem Qh.shape{P:Nat->Prop}{c:List Value}(h:Qh w P n c):∃kd T C r t y,c=n8 kd T C (.slice r t y) n.at':=by
 obtain⟨o,T,C,E,p'⟩:=n;rw[Qh]at h;obtain⟨sv,rfl,A⟩:=h;rcases A with⟨_,rfl⟩|⟨_,g,D,cur,rfl,_⟩
 ·exact⟨o,T,C,none,0,0,rfl⟩
 ·exact⟨o,T,C,_,_,D,rfl⟩
theorem G.trans{w r t:World}{R:Nat}(h:w.grownBy r (some R))(o:r.grownBy t (some R)):w.grownBy t (some R):=
 ⟨o.os.trans h.os,o.tape.trans h.tape,o.output.trans h.output,Nat.le_trans h.size o.size,fun j y A=>(o.block j (Nat.lt_of_lt_of_le y h.size) A).trans (h.block j y A)⟩
theorem G.refl(w:World)(R:Nat):w.grownBy w (some R):=G.below B0q
theorem Rd.next1{ne:Nat}(h:Rd w R b v L k ru ne):Rd (w.setCell ⟨R,1,none⟩ (.int .i64 ((k:Int)+1))) R b v L (k+1) ru ne:=by
 have o:=h.next (k+1);rw[show(((k+1:Nat):Int))=(k:Int)+1 by omega]at o;exact o
theorem Rd.alloc{w:World}{R b:Nat}{v:Value}{L:List Tok}{k ru ne:Nat}(h:Rd w R b v L k ru ne)(o:Obj):Rd (w.alloc o) R b v L k ru ne:=h.below (B0q.alloc L0q _)
def MC(F:Nat)(sp:Nat->Pr)(ok:Nat->Prop)(R b:Nat)(v:Value)(L:List Tok)(ru ne:Nat):Prop:=
 ∀(k B:Nat) (w:World),Rd w R b v L k ru ne->k<L.length->ok k->B<=w.heap.size->Calls prog F #[.pointer (some ⟨R,0,none⟩)] w fun e w'=>Qd (sp k) B R b v L ru ne w e w'
theorem Gy(R b:Nat)(v:Value)(L:List Tok)(k ru ne:Nat)(o:k<L.length)(r:Ql L):Hid (∀w:World,Rd w R b v L k ru ne->
  Calls prog 98 #[.pointer (some ⟨R,0,none⟩)] w fun e w'=>e=.returned (tkv (gL L k))/\Below w.heap.size w w'):=fun w h=>by
 rw[Vy o];exact Gb R b v L k ru ne w h o r.len
theorem Fy(R b:Nat)(v:Value)(L:List Tok)(k ru ne:Nat)(o:k<L.length)(r:Ql L):Hid (∀w:World,Rd w R b v L k ru ne->
  Calls prog 180 #[.pointer (some ⟨R,0,none⟩)] w fun e w'=>e=.returned (.string (sgT (gL L k)))/\Below w.heap.size w w'):=fun w h=>by
 rw[Vy o];exact Ph R b v L k ru ne w h o r.len
theorem Ez(R b:Nat)(v:Value)(L:List Tok)(k ru ne:Nat)(o:k<L.length)(r:Ql L):Hid (∀w:World,Rd w R b v L k ru ne->
  Calls prog 143 #[.pointer (some ⟨R,0,none⟩)] w fun e w'=>∃f,e=.returned (.pointer (some ⟨f,0,none⟩))/\Hid (w.heap.size<=f/\Flt w' f (wrC (gL L k),(gL L k).2.2.2)/\Below w.heap.size w w')):=fun w h=>by
 rw[Vy o];exact z1Q R b v L k ru ne w h o r.len
theorem z1X(R b:Nat)(v:Value)(L:List Tok)(k ru ne:Nat)(o:k<L.length)(r:Ql L):Hid (∀(c:Nat) (w:World),Rd w R b v L k ru ne->
  Calls prog 144 #[.pointer (some ⟨R,0,none⟩),.int .i64 c] w fun e w'=>∃f,e=.returned (.pointer (some ⟨f,0,none⟩))/\Hid (w.heap.size<=f/\Flt w' f (c,(gL L k).2.2.2)/\Below w.heap.size w w')):=fun c w h=>by
 rw[Vy o];exact z1P R b v L k ru ne c w h o r.len
theorem z1Y(R b:Nat)(v:Value)(L:List Tok)(k ru ne:Nat)(o:k<L.length)(r:(gL L k).1=1)(t:Ql L):Hid (∀w:World,Rd w R b v L k ru ne->
  Calls prog 246 #[.pointer (some ⟨R,0,none⟩)] w fun e w'=>e=.returned (.bool (hdB L k))/\Below w.heap.size w w'):=fun w h=>
 z1S R b v L k ru ne w h o (by rw[Vy o]at r;exact r) (t.nxt k o (by rw[r];decide)) t.len
theorem z9B(R b:Nat)(v:Value)(L:List Tok)(k ru ne:Nat)(o:k<L.length)(r:Ql L):Hid (∀w:World,Rd w R b v L k ru ne->
  Calls prog 212 #[.pointer (some ⟨R,0,none⟩)] w fun e w'=>e=.returned (.bool (ptB L k (gL L k)))/\Below w.heap.size w w'):=fun w h=>by
 rw[Vy o];exact z9u R b v L k ru ne w h o (fun t=>r.nxt k o (by rw[Vy o,t];decide)) (fun y=>by have:=r.sgn k (by rw[Vy o];exact y);rw[Vy o]at this;exact this) r.len
theorem z9C(B R b:Nat)(v:Value)(L:List Tok)(k ru ne:Nat)(w:World)(h:Rd w R b v L k ru ne)(o:k<L.length)(r:(gL L k).1=3)(t:Ql L)(y:B<=w.heap.size):
  Calls prog 270 #[.pointer (some ⟨R,0,none⟩)] w fun e w'=>Qd (.inr (.mk 2 (gL L k).2.1 (gL L k).2.2.1 [] (gL L k).2.2.2,k+1)) B R b v L ru ne w e w':=
 z9w B R b v L k ru ne _ _ _ w h o (by rw[Vy o]at r ⊢;rw[<-r]) t.len y
theorem z9D(B R b:Nat)(v:Value)(L:List Tok)(k ru ne:Nat)(w:World)(h:Rd w R b v L k ru ne)(o:k<L.length)(r:(gL L k).1=4)(t:Ql L)(y:B<=w.heap.size):
  Calls prog 270 #[.pointer (some ⟨R,0,none⟩)] w fun e w'=>Qd (.inr (.mk 3 (gL L k).2.1 (gL L k).2.2.1 [] (gL L k).2.2.2,k+1)) B R b v L ru ne w e w':=
 z9x B R b v L k ru ne _ _ _ w h o (by rw[Vy o]at r ⊢;rw[<-r]) t.len y
theorem Qy{o a1 a2 a3 a4 r t y:Value}(h:w.heap[g]? =some (.cells #[o,a1,a2,a3,a4,r,t,y] 81)):
  (w.cell? ⟨g,0,none⟩=some o/\w.cell? ⟨g,1,none⟩=some a1/\w.cell? ⟨g,2,none⟩=some a2/\w.cell? ⟨g,3,none⟩=some a3/\w.cell? ⟨g,4,none⟩=some a4/\w.cell? ⟨g,5,none⟩=some r/\w.cell? ⟨g,6,none⟩=some t/\w.cell? ⟨g,7,none⟩=some y)/\
  (w.frozen? ⟨g,0,none⟩=false/\w.frozen? ⟨g,1,none⟩=false/\w.frozen? ⟨g,2,none⟩=false/\w.frozen? ⟨g,3,none⟩=false/\w.frozen? ⟨g,4,none⟩=false/\w.frozen? ⟨g,5,none⟩=false/\w.frozen? ⟨g,6,none⟩=false/\w.frozen? ⟨g,7,none⟩=false):=by
 refine⟨⟨?_,?_,?_,?_,?_,?_,?_,?_⟩,⟨?_,?_,?_,?_,?_,?_,?_,?_⟩⟩<;>simp[World.cell?,World.frozen?,h]
@[reducible] def Zo:Obj:=.cells #[.int .i64 0,.string ⟨#[]⟩,.int .u64 0,.int .u64 0,.int .u64 0,.int .u64 0,.slice none 0 0,.int .i64 0] 81
def En(w:World)(R b:Nat)(v:Value)(L:List Tok)(k ru ne:Nat)(W:World):Prop:=
 Rd W R b v L k ru ne/\w.grownBy W (some R)/\W.heap[w.heap.size]? =some Zo/\R<w.heap.size/\(∀g,w.heap.size<=g->v.ownBlock≠some g)
theorem En.start{ne:Nat}(h:Rd w R b v L k ru ne):En w R b v L k ru ne (w.alloc Zo):=
 ⟨h.alloc _,G.alloc (G.refl w R),Qx w _ rfl,h.lt,fun g o e=>by have:=(h.2.lt _ e).2;omega⟩
theorem En.size{w W:World}{R b:Nat}{v:Value}{L:List Tok}{k ru ne:Nat}(h:En w R b v L k ru ne W):w.heap.size<W.heap.size:=by
 rcases Nat.lt_or_ge w.heap.size W.heap.size with o|o
 ·exact o
 ·have:=h.2.2.1;rw[Array.getElem?_eq_none o]at this;cases this
theorem En.grown{W':World}{ne:Nat}(h:En w R b v L k ru ne W)(r:Rd W' R b v L k' ru ne)(o:W.grownBy W' (some R)):En w R b v L k' ru ne W':=
 ⟨r,G.trans h.2.1 o,(o.block _ h.size (fun e=>by have:=Option.some.inj e;have:=h.2.2.2.1;omega)).trans h.2.2.1,h.2.2.2.1,h.2.2.2.2⟩
theorem En.below{w W W':World}{R b:Nat}{v:Value}{L:List Tok}{k ru ne:Nat}(h:En w R b v L k ru ne W)(o:Below W.heap.size W W'):En w R b v L k ru ne W':=
 h.grown (h.1.below o) (G.below o)
theorem En.alloc{w W:World}{R b:Nat}{v:Value}{L:List Tok}{k ru ne:Nat}(h:En w R b v L k ru ne W)(o:Obj):En w R b v L k ru ne (W.alloc o):=
 h.below (B0q.alloc L0q _)
theorem En.next{w W:World}{R b:Nat}{v:Value}{L:List Tok}{k ru ne:Nat}(h:En w R b v L k ru ne W):En w R b v L (k+1) ru ne (W.setCell ⟨R,1,none⟩ (.int .i64 ((k:Int)+1))):=
 h.grown h.1.next1 (G.setR (G.refl W R))
theorem En.other{w W:World}{R b g j:Nat}{v u:Value}{L:List Tok}{k ru ne:Nat}(h:En w R b v L k ru ne W)(o:w.heap.size<g):En w R b v L k ru ne (W.setCell ⟨g,j,none⟩ u):=
 ⟨h.1.other (by have:=h.2.2.2.1;omega) (h.2.2.2.2 g (by omega)),G.setN h.2.1 (by omega),(Below.heap_setCell _ _ _ _ (show w.heap.size≠g by omega)).trans h.2.2.1,h.2.2.2.1,h.2.2.2.2⟩
theorem En.lt{ne:Nat}(h:En w R b v L k ru ne W):R<w.heap.size:=h.2.2.2.1
theorem En.fin{B:Nat}{sv:Value}{ne kd C p:Nat}{T:ByteArray}(h:En w R b v L k ru ne W)(y:Qh W (fun g=>w.heap.size+1<=g) n (n8 kd T C sv p))(D:B<=w.heap.size):
  Qd (.inr (n,k)) B R b v L ru ne w (.returned (.agg (n8 kd T C sv p).toArray)) (st8 W w.heap.size (kd:Int) T (wd C 0:Nat) (wd C 1:Nat) (wd C 2:Nat) (wd C 3:Nat) sv (p:Int)):=by
 have o:w.heap.size≠R:=by have:=h.lt;omega
 have r:=h.2.2.2.2 w.heap.size L0q;have t:=Nat.le_refl w.heap.size;refine⟨_,rfl,hid ?_,hid ((((((((h.1.other o r).other o r).other o r).other o r).other o r).other o r).other o r).other o r),hid (G.setN (G.setN (G.setN (G.setN (G.setN (G.setN (G.setN (G.setN h.2.1 t) t) t) t) t) t) t) t)⟩;refine Qh.kept (fun g cur E I=>⟨?_,by omega⟩) n _ y;have A:∀j:Nat,g≠(⟨w.heap.size,j,none⟩:Addr).block:=fun j e=>by have U:g=w.heap.size:=e;omega
 have s:∀(V:World) (j:Nat) (u:Value),(V.setCell ⟨w.heap.size,j,none⟩ u).heap[g]? =V.heap[g]? :=fun V j u=>Below.heap_setCell _ _ _ _ (A j)
 unfold st8;rw[s,s,s,s,s,s,s,s]
theorem En.cells{ne:Nat}(h:En w R b v L k ru ne W):
 (W.cell? ⟨w.heap.size,0,none⟩=some (.int .i64 0)/\W.cell? ⟨w.heap.size,1,none⟩=some (.string ⟨#[]⟩)/\W.cell? ⟨w.heap.size,2,none⟩=some (.int .u64 0)/\W.cell? ⟨w.heap.size,3,none⟩=some (.int .u64 0)/\W.cell? ⟨w.heap.size,4,none⟩=some (.int .u64 0)/\W.cell? ⟨w.heap.size,5,none⟩=some (.int .u64 0)/\W.cell? ⟨w.heap.size,6,none⟩=some (.slice none 0 0)/\W.cell? ⟨w.heap.size,7,none⟩=some (.int .i64 0))/\
 (W.frozen? ⟨w.heap.size,0,none⟩=false/\W.frozen? ⟨w.heap.size,1,none⟩=false/\W.frozen? ⟨w.heap.size,2,none⟩=false/\W.frozen? ⟨w.heap.size,3,none⟩=false/\W.frozen? ⟨w.heap.size,4,none⟩=false/\W.frozen? ⟨w.heap.size,5,none⟩=false/\W.frozen? ⟨w.heap.size,6,none⟩=false/\W.frozen? ⟨w.heap.size,7,none⟩=false):=Qy h.2.2.1
theorem Qd.up{c:Nat×Nat}{B B':Nat}{ne ne' t:Nat}{e:Ending}(o:En w R b v L k ru t W)(h:Qd (.inl c) B' R b v L ru ne' W e w'):Qd (.inl c) B R b v L ru ne w e w':=by
 obtain⟨f,y,r,A⟩:=h;exact⟨f,y,hid ⟨by have:=r.out.1;have:=o.size;omega,r.out.2⟩,hid (G.trans o.2.1 A.out)⟩
end Go.Proofs.YtgnkkgcgbeianaaGreatDoor
