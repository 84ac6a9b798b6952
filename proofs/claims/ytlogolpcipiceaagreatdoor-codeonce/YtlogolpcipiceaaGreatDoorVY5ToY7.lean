/- Lemmas for the last text. Conditions: those that each names. -/
import Derived.Test.YtlogolpcipiceaaGreatDoorVY3ToY4
import Derived.WalkLawsBesides
set_option linter.unusedVariables false
set_option maxRecDepth 100000
set_option maxHeartbeats 8000000
namespace Go.Proofs.YtlogolpcipiceaaGreatDoor
open Go.Proofs.Tryz
open Go.RowKit
variable {W w w':World} {R b g j k k' ru:Nat} {u v:Value} {L:List Tok} {n:Nd}
abbrev Pr:=(Nat×Nat) ⊕ (Nd×Nat)
def Qf(r:Pr)(B R b:Nat)(v:Value)(L:List Tok)(ru ne:Nat)(w:World)(e:Ending)(w':World):Prop:=
 match r with
 | .inr (n,k')=>∃cs:List Value,e=.returned (.agg cs.toArray)/\Hid (Qy w' (fun g=>B<=g) n cs)/\Hid (Rd w' R b v L k' ru ne)/\Hid (w.grownBy w' (some R))
 | .inl c=>∃f,e=.panicked [{v:=.iface 95 (.pointer (some ⟨f,0,none⟩)),recovered:=false}]/\Hid (w.heap.size<=f/\Flt w' f c)/\Hid (w.grownBy w' (some R))
theorem Rd.other{ne:Nat}(h:Rd w R b v L k ru ne)(hg:g≠R)(hv:v.ownBlock≠some g):Rd (w.setCell ⟨g,j,none⟩ u) R b v L k ru ne:=
 ⟨(Below.heap_setCell _ _ _ _ (Ne.symm hg)).trans h.1,h.2.kept (row:=some g) ⟨rfl,rfl,rfl,by simp,fun i hi hne=>Below.heap_setCell _ _ _ _ (fun e=>hne (by rw[e]))⟩ (.inr hv)⟩
theorem G.below(h:Below w.heap.size w w'):w.grownBy w' (some R):=⟨h.os,h.tape,h.output,h.size,fun j hj _=>h.block j hj⟩
theorem G.setR(h:w.grownBy w' (some R)):w.grownBy (w'.setCell ⟨R,j,none⟩ u) (some R):=
 ⟨h.os,h.tape,h.output,by simpa using h.size,fun i hi hne=>(Below.heap_setCell _ _ _ _ (fun e=>hne (by rw[e]))).trans (h.block i hi hne)⟩
theorem G.setN(h:w.grownBy w' (some R))(hg:w.heap.size<=g):w.grownBy (w'.setCell ⟨g,j,none⟩ u) (some R):=
 ⟨h.os,h.tape,h.output,by simpa using h.size,fun i hi hne=>(Below.heap_setCell _ _ _ _ (fun e=>by have e2:i=g:=e;omega)).trans (h.block i hi hne)⟩
theorem G.alloc{w w':World}{r:Option Nat}{o:Obj}(h:w.grownBy w' r):w.grownBy (w'.alloc o) r:=
 ⟨h.os,h.tape,h.output,by have:=h.size;simp;omega,fun i hi hne=>(Below.heap_alloc w' o i (Nat.lt_of_lt_of_le hi h.size)).trans (h.block i hi hne)⟩
@[reducible] def st8 (w:World) (g:Nat) (kd:Int) (T:ByteArray) (c0 c1 c2 c3:Int) (sv:Value) (p:Int):World:=(((((((w.setCell ⟨g,0,none⟩ (.int .i64 kd)).setCell ⟨g,1,none⟩ (.string T)).setCell ⟨g,2,none⟩ (.int .u64 c0)).setCell ⟨g,3,none⟩ (.int .u64 c1)).setCell ⟨g,4,none⟩ (.int .u64 c2)).setCell ⟨g,5,none⟩ (.int .u64 c3)).setCell ⟨g,6,none⟩ sv).setCell ⟨g,7,none⟩ (.int .i64 p)
theorem Vg{a0 a1 a2 a3 a4 a5 a6 a7:Value}(h:w.heap[g]? =some (.cells #[a0,a1,a2,a3,a4,a5,a6,a7] 71))(kd:Int)(T:ByteArray)(c0 c1 c2 c3:Int)(sv:Value)(p:Int):
  (st8 w g kd T c0 c1 c2 c3 sv p).heap[g]? =some (.cells #[.int .i64 kd,.string T,.int .u64 c0,.int .u64 c1,.int .u64 c2,.int .u64 c3,sv,.int .i64 p] 71):=by
 simp only[World.setCell,Array.getElem?_modify,if_true,Option.map_map];rw[h];simp
theorem z6t(B R b:Nat)(v:Value)(L:List Tok)(k ru ne:Nat)(T:ByteArray)(C p:Nat)(w:World)(h:Rd w R b v L k ru ne)(hk:k<L.length)(ht:L[k]=(3,T,C,p))(hl:L.length<=10000)(hB:B<=w.heap.size):
  Calls prog 282 #[.pointer (some ⟨R,0,none⟩)] w fun e w'=>Qf (.inr (.mk 2 T C [] p,k+1)) B R b v L ru ne w e w':=by
 have fd0:=Tryz.fld0;have HT:Hid (∀w:World,Rd w R b v L k ru ne->Calls prog 132 #[.pointer (some ⟨R,0,none⟩)] w fun e w'=>e=.returned (tkv (3,T,C,p))/\Below w.heap.size w w'):=fun w h=>ht▸Jp R b v L k ru ne w h hk hl
 have HR:Hid (Rd w R b v L k ru ne):=h;have hRl:=h.lt;obtain⟨W,hW⟩:∃W,W=w.alloc (.cells #[.int .i64 0,.string ⟨#[]⟩,.int .u64 0,.int .u64 0,.int .u64 0,.int .u64 0,.slice none 0 0,.int .i64 0] 71):=⟨_,rfl⟩;have HBW:Hid (Below w.heap.size w W):=by show Below _ _ _;rw[hW];exact B0q.alloc L0q _
 clear h ht;go_enter func282,ntmps282
 go_wp2_with fail
 rw[<-hW];refine(HT.out W (HR.out.below HBW.out)).mono ?_;rintro e w1 ⟨rfl,hb1⟩;have HB1:Hid (Below w.heap.size w w1):=HBW.out.trans (hb1.mono HBW.out.size);have HR1:Hid (Rd w1 R b v L k ru ne):=(HR.out.below HBW.out).below hb1;obtain⟨r0,r1,r2,r3,q0,q1,q2,q3⟩:=HR1.out.cells;have hR1:=HR1.out.lt;have hw1:W.heap.size<=w1.heap.size:=hb1.size;have HK:Hid (w1.heap[w.heap.size]? =some (.cells #[.int .i64 0,.string ⟨#[]⟩,.int .u64 0,.int .u64 0,.int .u64 0,.int .u64 0,.slice none 0 0,.int .i64 0] 71)):=by
  show _=_;rw[hb1.block w.heap.size (by rw[hW];simp),hW];exact Qx w _ rfl
 obtain⟨k0,k1,k2,k3,k4,k5,k6,k7⟩:w1.cell? ⟨w.heap.size,0,none⟩=some (.int .i64 0)/\w1.cell? ⟨w.heap.size,1,none⟩=some (.string ⟨#[]⟩)/\w1.cell? ⟨w.heap.size,2,none⟩=some (.int .u64 0)/\w1.cell? ⟨w.heap.size,3,none⟩=some (.int .u64 0)/\w1.cell? ⟨w.heap.size,4,none⟩=some (.int .u64 0)/\w1.cell? ⟨w.heap.size,5,none⟩=some (.int .u64 0)/\w1.cell? ⟨w.heap.size,6,none⟩=some (.slice none 0 0)/\w1.cell? ⟨w.heap.size,7,none⟩=some (.int .i64 0):=by
  refine⟨?_,?_,?_,?_,?_,?_,?_,?_⟩<;>simp[World.cell?,HK.out]
 obtain⟨f0,f1,f2,f3,f4,f5,f6,f7⟩:w1.frozen? ⟨w.heap.size,0,none⟩=false/\w1.frozen? ⟨w.heap.size,1,none⟩=false/\w1.frozen? ⟨w.heap.size,2,none⟩=false/\w1.frozen? ⟨w.heap.size,3,none⟩=false/\w1.frozen? ⟨w.heap.size,4,none⟩=false/\w1.frozen? ⟨w.heap.size,5,none⟩=false/\w1.frozen? ⟨w.heap.size,6,none⟩=false/\w1.frozen? ⟨w.heap.size,7,none⟩=false:=by
  refine⟨?_,?_,?_,?_,?_,?_,?_,?_⟩<;>simp[World.frozen?,HK.out]
 have hws:w.heap.size<w1.heap.size:=by have hWs:w.heap.size<W.heap.size:=(by rw[hW];simp)
                                       omega
 have hRne:R≠w.heap.size:=by omega
 clear hb1 hW;dsimp only[tkv]
 go_wp2_with fail
 have hX:(w1.setCell ⟨R,1,none⟩ (.int .i64 ((k:Int)+1))).heap[w.heap.size]? =some (.cells #[.int .i64 0,.string ⟨#[]⟩,.int .u64 0,.int .u64 0,.int .u64 0,.int .u64 0,.slice none 0 0,.int .i64 0] 71):=(Below.heap_setCell _ _ _ _ (Ne.symm hRne)).trans HK.out;have hY:=Vg hX 2 T (wd C 0:Nat) (wd C 1:Nat) (wd C 2:Nat) (wd C 3:Nat) (.slice none 0 0) (p:Int);have hZ:∀o1 o2:Obj,(((st8 (w1.setCell ⟨R,1,none⟩ (.int .i64 ((k:Int)+1))) w.heap.size 2 T (wd C 0:Nat) (wd C 1:Nat) (wd C 2:Nat) (wd C 3:Nat) (.slice none 0 0) (p:Int)).alloc o1).alloc o2).heap[w.heap.size]? =some (.cells #[.int .i64 2,.string T,.int .u64 (wd C 0),.int .u64 (wd C 1),.int .u64 (wd C 2),.int .u64 (wd C 3),.slice none 0 0,.int .i64 p] 71):=fun o1 o2=>
  (Below.heap_alloc _ o2 _ (by simp;omega)).trans ((Below.heap_alloc _ o1 _ (by simp;omega)).trans hY)
 have hZ1:=hZ (.cells #[.int .i64 3,.string T,.int .u64 (wd C 0),.int .u64 (wd C 1),.int .u64 (wd C 2),.int .u64 (wd C 3),.int .i64 p] 183) (.cells #[.int .i64 2,.string T,.int .u64 (wd C 0),.int .u64 (wd C 1),.int .u64 (wd C 2),.int .u64 (wd C 3),.slice none 0 0,.int .i64 p] 71);obtain⟨FW,hFW⟩:∃FW,FW=((st8 (w1.setCell ⟨R,1,none⟩ (.int .i64 ((k:Int)+1))) w.heap.size 2 T (wd C 0:Nat) (wd C 1:Nat) (wd C 2:Nat) (wd C 3:Nat) (.slice none 0 0) (p:Int)).alloc (.cells #[.int .i64 3,.string T,.int .u64 (wd C 0),.int .u64 (wd C 1),.int .u64 (wd C 2),.int .u64 (wd C 3),.int .i64 p] 183)).alloc (.cells #[.int .i64 2,.string T,.int .u64 (wd C 0),.int .u64 (wd C 1),.int .u64 (wd C 2),.int .u64 (wd C 3),.slice none 0 0,.int .i64 p] 71):=⟨_,rfl⟩;rw[<-hFW]at hZ1 ⊢
 (try simp only[Exit.inBlock,Exit.then])
 have c0:FW.cell? ⟨w.heap.size,0,none⟩=some (.int .i64 2):=by simp[World.cell?,hZ1]
 have c1:FW.cell? ⟨w.heap.size,1,none⟩=some (.string T):=by simp[World.cell?,hZ1]
 have c2:FW.cell? ⟨w.heap.size,2,none⟩=some (.int .u64 (wd C 0)):=by simp[World.cell?,hZ1]
 have c3:FW.cell? ⟨w.heap.size,3,none⟩=some (.int .u64 (wd C 1)):=by simp[World.cell?,hZ1]
 have c4:FW.cell? ⟨w.heap.size,4,none⟩=some (.int .u64 (wd C 2)):=by simp[World.cell?,hZ1]
 have c5:FW.cell? ⟨w.heap.size,5,none⟩=some (.int .u64 (wd C 3)):=by simp[World.cell?,hZ1]
 have c6:FW.cell? ⟨w.heap.size,6,none⟩=some (.slice none 0 0):=by simp[World.cell?,hZ1]
 have c7:FW.cell? ⟨w.heap.size,7,none⟩=some (.int .i64 p):=by simp[World.cell?,hZ1]
 refine bodyPost_ret (v:=.agg (n8 2 T C (.slice none 0 0) p).toArray) (by simp[results,Tryz.results282,go_sem,c0,c1,c2,c3,c4,c5,c6,c7]) rfl ?_;have hv:v.ownBlock≠some w.heap.size:=fun e=>by have:=(HR.out.2.lt _ e).2;omega
 have hN:Rd (w1.setCell ⟨R,1,none⟩ (.int .i64 ((k:Int)+1))) R b v L (k+1) ru ne:=by
  have:=HR1.out.next (k+1);rw[show(((k+1:Nat):Int))=(k:Int)+1 by omega]at this;exact this
 refine⟨_,rfl,hid (by rw[Qy];exact⟨_,rfl,.inl ⟨rfl,rfl⟩⟩),hid ?_,hid ?_⟩
 ·rw[hFW]
  exact(((((((((hN.other (Ne.symm hRne) hv).other (Ne.symm hRne) hv).other (Ne.symm hRne) hv).other (Ne.symm hRne) hv).other (Ne.symm hRne) hv).other (Ne.symm hRne) hv).other (Ne.symm hRne) hv).other (Ne.symm hRne) hv).below (B0q.alloc L0q _)).below (B0q.alloc L0q _)
 ·rw[hFW]
  have hg:=Nat.le_refl w.heap.size;exact G.alloc (G.alloc (G.setN (G.setN (G.setN (G.setN (G.setN (G.setN (G.setN (G.setN (G.setR (G.below HB1.out)) hg) hg) hg) hg) hg) hg) hg) hg))
theorem z6u(B R b:Nat)(v:Value)(L:List Tok)(k ru ne:Nat)(T:ByteArray)(C p:Nat)(w:World)(h:Rd w R b v L k ru ne)(hk:k<L.length)(ht:L[k]=(4,T,C,p))(hl:L.length<=10000)(hB:B<=w.heap.size):
  Calls prog 282 #[.pointer (some ⟨R,0,none⟩)] w fun e w'=>Qf (.inr (.mk 3 T C [] p,k+1)) B R b v L ru ne w e w':=by
 have fd0:=Tryz.fld0;have HT:Hid (∀w:World,Rd w R b v L k ru ne->Calls prog 132 #[.pointer (some ⟨R,0,none⟩)] w fun e w'=>e=.returned (tkv (4,T,C,p))/\Below w.heap.size w w'):=fun w h=>ht▸Jp R b v L k ru ne w h hk hl
 have HR:Hid (Rd w R b v L k ru ne):=h;have hRl:=h.lt;obtain⟨W,hW⟩:∃W,W=w.alloc (.cells #[.int .i64 0,.string ⟨#[]⟩,.int .u64 0,.int .u64 0,.int .u64 0,.int .u64 0,.slice none 0 0,.int .i64 0] 71):=⟨_,rfl⟩;have HBW:Hid (Below w.heap.size w W):=by show Below _ _ _;rw[hW];exact B0q.alloc L0q _
 clear h ht;go_enter func282,ntmps282
 go_wp2_with fail
 rw[<-hW];refine(HT.out W (HR.out.below HBW.out)).mono ?_;rintro e w1 ⟨rfl,hb1⟩;have HB1:Hid (Below w.heap.size w w1):=HBW.out.trans (hb1.mono HBW.out.size);have HR1:Hid (Rd w1 R b v L k ru ne):=(HR.out.below HBW.out).below hb1;obtain⟨r0,r1,r2,r3,q0,q1,q2,q3⟩:=HR1.out.cells;have hR1:=HR1.out.lt;have hw1:W.heap.size<=w1.heap.size:=hb1.size;have HK:Hid (w1.heap[w.heap.size]? =some (.cells #[.int .i64 0,.string ⟨#[]⟩,.int .u64 0,.int .u64 0,.int .u64 0,.int .u64 0,.slice none 0 0,.int .i64 0] 71)):=by
  show _=_;rw[hb1.block w.heap.size (by rw[hW];simp),hW];exact Qx w _ rfl
 obtain⟨k0,k1,k2,k3,k4,k5,k6,k7⟩:w1.cell? ⟨w.heap.size,0,none⟩=some (.int .i64 0)/\w1.cell? ⟨w.heap.size,1,none⟩=some (.string ⟨#[]⟩)/\w1.cell? ⟨w.heap.size,2,none⟩=some (.int .u64 0)/\w1.cell? ⟨w.heap.size,3,none⟩=some (.int .u64 0)/\w1.cell? ⟨w.heap.size,4,none⟩=some (.int .u64 0)/\w1.cell? ⟨w.heap.size,5,none⟩=some (.int .u64 0)/\w1.cell? ⟨w.heap.size,6,none⟩=some (.slice none 0 0)/\w1.cell? ⟨w.heap.size,7,none⟩=some (.int .i64 0):=by
  refine⟨?_,?_,?_,?_,?_,?_,?_,?_⟩<;>simp[World.cell?,HK.out]
 obtain⟨f0,f1,f2,f3,f4,f5,f6,f7⟩:w1.frozen? ⟨w.heap.size,0,none⟩=false/\w1.frozen? ⟨w.heap.size,1,none⟩=false/\w1.frozen? ⟨w.heap.size,2,none⟩=false/\w1.frozen? ⟨w.heap.size,3,none⟩=false/\w1.frozen? ⟨w.heap.size,4,none⟩=false/\w1.frozen? ⟨w.heap.size,5,none⟩=false/\w1.frozen? ⟨w.heap.size,6,none⟩=false/\w1.frozen? ⟨w.heap.size,7,none⟩=false:=by
  refine⟨?_,?_,?_,?_,?_,?_,?_,?_⟩<;>simp[World.frozen?,HK.out]
 have hws:w.heap.size<w1.heap.size:=by have hWs:w.heap.size<W.heap.size:=(by rw[hW];simp)
                                       omega
 have hRne:R≠w.heap.size:=by omega
 clear hb1 hW;dsimp only[tkv]
 go_wp2_with fail
 have hX:(w1.setCell ⟨R,1,none⟩ (.int .i64 ((k:Int)+1))).heap[w.heap.size]? =some (.cells #[.int .i64 0,.string ⟨#[]⟩,.int .u64 0,.int .u64 0,.int .u64 0,.int .u64 0,.slice none 0 0,.int .i64 0] 71):=(Below.heap_setCell _ _ _ _ (Ne.symm hRne)).trans HK.out;have hY:=Vg hX 3 T (wd C 0:Nat) (wd C 1:Nat) (wd C 2:Nat) (wd C 3:Nat) (.slice none 0 0) (p:Int);have hZ:∀o1 o2:Obj,(((st8 (w1.setCell ⟨R,1,none⟩ (.int .i64 ((k:Int)+1))) w.heap.size 3 T (wd C 0:Nat) (wd C 1:Nat) (wd C 2:Nat) (wd C 3:Nat) (.slice none 0 0) (p:Int)).alloc o1).alloc o2).heap[w.heap.size]? =some (.cells #[.int .i64 3,.string T,.int .u64 (wd C 0),.int .u64 (wd C 1),.int .u64 (wd C 2),.int .u64 (wd C 3),.slice none 0 0,.int .i64 p] 71):=fun o1 o2=>
  (Below.heap_alloc _ o2 _ (by simp;omega)).trans ((Below.heap_alloc _ o1 _ (by simp;omega)).trans hY)
 have hZ1:=hZ (.cells #[.int .i64 4,.string T,.int .u64 (wd C 0),.int .u64 (wd C 1),.int .u64 (wd C 2),.int .u64 (wd C 3),.int .i64 p] 183) (.cells #[.int .i64 3,.string T,.int .u64 (wd C 0),.int .u64 (wd C 1),.int .u64 (wd C 2),.int .u64 (wd C 3),.slice none 0 0,.int .i64 p] 71);obtain⟨FW,hFW⟩:∃FW,FW=((st8 (w1.setCell ⟨R,1,none⟩ (.int .i64 ((k:Int)+1))) w.heap.size 3 T (wd C 0:Nat) (wd C 1:Nat) (wd C 2:Nat) (wd C 3:Nat) (.slice none 0 0) (p:Int)).alloc (.cells #[.int .i64 4,.string T,.int .u64 (wd C 0),.int .u64 (wd C 1),.int .u64 (wd C 2),.int .u64 (wd C 3),.int .i64 p] 183)).alloc (.cells #[.int .i64 3,.string T,.int .u64 (wd C 0),.int .u64 (wd C 1),.int .u64 (wd C 2),.int .u64 (wd C 3),.slice none 0 0,.int .i64 p] 71):=⟨_,rfl⟩;rw[<-hFW]at hZ1 ⊢
 (try simp only[Exit.inBlock,Exit.then])
 have c0:FW.cell? ⟨w.heap.size,0,none⟩=some (.int .i64 3):=by simp[World.cell?,hZ1]
 have c1:FW.cell? ⟨w.heap.size,1,none⟩=some (.string T):=by simp[World.cell?,hZ1]
 have c2:FW.cell? ⟨w.heap.size,2,none⟩=some (.int .u64 (wd C 0)):=by simp[World.cell?,hZ1]
 have c3:FW.cell? ⟨w.heap.size,3,none⟩=some (.int .u64 (wd C 1)):=by simp[World.cell?,hZ1]
 have c4:FW.cell? ⟨w.heap.size,4,none⟩=some (.int .u64 (wd C 2)):=by simp[World.cell?,hZ1]
 have c5:FW.cell? ⟨w.heap.size,5,none⟩=some (.int .u64 (wd C 3)):=by simp[World.cell?,hZ1]
 have c6:FW.cell? ⟨w.heap.size,6,none⟩=some (.slice none 0 0):=by simp[World.cell?,hZ1]
 have c7:FW.cell? ⟨w.heap.size,7,none⟩=some (.int .i64 p):=by simp[World.cell?,hZ1]
 refine bodyPost_ret (v:=.agg (n8 3 T C (.slice none 0 0) p).toArray) (by simp[results,Tryz.results282,go_sem,c0,c1,c2,c3,c4,c5,c6,c7]) rfl ?_;have hv:v.ownBlock≠some w.heap.size:=fun e=>by have:=(HR.out.2.lt _ e).2;omega
 have hN:Rd (w1.setCell ⟨R,1,none⟩ (.int .i64 ((k:Int)+1))) R b v L (k+1) ru ne:=by
  have:=HR1.out.next (k+1);rw[show(((k+1:Nat):Int))=(k:Int)+1 by omega]at this;exact this
 refine⟨_,rfl,hid (by rw[Qy];exact⟨_,rfl,.inl ⟨rfl,rfl⟩⟩),hid ?_,hid ?_⟩
 ·rw[hFW]
  exact(((((((((hN.other (Ne.symm hRne) hv).other (Ne.symm hRne) hv).other (Ne.symm hRne) hv).other (Ne.symm hRne) hv).other (Ne.symm hRne) hv).other (Ne.symm hRne) hv).other (Ne.symm hRne) hv).other (Ne.symm hRne) hv).below (B0q.alloc L0q _)).below (B0q.alloc L0q _)
 ·rw[hFW]
  have hg:=Nat.le_refl w.heap.size;exact G.alloc (G.alloc (G.setN (G.setN (G.setN (G.setN (G.setN (G.setN (G.setN (G.setN (G.setR (G.below HB1.out)) hg) hg) hg) hg) hg) hg) hg) hg))
theorem z6v(B R b:Nat)(v:Value)(L:List Tok)(k ru ne:Nat)(t:Tok)(w:World)(h:Rd w R b v L k ru ne)(hk:k<L.length)(ht:L[k]=t)(h1:t.1≠1)(h3:t.1≠3)(h4:t.1≠4)(hd:¬sgT t={data:=#[46]})(hp:¬sgT t={data:=#[40]})(hl:L.length<=10000)(hB:B<=w.heap.size):
  Calls prog 282 #[.pointer (some ⟨R,0,none⟩)] w fun e w'=>Qf (.inl (wrC t,t.2.2.2)) B R b v L ru ne w e w':=by
 have fd0:=Tryz.fld0;have HT:Hid (∀w:World,Rd w R b v L k ru ne->Calls prog 132 #[.pointer (some ⟨R,0,none⟩)] w fun e w'=>e=.returned (tkv t)/\Below w.heap.size w w'):=fun w h=>ht▸Jp R b v L k ru ne w h hk hl
 have HS:Hid (∀w:World,Rd w R b v L k ru ne->Calls prog 197 #[.pointer (some ⟨R,0,none⟩)] w fun e w'=>e=.returned (.string (sgT t))/\Below w.heap.size w w'):=fun w h=>ht▸Ih R b v L k ru ne w h hk hl
 have HW:Hid (∀w:World,Rd w R b v L k ru ne->Calls prog 164 #[.pointer (some ⟨R,0,none⟩)] w fun e w'=>∃f,e=.returned (.pointer (some ⟨f,0,none⟩))/\Hid (w.heap.size<=f/\Flt w' f (wrC t,t.2.2.2)/\Below w.heap.size w w')):=fun w h=>ht▸z0q R b v L k ru ne w h hk hl
 have HR:Hid (Rd w R b v L k ru ne):=h;obtain⟨Z,hZ⟩:∃Z,Z=sgT t:=⟨_,rfl⟩;rw[<-hZ]at HS hd hp;have s1:(Z.toList == [46])=false:=Jw hd;have s2:(Z.toList == [40])=false:=Jw hp;obtain⟨kd,T,C,p⟩:=t;have t1:((kd:Int) == 1)=false:=by have h1':kd≠1:=h1;simp;omega
 have t3:((kd:Int) == 3)=false:=by have h1':kd≠3:=h3;simp;omega
 have t4:((kd:Int) == 4)=false:=by have h1':kd≠4:=h4;simp;omega
 obtain⟨W,hW⟩:∃W,W=w.alloc (.cells #[.int .i64 0,.string ⟨#[]⟩,.int .u64 0,.int .u64 0,.int .u64 0,.int .u64 0,.slice none 0 0,.int .i64 0] 71):=⟨_,rfl⟩;have HBW:Hid (Below w.heap.size w W):=by show Below _ _ _;rw[hW];exact B0q.alloc L0q _
 clear h ht hd hp hZ h1 h3 h4;go_enter func282,ntmps282
 go_wp2_with fail
 rw[<-hW];clear hW;refine(HT.out W (HR.out.below HBW.out)).mono ?_;rintro e w1 ⟨rfl,hb1⟩;have HB1:Hid (Below w.heap.size w w1):=HBW.out.trans (hb1.mono HBW.out.size);clear hb1 HT;dsimp only[tkv];have HB2:∀a c:Obj,Hid (Below w.heap.size w ((w1.alloc a).alloc c)):=fun a c=>(HB1.out.alloc HB1.out.size _).alloc (by have:=HB1.out.size;simp;omega) _
 have HB2':=hid HB2;clear HB2
 go_wp2_with fail
 refine(HS.out _ (HR.out.below (HB2'.out _ _).out)).mono ?_;rintro e w2 ⟨rfl,hb2⟩;have HB3:Hid (Below w.heap.size w w2):=(HB2'.out _ _).out.trans (hb2.mono (HB2'.out _ _).out.size);clear hb2 HB2'
 go_wp2_with fail
 refine(HS.out w2 (HR.out.below HB3.out)).mono ?_;rintro e w3 ⟨rfl,hb3⟩;have HB4:Hid (Below w.heap.size w w3):=HB3.out.trans (hb3.mono HB3.out.size);clear hb3 HB3 HS
 go_wp2_with fail
 refine(HW.out w3 (HR.out.below HB4.out)).mono ?_;rintro e w4 ⟨f,rfl,HP⟩;have HB5:Hid (Below w.heap.size w w4):=HB4.out.trans (HP.out.2.2.mono HB4.out.size);have HF5:Hid (w.heap.size<=f/\Flt w4 f (wrC (kd,T,C,p),p)):=⟨Nat.le_trans HB4.out.size HP.out.1,HP.out.2.1⟩;clear HP HB4 HW
 go_wp2_with fail
 exact⟨rfl,⟨f,rfl,HF5,hid (G.below HB5.out)⟩⟩
def gL(L:List Tok)(k:Nat):Tok:=(L[k]?).getD (6,{data:=#[]},0,0)
theorem Vz(h:k<L.length):gL L k=L[k]:=by
 unfold gL;rw[List.getElem?_eq_getElem h];rfl
structure Qc (L:List Tok):Prop where
 len:L.length<=10000
 nxt:∀k,k<L.length->(gL L k).1≠6->k+1<L.length
 sgn:∀k,(gL L k).1=5->∃x,x<256/\(gL L k).2.1=nb [x]
def Vb(L:List Tok)(inn:Nat->Pr)(k:Nat):Pr:=
 if(gL L k).1=1/\hdB L k=false then .inr (.mk 5 (gL L k).2.1 (gL L k).2.2.1 [] (gL L k).2.2.2,k+1)
 else if(gL L k).1=3 then .inr (.mk 2 (gL L k).2.1 (gL L k).2.2.1 [] (gL L k).2.2.2,k+1)
 else if(gL L k).1=4 then .inr (.mk 3 (gL L k).2.1 (gL L k).2.2.1 [] (gL L k).2.2.2,k+1)
 else if sgT (gL L k)={data:=#[46]}then .inr (.mk 4 {data:=#[]} (gL L k).2.2.1 [] (gL L k).2.2.2,k+1)
 else if sgT (gL L k)={data:=#[40]}then inn k
 else .inl (wrC (gL L k),(gL L k).2.2.2)
def Uh(L:List Tok)(r:Pr):Pr:=match r with
 | .inl e=>.inl e
 | .inr (n,k')=>if rpK (sgT (gL L k'))=0 then .inr (n,k')else .inr (.mk (rpK (sgT (gL L k'))) {data:=#[]} 0 [n] n.at',k'+1)
def Jy(L:List Tok)(inn:Nat->Pr)(k:Nat):Pr:=Uh L (Vb L inn k)
def ovS(kd p:Nat)(r:Pr):Pr:=match r with
 | .inl e=>.inl e
 | .inr (n,k')=>.inr (.mk kd {data:=#[]} 0 [n] p,k')
def Vq(L:List Tok)(inn:Nat->Pr)(k:Nat):Pr:=
 if sgT (gL L k)={data:=#[33]}then ovS 12 (gL L k).2.2.2 (Jy L inn (k+1))
 else if sgT (gL L k)={data:=#[38]}then ovS 11 (gL L k).2.2.2 (Jy L inn (k+1))
 else Jy L inn k
def Zx(L:List Tok)(inn:Nat->Pr):Nat->Nat->List Nd->Pr
 |0,_,_=>.inl (0,0)
 |f+1,k,acc=>if ptB L k (gL L k)=true then(match Vq L inn k with
   | .inl e=>.inl e
   | .inr (n,k')=>Zx L inn f k' (acc++[n]))
  else if acc.isEmpty=true then .inr (.mk 1 {data:=#[]} 0 [] (gL L k).2.2.2,k)else .inr (Yy 6 acc,k)
def Zd(L:List Tok)(inn:Nat->Pr):Nat->Nat->List Nd->Pr
 |0,_,_=>.inl (0,0)
 |f+1,k,acc=>if sgT (gL L k)={data:=#[47]}then(match Zx L inn L.length (k+1) []with
   | .inl e=>.inl e
   | .inr (n,k')=>Zd L inn f k' (acc++[n]))
  else .inr (Yy 7 acc,k)
def chE(L:List Tok)(inn:Nat->Pr)(r:Pr):Pr:=match r with
 | .inl e=>.inl e
 | .inr (n,k')=>Zd L inn L.length k' [n]
def chS(L:List Tok)(inn:Nat->Pr)(k:Nat):Pr:=chE L inn (Zx L inn L.length k [])
def Nf(L:List Tok)(r:Pr):Pr:=match r with
 | .inl e=>.inl e
 | .inr (n,k')=>if sgT (gL L k')={data:=#[41]}then .inr (n,k'+1)else .inl (wrC (gL L k'),(gL L k').2.2.2)
def Zy(L:List Tok):Nat->Nat->Pr
 |0,k=>.inl (2,(gL L k).2.2.2)
 |d+1,k=>Nf L (chS L (Zy L d) (k+1))
def Adv(L:List Tok)(inn:Nat->Pr):Prop:=∀k n k',k<L.length->sgT (gL L k)={data:=#[40]}->inn k=.inr (n,k')->k<k'/\k'<L.length
theorem Gy{t:Tok}{x:UInt8}(h:sgT t={data:=#[x]}):t.1=5:=by
 unfold sgT at h;split at h
 ·assumption
 ·exact absurd (congrArg (fun a:ByteArray=>a.data.size) h) (by simp)
theorem Qc.sg(hg:Qc L){x:UInt8}(hk:k<L.length)(h:sgT (gL L k)={data:=#[x]}):k+1<L.length:=
 hg.nxt k hk (by rw[Gy h];decide)
theorem z0t{inn:Nat->Pr}(hg:Qc L)(ha:Adv L inn)(hk:k<L.length)(h:Vb L inn k=.inr (n,k')):k<k'/\k'<L.length:=by
 unfold Vb at h;split at h
 ·rename_i hc
  simp only[Sum.inr.injEq,Prod.mk.injEq]at h;have:=hg.nxt k hk (by omega);omega
 ·split at h
  ·simp only[Sum.inr.injEq,Prod.mk.injEq]at h
   have:=hg.nxt k hk (by omega);omega
  ·split at h
   ·simp only[Sum.inr.injEq,Prod.mk.injEq]at h
    have:=hg.nxt k hk (by omega);omega
   ·split at h
    ·rename_i hs
     simp only[Sum.inr.injEq,Prod.mk.injEq]at h;have:=hg.sg hk hs;omega
    ·split at h
     ·rename_i hs
      exact ha k n k' hk hs h
     ·cases h
theorem z6w{t:Tok}(h:rpK (sgT t)≠0):t.1=5:=by
 unfold rpK at h;split at h
 ·rename_i hs;exact Gy hs
 ·split at h
  ·rename_i hs;exact Gy hs
  ·split at h
   ·rename_i hs;exact Gy hs
   ·exact absurd rfl h
theorem z6x(hg:Qc L){r:Pr}(hr:∀m j,r=.inr (m,j)->k<j/\j<L.length)(h:Uh L r=.inr (n,k')):k<k'/\k'<L.length:=by
 cases r with
 |inl e=>cases h
 |inr q=>
  obtain⟨m,j⟩:=q;have h1:=hr m j rfl;unfold Uh at h;simp only at h;split at h
  ·simp only[Sum.inr.injEq,Prod.mk.injEq]at h
   omega
  ·rename_i hs
   have:=hg.nxt j h1.2 (by rw[z6w hs];decide);simp only[Sum.inr.injEq,Prod.mk.injEq]at h;omega
theorem Ip{inn:Nat->Pr}(hg:Qc L)(ha:Adv L inn)(hk:k<L.length)(h:Jy L inn k=.inr (n,k')):k<k'/\k'<L.length:=
 z6x hg (fun m j e=>z0t hg ha hk e) h
theorem z0u{kd p:Nat}{r:Pr}(h:ovS kd p r=.inr (n,k')):∃m,r=.inr (m,k'):=by
 cases r with
 |inl e=>cases h
 |inr q=>
  obtain⟨m,j⟩:=q;unfold ovS at h;simp only[Sum.inr.injEq,Prod.mk.injEq]at h;exact⟨m,by rw[h.2]⟩
theorem z0v{inn:Nat->Pr}(hg:Qc L)(ha:Adv L inn)(hk:k<L.length)(h:Vq L inn k=.inr (n,k')):k<k'/\k'<L.length:=by
 unfold Vq at h;split at h
 ·rename_i hs
  obtain⟨m,hm⟩:=z0u h;have:=Ip hg ha (hg.sg hk hs) hm;omega
 ·split at h
  ·rename_i hs
   obtain⟨m,hm⟩:=z0u h;have:=Ip hg ha (hg.sg hk hs) hm;omega
  ·exact Ip hg ha hk h
theorem Ng{L:List Tok}{inn:Nat->Pr}(hg:Qc L)(ha:Adv L inn):∀(f k:Nat) (acc:List Nd) (n:Nd) (k':Nat),k<L.length->Zx L inn f k acc=.inr (n,k')->k<=k'/\k'<L.length
 |0,_,_,_,_,_,h=>by rw[Zx]at h;cases h
 |f+1,k,acc,n,k',hk,h=>by
  rw[Zx]at h;split at h
  ·split at h
   ·cases h
   ·rename_i m j hp
    have h1:=z0v hg ha hk hp;have h2:=Ng hg ha f j (acc++[m]) n k' h1.2 h;omega
  ·split at h
   ·simp only[Sum.inr.injEq,Prod.mk.injEq]at h;omega
   ·simp only[Sum.inr.injEq,Prod.mk.injEq]at h;omega
theorem z0w{L:List Tok}{inn:Nat->Pr}(hg:Qc L)(ha:Adv L inn):∀(f k:Nat) (acc:List Nd) (n:Nd) (k':Nat),k<L.length->Zd L inn f k acc=.inr (n,k')->k<=k'/\k'<L.length
 |0,_,_,_,_,_,h=>by rw[Zd]at h;cases h
 |f+1,k,acc,n,k',hk,h=>by
  rw[Zd]at h;split at h
  ·rename_i hs
   split at h
   ·cases h
   ·rename_i m j hp
    have h1:=Ng hg ha _ _ _ _ _ (hg.sg hk hs) hp;have h2:=z0w hg ha f j (acc++[m]) n k' h1.2 h;omega
  ·simp only[Sum.inr.injEq,Prod.mk.injEq]at h;omega
theorem Ic{inn:Nat->Pr}(hg:Qc L)(ha:Adv L inn)(hk:k<L.length)(h:chS L inn k=.inr (n,k')):k<=k'/\k'<L.length:=by
 unfold chS at h;cases hr:Zx L inn L.length k []with
 |inl e=>rw[hr]at h;cases h
 |inr q=>
  obtain⟨m,j⟩:=q;rw[hr]at h;have h1:=Ng hg ha _ _ _ _ _ hk hr;have h2:=z0w hg ha _ _ _ _ _ h1.2 h;omega
theorem Il{r:Pr}(h:Nf L r=.inr (n,k')):∃j,r=.inr (n,j)/\sgT (gL L j)={data:=#[41]}/\k'=j+1:=by
 cases r with
 |inl e=>cases h
 |inr q=>
  obtain⟨m,j⟩:=q;unfold Nf at h;simp only at h;split at h
  ·rename_i hs
   simp only[Sum.inr.injEq,Prod.mk.injEq]at h;exact⟨j,by rw[h.1],hs,h.2.symm⟩
  ·cases h
theorem Nb{L:List Tok}(hg:Qc L):∀d,Adv L (Zy L d)
 |0=>fun k n k' _ _ h=>by rw[Zy]at h;cases h
 |d+1=>fun k n k' hk hs h=>by
  rw[Zy]at h;obtain⟨j,h1,h2,h3⟩:=Il h;have h4:=Ic hg (Nb hg d) (hg.sg hk hs) h1;have h5:=hg.sg h4.2 h2;omega
theorem Qy.shape{P:Nat->Prop}{c:List Value}(h:Qy w P n c):∃kd T C so sl sc,c=n8 kd T C (.slice so sl sc) n.at':=by
 obtain⟨kd',T,C,subs,p'⟩:=n;rw[Qy]at h;obtain⟨sv,rfl,h2⟩:=h;rcases h2 with⟨_,rfl⟩|⟨_,g,cap,cur,rfl,_⟩
 ·exact⟨kd',T,C,none,0,0,rfl⟩
 ·exact⟨kd',T,C,_,_,cap,rfl⟩
theorem G.trans{w w1 w2:World}{R:Nat}(h:w.grownBy w1 (some R))(h2:w1.grownBy w2 (some R)):w.grownBy w2 (some R):=
 ⟨h2.os.trans h.os,h2.tape.trans h.tape,h2.output.trans h.output,Nat.le_trans h.size h2.size,fun j hj hne=>(h2.block j (Nat.lt_of_lt_of_le hj h.size) hne).trans (h.block j hj hne)⟩
theorem G.refl(w:World)(R:Nat):w.grownBy w (some R):=G.below B0q
theorem G.to{w1 w2:World}(h:w.grownBy w1 (some R))(h2:Below w1.heap.size w1 w2):w.grownBy w2 (some R):=G.trans h (G.below h2)
def St(w:World)(P:Nat->Prop)(n:Nd)(cs:List Value)(R b:Nat)(v:Value)(L:List Tok)(k ru ne:Nat)(W:World):Prop:=
 Qy W P n cs/\Rd W R b v L k ru ne/\w.grownBy W (some R)
theorem St.below{w W W':World}{P:Nat->Prop}{n:Nd}{cs:List Value}{R b:Nat}{v:Value}{L:List Tok}{k ru ne:Nat}(h:St w P n cs R b v L k ru ne W)(hb:Below W.heap.size W W'):St w P n cs R b v L k ru ne W':=
 ⟨h.1.below hb,h.2.1.below hb,G.to h.2.2 hb⟩
theorem St.alloc{w W:World}{P:Nat->Prop}{n:Nd}{cs:List Value}{R b:Nat}{v:Value}{L:List Tok}{k ru ne:Nat}(h:St w P n cs R b v L k ru ne W)(o:Obj):St w P n cs R b v L k ru ne (W.alloc o):=
 h.below (B0q.alloc L0q _)
theorem Rd.next1{ne:Nat}(h:Rd w R b v L k ru ne):Rd (w.setCell ⟨R,1,none⟩ (.int .i64 ((k:Int)+1))) R b v L (k+1) ru ne:=by
 have h2:=h.next (k+1);rw[show(((k+1:Nat):Int))=(k:Int)+1 by omega]at h2;exact h2
theorem Rd.alloc{w:World}{R b:Nat}{v:Value}{L:List Tok}{k ru ne:Nat}(h:Rd w R b v L k ru ne)(o:Obj):Rd (w.alloc o) R b v L k ru ne:=h.below (B0q.alloc L0q _)
def MC(F:Nat)(sp:Nat->Pr)(ok:Nat->Prop)(R b:Nat)(v:Value)(L:List Tok)(ru ne:Nat):Prop:=
 ∀(k B:Nat) (w:World),Rd w R b v L k ru ne->k<L.length->ok k->B<=w.heap.size->Calls prog F #[.pointer (some ⟨R,0,none⟩)] w fun e w'=>Qf (sp k) B R b v L ru ne w e w'
theorem Jf(R b:Nat)(v:Value)(L:List Tok)(k ru ne:Nat)(hk:k<L.length)(hg:Qc L):Hid (∀w:World,Rd w R b v L k ru ne->
  Calls prog 132 #[.pointer (some ⟨R,0,none⟩)] w fun e w'=>e=.returned (tkv (gL L k))/\Below w.heap.size w w'):=fun w h=>by
 rw[Vz hk];exact Jp R b v L k ru ne w h hk hg.len
theorem Gf(R b:Nat)(v:Value)(L:List Tok)(k ru ne:Nat)(hk:k<L.length)(hg:Qc L):Hid (∀w:World,Rd w R b v L k ru ne->
  Calls prog 197 #[.pointer (some ⟨R,0,none⟩)] w fun e w'=>e=.returned (.string (sgT (gL L k)))/\Below w.heap.size w w'):=fun w h=>by
 rw[Vz hk];exact Ih R b v L k ru ne w h hk hg.len
theorem By(R b:Nat)(v:Value)(L:List Tok)(k ru ne:Nat)(hk:k<L.length)(hg:Qc L):Hid (∀w:World,Rd w R b v L k ru ne->
  Calls prog 164 #[.pointer (some ⟨R,0,none⟩)] w fun e w'=>∃f,e=.returned (.pointer (some ⟨f,0,none⟩))/\Hid (w.heap.size<=f/\Flt w' f (wrC (gL L k),(gL L k).2.2.2)/\Below w.heap.size w w')):=fun w h=>by
 rw[Vz hk];exact z0q R b v L k ru ne w h hk hg.len
theorem z0x(R b:Nat)(v:Value)(L:List Tok)(k ru ne:Nat)(hk:k<L.length)(hg:Qc L):Hid (∀(c:Nat) (w:World),Rd w R b v L k ru ne->
  Calls prog 165 #[.pointer (some ⟨R,0,none⟩),.int .i64 c] w fun e w'=>∃f,e=.returned (.pointer (some ⟨f,0,none⟩))/\Hid (w.heap.size<=f/\Flt w' f (c,(gL L k).2.2.2)/\Below w.heap.size w w')):=fun c w h=>by
 rw[Vz hk];exact z0p R b v L k ru ne c w h hk hg.len
theorem z0y(R b:Nat)(v:Value)(L:List Tok)(k ru ne:Nat)(hk:k<L.length)(h1:(gL L k).1=1)(hg:Qc L):Hid (∀w:World,Rd w R b v L k ru ne->
  Calls prog 263 #[.pointer (some ⟨R,0,none⟩)] w fun e w'=>e=.returned (.bool (hdB L k))/\Below w.heap.size w w'):=fun w h=>
 z0s R b v L k ru ne w h hk (by rw[Vz hk]at h1;exact h1) (hg.nxt k hk (by rw[h1];decide)) hg.len
theorem z6y(R b:Nat)(v:Value)(L:List Tok)(k ru ne:Nat)(hk:k<L.length)(hg:Qc L):Hid (∀w:World,Rd w R b v L k ru ne->
  Calls prog 231 #[.pointer (some ⟨R,0,none⟩)] w fun e w'=>e=.returned (.bool (ptB L k (gL L k)))/\Below w.heap.size w w'):=fun w h=>by
 rw[Vz hk];exact z6r R b v L k ru ne w h hk (fun h1=>hg.nxt k hk (by rw[Vz hk,h1];decide)) (fun h5=>by have:=hg.sgn k (by rw[Vz hk];exact h5);rw[Vz hk]at this;exact this) hg.len
theorem z6z(B R b:Nat)(v:Value)(L:List Tok)(k ru ne:Nat)(w:World)(h:Rd w R b v L k ru ne)(hk:k<L.length)(h3:(gL L k).1=3)(hg:Qc L)(hB:B<=w.heap.size):
  Calls prog 282 #[.pointer (some ⟨R,0,none⟩)] w fun e w'=>Qf (.inr (.mk 2 (gL L k).2.1 (gL L k).2.2.1 [] (gL L k).2.2.2,k+1)) B R b v L ru ne w e w':=
 z6t B R b v L k ru ne _ _ _ w h hk (by rw[Vz hk]at h3 ⊢;rw[<-h3]) hg.len hB
theorem z6A(B R b:Nat)(v:Value)(L:List Tok)(k ru ne:Nat)(w:World)(h:Rd w R b v L k ru ne)(hk:k<L.length)(h3:(gL L k).1=4)(hg:Qc L)(hB:B<=w.heap.size):
  Calls prog 282 #[.pointer (some ⟨R,0,none⟩)] w fun e w'=>Qf (.inr (.mk 3 (gL L k).2.1 (gL L k).2.2.1 [] (gL L k).2.2.2,k+1)) B R b v L ru ne w e w':=
 z6u B R b v L k ru ne _ _ _ w h hk (by rw[Vz hk]at h3 ⊢;rw[<-h3]) hg.len hB
theorem Qw{a0 a1 a2 a3 a4 a5 a6 a7:Value}(h:w.heap[g]? =some (.cells #[a0,a1,a2,a3,a4,a5,a6,a7] 71)):
  (w.cell? ⟨g,0,none⟩=some a0/\w.cell? ⟨g,1,none⟩=some a1/\w.cell? ⟨g,2,none⟩=some a2/\w.cell? ⟨g,3,none⟩=some a3/\w.cell? ⟨g,4,none⟩=some a4/\w.cell? ⟨g,5,none⟩=some a5/\w.cell? ⟨g,6,none⟩=some a6/\w.cell? ⟨g,7,none⟩=some a7)/\
  (w.frozen? ⟨g,0,none⟩=false/\w.frozen? ⟨g,1,none⟩=false/\w.frozen? ⟨g,2,none⟩=false/\w.frozen? ⟨g,3,none⟩=false/\w.frozen? ⟨g,4,none⟩=false/\w.frozen? ⟨g,5,none⟩=false/\w.frozen? ⟨g,6,none⟩=false/\w.frozen? ⟨g,7,none⟩=false):=by
 refine⟨⟨?_,?_,?_,?_,?_,?_,?_,?_⟩,⟨?_,?_,?_,?_,?_,?_,?_,?_⟩⟩<;>simp[World.cell?,World.frozen?,h]
@[reducible] def Zo:Obj:=.cells #[.int .i64 0,.string ⟨#[]⟩,.int .u64 0,.int .u64 0,.int .u64 0,.int .u64 0,.slice none 0 0,.int .i64 0] 71
def En(w:World)(R b:Nat)(v:Value)(L:List Tok)(k ru ne:Nat)(W:World):Prop:=
 Rd W R b v L k ru ne/\w.grownBy W (some R)/\W.heap[w.heap.size]? =some Zo/\R<w.heap.size/\(∀g,w.heap.size<=g->v.ownBlock≠some g)
theorem En.start{ne:Nat}(h:Rd w R b v L k ru ne):En w R b v L k ru ne (w.alloc Zo):=
 ⟨h.alloc _,G.alloc (G.refl w R),Qx w _ rfl,h.lt,fun g hg e=>by have:=(h.2.lt _ e).2;omega⟩
theorem En.size{w W:World}{R b:Nat}{v:Value}{L:List Tok}{k ru ne:Nat}(h:En w R b v L k ru ne W):w.heap.size<W.heap.size:=by
 rcases Nat.lt_or_ge w.heap.size W.heap.size with h1|h1
 ·exact h1
 ·have:=h.2.2.1;rw[Array.getElem?_eq_none h1]at this;cases this
theorem En.grown{W':World}{ne:Nat}(h:En w R b v L k ru ne W)(hr:Rd W' R b v L k' ru ne)(hg:W.grownBy W' (some R)):En w R b v L k' ru ne W':=
 ⟨hr,G.trans h.2.1 hg,(hg.block _ h.size (fun e=>by have:=Option.some.inj e;have:=h.2.2.2.1;omega)).trans h.2.2.1,h.2.2.2.1,h.2.2.2.2⟩
theorem En.below{w W W':World}{R b:Nat}{v:Value}{L:List Tok}{k ru ne:Nat}(h:En w R b v L k ru ne W)(hb:Below W.heap.size W W'):En w R b v L k ru ne W':=
 h.grown (h.1.below hb) (G.below hb)
theorem En.alloc{w W:World}{R b:Nat}{v:Value}{L:List Tok}{k ru ne:Nat}(h:En w R b v L k ru ne W)(o:Obj):En w R b v L k ru ne (W.alloc o):=
 h.below (B0q.alloc L0q _)
theorem En.next{ne:Nat}(h:En w R b v L k ru ne W):En w R b v L (k+1) ru ne (W.setCell ⟨R,1,none⟩ (.int .i64 ((k:Int)+1))):=
 h.grown h.1.next1 (G.setR (G.refl W R))
theorem En.other{w W:World}{R b g j:Nat}{v u:Value}{L:List Tok}{k ru ne:Nat}(h:En w R b v L k ru ne W)(hg:w.heap.size<g):En w R b v L k ru ne (W.setCell ⟨g,j,none⟩ u):=
 ⟨h.1.other (by have:=h.2.2.2.1;omega) (h.2.2.2.2 g (by omega)),G.setN h.2.1 (by omega),(Below.heap_setCell _ _ _ _ (show w.heap.size≠g by omega)).trans h.2.2.1,h.2.2.2.1,h.2.2.2.2⟩
theorem En.lt{ne:Nat}(h:En w R b v L k ru ne W):R<w.heap.size:=h.2.2.2.1
theorem En.fin{B:Nat}{sv:Value}{ne kd C p:Nat}{T:ByteArray}(h:En w R b v L k ru ne W)(hn:Qy W (fun g=>w.heap.size+1<=g) n (n8 kd T C sv p))(hB:B<=w.heap.size):
  Qf (.inr (n,k)) B R b v L ru ne w (.returned (.agg (n8 kd T C sv p).toArray)) (st8 W w.heap.size (kd:Int) T (wd C 0:Nat) (wd C 1:Nat) (wd C 2:Nat) (wd C 3:Nat) sv (p:Int)):=by
 have hRQ:w.heap.size≠R:=by have:=h.lt;omega
 have hv:=h.2.2.2.2 w.heap.size L0q;have hg:=Nat.le_refl w.heap.size;refine⟨_,rfl,hid ?_,hid ((((((((h.1.other hRQ hv).other hRQ hv).other hRQ hv).other hRQ hv).other hRQ hv).other hRQ hv).other hRQ hv).other hRQ hv),hid (G.setN (G.setN (G.setN (G.setN (G.setN (G.setN (G.setN (G.setN h.2.1 hg) hg) hg) hg) hg) hg) hg) hg)⟩;refine Qy.kept (fun g cur hp hq=>⟨?_,by omega⟩) n _ hn;have hne:∀j:Nat,g≠(⟨w.heap.size,j,none⟩:Addr).block:=fun j e=>by have e2:g=w.heap.size:=e;omega
 have s:∀(V:World) (j:Nat) (u:Value),(V.setCell ⟨w.heap.size,j,none⟩ u).heap[g]? =V.heap[g]? :=fun V j u=>Below.heap_setCell _ _ _ _ (hne j)
 unfold st8;rw[s,s,s,s,s,s,s,s]
theorem En.cells{ne:Nat}(h:En w R b v L k ru ne W):
 (W.cell? ⟨w.heap.size,0,none⟩=some (.int .i64 0)/\W.cell? ⟨w.heap.size,1,none⟩=some (.string ⟨#[]⟩)/\W.cell? ⟨w.heap.size,2,none⟩=some (.int .u64 0)/\W.cell? ⟨w.heap.size,3,none⟩=some (.int .u64 0)/\W.cell? ⟨w.heap.size,4,none⟩=some (.int .u64 0)/\W.cell? ⟨w.heap.size,5,none⟩=some (.int .u64 0)/\W.cell? ⟨w.heap.size,6,none⟩=some (.slice none 0 0)/\W.cell? ⟨w.heap.size,7,none⟩=some (.int .i64 0))/\
 (W.frozen? ⟨w.heap.size,0,none⟩=false/\W.frozen? ⟨w.heap.size,1,none⟩=false/\W.frozen? ⟨w.heap.size,2,none⟩=false/\W.frozen? ⟨w.heap.size,3,none⟩=false/\W.frozen? ⟨w.heap.size,4,none⟩=false/\W.frozen? ⟨w.heap.size,5,none⟩=false/\W.frozen? ⟨w.heap.size,6,none⟩=false/\W.frozen? ⟨w.heap.size,7,none⟩=false):=Qw h.2.2.1
theorem Qf.up{c:Nat×Nat}{B B':Nat}{ne ne' ne2:Nat}{e:Ending}(hE:En w R b v L k ru ne2 W)(h:Qf (.inl c) B' R b v L ru ne' W e w'):Qf (.inl c) B R b v L ru ne w e w':=by
 obtain⟨f,he,HF,HG⟩:=h;exact⟨f,he,hid ⟨by have:=HF.out.1;have:=hE.size;omega,HF.out.2⟩,hid (G.trans hE.2.1 HG.out)⟩
end Go.Proofs.YtlogolpcipiceaaGreatDoor
