/- Lemmas for the last text. Conditions: those that each names. -/
import Derived.Test.YtmelafeingcgnaaGreatDoorVX6ToX16
import Derived.BigQuiet
import Derived.Deep.RegionHeld3
import Derived.Laws.Strings
import Derived.WideShapes
import Derived.WalkLawsBesides
set_option linter.unusedVariables false
set_option maxRecDepth 100000
set_option maxHeartbeats 8000000
namespace Go.Proofs.YtmelafeingcgnaaGreatDoor
open Go.Proofs.Tryz
open Go.RowKit
variable {w w':World} {R b base g j k n ru:Nat} {u v:Value} {L:List Tok} {P:Nat->Prop} {c:List Value}
theorem Yd{e size:Nat}{xs:List Value}(h:w.ownsRow base e size v n xs):∃a c,v=.slice a n c:=by
 obtain⟨_,⟨o,r⟩|⟨g,y,A,e,_⟩⟩:=h
 ·exact⟨none,0,by rw[o,r]⟩
 ·exact⟨_,y,e⟩
theorem z7D(a:List Tok)(t:Tok)(b:List Tok):∀j x,(tvs [t])[j]? =some x->(tvs (a++t::b))[a.length*7+j]? =some x:=by
 intro j x h;rw[show a++t::b=a++([t]++b) by simp,Nv,Nv];have:=z0N a;rw[List.getElem?_append_right (by omega),this,Nat.add_sub_cancel_left];have r:j<(tvs [t]).length:=by
  rcases Nat.lt_or_ge j (tvs [t]).length with o|o
  ·exact o
  ·rw[List.getElem?_eq_none o]at h;cases h
 rw[List.getElem?_append_left r];exact h
theorem z7E(L:List Tok)(k:Nat)(r:k<L.length):∀j x,(tvs [L[k]])[j]? =some x->(tvs L)[k*7+j]? =some x:=by
 have h:=z7D (L.take k) L[k] (L.drop (k+1));have hl:(L.take k).length=k:=by simp;omega
 have o:L.take k++L[k]::L.drop (k+1)=L:=by rw[List.getElem_cons_drop,List.take_append_drop]
 rw[o,hl]at h;exact h
def Cs(w:World)(g o:Nat)(t:Tok):Prop:=w.cell? ⟨g,o,none⟩=some (zI (t.1:Int))/\w.cell? ⟨g,o+1,none⟩=some (zT t.2.1)/\w.cell? ⟨g,o+2,none⟩=some (zU (wd t.2.2.1 0:Nat))/\w.cell? ⟨g,o+3,none⟩=some (zU (wd t.2.2.1 1:Nat))/\w.cell? ⟨g,o+4,none⟩=some (zU (wd t.2.2.1 2:Nat))/\w.cell? ⟨g,o+5,none⟩=some (zU (wd t.2.2.1 3:Nat))/\w.cell? ⟨g,o+6,none⟩=some (zI (t.2.2.2:Int))
theorem z0R{o:Nat}(h:w.ownsRow base 186 7 (zS g n o) n (tvs L))(k:Nat)(r:k<L.length)(y:n=L.length):Cs w g (k*7) L[k]:=by
 have ha:=z7E L k r;refine⟨?_,?_,?_,?_,?_,?_,?_⟩
 ·rw[h.cellAt _ (by omega)];exact ha 0 _ rfl
 ·rw[h.cellAt _ (by omega)];exact ha 1 _ rfl
 ·rw[h.cellAt _ (by omega)];exact ha 2 _ rfl
 ·rw[h.cellAt _ (by omega)];exact ha 3 _ rfl
 ·rw[h.cellAt _ (by omega)];exact ha 4 _ rfl
 ·rw[h.cellAt _ (by omega)];exact ha 5 _ rfl
 ·rw[h.cellAt _ (by omega)];exact ha 6 _ rfl
theorem z0S{e size o:Nat}{xs:List Value}(h:w.ownsRow base e size (zS g n o) n xs):o<=9223372036854775807:=by
 obtain⟨_,⟨r,_⟩|⟨A,D,E,e,_,_,_,y,_⟩⟩:=h
 ·cases r
 ·cases e
  unfold maxLen at y;omega
def Rd(w:World)(R b:Nat)(v:Value)(L:List Tok)(k ru ne:Nat):Prop:=
 w.heap[R]? =some (.cells #[v,zI (k:Int),zI (ru:Int),zI (ne:Int)] 191)/\w.ownsRow b 186 7 v L.length (tvs L)
theorem Rd.lt{ne:Nat}(h:Rd w R b v L k ru ne):R<w.heap.size:=by
 rcases Nat.lt_or_ge R w.heap.size with o|o
 ·exact o
 ·have:=h.1;rw[Array.getElem?_eq_none o]at this;cases this
theorem Rd.below{ne:Nat}(h:Rd w R b v L k ru ne)(o:zB w w'):Rd w' R b v L k ru ne:=
 ⟨(o.block R h.lt).trans h.1,Xf h.2 o⟩
theorem Rd.cells{ne:Nat}(h:Rd w R b v L k ru ne):
  w.cell? ⟨R,0,none⟩=some v/\w.cell? ⟨R,1,none⟩=some (.int .i64 k)/\w.cell? ⟨R,2,none⟩=some (.int .i64 ru)/\w.cell? ⟨R,3,none⟩=some (.int .i64 ne)/\
  w.frozen? ⟨R,0,none⟩=false/\w.frozen? ⟨R,1,none⟩=false/\w.frozen? ⟨R,2,none⟩=false/\w.frozen? ⟨R,3,none⟩=false:=by
 have o:=h.1;refine⟨?_,?_,?_,?_,?_,?_,?_,?_⟩<;>simp[World.cell?,World.frozen?,o]
theorem Rd.apart{ne:Nat}(h:Rd w R b v L k ru ne):v.ownBlock≠some R:=by
 obtain⟨r,_,⟨y,_⟩|⟨g,A,D,rfl,_,o,_⟩⟩:=h
 ·rw[y];simp[Value.ownBlock]
 ·intro e
  simp[Value.ownBlock]at e;subst e;rw[r]at o;simp at o
theorem Rd.next{w:World}{R b:Nat}{v:Value}{L:List Tok}{k ru ne:Nat}(h:Rd w R b v L k ru ne)(k':Nat):Rd (w.setCell ⟨R,1,none⟩ (zI (k':Int))) R b v L k' ru ne:=by
 refine⟨?_,h.2.kept (row:=some R) ⟨rfl,rfl,rfl,by simp,fun i r o=>Below.heap_setCell _ _ _ _ (fun e=>o (by rw[e]))⟩ (.inr h.apart)⟩;simp only[World.setCell,Array.getElem?_modify,if_true];rw[h.1];simp
theorem Rd.rules{ne:Nat}(h:Rd w R b v L k ru ne)(ru':Nat):Rd (w.setCell ⟨R,2,none⟩ (zI (ru':Int))) R b v L k ru' ne:=by
 refine⟨?_,h.2.kept (row:=some R) ⟨rfl,rfl,rfl,by simp,fun i r o=>Below.heap_setCell _ _ _ _ (fun e=>o (by rw[e]))⟩ (.inr h.apart)⟩;simp only[World.setCell,Array.getElem?_modify,if_true];rw[h.1];simp
theorem Rd.nest{ne:Nat}(h:Rd w R b v L k ru ne)(ne':Nat):Rd (w.setCell ⟨R,3,none⟩ (zI (ne':Int))) R b v L k ru ne':=by
 refine⟨?_,h.2.kept (row:=some R) ⟨rfl,rfl,rfl,by simp,fun i r o=>Below.heap_setCell _ _ _ _ (fun e=>o (by rw[e]))⟩ (.inr h.apart)⟩;simp only[World.setCell,Array.getElem?_modify,if_true];rw[h.1];simp
theorem Tryz.fld0(a b c d e f g:Value)(w:World):(Instr.field 186 (.agg #[a,b,c,d,e,f,g]) 0).run prog w=.ok a w:=by kernel_rfl
theorem Tryz.fld1(a b c d e f g:Value)(w:World):(Instr.field 186 (.agg #[a,b,c,d,e,f,g]) 1).run prog w=.ok b w:=by kernel_rfl
theorem Tryz.fld3(a b c d e f g:Value)(w:World):(Instr.field 186 (.agg #[a,b,c,d,e,f,g]) 3).run prog w=.ok g w:=by kernel_rfl
theorem Jc(R b:Nat)(v:Value)(L:List Tok)(k ru ne:Nat)(w:World)(h:Rd w R b v L k ru ne)(o:k<L.length)(hl:L.length<=10000):
  Calls prog 132 #[zP R 0] w fun e w'=>e=.returned (tkv L[k])/\zB w w':=by
 obtain⟨g,A,rfl⟩:=Vc h.2 (by omega);have D:=z0S h.2;have z:=z0R h.2 k o rfl;obtain⟨t,r⟩:∃t,t=L[k]:=⟨_,rfl⟩;rw[<-r]at z ⊢;obtain⟨n,y⟩:∃n,n=L.length:=⟨_,rfl⟩;rw[<-y]at h o hl;have E:g<w.heap.size:=(h.2.lt g rfl).2;obtain⟨G,U,V,Y,Z,q1,q2,q3⟩:=h.cells;have hR:=h.lt;clear h r;obtain⟨kd,T,C,p⟩:=t;obtain⟨p0,p1,p2,p3,p4,p5,p6⟩:=z;have aa:(k:Int)<(n:Int):=by omega
 clear y;go_enter func132,ntmps132
 go_wp2
 go_region
 go_wp2
 (try simp only[Exit.inBlock,Exit.then])
 refine bodyPost_ret (v:=tkv (kd,T,C,p)) (by simp[results,Tryz.results132,go_sem]) rfl ?_;exact⟨rfl,by first|exact(B0q.alloc L0q _).drew|exact B0q.drew.alloc L0q _|exact(B0q.alloc L0q _)⟩
def sgT(t:Tok):zA:=if t.1=5 then t.2.1 else{data:=#[]}
theorem Lc(R b:Nat)(v:Value)(L:List Tok)(k ru ne:Nat)(w:World)(h:Rd w R b v L k ru ne)(G:k<L.length)(hl:L.length<=10000):
  Calls prog 192 #[zP R 0] w fun e w'=>e=.returned (zT (sgT L[k]))/\zB w w':=by
 have aa:=Tryz.fld0;have ab:=Tryz.fld1;have ac:=Tryz.fld3;have r:Hid (∀w:World,Rd w R b v L k ru ne->Calls prog 132 #[zP R 0] w (zR w (tkv L[k]))):=fun w h=>Jc R b v L k ru ne w h G hl
 have A:Hid (Rd w R b v L k ru ne):=h;obtain⟨t,D⟩:∃t,t=L[k]:=⟨_,rfl⟩;rw[<-D]at r ⊢;clear D h;obtain⟨kd,T,C,p⟩:=t;unfold sgT;simp only;by_cases h5:kd=5
 ·have U:((kd:Int) != 5)=false:=by simp;omega
  rw[if_pos h5];clear h5;go_enter func192,ntmps192
  go_wp2_with fail
  refine(r.out w A.out).mono ?_;rintro e w1 ⟨rfl,o⟩;have y:Hid (zB w w1):=o;have V:Hid (Rd w1 R b v L k ru ne):=A.out.below o;clear o;dsimp only[tkv]
  go_wp2_with fail
  refine(r.out w1 V.out).mono ?_;rintro e Y ⟨rfl,E⟩;have Z:Hid (zB w Y):=y.out.trans (E.mono y.out.size);clear E;dsimp only[tkv]
  go_wp2_with fail
  go_ret;exact⟨rfl,Z.out⟩
 ·have U:((kd:Int) != 5)=true:=by rw[bne_iff_ne];omega
  rw[if_neg h5];clear h5;go_enter func192,ntmps192
  go_wp2_with fail
  refine(r.out w A.out).mono ?_;rintro e w1 ⟨rfl,o⟩;have y:Hid (zB w w1):=o;clear o;dsimp only[tkv]
  go_wp2_with fail
  go_ret;exact⟨rfl,y.out⟩
theorem z0T(R b:Nat)(v:Value)(L:List Tok)(k ru ne c:Nat)(w:World)(h:Rd w R b v L k ru ne)(D:k<L.length)(hl:L.length<=10000):
  Calls prog 166 #[zP R 0,zI (c:Int)] w fun e w'=>∃f,e=.returned (zP f 0)/\Hid (w.heap.size<=f/\Flt w' f (c,(L[k]).2.2.2)/\zB w w'):=by
 have E:=Tryz.fld0;have G:=Tryz.fld1;have U:=Tryz.fld3;have r:=hid (Jc R b v L k ru ne w h D hl);obtain⟨t,y⟩:∃t,t=L[k]:=⟨_,rfl⟩;rw[<-y]at r ⊢;clear y h;obtain⟨kd,T,C,p⟩:=t;go_enter func166,ntmps166
 go_wp2_with fail
 refine r.out.mono ?_;rintro e w1 ⟨rfl,A⟩;have o:Hid (zB w w1):=A;clear A;dsimp only[tkv]
 go_wp2_with fail
 go_ret;exact⟨w1.heap.size,rfl,o.out.size,Flt.new w1 (c,p),o.out.alloc o.out.size _⟩
def wrC(t:Tok):Nat:=if t.1=6 then 3 else 4
theorem z0U(R b:Nat)(v:Value)(L:List Tok)(k ru ne:Nat)(w:World)(h:Rd w R b v L k ru ne)(V:k<L.length)(hl:L.length<=10000):
  Calls prog 165 #[zP R 0] w fun e w'=>∃f,e=.returned (zP f 0)/\Hid (w.heap.size<=f/\Flt w' f (wrC L[k],(L[k]).2.2.2)/\zB w w'):=by
 have aa:=Tryz.fld0;have ab:=Tryz.fld1;have ac:=Tryz.fld3;have E:=hid (Jc R b v L k ru ne w h V hl);have D:Hid (∀(c:Nat) (w:World),Rd w R b v L k ru ne->Calls prog 166 #[zP R 0,zI (c:Int)] w fun e w'=>∃f,e=.returned (zP f 0)/\Hid (w.heap.size<=f/\Flt w' f (c,(L[k]).2.2.2)/\zB w w')):=fun c w h=>z0T R b v L k ru ne c w h V hl
 have Y:Hid (Rd w R b v L k ru ne):=h;obtain⟨t,Z⟩:∃t,t=L[k]:=⟨_,rfl⟩;rw[<-Z]at E D ⊢;clear Z h;obtain⟨kd,T,C,p⟩:=t;unfold wrC;simp only at D ⊢;by_cases h6:kd=6
 ·have t6:((kd:Int) == 6)=true:=by simp;omega
  rw[if_pos h6];clear h6;go_enter func165,ntmps165
  go_wp2_with fail
  refine E.out.mono ?_;rintro e w1 ⟨rfl,r⟩;have y:Hid (zB w w1):=r;have G:Hid (Rd w1 R b v L k ru ne):=Y.out.below r;clear r;dsimp only[tkv]
  go_wp2_with fail
  refine(D.out 3 w1 G.out).mono ?_;rintro e A ⟨f,rfl,o⟩;have U:Hid (w.heap.size<=f/\Flt A f (3,p)/\zB w A):=⟨Nat.le_trans y.out.size o.out.1,o.out.2.1,y.out.trans (o.out.2.2.mono y.out.size)⟩;clear o
  go_wp2_with fail
  go_ret;exact⟨f,rfl,U⟩
 ·have t6:((kd:Int) == 6)=false:=by simp;omega
  rw[if_neg h6];clear h6;go_enter func165,ntmps165
  go_wp2_with fail
  refine E.out.mono ?_;rintro e w1 ⟨rfl,r⟩;have y:Hid (zB w w1):=r;have G:Hid (Rd w1 R b v L k ru ne):=Y.out.below r;clear r;dsimp only[tkv]
  go_wp2_with fail
  refine(D.out 4 w1 G.out).mono ?_;rintro e A ⟨f,rfl,o⟩;have U:Hid (w.heap.size<=f/\Flt A f (4,p)/\zB w A):=⟨Nat.le_trans y.out.size o.out.1,o.out.2.1,y.out.trans (o.out.2.2.mono y.out.size)⟩;clear o
  go_wp2_with fail
  go_ret;exact⟨f,rfl,U⟩
inductive Nd where
 |mk (kd:Nat) (T:ByteArray) (C:Nat) (subs:List Nd) (p:Nat)
@[reducible] def n8 (kd:Nat) (T:ByteArray) (C:Nat) (sv:Value) (p:Nat):List Value:=
  [.int .i64 kd,.string T,.int .u64 (wd C 0),.int .u64 (wd C 1),.int .u64 (wd C 2),.int .u64 (wd C 3),sv,.int .i64 p]
mutual
def Qh(w:World)(P:Nat->Prop):Nd->List Value->Prop
 | .mk kd T C subs p,cs=>∃sv,cs=n8 kd T C sv p/\((subs.isEmpty=true/\sv=.slice none 0 0)∨
    (subs.isEmpty=false/\∃g cap cur,sv=.slice (some ⟨g,0,none⟩) (Jf subs) cap/\P g/\w.heap[g]? =some (.cells cur 119)/\cap<=maxLen/\Qp w P subs cur.toList))
def Qp(w:World)(P:Nat->Prop):List Nd->List Value->Prop
 |[],_=>True
 |n::r,vs=>∃c rest,vs=c++rest/\Qh w P n c/\Qp w P r rest
def Jf:List Nd->Nat
 |[]=>0
 |_::r=>Jf r+1
end
theorem Dm:∀l:List Nd,Jf l=l.length
 |[]=>rfl
 |_::r=>by rw[Jf,Dm r];rfl
theorem Qh.len{n:Nd}(h:Qh w P n c):c.length=8:=by
 cases n with
 |mk kd T C subs p=>
  rw[Qh]at h;obtain⟨sv,rfl,_⟩:=h;rfl
mutual
theorem Qh.kept{w w':World}{P Q:Nat->Prop}(y:∀g o,P g->w.heap[g]? =some (.cells o 119)->w'.heap[g]? =w.heap[g]? /\Q g):∀(n:Nd) (c:List Value),Qh w P n c->Qh w' Q n c
 | .mk kd T C subs p,cs,h=>by
   rw[Qh]at h ⊢;obtain⟨sv,D,r⟩:=h;refine⟨sv,D,?_⟩;rcases r with r|⟨E,g,G,o,U,V,A,Y,Z⟩
   ·exact .inl r
   ·have:=y g o V A
    exact .inr ⟨E,g,G,o,U,this.2,this.1.trans A,Y,Qp.kept y subs o.toList Z⟩
theorem Qp.kept{w w':World}{P Q:Nat->Prop}(o:∀g y,P g->w.heap[g]? =some (.cells y 119)->w'.heap[g]? =w.heap[g]? /\Q g):∀(l:List Nd) (vs:List Value),Qp w P l vs->Qp w' Q l vs
 |[],vs,h=>by rw[Qp];trivial
 |n::r,vs,h=>by
  rw[Qp]at h ⊢;obtain⟨c,rest,A,D,E⟩:=h;exact⟨c,rest,A,Qh.kept o n c D,Qp.kept o r rest E⟩
end
theorem Qp.append{w:World}{P:Nat->Prop}:∀(l:List Nd) (vs:List Value) (n:Nd) (c:List Value),Qp w P l vs->vs.length=l.length*8->Qh w P n c->Qp w P (l++[n]) (vs++c)
 |[],vs,n,c,_,hl,hn=>by
  have:vs=[]:=List.eq_nil_of_length_eq_zero (by simpa using hl);subst this;rw[List.nil_append,Qp];exact⟨c,[],by simp,hn,by rw[Qp];trivial⟩
 |m::r,vs,n,c,h,hl,hn=>by
  rw[Qp]at h;obtain⟨d,rest,rfl,o,y⟩:=h;have A:=o.len;rw[List.cons_append,Qp];refine⟨d,rest++c,by rw[List.append_assoc],o,Qp.append r rest n c y ?_ hn⟩;simp at hl;omega
theorem Qp.more{w:World}{P:Nat->Prop}:∀(l:List Nd) (vs us:List Value),Qp w P l vs->Qp w P l (vs++us)
 |[],vs,us,_=>by rw[Qp];trivial
 |m::r,vs,us,h=>by
  rw[Qp]at h ⊢;obtain⟨d,rest,rfl,o,y⟩:=h;exact⟨d,rest++us,by rw[List.append_assoc],o,Qp.more r rest us y⟩
theorem Qh.below{n:Nd}(h:Qh w P n c)(y:Below w.heap.size w w'):Qh w' P n c:=
 Qh.kept (fun g D A r=>⟨y.block g (by
  rcases Nat.lt_or_ge g w.heap.size with o|o
  ·exact o
  ·rw[Array.getElem?_eq_none o]at r;cases r),A⟩) n c h
theorem Qh.grown{y:Array Value}{n:Nd}(h:Qh w P n c)(A:w.grownBy w' (some R))(D:w.heap[R]? =some (.cells y 191)):Qh w' P n c:=
 Qh.kept (fun g U E o=>⟨A.block g (by
  rcases Nat.lt_or_ge g w.heap.size with r|r
  ·exact r
  ·rw[Array.getElem?_eq_none r]at o;cases o) (fun e=>by
   have G:g=R:=Option.some.inj e;rw[G,D]at o;simp at o),E⟩) n c h
def hdB(L:List Tok)(k:Nat):Bool:=match L[k]?,L[k+1]? with
 |some t,some u=>t.1 == 1&&u.1 == 2
 |_,_=>false
theorem Jg{a:zA}{l:List UInt8}(h:¬a={data:=⟨l⟩}):(a.toList == l)=false:=by
 rw[ByteArray.toList_eq,beq_eq_false_iff_ne];exact fun e=>h (WideShapes.bytes_inj e)
theorem z0V{W:World}{ne K r:Nat}(A:∀w':World,Rd w' R b v L k ru ne->zC w' g (K*7) (zI (r:Int)))(y:zB W w')
  (h:Hid (zB w W)/\Hid (Rd W R b v L k ru ne)/\zC W R 0 v/\zC W R 1 (zI (k:Int))/\zC W g (K*7) (zI (r:Int))):
  Hid (zB w w')/\Hid (Rd w' R b v L k ru ne)/\zC w' R 0 v/\zC w' R 1 (zI (k:Int))/\zC w' g (K*7) (zI (r:Int)):=
 have o:=h.2.1.out.below y
 ⟨hid (h.1.out.trans (y.mono h.1.out.size)),hid o,o.cells.1,o.cells.2.1,A w' o⟩
theorem z0W(R b:Nat)(v:Value)(L:List Tok)(k ru ne:Nat)(w:World)(h:Rd w R b v L k ru ne)(V:k<L.length)(G:(L[k]).1=1)(Y:k+1<L.length)(hl:L.length<=10000):
  Calls prog 257 #[zP R 0] w fun e w'=>e=.returned (.bool (hdB L k))/\zB w w':=by
 have ag:=Tryz.fld0;have U:Hid (∀w:World,Rd w R b v L k ru ne->Calls prog 132 #[zP R 0] w (zR w (tkv L[k]))):=fun w h=>Jc R b v L k ru ne w h V hl
 have HR:Hid (Rd w R b v L k ru ne):=h;have D:Hid (hdB L k=((L[k+1]).1 == 2)):=by
  show _=_;unfold hdB;rw[List.getElem?_eq_getElem V,List.getElem?_eq_getElem Y];simp[G]
 obtain⟨g,o,rfl⟩:=Vc h.2 (by omega);have ah:=z0S h.2;have A:Hid (∀w':World,Rd w' R b (zS g L.length o) L k ru ne->zC w' g ((k+1)*7) (zI ((L[k+1]).1:Int))):=fun w' h'=>(z0R h'.2 (k+1) Y rfl).1
 obtain⟨r,ac⟩:∃q,q=(L[k+1]).1:=⟨_,rfl⟩;rw[<-ac]at A D;obtain⟨K,ad⟩:∃K,K=k+1:=⟨_,rfl⟩;rw[<-ad]at A;obtain⟨t,ht⟩:∃t,t=L[k]:=⟨_,rfl⟩;rw[<-ht]at U G;have ai:(k:Int)+1=(K:Int):=by omega
 have aj:IntKind.i64.wrap (K:Int)=(K:Int):=by rw[IntKind.wrap_i64];omega
 have ae:(K:Int)<(L.length:Int):=by omega
 obtain⟨n,hn⟩:∃n,n=L.length:=⟨_,rfl⟩;have y:=hid (HR.out.below (Below.refl _ w).drew);rw[<-hn]at U HR A ae hl y;clear h V Y ac ht hn ad;obtain⟨kd,T,C,p⟩:=t;have af:kd=1:=G;have t1:((kd:Int) == 1)=true:=by simp;omega
 clear G af;cases h2:(r == 2)
 ·have t2:((r:Int) == 2)=false:=by simp at h2 ⊢;omega
  rw[h2]at D;clear h2;go_enter func257,ntmps257
  go_wp2_with fail
  have Z:(fun W=>Hid (zB w W)/\Hid (Rd W R b (zS g n o) L k ru ne)/\zC W R 0 (zS g n o)/\zC W R 1 (zI (k:Int))/\zC W g (K*7) (zI (r:Int))) w.drew:=⟨hid (Below.refl _ w).drew,y,y.out.cells.1,y.out.cells.2.1,A.out _ y.out⟩
  go_region_held3 (fun W=>Hid (zB w W)/\Hid (Rd W R b (zS g n o) L k ru ne)/\zC W R 0 (zS g n o)/\zC W R 1 (zI (k:Int))/\zC W g (K*7) (zI (r:Int))) (first|assumption|exact z0V A.out (by assumption) (by assumption)) (first|(go_at_call 132;refine(U.out _ ?hh).mono ?_;(case hh=>first|assumption|(have S2:(fun W=>Hid (zB w W)/\Hid (Rd W R b (zS g n o) L k ru ne)/\zC W R 0 (zS g n o)/\zC W R 1 (zI (k:Int))/\zC W g (K*7) (zI (r:Int))) _:=by assumption;exact S2.2.1.out));rintro e wr ⟨rfl,aa⟩;dsimp only[tkv]))
  have E:(fun W=>Hid (zB w W)/\Hid (Rd W R b (zS g n o) L k ru ne)/\zC W R 0 (zS g n o)/\zC W R 1 (zI (k:Int))/\zC W g (K*7) (zI (r:Int))) wr:=by assumption
  have ab:Hid (zB w wr):=E.1;clear E Z aa
  go_wp2_with fail
  go_ret;rw[D.out];exact⟨rfl,ab.out⟩
 ·have t2:((r:Int) == 2)=true:=by simp at h2 ⊢;omega
  rw[h2]at D;clear h2;go_enter func257,ntmps257
  go_wp2_with fail
  have Z:(fun W=>Hid (zB w W)/\Hid (Rd W R b (zS g n o) L k ru ne)/\zC W R 0 (zS g n o)/\zC W R 1 (zI (k:Int))/\zC W g (K*7) (zI (r:Int))) w.drew:=⟨hid (Below.refl _ w).drew,y,y.out.cells.1,y.out.cells.2.1,A.out _ y.out⟩
  go_region_held3 (fun W=>Hid (zB w W)/\Hid (Rd W R b (zS g n o) L k ru ne)/\zC W R 0 (zS g n o)/\zC W R 1 (zI (k:Int))/\zC W g (K*7) (zI (r:Int))) (first|assumption|exact z0V A.out (by assumption) (by assumption)) (first|(go_at_call 132;refine(U.out _ ?hh).mono ?_;(case hh=>first|assumption|(have S2:(fun W=>Hid (zB w W)/\Hid (Rd W R b (zS g n o) L k ru ne)/\zC W R 0 (zS g n o)/\zC W R 1 (zI (k:Int))/\zC W g (K*7) (zI (r:Int))) _:=by assumption;exact S2.2.1.out));rintro e wr ⟨rfl,aa⟩;dsimp only[tkv]))
  have E:(fun W=>Hid (zB w W)/\Hid (Rd W R b (zS g n o) L k ru ne)/\zC W R 0 (zS g n o)/\zC W R 1 (zI (k:Int))/\zC W g (K*7) (zI (r:Int))) wr:=by assumption
  have ab:Hid (zB w wr):=E.1;clear E Z aa
  go_wp2_with fail
  go_ret;rw[D.out];exact⟨rfl,ab.out⟩
def rpK(T:zA):Nat:=if T={data:=#[63]}then 8 else if T={data:=#[42]}then 9 else if T={data:=#[43]}then 10 else 0
theorem z7F(T:zA)(w:World):Calls prog 281 #[zT T] w fun e w'=>e=.returned (zI (rpK T:Int))/\w'=w:=by
 unfold rpK;by_cases h1:T={data:=#[63]}
 ·rw[if_pos h1]
  subst h1;go_enter func281,ntmps281
  go_wp2_with fail
  go_ret;exact⟨rfl,rfl⟩
 ·rw[if_neg h1]
  have h:(T.toList == [63])=false:=Jg h1;by_cases h2:T={data:=#[42]}
  ·rw[if_pos h2]
   subst h2;clear h1;go_enter func281,ntmps281
   go_wp2_with fail
   go_ret;exact⟨rfl,rfl⟩
  ·rw[if_neg h2]
   have o:(T.toList == [42])=false:=Jg h2;by_cases h3:T={data:=#[43]}
   ·rw[if_pos h3]
    subst h3;clear h1 h2;go_enter func281,ntmps281
    go_wp2_with fail
    go_ret;exact⟨rfl,rfl⟩
   ·rw[if_neg h3]
    have r:(T.toList == [43])=false:=Jg h3;clear h1 h2 h3;go_enter func281,ntmps281
    go_wp2_with fail
    go_ret;exact⟨rfl,rfl⟩
def bgB(x:Nat):Bool:=x == 38||(x == 33||(x == 46||x == 40))
theorem z7G:∀x:Nat,x<256->decide (0<=Lib.indexByte [38,33,46,40] x.toUInt8)=bgB x:=by decide+kernel
theorem z7H(x:Nat)(hx:x<256)(w:World):(Instr.index 9 (zT (nb [x])) (zI 0)).run prog w=.ok (.int .u8 x) w:=by
 have h:∀b:UInt8,(Instr.index 9 (zT {data:=#[b]}) (zI 0)).run prog w=.ok (.int .u8 (b.toNat:Int)) w:=fun b=>by kernel_rfl
 have:=h (UInt8.ofNat x);simp at this;rw[show((x:Int)%256)=(x:Int) by omega]at this;exact this
theorem z7I(x:Nat)(hx:x<256)(w:World):
  Calls prog 258 #[zT {data:=#[38,33,46,40]},zT (nb [x])] w fun e w'=>e=.returned (.bool (bgB x))/\w'=w:=by
 have D:= @run_callFunc_extern prog 190 _ Extern.BytealgIndexByte.indexByte func190 (by kernel_rfl) (by kernel_rfl) (by kernel_rfl) (by kernel_rfl);have o:=Lib.run_indexByteString (P:=prog) {data:=#[38,33,46,40]} (x:Int);simp only[Int.toNat_natCast]at o;have r:=z7H x hx;have y:(nb [x]).size=1:=by rw[Uc];rfl
 have A:((nb [x]).toList == [38,33,46,40])=false:=by
  rw[ByteArray.toList_eq,beq_eq_false_iff_ne];intro e;have:=congrArg List.length e;simp[nb]at this
 have E:=z7G x hx;obtain⟨T,h⟩:∃T,T=nb [x]:=⟨_,rfl⟩;rw[<-h]at r y A ⊢;clear h;go_enter func258,ntmps258
 go_wp2
 go_ret;exact⟨rfl,rfl⟩
def ptB(L:List Tok)(k:Nat)(t:Tok):Bool:=if t.1=1 then !hdB L k else if t.1=3∨t.1=4 then true else if t.1=5 then(match bt t.2.1 0 with|some x=>bgB x|none=>false)else false
theorem z7J(x:Nat)(hx:x<256):bt (nb [x]) 0=some x:=by
 unfold bt;have h:0<(nb [x]).size:=by rw[Uc];exact Nat.one_pos
 rw[dif_pos h];show some (((nb [x]).data[0]'h).toNat)=_;simp[nb];omega
theorem z7K(R b:Nat)(v:Value)(L:List Tok)(k ru ne:Nat)(w:World)(h:Rd w R b v L k ru ne)(hk:k<L.length)(hK:(L[k]).1=1->k+1<L.length)(D:(L[k]).1=5->∃x,x<256/\(L[k]).2.1=nb [x])(hl:L.length<=10000):
  Calls prog 224 #[zP R 0] w fun e w'=>e=.returned (.bool (ptB L k L[k]))/\zB w w':=by
 have af:=Tryz.fld0;have U:Hid (∀w:World,Rd w R b v L k ru ne->Calls prog 132 #[zP R 0] w (zR w (tkv L[k]))):=fun w h=>Jc R b v L k ru ne w h hk hl
 have A:Hid (Rd w R b v L k ru ne):=h;have E:Hid ((L[k]).1=1->∀w:World,Rd w R b v L k ru ne->Calls prog 257 #[zP R 0] w (zR w (.bool (hdB L k)))):=fun r w h=>z0W R b v L k ru ne w h hk r (hK r) hl
 have G:Hid (∀w:World,Rd w R b v L k ru ne->Calls prog 192 #[zP R 0] w (zR w (zT (sgT L[k])))):=fun w h=>Lc R b v L k ru ne w h hk hl
 obtain⟨t,ht⟩:∃t,t=L[k]:=⟨_,rfl⟩;rw[<-ht]at U E G D ⊢;clear ht h hk hK;obtain⟨kd,T,C,p⟩:=t;unfold ptB;simp only;by_cases r:kd=1
 ·rw[if_pos r]
  have ac:=hid (E.out r);obtain⟨B,hB⟩:∃B,B=hdB L k:=⟨_,rfl⟩;rw[<-hB]at ac ⊢;have t1:((kd:Int) == 1)=true:=by simp;omega
  clear r hB E D G;go_enter func224,ntmps224
  go_wp2_with fail
  refine(U.out w A.out).mono ?_;rintro e w1 ⟨rfl,o⟩;have y:Hid (zB w w1):=o;have Y:Hid (Rd w1 R b v L k ru ne):=A.out.below o;clear o;dsimp only[tkv]
  go_wp2_with fail
  refine(ac.out w1 Y.out).mono ?_;rintro e w2 ⟨rfl,Z⟩;have aa:Hid (zB w w2):=y.out.trans (Z.mono y.out.size);clear Z
  go_wp2_with fail
  go_ret;exact⟨rfl,aa.out⟩
 rw[if_neg r];have t1:((kd:Int) == 1)=false:=by simp;omega
 by_cases h3:kd=3
 ·rw[if_pos (.inl h3)]
  have t3:((kd:Int) == 3)=true:=by simp;omega
  clear r h3 E D G;go_enter func224,ntmps224
  go_wp2_with fail
  refine(U.out w A.out).mono ?_;rintro e w1 ⟨rfl,o⟩;have y:Hid (zB w w1):=o;have Y:Hid (Rd w1 R b v L k ru ne):=A.out.below o;clear o;dsimp only[tkv]
  go_wp2_with fail
  go_ret;exact⟨rfl,y.out⟩
 have t3:((kd:Int) == 3)=false:=by simp;omega
 by_cases h4:kd=4
 ·rw[if_pos (.inr h4)]
  have t4:((kd:Int) == 4)=true:=by simp;omega
  clear r h3 h4 E D G;go_enter func224,ntmps224
  go_wp2_with fail
  refine(U.out w A.out).mono ?_;rintro e w1 ⟨rfl,o⟩;have y:Hid (zB w w1):=o;have Y:Hid (Rd w1 R b v L k ru ne):=A.out.below o;clear o;dsimp only[tkv]
  go_wp2_with fail
  go_ret;exact⟨rfl,y.out⟩
 rw[if_neg (by omega)];have t4:((kd:Int) == 4)=false:=by simp;omega
 by_cases h5:kd=5
 ·rw[if_pos h5]
  obtain⟨x,hx,hT⟩:=D h5;have ab:T=nb [x]:=hT;rw[ab,z7J x hx];have ad:Hid (∀w:World,Rd w R b v L k ru ne->Calls prog 192 #[zP R 0] w (zR w (zT (nb [x])))):=fun w h=>by
   have:=G.out w h;unfold sgT at this;simp only[h5,if_true,ab]at this;exact this
  have HC:=hid (fun w=>z7I x hx w);obtain⟨V,hV⟩:∃V,V=nb [x]:=⟨_,rfl⟩;rw[<-hV]at ad HC;have t5:((kd:Int) == 5)=true:=by simp;omega
  clear r h3 h4 h5 E D G hT ab hV;go_enter func224,ntmps224
  go_wp2_with fail
  refine(U.out w A.out).mono ?_;rintro e w1 ⟨rfl,o⟩;have y:Hid (zB w w1):=o;have Y:Hid (Rd w1 R b v L k ru ne):=A.out.below o;clear o;dsimp only[tkv]
  go_wp2_with fail
  refine(ad.out w1 Y.out).mono ?_;rintro e w2 ⟨rfl,Z⟩;have aa:Hid (zB w w2):=y.out.trans (Z.mono y.out.size);clear Z
  go_wp2_with fail
  refine(HC.out w2).mono ?_;rintro e w3 ⟨rfl,ae⟩;rw[ae];clear ae
  go_wp2_with fail
  go_ret;exact⟨rfl,aa.out⟩
 ·rw[if_neg h5]
  have t5:((kd:Int) == 5)=false:=by simp;omega
  clear r h3 h4 h5 E D G;go_enter func224,ntmps224
  go_wp2_with fail
  refine(U.out w A.out).mono ?_;rintro e w1 ⟨rfl,o⟩;have y:Hid (zB w w1):=o;have Y:Hid (Rd w1 R b v L k ru ne):=A.out.below o;clear o;dsimp only[tkv]
  go_wp2_with fail
  go_ret;exact⟨rfl,y.out⟩
theorem Ll(kd p B:Nat)(n:Nd)(c:List Value)(w:World)(h:Qh w (fun g=>B<=g) n c)(E:B<=w.heap.size):
  Calls prog 259 #[zI (kd:Int),.agg c.toArray,zI (p:Int)] w fun e w'=>∃o:List Value,e=.returned (.agg o.toArray)/\Hid (Qh w' (fun g=>B<=g) (.mk kd {data:=#[]} 0 [n] p) o)/\Hid (zB w w'):=by
 have D:Hid (Qh w (fun g=>B<=g) n c):=h;obtain⟨r,T,C,G,y⟩:=n;rw[Qh]at h;obtain⟨sv,rfl,_⟩:=h;dsimp only[n8];go_enter func259,ntmps259
 go_wp2_with fail
 (try simp only[Exit.inBlock,Exit.then])
 refine bodyPost_ret (v:=.agg #[zI (kd:Int),zT {data:=#[]},zU 0,zU 0,zU 0,zU 0,zS (w.heap.size+1+1) 1 1,zI (p:Int)]) (by simp[results,Tryz.results259,go_sem]) rfl ?_;have A:∀a b c:Obj,zB w (((w.alloc a).alloc b).alloc c):=fun a b c=>((B0q.alloc L0q _).alloc (by simp) _).alloc (by simp<;>omega) _
 refine⟨n8 kd {data:=#[]} 0 (zS (w.heap.size+1+1) 1 1) p,by simp[Um],hid ?_,hid (A _ _ _)⟩;rw[Qh];refine⟨_,rfl,.inr ⟨rfl,w.heap.size+1+1,1,(n8 r T C sv y).toArray,rfl,by omega,Qx _ _ (by simp),by unfold maxLen;omega,?_⟩⟩;rw[Qp];exact⟨n8 r T C sv y,[],by simp,D.out.below (A _ _ _),by rw[Qp];trivial⟩
theorem Qp.weak{Q:Nat->Prop}{l:List Nd}(h:Qp w P l c)(o:∀g,P g->Q g):Qp w Q l c:=Qp.kept (fun g y r _=>⟨rfl,o g r⟩) l c h
def Nd.at':Nd->Nat
 | .mk _ _ _ _ p=>p
def Jh(kd:Nat)(l:List Nd):Nd:=match l with
 |[n]=>n
 |n::r=>.mk kd {data:=#[]} 0 (n::r) n.at'
 |[]=>.mk kd {data:=#[]} 0 [] 0
theorem z7L(kd B g D:Nat)(n:Nd)(r:List Nd)(xs:List Value)(w:World)(ho:w.ownsRow B 119 8 (.slice (some ⟨g,0,none⟩) (r.length+1) D) (r.length+1) xs)(hn:Qp w (fun g=>B<=g) (n::r) xs)(hB:B<=w.heap.size)(hr:r.length<=100000):
  Calls prog 193 #[.int .i64 kd,.slice (some ⟨g,0,none⟩) (r.length+1) D] w fun e w'=>∃cs:List Value,e=.returned (.agg cs.toArray)/\Hid (Qh w' (fun g=>B<=g) (Jh kd (n::r)) cs)/\Hid (Below w.heap.size w w'):=by
 have HO:Hid (w.ownsRow B 119 8 (.slice (some ⟨g,0,none⟩) (r.length+1) D) (r.length+1) xs):=ho;have HN:Hid (Qp w (fun g=>B<=g) (n::r) xs):=hn;have hg:=ho.lt g rfl;rw[Qp]at hn;obtain⟨c,rest,rfl,Z,h2⟩:=hn;have H1:Hid (Qh w (fun g=>B<=g) n c):=Z;have af:=Z.len;obtain⟨A,T,C,V,y⟩:=n;rw[Qh]at Z;obtain⟨sv,rfl,ab⟩:=Z;obtain⟨E,G,U,rfl⟩:∃E G U,sv=.slice E G U:=by
  rcases ab with⟨_,h⟩|⟨_,g1,c1,_,h,_⟩
  ·exact⟨_,_,_,h⟩
  ·exact⟨_,_,_,h⟩
 clear ab;have e:∀j u,(n8 A T C (.slice E G U) y)[j]? =some u->w.cell? ⟨g,j,none⟩=some u:=fun j u hj=>by
  have ac:j<(n8 A T C (.slice E G U) y).length:=by
   rcases Nat.lt_or_ge j (n8 A T C (.slice E G U) y).length with h|h
   ·exact h
   ·rw[List.getElem?_eq_none h]at hj;cases hj
  have ag:j<8:=ac;rw[HO.out.cellAt j (by omega),List.getElem?_append_left ac];exact hj
 have e0:=e 0 _ rfl;have e1:=e 1 _ rfl;have e2:=e 2 _ rfl;have e3:=e 3 _ rfl;have e4:=e 4 _ rfl;have e5:=e 5 _ rfl;have e6:=e 6 _ rfl;have e7:=e 7 _ rfl;clear e h2 ho;obtain⟨m,hm⟩:∃m,m=r.length:=⟨_,rfl⟩;have HM:Hid (m=r.length):=hm;rw[<-hm]at HO hr ⊢;clear hm;by_cases hm0:m=0
 ·have ad:r=[]:=List.eq_nil_of_length_eq_zero (by rw[<-HM.out];exact hm0)
  have HJ:Hid (Jh kd (.mk A T C V y::r)=.mk A T C V y):=by show _=_;rw[ad];rfl
  clear ad;subst hm0;go_enter func193,ntmps193
  go_wp2_with fail
  (try simp only[Exit.inBlock,Exit.then])
  refine bodyPost_ret (v:=.agg (n8 A T C (.slice E G U) y).toArray) (by simp[results,Tryz.results193,go_sem]) rfl ?_;have Y:∀o:Obj,Below w.heap.size w (w.alloc o):=fun o=>B0q.alloc L0q _
  exact⟨_,rfl,hid (by rw[HJ.out];exact H1.out.below (Y _)),hid (Y _)⟩
 ·have t1:((m:Int)+1 == 1)=false:=by simp;omega
  have HJ:Hid (Jh kd (.mk A T C V y::r)=.mk kd {data:=#[]} 0 (.mk A T C V y::r) y):=by
   show _=_;cases r with
   |nil=>exact absurd HM.out hm0
   |cons a b=>rfl
  go_enter func193,ntmps193
  go_wp2_with fail
  (try simp only[Exit.inBlock,Exit.then])
  refine bodyPost_ret (v:=.agg #[.int .i64 kd,.string ⟨#[]⟩,.int .u64 0,.int .u64 0,.int .u64 0,.int .u64 0,.slice (some ⟨g,0,none⟩) (m+1) D,.int .i64 y]) (by simp[results,Tryz.results193,go_sem]) rfl ?_;have Y:∀o:Obj,Below w.heap.size w (w.alloc o):=fun o=>B0q.alloc L0q _
  refine⟨n8 kd {data:=#[]} 0 (.slice (some ⟨g,0,none⟩) (m+1) D) y,by simp[Um],hid ?_,hid (Y _)⟩;rw[HJ.out,Qh];obtain⟨_,⟨hq,_⟩|⟨g',ah,aa,hq,_,hh,_,hc,_,ht⟩⟩:=HO.out
  ·cases hq
  ·cases hq
   refine⟨_,rfl,.inr ⟨rfl,g,D,aa,by rw[Dm,HM.out];rfl,hg.1,(Below.heap_alloc w _ g hg.2).trans hh,hc,?_⟩⟩;have hx:Qp w (fun g=>B<=g) (.mk A T C V y::r) aa.toList:=by
    rw[<-List.take_append_drop ((m+1)*8) aa.toList,ht];exact Qp.more _ _ _ HN.out
   exact Qp.kept (fun g2 ai hp ae=>⟨(Y _).block g2 (by
    rcases Nat.lt_or_ge g2 w.heap.size with h|h
    ·exact h
    ·rw[Array.getElem?_eq_none h]at ae;cases ae),hp⟩) _ _ hx
abbrev Pr:=(Nat×Nat) ⊕ (Nd×Nat)
def Qd(r:Pr)(B R b:Nat)(v:Value)(L:List Tok)(ru ne:Nat)(w:World)(e:Ending)(w':World):Prop:=
 match r with
 | .inr (n,k')=>∃cs:List Value,e=.returned (.agg cs.toArray)/\Hid (Qh w' (fun g=>B<=g) n cs)/\Hid (Rd w' R b v L k' ru ne)/\Hid (w.grownBy w' (some R))
 | .inl c=>∃f,e=.panicked [{v:=.iface 181 (zP f 0),recovered:=false}]/\Hid (w.heap.size<=f/\Flt w' f c)/\Hid (w.grownBy w' (some R))
theorem Rd.other{ne:Nat}(h:Rd w R b v L k ru ne)(o:g≠R)(r:v.ownBlock≠some g):Rd (w.setCell ⟨g,j,none⟩ u) R b v L k ru ne:=
 ⟨(Below.heap_setCell _ _ _ _ (Ne.symm o)).trans h.1,h.2.kept (row:=some g) ⟨rfl,rfl,rfl,by simp,fun i A y=>Below.heap_setCell _ _ _ _ (fun e=>y (by rw[e]))⟩ (.inr r)⟩
theorem G.below(h:zB w w'):w.grownBy w' (some R):=⟨h.os,h.tape,h.output,h.size,fun j o _=>h.block j o⟩
theorem G.setR(h:w.grownBy w' (some R)):w.grownBy (w'.setCell ⟨R,j,none⟩ u) (some R):=
 ⟨h.os,h.tape,h.output,by simpa using h.size,fun i r o=>(Below.heap_setCell _ _ _ _ (fun e=>o (by rw[e]))).trans (h.block i r o)⟩
theorem G.setN(h:w.grownBy w' (some R))(y:w.heap.size<=g):w.grownBy (w'.setCell ⟨g,j,none⟩ u) (some R):=
 ⟨h.os,h.tape,h.output,by simpa using h.size,fun i o r=>(Below.heap_setCell _ _ _ _ (fun e=>by have A:i=g:=e;omega)).trans (h.block i o r)⟩
theorem G.alloc{w w':World}{r:Option Nat}{o:Obj}(h:w.grownBy w' r):w.grownBy (w'.alloc o) r:=
 ⟨h.os,h.tape,h.output,by have:=h.size;simp;omega,fun i y A=>(Below.heap_alloc w' o i (Nat.lt_of_lt_of_le y h.size)).trans (h.block i y A)⟩
@[reducible] def st8 (w:World) (g:Nat) (kd:Int) (T:zA) (c0 c1 c2 c3:Int) (sv:Value) (p:Int):World:=(((((((w.setCell ⟨g,0,none⟩ (zI kd)).setCell ⟨g,1,none⟩ (zT T)).setCell ⟨g,2,none⟩ (zU c0)).setCell ⟨g,3,none⟩ (zU c1)).setCell ⟨g,4,none⟩ (zU c2)).setCell ⟨g,5,none⟩ (zU c3)).setCell ⟨g,6,none⟩ sv).setCell ⟨g,7,none⟩ (zI p)
theorem Vb{o a1 a2 a3 a4 r y A:Value}(h:zH w g (.cells #[o,a1,a2,a3,a4,r,y,A] 119))(kd:Int)(T:zA)(c0 c1 c2 c3:Int)(sv:Value)(p:Int):
  (st8 w g kd T c0 c1 c2 c3 sv p).heap[g]? =some (.cells #[zI kd,zT T,zU c0,zU c1,zU c2,zU c3,sv,zI p] 119):=by
 simp only[World.setCell,Array.getElem?_modify,if_true,Option.map_map];rw[h];simp
theorem z7M(B R b:Nat)(v:Value)(L:List Tok)(k ru ne:Nat)(T:ByteArray)(C p:Nat)(w:World)(h:Rd w R b v L k ru ne)(hk:k<L.length)(ht:L[k]=(3,T,C,p))(hl:L.length<=10000)(hB:B<=w.heap.size):
  Calls prog 280 #[.pointer (some ⟨R,0,none⟩)] w fun e w'=>Qd (.inr (.mk 2 T C [] p,k+1)) B R b v L ru ne w e w':=by
 have ac:=Tryz.fld0;have HT:Hid (∀w:World,Rd w R b v L k ru ne->Calls prog 132 #[.pointer (some ⟨R,0,none⟩)] w fun e w'=>e=.returned (tkv (3,T,C,p))/\Below w.heap.size w w'):=fun w h=>ht▸Jc R b v L k ru ne w h hk hl
 have Y:Hid (Rd w R b v L k ru ne):=h;have ad:=h.lt;obtain⟨W,E⟩:∃W,W=w.alloc (.cells #[.int .i64 0,.string ⟨#[]⟩,.int .u64 0,.int .u64 0,.int .u64 0,.int .u64 0,.slice none 0 0,.int .i64 0] 119):=⟨_,rfl⟩;have V:Hid (Below w.heap.size w W):=by show Below _ _ _;rw[E];exact B0q.alloc L0q _
 clear h ht;go_enter func280,ntmps280
 go_wp2_with fail
 rw[<-E];refine(HT.out W (Y.out.below V.out)).mono ?_;rintro e w1 ⟨rfl,U⟩;have ab:Hid (Below w.heap.size w w1):=V.out.trans (U.mono V.out.size);have Z:Hid (Rd w1 R b v L k ru ne):=(Y.out.below V.out).below U;obtain⟨r0,r1,r2,r3,q0,q1,q2,q3⟩:=Z.out.cells;have ae:=Z.out.lt;have af:W.heap.size<=w1.heap.size:=U.size;have HK:Hid (w1.heap[w.heap.size]? =some (.cells #[.int .i64 0,.string ⟨#[]⟩,.int .u64 0,.int .u64 0,.int .u64 0,.int .u64 0,.slice none 0 0,.int .i64 0] 119)):=by
  show _=_;rw[U.block w.heap.size (by rw[E];simp),E];exact Qx w _ rfl
 obtain⟨k0,k1,k2,k3,k4,k5,k6,k7⟩:w1.cell? ⟨w.heap.size,0,none⟩=some (.int .i64 0)/\w1.cell? ⟨w.heap.size,1,none⟩=some (.string ⟨#[]⟩)/\w1.cell? ⟨w.heap.size,2,none⟩=some (.int .u64 0)/\w1.cell? ⟨w.heap.size,3,none⟩=some (.int .u64 0)/\w1.cell? ⟨w.heap.size,4,none⟩=some (.int .u64 0)/\w1.cell? ⟨w.heap.size,5,none⟩=some (.int .u64 0)/\w1.cell? ⟨w.heap.size,6,none⟩=some (.slice none 0 0)/\w1.cell? ⟨w.heap.size,7,none⟩=some (.int .i64 0):=by
  refine⟨?_,?_,?_,?_,?_,?_,?_,?_⟩<;>simp[World.cell?,HK.out]
 obtain⟨f0,f1,f2,f3,f4,f5,f6,f7⟩:w1.frozen? ⟨w.heap.size,0,none⟩=false/\w1.frozen? ⟨w.heap.size,1,none⟩=false/\w1.frozen? ⟨w.heap.size,2,none⟩=false/\w1.frozen? ⟨w.heap.size,3,none⟩=false/\w1.frozen? ⟨w.heap.size,4,none⟩=false/\w1.frozen? ⟨w.heap.size,5,none⟩=false/\w1.frozen? ⟨w.heap.size,6,none⟩=false/\w1.frozen? ⟨w.heap.size,7,none⟩=false:=by
  refine⟨?_,?_,?_,?_,?_,?_,?_,?_⟩<;>simp[World.frozen?,HK.out]
 have ag:w.heap.size<w1.heap.size:=by have ah:w.heap.size<W.heap.size:=(by rw[E];simp)
                                      omega
 have r:R≠w.heap.size:=by omega
 clear U E;dsimp only[tkv]
 go_wp2_with fail
 have hX:(w1.setCell ⟨R,1,none⟩ (.int .i64 ((k:Int)+1))).heap[w.heap.size]? =some (.cells #[.int .i64 0,.string ⟨#[]⟩,.int .u64 0,.int .u64 0,.int .u64 0,.int .u64 0,.slice none 0 0,.int .i64 0] 119):=(Below.heap_setCell _ _ _ _ (Ne.symm r)).trans HK.out;have hY:=Vb hX 2 T (wd C 0:Nat) (wd C 1:Nat) (wd C 2:Nat) (wd C 3:Nat) (.slice none 0 0) (p:Int);have hZ:∀o1 o2:Obj,(((st8 (w1.setCell ⟨R,1,none⟩ (.int .i64 ((k:Int)+1))) w.heap.size 2 T (wd C 0:Nat) (wd C 1:Nat) (wd C 2:Nat) (wd C 3:Nat) (.slice none 0 0) (p:Int)).alloc o1).alloc o2).heap[w.heap.size]? =some (.cells #[.int .i64 2,.string T,.int .u64 (wd C 0),.int .u64 (wd C 1),.int .u64 (wd C 2),.int .u64 (wd C 3),.slice none 0 0,.int .i64 p] 119):=fun o1 o2=>
  (Below.heap_alloc _ o2 _ (by simp;omega)).trans ((Below.heap_alloc _ o1 _ (by simp;omega)).trans hY)
 have y:=hZ (.cells #[.int .i64 3,.string T,.int .u64 (wd C 0),.int .u64 (wd C 1),.int .u64 (wd C 2),.int .u64 (wd C 3),.int .i64 p] 186) (.cells #[.int .i64 2,.string T,.int .u64 (wd C 0),.int .u64 (wd C 1),.int .u64 (wd C 2),.int .u64 (wd C 3),.slice none 0 0,.int .i64 p] 119);obtain⟨o,aa⟩:∃o,o=((st8 (w1.setCell ⟨R,1,none⟩ (.int .i64 ((k:Int)+1))) w.heap.size 2 T (wd C 0:Nat) (wd C 1:Nat) (wd C 2:Nat) (wd C 3:Nat) (.slice none 0 0) (p:Int)).alloc (.cells #[.int .i64 3,.string T,.int .u64 (wd C 0),.int .u64 (wd C 1),.int .u64 (wd C 2),.int .u64 (wd C 3),.int .i64 p] 186)).alloc (.cells #[.int .i64 2,.string T,.int .u64 (wd C 0),.int .u64 (wd C 1),.int .u64 (wd C 2),.int .u64 (wd C 3),.slice none 0 0,.int .i64 p] 119):=⟨_,rfl⟩;rw[<-aa]at y ⊢
 (try simp only[Exit.inBlock,Exit.then])
 have c0:o.cell? ⟨w.heap.size,0,none⟩=some (.int .i64 2):=by simp[World.cell?,y]
 have c1:o.cell? ⟨w.heap.size,1,none⟩=some (.string T):=by simp[World.cell?,y]
 have c2:o.cell? ⟨w.heap.size,2,none⟩=some (.int .u64 (wd C 0)):=by simp[World.cell?,y]
 have c3:o.cell? ⟨w.heap.size,3,none⟩=some (.int .u64 (wd C 1)):=by simp[World.cell?,y]
 have c4:o.cell? ⟨w.heap.size,4,none⟩=some (.int .u64 (wd C 2)):=by simp[World.cell?,y]
 have c5:o.cell? ⟨w.heap.size,5,none⟩=some (.int .u64 (wd C 3)):=by simp[World.cell?,y]
 have c6:o.cell? ⟨w.heap.size,6,none⟩=some (.slice none 0 0):=by simp[World.cell?,y]
 have c7:o.cell? ⟨w.heap.size,7,none⟩=some (.int .i64 p):=by simp[World.cell?,y]
 refine bodyPost_ret (v:=.agg (n8 2 T C (.slice none 0 0) p).toArray) (by simp[results,Tryz.results280,go_sem,c0,c1,c2,c3,c4,c5,c6,c7]) rfl ?_;have A:v.ownBlock≠some w.heap.size:=fun e=>by have:=(Y.out.2.lt _ e).2;omega
 have hN:Rd (w1.setCell ⟨R,1,none⟩ (.int .i64 ((k:Int)+1))) R b v L (k+1) ru ne:=by
  have:=Z.out.next (k+1);rw[show(((k+1:Nat):Int))=(k:Int)+1 by omega]at this;exact this
 refine⟨_,rfl,hid (by rw[Qh];exact⟨_,rfl,.inl ⟨rfl,rfl⟩⟩),hid ?_,hid ?_⟩
 ·rw[aa]
  exact(((((((((hN.other (Ne.symm r) A).other (Ne.symm r) A).other (Ne.symm r) A).other (Ne.symm r) A).other (Ne.symm r) A).other (Ne.symm r) A).other (Ne.symm r) A).other (Ne.symm r) A).below (B0q.alloc L0q _)).below (B0q.alloc L0q _)
 ·rw[aa]
  have D:=Nat.le_refl w.heap.size;exact G.alloc (G.alloc (G.setN (G.setN (G.setN (G.setN (G.setN (G.setN (G.setN (G.setN (G.setR (G.below ab.out)) D) D) D) D) D) D) D) D))
theorem z7N(B R b:Nat)(v:Value)(L:List Tok)(k ru ne:Nat)(T:ByteArray)(C p:Nat)(w:World)(h:Rd w R b v L k ru ne)(hk:k<L.length)(ht:L[k]=(4,T,C,p))(hl:L.length<=10000)(hB:B<=w.heap.size):
  Calls prog 280 #[.pointer (some ⟨R,0,none⟩)] w fun e w'=>Qd (.inr (.mk 3 T C [] p,k+1)) B R b v L ru ne w e w':=by
 have ac:=Tryz.fld0;have HT:Hid (∀w:World,Rd w R b v L k ru ne->Calls prog 132 #[.pointer (some ⟨R,0,none⟩)] w fun e w'=>e=.returned (tkv (4,T,C,p))/\Below w.heap.size w w'):=fun w h=>ht▸Jc R b v L k ru ne w h hk hl
 have Y:Hid (Rd w R b v L k ru ne):=h;have ad:=h.lt;obtain⟨W,E⟩:∃W,W=w.alloc (.cells #[.int .i64 0,.string ⟨#[]⟩,.int .u64 0,.int .u64 0,.int .u64 0,.int .u64 0,.slice none 0 0,.int .i64 0] 119):=⟨_,rfl⟩;have V:Hid (Below w.heap.size w W):=by show Below _ _ _;rw[E];exact B0q.alloc L0q _
 clear h ht;go_enter func280,ntmps280
 go_wp2_with fail
 rw[<-E];refine(HT.out W (Y.out.below V.out)).mono ?_;rintro e w1 ⟨rfl,U⟩;have ab:Hid (Below w.heap.size w w1):=V.out.trans (U.mono V.out.size);have Z:Hid (Rd w1 R b v L k ru ne):=(Y.out.below V.out).below U;obtain⟨r0,r1,r2,r3,q0,q1,q2,q3⟩:=Z.out.cells;have ae:=Z.out.lt;have af:W.heap.size<=w1.heap.size:=U.size;have HK:Hid (w1.heap[w.heap.size]? =some (.cells #[.int .i64 0,.string ⟨#[]⟩,.int .u64 0,.int .u64 0,.int .u64 0,.int .u64 0,.slice none 0 0,.int .i64 0] 119)):=by
  show _=_;rw[U.block w.heap.size (by rw[E];simp),E];exact Qx w _ rfl
 obtain⟨k0,k1,k2,k3,k4,k5,k6,k7⟩:w1.cell? ⟨w.heap.size,0,none⟩=some (.int .i64 0)/\w1.cell? ⟨w.heap.size,1,none⟩=some (.string ⟨#[]⟩)/\w1.cell? ⟨w.heap.size,2,none⟩=some (.int .u64 0)/\w1.cell? ⟨w.heap.size,3,none⟩=some (.int .u64 0)/\w1.cell? ⟨w.heap.size,4,none⟩=some (.int .u64 0)/\w1.cell? ⟨w.heap.size,5,none⟩=some (.int .u64 0)/\w1.cell? ⟨w.heap.size,6,none⟩=some (.slice none 0 0)/\w1.cell? ⟨w.heap.size,7,none⟩=some (.int .i64 0):=by
  refine⟨?_,?_,?_,?_,?_,?_,?_,?_⟩<;>simp[World.cell?,HK.out]
 obtain⟨f0,f1,f2,f3,f4,f5,f6,f7⟩:w1.frozen? ⟨w.heap.size,0,none⟩=false/\w1.frozen? ⟨w.heap.size,1,none⟩=false/\w1.frozen? ⟨w.heap.size,2,none⟩=false/\w1.frozen? ⟨w.heap.size,3,none⟩=false/\w1.frozen? ⟨w.heap.size,4,none⟩=false/\w1.frozen? ⟨w.heap.size,5,none⟩=false/\w1.frozen? ⟨w.heap.size,6,none⟩=false/\w1.frozen? ⟨w.heap.size,7,none⟩=false:=by
  refine⟨?_,?_,?_,?_,?_,?_,?_,?_⟩<;>simp[World.frozen?,HK.out]
 have ag:w.heap.size<w1.heap.size:=by have ah:w.heap.size<W.heap.size:=(by rw[E];simp)
                                      omega
 have r:R≠w.heap.size:=by omega
 clear U E;dsimp only[tkv]
 go_wp2_with fail
 have hX:(w1.setCell ⟨R,1,none⟩ (.int .i64 ((k:Int)+1))).heap[w.heap.size]? =some (.cells #[.int .i64 0,.string ⟨#[]⟩,.int .u64 0,.int .u64 0,.int .u64 0,.int .u64 0,.slice none 0 0,.int .i64 0] 119):=(Below.heap_setCell _ _ _ _ (Ne.symm r)).trans HK.out;have hY:=Vb hX 3 T (wd C 0:Nat) (wd C 1:Nat) (wd C 2:Nat) (wd C 3:Nat) (.slice none 0 0) (p:Int);have hZ:∀o1 o2:Obj,(((st8 (w1.setCell ⟨R,1,none⟩ (.int .i64 ((k:Int)+1))) w.heap.size 3 T (wd C 0:Nat) (wd C 1:Nat) (wd C 2:Nat) (wd C 3:Nat) (.slice none 0 0) (p:Int)).alloc o1).alloc o2).heap[w.heap.size]? =some (.cells #[.int .i64 3,.string T,.int .u64 (wd C 0),.int .u64 (wd C 1),.int .u64 (wd C 2),.int .u64 (wd C 3),.slice none 0 0,.int .i64 p] 119):=fun o1 o2=>
  (Below.heap_alloc _ o2 _ (by simp;omega)).trans ((Below.heap_alloc _ o1 _ (by simp;omega)).trans hY)
 have y:=hZ (.cells #[.int .i64 4,.string T,.int .u64 (wd C 0),.int .u64 (wd C 1),.int .u64 (wd C 2),.int .u64 (wd C 3),.int .i64 p] 186) (.cells #[.int .i64 3,.string T,.int .u64 (wd C 0),.int .u64 (wd C 1),.int .u64 (wd C 2),.int .u64 (wd C 3),.slice none 0 0,.int .i64 p] 119);obtain⟨o,aa⟩:∃o,o=((st8 (w1.setCell ⟨R,1,none⟩ (.int .i64 ((k:Int)+1))) w.heap.size 3 T (wd C 0:Nat) (wd C 1:Nat) (wd C 2:Nat) (wd C 3:Nat) (.slice none 0 0) (p:Int)).alloc (.cells #[.int .i64 4,.string T,.int .u64 (wd C 0),.int .u64 (wd C 1),.int .u64 (wd C 2),.int .u64 (wd C 3),.int .i64 p] 186)).alloc (.cells #[.int .i64 3,.string T,.int .u64 (wd C 0),.int .u64 (wd C 1),.int .u64 (wd C 2),.int .u64 (wd C 3),.slice none 0 0,.int .i64 p] 119):=⟨_,rfl⟩;rw[<-aa]at y ⊢
 (try simp only[Exit.inBlock,Exit.then])
 have c0:o.cell? ⟨w.heap.size,0,none⟩=some (.int .i64 3):=by simp[World.cell?,y]
 have c1:o.cell? ⟨w.heap.size,1,none⟩=some (.string T):=by simp[World.cell?,y]
 have c2:o.cell? ⟨w.heap.size,2,none⟩=some (.int .u64 (wd C 0)):=by simp[World.cell?,y]
 have c3:o.cell? ⟨w.heap.size,3,none⟩=some (.int .u64 (wd C 1)):=by simp[World.cell?,y]
 have c4:o.cell? ⟨w.heap.size,4,none⟩=some (.int .u64 (wd C 2)):=by simp[World.cell?,y]
 have c5:o.cell? ⟨w.heap.size,5,none⟩=some (.int .u64 (wd C 3)):=by simp[World.cell?,y]
 have c6:o.cell? ⟨w.heap.size,6,none⟩=some (.slice none 0 0):=by simp[World.cell?,y]
 have c7:o.cell? ⟨w.heap.size,7,none⟩=some (.int .i64 p):=by simp[World.cell?,y]
 refine bodyPost_ret (v:=.agg (n8 3 T C (.slice none 0 0) p).toArray) (by simp[results,Tryz.results280,go_sem,c0,c1,c2,c3,c4,c5,c6,c7]) rfl ?_;have A:v.ownBlock≠some w.heap.size:=fun e=>by have:=(Y.out.2.lt _ e).2;omega
 have hN:Rd (w1.setCell ⟨R,1,none⟩ (.int .i64 ((k:Int)+1))) R b v L (k+1) ru ne:=by
  have:=Z.out.next (k+1);rw[show(((k+1:Nat):Int))=(k:Int)+1 by omega]at this;exact this
 refine⟨_,rfl,hid (by rw[Qh];exact⟨_,rfl,.inl ⟨rfl,rfl⟩⟩),hid ?_,hid ?_⟩
 ·rw[aa]
  exact(((((((((hN.other (Ne.symm r) A).other (Ne.symm r) A).other (Ne.symm r) A).other (Ne.symm r) A).other (Ne.symm r) A).other (Ne.symm r) A).other (Ne.symm r) A).other (Ne.symm r) A).below (B0q.alloc L0q _)).below (B0q.alloc L0q _)
 ·rw[aa]
  have D:=Nat.le_refl w.heap.size;exact G.alloc (G.alloc (G.setN (G.setN (G.setN (G.setN (G.setN (G.setN (G.setN (G.setN (G.setR (G.below ab.out)) D) D) D) D) D) D) D) D))
theorem z7O(B R b:Nat)(v:Value)(L:List Tok)(k ru ne:Nat)(t:Tok)(w:World)(h:Rd w R b v L k ru ne)(V:k<L.length)(r:L[k]=t)(h1:t.1≠1)(h3:t.1≠3)(h4:t.1≠4)(Y:¬sgT t={data:=#[46]})(hp:¬sgT t={data:=#[40]})(hl:L.length<=10000)(hB:B<=w.heap.size):
  Calls prog 280 #[zP R 0] w fun e w'=>Qd (.inl (wrC t,t.2.2.2)) B R b v L ru ne w e w':=by
 have aj:=Tryz.fld0;have HT:Hid (∀w:World,Rd w R b v L k ru ne->Calls prog 132 #[zP R 0] w (zR w (tkv t))):=fun w h=>r▸Jc R b v L k ru ne w h V hl
 have y:Hid (∀w:World,Rd w R b v L k ru ne->Calls prog 192 #[zP R 0] w (zR w (zT (sgT t)))):=fun w h=>r▸Lc R b v L k ru ne w h V hl
 have HW:Hid (∀w:World,Rd w R b v L k ru ne->Calls prog 165 #[zP R 0] w fun e w'=>∃f,e=.returned (zP f 0)/\Hid (w.heap.size<=f/\Flt w' f (wrC t,t.2.2.2)/\zB w w')):=fun w h=>r▸z0U R b v L k ru ne w h V hl
 have A:Hid (Rd w R b v L k ru ne):=h;obtain⟨Z,hZ⟩:∃Z,Z=sgT t:=⟨_,rfl⟩;rw[<-hZ]at y Y hp;have s1:(Z.toList == [46])=false:=Jg Y;have s2:(Z.toList == [40])=false:=Jg hp;obtain⟨kd,T,C,p⟩:=t;have t1:((kd:Int) == 1)=false:=by have ac:kd≠1:=h1;simp;omega
 have t3:((kd:Int) == 3)=false:=by have ac:kd≠3:=h3;simp;omega
 have t4:((kd:Int) == 4)=false:=by have ac:kd≠4:=h4;simp;omega
 obtain⟨W,hW⟩:∃W,W=w.alloc (.cells #[zI 0,zT {data:=#[]},zU 0,zU 0,zU 0,zU 0,.slice none 0 0,zI 0] 119):=⟨_,rfl⟩;have aa:Hid (zB w W):=by show Below _ _ _;rw[hW];exact B0q.alloc L0q _
 clear h r Y hp hZ h1 h3 h4;go_enter func280,ntmps280
 go_wp2_with fail
 rw[<-hW];clear hW;refine(HT.out W (A.out.below aa.out)).mono ?_;rintro e w1 ⟨rfl,ad⟩;have ab:Hid (zB w w1):=aa.out.trans (ad.mono aa.out.size);clear ad HT;dsimp only[tkv];have ae:∀a c:Obj,Hid (zB w ((w1.alloc a).alloc c)):=fun a c=>(ab.out.alloc ab.out.size _).alloc (by have:=ab.out.size;simp;omega) _
 have D:=hid ae;clear ae
 go_wp2_with fail
 refine(y.out _ (A.out.below (D.out _ _).out)).mono ?_;rintro e w2 ⟨rfl,af⟩;have E:Hid (zB w w2):=(D.out _ _).out.trans (af.mono (D.out _ _).out.size);clear af D
 go_wp2_with fail
 refine(y.out w2 (A.out.below E.out)).mono ?_;rintro e w3 ⟨rfl,ag⟩;have o:Hid (zB w w3):=E.out.trans (ag.mono E.out.size);clear ag E y
 go_wp2_with fail
 refine(HW.out w3 (A.out.below o.out)).mono ?_;rintro e w4 ⟨f,rfl,U⟩;have ah:Hid (zB w w4):=o.out.trans (U.out.2.2.mono o.out.size);have ai:Hid (w.heap.size<=f/\Flt w4 f (wrC (kd,T,C,p),p)):=⟨Nat.le_trans o.out.size U.out.1,U.out.2.1⟩;clear U o HW
 go_wp2_with fail
 exact⟨rfl,⟨f,rfl,ai,hid (G.below ah.out)⟩⟩
end Go.Proofs.YtmelafeingcgnaaGreatDoor
