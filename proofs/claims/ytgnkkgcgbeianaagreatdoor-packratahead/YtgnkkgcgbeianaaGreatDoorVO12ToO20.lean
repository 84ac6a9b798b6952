/- Lemmas for the last text. Conditions: those that each names. -/
import Derived.Test.YtgnkkgcgbeianaaGreatDoorVO6ToS3
import Derived.Test.YtgnkkgcgbeianaaGreatDoorVW4ToS9
import Derived.Test.YtgnkkgcgbeianaaGreatDoorVX10ToY2
import Derived.Deep.RegionHeld3
set_option linter.unusedVariables false
set_option maxRecDepth 100000
set_option maxHeartbeats 8000000
namespace Go.Proofs.YtgnkkgcgbeianaaGreatDoor
open Go.Proofs.Tryz
open Go.RowKit Go.Shelf
variable {v:Value} {W:World} {x:Int}
theorem z0c{M:ByteArray}(h:nmS M=true):1<=M.size:=by
 rcases Nat.lt_or_ge 0 M.size with o|o
 ·exact o
 ·have e:M={data:=#[]}:=by
   apply ByteArray.ext;apply Array.ext';exact List.eq_nil_of_length_eq_zero (by have:M.data.size=M.size:=rfl;rw[Array.length_toList];omega)
  subst e
  revert h
  decide+kernel
theorem Kj(h:Nat)(n:Nd):sz (pN qT cT n)<=sz (pP qT cT h n):=by
 unfold pP;split
 ·rw[sz,Xd];omega
 ·exact Nat.le_refl _
mutual
theorem z0d:∀(t:RT) (n:Nd),Tq t n->Vk n->Wf Nmq n->(rfT t).length<=sz (pN qT cT n)
 | .mk k T a b c d s p,.mk kd T' C s' p',hq,hv,hw=>by
   rw[Tq]at hq;obtain⟨V,Y,_,_,_,_,y⟩:=hq;rw[Wf]at hw;rw[Vk]at hv;rw[rfT];by_cases h5:kd=5
   ·rw[if_pos (by omega)]
    have o:1<=T'.size:=z0c (hw.2.1 h5);rw[h5,pN];simp[sz];exact o
   ·rw[if_neg (by omega)]
    have A:∀D E,(rfL s).length<=sz (pS qT cT D E s'):=fun D E=>by
     cases s with
     |nil=>rw[rfL];exact Nat.zero_le _
     |cons t r=>
      cases s' with
      |nil=>simp[TqL]at y
      |cons n q=>
       rw[TqL]at y;have G:=hv.2;rw[VkL]at G;have I:=hw.2.2.2;rw[WfL]at I;have Z:=z0d t n y.1 G.1 I.1;have i2:=z4v r q D E y.2 G.2 I.2;have i3:=Kj D n;rw[rfL,List.length_append,Dm,Xd];omega
    have U:kd<=4->(rfL s).length=0:=fun h=>by
     have e:s'=[]:=by
      rcases hv.1 with o|o|o|o|o|o|o
      ·exact o.2.2.2
      ·exact o.2.2
      ·exact o.2.2
      ·exact o.2.2.2
      ·omega
      ·omega
      ·omega
     have:=A 0 bE;rw[e,pS,sz]at this;omega
    rw[pN]
    repeat' split
    all_goals first
     |(rw[U (by omega)];exact Nat.zero_le _)
     |exact A _ _
     |(rw[sz];exact Nat.le_trans (A _ _) (Nat.le_add_left _ _))
     |(rw[Xd];exact Nat.le_trans (A _ _) (Nat.le_add_right _ _))
     |omega
theorem z4v:∀(s:List RT) (q:List Nd) (o:Nat) (y:ByteArray),TqL s q->VkL q->WfL Nmq q->(rfL s).length<=sz (pB qT cT o y q)
 |[],_,_,_,_,_,_=>by rw[rfL];exact Nat.zero_le _
 |t::r,[],_,_,h,_,_=>by simp[TqL]at h
 |t::r,n::q,o,y,h,hv,hw=>by
  rw[TqL]at h;rw[VkL]at hv;rw[WfL]at hw;have A:=z0d t n h.1 hv.1 hw.1;have D:=z4v r q o y h.2 hv.2 hw.2;have E:=Kj o n;rw[rfL,List.length_append,Dp,sz,Xd];omega
end
theorem Hl:∀{rs:List Rr} {ns:List Rl},TqR rs ns->(∀x∈ns,Ruk Nmq x)->∀x∈rs,(rfT x.2.1).length<=sz (pR qT cT ns)
 |[],_,_,_,x,hx=>by simp at hx
 |a::r,[],h,_,_,_=>by simp[TqR]at h
 |a::r,b::q,h,hk,x,hx=>by
  rw[TqR]at h;rw[pR,sz,sz,Xd,sz];rcases List.mem_cons.1 hx with rfl|hx
  ·have o:=hk b (by simp)
   have:=z0d _ _ h.2.1 o.2.1 o.2.2;omega
  ·have:=Hl h.2.2 (fun y t=>hk y (List.mem_cons_of_mem _ t)) x hx
   omega
theorem Iz(h:Option Addr)(n o:Nat)(A E:Value)(w:World)
  (t:Hid (∀W:World,Below w.heap.size w W->Calls prog 231 #[.agg #[.slice h n o]] W fun e w'=>e=.returned (.tuple #[A,E])/\Below W.heap.size W w')):
  Calls prog 225 #[.agg #[.slice h n o]] w fun e w'=>e=.returned E/\Below w.heap.size w w':=by
 have r:Hid (Below w.heap.size w (w.alloc (.cells #[.slice h n o] 43))):=(Below.refl _ w).alloc L0q _;go_enter func225,ntmps225
 go_wp2_with(first|(go_at_call 231;refine(t.out _ r.out).mono ?_;rintro e y ⟨rfl,D⟩;have G:Hid (Below w.heap.size w y):=r.out.trans (D.mono r.out.size)))
 go_ret;exact⟨rfl,G.out⟩
def RtA(rs:List Rr)(E:Value):Prop:=(∃c:Int,(c=2∨c=20)/\E=.iface 36 (.int .i64 c))∨(E=.nilIface/\okG rs=true/\∀x∈rs,(rfT x.2.1).length<=8192)
open Go.Maps
attribute [local go_sem] Oper.semAt_some
theorem y2O(t:Option Addr)(n y:Nat)(c:Int)(w:World)
  (I:Hid (∀W:World,Below w.heap.size w W->Calls prog 225 #[.agg #[.slice t n y]] W fun e w'=>e=.returned (.iface 36 (.int .i64 c))/\Below W.heap.size W w'))(m:Nat):
  CallsIn Fence.wide (m+5) prog 189 #[.agg #[.slice t n y]] w fun e w'=>e=.returned (.tuple #[.map none,.iface 36 (.int .i64 c)])/\Below w.heap.size w w':=by
 obtain⟨h,o⟩:∃h,h=((w.alloc (.cells #[.slice t n y] 43)).alloc (.cells #[.map none] 127)).alloc (.cells #[.nilIface] 30):=⟨_,rfl⟩;have A:Below w.heap.size w h:=by rw[o];exact(((Below.refl _ w).alloc L0q _).alloc (by simp) _).alloc (by simp;omega) _
 have c2:h.heap[w.heap.size+1]? =some (.cells #[.map none] 127):=by
  rw[o];exact(Below.heap_alloc _ _ _ (by simp)).trans (Qx _ _ (by simp))
 have c3:h.heap[w.heap.size+1+1]? =some (.cells #[.nilIface] 30):=by
  rw[o];exact Qx _ _ (by simp)
 have aa:h.heap.size=w.heap.size+1+1+1:=by rw[o];simp
 have U:=hid (I.out h A);refine callsIn_of_wp_marks func189 rfl trivial ?_ rfl;simp only[ntmps189,List.size_toArray,List.length_cons,List.length_nil,Nat.reduceAdd,Nat.reduceSub,Array.replicate_succ,Array.replicate_zero,List.push_toArray,List.append_toArray,List.nil_append,List.cons_append]
 gi_wp2
 rw[<-o];clear o;refine⟨trivial,?_⟩;refine(callsIn_wide.2 U.out).mono ?_;rintro e D ⟨rfl,r⟩;have E:=(r.block _ (by omega)).trans c2;have G:=(r.block _ (by omega)).trans c3;have ab:=r.size;have V:Hid (Below w.heap.size w D):=A.trans (r.mono A.size);obtain⟨x2,e2⟩:=Qw E;obtain⟨x3,e3⟩:=Qw G;have l2:=Qq E;have l3:=Qq G;clear U I c2 c3
 gi_wp2
 have Y:Boxed D (w.heap.size+1) 127 (.map none):=E;have Z:Boxed D (w.heap.size+1+1) 30 .nilIface:=G;have y1:=((Y.set (.map none)).other (B':=w.heap.size+1+1) (by omega) (.iface 36 (.int .i64 c))).cell;have y2:=((Z.other (B':=w.heap.size+1) (by omega) (.map none)).set (.iface 36 (.int .i64 c))).cell;refine⟨.tuple #[.map none,.iface 36 (.int .i64 c)],by simp[results,Tryz.f189,go_sem,y1,y2],rfl,?_⟩;exact(V.out.setCell (p:=⟨w.heap.size+1,0,none⟩) (by show w.heap.size<=_+1;omega) _).setCell (p:=⟨w.heap.size+1+1,0,none⟩) (by show w.heap.size<=_+1+1;omega) _
def Zm(X:Option (Int ⊕ (Int×Int)))(S:Nat)(w':World)(v:Value):Prop:=match X with
 |none=>v=.nilIface
 |some (.inl c)=>v=.iface 36 (.int .i64 c)
 |some (.inr q)=>∃g,v=.iface 134 (.pointer (some ⟨g,0,none⟩))/\S<=g/\w'.heap[g]? =some (.cells #[.int .i64 q.1,.int .i64 q.2] 136)
def CkX(rs:List Rr)(X:Option (Int ⊕ (Int×Int))):Prop:=match X with
 |none=>okG rs=true/\ckR rs=none/\∀x∈rs,(rfT x.2.1).length<=8192
 |some (.inl c)=>c=2∨c=20
 |some (.inr q)=>okG rs=true/\ckR rs=some q
theorem Zm.shape{X:Option (Int ⊕ (Int×Int))}{S:Nat}{w':World}(h:Zm X S w' v)(o:X≠none):∃t u,v=.iface t u:=by
 match X,o with
 |some (.inl c),_=>exact⟨_,_,h⟩
 |some (.inr q),_=>
  obtain⟨g,r,_⟩:=h;exact⟨_,_,r⟩
mutual
theorem Qv.upto{w:World}{B B':Nat}(A:B<=B'):∀(t:RT) (r:List Value),Qv w B t r->Qv w B' t r
 | .mk k T a b c d s p,r,h=>by
   rw[Qv]at h ⊢;obtain⟨D,E,rfl,h⟩:=h;refine⟨D,E,rfl,?_⟩;rcases h with y|⟨y,g,o,G,V,I,U⟩
   ·exact .inl y
   ·exact .inr ⟨y,g,o,G,by omega,I,Zx.upto A s g o U⟩
theorem Zx.upto{w:World}{B B':Nat}(h:B<=B'):∀(s:List RT) (g o:Nat),Zx w B g o s->Zx w B' g o s
 |[],g,o,_=>by rw[Zx];trivial
 |t::r,g,o,ht=>by
  rw[Zx]at ht ⊢;obtain⟨⟨y,A,D⟩,E⟩:=ht;exact⟨⟨y,Qv.upto h t y A,D⟩,Zx.upto h r g _ E⟩
end
theorem Qf.upto{w:World}{B B' n:Nat}{r:Option Addr}{rs:List Rr}(h:Qf w B r n rs)(t:B<=B'):Qf w B' r n rs:=
 ⟨h.1,h.2.1,fun j y=>by
   obtain⟨g,o,A,V,k,T,a,b,c,d,D,E,G,p,I,U⟩:=h.2.2 j y;exact⟨g,o,A,by omega,k,T,a,b,c,d,D,E,G,p,Qv.upto t _ _ I,U⟩⟩
theorem Zm.lo{X:Option (Int ⊕ (Int×Int))}{S S':Nat}{w':World}(h:Zm X S w' v)(t:S'<=S):Zm X S' w' v:=by
 match X with
 |none=>exact h
 |some (.inl c)=>exact h
 |some (.inr q)=>
  obtain⟨g,o,y,r⟩:=h;exact⟨g,o,by omega,r⟩
theorem z4w(t:Option Addr)(n y:Nat)(rs:List Rr)(X:Option (Int ⊕ (Int×Int)))(W:World)
  (A:Hid (∀W':World,Below W.heap.size W W'->Calls prog 189 #[.agg #[.slice t n y]] W' fun e w'=>∃m v,e=.returned (.tuple #[m,v])/\Zm X W'.heap.size w' v/\(X=none->∃M,m=.map (some M)/\W'.heap.size<=M/\Pm w' M (nmL rs))/\(X≠none->m=.map none)/\Below W'.heap.size W' w')):
  Calls prog 152 #[.agg #[.slice t n y]] W fun e w'=>∃v,e=.returned v/\Zm X W.heap.size w' v/\Below W.heap.size W w':=by
 have h:Hid (Below W.heap.size W (W.alloc (.cells #[.slice t n y] 43))):=(Below.refl _ W).alloc L0q _;have G:Hid (Below W.heap.size W W):=Below.refl _ W;go_enter func152,ntmps152
 go_wp2_with fail
 first
  |(refine(A.out _ h.out).mono ?_;rintro e I ⟨m,v,rfl,o,-,-,r⟩;have D:=h.out.trans (r.mono h.out.size);have E:=o.lo (S':=W.heap.size) h.out.size)
  |(refine(A.out _ G.out).mono ?_;rintro e I ⟨m,v,rfl,o,-,-,r⟩;have D:=r;have E:=o)
 clear A h G o r;have U:=hid D;have V:=hid E;clear D E
 go_wp2_with fail
 go_ret;exact⟨_,rfl,V.out,U.out⟩
theorem y2P{s:Nat}{u:List Int}(h:W.ownsRow s 3 1 v u.length (u.map (Value.int .i64)))(hl:u.length<=1048576):Hb W W.heap.size v u:=by
 rcases h.2 with⟨rfl,t⟩|⟨g,y,cur,rfl,D,r,E,G,I,A⟩
 ·cases u with
  |nil=>exact⟨none,0,rfl,hl,fun j o=>by simp at o⟩
  |cons _ _=>simp at t
 ·refine⟨_,y,rfl,hl,fun j o=>⟨g,0,rfl,(Array.getElem?_eq_some_iff.1 r).1,?_⟩⟩
  refine(Qj r (0+j) _ ?_).1;have e:(cur.toList.take (u.length*1))[j]? =(u.map (Value.int .i64))[j]? :=by rw[A]
  rw[List.getElem?_take_of_lt (by omega)]at e;rw[Nat.zero_add,<-Array.getElem?_toList,e];simp[o]
theorem y2Q{w:World}{r n:Nat}{vs:List Value}{us:List (List Int)}(h:Uw w r n vs us W)(y:vs.length=n)(hl:∀u∈us,u.length<=1048576)(D:n<=1048576):UsM W W.heap.size (.slice (some ⟨r,0,none⟩) n n) us:=by
 have A:us.length=n:=by rw[<-h.len];exact y
 refine⟨_,n,by rw[A],by omega,fun i o=>⟨r,0,vs[i]'(by rw[h.len];exact o),rfl,Qq h.blk,?_,y2P (h.row i (by rw[h.len];exact o) o) (hl _ (List.getElem_mem o))⟩⟩;refine(Qj h.blk (0+i) _ ?_).1;have t:i<vs.length:=by rw[h.len];exact o
 rw[Nat.zero_add,List.getElem?_toArray,List.getElem?_append_left t,List.getElem?_eq_getElem t]
theorem z0e{zs:List Int}(h:x∈Lib.compact zs):x∈zs:=by
 unfold Lib.compact Lib.compactUpTo at h;obtain⟨i,o,rfl⟩:=List.mem_map.1 h;have r:i<zs.length:=List.mem_range.1 (List.mem_filter.1 o).1;rw[getElem!_pos _ i (by simpa using r)];simp
theorem y2R{l:List ByteArray}{y:Rr}(hl:1<=l.length)(h:x∈usR l y):∃m:Nat,m<l.length/\x=(m:Int):=by
 have o:x∈ixL l (rfT y.2.1):=(Aw _).mem_iff.1 (z0e h);obtain⟨q,_,rfl⟩:=List.mem_map.1 o;refine⟨ixV l q.1,?_,rfl⟩;unfold ixV;cases hin:inN q.1 l with
 |true=>exact Fm _ _ hin
 |false=>exact hl
theorem Gc{rs:List Rr}(h:okG rs=true):1<=rs.length/\rs.length<=64:=by
 unfold okG at h;simp only[Bool.and_eq_true,decide_eq_true_eq]at h;exact⟨h.1,h.2.1⟩
@[reducible] def CkC (so:Option Addr) (n cap:Nat) (rs:List Rr) (X:Option (Int ⊕ (Int×Int))) (W:World):Prop:=∀W':World,Below W.heap.size W W'->Calls prog 189 #[.agg #[.slice so n cap]] W' fun e w'=>∃m v,e=.returned (.tuple #[m,v])/\Zm X W'.heap.size w' v/\(X=none->∃M,m=.map (some M)/\W'.heap.size<=M/\Pm w' M (nmL rs))/\(X≠none->m=.map none)/\Below W'.heap.size W' w'
theorem CkC.from{o:Option Addr}{n r:Nat}{rs:List Rr}{X:Option (Int ⊕ (Int×Int))}{W':World}(h:CkC o n r rs X W)(t:Below W.heap.size W W'):CkC o n r rs X W':=fun y A=>h y (t.trans (A.mono t.size))
open Go.Extern.Stop Go.Stop Go.Extern
theorem z4x(c:Int)(t:Addr)(old:Value)(w:World)(r:w.cell? ⟨0,0,none⟩=some (.iface 168 (.agg #[.pointer (some ⟨6,30,none⟩)])))(y:w.cell? t=some old)(D:w.frozen? t=false):
  Calls prog 27 #[.iface 36 (.int .i64 c),.iface 73 (.pointer (some t))] w fun E w'=>E=.returned (.bool true)/\w'=((((w.alloc (.cells #[.pointer (some t)] 73)).alloc (.cells #[.pointer (some ⟨6,73,none⟩),.pointer (some ⟨w.heap.size,0,none⟩),.int .u64 150] 112)).alloc (.cells #[.pointer (some ⟨6,73,none⟩),.pointer (some ⟨w.heap.size,0,none⟩),.int .u64 150] 112)).alloc (.cells #[.int .i64 c] 36)).setCell t (.int .i64 c):=by
 have I:= @run_callFunc_extern prog 46 _ (fun args=>ReflectliteValue.unpack (args.getD 0 (.tuple #[]))) func46 (by kernel_rfl) (by kernel_rfl) (by kernel_rfl) (by kernel_rfl);have U:= @run_callFunc_extern prog 47 _ (ReflectliteValue.methodAny (ReflectliteValue.valueError "reflectlite.Value.Type" 0) (fun t _ _ _=>ReflectliteType.toType t)) func47 (by kernel_rfl) (by kernel_rfl) (by kernel_rfl) (by kernel_rfl);have V:= @run_callFunc_extern prog 48 _ (ReflectliteValue.method (ReflectliteValue.valueError "reflectlite.Value.IsNil" 0) ReflectliteValue.isNil) func48 (by kernel_rfl) (by kernel_rfl) (by kernel_rfl) (by kernel_rfl);have Y:= @run_callFunc_extern prog 329 _ (ReflectliteType.abiMethod fun t=>do pure (.int .u8 (<-Rtype.kind t))) func329 (by kernel_rfl) (by kernel_rfl) (by kernel_rfl) (by kernel_rfl);have Z:= @run_callFunc_extern prog 341 _ (ReflectliteType.method ReflectliteType.elem) func341 (by kernel_rfl) (by kernel_rfl) (by kernel_rfl) (by kernel_rfl);have aa:= @run_callFunc_extern prog 342 _ (ReflectliteType.relation "Implements" ReflectliteType.implements_) func342 (by kernel_rfl) (by kernel_rfl) (by kernel_rfl) (by kernel_rfl);have ab:= @run_callFunc_extern prog 78 _ ReflectliteType.typeOf func78 (by kernel_rfl) (by kernel_rfl) (by kernel_rfl) (by kernel_rfl);have ac:= @run_callFunc_extern prog 339 _ (ReflectliteType.relation "AssignableTo" ReflectliteType.assignableTo) func339 (by kernel_rfl) (by kernel_rfl) (by kernel_rfl) (by kernel_rfl);have ad:= @run_callFunc_extern prog 79 _ (ReflectliteValue.method (ReflectliteValue.valueError "reflectlite.Value.Elem" 0) ReflectliteValue.elem) func79 (by kernel_rfl) (by kernel_rfl) (by kernel_rfl) (by kernel_rfl);have ae:= @run_callFunc_extern prog 80 _ ReflectliteValue.set func80 (by kernel_rfl) (by kernel_rfl) (by kernel_rfl) (by kernel_rfl);have tO:=Tryz.typeOfEE;have mA:=Tryz.methodAssignableTo;have aE:=Tryz.assignableEE;have vE:=Tryz.valueOfEE;have vP:=Tryz.valueOfPE;have tP:=Tryz.typePE;have mK:=Tryz.methodKind;have mE:=Tryz.methodElem;have mI:=Tryz.methodImplements;have kP:=Tryz.kindPE;have kE:=Tryz.kindEE;have eP:=Tryz.elemPE;have iE:=Tryz.implementsEE;have nP:=Tryz.isNilPE ⟨w.heap.size,0,none⟩ t ((w.alloc (.cells #[.pointer (some t)] 73)).alloc (.cells #[.pointer (some ⟨6,73,none⟩),.pointer (some ⟨w.heap.size,0,none⟩),.int .u64 150] 112)) (by simp);have G:0<w.heap.size:=by
  rcases Nat.lt_or_ge 0 w.heap.size with o|o
  ·exact o
  ·simp[World.cell?,Array.getElem?_eq_none o]at r
 have af:((w.alloc (.cells #[.pointer (some t)] 73)).alloc (.cells #[.pointer (some ⟨6,73,none⟩),.pointer (some ⟨w.heap.size,0,none⟩),.int .u64 150] 112)).cell? ⟨0,0,none⟩=some (.iface 168 (.agg #[.pointer (some ⟨6,30,none⟩)])):=by
  rw[World.cell?_alloc_lt _ _ ⟨0,0,none⟩ (by simp<;>omega),World.cell?_alloc_lt _ _ ⟨0,0,none⟩ G];exact r
 have A:t.block<w.heap.size:=by
  rcases Nat.lt_or_ge t.block w.heap.size with h|h
  ·exact h
  ·simp[World.cell?,Array.getElem?_eq_none h]at y
 have el:=Tryz.elemVE ⟨w.heap.size,0,none⟩ t (((w.alloc (.cells #[.pointer (some t)] 73)).alloc (.cells #[.pointer (some ⟨6,73,none⟩),.pointer (some ⟨w.heap.size,0,none⟩),.int .u64 150] 112)).alloc (.cells #[.pointer (some ⟨6,73,none⟩),.pointer (some ⟨w.heap.size,0,none⟩),.int .u64 150] 112)) (by rw[World.cell?_alloc_lt _ _ ⟨w.heap.size,0,none⟩ (by simp<;>omega)];simp);have st:=Tryz.setEE t ⟨w.heap.size+1+1+1,0,none⟩ c old ((((w.alloc (.cells #[.pointer (some t)] 73)).alloc (.cells #[.pointer (some ⟨6,73,none⟩),.pointer (some ⟨w.heap.size,0,none⟩),.int .u64 150] 112)).alloc (.cells #[.pointer (some ⟨6,73,none⟩),.pointer (some ⟨w.heap.size,0,none⟩),.int .u64 150] 112)).alloc (.cells #[.int .i64 c] 36))
  (by rw[World.cell?_alloc_at _ _ _ _ (by simp)];rfl)
  (by rw[World.cell?_alloc_lt _ _ t (by simp<;>omega),World.cell?_alloc_lt _ _ t (by simp<;>omega),World.cell?_alloc_lt _ _ t (by simp<;>omega),World.cell?_alloc_lt _ _ t A];exact y)
  (by rw[World.frozen?_alloc_old _ _ t (by simp<;>omega),World.frozen?_alloc_old _ _ t (by simp<;>omega),World.frozen?_alloc_old _ _ t (by simp<;>omega),World.frozen?_alloc_old _ _ t (Nat.ne_of_lt A)];exact D)
 go_enter func27,ntmps27
 go_wp2
 refine wp_loop_rounds 1 ?_;rw[rounds_succ]
 go_wp2
 go_ret;exact⟨rfl,rfl⟩
theorem y2S(c:Int)(w:World)(h:Yg w):Calls prog 14 #[.iface 36 (.int .i64 c)] w fun e w'=>e=.returned (.int .i64 c)/\Below w.heap.size w w':=by
 have y:=h.lt;have t:=z4x c ⟨w.heap.size,0,none⟩ (.int .i64 0) (w.alloc (.cells #[.int .i64 0] 36)) (by rw[World.cell?_alloc_lt _ _ ⟨0,0,none⟩ y];exact h) (by simp) (by simp);clear h;go_enter func14,ntmps14
 go_wp2_with fail
 refine t.mono ?_;rintro e o ⟨rfl,r⟩;have D:o.cell? ⟨w.heap.size,0,none⟩=some (.int .i64 c):=by
  rw[r];exact World.cell?_setCell_same' _ _ _ (by rw[World.cell?_alloc_lt _ _ ⟨w.heap.size,0,none⟩ (by simp<;>omega),World.cell?_alloc_lt _ _ ⟨w.heap.size,0,none⟩ (by simp<;>omega),World.cell?_alloc_lt _ _ ⟨w.heap.size,0,none⟩ (by simp<;>omega),World.cell?_alloc_lt _ _ ⟨w.heap.size,0,none⟩ (by simp)];simp)
 have A:Hid (Below w.heap.size w o):=by
  show Below w.heap.size w o;rw[r];exact(((((B0q.alloc L0q _).alloc (by simp) _).alloc (by simp<;>omega) _).alloc (by simp<;>omega) _).alloc (by simp<;>omega) _).setCell L0q _
 clear r t
 go_wp2
 go_ret;exact⟨rfl,A.out⟩
def xOf(rs:List Rr):Option (Int ⊕ (Int×Int)):=(ckR rs).map .inr
theorem z0f(t:Option Addr)(n y:Nat)(rs:List Rr)(B:Nat)(w:World)(Z:RgZ rs)(h:Qf w B t n rs)(U:B<=w.heap.size)(ab:5<w.heap.size)(V:okG rs=true)(hl:∀x∈rs,(rfT x.2.1).length<=8192)
  (hR:∀W:World,Below w.heap.size w W->Calls prog 225 #[.agg #[.slice t n y]] W fun e w'=>e=.returned .nilIface/\Below W.heap.size W w'):CkX rs (xOf rs)/\CkC t n y rs (xOf rs) w:=by
 have Y:∀W:World,Below w.heap.size w W->Calls prog 189 #[.agg #[.slice t n y]] W (CkP W rs):=fun W o=>callsIn_wide.1 (y2s t n y rs W ((h.below (o.mono U)).upto (Nat.le_trans U o.size)) (by have:=o.size;omega) (hid Z) (hid fun W' aa=>hR W' (o.trans (aa.mono o.size))) 0)
 unfold xOf;cases hk:ckR rs with
 |none=>
  refine⟨⟨V,hk,hl⟩,fun W o=>(Y W o).mono fun e w' A=> ?_⟩;obtain⟨D,⟨c,p,g,r,_⟩|⟨M,_,E,G,I⟩⟩:=A
  ·rw[hk]at r;cases r
  ·exact⟨_,_,E,rfl,fun _=>⟨M,rfl,G,I⟩,fun h=>absurd rfl h,D⟩
 |some q=>
  refine⟨⟨V,hk⟩,fun W o=>(Y W o).mono fun e w' A=> ?_⟩;obtain⟨D,⟨c,p,g,r,E,G,I⟩|⟨M,r,_⟩⟩:=A
  ·rw[hk]at r
   cases r;exact⟨_,_,E,⟨g,rfl,G,I⟩,(fun h=>by cases h),fun _=>rfl,D⟩
  ·rw[hk]at r;cases r
theorem y2T{S:ByteArray}{rs:List Rl}(t:S.size<=8192)(o:Vb S=.inr rs)(y:sz (pR qT cT rs)<=8192)(V:dR rs<=24)(B g n h:Nat)(W:World)(A:RoR B (.slice (some ⟨g,0,none⟩) n h) rs W)(r:TabIs W):
  Qf W W.heap.size (some ⟨g,0,none⟩) n (toG rs)/\RgZ (toG rs)/\CkX (toG rs) (xOf (toG rs))/\CkC (some ⟨g,0,none⟩) n h (toG rs) (xOf (toG rs)) W:=by
 have hx:∀x∈rs,Ruk Nmq x:=fun x hx=>(Tg o x hx).1
 have hl:=Wp o;have D:=z4n A (Wc (z4m t o)) hl.1;have E:=(Hm (Gm rs) hx).2;have Y:=r.lt;refine⟨D,E,z0f _ n h (toG rs) W.heap.size W E D L0q Y (Wl (Gm rs) hx hl.2 hl.1) (fun x Z=>Nat.le_trans (Hl (Gm rs) hx x Z) y) fun W' G=>Iz _ n h (.string (cat (pR qT cT rs))) _ W' (hid fun I aa=> ?_)⟩;have U:Below W.heap.size W I:=G.trans (aa.mono G.size);have:=y2K t o B g n h I (A.below U) (r.below U r.lt);rw[Aq y V]at this;exact this
theorem z4y(zs:List Int):∀(i:Nat) (h:i<zs.length),zs[i]∈Lib.compact zs
 |0,h=>by
  unfold Lib.compact Lib.compactUpTo;refine List.mem_map.2 ⟨0,List.mem_filter.2 ⟨List.mem_range.2 h,Lib.keeps_lt_one _ 0 (by omega)⟩,?_⟩;rw[getElem!_pos _ 0 (by simpa using h)];simp
 |i+1,h=>by
  by_cases hk:Lib.keeps zs.toArray (i+1)=true
  ·unfold Lib.compact Lib.compactUpTo
   refine List.mem_map.2 ⟨i+1,List.mem_filter.2 ⟨List.mem_range.2 h,hk⟩,?_⟩;rw[getElem!_pos _ (i+1) (by simpa using h)];simp
  ·have e:zs.toArray[i+1]! =zs.toArray[i]! :=Classical.byContradiction fun o=>hk (Lib.keeps_pos (by simpa using o))
   rw[getElem!_pos _ (i+1) (by simpa using h),getElem!_pos _ i (by simp;omega)]at e;have r:zs[i+1]=zs[i]:=by simpa using e
   rw[r];exact z4y zs i (by omega)
theorem z4z{zs:List Int}(h:x∈zs):x∈Lib.compact zs:=by
 obtain⟨i,o,rfl⟩:=List.getElem_of_mem h;exact z4y zs i o
theorem y2U{l:List ByteArray}{y:Rr}:x∈usR l y↔x∈ixL l (rfT y.2.1):=⟨fun h=>(Aw _).mem_iff.1 (z0e h),fun h=>z4z ((Aw _).mem_iff.2 h)⟩
def fdI(s:ByteArray)(l:List ByteArray):Int:=if inN s l then(ixN s l:Int)else-1
theorem z4A{s:ByteArray}:∀{l:List ByteArray} {j:Nat} (o:j<l.length),(∀i (t:i<l.length),i<j->l[i]≠s)->l[j]=s->inN s l=true/\ixN s l=j
 |[],j,o,_,_=>by simp at o
 |a::r,0,_,_,h=>by
  have h:a=s:=h;rw[inN,ixN,if_pos h,if_pos h];exact⟨rfl,rfl⟩
 |a::r,j+1,o,hb,h=>by
  have y:a≠s:=hb 0 (by simp) (by omega);obtain⟨A,D⟩:=z4A (l:=r) (j:=j) (by simpa using o) (fun i t E=>hb (i+1) (by simpa using t) (by omega)) h;rw[inN,ixN,if_neg y,if_neg y,D];exact⟨A,rfl⟩
theorem z4B{s:ByteArray}:∀{l:List ByteArray},(∀i (o:i<l.length),l[i]≠s)->inN s l=false
 |[],_=>rfl
 |a::r,h=>by
  have t:a≠s:=h 0 (by simp);rw[inN,if_neg t];exact z4B fun i o=>h (i+1) (by simpa using o)
theorem y2V(a b:ByteArray):(a.toList == b.toList)=decide (a=b):=by
 by_cases h:a=b
 ·subst h;simp
 ·have:a.toList≠b.toList:=fun e=>h (by
   rw[Go.ByteArray.toList_eq,Go.ByteArray.toList_eq]at e;exact ByteArray.ext (Array.toList_inj.1 e))
  simp[h,this]
theorem y2W(N0 r s:ByteArray)(t a1 y c1 A p1 D:Int)(E:Option Addr)(G I h:Nat)(W:World)(o:Boxed W h 9 (.string s)):
  Calls prog 123 #[.agg #[.string N0,.int .i64 t,.string r,.int .u64 a1,.int .u64 y,.int .u64 c1,.int .u64 A,.slice E G I,.int .i64 p1,.int .i64 D],.pointer (some ⟨h,0,none⟩)] W fun e w'=>e=.returned (.bool (decide (N0=s)))/\Below W.heap.size W w':=by
 have U:=o.cell;have lb:=o.lt;go_enter func123,ntmps123
 go_wp2_with fail
 go_ret;refine⟨?_,(Below.refl _ W).alloc L0q _⟩;show Ending.returned (.bool (N0.toList == s.toList))=_;rw[y2V]
theorem y2X(s:ByteArray)(V:Option Addr)(n af:Nat)(rs:List Rr)(B y:Nat)(W:World)(h:Qf W B V n rs)(Y:B<=W.heap.size)(Z:Boxed W y 9 (.string s))(ag:y<W.heap.size):
  Calls prog 122 #[.slice V n af,.func (.func 123) #[] #[.pointer (some ⟨y,0,none⟩)]] W fun e w'=>e=.returned (.int .i64 (fdI s (nmL rs)))/\Below W.heap.size W w':=by
 have HR:=hid h;have aa:Hid (n=rs.length):=h.1;have ao:n<=9223372036854775807:=by have:=h.2.1;unfold maxLen at this;omega
 have ah:=hid Z;have ai:Hid (B<=W.heap.size):=Y;clear h Z Y;go_enter func122,ntmps122
 go_wp2_with fail
 go_loopw [8] (fun i wr=>∃j:Nat,i=.int .i64 j/\j<=n/\Hid (∀i (A:i<rs.length),i<j->rs[i].1≠s)/\Hid (Below W.heap.size W wr)) (fun i _=>n-(intOf i).toNat)
 case atStart=>exact⟨0,rfl,Nat.zero_le _,fun i A h0=>by omega,Below.refl _ _⟩
 case round=>
  obtain⟨j,rfl,hj,D,r⟩:=hrel;have ap:(nmL rs).length=rs.length:=List.length_map _;by_cases hjn:j<n
  ·have aq:(j:Int)<(n:Int):=by omega
   have a0:decide ((j:Int)<(n:Int))=true:=by simp;omega
   have aj:j<rs.length:=by rw[<-aa.out];exact hjn
   obtain⟨g,o,rfl,hg,k1,T1,a1,b1,c1,d1,ak,n1,al,p1,am,r0⟩:=HR.out.2.2 j aj;have ab:∀q,wr.cell? ⟨g,q,none⟩=W.cell? ⟨g,q,none⟩:=fun q=>r.out.cell (p:=⟨g,q,none⟩) (Nat.lt_of_lt_of_le hg ai.out)
   simp only[<-ab]at r0;obtain⟨z0,z1,z2,z3,z4,z5,z6,z7,z8,z9⟩:=r0;obtain⟨N0,E⟩:∃N0,N0=rs[j].1:=⟨_,rfl⟩;obtain⟨G,ac⟩:∃G,G=rs[j].2.2:=⟨_,rfl⟩;rw[<-E]at z0;rw[<-ac]at z9;have ad:Hid (N0=rs[j].1):=E;have t:=hid (y2W N0 T1 s k1 a1 b1 c1 d1 p1 G ak n1 al y wr ((r.out.block y ag).trans ah.out));clear ab am E ac;by_cases e:N0=s
   ·rw[decide_eq_true e]at t
    have I:Hid (N0=s):=e;clear e
    go_wp2_with(first
     |(go_at_call 123;refine t.out.mono ?_;clear t;rintro e w5 ⟨rfl,U⟩))
    go_ret;refine⟨?_,r.out.trans (U.mono r.out.size)⟩;obtain⟨i1,i2⟩:=z4A (s:=s) (l:=nmL rs) (j:=j) (by omega) (fun i A ae=>by have:=D.out i (by omega) ae;simpa [nmL]using this) (by have:=I.out;rw[ad.out]at this;simpa [nmL]using this);unfold fdI;rw[i1,i2];rfl
   ·rw[decide_eq_false e]at t
    have I:Hid (N0≠s):=e;clear e
    go_wp2_with(first
     |(go_at_call 123;refine t.out.mono ?_;clear t;rintro e w5 ⟨rfl,U⟩))
    refine⟨⟨j+1,by go_num,by omega,hid (fun i A ae=> ?_),hid (r.out.trans (U.mono r.out.size))⟩,by simp[intOf];omega⟩;by_cases e:i=j
    ·subst e
     have:=I.out;rw[ad.out]at this;exact this
    ·exact D.out i A (by omega)
  ·have a0:decide ((j:Int)<(n:Int))=false:=by simp;omega
   go_wp2_with fail
   go_ret;refine⟨?_,r.out⟩;unfold fdI;rw[z4B (s:=s) (l:=nmL rs) fun i A=>by have:=D.out i (by omega) (by have:=aa.out;omega);simpa [nmL]using this];rfl
theorem z0g(s:ByteArray)(t:Option Addr)(n A:Nat)(rs:List Rr)(B:Nat)(W:World)(h:Qf W B t n rs)(y:B<=W.heap.size):
  Calls prog 85 #[.agg #[.slice t n A],.string s] W fun e w'=>e=.returned (.int .i64 (fdI s (nmL rs)))/\Below W.heap.size W w':=by
 have D:=hid (fun(E:Nat) (W':World) (G:Below W.heap.size W W') (hx:Boxed W' E 9 (.string s))=>y2X s t n A rs B E W' (h.below (G.mono y)) (Nat.le_trans y G.size) hx hx.lt);have r:Hid (∀o I:Obj,Below W.heap.size W ((W.alloc o).alloc I)):=fun o I=>((Below.refl _ W).alloc L0q _).alloc (by simp) _
 have U:Hid (∀o:Obj,Boxed ((W.alloc o).alloc (.cells #[.string s] 9)) (W.heap.size+1) 9 (.string s)):=fun o=>by
  have:=Boxed.new (W.alloc o) 9 (.string s);simpa only[World.size_alloc]using this
 clear h y;go_enter func85,ntmps85
 go_wp2_with fail
 refine(D.out _ _ (r.out _ _) (U.out _)).mono ?_;rintro e Z ⟨rfl,V⟩;have Y:=hid ((r.out _ _).trans (V.mono (r.out _ _).size));clear V D U r
 go_wp2_with fail
 go_ret;exact⟨rfl,Y.out⟩
theorem z4C:∀{rs:List Rr} {l:List ByteArray},Vv l rs=none->∀j (o:j<rs.length),inN rs[j].1 (l++nmL (rs.take j))=false
 |[],_,_,j,o=>by simp at o
 |x::r,l,h,0,_=>by
  rw[Vv]at h;cases hi:inN x.1 l with
  |true=>rw[hi]at h;cases h
  |false=>simpa [nmL]using hi
 |x::r,l,h,j+1,o=>by
  rw[Vv]at h;cases hi:inN x.1 l with
  |true=>rw[hi]at h;cases h
  |false=>
   rw[hi]at h;have:=z4C (l:=l++[x.1]) (by simpa using h) j (by simpa using o);simpa [nmL,List.append_assoc]using this
theorem y2Y{rs:List Rr}(h:ckR rs=none)(j:Nat)(o:j<rs.length):inN rs[j].1 (nmL (rs.take j))=false:=by
 have hd:Kx rs=none:=by
  unfold ckR at h;cases hd:Kx rs with
  |none=>rfl
  |some p=>rw[hd]at h;cases h
 have:=z4C hd j o;rwa[List.nil_append]at this
theorem z4D(s:ByteArray):∀a b,inN s (a++b)=(inN s a||inN s b)
 |[],b=>by rw[List.nil_append,inN];rfl
 |x::r,b=>by rw[List.cons_append,inN,inN,z4D s r b];by_cases h:x=s<;>simp[h]
theorem z4E(s:ByteArray):∀a b,ixN s (a++b)=if inN s a then ixN s a else a.length+ixN s b
 |[],b=>by rw[List.nil_append,inN];simp
 |x::r,b=>by
  rw[List.cons_append,ixN,ixN,inN,z4E s r b];by_cases h:x=s
  ·simp[h]
  ·simp only[h,if_false]
   by_cases h2:inN s r=true
   ·simp[h2]
   ·simp[h2];omega
theorem z4F{rs:List Rr}(h:ckR rs=none)(j:Nat)(o:j<rs.length):fdI rs[j].1 (nmL rs)=(j:Int):=by
 have r:=y2Y h j o;have e:nmL rs=nmL (rs.take j)++(rs[j].1::nmL (rs.drop (j+1))):=by
  have t:rs=rs.take j++(rs[j]::rs.drop (j+1)):=by rw[<-List.drop_eq_getElem_cons o,List.take_append_drop]
  have y:=congrArg nmL t;rw[y];unfold nmL;rw[List.map_append];rfl
 have hl:(nmL (rs.take j)).length=j:=by unfold nmL;rw[List.length_map,List.length_take];omega
 unfold fdI;rw[e,z4D,z4E,r,inN,ixN,if_pos rfl,if_pos rfl,hl];simp
end Go.Proofs.YtgnkkgcgbeianaaGreatDoor
