/- Lemmas for the last text. Conditions: those that each names. -/
import Derived.Test.YthmgblmoobkliaaGreatDoorVO6ToS3
import Derived.Test.YthmgblmoobkliaaGreatDoorVW4ToS9
import Derived.Test.YthmgblmoobkliaaGreatDoorVEAsToEAs2
set_option linter.unusedVariables false
set_option maxRecDepth 100000
set_option maxHeartbeats 8000000
namespace Go.Proofs.YthmgblmoobkliaaGreatDoor
open Go.Proofs.Tryz
open Go.RowKit Go.Shelf
variable {v:Value} {W:World}
theorem Tc{M:ByteArray}(h:nmS M=true):1<=M.size:=by
 rcases Nat.lt_or_ge 0 M.size with h1|h1
 ·exact h1
 ·have e:M={data:=#[]}:=by
   apply ByteArray.ext;apply Array.ext';exact List.eq_nil_of_length_eq_zero (by have:M.data.size=M.size:=rfl;rw[Array.length_toList];omega)
  subst e
  revert h
  decide+kernel
theorem Nz(over:Nat)(n:Nd):sz (pN qT cT n)<=sz (pP qT cT over n):=by
 unfold pP;split
 ·rw[sz,Xv];omega
 ·exact Nat.le_refl _
mutual
theorem Tl:∀(t:RT) (n:Nd),Tq t n->Vk n->Wf Nmq n->(rfT t).length<=sz (pN qT cT n)
 | .mk k T a b c d s p,.mk kd T' C s' p',hq,hv,hw=>by
   rw[Tq]at hq;obtain⟨hk,hT,_,_,_,_,hs⟩:=hq;rw[Wf]at hw;rw[Vk]at hv;rw[rfT];by_cases h5:kd=5
   ·rw[if_pos (by omega)]
    have h1:1<=T'.size:=Tc (hw.2.1 h5);rw[h5,pN];simp[sz];exact h1
   ·rw[if_neg (by omega)]
    have hB:∀over sep,(rfL s).length<=sz (pS qT cT over sep s'):=fun over sep=>by
     cases s with
     |nil=>rw[rfL];exact Nat.zero_le _
     |cons t r=>
      cases s' with
      |nil=>simp[TqL]at hs
      |cons n q=>
       rw[TqL]at hs;have hvl:=hv.2;rw[VkL]at hvl;have hwl:=hw.2.2.2;rw[WfL]at hwl;have i1:=Tl t n hs.1 hvl.1 hwl.1;have i2:=z3Q r q over sep hs.2 hvl.2 hwl.2;have i3:=Nz over n;rw[rfL,List.length_append,Dw,Xv];omega
    have h0:kd<=4->(rfL s).length=0:=fun h=>by
     have e:s'=[]:=by
      rcases hv.1 with h1|h1|h1|h1|h1|h1|h1
      ·exact h1.2.2.2
      ·exact h1.2.2
      ·exact h1.2.2
      ·exact h1.2.2.2
      ·omega
      ·omega
      ·omega
     have:=hB 0 bE;rw[e,pS,sz]at this;omega
    rw[pN]
    repeat' split
    all_goals first
     |(rw[h0 (by omega)];exact Nat.zero_le _)
     |exact hB _ _
     |(rw[sz];exact Nat.le_trans (hB _ _) (Nat.le_add_left _ _))
     |(rw[Xv];exact Nat.le_trans (hB _ _) (Nat.le_add_right _ _))
     |omega
theorem z3Q:∀(s:List RT) (q:List Nd) (over:Nat) (sep:ByteArray),TqL s q->VkL q->WfL Nmq q->(rfL s).length<=sz (pB qT cT over sep q)
 |[],_,_,_,_,_,_=>by rw[rfL];exact Nat.zero_le _
 |t::r,[],_,_,h,_,_=>by simp[TqL]at h
 |t::r,n::q,over,sep,h,hv,hw=>by
  rw[TqL]at h;rw[VkL]at hv;rw[WfL]at hw;have i1:=Tl t n h.1 hv.1 hw.1;have i2:=z3Q r q over sep h.2 hv.2 hw.2;have i3:=Nz over n;rw[rfL,List.length_append,Dy,sz,Xv];omega
end
theorem Hy:∀{rs:List Rr} {ns:List Rl},TqR rs ns->(∀x∈ns,Ruk Nmq x)->∀x∈rs,(rfT x.2.1).length<=sz (pR qT cT ns)
 |[],_,_,_,x,hx=>by simp at hx
 |a::r,[],h,_,_,_=>by simp[TqR]at h
 |a::r,b::q,h,hk,x,hx=>by
  rw[TqR]at h;rw[pR,sz,sz,Xv,sz];rcases List.mem_cons.1 hx with rfl|hx
  ·have hb:=hk b (by simp)
   have:=Tl _ _ h.2.1 hb.2.1 hb.2.2;omega
  ·have:=Hy h.2.2 (fun y hy=>hk y (List.mem_cons_of_mem _ hy)) x hx
   omega
theorem Aj(so:Option Addr)(n cap:Nat)(A E:Value)(w:World)
  (HP:Hid (∀W:World,Below w.heap.size w W->Calls prog 108 #[.agg #[.slice so n cap]] W fun e w'=>e=.returned (.tuple #[A,E])/\Below W.heap.size W w')):
  Calls prog 69 #[.agg #[.slice so n cap]] w fun e w'=>e=.returned E/\Below w.heap.size w w':=by
 have HB1:Hid (Below w.heap.size w (w.alloc (.cells #[.slice so n cap] 24))):=(Below.refl _ w).alloc L0q _;go_enter func69,ntmps69
 go_wp2_with(first|(go_at_call 108;refine(HP.out _ HB1.out).mono ?_;rintro e wq ⟨rfl,hbq⟩;have HBq:Hid (Below w.heap.size w wq):=HB1.out.trans (hbq.mono HB1.out.size)))
 go_ret;exact⟨rfl,HBq.out⟩
def RtA(rs:List Rr)(E:Value):Prop:=(∃c:Int,(c=2∨c=20)/\E=.iface 37 (.int .i64 c))∨(E=.nilIface/\okG rs=true/\∀x∈rs,(rfT x.2.1).length<=8192)
open Go.Maps
attribute [local go_sem] Oper.semAt_some
theorem z3R(so:Option Addr)(n cap:Nat)(c:Int)(w:World)
  (HP:Hid (∀W:World,Below w.heap.size w W->Calls prog 69 #[.agg #[.slice so n cap]] W fun e w'=>e=.returned (.iface 37 (.int .i64 c))/\Below W.heap.size W w'))(m:Nat):
  CallsIn Fence.wide (m+5) prog 42 #[.agg #[.slice so n cap]] w fun e w'=>e=.returned (.tuple #[.map none,.iface 37 (.int .i64 c)])/\Below w.heap.size w w':=by
 obtain⟨W0,hW0⟩:∃W0,W0=((w.alloc (.cells #[.slice so n cap] 24)).alloc (.cells #[.map none] 82)).alloc (.cells #[.nilIface] 28):=⟨_,rfl⟩;have hB0:Below w.heap.size w W0:=by rw[hW0];exact(((Below.refl _ w).alloc L0q _).alloc (by simp) _).alloc (by simp;omega) _
 have c2:W0.heap[w.heap.size+1]? =some (.cells #[.map none] 82):=by
  rw[hW0];exact(Below.heap_alloc _ _ _ (by simp)).trans (Qx _ _ (by simp))
 have c3:W0.heap[w.heap.size+1+1]? =some (.cells #[.nilIface] 28):=by
  rw[hW0];exact Qx _ _ (by simp)
 have hs0:W0.heap.size=w.heap.size+1+1+1:=by rw[hW0];simp
 have HP0:=hid (HP.out W0 hB0);refine callsIn_of_wp_marks func42 rfl trivial ?_ rfl;simp only[ntmps42,List.size_toArray,List.length_cons,List.length_nil,Nat.reduceAdd,Nat.reduceSub,Array.replicate_succ,Array.replicate_zero,List.push_toArray,List.append_toArray,List.nil_append,List.cons_append]
 gi_wp2
 rw[<-hW0];clear hW0;refine⟨trivial,?_⟩;refine(callsIn_wide.2 HP0.out).mono ?_;rintro e W1 ⟨rfl,hb1⟩;have d2:=(hb1.block _ (by omega)).trans c2;have d3:=(hb1.block _ (by omega)).trans c3;have hs1:=hb1.size;have HBw:Hid (Below w.heap.size w W1):=hB0.trans (hb1.mono hB0.size);obtain⟨x2,e2⟩:=Qk d2;obtain⟨x3,e3⟩:=Qk d3;have l2:=Qq d2;have l3:=Qq d3;clear HP0 HP c2 c3
 gi_wp2
 have b2:Boxed W1 (w.heap.size+1) 82 (.map none):=d2;have b3:Boxed W1 (w.heap.size+1+1) 28 .nilIface:=d3;have y1:=((b2.set (.map none)).other (B':=w.heap.size+1+1) (by omega) (.iface 37 (.int .i64 c))).cell;have y2:=((b3.other (B':=w.heap.size+1) (by omega) (.map none)).set (.iface 37 (.int .i64 c))).cell;refine⟨.tuple #[.map none,.iface 37 (.int .i64 c)],by simp[results,Tryz.f42,go_sem,y1,y2],rfl,?_⟩;exact(HBw.out.setCell (p:=⟨w.heap.size+1,0,none⟩) (by show w.heap.size<=_+1;omega) _).setCell (p:=⟨w.heap.size+1+1,0,none⟩) (by show w.heap.size<=_+1+1;omega) _
def Qm(X:Option (Int ⊕ (Int×Int)))(S:Nat)(w':World)(v:Value):Prop:=match X with
 |none=>v=.nilIface
 |some (.inl c)=>v=.iface 37 (.int .i64 c)
 |some (.inr q)=>∃g,v=.iface 74 (.pointer (some ⟨g,0,none⟩))/\S<=g/\w'.heap[g]? =some (.cells #[.int .i64 q.1,.int .i64 q.2] 77)
def CkX(rs:List Rr)(X:Option (Int ⊕ (Int×Int))):Prop:=match X with
 |none=>okG rs=true/\ckR rs=none/\∀x∈rs,(rfT x.2.1).length<=8192
 |some (.inl c)=>c=2∨c=20
 |some (.inr q)=>okG rs=true/\ckR rs=some q
theorem Qm.shape{X:Option (Int ⊕ (Int×Int))}{S:Nat}{w':World}(h:Qm X S w' v)(hX:X≠none):∃t u,v=.iface t u:=by
 match X,hX with
 |some (.inl c),_=>exact⟨_,_,h⟩
 |some (.inr q),_=>
  obtain⟨g,h1,_⟩:=h;exact⟨_,_,h1⟩
mutual
theorem Qj.upto{w:World}{B B':Nat}(hB:B<=B'):∀(t:RT) (cs:List Value),Qj w B t cs->Qj w B' t cs
 | .mk k T a b c d s p,cs,ht=>by
   rw[Qj]at ht ⊢;obtain⟨so,cap,rfl,ht⟩:=ht;refine⟨so,cap,rfl,?_⟩;rcases ht with h1|⟨h1,g,o,h2,h3,h4,h5⟩
   ·exact .inl h1
   ·exact .inr ⟨h1,g,o,h2,by omega,h4,Qc.upto hB s g o h5⟩
theorem Qc.upto{w:World}{B B':Nat}(hB:B<=B'):∀(s:List RT) (g o:Nat),Qc w B g o s->Qc w B' g o s
 |[],g,o,_=>by rw[Qc];trivial
 |t::r,g,o,ht=>by
  rw[Qc]at ht ⊢;obtain⟨⟨cs,h1,h2⟩,h3⟩:=ht;exact⟨⟨cs,Qj.upto hB t cs h1,h2⟩,Qc.upto hB r g _ h3⟩
end
theorem Qv.upto{w:World}{B B' n:Nat}{so:Option Addr}{rs:List Rr}(h:Qv w B so n rs)(hB:B<=B'):Qv w B' so n rs:=
 ⟨h.1,h.2.1,fun j hj=>by
   obtain⟨g,o,h1,h2,k,T,a,b,c,d,s',n',cap,p,h3,h4⟩:=h.2.2 j hj;exact⟨g,o,h1,by omega,k,T,a,b,c,d,s',n',cap,p,Qj.upto hB _ _ h3,h4⟩⟩
theorem Qm.lo{X:Option (Int ⊕ (Int×Int))}{S S':Nat}{w':World}(h:Qm X S w' v)(hS:S'<=S):Qm X S' w' v:=by
 match X with
 |none=>exact h
 |some (.inl c)=>exact h
 |some (.inr q)=>
  obtain⟨g,h1,h2,h3⟩:=h;exact⟨g,h1,by omega,h3⟩
theorem z3S(so:Option Addr)(n cap:Nat)(rs:List Rr)(X:Option (Int ⊕ (Int×Int)))(W:World)
  (HC:Hid (∀W':World,Below W.heap.size W W'->Calls prog 42 #[.agg #[.slice so n cap]] W' fun e w'=>∃m v,e=.returned (.tuple #[m,v])/\Qm X W'.heap.size w' v/\(X=none->∃M,m=.map (some M)/\W'.heap.size<=M/\Pm w' M (nmL rs))/\(X≠none->m=.map none)/\Below W'.heap.size W' w')):
  Calls prog 84 #[.agg #[.slice so n cap]] W fun e w'=>∃v,e=.returned v/\Qm X W.heap.size w' v/\Below W.heap.size W w':=by
 have HB1:Hid (Below W.heap.size W (W.alloc (.cells #[.slice so n cap] 24))):=(Below.refl _ W).alloc L0q _;have HB0:Hid (Below W.heap.size W W):=Below.refl _ W;go_enter func84,ntmps84
 go_wp2_with fail
 first
  |(refine(HC.out _ HB1.out).mono ?_;rintro e w1 ⟨m,v,rfl,h1,-,-,h2⟩;have h3:=HB1.out.trans (h2.mono HB1.out.size);have h4:=h1.lo (S':=W.heap.size) HB1.out.size)
  |(refine(HC.out _ HB0.out).mono ?_;rintro e w1 ⟨m,v,rfl,h1,-,-,h2⟩;have h3:=h2;have h4:=h1)
 clear HC HB1 HB0 h1 h2;have H3:=hid h3;have H4:=hid h4;clear h3 h4
 go_wp2_with fail
 go_ret;exact⟨_,rfl,H4.out,H3.out⟩
theorem Wz{s:Nat}{u:List Int}(h:W.ownsRow s 3 1 v u.length (u.map (Value.int .i64)))(hl:u.length<=1048576):z3q W W.heap.size v u:=by
 rcases h.2 with⟨rfl,h0⟩|⟨g,cap,cur,rfl,h1,h2,h3,h4,h5,h6⟩
 ·cases u with
  |nil=>exact⟨none,0,rfl,hl,fun j hj=>by simp at hj⟩
  |cons _ _=>simp at h0
 ·refine⟨_,cap,rfl,hl,fun j hj=>⟨g,0,rfl,(Array.getElem?_eq_some_iff.1 h2).1,?_⟩⟩
  refine(Zx h2 (0+j) _ ?_).1;have e:(cur.toList.take (u.length*1))[j]? =(u.map (Value.int .i64))[j]? :=by rw[h6]
  rw[List.getElem?_take_of_lt (by omega)]at e;rw[Nat.zero_add,<-Array.getElem?_toList,e];simp[hj]
theorem Wq{w:World}{ub n:Nat}{vs:List Value}{us:List (List Int)}(h:Uw w ub n vs us W)(hn:vs.length=n)(hl:∀u∈us,u.length<=1048576)(hn2:n<=1048576):UsM W W.heap.size (.slice (some ⟨ub,0,none⟩) n n) us:=by
 have hu:us.length=n:=by rw[<-h.len];exact hn
 refine⟨_,n,by rw[hu],by omega,fun i hi=>⟨ub,0,vs[i]'(by rw[h.len];exact hi),rfl,Qq h.blk,?_,Wz (h.row i (by rw[h.len];exact hi) hi) (hl _ (List.getElem_mem hi))⟩⟩;refine(Zx h.blk (0+i) _ ?_).1;have hv:i<vs.length:=by rw[h.len];exact hi
 rw[Nat.zero_add,List.getElem?_toArray,List.getElem?_append_left hv,List.getElem?_eq_getElem hv]
theorem Wx{zs:List Int}{x:Int}(h:x∈Lib.compact zs):x∈zs:=by
 unfold Lib.compact Lib.compactUpTo at h;obtain⟨i,hi,rfl⟩:=List.mem_map.1 h;have hi2:i<zs.length:=List.mem_range.1 (List.mem_filter.1 hi).1;rw[getElem!_pos _ i (by simpa using hi2)];simp
theorem Hf{l:List ByteArray}{y:Rr}{x:Int}(hl:1<=l.length)(h:x∈usR l y):∃m:Nat,m<l.length/\x=(m:Int):=by
 have h1:x∈ixL l (rfT y.2.1):=(Ff _).mem_iff.1 (Wx h);obtain⟨q,_,rfl⟩:=List.mem_map.1 h1;refine⟨ixV l q.1,?_,rfl⟩;unfold ixV;cases hin:inN q.1 l with
 |true=>exact Sh _ _ hin
 |false=>exact hl
theorem z3T{l:List ByteArray}{y:Rr}:(usR l y).length<=(rfT y.2.1).length:=by
 unfold usR;refine Nat.le_trans (Sp _) ?_;rw[Jc,z3m];exact Nat.le_refl _
theorem Xd{rs:List Rr}(h:okG rs=true):1<=rs.length/\rs.length<=64:=by
 unfold okG at h;simp only[Bool.and_eq_true,decide_eq_true_eq]at h;exact⟨h.1,h.2.1⟩
@[reducible] def CkC (so:Option Addr) (n cap:Nat) (rs:List Rr) (X:Option (Int ⊕ (Int×Int))) (W:World):Prop:=∀W':World,Below W.heap.size W W'->Calls prog 42 #[.agg #[.slice so n cap]] W' fun e w'=>∃m v,e=.returned (.tuple #[m,v])/\Qm X W'.heap.size w' v/\(X=none->∃M,m=.map (some M)/\W'.heap.size<=M/\Pm w' M (nmL rs))/\(X≠none->m=.map none)/\Below W'.heap.size W' w'
theorem y0R(so:Option Addr)(n cap:Nat)(rs:List Rr)(X:Option (Int ⊕ (Int×Int)))(W:World)(hX:X≠none)(HC:Hid (CkC so n cap rs X W)):
  Calls prog 23 #[.agg #[.slice so n cap]] W fun e w'=>∃v,e=.returned (.tuple #[.slice none 0 0,v])/\Qm X W.heap.size w' v/\Below W.heap.size W w':=by
 have HB1:Hid (Below W.heap.size W (W.alloc (.cells #[.slice so n cap] 24))):=(Below.refl _ W).alloc L0q _;have HX:=hid hX;clear hX;go_enter func23,ntmps23
 go_wp2_with fail
 refine(HC.out _ HB1.out).mono ?_;rintro e w1 ⟨m,v,rfl,h1,-,h5,h2⟩;have H3:=hid (HB1.out.trans (h2.mono HB1.out.size));have H4:=hid (h1.lo (S':=W.heap.size) HB1.out.size);obtain⟨t,u,rfl⟩:=h1.shape HX.out;obtain rfl:=h5 HX.out;clear HC HB1 h1 h2 h5
 go_wp2_with fail
 refine bodyPost_ret (v:=.tuple #[.slice none 0 0,.iface t u]) (by simp[results,Tryz.results23,go_sem]) rfl ?_;exact⟨_,rfl,H4.out,H3.out⟩
theorem z3U(so:Option Addr)(n cap:Nat)(rs:List Rr)(X:Option (Int ⊕ (Int×Int)))(B:Nat)(W:World)(hX:CkX rs X)(HC:CkC so n cap rs X W)(h:Qv W B so n rs)(hB:B<=W.heap.size)(hz:RgZ rs)(hTg:3<W.heap.size):
  Calls prog 23 #[.agg #[.slice so n cap]] W fun e w'=>∃uv v,e=.returned (.tuple #[uv,v])/\Qm X W.heap.size w' v/\Below W.heap.size W w'/\(X≠none->uv=.slice none 0 0)/\(X=none->∃ub vs,uv=.slice (some ⟨ub,0,none⟩) n n/\vs.length=n/\Uw W ub n vs (rs.map (usR (nmL rs))) w'):=by
 cases X with
 |some q=>
  refine(y0R so n cap rs (some q) W (fun h=>by cases h) (hid HC)).mono fun e w' he=> ?_
  obtain⟨v,h1,h2,h3⟩:=he;exact⟨_,v,h1,h2,h3,fun _=>rfl,fun h=>by cases h⟩
 |none=>
  obtain⟨hk,hc,hl⟩:=hX;have hlen:=Xd hk;have hn:=h.1;refine(y0I so n cap rs W (h.upto hB) hTg (hid hz) (hid fun x hx=>Nat.le_trans (hl x hx) (by omega)) (by omega) (hid fun W' hW'=>(HC W' hW').mono fun e w' he=> ?_)).mono fun e w' he=> ?_
  ·obtain⟨m,v,h1,h2,h3,_,h5⟩:=he
   obtain⟨M,rfl,h6,h7⟩:=h3 rfl;obtain rfl:v=.nilIface:=h2;exact⟨M,h1,h6,h7,h5⟩
  ·obtain⟨ub,vs,h1,h2,h3⟩:=he
   exact⟨_,_,h1,rfl,h3.be,fun h=>absurd rfl h,fun _=>⟨ub,vs,rfl,h2,h3⟩⟩
theorem CkC.from{so:Option Addr}{n cap:Nat}{rs:List Rr}{X:Option (Int ⊕ (Int×Int))}{W':World}(h:CkC so n cap rs X W)(hW:Below W.heap.size W W'):CkC so n cap rs X W':=fun W2 h2=>h W2 (hW.trans (h2.mono hW.size))
open Go.Extern.Stop Go.Stop Go.Extern
theorem y0S(c:Int)(t:Addr)(old:Value)(w:World)(hg:w.cell? ⟨0,0,none⟩=some (.iface 169 (.agg #[.pointer (some ⟨4,28,none⟩)])))(ht0:w.cell? t=some old)(hf0:w.frozen? t=false):
  Calls prog 37 #[.iface 37 (.int .i64 c),.iface 73 (.pointer (some t))] w fun ev w'=>ev=.returned (.bool true)/\w'=((((w.alloc (.cells #[.pointer (some t)] 73)).alloc (.cells #[.pointer (some ⟨4,73,none⟩),.pointer (some ⟨w.heap.size,0,none⟩),.int .u64 150] 114)).alloc (.cells #[.pointer (some ⟨4,73,none⟩),.pointer (some ⟨w.heap.size,0,none⟩),.int .u64 150] 114)).alloc (.cells #[.int .i64 c] 37)).setCell t (.int .i64 c):=by
 have hVO:= @run_callFunc_extern prog 62 _ (fun args=>ReflectliteValue.unpack (args.getD 0 (.tuple #[]))) func62 (by kernel_rfl) (by kernel_rfl) (by kernel_rfl) (by kernel_rfl);have hTy:= @run_callFunc_extern prog 63 _ (ReflectliteValue.methodAny (ReflectliteValue.valueError "reflectlite.Value.Type" 0) (fun t _ _ _=>ReflectliteType.toType t)) func63 (by kernel_rfl) (by kernel_rfl) (by kernel_rfl) (by kernel_rfl);have hNi:= @run_callFunc_extern prog 64 _ (ReflectliteValue.method (ReflectliteValue.valueError "reflectlite.Value.IsNil" 0) ReflectliteValue.isNil) func64 (by kernel_rfl) (by kernel_rfl) (by kernel_rfl) (by kernel_rfl);have hKi:= @run_callFunc_extern prog 259 _ (ReflectliteType.abiMethod fun t=>do pure (.int .u8 (<-Rtype.kind t))) func259 (by kernel_rfl) (by kernel_rfl) (by kernel_rfl) (by kernel_rfl);have hEl:= @run_callFunc_extern prog 271 _ (ReflectliteType.method ReflectliteType.elem) func271 (by kernel_rfl) (by kernel_rfl) (by kernel_rfl) (by kernel_rfl);have hIm:= @run_callFunc_extern prog 272 _ (ReflectliteType.relation "Implements" ReflectliteType.implements_) func272 (by kernel_rfl) (by kernel_rfl) (by kernel_rfl) (by kernel_rfl);have hTO:= @run_callFunc_extern prog 103 _ ReflectliteType.typeOf func103 (by kernel_rfl) (by kernel_rfl) (by kernel_rfl) (by kernel_rfl);have hAs:= @run_callFunc_extern prog 269 _ (ReflectliteType.relation "AssignableTo" ReflectliteType.assignableTo) func269 (by kernel_rfl) (by kernel_rfl) (by kernel_rfl) (by kernel_rfl);have hVE:= @run_callFunc_extern prog 104 _ (ReflectliteValue.method (ReflectliteValue.valueError "reflectlite.Value.Elem" 0) ReflectliteValue.elem) func104 (by kernel_rfl) (by kernel_rfl) (by kernel_rfl) (by kernel_rfl);have hSe:= @run_callFunc_extern prog 105 _ ReflectliteValue.set func105 (by kernel_rfl) (by kernel_rfl) (by kernel_rfl) (by kernel_rfl);have tO:=Tryz.typeOfEE;have mA:=Tryz.methodAssignableTo;have aE:=Tryz.assignableEE;have vE:=Tryz.valueOfEE;have vP:=Tryz.valueOfPE;have tP:=Tryz.typePE;have mK:=Tryz.methodKind;have mE:=Tryz.methodElem;have mI:=Tryz.methodImplements;have kP:=Tryz.kindPE;have kE:=Tryz.kindEE;have eP:=Tryz.elemPE;have iE:=Tryz.implementsEE;have nP:=Tryz.isNilPE ⟨w.heap.size,0,none⟩ t ((w.alloc (.cells #[.pointer (some t)] 73)).alloc (.cells #[.pointer (some ⟨4,73,none⟩),.pointer (some ⟨w.heap.size,0,none⟩),.int .u64 150] 114)) (by simp);have hlt:0<w.heap.size:=by
  rcases Nat.lt_or_ge 0 w.heap.size with h1|h1
  ·exact h1
  ·simp[World.cell?,Array.getElem?_eq_none h1]at hg
 have hg2:((w.alloc (.cells #[.pointer (some t)] 73)).alloc (.cells #[.pointer (some ⟨4,73,none⟩),.pointer (some ⟨w.heap.size,0,none⟩),.int .u64 150] 114)).cell? ⟨0,0,none⟩=some (.iface 169 (.agg #[.pointer (some ⟨4,28,none⟩)])):=by
  rw[World.cell?_alloc_lt _ _ ⟨0,0,none⟩ (by simp<;>omega),World.cell?_alloc_lt _ _ ⟨0,0,none⟩ hlt];exact hg
 have htl:t.block<w.heap.size:=by
  rcases Nat.lt_or_ge t.block w.heap.size with h|h
  ·exact h
  ·simp[World.cell?,Array.getElem?_eq_none h]at ht0
 have el:=Tryz.elemVE ⟨w.heap.size,0,none⟩ t (((w.alloc (.cells #[.pointer (some t)] 73)).alloc (.cells #[.pointer (some ⟨4,73,none⟩),.pointer (some ⟨w.heap.size,0,none⟩),.int .u64 150] 114)).alloc (.cells #[.pointer (some ⟨4,73,none⟩),.pointer (some ⟨w.heap.size,0,none⟩),.int .u64 150] 114)) (by rw[World.cell?_alloc_lt _ _ ⟨w.heap.size,0,none⟩ (by simp<;>omega)];simp);have st:=Tryz.setEE t ⟨w.heap.size+1+1+1,0,none⟩ c old ((((w.alloc (.cells #[.pointer (some t)] 73)).alloc (.cells #[.pointer (some ⟨4,73,none⟩),.pointer (some ⟨w.heap.size,0,none⟩),.int .u64 150] 114)).alloc (.cells #[.pointer (some ⟨4,73,none⟩),.pointer (some ⟨w.heap.size,0,none⟩),.int .u64 150] 114)).alloc (.cells #[.int .i64 c] 37))
  (by rw[World.cell?_alloc_at _ _ _ _ (by simp)];rfl)
  (by rw[World.cell?_alloc_lt _ _ t (by simp<;>omega),World.cell?_alloc_lt _ _ t (by simp<;>omega),World.cell?_alloc_lt _ _ t (by simp<;>omega),World.cell?_alloc_lt _ _ t htl];exact ht0)
  (by rw[World.frozen?_alloc_old _ _ t (by simp<;>omega),World.frozen?_alloc_old _ _ t (by simp<;>omega),World.frozen?_alloc_old _ _ t (by simp<;>omega),World.frozen?_alloc_old _ _ t (Nat.ne_of_lt htl)];exact hf0)
 go_enter func37,ntmps37
 go_wp2
 refine wp_loop_rounds 1 ?_;rw[rounds_succ]
 go_wp2
 go_ret;exact⟨rfl,rfl⟩
theorem y0T(c:Int)(w:World)(h:Zj w):Calls prog 17 #[.iface 37 (.int .i64 c)] w fun e w'=>e=.returned (.int .i64 c)/\Below w.heap.size w w':=by
 have hlt:=h.lt;have hA:=y0S c ⟨w.heap.size,0,none⟩ (.int .i64 0) (w.alloc (.cells #[.int .i64 0] 37)) (by rw[World.cell?_alloc_lt _ _ ⟨0,0,none⟩ hlt];exact h) (by simp) (by simp);clear h;go_enter func17,ntmps17
 go_wp2_with fail
 refine hA.mono ?_;rintro e w1 ⟨rfl,hw⟩;have hc:w1.cell? ⟨w.heap.size,0,none⟩=some (.int .i64 c):=by
  rw[hw];exact World.cell?_setCell_same' _ _ _ (by rw[World.cell?_alloc_lt _ _ ⟨w.heap.size,0,none⟩ (by simp<;>omega),World.cell?_alloc_lt _ _ ⟨w.heap.size,0,none⟩ (by simp<;>omega),World.cell?_alloc_lt _ _ ⟨w.heap.size,0,none⟩ (by simp<;>omega),World.cell?_alloc_lt _ _ ⟨w.heap.size,0,none⟩ (by simp)];simp)
 have HB:Hid (Below w.heap.size w w1):=by
  show Below w.heap.size w w1;rw[hw];exact(((((B0q.alloc L0q _).alloc (by simp) _).alloc (by simp<;>omega) _).alloc (by simp<;>omega) _).alloc (by simp<;>omega) _).setCell L0q _
 clear hw hA
 go_wp2
 go_ret;exact⟨rfl,HB.out⟩
end Go.Proofs.YthmgblmoobkliaaGreatDoor
