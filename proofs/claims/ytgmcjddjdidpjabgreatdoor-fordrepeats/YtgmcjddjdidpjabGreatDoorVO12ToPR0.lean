/- Lemmas for the last text. Conditions: those that each names. -/
import Derived.Test.YtgmcjddjdidpjabGreatDoorVO6ToS4
import Derived.Test.YtgmcjddjdidpjabGreatDoorVS9
import Derived.Test.YtgmcjddjdidpjabGreatDoorVX9ToX11
import Derived.Deep.RegionHeld3
import Derived.Deep.AppendLies
import Derived.Maps.AppendAt
set_option linter.unusedVariables false
set_option maxRecDepth 100000
set_option maxHeartbeats 8000000
namespace Go.Proofs.YtgmcjddjdidpjabGreatDoor
open Go.Proofs.Tryz
open Go.RowKit Go.Shelf
variable {v:Value} {W w:World} {n:Nat} {x:Int} {rs:List Rr}
theorem Wq{M:ByteArray}(h:nmS M=true):1<=M.size:=by
 rcases Nat.lt_or_ge 0 M.size with h1|h1
 ·exact h1
 ·have e:M={data:=#[]}:=by
   apply ByteArray.ext;apply Array.ext';exact List.eq_nil_of_length_eq_zero (by have:M.data.size=M.size:=rfl;rw[Array.length_toList];omega)
  subst e
  revert h
  decide+kernel
theorem Hc(over:Nat)(n:Nd):sz (pN qT cT n)<=sz (pP qT cT over n):=by
 unfold pP;split
 ·rw[sz,Vf];omega
 ·exact Nat.le_refl _
mutual
theorem Wx:∀(t:RT) (n:Nd),Tq t n->Vk n->Wf Nmq n->(rfT t).length<=sz (pN qT cT n)
 | .mk k T a b c d s p,.mk kd T' C s' p',hq,hv,hw=>by
   rw[Tq]at hq;obtain⟨hk,hT,_,_,_,_,hs⟩:=hq;rw[Wf]at hw;rw[Vk]at hv;rw[rfT];by_cases h5:kd=5
   ·rw[if_pos (by omega)]
    have h1:1<=T'.size:=Wq (hw.2.1 h5);rw[h5,pN];simp[sz];exact h1
   ·rw[if_neg (by omega)]
    have hB:∀over sep,(rfL s).length<=sz (pS qT cT over sep s'):=fun over sep=>by
     cases s with
     |nil=>rw[rfL];exact Nat.zero_le _
     |cons t r=>
      cases s' with
      |nil=>simp[TqL]at hs
      |cons n q=>
       rw[TqL]at hs;have hvl:=hv.2;rw[VkL]at hvl;have hwl:=hw.2.2.2;rw[WfL]at hwl;have i1:=Wx t n hs.1 hvl.1 hwl.1;have i2:=z3S r q over sep hs.2 hvl.2 hwl.2;have i3:=Hc over n;rw[rfL,List.length_append,Dp,Vf];omega
    have h0:kd<=4->(rfL s).length=0:=fun h=>by
     have e:s'=[]:=by
      rcases hv.1 with h1|h1|h1|h1|h1|h1|h1
      ·exact h1.2.2.2
      ·exact h1.2.2
      ·exact h1.2.2
      ·exact h1.2.2.2
      ·omega
      ·omega
      ·omega
     have:=hB 0 bE;rw[e,pS,sz]at this;omega
    rw[pN]
    repeat' split
    all_goals first
     |(rw[h0 (by omega)];exact Nat.zero_le _)
     |exact hB _ _
     |(rw[sz];exact Nat.le_trans (hB _ _) (Nat.le_add_left _ _))
     |(rw[Vf];exact Nat.le_trans (hB _ _) (Nat.le_add_right _ _))
     |omega
theorem z3S:∀(s:List RT) (q:List Nd) (over:Nat) (sep:ByteArray),TqL s q->VkL q->WfL Nmq q->(rfL s).length<=sz (pB qT cT over sep q)
 |[],_,_,_,_,_,_=>by rw[rfL];exact Nat.zero_le _
 |t::r,[],_,_,h,_,_=>by simp[TqL]at h
 |t::r,n::q,over,sep,h,hv,hw=>by
  rw[TqL]at h;rw[VkL]at hv;rw[WfL]at hw;have i1:=Wx t n h.1 hv.1 hw.1;have i2:=z3S r q over sep h.2 hv.2 hw.2;have i3:=Hc over n;rw[rfL,List.length_append,Dc,sz,Vf];omega
end
theorem Hl:∀{rs:List Rr} {ns:List Rl},TqR rs ns->(∀x∈ns,Ruk Nmq x)->∀x∈rs,(rfT x.2.1).length<=sz (pR qT cT ns)
 |[],_,_,_,x,hx=>by simp at hx
 |a::r,[],h,_,_,_=>by simp[TqR]at h
 |a::r,b::q,h,hk,x,hx=>by
  rw[TqR]at h;rw[pR,sz,sz,Vf,sz];rcases List.mem_cons.1 hx with rfl|hx
  ·have hb:=hk b (by simp)
   have:=Wx _ _ h.2.1 hb.2.1 hb.2.2;omega
  ·have:=Hl h.2.2 (fun y hy=>hk y (List.mem_cons_of_mem _ hy)) x hx
   omega
theorem Iz(so:Option Addr)(n cap:Nat)(A E:Value)(w:World)
  (HP:Hid (∀W:World,Below w.heap.size w W->Calls prog 156 #[.agg #[.slice so n cap]] W fun e w'=>e=.returned (.tuple #[A,E])/\Below W.heap.size W w')):
  Calls prog 150 #[.agg #[.slice so n cap]] w fun e w'=>e=.returned E/\Below w.heap.size w w':=by
 have HB1:Hid (Below w.heap.size w (w.alloc (.cells #[.slice so n cap] 24))):=(Below.refl _ w).alloc L0q _;go_enter func150,ntmps150
 go_wp2_with(first|(go_at_call 156;refine(HP.out _ HB1.out).mono ?_;rintro e wq ⟨rfl,hbq⟩;have HBq:Hid (Below w.heap.size w wq):=HB1.out.trans (hbq.mono HB1.out.size)))
 go_ret;exact⟨rfl,HBq.out⟩
def RtA(rs:List Rr)(E:Value):Prop:=(∃c:Int,(c=2∨c=20)/\E=.iface 54 (.int .i64 c))∨(E=.nilIface/\okG rs=true/\∀x∈rs,(rfT x.2.1).length<=8192)
open Go.Maps
attribute [local go_sem] Oper.semAt_some
theorem y1i(so:Option Addr)(n cap:Nat)(c:Int)(w:World)
  (HP:Hid (∀W:World,Below w.heap.size w W->Calls prog 150 #[.agg #[.slice so n cap]] W fun e w'=>e=.returned (.iface 54 (.int .i64 c))/\Below W.heap.size W w'))(m:Nat):
  CallsIn Fence.wide (m+5) prog 126 #[.agg #[.slice so n cap]] w fun e w'=>e=.returned (.tuple #[.map none,.iface 54 (.int .i64 c)])/\Below w.heap.size w w':=by
 obtain⟨W0,hW0⟩:∃W0,W0=((w.alloc (.cells #[.slice so n cap] 24)).alloc (.cells #[.map none] 74)).alloc (.cells #[.nilIface] 37):=⟨_,rfl⟩;have hB0:Below w.heap.size w W0:=by rw[hW0];exact(((Below.refl _ w).alloc L0q _).alloc (by simp) _).alloc (by simp;omega) _
 have c2:W0.heap[w.heap.size+1]? =some (.cells #[.map none] 74):=by
  rw[hW0];exact(Below.heap_alloc _ _ _ (by simp)).trans (Qx _ _ (by simp))
 have c3:W0.heap[w.heap.size+1+1]? =some (.cells #[.nilIface] 37):=by
  rw[hW0];exact Qx _ _ (by simp)
 have hs0:W0.heap.size=w.heap.size+1+1+1:=by rw[hW0];simp
 have HP0:=hid (HP.out W0 hB0);refine callsIn_of_wp_marks func126 rfl trivial ?_ rfl;simp only[ntmps126,List.size_toArray,List.length_cons,List.length_nil,Nat.reduceAdd,Nat.reduceSub,Array.replicate_succ,Array.replicate_zero,List.push_toArray,List.append_toArray,List.nil_append,List.cons_append]
 gi_wp2
 rw[<-hW0];clear hW0;refine⟨trivial,?_⟩;refine(callsIn_wide.2 HP0.out).mono ?_;rintro e W1 ⟨rfl,hb1⟩;have d2:=(hb1.block _ (by omega)).trans c2;have d3:=(hb1.block _ (by omega)).trans c3;have hs1:=hb1.size;have HBw:Hid (Below w.heap.size w W1):=hB0.trans (hb1.mono hB0.size);obtain⟨x2,e2⟩:=Qj d2;obtain⟨x3,e3⟩:=Qj d3;have l2:=Qz d2;have l3:=Qz d3;clear HP0 HP c2 c3
 gi_wp2
 have b2:Boxed W1 (w.heap.size+1) 74 (.map none):=d2;have b3:Boxed W1 (w.heap.size+1+1) 37 .nilIface:=d3;have y1:=((b2.set (.map none)).other (B':=w.heap.size+1+1) (by omega) (.iface 54 (.int .i64 c))).cell;have y2:=((b3.other (B':=w.heap.size+1) (by omega) (.map none)).set (.iface 54 (.int .i64 c))).cell;refine⟨.tuple #[.map none,.iface 54 (.int .i64 c)],by simp[results,Tryz.f126,go_sem,y1,y2],rfl,?_⟩;exact(HBw.out.setCell (p:=⟨w.heap.size+1,0,none⟩) (by show w.heap.size<=_+1;omega) _).setCell (p:=⟨w.heap.size+1+1,0,none⟩) (by show w.heap.size<=_+1+1;omega) _
def Zk(X:Option (Int ⊕ (Int×Int)))(S:Nat)(w':World)(v:Value):Prop:=match X with
 |none=>v=.nilIface
 |some (.inl c)=>v=.iface 54 (.int .i64 c)
 |some (.inr q)=>∃g,v=.iface 58 (.pointer (some ⟨g,0,none⟩))/\S<=g/\w'.heap[g]? =some (.cells #[.int .i64 q.1,.int .i64 q.2] 60)
def CkX(rs:List Rr)(X:Option (Int ⊕ (Int×Int))):Prop:=match X with
 |none=>okG rs=true/\ckR rs=none/\∀x∈rs,(rfT x.2.1).length<=8192
 |some (.inl c)=>c=2∨c=20
 |some (.inr q)=>okG rs=true/\ckR rs=some q
theorem Zk.shape{X:Option (Int ⊕ (Int×Int))}{S:Nat}{w':World}(h:Zk X S w' v)(hX:X≠none):∃t u,v=.iface t u:=by
 match X,hX with
 |some (.inl c),_=>exact⟨_,_,h⟩
 |some (.inr q),_=>
  obtain⟨g,h1,_⟩:=h;exact⟨_,_,h1⟩
mutual
theorem Qk.upto{w:World}{B B':Nat}(hB:B<=B'):∀(t:RT) (cs:List Value),Qk w B t cs->Qk w B' t cs
 | .mk k T a b c d s p,cs,ht=>by
   rw[Qk]at ht ⊢;obtain⟨so,cap,rfl,ht⟩:=ht;refine⟨so,cap,rfl,?_⟩;rcases ht with h1|⟨h1,g,o,h2,h3,h4,h5⟩
   ·exact .inl h1
   ·exact .inr ⟨h1,g,o,h2,by omega,h4,Qc.upto hB s g o h5⟩
theorem Qc.upto{w:World}{B B':Nat}(hB:B<=B'):∀(s:List RT) (g o:Nat),Qc w B g o s->Qc w B' g o s
 |[],g,o,_=>by rw[Qc];trivial
 |t::r,g,o,ht=>by
  rw[Qc]at ht ⊢;obtain⟨⟨cs,h1,h2⟩,h3⟩:=ht;exact⟨⟨cs,Qk.upto hB t cs h1,h2⟩,Qc.upto hB r g _ h3⟩
end
theorem Qy.upto{w:World}{B B' n:Nat}{so:Option Addr}{rs:List Rr}(h:Qy w B so n rs)(hB:B<=B'):Qy w B' so n rs:=
 ⟨h.1,h.2.1,fun j hj=>by
   obtain⟨g,o,h1,h2,k,T,a,b,c,d,s',n',cap,p,h3,h4⟩:=h.2.2 j hj;exact⟨g,o,h1,by omega,k,T,a,b,c,d,s',n',cap,p,Qk.upto hB _ _ h3,h4⟩⟩
theorem Zk.lo{X:Option (Int ⊕ (Int×Int))}{S S':Nat}{w':World}(h:Zk X S w' v)(hS:S'<=S):Zk X S' w' v:=by
 match X with
 |none=>exact h
 |some (.inl c)=>exact h
 |some (.inr q)=>
  obtain⟨g,h1,h2,h3⟩:=h;exact⟨g,h1,by omega,h3⟩
theorem z3T(so:Option Addr)(n cap:Nat)(rs:List Rr)(X:Option (Int ⊕ (Int×Int)))(W:World)
  (HC:Hid (∀W':World,Below W.heap.size W W'->Calls prog 126 #[.agg #[.slice so n cap]] W' fun e w'=>∃m v,e=.returned (.tuple #[m,v])/\Zk X W'.heap.size w' v/\(X=none->∃M,m=.map (some M)/\W'.heap.size<=M/\Pm w' M (nmL rs))/\(X≠none->m=.map none)/\Below W'.heap.size W' w')):
  Calls prog 100 #[.agg #[.slice so n cap]] W fun e w'=>∃v,e=.returned v/\Zk X W.heap.size w' v/\Below W.heap.size W w':=by
 have HB1:Hid (Below W.heap.size W (W.alloc (.cells #[.slice so n cap] 24))):=(Below.refl _ W).alloc L0q _;have HB0:Hid (Below W.heap.size W W):=Below.refl _ W;go_enter func100,ntmps100
 go_wp2_with fail
 first
  |(refine(HC.out _ HB1.out).mono ?_;rintro e w1 ⟨m,v,rfl,h1,-,-,h2⟩;have h3:=HB1.out.trans (h2.mono HB1.out.size);have h4:=h1.lo (S':=W.heap.size) HB1.out.size)
  |(refine(HC.out _ HB0.out).mono ?_;rintro e w1 ⟨m,v,rfl,h1,-,-,h2⟩;have h3:=h2;have h4:=h1)
 clear HC HB1 HB0 h1 h2;have H3:=hid h3;have H4:=hid h4;clear h3 h4
 go_wp2_with fail
 go_ret;exact⟨_,rfl,H4.out,H3.out⟩
theorem y1j{s:Nat}{u:List Int}(h:W.ownsRow s 3 1 v u.length (u.map (Value.int .i64)))(hl:u.length<=1048576):z3r W W.heap.size v u:=by
 rcases h.2 with⟨rfl,h0⟩|⟨g,cap,cur,rfl,h1,h2,h3,h4,h5,h6⟩
 ·cases u with
  |nil=>exact⟨none,0,rfl,hl,fun j hj=>by simp at hj⟩
  |cons _ _=>simp at h0
 ·refine⟨_,cap,rfl,hl,fun j hj=>⟨g,0,rfl,(Array.getElem?_eq_some_iff.1 h2).1,?_⟩⟩
  refine(Ql h2 (0+j) _ ?_).1;have e:(cur.toList.take (u.length*1))[j]? =(u.map (Value.int .i64))[j]? :=by rw[h6]
  rw[List.getElem?_take_of_lt (by omega)]at e;rw[Nat.zero_add,<-Array.getElem?_toList,e];simp[hj]
theorem y1k{ub:Nat}{vs:List Value}{us:List (List Int)}(h:Uw w ub n vs us W)(hn:vs.length=n)(hl:∀u∈us,u.length<=1048576)(hn2:n<=1048576):UsM W W.heap.size (.slice (some ⟨ub,0,none⟩) n n) us:=by
 have hu:us.length=n:=by rw[<-h.len];exact hn
 refine⟨_,n,by rw[hu],by omega,fun i hi=>⟨ub,0,vs[i]'(by rw[h.len];exact hi),rfl,Qz h.blk,?_,y1j (h.row i (by rw[h.len];exact hi) hi) (hl _ (List.getElem_mem hi))⟩⟩;refine(Ql h.blk (0+i) _ ?_).1;have hv:i<vs.length:=by rw[h.len];exact hi
 rw[Nat.zero_add,List.getElem?_toArray,List.getElem?_append_left hv,List.getElem?_eq_getElem hv]
theorem Wj{zs:List Int}(h:x∈Lib.compact zs):x∈zs:=by
 unfold Lib.compact Lib.compactUpTo at h;obtain⟨i,hi,rfl⟩:=List.mem_map.1 h;have hi2:i<zs.length:=List.mem_range.1 (List.mem_filter.1 hi).1;rw[getElem!_pos _ i (by simpa using hi2)];simp
theorem y1l{l:List ByteArray}{y:Rr}(hl:1<=l.length)(h:x∈usR l y):∃m:Nat,m<l.length/\x=(m:Int):=by
 have h1:x∈ixL l (rfT y.2.1):=(Ac _).mem_iff.1 (Wj h);obtain⟨q,_,rfl⟩:=List.mem_map.1 h1;refine⟨ixV l q.1,?_,rfl⟩;unfold ixV;cases hin:inN q.1 l with
 |true=>exact Tj _ _ hin
 |false=>exact hl
theorem Fl(h:okG rs=true):1<=rs.length/\rs.length<=64:=by
 unfold okG at h;simp only[Bool.and_eq_true,decide_eq_true_eq]at h;exact⟨h.1,h.2.1⟩
@[reducible] def CkC (so:Option Addr) (n cap:Nat) (rs:List Rr) (X:Option (Int ⊕ (Int×Int))) (W:World):Prop:=∀W':World,Below W.heap.size W W'->Calls prog 126 #[.agg #[.slice so n cap]] W' fun e w'=>∃m v,e=.returned (.tuple #[m,v])/\Zk X W'.heap.size w' v/\(X=none->∃M,m=.map (some M)/\W'.heap.size<=M/\Pm w' M (nmL rs))/\(X≠none->m=.map none)/\Below W'.heap.size W' w'
theorem CkC.from{so:Option Addr}{cap:Nat}{X:Option (Int ⊕ (Int×Int))}{W':World}(h:CkC so n cap rs X W)(hW:Below W.heap.size W W'):CkC so n cap rs X W':=fun W2 h2=>h W2 (hW.trans (h2.mono hW.size))
open Go.Extern.Stop Go.Stop Go.Extern
def xOf(rs:List Rr):Option (Int ⊕ (Int×Int)):=(ckR rs).map .inr
theorem Wk(so:Option Addr)(n cap:Nat)(rs:List Rr)(B:Nat)(w:World)(hz:RgZ rs)(h:Qy w B so n rs)(hB:B<=w.heap.size)(hTg:3<w.heap.size)(hok:okG rs=true)(hl:∀x∈rs,(rfT x.2.1).length<=8192)
  (hR:∀W:World,Below w.heap.size w W->Calls prog 150 #[.agg #[.slice so n cap]] W fun e w'=>e=.returned .nilIface/\Below W.heap.size W w'):CkX rs (xOf rs)/\CkC so n cap rs (xOf rs) w:=by
 have hC:∀W:World,Below w.heap.size w W->Calls prog 126 #[.agg #[.slice so n cap]] W (CkP W rs):=fun W hW=>callsIn_wide.1 (y0M so n cap rs W ((h.below (hW.mono hB)).upto (Nat.le_trans hB hW.size)) (by have:=hW.size;omega) (hid hz) (hid fun W' hW'=>hR W' (hW.trans (hW'.mono hW.size))) 0)
 unfold xOf;cases hk:ckR rs with
 |none=>
  refine⟨⟨hok,hk,hl⟩,fun W hW=>(hC W hW).mono fun e w' he=> ?_⟩;obtain⟨hb,⟨c,p,g,h1,_⟩|⟨M,_,h2,h3,h4⟩⟩:=he
  ·rw[hk]at h1;cases h1
  ·exact⟨_,_,h2,rfl,fun _=>⟨M,rfl,h3,h4⟩,fun h=>absurd rfl h,hb⟩
 |some q=>
  refine⟨⟨hok,hk⟩,fun W hW=>(hC W hW).mono fun e w' he=> ?_⟩;obtain⟨hb,⟨c,p,g,h1,h2,h3,h4⟩|⟨M,h1,_⟩⟩:=he
  ·rw[hk]at h1
   cases h1;exact⟨_,_,h2,⟨g,rfl,h3,h4⟩,(fun h=>by cases h),fun _=>rfl,hb⟩
  ·rw[hk]at h1;cases h1
theorem y1m{S:ByteArray}{rs:List Rl}(hS:S.size<=8192)(hp:Vy S=.inr rs)(h1:sz (pR qT cT rs)<=8192)(h2:dR rs<=24)(B g n cap:Nat)(W:World)(hr:RoR B (.slice (some ⟨g,0,none⟩) n cap) rs W)(hT:TabIs W):
  Qy W W.heap.size (some ⟨g,0,none⟩) n (toG rs)/\RgZ (toG rs)/\CkX (toG rs) (xOf (toG rs))/\CkC (some ⟨g,0,none⟩) n cap (toG rs) (xOf (toG rs)) W:=by
 have hx:∀x∈rs,Ruk Nmq x:=fun x hx=>(Sj hp x hx).1
 have hl:=Td hp;have hi:=z3J hr (Tp (z3I hS hp)) hl.1;have hz:=(Hh (Fj rs) hx).2;have hT':=hT.lt;refine⟨hi,hz,Wk _ n cap (toG rs) W.heap.size W hz hi L0q hT' (Tc (Fj rs) hx hl.2 hl.1) (fun x hx'=>Nat.le_trans (Hl (Fj rs) hx x hx') h1) fun W' hW'=>Iz _ n cap (.string (cat (pR qT cT rs))) _ W' (hid fun W2 hW2=> ?_)⟩;have hb:Below W.heap.size W W2:=hW'.trans (hW2.mono hW'.size);have:=y1e hS hp B g n cap W2 (hr.below hb) (hT.below hb hT.lt);rw[Af h1 h2]at this;exact this
theorem z3U(zs:List Int):∀(i:Nat) (hi:i<zs.length),zs[i]∈Lib.compact zs
 |0,hi=>by
  unfold Lib.compact Lib.compactUpTo;refine List.mem_map.2 ⟨0,List.mem_filter.2 ⟨List.mem_range.2 hi,Lib.keeps_lt_one _ 0 (by omega)⟩,?_⟩;rw[getElem!_pos _ 0 (by simpa using hi)];simp
 |i+1,hi=>by
  by_cases hk:Lib.keeps zs.toArray (i+1)=true
  ·unfold Lib.compact Lib.compactUpTo
   refine List.mem_map.2 ⟨i+1,List.mem_filter.2 ⟨List.mem_range.2 hi,hk⟩,?_⟩;rw[getElem!_pos _ (i+1) (by simpa using hi)];simp
  ·have e:zs.toArray[i+1]! =zs.toArray[i]! :=Classical.byContradiction fun hne=>hk (Lib.keeps_pos (by simpa using hne))
   rw[getElem!_pos _ (i+1) (by simpa using hi),getElem!_pos _ i (by simp;omega)]at e;have e':zs[i+1]=zs[i]:=by simpa using e
   rw[e'];exact z3U zs i (by omega)
theorem z3V{zs:List Int}(h:x∈zs):x∈Lib.compact zs:=by
 obtain⟨i,hi,rfl⟩:=List.getElem_of_mem h;exact z3U zs i hi
theorem y1n{l:List ByteArray}{y:Rr}:x∈usR l y↔x∈ixL l (rfT y.2.1):=⟨fun h=>(Ac _).mem_iff.1 (Wj h),fun h=>z3V ((Ac _).mem_iff.2 h)⟩
def fdI(s:ByteArray)(l:List ByteArray):Int:=if inN s l then(ixN s l:Int)else-1
theorem z3W{s:ByteArray}:∀{l:List ByteArray} {j:Nat} (hj:j<l.length),(∀i (hi:i<l.length),i<j->l[i]≠s)->l[j]=s->inN s l=true/\ixN s l=j
 |[],j,hj,_,_=>by simp at hj
 |a::r,0,_,_,h=>by
  have h:a=s:=h;rw[inN,ixN,if_pos h,if_pos h];exact⟨rfl,rfl⟩
 |a::r,j+1,hj,hb,h=>by
  have h0:a≠s:=hb 0 (by simp) (by omega);obtain⟨i1,i2⟩:=z3W (l:=r) (j:=j) (by simpa using hj) (fun i hi hij=>hb (i+1) (by simpa using hi) (by omega)) h;rw[inN,ixN,if_neg h0,if_neg h0,i2];exact⟨i1,rfl⟩
theorem z3X{s:ByteArray}:∀{l:List ByteArray},(∀i (hi:i<l.length),l[i]≠s)->inN s l=false
 |[],_=>rfl
 |a::r,h=>by
  have h0:a≠s:=h 0 (by simp);rw[inN,if_neg h0];exact z3X fun i hi=>h (i+1) (by simpa using hi)
theorem y1o(a b:ByteArray):(a.toList == b.toList)=decide (a=b):=by
 by_cases h:a=b
 ·subst h;simp
 ·have:a.toList≠b.toList:=fun e=>h (by
   rw[Go.ByteArray.toList_eq,Go.ByteArray.toList_eq]at e;exact ByteArray.ext (Array.toList_inj.1 e))
  simp[h,this]
theorem y1p(N0 T1 s:ByteArray)(k1 a1 b1 c1 d1 p1 q1:Int)(so1:Option Addr)(n1 cap1 nB:Nat)(W:World)(hb:Boxed W nB 9 (.string s)):
  Calls prog 106 #[.agg #[.string N0,.int .i64 k1,.string T1,.int .u64 a1,.int .u64 b1,.int .u64 c1,.int .u64 d1,.slice so1 n1 cap1,.int .i64 p1,.int .i64 q1],.pointer (some ⟨nB,0,none⟩)] W fun e w'=>e=.returned (.bool (decide (N0=s)))/\Below W.heap.size W w':=by
 have cn:=hb.cell;have lb:=hb.lt;go_enter func106,ntmps106
 go_wp2_with fail
 go_ret;refine⟨?_,(Below.refl _ W).alloc L0q _⟩;show Ending.returned (.bool (N0.toList == s.toList))=_;rw[y1o]
theorem y1q(s:ByteArray)(so:Option Addr)(n cap:Nat)(rs:List Rr)(B nB:Nat)(W:World)(h:Qy W B so n rs)(hB:B<=W.heap.size)(hb:Boxed W nB 9 (.string s))(hnB:nB<W.heap.size):
  Calls prog 105 #[.slice so n cap,.func (.func 106) #[] #[.pointer (some ⟨nB,0,none⟩)]] W fun e w'=>e=.returned (.int .i64 (fdI s (nmL rs)))/\Below W.heap.size W w':=by
 have HR:=hid h;have HNl:Hid (n=rs.length):=h.1;have hn6:n<=9223372036854775807:=by have:=h.2.1;unfold maxLen at this;omega
 have HBx:=hid hb;have HBB:Hid (B<=W.heap.size):=hB;clear h hb hB;go_enter func105,ntmps105
 go_wp2_with fail
 go_loopw [8] (fun i wr=>∃j:Nat,i=.int .i64 j/\j<=n/\Hid (∀i (hi:i<rs.length),i<j->rs[i].1≠s)/\Hid (Below W.heap.size W wr)) (fun i _=>n-(intOf i).toNat)
 case atStart=>exact⟨0,rfl,Nat.zero_le _,fun i hi h0=>by omega,Below.refl _ _⟩
 case round=>
  obtain⟨j,rfl,hj,HA,HBj⟩:=hrel;have hnl:(nmL rs).length=rs.length:=List.length_map _;by_cases hjn:j<n
  ·have hjI:(j:Int)<(n:Int):=by omega
   have a0:decide ((j:Int)<(n:Int))=true:=by simp;omega
   have hjs:j<rs.length:=by rw[<-HNl.out];exact hjn
   obtain⟨g,o,rfl,hg,k1,T1,a1,b1,c1,d1,so1,n1,cap1,p1,hrt,r0⟩:=HR.out.2.2 j hjs;have hce:∀q,wr.cell? ⟨g,q,none⟩=W.cell? ⟨g,q,none⟩:=fun q=>HBj.out.cell (p:=⟨g,q,none⟩) (Nat.lt_of_lt_of_le hg HBB.out)
   simp only[<-hce]at r0;obtain⟨z0,z1,z2,z3,z4,z5,z6,z7,z8,z9⟩:=r0;obtain⟨N0,hN0⟩:∃N0,N0=rs[j].1:=⟨_,rfl⟩;obtain⟨q1,hq1⟩:∃q1,q1=rs[j].2.2:=⟨_,rfl⟩;rw[<-hN0]at z0;rw[<-hq1]at z9;have HN0:Hid (N0=rs[j].1):=hN0;have HF:=hid (y1p N0 T1 s k1 a1 b1 c1 d1 p1 q1 so1 n1 cap1 nB wr ((HBj.out.block nB hnB).trans HBx.out));clear hce hrt hN0 hq1;by_cases e:N0=s
   ·rw[decide_eq_true e]at HF
    have HE:Hid (N0=s):=e;clear e
    go_wp2_with(first
     |(go_at_call 106;refine HF.out.mono ?_;clear HF;rintro e w5 ⟨rfl,hb5⟩))
    go_ret;refine⟨?_,HBj.out.trans (hb5.mono HBj.out.size)⟩;obtain⟨i1,i2⟩:=z3W (s:=s) (l:=nmL rs) (j:=j) (by omega) (fun i hi hij=>by have:=HA.out i (by omega) hij;simpa [nmL]using this) (by have:=HE.out;rw[HN0.out]at this;simpa [nmL]using this);unfold fdI;rw[i1,i2];rfl
   ·rw[decide_eq_false e]at HF
    have HE:Hid (N0≠s):=e;clear e
    go_wp2_with(first
     |(go_at_call 106;refine HF.out.mono ?_;clear HF;rintro e w5 ⟨rfl,hb5⟩))
    refine⟨⟨j+1,by go_num,by omega,hid (fun i hi hij=> ?_),hid (HBj.out.trans (hb5.mono HBj.out.size))⟩,by simp[intOf];omega⟩;by_cases e:i=j
    ·subst e
     have:=HE.out;rw[HN0.out]at this;exact this
    ·exact HA.out i hi (by omega)
  ·have a0:decide ((j:Int)<(n:Int))=false:=by simp;omega
   go_wp2_with fail
   go_ret;refine⟨?_,HBj.out⟩;unfold fdI;rw[z3X (s:=s) (l:=nmL rs) fun i hi=>by have:=HA.out i (by omega) (by have:=HNl.out;omega);simpa [nmL]using this];rfl
theorem z3Y(s:ByteArray)(so:Option Addr)(n cap:Nat)(rs:List Rr)(B:Nat)(W:World)(h:Qy W B so n rs)(hB:B<=W.heap.size):
  Calls prog 66 #[.agg #[.slice so n cap],.string s] W fun e w'=>e=.returned (.int .i64 (fdI s (nmL rs)))/\Below W.heap.size W w':=by
 have HI:=hid (fun(nB:Nat) (W':World) (hb:Below W.heap.size W W') (hx:Boxed W' nB 9 (.string s))=>y1q s so n cap rs B nB W' (h.below (hb.mono hB)) (Nat.le_trans hB hb.size) hx hx.lt);have HB2:Hid (∀o o':Obj,Below W.heap.size W ((W.alloc o).alloc o')):=fun o o'=>((Below.refl _ W).alloc L0q _).alloc (by simp) _
 have HX1:Hid (∀o:Obj,Boxed ((W.alloc o).alloc (.cells #[.string s] 9)) (W.heap.size+1) 9 (.string s)):=fun o=>by
  have:=Boxed.new (W.alloc o) 9 (.string s);simpa only[World.size_alloc]using this
 clear h hB;go_enter func66,ntmps66
 go_wp2_with fail
 refine(HI.out _ _ (HB2.out _ _) (HX1.out _)).mono ?_;rintro e w1 ⟨rfl,hb1⟩;have H1:=hid ((HB2.out _ _).trans (hb1.mono (HB2.out _ _).size));clear hb1 HI HX1 HB2
 go_wp2_with fail
 go_ret;exact⟨rfl,H1.out⟩
theorem z3Z:∀{rs:List Rr} {l:List ByteArray},Vz l rs=none->∀j (hj:j<rs.length),inN rs[j].1 (l++nmL (rs.take j))=false
 |[],_,_,j,hj=>by simp at hj
 |x::r,l,h,0,_=>by
  rw[Vz]at h;cases hi:inN x.1 l with
  |true=>rw[hi]at h;cases h
  |false=>simpa [nmL]using hi
 |x::r,l,h,j+1,hj=>by
  rw[Vz]at h;cases hi:inN x.1 l with
  |true=>rw[hi]at h;cases h
  |false=>
   rw[hi]at h;have:=z3Z (l:=l++[x.1]) (by simpa using h) j (by simpa using hj);simpa [nmL,List.append_assoc]using this
theorem y1r(h:ckR rs=none)(j:Nat)(hj:j<rs.length):inN rs[j].1 (nmL (rs.take j))=false:=by
 have hd:Kx rs=none:=by
  unfold ckR at h;cases hd:Kx rs with
  |none=>rfl
  |some p=>rw[hd]at h;cases h
 have:=z3Z hd j hj;rwa[List.nil_append]at this
theorem z4a(s:ByteArray):∀a b,inN s (a++b)=(inN s a||inN s b)
 |[],b=>by rw[List.nil_append,inN];rfl
 |x::r,b=>by rw[List.cons_append,inN,inN,z4a s r b];by_cases h:x=s<;>simp[h]
theorem z4b(s:ByteArray):∀a b,ixN s (a++b)=if inN s a then ixN s a else a.length+ixN s b
 |[],b=>by rw[List.nil_append,inN];simp
 |x::r,b=>by
  rw[List.cons_append,ixN,ixN,inN,z4b s r b];by_cases h:x=s
  ·simp[h]
  ·simp only[h,if_false]
   by_cases h2:inN s r=true
   ·simp[h2]
   ·simp[h2];omega
theorem z4c(h:ckR rs=none)(j:Nat)(hj:j<rs.length):fdI rs[j].1 (nmL rs)=(j:Int):=by
 have h0:=y1r h j hj;have e:nmL rs=nmL (rs.take j)++(rs[j].1::nmL (rs.drop (j+1))):=by
  have e1:rs=rs.take j++(rs[j]::rs.drop (j+1)):=by rw[<-List.drop_eq_getElem_cons hj,List.take_append_drop]
  have e2:=congrArg nmL e1;rw[e2];unfold nmL;rw[List.map_append];rfl
 have hl:(nmL (rs.take j)).length=j:=by unfold nmL;rw[List.length_map,List.length_take];omega
 unfold fdI;rw[e,z4a,z4b,h0,inN,ixN,if_pos rfl,if_pos rfl,hl];simp
mutual
def Zl(w:World)(P:Nat->Prop):RT->List Value->Prop
 | .mk k T a b c d s p,cs=>∃so cap,cs=r8 k T a b c d so (Qw s) cap p/\(s.isEmpty=true∨(s.isEmpty=false/\∃g cur,so=some ⟨g,0,none⟩/\P g/\w.heap[g]? =some (.cells cur 30)/\Qw s<=maxLen/\Xp w P s cur.toList))
def Xp(w:World)(P:Nat->Prop):List RT->List Value->Prop
 |[],_=>True
 |t::r,vs=>∃c rest,vs=c++rest/\Zl w P t c/\Xp w P r rest
end
theorem Zl.len{P:Nat->Prop}{t:RT}{c:List Value}(h:Zl w P t c):c.length=8:=by
 obtain⟨k,T,a,b,c0,d,s,p⟩:=t;rw[Zl]at h;obtain⟨so,cap,rfl,_⟩:=h;rfl
mutual
theorem Zl.kept{w w':World}{P Q:Nat->Prop}(hk:∀g cur,P g->w.heap[g]? =some (.cells cur 30)->w'.heap[g]? =w.heap[g]? /\Q g):∀(t:RT) (c:List Value),Zl w P t c->Zl w' Q t c
 | .mk k T a b c d s p,cs,h=>by
   rw[Zl]at h ⊢;obtain⟨so,cap,h1,h2⟩:=h;refine⟨so,cap,h1,?_⟩;rcases h2 with h2|⟨h3,g,cur,h4,h5,h6,h7,h8⟩
   ·exact .inl h2
   ·have:=hk g cur h5 h6
    exact .inr ⟨h3,g,cur,h4,this.2,this.1.trans h6,h7,Xp.kept hk s cur.toList h8⟩
theorem Xp.kept{w w':World}{P Q:Nat->Prop}(hk:∀g cur,P g->w.heap[g]? =some (.cells cur 30)->w'.heap[g]? =w.heap[g]? /\Q g):∀(l:List RT) (vs:List Value),Xp w P l vs->Xp w' Q l vs
 |[],vs,h=>by rw[Xp];trivial
 |n::r,vs,h=>by
  rw[Xp]at h ⊢;obtain⟨c,rest,h1,h2,h3⟩:=h;exact⟨c,rest,h1,Zl.kept hk n c h2,Xp.kept hk r rest h3⟩
end
def CnA(t:RT)(w:World)(e:Ending)(w':World):Prop:=∃k T a b c d so n cap p,e=.returned (.agg #[.int .i64 k,.string T,.int .u64 a,.int .u64 b,.int .u64 c,.int .u64 d,.slice so n cap,.int .i64 p])/\Hid (Zl w' (fun g=>w.heap.size<=g) t (r8 k T a b c d so n cap p))/\Hid (Below w.heap.size w w')
theorem Mz{W':World}{h:Nat}{y0 y1 y2 y3 y4 y5 y6 y7:Value}(hs:W.cell? ⟨h,0,none⟩=some y0/\W.cell? ⟨h,1,none⟩=some y1/\W.cell? ⟨h,2,none⟩=some y2/\W.cell? ⟨h,3,none⟩=some y3/\W.cell? ⟨h,4,none⟩=some y4/\W.cell? ⟨h,5,none⟩=some y5/\W.cell? ⟨h,6,none⟩=some y6/\W.cell? ⟨h,7,none⟩=some y7)(hb:Below W.heap.size W W'):W'.cell? ⟨h,0,none⟩=some y0/\W'.cell? ⟨h,1,none⟩=some y1/\W'.cell? ⟨h,2,none⟩=some y2/\W'.cell? ⟨h,3,none⟩=some y3/\W'.cell? ⟨h,4,none⟩=some y4/\W'.cell? ⟨h,5,none⟩=some y5/\W'.cell? ⟨h,6,none⟩=some y6/\W'.cell? ⟨h,7,none⟩=some y7:=
 have k:∀{j:Nat} {v:Value},W.cell? ⟨h,j,none⟩=some v->W'.cell? ⟨h,j,none⟩=some v:=fun{j v} e=>(hb.cell (p:=⟨h,j,none⟩) (World.block_lt_of_cell? W _ e)).trans e
 ⟨k hs.1,k hs.2.1,k hs.2.2.1,k hs.2.2.2.1,k hs.2.2.2.2.1,k hs.2.2.2.2.2.1,k hs.2.2.2.2.2.2.1,k hs.2.2.2.2.2.2.2⟩
def RqR(w:World)(P:Nat->Prop)(x:Rr)(cs:List Value):Prop:=∃c,cs=.string x.1::(c++[.int .i64 x.2.2])/\Zl w P x.2.1 c
def Zh(w:World)(P:Nat->Prop):List Rr->List Value->Prop
 |[],_=>True
 |x::r,vs=>∃c rest,vs=c++rest/\RqR w P x c/\Zh w P r rest
theorem RqR.len{w:World}{P:Nat->Prop}{x:Rr}{c:List Value}(h:RqR w P x c):c.length=10:=by
 obtain⟨c1,rfl,h2⟩:=h;have:=h2.len;simp;omega
theorem Zh.kept{w w':World}{P Q:Nat->Prop}(hk:∀g cur,P g->w.heap[g]? =some (.cells cur 30)->w'.heap[g]? =w.heap[g]? /\Q g):∀(l:List Rr) (vs:List Value),Zh w P l vs->Zh w' Q l vs
 |[],vs,h=>by rw[Zh];trivial
 |n::r,vs,h=>by
  rw[Zh]at h ⊢;obtain⟨c,rest,h1,⟨c1,h2,h3⟩,h4⟩:=h;exact⟨c,rest,h1,⟨c1,h2,Zl.kept hk _ _ h3⟩,Zh.kept hk r rest h4⟩
theorem Zh.append{w:World}{P:Nat->Prop}:∀(l:List Rr) (vs:List Value) (n:Rr) (c:List Value),Zh w P l vs->vs.length=l.length*10->RqR w P n c->Zh w P (l++[n]) (vs++c)
 |[],vs,n,c,_,hl,hn=>by
  have:vs=[]:=List.eq_nil_of_length_eq_zero (by simpa using hl);subst this;rw[List.nil_append,Zh];exact⟨c,[],by simp,hn,by rw[Zh];trivial⟩
 |m::r,vs,n,c,h,hl,hn=>by
  rw[Zh]at h;obtain⟨d,rest,rfl,h2,h3⟩:=h;have hd:=h2.len;rw[List.cons_append,Zh];refine⟨d,rest++c,by rw[List.append_assoc],h2,Zh.append r rest n c h3 ?_ hn⟩;simp at hl;omega
mutual
theorem Zl.is{w:World}{P:Nat->Prop}:∀(t:RT) (c:List Value),Zl w P t c->Qk w w.heap.size t c
 | .mk k T a b c d s p,cs,h=>by
   rw[Zl]at h;rw[Qk];obtain⟨so,cap,h1,h2⟩:=h;refine⟨so,cap,h1,?_⟩;rcases h2 with h2|⟨h3,g,cur,h4,h5,h6,h7,h8⟩
   ·exact .inl h2
   ·exact .inr ⟨h3,g,0,h4,Qz h6,h7,Xp.is s cur.toList g 0 cur h6 (fun i u hu=>by rw[Nat.zero_add];simpa using hu) h8⟩
theorem Xp.is{w:World}{P:Nat->Prop}:∀(s:List RT) (vs:List Value) (g o:Nat) (cur:Array Value),w.heap[g]? =some (.cells cur 30)->(∀i u,vs[i]? =some u->cur[o+i]? =some u)->Xp w P s vs->Qc w w.heap.size g o s
 |[],_,_,_,_,_,_,_=>by rw[Qc];trivial
 |t::r,vs,g,o,cur,hg,hv,h=>by
  rw[Xp]at h;rw[Qc];obtain⟨c,rest,rfl,h2,h3⟩:=h;have hc:=h2.len;refine⟨⟨c,Zl.is t c h2,fun j u hu=> ?_⟩,Xp.is r rest g (o+8) cur hg (fun i u hu=> ?_) h3⟩
  ·have hj:j<c.length:=by
    rcases Nat.lt_or_ge j c.length with h|h
    ·exact h
    ·rw[List.getElem?_eq_none h]at hu;cases hu
   have:=hv j u (by rw[List.getElem?_append_left hj];exact hu);simp[World.cell?,hg,this]
  ·have:=hv (8+i) u (by rw[List.getElem?_append_right (by omega),hc,Nat.add_sub_cancel_left];exact hu)
   rw[Nat.add_assoc];exact this
end
theorem Zh.get{w:World}{P:Nat->Prop}:∀(l:List Rr) (vs:List Value),Zh w P l vs->∀(j:Nat) (hj:j<l.length),∃c,RqR w P l[j] c/\∀i u,c[i]? =some u->vs[j*10+i]? =some u
 |[],_,_,j,hj=>by simp at hj
 |x::r,vs,h,0,_=>by
  rw[Zh]at h;obtain⟨c,rest,rfl,h2,_⟩:=h;refine⟨c,h2,fun i u hu=> ?_⟩;have hi:i<c.length:=by
   rcases Nat.lt_or_ge i c.length with h|h
   ·exact h
   ·rw[List.getElem?_eq_none h]at hu;cases hu
  rw[Nat.zero_mul,Nat.zero_add,List.getElem?_append_left hi];exact hu
 |x::r,vs,h,j+1,hj=>by
  rw[Zh]at h;obtain⟨c,rest,rfl,h2,h3⟩:=h;obtain⟨c',h4,h5⟩:=Zh.get r rest h3 j (by simpa using hj);have hc:=h2.len;refine⟨c',h4,fun i u hu=> ?_⟩;rw[List.getElem?_append_right (by omega),hc,show(j+1)*10+i-10=j*10+i by omega];exact h5 i u hu
theorem Zh.is{w:World}{base n:Nat}{P:Nat->Prop}{a:Value}{xs:List Value}{rs:List Rr}(ho:w.ownsRow base 46 10 a n xs)(hn:n=rs.length)(h:Zh w P rs xs):∃so cap,a=.slice so n cap/\Qy w w.heap.size so n rs:=by
 obtain⟨hx,⟨h1,h0⟩|⟨g,cap,cur,e1,hg1,hg2,hc1,hc2,hc3,ht⟩⟩:=ho
 ·exact⟨none,0,by rw[h1,h0],hn,by rw[h0];unfold maxLen;omega,fun j hj=>by omega⟩
 ·refine⟨some ⟨g,0,none⟩,cap,e1,hn,by omega,fun j hj=>⟨g,0,rfl,Qz hg2,?_⟩⟩
  obtain⟨c,⟨c1,rfl,h2⟩,h3⟩:=Zh.get rs xs h j hj;have rt:=h2.is;obtain⟨k,T,a,b,c,d,so,n1,cap1,p,rfl⟩:=rt.shape;have hcell:∀i u,(Value.string rs[j].1::(r8 k T a b c d so n1 cap1 p++[.int .i64 rs[j].2.2]))[i]? =some u->w.cell? ⟨g,0+j*10+i,none⟩=some u:=fun i u hu=>by
   have h4:=h3 i u hu;rw[<-ht]at h4;have hlt:j*10+i<n*10:=by
    rcases Nat.lt_or_ge (j*10+i) (n*10)with h|h
    ·exact h
    ·rw[List.getElem?_eq_none (by rw[List.length_take];omega)]at h4;cases h4
   rw[List.getElem?_take_of_lt hlt]at h4;have h5:cur[j*10+i]? =some u:=by simpa using h4
   rw[Nat.zero_add];simp[World.cell?,hg2,h5]
  exact⟨k,T,a,b,c,d,so,n1,cap1,p,rt,hcell 0 _ rfl,hcell 1 _ rfl,hcell 2 _ rfl,hcell 3 _ rfl,hcell 4 _ rfl,hcell 5 _ rfl,hcell 6 _ rfl,hcell 7 _ rfl,hcell 8 _ rfl,hcell 9 _ rfl⟩
theorem Dz{base e size i:Nat}{xs:List Value}{o:Obj}(h:w.ownsRow base e size v n xs)(ho:w.heap[i]? =some o)(hne:∀cur,o≠.cells cur e (0,0)):v.ownBlock≠some i:=by
 obtain⟨_,⟨h1,_⟩|⟨g,cap,cur,rfl,_,hg,_⟩⟩:=h
 ·subst h1;simp[Value.ownBlock]
 ·intro e2
  simp[Value.ownBlock]at e2;subst e2;rw[hg]at ho;cases ho;exact hne cur rfl
theorem y1s(N:ByteArray)(a:Int)(T:ByteArray)(c0 c1 c2 c3:Int)(so:Option Addr)(sl sc:Nat)(p q:Int):∀u∈[Value.string N,Value.int .i64 a,.string T,.int .u64 c0,.int .u64 c1,.int .u64 c2,.int .u64 c3,.slice so sl sc,.int .i64 p,.int .i64 q],u.oneCell'=true:=Om N a T c0 c1 c2 c3 so sl sc p q
end Go.Proofs.YtgmcjddjdidpjabGreatDoor
