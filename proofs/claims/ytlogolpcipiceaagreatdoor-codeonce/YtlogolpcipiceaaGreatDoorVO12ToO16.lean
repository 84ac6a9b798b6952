/- Lemmas for the last text. Conditions: those that each names. -/
import Derived.Test.YtlogolpcipiceaaGreatDoorVO6ToS3
import Derived.Test.YtlogolpcipiceaaGreatDoorVW4ToS9
import Derived.Test.YtlogolpcipiceaaGreatDoorVX10ToY2
set_option linter.unusedVariables false
set_option maxRecDepth 100000
set_option maxHeartbeats 8000000
namespace Go.Proofs.YtlogolpcipiceaaGreatDoor
open Go.Proofs.Tryz
open Go.RowKit Go.Shelf
variable {v:Value} {W:World} {x:Int}
theorem Sx{M:ByteArray}(h:nmS M=true):1<=M.size:=by
 rcases Nat.lt_or_ge 0 M.size with h1|h1
 ·exact h1
 ·have e:M={data:=#[]}:=by
   apply ByteArray.ext;apply Array.ext';exact List.eq_nil_of_length_eq_zero (by have:M.data.size=M.size:=rfl;rw[Array.length_toList];omega)
  subst e
  revert h
  decide+kernel
theorem Dv(over:Nat)(n:Nd):sz (pN qT cT n)<=sz (pP qT cT over n):=by
 unfold pP;split
 ·rw[sz,Xl];omega
 ·exact Nat.le_refl _
mutual
theorem Sj:∀(t:RT) (n:Nd),Tq t n->Vk n->Wf Nmq n->(rfT t).length<=sz (pN qT cT n)
 | .mk k T a b c d s p,.mk kd T' C s' p',hq,hv,hw=>by
   rw[Tq]at hq;obtain⟨hk,hT,_,_,_,_,hs⟩:=hq;rw[Wf]at hw;rw[Vk]at hv;rw[rfT];by_cases h5:kd=5
   ·rw[if_pos (by omega)]
    have h1:1<=T'.size:=Sx (hw.2.1 h5);rw[h5,pN];simp[sz];exact h1
   ·rw[if_neg (by omega)]
    have hB:∀over sep,(rfL s).length<=sz (pS qT cT over sep s'):=fun over sep=>by
     cases s with
     |nil=>rw[rfL];exact Nat.zero_le _
     |cons t r=>
      cases s' with
      |nil=>simp[TqL]at hs
      |cons n q=>
       rw[TqL]at hs;have hvl:=hv.2;rw[VkL]at hvl;have hwl:=hw.2.2.2;rw[WfL]at hwl;have i1:=Sj t n hs.1 hvl.1 hwl.1;have i2:=z2U r q over sep hs.2 hvl.2 hwl.2;have i3:=Dv over n;rw[rfL,List.length_append,Fd,Xl];omega
    have h0:kd<=4->(rfL s).length=0:=fun h=>by
     have e:s'=[]:=by
      rcases hv.1 with h1|h1|h1|h1|h1|h1|h1
      ·exact h1.2.2.2
      ·exact h1.2.2
      ·exact h1.2.2
      ·exact h1.2.2.2
      ·omega
      ·omega
      ·omega
     have:=hB 0 bE;rw[e,pS,sz]at this;omega
    rw[pN]
    repeat' split
    all_goals first
     |(rw[h0 (by omega)];exact Nat.zero_le _)
     |exact hB _ _
     |(rw[sz];exact Nat.le_trans (hB _ _) (Nat.le_add_left _ _))
     |(rw[Xl];exact Nat.le_trans (hB _ _) (Nat.le_add_right _ _))
     |omega
theorem z2U:∀(s:List RT) (q:List Nd) (over:Nat) (sep:ByteArray),TqL s q->VkL q->WfL Nmq q->(rfL s).length<=sz (pB qT cT over sep q)
 |[],_,_,_,_,_,_=>by rw[rfL];exact Nat.zero_le _
 |t::r,[],_,_,h,_,_=>by simp[TqL]at h
 |t::r,n::q,over,sep,h,hv,hw=>by
  rw[TqL]at h;rw[VkL]at hv;rw[WfL]at hw;have i1:=Sj t n h.1 hv.1 hw.1;have i2:=z2U r q over sep h.2 hv.2 hw.2;have i3:=Dv over n;rw[rfL,List.length_append,Fm,sz,Xl];omega
end
theorem Ef:∀{rs:List Rr} {ns:List Rl},TqR rs ns->(∀x∈ns,Ruk Nmq x)->∀x∈rs,(rfT x.2.1).length<=sz (pR qT cT ns)
 |[],_,_,_,x,hx=>by simp at hx
 |a::r,[],h,_,_,_=>by simp[TqR]at h
 |a::r,b::q,h,hk,x,hx=>by
  rw[TqR]at h;rw[pR,sz,sz,Xl,sz];rcases List.mem_cons.1 hx with rfl|hx
  ·have hb:=hk b (by simp)
   have:=Sj _ _ h.2.1 hb.2.1 hb.2.2;omega
  ·have:=Ef h.2.2 (fun y hy=>hk y (List.mem_cons_of_mem _ hy)) x hx
   omega
theorem Eg(so:Option Addr)(n cap:Nat)(A E:Value)(w:World)
  (HP:Hid (∀W:World,Below w.heap.size w W->Calls prog 239 #[.agg #[.slice so n cap]] W fun e w'=>e=.returned (.tuple #[A,E])/\Below W.heap.size W w')):
  Calls prog 233 #[.agg #[.slice so n cap]] w fun e w'=>e=.returned E/\Below w.heap.size w w':=by
 have HB1:Hid (Below w.heap.size w (w.alloc (.cells #[.slice so n cap] 24))):=(Below.refl _ w).alloc L0q _;go_enter func233,ntmps233
 go_wp2_with(first|(go_at_call 239;refine(HP.out _ HB1.out).mono ?_;rintro e wq ⟨rfl,hbq⟩;have HBq:Hid (Below w.heap.size w wq):=HB1.out.trans (hbq.mono HB1.out.size)))
 go_ret;exact⟨rfl,HBq.out⟩
def RtA(rs:List Rr)(E:Value):Prop:=(∃c:Int,(c=2∨c=20)/\E=.iface 36 (.int .i64 c))∨(E=.nilIface/\okG rs=true/\∀x∈rs,(rfT x.2.1).length<=8192)
open Go.Maps
attribute [local go_sem] Oper.semAt_some
theorem z9N(so:Option Addr)(n cap:Nat)(c:Int)(w:World)
  (HP:Hid (∀W:World,Below w.heap.size w W->Calls prog 233 #[.agg #[.slice so n cap]] W fun e w'=>e=.returned (.iface 36 (.int .i64 c))/\Below W.heap.size W w'))(m:Nat):
  CallsIn Fence.wide (m+5) prog 199 #[.agg #[.slice so n cap]] w fun e w'=>e=.returned (.tuple #[.map none,.iface 36 (.int .i64 c)])/\Below w.heap.size w w':=by
 obtain⟨W0,hW0⟩:∃W0,W0=((w.alloc (.cells #[.slice so n cap] 24)).alloc (.cells #[.map none] 300)).alloc (.cells #[.nilIface] 33):=⟨_,rfl⟩;have hB0:Below w.heap.size w W0:=by rw[hW0];exact(((Below.refl _ w).alloc L0q _).alloc (by simp) _).alloc (by simp;omega) _
 have c2:W0.heap[w.heap.size+1]? =some (.cells #[.map none] 300):=by
  rw[hW0];exact(Below.heap_alloc _ _ _ (by simp)).trans (Qx _ _ (by simp))
 have c3:W0.heap[w.heap.size+1+1]? =some (.cells #[.nilIface] 33):=by
  rw[hW0];exact Qx _ _ (by simp)
 have hs0:W0.heap.size=w.heap.size+1+1+1:=by rw[hW0];simp
 have HP0:=hid (HP.out W0 hB0);refine callsIn_of_wp_marks func199 rfl trivial ?_ rfl;simp only[ntmps199,List.size_toArray,List.length_cons,List.length_nil,Nat.reduceAdd,Nat.reduceSub,Array.replicate_succ,Array.replicate_zero,List.push_toArray,List.append_toArray,List.nil_append,List.cons_append]
 gi_wp2
 rw[<-hW0];clear hW0;refine⟨trivial,?_⟩;refine(callsIn_wide.2 HP0.out).mono ?_;rintro e W1 ⟨rfl,hb1⟩;have d2:=(hb1.block _ (by omega)).trans c2;have d3:=(hb1.block _ (by omega)).trans c3;have hs1:=hb1.size;have HBw:Hid (Below w.heap.size w W1):=hB0.trans (hb1.mono hB0.size);obtain⟨x2,e2⟩:=Qk d2;obtain⟨x3,e3⟩:=Qk d3;have l2:=Qz d2;have l3:=Qz d3;clear HP0 HP c2 c3
 gi_wp2
 have b2:Boxed W1 (w.heap.size+1) 300 (.map none):=d2;have b3:Boxed W1 (w.heap.size+1+1) 33 .nilIface:=d3;have y1:=((b2.set (.map none)).other (B':=w.heap.size+1+1) (by omega) (.iface 36 (.int .i64 c))).cell;have y2:=((b3.other (B':=w.heap.size+1) (by omega) (.map none)).set (.iface 36 (.int .i64 c))).cell;refine⟨.tuple #[.map none,.iface 36 (.int .i64 c)],by simp[results,Tryz.f199,go_sem,y1,y2],rfl,?_⟩;exact(HBw.out.setCell (p:=⟨w.heap.size+1,0,none⟩) (by show w.heap.size<=_+1;omega) _).setCell (p:=⟨w.heap.size+1+1,0,none⟩) (by show w.heap.size<=_+1+1;omega) _
def Zv(X:Option (Int ⊕ (Int×Int)))(S:Nat)(w':World)(v:Value):Prop:=match X with
 |none=>v=.nilIface
 |some (.inl c)=>v=.iface 36 (.int .i64 c)
 |some (.inr q)=>∃g,v=.iface 95 (.pointer (some ⟨g,0,none⟩))/\S<=g/\w'.heap[g]? =some (.cells #[.int .i64 q.1,.int .i64 q.2] 98)
def CkX(rs:List Rr)(X:Option (Int ⊕ (Int×Int))):Prop:=match X with
 |none=>okG rs=true/\ckR rs=none/\∀x∈rs,(rfT x.2.1).length<=8192
 |some (.inl c)=>c=2∨c=20
 |some (.inr q)=>okG rs=true/\ckR rs=some q
theorem Zv.shape{X:Option (Int ⊕ (Int×Int))}{S:Nat}{w':World}(h:Zv X S w' v)(hX:X≠none):∃t u,v=.iface t u:=by
 match X,hX with
 |some (.inl c),_=>exact⟨_,_,h⟩
 |some (.inr q),_=>
  obtain⟨g,h1,_⟩:=h;exact⟨_,_,h1⟩
mutual
theorem Qj.upto{w:World}{B B':Nat}(hB:B<=B'):∀(t:RT) (cs:List Value),Qj w B t cs->Qj w B' t cs
 | .mk k T a b c d s p,cs,ht=>by
   rw[Qj]at ht ⊢;obtain⟨so,cap,rfl,ht⟩:=ht;refine⟨so,cap,rfl,?_⟩;rcases ht with h1|⟨h1,g,o,h2,h3,h4,h5⟩
   ·exact .inl h1
   ·exact .inr ⟨h1,g,o,h2,by omega,h4,Ql.upto hB s g o h5⟩
theorem Ql.upto{w:World}{B B':Nat}(hB:B<=B'):∀(s:List RT) (g o:Nat),Ql w B g o s->Ql w B' g o s
 |[],g,o,_=>by rw[Ql];trivial
 |t::r,g,o,ht=>by
  rw[Ql]at ht ⊢;obtain⟨⟨cs,h1,h2⟩,h3⟩:=ht;exact⟨⟨cs,Qj.upto hB t cs h1,h2⟩,Ql.upto hB r g _ h3⟩
end
theorem Qv.upto{w:World}{B B' n:Nat}{so:Option Addr}{rs:List Rr}(h:Qv w B so n rs)(hB:B<=B'):Qv w B' so n rs:=
 ⟨h.1,h.2.1,fun j hj=>by
   obtain⟨g,o,h1,h2,k,T,a,b,c,d,s',n',cap,p,h3,h4⟩:=h.2.2 j hj;exact⟨g,o,h1,by omega,k,T,a,b,c,d,s',n',cap,p,Qj.upto hB _ _ h3,h4⟩⟩
theorem Zv.lo{X:Option (Int ⊕ (Int×Int))}{S S':Nat}{w':World}(h:Zv X S w' v)(hS:S'<=S):Zv X S' w' v:=by
 match X with
 |none=>exact h
 |some (.inl c)=>exact h
 |some (.inr q)=>
  obtain⟨g,h1,h2,h3⟩:=h;exact⟨g,h1,by omega,h3⟩
theorem z2V(so:Option Addr)(n cap:Nat)(rs:List Rr)(X:Option (Int ⊕ (Int×Int)))(W:World)
  (HC:Hid (∀W':World,Below W.heap.size W W'->Calls prog 199 #[.agg #[.slice so n cap]] W' fun e w'=>∃m v,e=.returned (.tuple #[m,v])/\Zv X W'.heap.size w' v/\(X=none->∃M,m=.map (some M)/\W'.heap.size<=M/\Pm w' M (nmL rs))/\(X≠none->m=.map none)/\Below W'.heap.size W' w')):
  Calls prog 167 #[.agg #[.slice so n cap]] W fun e w'=>∃v,e=.returned v/\Zv X W.heap.size w' v/\Below W.heap.size W w':=by
 have HB1:Hid (Below W.heap.size W (W.alloc (.cells #[.slice so n cap] 24))):=(Below.refl _ W).alloc L0q _;have HB0:Hid (Below W.heap.size W W):=Below.refl _ W;go_enter func167,ntmps167
 go_wp2_with fail
 first
  |(refine(HC.out _ HB1.out).mono ?_;rintro e w1 ⟨m,v,rfl,h1,-,-,h2⟩;have h3:=HB1.out.trans (h2.mono HB1.out.size);have h4:=h1.lo (S':=W.heap.size) HB1.out.size)
  |(refine(HC.out _ HB0.out).mono ?_;rintro e w1 ⟨m,v,rfl,h1,-,-,h2⟩;have h3:=h2;have h4:=h1)
 clear HC HB1 HB0 h1 h2;have H3:=hid h3;have H4:=hid h4;clear h3 h4
 go_wp2_with fail
 go_ret;exact⟨_,rfl,H4.out,H3.out⟩
theorem z9O{s:Nat}{u:List Int}(h:W.ownsRow s 3 1 v u.length (u.map (Value.int .i64)))(hl:u.length<=1048576):Dj W W.heap.size v u:=by
 rcases h.2 with⟨rfl,h0⟩|⟨g,cap,cur,rfl,h1,h2,h3,h4,h5,h6⟩
 ·cases u with
  |nil=>exact⟨none,0,rfl,hl,fun j hj=>by simp at hj⟩
  |cons _ _=>simp at h0
 ·refine⟨_,cap,rfl,hl,fun j hj=>⟨g,0,rfl,(Array.getElem?_eq_some_iff.1 h2).1,?_⟩⟩
  refine(Zc h2 (0+j) _ ?_).1;have e:(cur.toList.take (u.length*1))[j]? =(u.map (Value.int .i64))[j]? :=by rw[h6]
  rw[List.getElem?_take_of_lt (by omega)]at e;rw[Nat.zero_add,<-Array.getElem?_toList,e];simp[hj]
theorem z9P{w:World}{ub n:Nat}{vs:List Value}{us:List (List Int)}(h:Uw w ub n vs us W)(hn:vs.length=n)(hl:∀u∈us,u.length<=1048576)(hn2:n<=1048576):UsM W W.heap.size (.slice (some ⟨ub,0,none⟩) n n) us:=by
 have hu:us.length=n:=by rw[<-h.len];exact hn
 refine⟨_,n,by rw[hu],by omega,fun i hi=>⟨ub,0,vs[i]'(by rw[h.len];exact hi),rfl,Qz h.blk,?_,z9O (h.row i (by rw[h.len];exact hi) hi) (hl _ (List.getElem_mem hi))⟩⟩;refine(Zc h.blk (0+i) _ ?_).1;have hv:i<vs.length:=by rw[h.len];exact hi
 rw[Nat.zero_add,List.getElem?_toArray,List.getElem?_append_left hv,List.getElem?_eq_getElem hv]
theorem Sk{zs:List Int}(h:x∈Lib.compact zs):x∈zs:=by
 unfold Lib.compact Lib.compactUpTo at h;obtain⟨i,hi,rfl⟩:=List.mem_map.1 h;have hi2:i<zs.length:=List.mem_range.1 (List.mem_filter.1 hi).1;rw[getElem!_pos _ i (by simpa using hi2)];simp
theorem z9Q{l:List ByteArray}{y:Rr}(hl:1<=l.length)(h:x∈usR l y):∃m:Nat,m<l.length/\x=(m:Int):=by
 have h1:x∈ixL l (rfT y.2.1):=(Mf _).mem_iff.1 (Sk h);obtain⟨q,_,rfl⟩:=List.mem_map.1 h1;refine⟨ixV l q.1,?_,rfl⟩;unfold ixV;cases hin:inN q.1 l with
 |true=>exact Cp _ _ hin
 |false=>exact hl
theorem Jb{rs:List Rr}(h:okG rs=true):1<=rs.length/\rs.length<=64:=by
 unfold okG at h;simp only[Bool.and_eq_true,decide_eq_true_eq]at h;exact⟨h.1,h.2.1⟩
@[reducible] def CkC (so:Option Addr) (n cap:Nat) (rs:List Rr) (X:Option (Int ⊕ (Int×Int))) (W:World):Prop:=∀W':World,Below W.heap.size W W'->Calls prog 199 #[.agg #[.slice so n cap]] W' fun e w'=>∃m v,e=.returned (.tuple #[m,v])/\Zv X W'.heap.size w' v/\(X=none->∃M,m=.map (some M)/\W'.heap.size<=M/\Pm w' M (nmL rs))/\(X≠none->m=.map none)/\Below W'.heap.size W' w'
theorem CkC.from{so:Option Addr}{n cap:Nat}{rs:List Rr}{X:Option (Int ⊕ (Int×Int))}{W':World}(h:CkC so n cap rs X W)(hW:Below W.heap.size W W'):CkC so n cap rs X W':=fun W2 h2=>h W2 (hW.trans (h2.mono hW.size))
open Go.Extern.Stop Go.Stop Go.Extern
def xOf(rs:List Rr):Option (Int ⊕ (Int×Int)):=(ckR rs).map .inr
theorem Sv(so:Option Addr)(n cap:Nat)(rs:List Rr)(B:Nat)(w:World)(hz:RgZ rs)(h:Qv w B so n rs)(hB:B<=w.heap.size)(hTg:5<w.heap.size)(hok:okG rs=true)(hl:∀x∈rs,(rfT x.2.1).length<=8192)
  (hR:∀W:World,Below w.heap.size w W->Calls prog 233 #[.agg #[.slice so n cap]] W fun e w'=>e=.returned .nilIface/\Below W.heap.size W w'):CkX rs (xOf rs)/\CkC so n cap rs (xOf rs) w:=by
 have hC:∀W:World,Below w.heap.size w W->Calls prog 199 #[.agg #[.slice so n cap]] W (CkP W rs):=fun W hW=>callsIn_wide.1 (z9q so n cap rs W ((h.below (hW.mono hB)).upto (Nat.le_trans hB hW.size)) (by have:=hW.size;omega) (hid hz) (hid fun W' hW'=>hR W' (hW.trans (hW'.mono hW.size))) 0)
 unfold xOf;cases hk:ckR rs with
 |none=>
  refine⟨⟨hok,hk,hl⟩,fun W hW=>(hC W hW).mono fun e w' he=> ?_⟩;obtain⟨hb,⟨c,p,g,h1,_⟩|⟨M,_,h2,h3,h4⟩⟩:=he
  ·rw[hk]at h1;cases h1
  ·exact⟨_,_,h2,rfl,fun _=>⟨M,rfl,h3,h4⟩,fun h=>absurd rfl h,hb⟩
 |some q=>
  refine⟨⟨hok,hk⟩,fun W hW=>(hC W hW).mono fun e w' he=> ?_⟩;obtain⟨hb,⟨c,p,g,h1,h2,h3,h4⟩|⟨M,h1,_⟩⟩:=he
  ·rw[hk]at h1
   cases h1;exact⟨_,_,h2,⟨g,rfl,h3,h4⟩,(fun h=>by cases h),fun _=>rfl,hb⟩
  ·rw[hk]at h1;cases h1
theorem z9R{S:ByteArray}{rs:List Rl}(hS:S.size<=8192)(hp:Vj S=.inr rs)(h1:sz (pR qT cT rs)<=8192)(h2:dR rs<=24)(B g n cap:Nat)(W:World)(hr:RoR B (.slice (some ⟨g,0,none⟩) n cap) rs W)(hT:TabIs W):
  Qv W W.heap.size (some ⟨g,0,none⟩) n (toG rs)/\RgZ (toG rs)/\CkX (toG rs) (xOf (toG rs))/\CkC (some ⟨g,0,none⟩) n cap (toG rs) (xOf (toG rs)) W:=by
 have hx:∀x∈rs,Ruk Nmq x:=fun x hx=>(Px hp x hx).1
 have hl:=Rm hp;have hi:=z2M hr (Rp (z2L hS hp)) hl.1;have hz:=(Ej (Jl rs) hx).2;have hT':=hT.lt;refine⟨hi,hz,Sv _ n cap (toG rs) W.heap.size W hz hi L0q hT' (Sz (Jl rs) hx hl.2 hl.1) (fun x hx'=>Nat.le_trans (Ef (Jl rs) hx x hx') h1) fun W' hW'=>Eg _ n cap (.string (cat (pR qT cT rs))) _ W' (hid fun W2 hW2=> ?_)⟩;have hb:Below W.heap.size W W2:=hW'.trans (hW2.mono hW'.size);have:=z9I hS hp B g n cap W2 (hr.below hb) (hT.below hb hT.lt);rw[Mk h1 h2]at this;exact this
theorem z2W(zs:List Int):∀(i:Nat) (hi:i<zs.length),zs[i]∈Lib.compact zs
 |0,hi=>by
  unfold Lib.compact Lib.compactUpTo;refine List.mem_map.2 ⟨0,List.mem_filter.2 ⟨List.mem_range.2 hi,Lib.keeps_lt_one _ 0 (by omega)⟩,?_⟩;rw[getElem!_pos _ 0 (by simpa using hi)];simp
 |i+1,hi=>by
  by_cases hk:Lib.keeps zs.toArray (i+1)=true
  ·unfold Lib.compact Lib.compactUpTo
   refine List.mem_map.2 ⟨i+1,List.mem_filter.2 ⟨List.mem_range.2 hi,hk⟩,?_⟩;rw[getElem!_pos _ (i+1) (by simpa using hi)];simp
  ·have e:zs.toArray[i+1]! =zs.toArray[i]! :=Classical.byContradiction fun hne=>hk (Lib.keeps_pos (by simpa using hne))
   rw[getElem!_pos _ (i+1) (by simpa using hi),getElem!_pos _ i (by simp;omega)]at e;have e':zs[i+1]=zs[i]:=by simpa using e
   rw[e'];exact z2W zs i (by omega)
theorem z2X{zs:List Int}(h:x∈zs):x∈Lib.compact zs:=by
 obtain⟨i,hi,rfl⟩:=List.getElem_of_mem h;exact z2W zs i hi
theorem z9S{l:List ByteArray}{y:Rr}:x∈usR l y↔x∈ixL l (rfT y.2.1):=⟨fun h=>(Mf _).mem_iff.1 (Sk h),fun h=>z2X ((Mf _).mem_iff.2 h)⟩
end Go.Proofs.YtlogolpcipiceaaGreatDoor
