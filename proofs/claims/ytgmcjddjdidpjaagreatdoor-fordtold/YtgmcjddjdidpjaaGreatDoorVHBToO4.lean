/- Lemmas for the last text. Conditions: those that each names. -/
import Derived.Test.YtgmcjddjdidpjaaGreatDoorVS1ToHA
import Derived.Test.YtgmcjddjdidpjaaGreatDoorVS2ToS9
import Derived.Test.YtgmcjddjdidpjaaGreatDoorVKPlainToKG2
import Derived.Maps.OwnIn
import Derived.Maps.Own
import Derived.Maps.OwnOps
import Derived.Maps.OwnSet
import Derived.BigRegionIn
set_option linter.unusedVariables false
set_option maxRecDepth 100000
set_option maxHeartbeats 8000000
namespace Go.Proofs.YtgmcjddjdidpjaaGreatDoor
open Go.Proofs.Tryz
section
open Go.RowKit Go.Shelf
def Jf(T:ByteArray)(x:Ah)(i:Nat):Prop:=(∀c:UInt8,T.data[i]? =some c->x.1.testBit c.toNat=true)/\(T.size<=i->x.2=true)
theorem z4o{T:ByteArray}{x y:Ah}{i:Nat}(h:Jf T x i)(l:leA x y):Jf T y i:=⟨fun c hc=>l.1 _ (h.1 c hc),fun e=>l.2 (h.2 e)⟩
theorem z4p(c:UInt8):Qj.testBit c.toNat=true:=by
 unfold Qj;rw[Nat.testBit_two_pow_sub_one];exact decide_eq_true (c.toNat_lt)
theorem Aq(T:ByteArray)(i:Nat):Jf T Xx i:=⟨fun c _=>z4p c,fun _=>rfl⟩
theorem y1k(x y:Ah):leA x (orA x y):=⟨fun i hi=>by unfold orA;rw[Nat.testBit_or,hi];rfl,fun e=>by unfold orA;rw[e];rfl⟩
theorem y1l(x y:Ah):leA y (orA x y):=⟨fun i hi=>by unfold orA;rw[Nat.testBit_or,hi,Bool.or_true],fun e=>by unfold orA;rw[e,Bool.or_true]⟩
theorem z4q(K:ByteArray->Ot)(F:ByteArray->Ah):∀(s:List RT) (x:Ah),leA x (afA K F x s)
 |[],x=>by rw[afA];exact Ul x
 |t::r,x=>by rw[afA];exact Lx (y1k x _) (z4q K F r _)
section
variable {B:ByteArray->Option RT} {T:ByteArray} {K:ByteArray->Ot} {F:ByteArray->Ah}
def Frj(T:ByteArray)(K:ByteArray->Ot)(F:ByteArray->Ah):Jb->Nat->Option Nat->Prop
 | .one t,i,e=>RtU t->i<=T.size->e≠none->Jf T (afT K F t) i
 | .row s,i,e=>Xq s->i<=T.size->e≠none->∀(acc:Ah) (on:Bool) (i0:Nat),i0<=i->(on=true->i=i0)->Jf T acc i0->Jf T (afS K F on acc s) i0
 | .alt s,i,e=>Xq s->i<=T.size->e≠none->∀acc:Ah,Jf T (afA K F acc s) i
 | .rep t,i,e=>True
theorem y1m{N T:ByteArray}{i:Nat}(h:Gd N T i=true)(h0:N.size≠0):∃c:UInt8,T.data[i]? =some c/\N.data[0]? =some c:=by
 rw[Cm]at h;obtain⟨r,hr⟩:=List.isPrefixOf_iff_prefix.1 h;cases hN:N.data.toList with
 |nil=>exact absurd (by have:N.data.toList.length=0:=by rw[hN];rfl
                        exact this) h0
 |cons c l=>
  refine⟨c,?_,?_⟩
  ·have h1:(T.data.toList.drop i)[0]? =some c:=by rw[<-hr,hN];rfl
   rw[List.getElem?_drop]at h1;simpa using h1
  ·have h1:N.data.toList[0]? =some c:=by rw[hN];rfl
   simpa using h1
theorem z4r{C:Nat}{T:ByteArray}{i:Nat}(h:Yw C T i=true):∃c:UInt8,T.data[i]? =some c/\C.testBit c.toNat=true:=by
 unfold Yw at h;cases hc:T.data[i]? with
 |none=>rw[hc]at h;cases h
 |some c=>rw[hc]at h;exact⟨c,rfl,h⟩
theorem z0l{x:Ah}{i:Nat}{c:UInt8}(h:T.data[i]? =some c)(hx:x.1.testBit c.toNat=true):Jf T x i:=⟨fun c' h'=>by rw[h]at h';cases h';exact hx,fun e=>by
 have:T.data.size<=i:=e;rw[Array.getElem?_eq_none this]at h;cases h⟩
theorem z0m{b:Bool}{m:Nat}(h:Yj b m≠none):b=true:=by
 cases b with
 |true=>rfl
 |false=>exact absurd rfl h
theorem y1n(c:Nat):(2^c).testBit c=true:=Nat.testBit_two_pow_self
theorem y1o{N T:ByteArray}{i:Nat}{c:UInt8}(h1:N.size=1)(hc:T.data[i]? =some c)(h:N.data[0]? =some c):Gd N T i=true:=by
 rw[Cm];have hN:N.data.toList=[c]:=by
  have hl:N.data.toList.length=1:=h1
  match hm:N.data.toList with
  |[]=>rw[hm]at hl;cases hl
  |[x]=>
   have:N.data.toList[0]? =some c:=by simpa using h
   rw[hm]at this;cases this;rfl
  |_::_::_=>rw[hm]at hl;simp at hl
 rw[hN];refine List.isPrefixOf_iff_prefix.2 ⟨T.data.toList.drop (i+1),?_⟩;have hi:i<T.data.toList.length:=by
  rcases Nat.lt_or_ge i T.data.size with h'|h'
  ·simpa using h'
  ·rw[Array.getElem?_eq_none h']at hc;cases hc
 have he:T.data.toList[i]=c:=by
  have:=(Array.getElem?_eq_some_iff.1 hc).2;simpa using this
 rw[<-he];exact(List.drop_eq_getElem_cons hi).symm
theorem y1p(t:RT)(hu:RtU t)(h1:Dl t=true){i n:Nat}(h:Mt B T (.one t) i none n):Jf T (Zj (afT K F t).1,true) i:=by
 refine⟨fun c hc=> ?_,fun _=>rfl⟩;obtain⟨k,N,a,b,cc,d,s,p⟩:=t;rw[RtU]at hu;have hC:cl4 a b cc d<2^256:=Pk _ _ _ _ (by omega) (by omega) (by omega) (by omega);unfold Dl rtK rtT at h1;simp only[Bool.or_eq_true,Bool.and_eq_true,decide_eq_true_eq]at h1;rw[afT];have h8:c.toNat<256:=c.toNat_lt;rcases h1 with⟨rfl,hz⟩|rfl|rfl
 ·generalize he:(none:Option Nat)=e at h
  cases h with
  |lit=>
   have hb:Gd N T i=false:=by
    cases hb:Gd N T i with
    |false=>rfl
    |true=>rw[hb]at he;cases he
   have hz':¬N.size=0:=by omega
   simp only[if_neg hz',if_true];cases h0:N.data[0]? with
   |none=>
    have:N.data.size<=0:=Array.getElem?_eq_none_iff.1 h0;exact absurd (show N.size=0 by have:N.data.size=N.size:=rfl;omega) hz'
   |some x=>
    have hx:x.toNat<256:=x.toNat_lt;simp only[Option.map_some,Option.getD_some];rw[Ag _ (Nat.pow_lt_pow_right (by decide) hx)];have hne:x≠c:=fun e=>by
     rw[e]at h0;rw[y1o hz hc h0]at hb;cases hb
    have hne':x.toNat≠c.toNat:=fun e=>hne (UInt8.toNat_inj.1 e)
    rw[Nat.testBit_two_pow_of_ne hne'];simp[h8]
 ·generalize he:(none:Option Nat)=e at h
  cases h with
  |set=>
   have hb:Yw (cl4 a b cc d) T i=false:=by
    cases hb:Yw (cl4 a b cc d) T i with
    |false=>rfl
    |true=>rw[hb]at he;cases he
   unfold Yw at hb;rw[hc]at hb;simp only at hb;simp only[show ¬((3:Int)=2) by decide,if_false,show ¬((3:Int)=1∨(3:Int)=8∨(3:Int)=9) by decide,if_true];rw[Ag _ hC,hb];simp[h8]
 ·generalize he:(none:Option Nat)=e at h
  cases h with
  |any=>
   exfalso;have hb:Yw Qj T i=true:=by unfold Yw;rw[hc];exact z4p c
   rw[hb]at he;cases he
theorem y1q(hB:∀N t,B N=some t->ofT K t=K N/\afT K F t=F N/\RtU t){j:Jb}{i:Nat}{e:Option Nat}{n:Nat}(h:Mt B T j i e n):Frj T K F j i e:=by
 have hB1:∀N t,B N=some t->ofT K t=K N:=fun N t h=>(hB N t h).1
 induction h with
 |emp=>intro _ _ _;rw[afT];exact Aq T _
 | @lit N a b c d s p i=>
   intro _ _ h;rw[afT];by_cases h0:N.size=0
   ·simp only[h0,if_true];exact Aq T _
   ·obtain⟨c,h1,h2⟩:=y1m (z0m h) h0
    simp only[if_neg h0,if_true];exact z0l h1 (by rw[h2];exact y1n _)
 | @set N a b c d s p i=>
   intro _ _ h;rw[afT];obtain⟨c,h1,h2⟩:=z4r (z0m h);exact z0l h1 h2
 | @any N a b c d s p i=>
   intro _ _ h;rw[afT];obtain⟨c,h1,h2⟩:=z4r (z0m h);exact z0l h1 h2
 |ref h1 _ ih=>
  intro _ hi he;obtain⟨_,h2,h3⟩:=hB _ _ h1;have:=ih h3 hi he;rw[h2]at this;rw[afT];exact this
 |seq _ ih=>
  intro hu hi he;rw[RtU]at hu;rw[afT];exact ih hu.2.2.2.2 hi he Xx true _ L0q (fun _=>rfl) (Aq T _)
 |cho _ ih=>
  intro hu hi he;rw[RtU]at hu;rw[afT];exact ih hu.2.2.2.2 hi he (0,false)
 |opt _ _=>intro _ _ _;rw[afT];exact Aq T _
 |star _ _=>intro _ _ _;rw[afT];exact Aq T _
 |plus_no _ _=>intro _ _ h;exact absurd rfl h
 |plus_ok _ _ ih1 _=>
  intro hu hi he;rw[RtU,Xq]at hu;rw[afT,afH];exact ih1 hu.2.2.2.2.1 hi (by simp)
 | @and N a b c d t r p i e n _ ih=>
   intro hu hi he;rw[RtU,Xq]at hu;rw[afT,afH];refine ih hu.2.2.2.2.1 hi ?_;cases e with
   |none=>exact absurd rfl he
   |some x=>simp
 | @not N a b c d t r p i e n h ih=>
   intro hu hi he;rw[RtU,Xq]at hu;rw[afT];show Jf T (afN K F (t::r)) i;rw[afN];by_cases h1:Dl t=true
   ·rw[if_pos h1]
    cases e with
    |none=>exact y1p t hu.2.2.2.2.1 h1 h
    |some x=>exact absurd rfl he
   ·rw[if_neg h1];exact Aq T _
 |row_nil=>
  intro _ _ _ acc on i0 _ _ ha;rw[afS];exact ha
 |row_no _ _=>intro _ _ h;exact absurd rfl h
 | @row_ok t r i x e n m h1 h2 ih1 ih2=>
   intro hu hi he acc on i0 h0 hon ha;rw[Xq]at hu;rw[afS];have hm:=ih1 hu.1 hi (by simp);obtain⟨l1,l2⟩:=Cp h1 hi x rfl;have ho:okO (ofT K t) i (some x):=z3P hB1 h1;refine ih2 hu.2 l2 he _ _ i0 (by omega) (fun hx=> ?_) ⟨fun c hc=> ?_,fun hz=> ?_⟩
   ·rw[Bool.and_eq_true,Bool.not_eq_true']at hx
    have h3:=hon hx.1;rcases Nat.lt_or_ge i x with h4|h4
    ·have:=ho.2.2 h4
     rw[hx.2]at this;cases this
    ·omega
   ·unfold Gz
    cases on with
    |false=>exact ha.1 c hc
    |true=>
     have h3:=hon rfl;subst h3;simp only[if_true,Nat.testBit_and,Bool.and_eq_true];exact⟨ha.1 c hc,hm.1 c hc⟩
   ·unfold Gz
    simp only[Bool.and_eq_true];exact⟨ha.2 hz,hm.2 (by omega)⟩
 |alt_nil=>intro _ _ h;exact absurd rfl h
 | @alt_ok t r i x n _ ih=>
   intro hu hi he acc;rw[Xq]at hu;rw[afA];exact z4o (z4o (ih hu.1 hi he) (y1l acc _)) (z4q K F r _)
 |alt_no _ _ _ ih2=>
  intro hu hi he acc;rw[Xq]at hu;rw[afA];exact ih2 hu.2 hi he _
 |rep_end _ _=>trivial
 |rep_go _ _ _ _=>trivial
end
end
open Go.RowKit
theorem y1r(n:Nat)(h:n<18446744073709551616):bits BinOp.and IntKind.u64 (n:Int) 1=((n%2:Nat):Int):=by
 have:=Go.bits_and_u64_nat n 1 h (by omega);rw[Nat.and_one_is_mod]at this;exact this
theorem y1s(C b:Nat)(hb:b<256):[Value.int IntKind.u64 (wd C 0:Nat),.int .u64 (wd C 1),.int .u64 (wd C 2),.int .u64 (wd C 3)][b/64]? =some (.int .u64 (wd C (b/64):Nat)):=by
 have:b/64=0∨b/64=1∨b/64=2∨b/64=3:=by omega
 rcases this with e|e|e|e<;>rw[e]<;>rfl
theorem z4s(C:Nat)(b:Nat)(w:World)(hx:b<256):
  Calls prog 36 #[cv C,.int .u8 b] w fun e w'=>e=.returned (.bool (C.testBit b))/\Below w.heap.size w w':=by
 have hc:=y1s C b hx;unfold cv;have hd:bits BinOp.and IntKind.u64 ((wd C (b/64):Int)/2^(b%64)) 1=((wd C (b/64)/2^(b%64)%2:Nat):Int):=by
  have:=y1r (wd C (b/64)/2^(b%64)) (Nat.lt_of_le_of_lt (Nat.div_le_self _ _) (Zp _ _));rw[<-this];congr 1
 have hT:((((wd C (b/64)/2^(b%64)%2:Nat):Int)) == 1)=C.testBit b:=by
  have e1:=Vq C (b/64) (b%64);rw[show 64*(b/64)+b%64=b by omega,Nat.testBit_eq_decide_div_mod_eq]at e1;simp only[show b%64<64 by omega,decide_true,Bool.true_and]at e1;rw[<-e1];rcases Nat.mod_two_eq_zero_or_one (wd C (b/64)/2^(b%64))with h|h<;>rw[h]<;>rfl
 go_enter func36,ntmps36
 go_wp2
 go_ret;exact⟨by rw[<-hT];rfl,B0q.alloc L0q _⟩
open Go.Shelf
theorem Qf{w:World}{g:Nat}{cur:Array Value}{t:TypeId}(h:w.heap[g]? =some (.cells cur t))(j:Nat)(v:Value)(hj:cur[j]? =some v):w.cell? ⟨g,j,none⟩=some v/\w.frozen? ⟨g,j,none⟩=false:=by
 constructor
 ·simp[World.cell?,h,hj]
 ·simp[World.frozen?,h]
theorem Qy{w:World}{g:Nat}{cur:Array Value}{t:TypeId}(h:w.heap[g]? =some (.cells cur t))(j:Nat)(v:Value):(w.setCell ⟨g,j,none⟩ v).heap[g]? =some (.cells (cur.setIfInBounds j v) t):=by
 obtain⟨hlt,hk⟩:=Array.getElem?_eq_some_iff.1 h;show(w.heap.modify g _)[g]? =_;rw[Array.getElem?_eq_getElem (by rw[Array.size_modify];exact hlt),Array.getElem_modify_self,hk];rfl
section
attribute [local go_sem] Oper.semAt_some
structure Nq where
 k:Int
 T:ByteArray
 a:Int
 b:Int
 c:Int
 d:Int
 so:Option Addr
 n:Nat
 cap:Nat
 p:Int
 z:T.size<=9223372036854775807
@[reducible] def Nq.v (x:Nq):Value:=.agg #[.int .i64 x.k,.string x.T,.int .u64 x.a,.int .u64 x.b,.int .u64 x.c,.int .u64 x.d,.slice x.so x.n x.cap,.int .i64 x.p]
def Nq.tp(x:Nq):ByteArray×Int:=(x.T,x.p)
def tps(q:List Nq):List (ByteArray×Int):=q.map Nq.tp
theorem z0n(a b:List Nq):tps (a++b)=tps a++tps b:=List.map_append
theorem y1t(a:List Nq):(tps a).length=a.length:=List.length_map _
mutual
def rfT:RT->List (ByteArray×Int)
 | .mk k T _ _ _ _ s p=>if k=5 then [(T,p)]else rfL s
def rfL:List RT->List (ByteArray×Int)
 |[]=>[]
 |t::r=>rfT t++rfL r
end
theorem z0o:∀(a b:List RT),rfL (a++b)=rfL a++rfL b
 |[],b=>by rw[List.nil_append,rfL,List.nil_append]
 |x::r,b=>by rw[List.cons_append,rfL,rfL,z0o r b,List.append_assoc]
theorem y1u(s:List RT)(j:Nat)(hj:j<s.length):rfL (s.take (j+1))=rfL (s.take j)++rfT s[j]:=by
 rw[show s.take (j+1)=s.take j++[s[j]] by simp,z0o,rfL,rfL,List.append_nil]
theorem y1v(s:List RT)(j:Nat):∃r,rfL s=rfL (s.take j)++r:=by
 refine⟨rfL (s.drop j),?_⟩;rw[<-z0o,List.take_append_drop]
structure Yr (s0 l N:Nat) (J Jx:List Nq->World->Prop):Prop where
 grow:∀s A B,J s A->A.grownBy B none->J s B
 call:∀m pre (x:Nq) W,J pre W->pre.length<N->YieldAt Fence.wide m prog l #[x.v] W fun e W'=>
  (e=.returned (.bool true)/\J (pre++[x]) W'/\Kt s0 W W')∨(e=.returned (.bool false)/\Jx (pre++[x]) W')
def Yq(s0:Nat)(J Jx:List Nq->World->Prop)(pre:List Nq)(ps:List (ByteArray×Int))(W:World)(e:Ending)(W':World):Prop:=
 (e=.returned (.bool true)/\(∃q,tps q=ps/\J (pre++q) W')/\Kt s0 W W')∨(e=.returned (.bool false)/\∃q,tps q<+:ps/\Jx (pre++q) W')
def YR(s0 l N:Nat)(J Jx:List Nq->World->Prop)(t:RT):Prop:=
 ∀(m:Nat) (cs:List Value) (pre:List Nq) (W:World),Qv W s0 t cs->RtZ t->J pre W->pre.length+(rfT t).length<=N->
  CallsIn Fence.wide m prog 141 #[.agg cs.toArray,.func (.yield l) #[] #[]] W (Yq s0 J Jx pre (rfT t) W)
section
variable {s0 l N:Nat} {J Jx:List Nq->World->Prop}
theorem Yr.alloc(h:Yr s0 l N J Jx){s:List Nq}{A:World}(hs:J s A)(o:Obj):J s (A.alloc o):=h.grow s A _ hs (World.grownBy_alloc A o none)
theorem y1w(hY:Yr s0 l N J Jx)(T:ByteArray)(a b c d p:Int)(s:List RT):YR s0 l N J Jx (.mk 5 T a b c d s p):=by
 intro m cs pre W ht hz hJ hl;rw[Qv]at ht;obtain⟨so,cap,rfl,-⟩:=ht;rw[RtZ]at hz;have hTz:=hz.1;rw[rfT,if_pos rfl]at hl ⊢;have hdd:=Xc;have HK1:=hid (fun o:Obj=>Kt.alloc (s0:=s0) W o);obtain⟨n,hn⟩:∃n,n=Qw s:=⟨_,rfl⟩;obtain⟨fn,tmps,assign,Qc,hy,hR⟩:=hY.call (m-1) pre ⟨5,T,a,b,c,d,so,n,cap,p,hTz⟩ (W.alloc (.cells #[.int .i64 5,.string T,.int .u64 a,.int .u64 b,.int .u64 c,.int .u64 d,.slice so n cap,.int .i64 p] 58)) (hY.alloc hJ _) (by simp at hl;omega);have HR:=hid hR;rw[<-hn];clear hR hY hJ hl hn;dsimp only[Nq.v]at hy;refine callsIn_of_wp func141 rfl trivial ?_ rfl;simp only[ntmps141,List.size_toArray,List.length_cons,List.length_nil,Nat.reduceAdd,Nat.reduceSub,Array.replicate_succ,Array.replicate_zero,List.push_toArray,List.append_toArray,List.nil_append,List.cons_append]
 gi_wp2
 refine⟨hdd _,HR.out.mono ?_⟩;clear HR hy;rintro e W2 (⟨rfl,hJ2,hk2⟩|⟨rfl,hx2⟩)
 ·gi_wp2
  go_ret;exact .inl ⟨rfl,⟨[⟨5,T,a,b,c,d,so,n,cap,p,hTz⟩],rfl,hJ2⟩,(HK1.out _).trans hk2⟩
 ·gi_wp2
  go_ret;exact .inr ⟨rfl,[⟨5,T,a,b,c,d,so,n,cap,p,hTz⟩],List.prefix_refl _,hx2⟩
theorem y1x(hY:Yr s0 l N J Jx)(k:Int)(hk:k≠5)(T:ByteArray)(a b c d p:Int)(s:List RT)(hN:∀t∈s,YR s0 l N J Jx t):YR s0 l N J Jx (.mk k T a b c d s p):=by
 intro m cs pre W ht hz hJ hl;rw[Qv]at ht;obtain⟨so,cap,rfl,hso⟩:=ht;rw[RtZ]at hz;have HZs:=hid hz.2;clear hz;rw[rfT,if_neg hk]at hl ⊢;have hdd:=Xc;have hk2:(k == 5)=false:=by simp[hk]
 have hk3:decide (k=5)=false:=by simp[hk]
 obtain⟨n,hn⟩:∃n,n=s.length:=⟨_,rfl⟩;have HC:Hid (∀j (hj:j<s.length),∃g o,so=some ⟨g,o,none⟩/\g<s0/\Zq W s0 g o s):=fun j hj=>by
  rcases hso with h1|⟨_,g,o,h2,h3,_,h5⟩
  ·cases s
   ·simp at hj
   ·simp at h1
  ·exact⟨g,o,h2,h3,h5⟩
 have hn6:n<=9223372036854775807:=by
  rcases hso with h1|⟨_,g,o,_,_,h4,_⟩
  ·cases s
   ·simp at hn;omega
   ·simp at h1
  ·rw[Zh]at h4
   unfold maxLen at h4;omega
 rw[Zh,<-hn];obtain⟨W1,hW1⟩:∃W1,W1=W.alloc (.cells #[.int .i64 k,.string T,.int .u64 a,.int .u64 b,.int .u64 c,.int .u64 d,.slice so n cap,.int .i64 p] 58):=⟨_,rfl⟩;have HK1:Hid (Kt s0 W W1):=by rw[hW1];exact Kt.alloc W _
 have HB1:Hid (W1.heap[W.heap.size]? =some (.cells #[.int .i64 k,.string T,.int .u64 a,.int .u64 b,.int .u64 c,.int .u64 d,.slice so n cap,.int .i64 p] 58)):=by rw[hW1];exact Qq W _ rfl
 have HJ1:Hid (J pre W1):=by rw[hW1];exact hY.alloc hJ _
 have HY:Hid (Yr s0 l N J Jx):=hY;have HN:=hid hN;have HNl:Hid (n=s.length):=hn;have HL:=hid hl;have HW1:=hid hW1;clear hJ hY hN hl hn hW1 hso;refine callsIn_of_wp func141 rfl trivial ?_ rfl;simp only[ntmps141,List.size_toArray,List.length_cons,List.length_nil,Nat.reduceAdd,Nat.reduceSub,Array.replicate_succ,Array.replicate_zero,List.push_toArray,List.append_toArray,List.nil_append,List.cons_append]
 gi_wp2
 rw[<-HW1.out];clear HW1
 gi_loopw [16] (fun i wr=>∃j:Nat,i=.int .i64 j/\j<=n/\Hid (∃q,tps q=rfL (s.take j)/\J (pre++q) wr)/\Hid (Kt s0 W1 wr)) (fun i _=>n-(intOf i).toNat)
 case atStart=>exact⟨0,rfl,Nat.zero_le _,⟨[],by rw[List.take_zero,rfL];rfl,by rw[List.append_nil];exact HJ1.out⟩,hid (Kt.refl _)⟩
 case round=>
  obtain⟨j,rfl,hj,HJr,HKr⟩:=hrel;by_cases hjn:j<n
  ·have hjI:(j:Int)<(n:Int):=by omega
   have a0:decide ((j:Int)<(n:Int))=true:=by simp;omega
   have hjs:j<s.length:=by rw[<-HNl.out];exact hjn
   obtain⟨⟨c0,c1,c2,c3,c4,c5,c6,c7⟩,_⟩:=Qd (HKr.out.eight HB1.out);have hKw:Kt s0 W wr:=HK1.out.trans HKr.out;obtain⟨g,o,rfl,hg,hrt⟩:=HC.out j hjs;obtain⟨k1,T1,a1,b1,c1',d1,so1,n1,cap1,p1,rt1,z0,z1,z2,z3,z4,z5,z6,z7⟩:=Cf (Zq.kept (fun q c u hq hu=>hKw.cell hq hu) hg s o hrt) j hjs;have hgl:g<wr.heap.size:=World.block_lt_of_cell? wr _ z0;obtain⟨q,hq,hJq⟩:=HJr.out;obtain⟨rr,hrr⟩:=y1v s (j+1);have hnx:=y1u s j hjs;have hlj:(pre++q).length+(rfT s[j]).length<=N:=by
    have h1:=HL.out;rw[hrr,hnx]at h1;have h2:=congrArg List.length hq;rw[y1t]at h2;simp only[List.length_append]at h1 ⊢;omega
   have K2:=hid (Kt.alloc (s0:=s0) wr (.cells #[.int .i64 k1,.string T1,.int .u64 a1,.int .u64 b1,.int .u64 c1',.int .u64 d1,.slice so1 n1 cap1,.int .i64 p1] 58));have HS:=hid (HN.out s[j] (List.getElem_mem hjs) (m-1) _ (pre++q) (wr.alloc (.cells #[.int .i64 k1,.string T1,.int .u64 a1,.int .u64 b1,.int .u64 c1',.int .u64 d1,.slice so1 n1 cap1,.int .i64 p1] 58)) (Qv.kept (fun g o u hg hu=>K2.out.cell hg hu) _ _ rt1) (HZs.out.get j hjs) (HY.out.alloc hJq _) hlj);have HQ:Hid (tps q=rfL (s.take j)):=hq;have HNX:=hid hnx;have HRR:=hid hrr;clear hJq hq hlj rt1 hrt hrr hnx HJr;dsimp only[r8]at HS
   gi_wp2
   refine⟨trivial,hdd _,HS.out.mono ?_⟩;clear HS z0 z1 z2 z3 z4 z5 z6 z7;rintro e W4 (⟨rfl,⟨q2,hq2,hJ2⟩,hk4⟩|⟨rfl,q2,hq2,hx4⟩)
   ·gi_wp2
    go_roundw
    case rel=>exact⟨j+1,by go_num,by omega,hid ⟨q++q2,by rw[z0n,HQ.out,hq2,HNX.out],by rw[<-List.append_assoc];exact hJ2⟩,hid ((HKr.out.trans K2.out).trans hk4)⟩
    case measure=>simp[intOf];omega
   ·gi_wp2
    go_ret;refine .inr ⟨rfl,q++q2,?_,by rw[<-List.append_assoc];exact hx4⟩;obtain⟨r,hr⟩:=hq2;refine⟨r++rr,?_⟩;rw[HRR.out,HNX.out,<-hr,z0n,HQ.out];simp
  ·have a0:decide ((j:Int)<(n:Int))=false:=by simp;omega
   have hjn':s.take j=s:=List.take_of_length_le (by rw[<-HNl.out];omega);rw[hjn']at HJr;clear hjn'
   gi_wp2
   go_ret;obtain⟨q,hq,hJq⟩:=HJr.out;exact .inl ⟨rfl,⟨q,hq,hJq⟩,HK1.out.trans HKr.out⟩
theorem z4t(hY:Yr s0 l N J Jx):∀(Q:Nat) (t:RT),SizeOf.sizeOf t<Q->YR s0 l N J Jx t
 |0,t,h=>by omega
 |Q+1,.mk k T a b c d s p,h=>by
  by_cases hk:k=5
  ·subst hk
   exact y1w hY T a b c d p s
  ·refine y1x hY k hk T a b c d p s fun t ht=>z4t hY Q t ?_
   have h1:=List.sizeOf_lt_of_mem ht;simp only[RT.mk.sizeOf_spec]at h;omega
end
end
section
attribute [local go_sem] Oper.semAt_some
section
variable {s0 l N:Nat} {J Jx:List Nq->World->Prop}
theorem y1y(hY:Yr s0 l N J Jx)(t:RT)(k:Int)(T:ByteArray)(a b c d:Int)(so:Option Addr)(n cap:Nat)(p:Int)(m Bt:Nat)(W:World)(hb:W.heap[Bt]? =some (.cells #[.int .i64 k,.string T,.int .u64 a,.int .u64 b,.int .u64 c,.int .u64 d,.slice so n cap,.int .i64 p] 58))(ht:Qv W s0 t (r8 k T a b c d so n cap p))(hz:RtZ t)(hJ:J [] W)(hl:(rfT t).length<=N):
  CallsIn Fence.wide m prog 140 #[.func (.yield l) #[] #[],.pointer (some ⟨Bt,0,none⟩)] W fun e W'=>(∃v,e=.returned v)/\((∃q,tps q=rfT t/\J q W')∨∃q,tps q<+:rfT t/\Jx q W'):=by
 have hdd:=Xc;have HS:=hid (z4t hY _ t (Nat.lt_succ_self _) (m-1) _ [] W ht hz hJ (by simpa using hl));obtain⟨⟨c0,c1,c2,c3,c4,c5,c6,c7⟩,_⟩:=Qd hb;clear hY ht hz hJ hl;dsimp only[r8]at HS;refine callsIn_of_wp func140 rfl trivial ?_ rfl;simp only[ntmps140,List.size_toArray,List.length_cons,List.length_nil,Nat.reduceAdd,Nat.reduceSub,Array.replicate_succ,Array.replicate_zero,List.push_toArray,List.append_toArray,List.nil_append,List.cons_append]
 gi_wp2
 refine⟨trivial,hdd _,HS.out.mono ?_⟩;clear HS;rintro e W4 (⟨rfl,⟨q2,hq2,hJ2⟩,hk4⟩|⟨rfl,q2,hq2,hx4⟩)
 ·gi_wp2
  go_end0
  exact⟨⟨_,rfl⟩,.inl ⟨q2,hq2,hJ2⟩⟩
 ·gi_wp2
  go_end0
  exact⟨⟨_,rfl⟩,.inr ⟨q2,hq2,hx4⟩⟩
end
theorem y1z{s0:Nat}(t:RT)(k:Int)(T:ByteArray)(a b c d:Int)(so:Option Addr)(n cap:Nat)(p:Int)(m Bt:Nat)(w:World)(hb:w.heap[Bt]? =some (.cells #[.int .i64 k,.string T,.int .u64 a,.int .u64 b,.int .u64 c,.int .u64 d,.slice so n cap,.int .i64 p] 58))(ht:Qv w s0 t (r8 k T a b c d so n cap p))(hz:RtZ t):
  SeqStopsK Fence.wide m prog 140 #[.pointer (some ⟨Bt,0,none⟩)] (fun x:Nq=>#[x.v]) (Kt s0) (fun ys=>tps ys=rfT t) (fun pre=>tps pre<+:rfT t) (rfT t).length w:=by
 intro l J Jx W hW hJ hJx hY h0;have hk:=Kt.below (s0:=s0) hW;have yl:Yr s0 l (rfT t).length J Jx:=by
  refine⟨fun s A B h hg=>hJ s A B none h hg (fun r e=>by cases e),fun m' pre x W1 h hl=> ?_⟩;refine YieldAt.mono (Ic rfl m' (hY pre x W1 h hl)) fun e' W' hh=> ?_
  rcases hh with⟨h1,h2,h3⟩|⟨h1,h2⟩
  ·exact .inl ⟨h1,h2,h3⟩
  ·exact .inr ⟨h1,h2⟩
 refine(y1y yl t k T a b c d so n cap p m Bt W (hk.eight hb) (Qv.kept (fun g o u hg hu=>hk.cell hg hu) _ _ ht) hz h0 L0q).mono fun e W' h=> ?_
 exact⟨h.1,h.2⟩
theorem y1A(m:Nat)(k:Int)(T:ByteArray)(a b c d:Int)(so:Option Addr)(n cap:Nat)(p:Int)(w:World):CallsIn Fence.wide m prog 83 #[.agg #[.int .i64 k,.string T,.int .u64 a,.int .u64 b,.int .u64 c,.int .u64 d,.slice so n cap,.int .i64 p]] w fun e w'=>e=.returned (.func (.func 140) #[] #[.pointer (some ⟨w.heap.size,0,none⟩)])/\w'=w.alloc (.cells #[.int .i64 k,.string T,.int .u64 a,.int .u64 b,.int .u64 c,.int .u64 d,.slice so n cap,.int .i64 p] 58):=by
 refine callsIn_of_wp func83 rfl trivial ?_ rfl;simp only[ntmps83,List.size_toArray,List.length_cons,List.length_nil,Nat.reduceAdd,Nat.reduceSub,Array.replicate_succ,Array.replicate_zero,List.push_toArray,List.append_toArray,List.nil_append,List.cons_append]
 gi_wp2
 go_ret;exact⟨rfl,rfl⟩
end
open Go.Maps
theorem Gp:Keyed prog 9:=string_keyed Tryz.underlying9
theorem Cl(w:World):(zeroValue 3).run prog w=.ok (.int .i64 0) w:=by kernel_rfl
def kls(s:ByteArray):Lit:=.string s.data.toList
theorem z0p{a b:ByteArray}(h:kls a=kls b):a=b:=by
 unfold kls at h;injection h with h
 apply ByteArray.ext;exact Array.toList_inj.1 h
theorem Lg(s:ByteArray):WideAt.IsKeyLit (kls s):=trivial
theorem Gc{s:ByteArray}(h:s.size<=maxLen):keyOf prog 9 (.string s)=some (kls s):=WideMaps.keyOf_string_mk Tryz.underlying9 h
def ixN(s:ByteArray):List ByteArray->Nat
 |[]=>0
 |a::r=>if a=s then 0 else ixN s r+1
def inN(s:ByteArray):List ByteArray->Bool
 |[]=>false
 |a::r=>if a=s then true else inN s r
theorem z4u(s x:ByteArray):∀l,inN s (l++[x])=(inN s l||decide (x=s))
 |[]=>by rw[List.nil_append,inN,inN,inN];by_cases h:x=s<;>simp[h]
 |a::r=>by rw[List.cons_append,inN,inN,z4u s x r];by_cases h:a=s<;>simp[h]
theorem z4v(s x:ByteArray):∀l,ixN s (l++[x])=if inN s l then ixN s l else if x=s then l.length else l.length+1
 |[]=>by rw[List.nil_append,ixN,inN];by_cases h:x=s<;>simp[h,ixN]
 |a::r=>by
  rw[List.cons_append,ixN,ixN,inN,z4v s x r];by_cases h:a=s
  ·simp[h]
  ·simp only[h,if_false]
   by_cases h2:inN s r=true
   ·simp[h2]
   ·by_cases h3:x=s<;>simp[h2,h3]
theorem z0q(s:ByteArray):∀l,inN s l=true->ixN s l<l.length
 |[],h=>by simp[inN]at h
 |a::r,h=>by
  rw[inN]at h;rw[ixN];by_cases h2:a=s
  ·simp[h2]
  ·rw[if_neg h2]at h ⊢
   have:=z0q s r h;simp only[List.length_cons];omega
def Pm(W:World)(B:Nat)(l:List ByteArray):Prop:=∃D:DataW Unit,W.ownsMap prog 9 (plainElem prog 3) B l.length D/\∀s,Maps.has D (kls s)=inN s l/\(inN s l=true->D.atKey (kls s) (.lit (.int .i64 0))=.lit (.int .i64 (ixN s l:Nat)))
theorem Pm.made(w:World):Pm (w.alloc (.map #[] 0)) w.heap.size []:=⟨.map [],World.ownsMap_made w _ _ _,fun s=>⟨rfl,fun h=>by simp[inN]at h⟩⟩
theorem Pm.kept{W W':World}{B:Nat}{l:List ByteArray}{row:Option Nat}(h:Pm W B l)(hg:W.grownBy W' row)(hne:some B≠row):Pm W' B l:=by
 obtain⟨D,h1,h2⟩:=h;exact⟨D,h1.kept hg hne,h2⟩
theorem Pm.lt{W:World}{B:Nat}{l:List ByteArray}(h:Pm W B l):B<W.heap.size:=by
 obtain⟨D,h1,_⟩:=h;exact h1.lt
theorem Pm.below{W W':World}{B base:Nat}{l:List ByteArray}(h:Pm W B l)(hb:Below base W W')(hB:B<base):Pm W' B l:=by
 obtain⟨D,⟨es,ck,h1,h2,h3,h4⟩,h5⟩:=h;exact⟨D,⟨es,ck,(hb.block B hB).trans h1,h2,h3,h4⟩,h5⟩
theorem Pm.put{W':World}{B:Nat}{l:List ByteArray}{s:ByteArray}{D:DataW Unit}(hD:∀s,Maps.has D (kls s)=inN s l/\(inN s l=true->D.atKey (kls s) (.lit (.int .i64 0))=.lit (.int .i64 (ixN s l:Nat))))(hm:Maps.IsMap D)(hs:inN s l=false)
  (h:W'.ownsMap prog 9 (plainElem prog 3) B (l.length+1) (D.put (kls s) (.lit (.int .i64 (l.length:Nat))))):Pm W' B (l++[s]):=by
 refine⟨_,by rw[List.length_append];exact h,fun x=> ?_⟩;rw[z4u,z4v];by_cases e:s=x
 ·subst e
  rw[hs];refine⟨by rw[Maps.has_put_same hm (Lg _)];simp,fun _=> ?_⟩;rw[Maps.atKey_put_same hm (Lg _)];simp
 ·have hne:kls x≠kls s:=fun h=>e (z0p h).symm
  rw[Maps.has_put_other hne,Maps.atKey_put_other hne,(hD x).1];refine⟨by simp[e],fun h=> ?_⟩;have h':inN x l=true:=by simpa [e]using h
  rw[(hD x).2 h',if_pos h']
def nmL(rs:List Rr):List ByteArray:=rs.map (·.1)
def Vm(l:List ByteArray):List Rr->Option Int
 |[]=>none
 |x::r=>if inN x.1 l then some x.2.2 else Vm (l++[x.1]) r
def Nw(rs:List Rr):Option Int:=Vm [] rs
theorem z4w(l:List ByteArray)(rs:List Rr)(j:Nat)(hj:j<rs.length):Vm l (rs.drop j)=if inN rs[j].1 l then some rs[j].2.2 else Vm (l++[rs[j].1]) (rs.drop (j+1)):=by
 rw[List.drop_eq_getElem_cons hj,Vm]
theorem z0r(rs:List Rr)(j:Nat)(hj:j<rs.length):nmL (rs.take (j+1))=nmL (rs.take j)++[rs[j].1]:=by
 unfold nmL;rw[show rs.take (j+1)=rs.take j++[rs[j]] by simp,List.map_append];rfl
def rfG:List Rr->List (ByteArray×Int)
 |[]=>[]
 |x::r=>rfT x.2.1++rfG r
theorem z0s:∀(a b:List Rr),rfG (a++b)=rfG a++rfG b
 |[],b=>by rw[List.nil_append,rfG,List.nil_append]
 |x::r,b=>by rw[List.cons_append,rfG,rfG,z0s r b,List.append_assoc]
theorem y1B(s:List Rr)(j:Nat)(hj:j<s.length):rfG (s.take (j+1))=rfG (s.take j)++rfT s[j].2.1:=by
 rw[show s.take (j+1)=s.take j++[s[j]] by simp,z0s,rfG,rfG,List.append_nil]
def Xm(l:List ByteArray):List (ByteArray×Int)->Option Int
 |[]=>none
 |x::r=>if inN x.1 l then Xm l r else some x.2
theorem Ax(l:List ByteArray):∀(a b:List (ByteArray×Int)),Xm l (a++b)=match Xm l a with|some p=>some p|none=>Xm l b
 |[],b=>by rw[List.nil_append,Xm]
 |x::r,b=>by
  rw[List.cons_append,Xm,Xm,Ax l r b];by_cases h:inN x.1 l=true
  ·rw[if_pos h,if_pos h]
  ·rw[if_neg h,if_neg h]
def ckR(rs:List Rr):Option (Int×Int):=match Nw rs with
 |some p=>some (30,p)
 |none=>match Xm (nmL rs) (rfG rs)with
  |some p=>some (31,p)
  |none=>none
def CkP(w:World)(rs:List Rr)(e:Ending)(w':World):Prop:=Below w.heap.size w w'/\
 ((∃c p g,ckR rs=some (c,p)/\e=.returned (.tuple #[.map none,.iface 81 (.pointer (some ⟨g,0,none⟩))])/\w.heap.size<=g/\w'.heap[g]? =some (.cells #[.int .i64 c,.int .i64 p] 84))∨
  (∃M,ckR rs=none/\e=.returned (.tuple #[.map (some M),.nilIface])/\w.heap.size<=M/\Pm w' M (nmL rs)))
def Kp3(w W2:World)(M:Nat)(wr:World):Prop:=Below w.heap.size w wr/\M+1+1<=wr.heap.size/\(∀k,k<M->wr.heap[k]? =W2.heap[k]?)/\wr.heap[M+1]? =W2.heap[M+1]?
theorem Kp3.step{w W2 wr w1:World}{M:Nat}{o:Obj}(h:Kp3 w W2 M wr)(hg:(wr.alloc o).grownBy w1 (some M))(hM:w.heap.size<=M):Kp3 w W2 M w1:=by
 obtain⟨h1,h2,h3,h4⟩:=h;have hs:=hg.size;rw[World.size_alloc]at hs;refine⟨(h1.alloc h1.size _).grown hg (by rw[World.size_alloc];have:=h1.size;omega) (fun j e=>by cases e;exact hM),by omega,fun k hk=> ?_,?_⟩
 ·exact(hg.block k (by rw[World.size_alloc];omega) (fun e=>by cases e;omega)).trans ((Below.heap_alloc _ _ _ (by omega)).trans (h3 k hk))
 ·exact(hg.block _ (by rw[World.size_alloc];omega) (fun e=>by simp at e)).trans ((Below.heap_alloc _ _ _ (by omega)).trans h4)
theorem y1C(n:Int)(w:World):(Instr.makeMap 102 (some (.int .i64 n))).run prog w=.ok (.map (some w.heap.size)) (w.alloc (.map #[] 0)):=by kernel_rfl
def Mks(base:Nat):Nat->List Deferred->World->Prop
 |_,[],_=>True
 |lim,d::ds,w=>∃D,d={target:=.collected D,args:=#[]}/\base<=D/\D<lim/\w.heap[D]? =some (.deferred (some []))/\Mks base D ds w
theorem Mks.kept{base:Nat}:∀{lim:Nat} {ds:List Deferred} {w w':World},Mks base lim ds w->(∀D,D<lim->w.heap[D]? =some (.deferred (some []))->w'.heap[D]? =some (.deferred (some [])))->Mks base lim ds w'
 |_,[],_,_,_,_=>trivial
 |lim,d::ds,w,w',h,hk=>by
  obtain⟨D,h1,h2,h3,h4,h5⟩:=h;exact⟨D,h1,h2,h3,hk D h3 h4,h5.kept fun D' hD h=>hk D' (by omega) h⟩
theorem Mks.below{base S:Nat}{ds:List Deferred}{w w':World}(h:Mks base S ds w)(hb:Below S w w'):Mks base S ds w':=h.kept fun D hD e=>(hb.block D hD).trans e
theorem Mks.mono{base:Nat}:∀{lim lim':Nat} {ds:List Deferred} {w:World},Mks base lim ds w->lim<=lim'->Mks base lim' ds w
 |_,_,[],_,_,_=>trivial
 |_,_,d::ds,w,⟨D,h1,h2,h3,h4,h5⟩,hl=>⟨D,h1,h2,Nat.lt_of_lt_of_le h3 hl,h4,h5⟩
def Dk(base:Nat)(w w':World):Prop:=Below base w w'/\∀(k:Nat) (o:Obj),w.heap[k]? =some o->(∀l,o≠.deferred l)->w'.heap[k]? =some o
theorem Ez{F:Fence}{n:Nat}{P:Program}{fn:Func}{tmps:Array Value}{R:Ending->World->Prop}{base:Nat}:∀(ds:List Deferred) (lim:Nat) (w:World),Mks base lim ds w->(∀w',Dk base w w'->∃v,(results fn tmps).run P w'=.ok v w'/\R (.returned v) w')->LeavesInM F n P fn tmps R ds .returning w
 |[],_,w,_,h=>h w ⟨Below.refl _ _,fun _ _ h _=>h⟩
 |d::ds,lim,w,⟨D,h1,h2,h3,h4,h5⟩,h=>by
  refine⟨by simp,.inl ⟨D,_,by rw[h1],run_takeDeferred h4,?_⟩⟩;have hb:Below base w (w.putObj D (.deferred none)):=(Below.refl base w).grown (grownBy_putObj' w D _) (by have:=(Array.getElem?_eq_some_iff.1 h4).1;omega) (fun k e=>by cases e;omega);refine Ez ds D _ (h5.kept fun D' hD e=>(World.putObj_heap_other (by omega)).trans e) fun w' hk=>h w' ⟨hb.trans hk.1,fun k o ho hne=>hk.2 k o ?_ hne⟩
  refine(World.putObj_heap_other fun e=> ?_).trans ho;subst e;rw[h4]at ho;cases ho;exact hne _ rfl
theorem Dk.box{base:Nat}{w w':World}{B:Nat}{t:TypeId}{v:Value}(h:Dk base w w')(hb:Boxed w B t v):Boxed w' B t v:=h.2 B _ hb (fun l e=>by cases e)
theorem Dk.pm{base:Nat}{w w':World}{B:Nat}{l:List ByteArray}(h:Dk base w w')(hp:Pm w B l):Pm w' B l:=by
 obtain⟨D,⟨es,ck,h1,h2,h3,h4⟩,h5⟩:=hp;exact⟨D,⟨es,ck,h.2 B _ h1 (fun l e=>by cases e),h2,h3,h4⟩,h5⟩
theorem Kp3.below{w W2 W W':World}{M S:Nat}(h:Kp3 w W2 M W)(hb:Below S W W')(h1:w.heap.size<=S)(h2:M+1+1<=S):Kp3 w W2 M W':=
 ⟨h.1.trans (hb.mono h1),by have:=hb.size;have:=h.2.1;omega,fun k hk=>(hb.block k (by omega)).trans (h.2.2.1 k hk),(hb.block _ (by omega)).trans h.2.2.2⟩
end Go.Proofs.YtgmcjddjdidpjaaGreatDoor
