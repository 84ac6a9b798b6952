/- Lemmas for the last text. Conditions: those that each names. -/
import Derived.Test.YtmelafeingcgnaaGreatDoorVR8ToU1
import Derived.Test.YtmelafeingcgnaaGreatDoorVZZToX5
import Derived.Test.YtmelafeingcgnaaGreatDoorVX6ToX16
import Derived.Maps.OwnIn
import Derived.Maps.Own
import Derived.Maps.OwnOps
import Derived.Maps.OwnSet
import Derived.BigRegionIn
set_option linter.unusedVariables false
set_option maxRecDepth 100000
set_option maxHeartbeats 8000000
namespace Go.Proofs.YtmelafeingcgnaaGreatDoor
open Go.Proofs.Tryz
section
open Go.RowKit Go.Shelf
def cl4(a b c d:Int):Nat:=cls a.toNat b.toNat c.toNat d.toNat
section
variable (K:ByteArray->Ot)
end
end
section
open Go.RowKit Go.Shelf
inductive Jb where
 |one (t:RT)
 |row (s:List RT)
 |alt (s:List RT)
 |rep (t:RT)
def Uk(N T:zA)(at':Nat):Bool:=Lib.hasPrefix (T.extract at' T.size).data.toList N.data.toList
def Xx(C:Nat)(T:zA)(at':Nat):Bool:=match T.data[at']? with
 |some x=>C.testBit x.toNat
 |none=>false
def Zm(b:Bool)(e:Nat):Option Nat:=if b then some e else none
section
variable (B:ByteArray->Option RT) (T:ByteArray)
inductive Mt:Jb->Nat->Option Nat->Nat->Prop
 |emp {N a b c d s p i}:Mt (.one (.mk 1 N a b c d s p)) i (some i) 1
 |lit {N a b c d s p i}:Mt (.one (.mk 2 N a b c d s p)) i (Zm (Uk N T i) (i+N.size)) 1
 |set {N a b c d s p i}:Mt (.one (.mk 3 N a b c d s p)) i (Zm (Xx (cl4 a b c d) T i) (i+1)) 1
 |any {N a b c d s p i}:Mt (.one (.mk 4 N a b c d s p)) i (Zm (Xx Vm T i) (i+1)) 1
 |ref {N a b c d s p i t e n}:B N=some t->Mt (.one t) i e n->Mt (.one (.mk 5 N a b c d s p)) i e (n+1)
 |seq {N a b c d s p i e n}:Mt (.row s) i e n->Mt (.one (.mk 6 N a b c d s p)) i e (n+1)
 |cho {N a b c d s p i e n}:Mt (.alt s) i e n->Mt (.one (.mk 7 N a b c d s p)) i e (n+1)
 |opt {N a b c d t r p i e n}:Mt (.one t) i e n->Mt (.one (.mk 8 N a b c d (t::r) p)) i (some (e.getD i)) (n+1)
 |star {N a b c d t r p i e n}:Mt (.rep t) i e n->Mt (.one (.mk 9 N a b c d (t::r) p)) i e (n+1)
 |plus_no {N a b c d t r p i n}:Mt (.one t) i none n->Mt (.one (.mk 10 N a b c d (t::r) p)) i none (n+1)
 |plus_ok {N a b c d t r p i x e n m}:Mt (.one t) i (some x) n->Mt (.rep t) x e m->Mt (.one (.mk 10 N a b c d (t::r) p)) i e (n+m+1)
 |and {N a b c d t r p i e n}:Mt (.one t) i e n->Mt (.one (.mk 11 N a b c d (t::r) p)) i (Zm e.isSome i) (n+1)
 |not {N a b c d t r p i e n}:Mt (.one t) i e n->Mt (.one (.mk 12 N a b c d (t::r) p)) i (Zm e.isNone i) (n+1)
 |row_nil {i}:Mt (.row []) i (some i) 0
 |row_no {t r i n}:Mt (.one t) i none n->Mt (.row (t::r)) i none n
 |row_ok {t r i x e n m}:Mt (.one t) i (some x) n->Mt (.row r) x e m->Mt (.row (t::r)) i e (n+m)
 |alt_nil {i}:Mt (.alt []) i none 0
 |alt_ok {t r i x n}:Mt (.one t) i (some x) n->Mt (.alt (t::r)) i (some x) n
 |alt_no {t r i e n m}:Mt (.one t) i none n->Mt (.alt r) i e m->Mt (.alt (t::r)) i e (n+m)
 |rep_end {t i n}:Mt (.one t) i none n->Mt (.rep t) i (some i) n
 |rep_go {t i x e n m}:Mt (.one t) i (some x) n->Mt (.rep t) x e m->Mt (.rep t) i e (n+m)
end
variable {B:ByteArray->Option RT} {T:ByteArray}
theorem y0c(T:zA)(i:Nat):(T.extract i T.size).data.toList=T.data.toList.drop i:=by
 have h:(T.extract i T.size).data=T.data.extract i T.size:=by
  rw[ByteArray.data_extract]
 rw[h,Array.toList_extract];show List.extract T.data.toList i T.size=_;rw[List.extract_eq_take_drop];exact List.take_of_length_le (by rw[List.length_drop];exact Nat.le_refl _)
theorem z2i(N T:zA)(i:Nat):Uk N T i=Lib.hasPrefix (T.data.toList.drop i) N.data.toList:=by
 unfold Uk;rw[y0c]
theorem Mk{N T:zA}{i:Nat}(r:i<=T.size)(h:Uk N T i=true):i+N.size<=T.size:=by
 rw[z2i]at h;have o:=(List.isPrefixOf_iff_prefix.1 h).length_le;rw[List.length_drop]at o;have y:N.data.toList.length=N.size:=rfl;have A:T.data.toList.length=T.size:=rfl;omega
theorem Fp{C:Nat}{T:zA}{i:Nat}(h:Xx C T i=true):i<T.size:=by
 unfold Xx at h;rcases Nat.lt_or_ge i T.size with o|o
 ·exact o
 ·rw[Array.getElem?_eq_none o]at h
  cases h
theorem Pg{j:Jb}{i:Nat}{e:Option Nat}{n:Nat}(h:Mt B T j i e n):i<=T.size->∀x,e=some x->i<=x/\x<=T.size:=by
 induction h with
 |emp|row_nil=>intro o x hx;cases hx;exact⟨Nat.le_refl _,o⟩
 |lit=>
  intro o x hx;unfold Zm at hx;split at hx
  ·rename_i h
   cases hx;exact⟨Nat.le_add_right _ _,Mk o h⟩
  ·cases hx
 |set|any=>
  intro o x hx;unfold Zm at hx;split at hx
  ·rename_i h
   cases hx;exact⟨Nat.le_add_right _ _,Fp h⟩
  ·cases hx
 |ref _ _ ih=>exact ih
 |seq _ ih|cho _ ih|star _ ih=>exact ih
 |alt_ok _ ih=>exact ih
 |opt _ ih=>
  intro o x hx;cases hx;rename_i e _ _;cases e with
  |none=>exact⟨Nat.le_refl _,o⟩
  |some y=>exact ih o y rfl
 |plus_no|row_no|alt_nil=>intro o x hx;cases hx
 |plus_ok _ _ ih1 ih2|row_ok _ _ ih1 ih2|rep_go _ _ ih1 ih2=>
  intro o x hx;obtain⟨r,A⟩:=ih1 o _ rfl;obtain⟨D,E⟩:=ih2 A x hx;exact⟨Nat.le_trans r D,E⟩
 |and _ ih|not _ ih=>
  intro o x hx;unfold Zm at hx;split at hx
  ·cases hx;exact⟨Nat.le_refl _,o⟩
  ·cases hx
 |alt_no _ _ _ ih=>exact ih
 |rep_end _ ih=>intro o x hx;cases hx;exact⟨Nat.le_refl _,o⟩
end
section
open Go.RowKit Go.Shelf
def okO(o:Ot)(i:Nat):Option Nat->Prop
 |none=>o.2.2=true
 |some e=>i<=e/\(e=i->o.1=true)/\(i<e->o.2.1=true)
def y0d(o:Ot)(i:Nat):Option Nat->Prop
 |none=>False
 |some e=>i<=e/\(e=i->o.2.2=true)/\(i<e->o.2.1=true)
def Okj(K:zA->Ot):Jb->Nat->Option Nat->Prop
 | .one t,i,e=>okO (ofT K t) i e
 | .row s,i,e=>∀(acc:Ot) (i0:Nat),i0<=i->(i=i0->acc.1=true)->(i0<i->acc.2.1=true)->okO (ofS K acc s) i0 e
 | .alt s,i,e=>∀acc:Ot,acc.2.2=true->okO (ofA K acc s) i e
 | .rep t,i,e=>y0d (ofT K t) i e
theorem z2j(K:zA->Ot):∀(s:List RT) (a:Ot),a.2.2=true->(ofS K a s).2.2=true
 |[],a,h=>by rw[ofS];exact h
 |t::r,a,h=>by rw[ofS];exact z2j K r _ (by simp[Jq,h])
theorem z2k(K:zA->Ot):∀(s:List RT) (a:Ot),a.1=true->(ofA K a s).1=true
 |[],a,h=>by rw[ofA];exact h
 |t::r,a,h=>by rw[ofA];exact z2k K r _ (by simp[Uf,h])
theorem z2l(K:zA->Ot):∀(s:List RT) (a:Ot),a.2.1=true->(ofA K a s).2.1=true
 |[],a,h=>by rw[ofA];exact h
 |t::r,a,h=>by rw[ofA];exact z2l K r _ (by simp[Uf,h])
theorem y0e{N T:zA}{i:Nat}(h:N.size=0):Uk N T i=true:=by
 rw[z2i];have:N.data.toList=[]:=List.length_eq_zero_iff.1 h;rw[this];exact List.isPrefixOf_iff_prefix.2 (List.nil_prefix)
theorem y0f:cl4 0 0 0 0=0:=by decide
theorem Pb{b:Bool}{i m:Nat}{o:Ot}(r:b=false->o.2.2=true)(h:b=true->(m=0->o.1=true)/\(0<m->o.2.1=true)):okO o i (Zm b (i+m)):=by
 unfold Zm;cases b with
 |true=>exact⟨by omega,fun e=>(h rfl).1 (by omega),fun e=>(h rfl).2 (by omega)⟩
 |false=>exact r rfl
variable {B:ByteArray->Option RT} {T:ByteArray} {K:ByteArray->Ot}
theorem Mv(hB:∀N t,B N=some t->ofT K t=K N){j:Jb}{i:Nat}{e:Option Nat}{n:Nat}(h:Mt B T j i e n):Okj K j i e:=by
 induction h with
 |emp=>exact⟨Nat.le_refl _,fun _=>by rw[ofT];rfl,fun h=>absurd h (Nat.lt_irrefl _)⟩
 | @lit N a b c d s p i=>
   simp only[Okj];rw[ofT];by_cases o:N.size=0
   ·rw[y0e o,o];exact⟨Nat.le_refl _,fun _=>by simp,fun h=>absurd h (by simp)⟩
   ·refine Pb (fun _=>by simp[o]) (fun _=>⟨fun h=>absurd h o,fun _=>by simp[o]⟩)
 | @set N a b c d s p i=>
   simp only[Okj];rw[ofT];by_cases o:a=0/\b=0/\c=0/\d=0
   ·obtain⟨rfl,rfl,rfl,rfl⟩:=o
    have:Xx (cl4 0 0 0 0) T i=false:=by
     unfold Xx;rw[y0f];cases T.data[i]? <;>simp
    rw[this]
    (show Prod.snd (Prod.snd _)=true;simp)
   ·refine Pb (fun _=>by simp[o]) (fun _=>⟨fun h=>by omega,fun _=>by simp[o]⟩)
 |any=>exact Pb (fun _=>by rw[ofT];rfl) (fun _=>⟨fun h=>by omega,fun _=>by rw[ofT];rfl⟩)
 |ref A _ ih=>
  have D:=hB _ _ A;simp only[Okj]at ih ⊢;rw[D]at ih;rw[ofT];exact ih
 |seq _ ih=>
  have:=ih (true,false,false) _ L0q (fun _=>rfl) (fun h=>absurd h (Nat.lt_irrefl _));simp only[Okj];rw[ofT];exact this
 |cho _ ih=>
  have:=ih (false,false,true) rfl;simp only[Okj];rw[ofT];exact this
 | @opt N a b c d t r p i e n _ ih=>
   simp only[Okj]at ih ⊢;rw[ofT,ofH];cases e with
   |none=>exact⟨Nat.le_refl _,fun _=>by have:(ofT K t).2.2=true:=ih;simp[Zb,this],fun h=>absurd h (Nat.lt_irrefl _)⟩
   |some x=>exact⟨ih.1,fun h=>by simp[Zb,ih.2.1 h],fun h=>by simp[Zb,ih.2.2 h]⟩
 | @star N a b c d t r p i e n _ ih=>
   simp only[Okj]at ih ⊢;rw[ofT,ofH];cases e with
   |none=>exact ih.elim
   |some x=>exact⟨ih.1,fun h=>by simp[Zb,ih.2.1 h],fun h=>by simp[Zb,ih.2.2 h]⟩
 | @plus_no N a b c d t r p i n _ ih=>
   simp only[Okj]at ih ⊢;rw[ofT,ofH];have:(ofT K t).2.2=true:=ih
   (show Prod.snd (Prod.snd _)=true;simp[Zb,this])
 | @plus_ok N a b c d t r p i x e n m _ _ ih1 ih2=>
   simp only[Okj]at ih1 ih2 ⊢;rw[ofT,ofH];cases e with
   |none=>exact ih2.elim
   |some y=>
    obtain⟨a1,a2,a3⟩:=ih1;obtain⟨G,U,V⟩:=ih2;refine⟨Nat.le_trans a1 G,fun h=> ?_,fun h=> ?_⟩
    ·have A:x=i:=by omega
     simp[Zb,a2 A,U (by omega)]
    ·have:(ofT K t).2.1=true:=by
      by_cases hx:i<x
      ·exact a3 hx
      ·exact V (by omega)
     simp[Zb,this]
 | @and N a b c d t r p i e n _ ih=>
   simp only[Okj]at ih ⊢;rw[ofT,ofH];cases e with
   |none=>(show Prod.snd (Prod.snd _)=true;have:(ofT K t).2.2=true:=ih;simp[Zb,this])
   |some x=>
    refine⟨Nat.le_refl _,fun _=> ?_,fun h=>absurd h (Nat.lt_irrefl _)⟩;have:suc (ofT K t)=true:=by
     unfold suc;rcases Nat.lt_or_ge i x with h|h
     ·rw[ih.2.2 h,Bool.or_true]
     ·rw[ih.2.1 (Nat.le_antisymm h ih.1),Bool.true_or]
    simp[Zb,this]
 | @not N a b c d t r p i e n _ ih=>
   simp only[Okj]at ih ⊢;rw[ofT,ofH];cases e with
   |none=>exact⟨Nat.le_refl _,fun _=>by have:(ofT K t).2.2=true:=ih;simp[Zb,this],fun h=>absurd h (Nat.lt_irrefl _)⟩
   |some x=>
    have:suc (ofT K t)=true:=by
     unfold suc;rcases Nat.lt_or_ge i x with h|h
     ·rw[ih.2.2 h,Bool.or_true]
     ·rw[ih.2.1 (Nat.le_antisymm h ih.1),Bool.true_or]
    (show Prod.snd (Prod.snd _)=true;simp[Zb,this])
 |row_nil=>
  intro acc E o A D;rw[ofS];exact⟨o,A,D⟩
 | @row_no t r i n _ ih=>
   intro acc E o A D;rw[ofS];have Y:(ofT K t).2.2=true:=ih;have Z:suc acc=true:=by
    unfold suc;rcases Nat.lt_or_ge E i with h|h
    ·rw[D h,Bool.or_true]
    ·rw[A (by omega),Bool.true_or]
   show Prod.snd (Prod.snd _)=true;exact z2j K r _ (by simp[Jq,Y,Z])
 | @row_ok t r i x e n m _ _ ih1 ih2=>
   intro acc E o A D;rw[ofS];obtain⟨a1,a2,a3⟩:=ih1;have Z:suc (ofT K t)=true:=by
    unfold suc;rcases Nat.lt_or_ge i x with h|h
    ·rw[a3 h,Bool.or_true]
    ·rw[a2 (by omega),Bool.true_or]
   refine ih2 _ E (by omega) (fun h=> ?_) (fun h=> ?_)
   ·simp[Jq,A (by omega),a2 (by omega)]
   ·rcases Nat.lt_or_ge E i with h'|h'
    ·simp[Jq,D h',Z]
    ·simp[Jq,A (by omega),a3 (by omega)]
 |alt_nil=>
  intro acc h;rw[ofA];exact h
 | @alt_ok t r i x n _ ih=>
   intro acc h;rw[ofA];obtain⟨a1,a2,a3⟩:=ih;exact⟨a1,fun e=>z2k K r _ (by simp[Uf,h,a2 e]),fun e=>z2l K r _ (by simp[Uf,h,a3 e])⟩
 | @alt_no t r i e n m _ _ ih1 ih2=>
   intro acc h;rw[ofA];have Y:(ofT K t).2.2=true:=ih1;exact ih2 _ (by simp[Uf,h,Y])
 |rep_end _ ih=>exact⟨Nat.le_refl _,fun _=>ih,fun h=>absurd h (Nat.lt_irrefl _)⟩
 | @rep_go t i x e n m _ _ ih1 ih2=>
   simp only[Okj]at ih1 ih2 ⊢;cases e with
   |none=>exact ih2.elim
   |some y=>
    obtain⟨a1,a2,a3⟩:=ih1;obtain⟨G,U,V⟩:=ih2;refine⟨Nat.le_trans a1 G,fun h=>U (by omega),fun h=> ?_⟩;by_cases hx:i<x
    ·exact a3 hx
    ·exact V (by omega)
end
section
open Go.RowKit Go.Shelf
attribute [local go_sem] Oper.semAt_some
structure Nq where
 k:Int
 T:zA
 a:Int
 b:Int
 c:Int
 d:Int
 so:Option Addr
 n:Nat
 cap:Nat
 p:Int
 z:T.size<=9223372036854775807
@[reducible] def Nq.v (x:Nq):Value:=.agg #[zI x.k,zT x.T,zU x.a,zU x.b,zU x.c,zU x.d,.slice x.so x.n x.cap,zI x.p]
def Nq.tp(x:Nq):zA×Int:=(x.T,x.p)
def tps(q:List Nq):List (ByteArray×Int):=q.map Nq.tp
theorem Ph(a b:List Nq):tps (a++b)=tps a++tps b:=List.map_append
theorem y0g(a:List Nq):(tps a).length=a.length:=List.length_map _
mutual
def rfT:RT->List (ByteArray×Int)
 | .mk k T _ _ _ _ s p=>if k=5 then [(T,p)]else rfL s
def rfL:List RT->List (ByteArray×Int)
 |[]=>[]
 |t::r=>rfT t++rfL r
end
theorem Pd:∀(a b:List RT),rfL (a++b)=rfL a++rfL b
 |[],b=>by rw[List.nil_append,rfL,List.nil_append]
 |x::r,b=>by rw[List.cons_append,rfL,rfL,Pd r b,List.append_assoc]
theorem y0h(s:List RT)(j:Nat)(h:j<s.length):rfL (s.take (j+1))=rfL (s.take j)++rfT s[j]:=by
 rw[show s.take (j+1)=s.take j++[s[j]] by simp,Pd,rfL,rfL,List.append_nil]
theorem y0i(s:List RT)(j:Nat):∃r,rfL s=rfL (s.take j)++r:=by
 refine⟨rfL (s.drop j),?_⟩;rw[<-Pd,List.take_append_drop]
structure Yr (s0 l N:Nat) (J Jx:List Nq->World->Prop):Prop where
 grow:∀s A B,J s A->A.grownBy B none->J s B
 call:∀m pre (x:Nq) W,J pre W->pre.length<N->YieldAt Fence.wide m prog l #[x.v] W fun e W'=>
  (e=.returned (.bool true)/\J (pre++[x]) W'/\Kt s0 W W')∨(e=.returned (.bool false)/\Jx (pre++[x]) W')
def Yq(s0:Nat)(J Jx:List Nq->World->Prop)(pre:List Nq)(ps:List (ByteArray×Int))(W:World)(e:Ending)(W':World):Prop:=
 (e=.returned (.bool true)/\(∃q,tps q=ps/\J (pre++q) W')/\Kt s0 W W')∨(e=.returned (.bool false)/\∃q,tps q<+:ps/\Jx (pre++q) W')
def YR(s0 l N:Nat)(J Jx:List Nq->World->Prop)(t:RT):Prop:=
 ∀(m:Nat) (cs:List Value) (pre:List Nq) (W:World),Qw W s0 t cs->RtZ t->J pre W->pre.length+(rfT t).length<=N->
  CallsIn Fence.wide m prog 271 #[.agg cs.toArray,.func (.yield l) #[] #[]] W (Yq s0 J Jx pre (rfT t) W)
section
variable {s0 l N:Nat} {J Jx:List Nq->World->Prop}
theorem Yr.alloc(h:Yr s0 l N J Jx){s:List Nq}{A:World}(r:J s A)(o:Obj):J s (A.alloc o):=h.grow s A _ r (World.grownBy_alloc A o none)
theorem y0j(y:Yr s0 l N J Jx)(T:zA)(a b c d p:Int)(s:List RT):YR s0 l N J Jx (.mk 5 T a b c d s p):=by
 intro m cs aa W D E G hl;rw[Qw]at D;obtain⟨h,r,rfl,-⟩:=D;rw[RtZ]at E;have A:=E.1;rw[rfT,if_pos rfl]at hl ⊢;have ab:=Xw;have ac:=hid (fun o:Obj=>Kt.alloc (s0:=s0) W o);obtain⟨n,U⟩:∃n,n=Qb s:=⟨_,rfl⟩;obtain⟨fn,ag,ah,Qm,V,Y⟩:=y.call (m-1) aa ⟨5,T,a,b,c,d,h,n,r,p,A⟩ (W.alloc (.cells #[zI 5,zT T,zU a,zU b,zU c,zU d,.slice h n r,zI p] 119)) (y.alloc G _) (by simp at hl;omega);have Z:=hid Y;rw[<-U];clear Y y G hl U;dsimp only[Nq.v]at V;refine callsIn_of_wp func271 rfl trivial ?_ rfl;simp only[ntmps271,List.size_toArray,List.length_cons,List.length_nil,Nat.reduceAdd,Nat.reduceSub,Array.replicate_succ,Array.replicate_zero,List.push_toArray,List.append_toArray,List.nil_append,List.cons_append]
 gi_wp2
 refine⟨ab _,Z.out.mono ?_⟩;clear Z V;rintro e W2 (⟨rfl,ad,ae⟩|⟨rfl,af⟩)
 ·gi_wp2
  go_ret;exact .inl ⟨rfl,⟨[⟨5,T,a,b,c,d,h,n,r,p,A⟩],rfl,ad⟩,(ac.out _).trans ae⟩
 ·gi_wp2
  go_ret;exact .inr ⟨rfl,[⟨5,T,a,b,c,d,h,n,r,p,A⟩],List.prefix_refl _,af⟩
theorem y0k(hY:Yr s0 l N J Jx)(k:Int)(hk:k≠5)(T:zA)(a b c d p:Int)(s:List RT)(hN:∀t∈s,YR s0 l N J Jx t):YR s0 l N J Jx (.mk k T a b c d s p):=by
 intro m cs G W ht hz hJ hl;rw[Qw]at ht;obtain⟨so,ae,rfl,aa⟩:=ht;rw[RtZ]at hz;have ar:=hid hz.2;clear hz;rw[rfT,if_neg hk]at hl ⊢;have au:=Xw;have aC:(k == 5)=false:=by simp[hk]
 have aD:decide (k=5)=false:=by simp[hk]
 obtain⟨n,U⟩:∃n,n=s.length:=⟨_,rfl⟩;have HC:Hid (∀j (hj:j<s.length),∃g o,so=some ⟨g,o,none⟩/\g<s0/\Zj W s0 g o s):=fun j hj=>by
  rcases aa with y|⟨_,g,o,h2,h3,_,h5⟩
  ·cases s
   ·simp at hj
   ·simp at y
  ·exact⟨g,o,h2,h3,h5⟩
 have aE:n<=9223372036854775807:=by
  rcases aa with y|⟨_,g,o,_,_,h4,_⟩
  ·cases s
   ·simp at U;omega
   ·simp at y
  ·rw[Xg]at h4
   unfold maxLen at h4;omega
 rw[Xg,<-U];obtain⟨A,D⟩:∃A,A=W.alloc (.cells #[zI k,zT T,zU a,zU b,zU c,zU d,.slice so n ae,zI p] 119):=⟨_,rfl⟩;have af:Hid (Kt s0 W A):=by rw[D];exact Kt.alloc W _
 have av:Hid (A.heap[W.heap.size]? =some (.cells #[zI k,zT T,zU a,zU b,zU c,zU d,.slice so n ae,zI p] 119)):=by rw[D];exact Qx W _ rfl
 have aw:Hid (J G A):=by rw[D];exact hY.alloc hJ _
 have HY:Hid (Yr s0 l N J Jx):=hY;have HN:=hid hN;have ag:Hid (n=s.length):=U;have HL:=hid hl;have ah:=hid D;clear hJ hY hN hl U D aa;refine callsIn_of_wp func271 rfl trivial ?_ rfl;simp only[ntmps271,List.size_toArray,List.length_cons,List.length_nil,Nat.reduceAdd,Nat.reduceSub,Array.replicate_succ,Array.replicate_zero,List.push_toArray,List.append_toArray,List.nil_append,List.cons_append]
 gi_wp2
 rw[<-ah.out];clear ah
 gi_loopw [16] (fun i wr=>∃j:Nat,i=zI (j:Int)/\j<=n/\Hid (∃q,tps q=rfL (s.take j)/\J (G++q) wr)/\Hid (Kt s0 A wr)) (fun i _=>n-(intOf i).toNat)
 case atStart=>exact⟨0,rfl,Nat.zero_le _,⟨[],by rw[List.take_zero,rfL];rfl,by rw[List.append_nil];exact aw.out⟩,hid (Kt.refl _)⟩
 case round=>
  obtain⟨j,rfl,hj,V,Y⟩:=hrel;by_cases hjn:j<n
  ·have aF:(j:Int)<(n:Int):=by omega
   have a0:decide ((j:Int)<(n:Int))=true:=by simp;omega
   have E:j<s.length:=by rw[<-ag.out];exact hjn
   obtain⟨⟨c0,c1,c2,c3,c4,c5,c6,c7⟩,_⟩:=Qf (Y.out.eight av.out);have ax:Kt s0 W wr:=af.out.trans Y.out;obtain⟨g,o,rfl,hg,ai⟩:=HC.out j E;obtain⟨k1,T1,a1,b1,aj,d1,ak,n1,al,p1,am,z0,z1,z2,z3,z4,z5,z6,z7⟩:=Mx (Zj.kept (fun q c u h hu=>ax.cell h hu) hg s o ai) j E;have aG:g<wr.heap.size:=World.block_lt_of_cell? wr _ z0;obtain⟨q,h,Z⟩:=V.out;obtain⟨rr,ab⟩:=y0i s (j+1);have ac:=y0h s j E;have ao:(G++q).length+(rfT s[j]).length<=N:=by
    have y:=HL.out;rw[ab,ac]at y;have h2:=congrArg List.length h;rw[y0g]at h2;simp only[List.length_append]at y ⊢;omega
   have K2:=hid (Kt.alloc (s0:=s0) wr (.cells #[zI k1,zT T1,zU a1,zU b1,zU aj,zU d1,.slice ak n1 al,zI p1] 119));have HS:=hid (HN.out s[j] (List.getElem_mem E) (m-1) _ (G++q) (wr.alloc (.cells #[zI k1,zT T1,zU a1,zU b1,zU aj,zU d1,.slice ak n1 al,zI p1] 119)) (Qw.kept (fun g o u hg hu=>K2.out.cell hg hu) _ _ am) (ar.out.get j E) (HY.out.alloc Z _) ao);have HQ:Hid (tps q=rfL (s.take j)):=h;have ap:=hid ac;have ay:=hid ab;clear Z h ao am ai ab ac V;dsimp only[r8]at HS
   gi_wp2
   refine⟨trivial,au _,HS.out.mono ?_⟩;clear HS z0 z1 z2 z3 z4 z5 z6 z7;rintro e W4 (⟨rfl,⟨q2,ad,az⟩,aA⟩|⟨rfl,q2,ad,aB⟩)
   ·gi_wp2
    go_roundw
    case rel=>exact⟨j+1,by go_num,by omega,hid ⟨q++q2,by rw[Ph,HQ.out,ad,ap.out],by rw[<-List.append_assoc];exact az⟩,hid ((Y.out.trans K2.out).trans aA)⟩
    case measure=>simp[intOf];omega
   ·gi_wp2
    go_ret;refine .inr ⟨rfl,q++q2,?_,by rw[<-List.append_assoc];exact aB⟩;obtain⟨r,hr⟩:=ad;refine⟨r++rr,?_⟩;rw[ay.out,ap.out,<-hr,Ph,HQ.out];simp
  ·have a0:decide ((j:Int)<(n:Int))=false:=by simp;omega
   have aq:s.take j=s:=List.take_of_length_le (by rw[<-ag.out];omega);rw[aq]at V;clear aq
   gi_wp2
   go_ret;obtain⟨q,h,Z⟩:=V.out;exact .inl ⟨rfl,⟨q,h,Z⟩,af.out.trans Y.out⟩
theorem z2m(o:Yr s0 l N J Jx):∀(Q:Nat) (t:RT),SizeOf.sizeOf t<Q->YR s0 l N J Jx t
 |0,t,h=>by omega
 |Q+1,.mk k T a b c d s p,h=>by
  by_cases hk:k=5
  ·subst hk
   exact y0j o T a b c d p s
  ·refine y0k o k hk T a b c d p s fun t r=>z2m o Q t ?_
   have y:=List.sizeOf_lt_of_mem r;simp only[RT.mk.sizeOf_spec]at h;omega
end
end
section
open Go.RowKit Go.Shelf
attribute [local go_sem] Oper.semAt_some
section
variable {s0 l N:Nat} {J Jx:List Nq->World->Prop}
theorem y0l(y:Yr s0 l N J Jx)(t:RT)(k:Int)(T:zA)(a b c d:Int)(A:Option Addr)(n D:Nat)(p:Int)(m Bt:Nat)(W:World)(V:zH W Bt (.cells #[zI k,zT T,zU a,zU b,zU c,zU d,.slice A n D,zI p] 119))(E:Qw W s0 t (r8 k T a b c d A n D p))(G:RtZ t)(U:J [] W)(hl:(rfT t).length<=N):
  CallsIn Fence.wide m prog 270 #[.func (.yield l) #[] #[],zP Bt 0] W fun e W'=>(∃v,e=.returned v)/\((∃q,tps q=rfT t/\J q W')∨∃q,tps q<+:rfT t/\Jx q W'):=by
 have Y:=Xw;have h:=hid (z2m y _ t (Nat.lt_succ_self _) (m-1) _ [] W E G U (by simpa using hl));obtain⟨⟨c0,c1,c2,c3,c4,c5,c6,c7⟩,_⟩:=Qf V;clear y E G U hl;dsimp only[r8]at h;refine callsIn_of_wp func270 rfl trivial ?_ rfl;simp only[ntmps270,List.size_toArray,List.length_cons,List.length_nil,Nat.reduceAdd,Nat.reduceSub,Array.replicate_succ,Array.replicate_zero,List.push_toArray,List.append_toArray,List.nil_append,List.cons_append]
 gi_wp2
 refine⟨trivial,Y _,h.out.mono ?_⟩;clear h;rintro e W4 (⟨rfl,⟨o,r,Z⟩,ab⟩|⟨rfl,o,r,aa⟩)
 ·gi_wp2
  go_end0
  exact⟨⟨_,rfl⟩,.inl ⟨o,r,Z⟩⟩
 ·gi_wp2
  go_end0
  exact⟨⟨_,rfl⟩,.inr ⟨o,r,aa⟩⟩
end
theorem y0m{s0:Nat}(t:RT)(k:Int)(T:zA)(a b c d:Int)(y:Option Addr)(n D:Nat)(p:Int)(m Bt:Nat)(w:World)(Z:zH w Bt (.cells #[zI k,zT T,zU a,zU b,zU c,zU d,.slice y n D,zI p] 119))(ht:Qw w s0 t (r8 k T a b c d y n D p))(hz:RtZ t):
  SeqStopsK Fence.wide m prog 270 #[zP Bt 0] (fun x:Nq=>#[x.v]) (Kt s0) (fun ys=>tps ys=rfT t) (fun E=>tps E<+:rfT t) (rfT t).length w:=by
 intro l J Jx W hW hJ aa hY h0;have Y:=Kt.below (s0:=s0) hW;have yl:Yr s0 l (rfT t).length J Jx:=by
  refine⟨fun s A B h G=>hJ s A B none h G (fun r e=>by cases e),fun m' E x W1 h hl=> ?_⟩;refine YieldAt.mono (Px rfl m' (hY E x W1 h hl)) fun e' W' hh=> ?_
  rcases hh with⟨U,V,h3⟩|⟨U,V⟩
  ·exact .inl ⟨U,V,h3⟩
  ·exact .inr ⟨U,V⟩
 refine(y0l yl t k T a b c d y n D p m Bt W (Y.eight Z) (Qw.kept (fun g o u G hu=>Y.cell G hu) _ _ ht) hz h0 L0q).mono fun e W' h=> ?_
 exact⟨h.1,h.2⟩
theorem y0n(m:Nat)(k:Int)(T:zA)(a b c d:Int)(h:Option Addr)(n o:Nat)(p:Int)(w:World):CallsIn Fence.wide m prog 237 #[.agg #[zI k,zT T,zU a,zU b,zU c,zU d,.slice h n o,zI p]] w fun e w'=>e=.returned (.func (.func 270) #[] #[zP w.heap.size 0])/\w'=w.alloc (.cells #[zI k,zT T,zU a,zU b,zU c,zU d,.slice h n o,zI p] 119):=by
 refine callsIn_of_wp func237 rfl trivial ?_ rfl;simp only[ntmps237,List.size_toArray,List.length_cons,List.length_nil,Nat.reduceAdd,Nat.reduceSub,Array.replicate_succ,Array.replicate_zero,List.push_toArray,List.append_toArray,List.nil_append,List.cons_append]
 gi_wp2
 go_ret;exact⟨rfl,rfl⟩
end
open Go.RowKit Go.Shelf Go.Maps
theorem Fc:Keyed prog 9:=string_keyed Tryz.underlying9
theorem Mw(w:World):(zeroValue 3).run prog w=.ok (zI 0) w:=by kernel_rfl
def kls(s:ByteArray):Lit:=.string s.data.toList
theorem z2n{a b:ByteArray}(h:kls a=kls b):a=b:=by
 unfold kls at h;injection h with h
 apply ByteArray.ext;exact Array.toList_inj.1 h
theorem Pp(s:ByteArray):WideAt.IsKeyLit (kls s):=trivial
theorem Fl{s:ByteArray}(h:s.size<=maxLen):keyOf prog 9 (.string s)=some (kls s):=WideMaps.keyOf_string_mk Tryz.underlying9 h
def ixN(s:zA):List ByteArray->Nat
 |[]=>0
 |a::r=>if a=s then 0 else ixN s r+1
def inN(s:zA):List ByteArray->Bool
 |[]=>false
 |a::r=>if a=s then true else inN s r
theorem z2o(s x:zA):∀l,inN s (l++[x])=(inN s l||decide (x=s))
 |[]=>by rw[List.nil_append,inN,inN,inN];by_cases h:x=s<;>simp[h]
 |a::r=>by rw[List.cons_append,inN,inN,z2o s x r];by_cases h:a=s<;>simp[h]
theorem z2p(s x:zA):∀l,ixN s (l++[x])=if inN s l then ixN s l else if x=s then l.length else l.length+1
 |[]=>by rw[List.nil_append,ixN,inN];by_cases h:x=s<;>simp[h,ixN]
 |a::r=>by
  rw[List.cons_append,ixN,ixN,inN,z2p s x r];by_cases h:a=s
  ·simp[h]
  ·simp only[h,if_false]
   by_cases h2:inN s r=true
   ·simp[h2]
   ·by_cases h3:x=s<;>simp[h2,h3]
theorem Gh(s:zA):∀l,inN s l=true->ixN s l<l.length
 |[],h=>by simp[inN]at h
 |a::r,h=>by
  rw[inN]at h;rw[ixN];by_cases h2:a=s
  ·simp[h2]
  ·rw[if_neg h2]at h ⊢
   have:=Gh s r h;simp only[List.length_cons];omega
def Pm(W:World)(B:Nat)(l:List ByteArray):Prop:=∃D:DataW Unit,W.ownsMap prog 9 (plainElem prog 3) B l.length D/\∀s,Maps.has D (kls s)=inN s l/\(inN s l=true->D.atKey (kls s) (.lit (.int .i64 0))=.lit (.int .i64 (ixN s l:Nat)))
theorem Pm.made(w:World):Pm (w.alloc (.map #[] 0)) w.heap.size []:=⟨.map [],World.ownsMap_made w _ _ _,fun s=>⟨rfl,fun h=>by simp[inN]at h⟩⟩
theorem Pm.kept{W W':World}{B:Nat}{l:List ByteArray}{row:Option Nat}(h:Pm W B l)(o:W.grownBy W' row)(r:some B≠row):Pm W' B l:=by
 obtain⟨D,y,A⟩:=h;exact⟨D,y.kept o r,A⟩
theorem Pm.below{W W':World}{B base:Nat}{l:List ByteArray}(h:Pm W B l)(o:Below base W W')(r:B<base):Pm W' B l:=by
 obtain⟨D,⟨y,A,E,G,U,V⟩,Y⟩:=h;exact⟨D,⟨y,A,(o.block B r).trans E,G,U,V⟩,Y⟩
theorem Pm.put{W':World}{B:Nat}{l:List ByteArray}{s:ByteArray}{D:DataW Unit}(o:∀s,Maps.has D (kls s)=inN s l/\(inN s l=true->D.atKey (kls s) (.lit (.int .i64 0))=.lit (.int .i64 (ixN s l:Nat))))(r:Maps.IsMap D)(E:inN s l=false)
  (h:W'.ownsMap prog 9 (plainElem prog 3) B (l.length+1) (D.put (kls s) (.lit (.int .i64 (l.length:Nat))))):Pm W' B (l++[s]):=by
 refine⟨_,by rw[List.length_append];exact h,fun x=> ?_⟩;rw[z2o,z2p];by_cases e:s=x
 ·subst e
  rw[E];refine⟨by rw[Maps.has_put_same r (Pp _)];simp,fun _=> ?_⟩;rw[Maps.atKey_put_same r (Pp _)];simp
 ·have y:kls x≠kls s:=fun h=>e (z2n h).symm
  rw[Maps.has_put_other y,Maps.atKey_put_other y,(o x).1];refine⟨by simp[e],fun h=> ?_⟩;have A:inN x l=true:=by simpa [e]using h
  rw[(o x).2 A,if_pos A]
def nmL(rs:List Rr):List ByteArray:=rs.map (·.1)
def Yh(l:List ByteArray):List Rr->Option Int
 |[]=>none
 |x::r=>if inN x.1 l then some x.2.2 else Yh (l++[x.1]) r
def Dz(rs:List Rr):Option Int:=Yh [] rs
theorem z2q(l:List ByteArray)(rs:List Rr)(j:Nat)(h:j<rs.length):Yh l (rs.drop j)=if inN rs[j].1 l then some rs[j].2.2 else Yh (l++[rs[j].1]) (rs.drop (j+1)):=by
 rw[List.drop_eq_getElem_cons h,Yh]
theorem z2r(rs:List Rr)(j:Nat)(h:j<rs.length):nmL (rs.take (j+1))=nmL (rs.take j)++[rs[j].1]:=by
 unfold nmL;rw[show rs.take (j+1)=rs.take j++[rs[j]] by simp,List.map_append];rfl
def rfG:List Rr->List (ByteArray×Int)
 |[]=>[]
 |x::r=>rfT x.2.1++rfG r
theorem Pc:∀(a b:List Rr),rfG (a++b)=rfG a++rfG b
 |[],b=>by rw[List.nil_append,rfG,List.nil_append]
 |x::r,b=>by rw[List.cons_append,rfG,rfG,Pc r b,List.append_assoc]
theorem y0o(s:List Rr)(j:Nat)(h:j<s.length):rfG (s.take (j+1))=rfG (s.take j)++rfT s[j].2.1:=by
 rw[show s.take (j+1)=s.take j++[s[j]] by simp,Pc,rfG,rfG,List.append_nil]
def Xz(l:List ByteArray):List (ByteArray×Int)->Option Int
 |[]=>none
 |x::r=>if inN x.1 l then Xz l r else some x.2
theorem Kj(l:List ByteArray):∀(a b:List (ByteArray×Int)),Xz l (a++b)=match Xz l a with|some p=>some p|none=>Xz l b
 |[],b=>by rw[List.nil_append,Xz]
 |x::r,b=>by
  rw[List.cons_append,Xz,Xz,Kj l r b];by_cases h:inN x.1 l=true
  ·rw[if_pos h,if_pos h]
  ·rw[if_neg h,if_neg h]
def ckR(rs:List Rr):Option (Int×Int):=match Dz rs with
 |some p=>some (30,p)
 |none=>match Xz (nmL rs) (rfG rs)with
  |some p=>some (31,p)
  |none=>none
def CkP(w:World)(rs:List Rr)(e:Ending)(w':World):Prop:=zB w w'/\
 ((∃c p g,ckR rs=some (c,p)/\e=.returned (.tuple #[.map none,.iface 181 (zP g 0)])/\w.heap.size<=g/\w'.heap[g]? =some (.cells #[zI c,zI p] 183))∨
  (∃M,ckR rs=none/\e=.returned (.tuple #[.map (some M),.nilIface])/\w.heap.size<=M/\Pm w' M (nmL rs)))
def Kp3(w W2:World)(M:Nat)(wr:World):Prop:=zB w wr/\M+1+1<=wr.heap.size/\(∀k,k<M->wr.heap[k]? =W2.heap[k]?)/\wr.heap[M+1]? =W2.heap[M+1]?
theorem Kp3.step{w A wr w1:World}{M:Nat}{o:Obj}(h:Kp3 w A M wr)(r:(wr.alloc o).grownBy w1 (some M))(D:w.heap.size<=M):Kp3 w A M w1:=by
 obtain⟨y,Y,E,G⟩:=h;have U:=r.size;rw[World.size_alloc]at U;refine⟨(y.alloc y.size _).grown r (by rw[World.size_alloc];have:=y.size;omega) (fun j e=>by cases e;exact D),by omega,fun k V=> ?_,?_⟩
 ·exact(r.block k (by rw[World.size_alloc];omega) (fun e=>by cases e;omega)).trans ((Below.heap_alloc _ _ _ (by omega)).trans (E k V))
 ·exact(r.block _ (by rw[World.size_alloc];omega) (fun e=>by simp at e)).trans ((Below.heap_alloc _ _ _ (by omega)).trans G)
theorem y0p(n:Int)(w:World):(Instr.makeMap 317 (some (zI n))).run prog w=.ok (.map (some w.heap.size)) (w.alloc (.map #[] 0)):=by kernel_rfl
def Mks(base:Nat):Nat->List Deferred->World->Prop
 |_,[],_=>True
 |lim,d::ds,w=>∃D,d={target:=.collected D,args:=#[]}/\base<=D/\D<lim/\w.heap[D]? =some (.deferred (some []))/\Mks base D ds w
theorem Mks.kept{base:Nat}:∀{o:Nat} {r:List Deferred} {w w':World},Mks base o r w->(∀D,D<o->zH w D (.deferred (some []))->zH w' D (.deferred (some [])))->Mks base o r w'
 |_,[],_,_,_,_=>trivial
 |o,d::r,w,w',h,hk=>by
  obtain⟨D,A,E,y,G,U⟩:=h;exact⟨D,A,E,y,hk D y G,U.kept fun V Y h=>hk V (by omega) h⟩
theorem Mks.below{base S:Nat}{o:List Deferred}{w w':World}(h:Mks base S o w)(r:Below S w w'):Mks base S o w':=h.kept fun D y e=>(r.block D y).trans e
theorem Mks.mono{base:Nat}:∀{o r:Nat} {h:List Deferred} {w:World},Mks base o h w->o<=r->Mks base r h w
 |_,_,[],_,_,_=>trivial
 |_,_,d::h,w,⟨D,h1,h2,h3,h4,h5⟩,hl=>⟨D,h1,h2,Nat.lt_of_lt_of_le h3 hl,h4,h5⟩
def Dk(base:Nat)(w w':World):Prop:=Below base w w'/\∀(k:Nat) (o:Obj),w.heap[k]? =some o->(∀l,o≠.deferred l)->w'.heap[k]? =some o
theorem Eb{F:Fence}{n:Nat}{P:Program}{A:Func}{E:Array Value}{R:Ending->World->Prop}{base:Nat}:∀(r:List Deferred) (G:Nat) (w:World),Mks base G r w->(∀w',Dk base w w'->∃v,(results A E).run P w'=.ok v w'/\R (.returned v) w')->LeavesInM F n P A E R r .returning w
 |[],_,w,_,h=>h w ⟨Below.refl _ _,fun _ _ h _=>h⟩
 |d::r,G,w,⟨D,h1,h2,h3,h4,h5⟩,h=>by
  refine⟨by simp,.inl ⟨D,_,by rw[h1],run_takeDeferred h4,?_⟩⟩;have Y:Below base w (w.putObj D (.deferred none)):=(Below.refl base w).grown (grownBy_putObj' w D _) (by have:=(Array.getElem?_eq_some_iff.1 h4).1;omega) (fun k e=>by cases e;omega);refine Eb r D _ (h5.kept fun Z hD e=>(World.putObj_heap_other (by omega)).trans e) fun w' U=>h w' ⟨Y.trans U.1,fun k o y V=>U.2 k o ?_ V⟩
  refine(World.putObj_heap_other fun e=> ?_).trans y;subst e;rw[h4]at y;cases y;exact V _ rfl
theorem Dk.box{base:Nat}{w w':World}{B:Nat}{t:TypeId}{v:Value}(h:Dk base w w')(o:Boxed w B t v):Boxed w' B t v:=h.2 B _ o (fun l e=>by cases e)
theorem Dk.pm{base:Nat}{w w':World}{B:Nat}{l:List ByteArray}(h:Dk base w w')(o:Pm w B l):Pm w' B l:=by
 obtain⟨D,⟨r,y,A,E,G,U⟩,V⟩:=o;exact⟨D,⟨r,y,h.2 B _ A (fun l e=>by cases e),E,G,U⟩,V⟩
theorem Kp3.below{w r W W':World}{M S:Nat}(h:Kp3 w r M W)(o:Below S W W')(y:w.heap.size<=S)(D:M+1+1<=S):Kp3 w r M W':=
 ⟨h.1.trans (o.mono y),by have:=o.size;have:=h.2.1;omega,fun k A=>(o.block k (by omega)).trans (h.2.2.1 k A),(o.block _ (by omega)).trans h.2.2.2⟩
end Go.Proofs.YtmelafeingcgnaaGreatDoor
