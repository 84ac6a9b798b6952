/- Lemmas for the last text. Conditions: those that each names. -/
import Derived.Test.YtlogolpcipiceaaGreatDoorVX19ToQ4
import Derived.Test.YtlogolpcipiceaaGreatDoorVXMvToP5
import Derived.Test.YtlogolpcipiceaaGreatDoorVY15ToR1
import Derived.RangeFuncNested
import Derived.RangeFuncBound
import Derived.RangeFuncCalls
import Derived.RangeFuncLeaves
import Derived.Shelf.Abstract
import Derived.WalkKit
import Derived.OwnWalkIn
import Derived.TacticsInMore
import Derived.LoopNIn
import Derived.LoopIn
set_option linter.unusedVariables false
set_option maxRecDepth 100000
set_option maxHeartbeats 8000000
namespace Go.Proofs.YtlogolpcipiceaaGreatDoor
open Go.Proofs.Tryz
open Go.RowKit
theorem z1J(C:Nat):∃I:List (Nat×Nat),(∀p∈I,p.1<=p.2/\p.2<256)/\txt C=([91]++Xx I)++[93]/\(C<2^256->uo I=C):=by
 have h:∀p∈(rs C 256).reverse,p.1<=p.2/\p.2<256:=fun p hp=>Fb C 256 p (List.mem_reverse.1 hp)
 refine⟨its (rs C 256).reverse,z1j _ h,?_,fun hC=> ?_⟩
 ·rw[txt,z1g _ (fun p hp=>(h p hp).1)]
 ·rw[z1i,z1h,z7r C hC]
theorem z7W{C:Nat}(hC:C<2^256):Gk (nb (txt C))=.inr (C,(nb (txt C)).size):=by
 obtain⟨I,hI,e1,e2⟩:=z1J C;have hh:Yg (nb (txt C)) 0 ([91]++(Xx I++[93])):=fun j x hj=>by
  rw[Nat.zero_add];exact z7H _ (Lp C) j x (by rw[e1,List.append_assoc];exact hj)
 rw[z7L hI hh,e2 hC,Yc,e1];simp;omega
theorem z1K:Pcs (fun T=>nmS T=true) (fun T=>nb (qt T)) (fun C=>nb (txt C)) where
 nm:=fun T h=>by
  unfold nmS at h;cases hb:bt T 0 with
  |none=>rw[hb]at h;cases h
  |some x=>
   rw[hb]at h;simp at h;obtain⟨⟨h1,h2⟩,h3⟩:=h;exact⟨h1,⟨x,rfl,h2⟩,fun i y hy=>(Lc T _ 0 rfl (Nat.zero_le _)).1 h3 i y (Nat.zero_le _) hy⟩
 qt:=fun T X a hT h=>by
  have h0:bt (nb (qt T)) 0=some 39:=by
   obtain⟨r,hr⟩:=Oq T _ 0 rfl (Nat.zero_le _);rw[Cx _ (Bc T),hr];rfl
  have hz:=(Qh h0).1;have hl:=z1e T _ 0 rfl (Nat.zero_le _) (by omega);rw[if_pos hT]at hl;have hl2:ll (nb (qt T)) 39 0 (0+1) []=.inr (bp T T.size,0+(nb (qt T)).size):=by rw[show 0+(nb (qt T)).size=(nb (qt T)).size from Nat.zero_add _];exact hl
  have hseg:Seg (nb (qt T)) X 0 a (nb (qt T)).size:=fun j hj=>by rw[Nat.zero_add];exact h.2 j hj
  have hx:=hseg.ll (p:=0) (p':=a) (q:=39) (i:=1) L0q hl2;have hb:bt X a=some 39:=by
   have:=h.2 0 hz;rw[Nat.add_zero]at this;rw[this];exact h0
  refine⟨a,hb,?_⟩;unfold Yz;rw[if_neg (by decide),if_pos (.inl rfl),hx];simp only[z7F]
 ct:=fun C X a hC h=>by
  have hs:=z7W hC;obtain⟨I,hI,e1,e2⟩:=z1J C;have h0:bt (nb (txt C)) 0=some 91:=by rw[Cx _ (Lp C),e1];rfl
  have hz:=(Qh h0).1;have hb:bt X a=some 91:=by
   have:=h.2 0 hz;rw[Nat.add_zero]at this;rw[this];exact h0
  have hg:Agr (nb (txt C)) (X.extract a X.size) (nb (txt C)).size:=fun j hj=>by
   have:=h.1;rw[Mq X _ _ _ L0q,if_pos (by omega)];exact h.2 j hj
  refine⟨a,hb,?_⟩;unfold Yz;rw[if_neg (by decide),if_neg (by decide),if_pos rfl,hg.cls hs L0q]
theorem z7X{S:ByteArray}{p x:Nat}(hb:bt S p=some x)(hl:Zq x=true)(h32:ne S p-p<=32):nmS (S.extract p (ne S p))=true:=by
 have hp:=(Qh hb).1;have hne:=Al (S:=S) (k:=p) (by omega);have hgt:p<ne S p:=by
  have h2:=Al (S:=S) (k:=p+1) (by omega);rw[Fg hb,hl];simp only[Bool.true_or,if_true];omega
 have hsz:(S.extract p (ne S p)).size=ne S p-p:=by rw[ByteArray.size_extract];omega
 have hb0:bt (S.extract p (ne S p)) 0=some x:=by rw[Mq _ _ _ _ hne.2,if_pos (by omega),Nat.add_zero];exact hb
 have hall:∀f k,ne S p-k=f->p<=k->k<=ne S p->ne S k=ne S p->∀j y,k<=j->j<ne S p->bt S j=some y->(Zq y||Jj y)=true:=by
  intro f
  induction f with
  |zero=>intro k h1 h2 h3 _ j y h4 h5;omega
  |succ f ih=>
   intro k h1 h2 h3 h6 j y h4 h5 hy;cases hk:bt S k with
   |none=>have:=Xv hk;omega
   |some z=>
    rw[Fg hk]at h6;cases hz:(Zq z||Jj z)with
    |false=>rw[hz]at h6;simp at h6;omega
    |true=>
     rw[hz]at h6;simp only[if_true]at h6;rcases Nat.lt_or_ge k j with h7|h7
     ·exact ih (k+1) (by omega) (by omega) (by omega) h6 j y (by omega) h5 hy
     ·obtain rfl:j=k:=by omega
      rw[hk]at hy;cases hy;exact hz
 unfold nmS;rw[hb0];simp only[Bool.and_eq_true,decide_eq_true_eq];refine⟨⟨by omega,hl⟩,?_⟩;refine(Lc _ _ 0 rfl (Nat.zero_le _)).2 fun i y _ hy=> ?_
 have hi:=(Qh hy).1;rw[Mq _ _ _ _ hne.2,if_pos (by omega)]at hy;exact hall _ p rfl L0q hne.1 rfl (p+i) y (by omega) (by omega) hy
theorem z7Y{S:ByteArray}{p x n:Nat}{t:Tok}(hb:bt S p=some x)(h:Yz S p x=.inr (t,n)):Vh (fun T=>nmS T=true) t:=by
 have hc:=(Db hb h).2.2.1;unfold Yz at h;split at h
 ·rename_i hl
  split at h
  ·cases h
  ·rename_i h32
   simp only[Sum.inr.injEq,Prod.mk.injEq]at h;obtain⟨rfl,_⟩:=h;exact⟨fun _=>⟨z7X hb hl (by omega),rfl⟩,(fun e=>by cases e),(fun e=>by cases e),(fun e=>by cases e),hc⟩
 ·split at h
  ·split at h
   ·cases h
   ·rename_i l m hm
    simp only[Sum.inr.injEq,Prod.mk.injEq]at h;obtain⟨rfl,_⟩:=h;have:=z0h hm;exact⟨(fun e=>by cases e),fun _=>⟨by show(nb l).size<=255;rw[Yc];omega,rfl⟩,(fun e=>by cases e),(fun e=>by cases e),hc⟩
  ·split at h
   ·split at h
    ·cases h
    ·simp only[Sum.inr.injEq,Prod.mk.injEq]at h
     obtain⟨rfl,_⟩:=h;exact⟨(fun e=>by cases e),(fun e=>by cases e),fun _=>rfl,(fun e=>by cases e),hc⟩
   ·split at h
    ·simp only[Sum.inr.injEq,Prod.mk.injEq]at h
     obtain⟨rfl,_⟩:=h;exact⟨(fun e=>by cases e),(fun e=>by cases e),(fun e=>by cases e),(fun e=>by cases e),hc⟩
    ·split at h
     ·simp only[Sum.inr.injEq,Prod.mk.injEq]at h
      obtain⟨rfl,_⟩:=h;exact⟨(fun e=>by cases e),(fun e=>by cases e),(fun e=>by cases e),fun _=>rfl,hc⟩
     ·cases h
theorem z1L(S:ByteArray):∀(f k:Nat) (acc L:List Tok),tkl S f k acc=.inr L->(∀t∈acc,Vh (fun T=>nmS T=true) t)->∀t∈L,Vh (fun T=>nmS T=true) t
 |0,k,acc,L,h,ha=>by
  rw[tkl]at h;simp only[Sum.inr.injEq]at h;subst h;exact ha
 |f+1,k,acc,L,h,ha=>by
  rw[tkl]at h;split at h
  ·simp only[Sum.inr.injEq]at h
   subst h;exact ha
  ·rename_i x hb
   split at h
   ·cases h
   ·rename_i t n ht
    exact z1L S f _ _ L h (fun u hu=>by
     rcases List.mem_append.1 hu with h|h
     ·exact ha u h
     ·simp at h;rw[h];exact z7Y hb ht)
theorem Px{S:ByteArray}{rs:List Rl}(h:Vj S=.inr rs):∀x∈rs,Ruk (fun T=>nmS T=true) x/\(eN x.2.1=false->dN x.2.1<=24):=by
 unfold Vj at h;cases ht:tkS S with
 |inl c=>rw[ht]at h;cases h
 |inr L=>
  rw[ht]at h;obtain⟨m,hm,rfl⟩:=z1b ht;have hg:=z1L S _ _ _ _ hm (fun t ht=>by simp at ht);have hk:∀k,Vh (fun T=>nmS T=true) (gL (m++[(6,{data:=#[]},0,S.size)]) k):=fun k=>by
   rcases Nat.lt_or_ge k m.length with hl|hl
   ·rw[z0K hl]
    exact hg _ (List.getElem_mem hl)
   ·rw[z0L hl]
    have e6:∀p,Vh (fun T=>nmS T=true) (6,{data:=#[]},0,p):=fun p=>⟨(fun e=>by cases e),(fun e=>by cases e),(fun e=>by cases e),(fun e=>by cases e),by show(0:Nat)<2^256;decide⟩
    match k-m.length with
    |0=>exact e6 _
    |j+1=>exact e6 _
  exact fun x hx=>⟨z7P hk h x hx,z7V h x hx⟩
section
open Go.Shelf
attribute [local go_sem] Oper.semAt_some
theorem Xy(k:Nat):Fence.wide.depth.isSome=true->1<=k:=fun h=>by cases h
@[reducible] def v8 (kd:Nat) (T:ByteArray) (C:Nat) (sv:Value) (p:Int):List Value:=
  [.int .i64 kd,.string T,.int .u64 (wd C 0),.int .u64 (wd C 1),.int .u64 (wd C 2),.int .u64 (wd C 3),sv,.int .i64 p]
mutual
def NdV(s0:Nat)(w:World):Nd->List Value->Prop
 | .mk kd T C s _,cs=>∃so cap p,cs=v8 kd T C (.slice so (Jv s) cap) p/\(s.isEmpty=true∨(s.isEmpty=false/\∃g o,so=some ⟨g,o,none⟩/\g<s0/\Jv s<=maxLen/\Xh s0 w g o s))
def Xh(s0:Nat)(w:World)(g:Nat):Nat->List Nd->Prop
 |_,[]=>True
 |o,n::r=>(∃cs,NdV s0 w n cs/\∀j u,cs[j]? =some u->w.cell? ⟨g,o+j,none⟩=some u)/\Xh s0 w g (o+8) r
end
mutual
theorem NdV.kept{w w':World}{s0:Nat}(h:∀g o u,g<s0->w.cell? ⟨g,o,none⟩=some u->w'.cell? ⟨g,o,none⟩=some u):∀(t:Nd) (cs:List Value),NdV s0 w t cs->NdV s0 w' t cs
 | .mk kd T C s p,cs,ht=>by
   rw[NdV]at ht ⊢;obtain⟨so,cap,p,rfl,ht⟩:=ht;refine⟨so,cap,p,rfl,?_⟩;rcases ht with h1|⟨h1,g,o,h2,h3,h4,h5⟩
   ·exact .inl h1
   ·exact .inr ⟨h1,g,o,h2,h3,h4,Xh.kept h h3 s o h5⟩
theorem Xh.kept{w w':World}{s0 g:Nat}(h:∀g o u,g<s0->w.cell? ⟨g,o,none⟩=some u->w'.cell? ⟨g,o,none⟩=some u)(hg:g<s0):∀(s:List Nd) (o:Nat),Xh s0 w g o s->Xh s0 w' g o s
 |[],o,_=>by rw[Xh];trivial
 |t::r,o,ht=>by
  rw[Xh]at ht ⊢;obtain⟨⟨cs,h1,h2⟩,h3⟩:=ht;exact⟨⟨cs,NdV.kept h t cs h1,fun j u hj=>h g _ u hg (h2 j u hj)⟩,Xh.kept h hg r _ h3⟩
end
def Kt(s0:Nat)(W W':World):Prop:=W.heap.size<=W'.heap.size/\(∀(j:Nat) (cur:Array Value) (t:TypeId),(t=71∨t=73∨t=24)->W.heap[j]? =some (.cells cur t)->W'.heap[j]? =W.heap[j]?)/\(∀(j:Nat) (v:Value),W.cell? ⟨5,j,none⟩=some v->W'.cell? ⟨5,j,none⟩=some v)/\(∀j,j<s0->∀o,W.heap[j]? =some o->W'.heap[j]? =some o)
section
variable {s0:Nat}
theorem Kt.refl(W:World):Kt s0 W W:=⟨Nat.le_refl _,fun _ _ _ _ _=>rfl,fun _ _ h=>h,fun _ _ _ h=>h⟩
theorem Kt.trans{A B C:World}(h:Kt s0 A B)(k:Kt s0 B C):Kt s0 A C:=⟨Nat.le_trans h.1 k.1,fun j cur t ht hj=>(k.2.1 j cur t ht ((h.2.1 j cur t ht hj).trans hj)).trans (h.2.1 j cur t ht hj),fun j v hv=>k.2.2.1 j v (h.2.2.1 j v hv),fun j hj o ho=>k.2.2.2 j hj o (h.2.2.2 j hj o ho)⟩
theorem Kt.below{W W':World}(h:Below W.heap.size W W'):Kt s0 W W':=⟨h.size,fun j cur t _ hj=>h.block j (by
 rcases Nat.lt_or_ge j W.heap.size with h1|h1
 ·exact h1
 ·rw[Array.getElem?_eq_none h1]at hj;cases hj),fun j v hv=>(h.cell (p:=⟨5,j,none⟩) (World.block_lt_of_cell? W _ hv)).trans hv,fun j _ o ho=>(h.block j (Array.getElem?_eq_some_iff.1 ho).1).trans ho⟩
theorem Kt.tab{W W':World}(h:Kt s0 W W')(hT:TabIs W):TabIs W':=fun j hj=>h.2.2.1 j _ (hT j hj)
theorem Kt.alloc(W:World)(o:Obj):Kt s0 W (W.alloc o):=Kt.below ((Below.refl _ W).alloc L0q o)
theorem Kt.cell{W W':World}(h:Kt s0 W W'){g o:Nat}{u:Value}(hg:g<s0)(hu:W.cell? ⟨g,o,none⟩=some u):W'.cell? ⟨g,o,none⟩=some u:=by
 have hl:=World.block_lt_of_cell? W _ hu;have e:W'.heap[g]? =W.heap[g]? :=(h.2.2.2 g hg _ (Array.getElem?_eq_getElem hl)).trans (Array.getElem?_eq_getElem hl).symm;exact(World.cell?_of_block (w:=W) (a:=⟨g,o,none⟩) e).trans hu
theorem Kt.node{W W':World}(h:Kt s0 W W'){n:Nd}{cs:List Value}(hn:NdV s0 W n cs):NdV s0 W' n cs:=NdV.kept (fun g o u hg hu=>h.cell hg hu) _ _ hn
theorem Kt.eight{W W':World}(h:Kt s0 W W'){g:Nat}{a b c d e f i k:Value}(hg:W.heap[g]? =some (.cells #[a,b,c,d,e,f,i,k] 71)):W'.heap[g]? =some (.cells #[a,b,c,d,e,f,i,k] 71):=
 (h.2.1 g _ _ (.inl rfl) hg).trans hg
end
structure Yl (s0 l N:Nat) (J Jx:List ByteArray->World->Prop):Prop where
 grow:∀s A B,J s A->A.grownBy B none->J s B
 call:∀m pre x W,J pre W->pre.length<N->x.size<=4096->YieldAt Fence.wide m prog l #[.string x] W fun e W'=>
  (e=.returned (.bool true)/\J (pre++[x]) W'/\Kt s0 W W')∨(e=.returned (.bool false)/\Jx (pre++[x]) W')
def Yp(s0:Nat)(J Jx:List ByteArray->World->Prop)(pre ps:List ByteArray)(W:World)(e:Ending)(W':World):Prop:=
 (e=.returned (.bool true)/\J (pre++ps) W'/\Kt s0 W W')∨(e=.returned (.bool false)/\∃q,q<+:ps/\Jx (pre++q) W')
def YN(s0 l N:Nat)(J Jx:List ByteArray->World->Prop)(QT:ByteArray->ByteArray)(CT:Nat->ByteArray)(n:Nd):Prop:=
 ∀(m:Nat) (cs:List Value) (pre:List ByteArray) (W:World),NdV s0 W n cs->TabIs W->J pre W->pre.length+(pN QT CT n).length<=N->
  CallsIn Fence.wide m prog 295 #[.agg cs.toArray,.func (.yield l) #[] #[]] W (Yp s0 J Jx pre (pN QT CT n) W)
section
variable {s0 l N:Nat} {J Jx:List ByteArray->World->Prop} {QT:ByteArray->ByteArray} {CT:Nat->ByteArray}
theorem Yl.alloc(h:Yl s0 l N J Jx){s:List ByteArray}{A:World}(hs:J s A)(o:Obj):J s (A.alloc o):=h.grow s A _ hs (World.grownBy_alloc A o none)
theorem z1M{W:World}{kd:Nat}{T:ByteArray}{C pn:Nat}{s:List Nd}{cs:List Value}(h:NdV s0 W (.mk kd T C s pn) cs):∃so sl sc p,cs=v8 kd T C (.slice so sl sc) p:=by
 rw[NdV]at h;obtain⟨so,cap,p,rfl,_⟩:=h;exact⟨_,_,_,_,rfl⟩
theorem z1N(hY:Yl s0 l N J Jx){n:Nd}(hN:YN s0 l N J Jx QT CT n)(over m:Nat)(cs:List Value)(pre:List ByteArray)(W:World)(ho1:6<=over)(ho2:over<=12)(hk1:1<=n.kd)(hk2:n.kd<=12)(hn:NdV s0 W n cs)(hT:TabIs W)(hJ:J pre W)(hl:pre.length+(pP QT CT over n).length<=N):
  CallsIn Fence.wide m prog 308 #[.int .i64 over,.agg cs.toArray,.func (.yield l) #[] #[]] W (Yp s0 J Jx pre (pP QT CT over n) W):=by
 obtain⟨kd,T,C,s,pn⟩:=n;have hk1':1<=kd:=hk1;have hk2':kd<=12:=hk2;obtain⟨so,sl,sc,p,rfl⟩:=z1M hn;have HWr:=hid (fun w:World=>z7g over kd w ho1 ho2 hk1' hk2');have hdd:=Xy;cases hw:wr over kd with
 |false=>
  rw[hw]at HWr;have ep:pP QT CT over (.mk kd T C s pn)=pN QT CT (.mk kd T C s pn):=by
   unfold pP;rw[show(Nd.mk kd T C s pn).kd=kd from rfl,hw];rfl
  rw[ep]at hl ⊢;have HI:=hid (fun o:Obj=>hN (m-1) _ pre (W.alloc o) ((Kt.alloc W o).node hn) ((Kt.alloc (s0:=s0) W o).tab hT) (hY.alloc hJ o) hl);clear hn hN hJ hl ep hw hT;dsimp only[v8]at HI ⊢;refine callsIn_of_wp func308 rfl trivial ?_ rfl;simp only[ntmps308,List.size_toArray,List.length_cons,List.length_nil,Nat.reduceAdd,Nat.reduceSub,Array.replicate_succ,Array.replicate_zero,List.push_toArray,List.append_toArray,List.nil_append,List.cons_append]
  gi_wp2_with (first
   |(refine⟨trivial,hdd _,?_⟩;gi_at_call 311;refine(callsIn_wide.2 (HWr.out _)).mono ?_;rintro e W1 ⟨rfl,rfl⟩)
   |(refine⟨trivial,hdd _,?_⟩;gi_at_call 295;refine(HI.out _).mono ?_;rintro e W2 (⟨rfl,hJ2,hb2⟩|⟨rfl,q,hq,hx⟩)))
  ·go_ret
   exact .inl ⟨rfl,hJ2,(Kt.alloc W _).trans hb2⟩
  ·go_ret
   exact .inr ⟨rfl,q,hq,hx⟩
 |true=>
  rw[hw]at HWr;have ep:pP QT CT over (.mk kd T C s pn)=bO::(pN QT CT (.mk kd T C s pn)++[bC]):=by
   unfold pP;rw[show(Nd.mk kd T C s pn).kd=kd from rfl,hw];rfl
  rw[ep]at hl ⊢;simp only[List.length_cons,List.length_append,List.length_nil]at hl;obtain⟨ps,hps⟩:∃ps,ps=pN QT CT (.mk kd T C s pn):=⟨_,rfl⟩;have HW0:Hid ((W.alloc (.cells #[.int .i64 kd,.string T,.int .u64 (wd C 0),.int .u64 (wd C 1),.int .u64 (wd C 2),.int .u64 (wd C 3),.slice so sl sc,.int .i64 p] 71)).heap[W.heap.size]? =some (.cells #[.int .i64 kd,.string T,.int .u64 (wd C 0),.int .u64 (wd C 1),.int .u64 (wd C 2),.int .u64 (wd C 3),.slice so sl sc,.int .i64 p] 71)):=Qx W _ rfl;have HI:=hid (fun(W2:World) (hJ2:J (pre++[bO]) W2) (hk:Kt s0 W W2)=>hN (m-1) _ (pre++[bO]) W2 (hk.node hn) (hk.tab hT) hJ2 (by simp;omega));have HY1:=hid (fun o:Obj=>hY.call (m-1) pre bO (W.alloc o) (hY.alloc hJ o) (by omega) (by decide));have HY3:=hid (fun(W3:World) (hJ3:J (pre++[bO]++ps) W3)=>hY.call (m-1) _ bC W3 hJ3 (by rw[hps];simp;omega) (by decide));rw[<-hps]at HI ⊢;clear hn hN hJ hl ep hw hps hY hT;dsimp only[v8]at HI ⊢;obtain⟨fn,tmps,assign,Qg,hy,hR⟩:=HY1.out (.cells #[.int .i64 kd,.string T,.int .u64 (wd C 0),.int .u64 (wd C 1),.int .u64 (wd C 2),.int .u64 (wd C 3),.slice so sl sc,.int .i64 p] 71);have HR:=hid hR;clear hR HY1;unfold bO at hy;refine callsIn_of_wp func308 rfl trivial ?_ rfl;simp only[ntmps308,List.size_toArray,List.length_cons,List.length_nil,Nat.reduceAdd,Nat.reduceSub,Array.replicate_succ,Array.replicate_zero,List.push_toArray,List.append_toArray,List.nil_append,List.cons_append]
  gi_wp2_with (first
   |(refine⟨trivial,hdd _,?_⟩;gi_at_call 311;refine(callsIn_wide.2 (HWr.out _)).mono ?_;rintro e W1 ⟨rfl,rfl⟩))
  refine⟨hdd _,HR.out.mono ?_⟩;clear HR hy;rintro e W2 (⟨rfl,hJ2,hk2⟩|⟨rfl,hx2⟩)
  ·have hb2:=hk2.eight HW0.out
   obtain⟨⟨c0,c1,c2,c3,c4,c5,c6,c7⟩,_⟩:=Qw hb2;have HI2:Hid (CallsIn Fence.wide (m-1) prog 295 #[.agg #[.int .i64 kd,.string T,.int .u64 (wd C 0),.int .u64 (wd C 1),.int .u64 (wd C 2),.int .u64 (wd C 3),.slice so sl sc,.int .i64 p],.func (.yield l) #[] #[]] W2 fun e W3=>(e=.returned (.bool true)/\YieldAt Fence.wide (m-1) prog l #[.string {data:=#[41]}] W3 (fun e W4=>(e=.returned (.bool true)/\J (pre++[bO]++ps++[bC]) W4/\Kt s0 W W4)∨(e=.returned (.bool false)/\Jx (pre++[bO]++ps++[bC]) W4)))∨(e=.returned (.bool false)/\∃q,q<+:ps/\Jx (pre++[bO]++q) W3)):=
    (HI.out W2 hJ2 ((Kt.alloc W _).trans hk2)).mono fun e W3 h=>h.elim
      (fun⟨he,hj,hk3⟩=>.inl ⟨he,YieldAt.mono (HY3.out W3 hj) fun e W4 h=>h.elim (fun⟨he,hj,hk4⟩=>.inl ⟨he,hj,(((Kt.alloc W _).trans hk2).trans hk3).trans hk4⟩) .inr⟩) .inr
   clear HI HY3 hJ2 hk2 hb2 HW0
   gi_wp2_with (first
    |(refine⟨trivial,hdd _,?_⟩;gi_at_call 295;refine HI2.out.mono ?_;clear HI2;rintro e W3 (⟨rfl,fn3,tmps3,as3,bd3,hy3,hR3⟩|⟨rfl,q,hq,hx3⟩))
    |(refine⟨hdd _,?_⟩;refine hR3.mono ?_;clear hR3;rintro e W4 (⟨rfl,hJ4,hk4⟩|⟨rfl,hx4⟩)))
   ·go_ret
    exact .inl ⟨rfl,by simpa [List.append_assoc]using hJ4,hk4⟩
   ·go_ret
    exact .inr ⟨rfl,bO::(ps++[bC]),List.prefix_refl _,by simpa [List.append_assoc]using hx4⟩
   ·refine⟨fun _ h=>(by cases h),?_⟩
    gi_wp2
    go_ret;obtain⟨r,hr⟩:=hq;exact .inr ⟨rfl,bO::q,⟨r++[bC],by rw[<-hr];simp⟩,by simpa [List.append_assoc]using hx3⟩
  ·clear HI HY3 HW0
   gi_wp2
   refine⟨trivial,?_⟩
   gi_wp2
   refine⟨fun _ h=>(by cases h),?_⟩
   gi_wp2
   go_ret;exact .inr ⟨rfl,[bO],⟨ps++[bC],rfl⟩,hx2⟩
end
end
section
open Go.Shelf
attribute [local go_sem] Oper.semAt_some
section
variable {s0 l N:Nat} {J Jx:List ByteArray->World->Prop} {QT:ByteArray->ByteArray} {CT:Nat->ByteArray}
theorem z1O(over:Nat)(sep:ByteArray)(n:Nd):∀(s:List Nd),pB QT CT over sep (s++[n])=pB QT CT over sep s++(sep::pP QT CT over n)
 |[]=>by rw[List.nil_append,Fm,Og,List.append_nil,List.nil_append]
 |a::r=>by rw[List.cons_append,Fm,Fm,z1O over sep n r];simp
theorem z7Z(over:Nat)(sep:ByteArray)(n:Nd):∀(s:List Nd),s≠[]->pS QT CT over sep (s++[n])=pS QT CT over sep s++(sep::pP QT CT over n)
 |[],h=>absurd rfl h
 |a::r,_=>by rw[List.cons_append,Fd,Fd,z1O];simp
theorem z8a(over:Nat)(sep:ByteArray)(n:Nd):pS QT CT over sep [n]=pP QT CT over n:=by rw[Fd,Og,List.append_nil]
theorem z8b{s:List Nd}{j:Nat}(hj:j<s.length):s.take (j+1)=s.take j++[s[j]]:=by simp
theorem z8c(over:Nat)(sep:ByteArray):∀(s t:List Nd),∃r,pS QT CT over sep (s++t)=pS QT CT over sep s++r
 |[],t=>⟨_,by rw[List.nil_append,pS,List.nil_append]⟩
 |a::r,t=>by
  have h:∀(u v:List Nd),∃r,pB QT CT over sep (u++v)=pB QT CT over sep u++r:=fun u v=>by
   induction u with
   |nil=>exact⟨_,by rw[List.nil_append,pB,List.nil_append]⟩
   |cons b q ih=>
    obtain⟨x,hx⟩:=ih;exact⟨x,by rw[List.cons_append,Fm,Fm,hx];simp⟩
  obtain⟨x,hx⟩:=h r t;exact⟨x,by rw[List.cons_append,Fd,Fd,hx,List.append_assoc]⟩
theorem z8d(over:Nat)(sep:ByteArray)(s:List Nd)(j:Nat):∃r,pS QT CT over sep s=pS QT CT over sep (s.take j)++r:=by
 have:=z8c (QT:=QT) (CT:=CT) over sep (s.take j) (s.drop j);rw[List.take_append_drop]at this;exact this
theorem z8e(over:Nat)(sep:ByteArray)(s:List Nd)(j:Nat)(hj:j<s.length):pS QT CT over sep (s.take (j+1))=pS QT CT over sep (s.take j)++((if j=0 then []else [sep])++pP QT CT over s[j]):=by
 rw[z8b hj];by_cases h0:j=0
 ·subst h0
  rw[List.take_zero,List.nil_append,z8a,pS,if_pos rfl];rfl
 ·rw[z7Z over sep s[j] (s.take j) (fun e=>by
   have h:=congrArg List.length e;rw[List.length_take,List.length_nil]at h;omega),if_neg h0]
  rfl
theorem NdV.shape{w:World}{n:Nd}{cs:List Value}(h:NdV s0 w n cs):∃kd T C so sl sc p,cs=v8 kd T C (.slice so sl sc) p:=by
 cases n;rw[NdV]at h;obtain⟨so,cap,p,rfl,_⟩:=h;exact⟨_,_,_,_,_,_,_,rfl⟩
def Cv(w:World)(g o:Nat)(kd:Nat)(T:ByteArray)(C:Nat)(sv:Value)(p:Int):Prop:=w.cell? ⟨g,o,none⟩=some (.int .i64 kd)/\w.cell? ⟨g,o+1,none⟩=some (.string T)/\w.cell? ⟨g,o+2,none⟩=some (.int .u64 (wd C 0))/\w.cell? ⟨g,o+3,none⟩=some (.int .u64 (wd C 1))/\w.cell? ⟨g,o+4,none⟩=some (.int .u64 (wd C 2))/\w.cell? ⟨g,o+5,none⟩=some (.int .u64 (wd C 3))/\w.cell? ⟨g,o+6,none⟩=some sv/\w.cell? ⟨g,o+7,none⟩=some (.int .i64 p)
theorem Pj{w:World}{g:Nat}:∀{s:List Nd} {o:Nat},Xh s0 w g o s->∀(k:Nat) (hk:k<s.length),∃kd T C so sl sc p,NdV s0 w s[k] (v8 kd T C (.slice so sl sc) p)/\Cv w g (o+k*8) kd T C (.slice so sl sc) p
 |[],o,h,k,hk=>by simp at hk
 |t::r,o,h,0,hk=>by
  rw[Xh]at h;obtain⟨⟨cs,h1,h2⟩,_⟩:=h;obtain⟨kd,T,C,so,sl,sc,p,rfl⟩:=h1.shape;refine⟨kd,T,C,so,sl,sc,p,h1,?_⟩;rw[Nat.zero_mul,Nat.add_zero];exact⟨h2 0 _ rfl,h2 1 _ rfl,h2 2 _ rfl,h2 3 _ rfl,h2 4 _ rfl,h2 5 _ rfl,h2 6 _ rfl,h2 7 _ rfl⟩
 |t::r,o,h,k+1,hk=>by
  rw[Xh]at h;obtain⟨kd,T,C,so,sl,sc,p,h1,h2⟩:=Pj h.2 k (by simpa using hk);refine⟨kd,T,C,so,sl,sc,p,h1,?_⟩;rw[show o+(k+1)*8=o+8+k*8 by omega];exact h2
theorem z8f{w:World}{kd:Nat}{T:ByteArray}{C pn:Nat}{s:List Nd}{cs:List Value}(h:NdV s0 w (.mk kd T C s pn) cs)(hs:s.isEmpty=false):∃g o cap p,cs=v8 kd T C (.slice (some ⟨g,o,none⟩) s.length cap) p/\g<s0/\s.length<=maxLen/\Xh s0 w g o s:=by
 rw[NdV]at h;obtain⟨so,cap,p,rfl,h1|⟨_,g,o,rfl,hg,hm,h4⟩⟩:=h
 ·rw[hs]at h1;cases h1
 ·exact⟨g,o,cap,p,by rw[Dh],hg,by rw[<-Dh];exact hm,h4⟩
theorem z8g{w:World}{g o:Nat}{s:List Nd}(h:Xh s0 w g o s)(hs:0<s.length):g<w.heap.size:=by
 obtain⟨kd,T,C,so,sl,sc,p,_,h2⟩:=Pj h 0 hs;exact World.block_lt_of_cell? w _ h2.1
theorem z8h(hY:Yl s0 l N J Jx){kd:Nat}{T:ByteArray}{C pn:Nat}{s:List Nd}(hs:s.isEmpty=false)(hN:∀n∈s,YN s0 l N J Jx QT CT n/\1<=n.kd/\n.kd<=12)(sep:ByteArray)(hsep:sep.size<=4096)(m:Nat)(cs:List Value)(pre:List ByteArray)(W:World)(ho1:6<=kd)(ho2:kd<=12)(hn:NdV s0 W (.mk kd T C s pn) cs)(hT:TabIs W)(hJ:J pre W)(hl:pre.length+(pS QT CT kd sep s).length<=N):
  CallsIn Fence.wide m prog 302 #[.agg cs.toArray,.string sep,.func (.yield l) #[] #[]] W (Yp s0 J Jx pre (pS QT CT kd sep s) W):=by
 obtain⟨g,o,cap,p,rfl,hg,hlen,hns⟩:=z8f hn hs;unfold maxLen at hlen;obtain⟨n,hnl⟩:∃n,n=s.length:=⟨_,rfl⟩;have hdd:=Xy;obtain⟨W1,hW1⟩:∃W1,W1=W.alloc (.cells #[.int .i64 kd,.string T,.int .u64 (wd C 0),.int .u64 (wd C 1),.int .u64 (wd C 2),.int .u64 (wd C 3),.slice (some ⟨g,o,none⟩) n cap,.int .i64 p] 71):=⟨_,rfl⟩;have HK1:Hid (Kt s0 W W1):=by rw[hW1];exact Kt.alloc W _
 have HB1:Hid (W1.heap[W.heap.size]? =some (.cells #[.int .i64 kd,.string T,.int .u64 (wd C 0),.int .u64 (wd C 1),.int .u64 (wd C 2),.int .u64 (wd C 3),.slice (some ⟨g,o,none⟩) n cap,.int .i64 p] 71)):=by rw[hW1];exact Qx W _ rfl
 have HJ1:Hid (J pre W1):=by rw[hW1];exact hY.alloc hJ _
 have HG:Hid (g<s0/\Xh s0 W g o s):=⟨hg,hns⟩;have HY:Hid (Yl s0 l N J Jx):=hY;have HN:=hid hN;have HNl:Hid (n=s.length):=hnl;have HL:=hid hl;have hn6:n<=9223372036854775807:=by omega
 rw[<-hnl];have HW1:=hid hW1;have HT:=hid hT;clear hn hg hns hJ hY hN hl hlen hnl hW1 hT;dsimp only[v8];refine callsIn_of_wp func302 rfl trivial ?_ rfl;simp only[ntmps302,List.size_toArray,List.length_cons,List.length_nil,Nat.reduceAdd,Nat.reduceSub,Array.replicate_succ,Array.replicate_zero,List.push_toArray,List.append_toArray,List.nil_append,List.cons_append]
 gi_wp2
 rw[<-HW1.out];clear HW1
 gi_loopw [12] (fun i wr=>∃j:Nat,i=.int .i64 j/\j<=n/\Hid (J (pre++pS QT CT kd sep (s.take j)) wr)/\Hid (Kt s0 W1 wr)) (fun i _=>n-(intOf i).toNat)
 case atStart=>exact⟨0,rfl,Nat.zero_le _,by rw[List.take_zero,pS,List.append_nil];exact HJ1,hid (Kt.refl _)⟩
 case round=>
  obtain⟨j,rfl,hj,HJr,HKr⟩:=hrel;by_cases hjn:j<n
  ·have hjI:(j:Int)<(n:Int):=by omega
   have a0:decide ((j:Int)<(n:Int))=true:=by simp;omega
   have hjs:j<s.length:=by rw[<-HNl.out];exact hjn
   obtain⟨⟨c0,c1,c2,c3,c4,c5,c6,c7⟩,_⟩:=Qw (HKr.out.eight HB1.out);have hKw:Kt s0 W wr:=HK1.out.trans HKr.out;obtain⟨kd1,T1,C1,so1,sl1,sc1,p1,nd1,z0,z1,z2,z3,z4,z5,z6,z7⟩:=Pj (Xh.kept (fun q c u hq hu=>hKw.cell hq hu) HG.out.1 s o HG.out.2) j hjs;obtain⟨yn,k1,k2⟩:=HN.out s[j] (List.getElem_mem hjs);have hnx:=z8e (QT:=QT) (CT:=CT) kd sep s j hjs;obtain⟨rr,hrr⟩:=z8d (QT:=QT) (CT:=CT) kd sep s (j+1);have hlj:pre.length+(pS QT CT kd sep (s.take j)).length+((if j=0 then []else [sep]).length+(pP QT CT kd s[j]).length)<=N:=by
    have h1:=HL.out;rw[hrr,hnx]at h1;simp only[List.length_append]at h1;omega
   have HRR:=hid hrr;have HNX:=hid hnx;obtain⟨dn,hdn⟩:∃dn,dn=pS QT CT kd sep (s.take j):=⟨_,rfl⟩;rw[<-hdn]at HJr HNX hlj;obtain⟨pp,hpp⟩:∃pp,pp=pP QT CT kd s[j]:=⟨_,rfl⟩;have HPP:=hid hpp;have K2:=hid (Kt.alloc (s0:=s0) wr (.cells #[.int .i64 kd1,.string T1,.int .u64 (wd C1 0),.int .u64 (wd C1 1),.int .u64 (wd C1 2),.int .u64 (wd C1 3),.slice so1 sl1 sc1,.int .i64 p1] 71));have B2:Hid ((wr.alloc (.cells #[.int .i64 kd1,.string T1,.int .u64 (wd C1 0),.int .u64 (wd C1 1),.int .u64 (wd C1 2),.int .u64 (wd C1 3),.slice so1 sl1 sc1,.int .i64 p1] 71)).heap[wr.heap.size]? =some (.cells #[.int .i64 kd1,.string T1,.int .u64 (wd C1 0),.int .u64 (wd C1 1),.int .u64 (wd C1 2),.int .u64 (wd C1 3),.slice so1 sl1 sc1,.int .i64 p1] 71)):=Qx wr _ rfl;have J2:=hid (HY.out.alloc HJr.out (.cells #[.int .i64 kd1,.string T1,.int .u64 (wd C1 0),.int .u64 (wd C1 1),.int .u64 (wd C1 2),.int .u64 (wd C1 3),.slice so1 sl1 sc1,.int .i64 p1] 71));have hBl:W.heap.size<wr.heap.size:=Qz (HKr.out.eight HB1.out);have hgl:g<wr.heap.size:=Nat.lt_of_lt_of_le (z8g HG.out.2 (by omega)) hKw.1;by_cases hj0:j=0
   ·have hj0I:decide ((0:Int)<(j:Int))=false:=by simp;omega
    have hj0N:¬0<j:=by omega
    have hj0D:decide (0<j)=false:=by simp;omega
    have HP:=hid (z1N HY.out yn kd (m-1) _ (pre++dn) (wr.alloc (.cells #[.int .i64 kd1,.string T1,.int .u64 (wd C1 0),.int .u64 (wd C1 1),.int .u64 (wd C1 2),.int .u64 (wd C1 3),.slice so1 sl1 sc1,.int .i64 p1] 71)) ho1 ho2 k1 k2 (K2.out.node nd1) (K2.out.tab (hKw.tab HT.out)) J2.out (by rw[if_pos hj0]at hlj;simp at hlj ⊢;omega));rw[if_pos hj0,List.nil_append]at HNX;rw[<-hpp]at HP HNX;clear hnx hrr hlj nd1 yn hdn hpp hj0 J2 hKw HN;dsimp only[v8]at HP
    gi_wp2
    refine⟨fun _ h=>(by cases h),?_⟩
    gi_wp2_with (first|(refine⟨trivial,hdd _,?_⟩;gi_at_call 308;refine HP.out.mono ?_;clear HP;rintro e W3 (⟨rfl,hJ3,hk3⟩|⟨rfl,q,hq,hx⟩)))
    ·go_roundw
     case rel=>exact⟨j+1,by go_num,by omega,hid (by rw[HNX.out,<-List.append_assoc];exact hJ3),hid ((HKr.out.trans K2.out).trans hk3)⟩
     case measure=>simp[intOf];omega
    ·go_ret
     obtain⟨r,hr⟩:=hq;exact .inr ⟨rfl,dn++q,⟨r++rr,by rw[HRR.out,HNX.out,<-hr];simp⟩,by rw[<-List.append_assoc];exact hx⟩
   ·have hj0I:decide ((0:Int)<(j:Int))=true:=by simp;omega
    have hj0N:0<j:=by omega
    have hj0D:decide (0<j)=true:=by simp;omega
    obtain⟨fn,tmps,assign,Qg,hy,hR⟩:=HY.out.call (m-1) (pre++dn) sep (wr.alloc (.cells #[.int .i64 kd1,.string T1,.int .u64 (wd C1 0),.int .u64 (wd C1 1),.int .u64 (wd C1 2),.int .u64 (wd C1 3),.slice so1 sl1 sc1,.int .i64 p1] 71)) J2.out (by rw[if_neg hj0]at hlj;simp at hlj ⊢;omega) hsep;have HR:=hid hR;have HP:=hid (fun(W3:World) (hJ3:J (pre++dn++[sep]) W3) (hk3:Kt s0 (wr.alloc (.cells #[.int .i64 kd1,.string T1,.int .u64 (wd C1 0),.int .u64 (wd C1 1),.int .u64 (wd C1 2),.int .u64 (wd C1 3),.slice so1 sl1 sc1,.int .i64 p1] 71)) W3)=>z1N HY.out yn kd (m-1) _ (pre++dn++[sep]) W3 ho1 ho2 k1 k2 (hk3.node (K2.out.node nd1)) (hk3.tab (K2.out.tab (hKw.tab HT.out))) hJ3 (by rw[if_neg hj0]at hlj;simp at hlj ⊢;omega));rw[if_neg hj0]at HNX;rw[<-hpp]at HP HNX;clear hnx hrr hlj nd1 yn hdn hpp hj0 J2 hKw HN hR;dsimp only[v8]at HP
    gi_wp2
    refine⟨hdd _,HR.out.mono ?_⟩;clear HR hy c0 c1 c2 c3 c4 c5 c6 c7 z0 z1 z2 z3 z4 z5 z6 z7;rintro e W3 (⟨rfl,hJ3,hk3⟩|⟨rfl,hx3⟩)
    ·obtain⟨⟨c0,c1,c2,c3,c4,c5,c6,c7⟩,_⟩:=Qw (((HKr.out.trans K2.out).trans hk3).eight HB1.out)
     obtain⟨⟨d0,d1,d2,d3,d4,d5,d6,d7⟩,_⟩:=Qw (hk3.eight B2.out);have HP3:=hid (HP.out W3 hJ3 hk3);have HK3:=hid hk3;clear HP hJ3 hk3
     gi_wp2_with (first|(refine⟨trivial,hdd _,?_⟩;gi_at_call 308;refine HP3.out.mono ?_;clear HP3;rintro e W4 (⟨rfl,hJ4,hk4⟩|⟨rfl,q,hq,hx⟩)))
     ·go_roundw
      case rel=>exact⟨j+1,by go_num,by omega,hid (by rw[HNX.out];simpa [List.append_assoc]using hJ4),hid (((HKr.out.trans K2.out).trans HK3.out).trans hk4)⟩
      case measure=>simp[intOf];omega
     ·go_ret
      obtain⟨r,hr⟩:=hq;exact .inr ⟨rfl,dn++([sep]++q),⟨r++rr,by rw[HRR.out,HNX.out,<-hr];simp⟩,by simpa [List.append_assoc]using hx⟩
    ·clear HP
     gi_wp2
     go_ret;exact .inr ⟨rfl,dn++[sep],⟨pp++rr,by rw[HRR.out,HNX.out];simp⟩,by simpa [List.append_assoc]using hx3⟩
  ·have a0:decide ((j:Int)<(n:Int))=false:=by simp;omega
   have hjn':s.take j=s:=List.take_of_length_le (by rw[<-HNl.out];omega);rw[hjn']at HJr;clear hjn'
   gi_wp2
   go_ret;exact .inl ⟨rfl,HJr.out,HK1.out.trans HKr.out⟩
end
end
end Go.Proofs.YtlogolpcipiceaaGreatDoor
