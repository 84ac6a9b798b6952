/- Lemmas for the last text. Conditions: those that each names. -/
import Derived.Test.YtgnkkgcgbeianaaGreatDoorVQ3ToQ4
import Derived.Test.YtgnkkgcgbeianaaGreatDoorVXMvToP5
import Derived.Test.YtgnkkgcgbeianaaGreatDoorVY14ToR1
import Derived.RangeFuncNested
import Derived.RangeFuncBound
import Derived.RangeFuncCalls
import Derived.RangeFuncLeaves
import Derived.Shelf.Abstract
import Derived.WalkKit
import Derived.OwnWalkIn
import Derived.TacticsInMore
import Derived.LoopNIn
import Derived.LoopIn
set_option linter.unusedVariables false
set_option maxRecDepth 100000
set_option maxHeartbeats 8000000
namespace Go.Proofs.YtgnkkgcgbeianaaGreatDoor
open Go.Proofs.Tryz
open Go.RowKit
theorem z3h(C:Nat):∃I:List (Nat×Nat),(∀p∈I,p.1<=p.2/\p.2<256)/\txt C=([91]++Xf I)++[93]/\(C<2^256->uo I=C):=by
 have h:∀p∈(rs C 256).reverse,p.1<=p.2/\p.2<256:=fun p o=>Dd C 256 p (List.mem_reverse.1 o)
 refine⟨its (rs C 256).reverse,z2I _ h,?_,fun r=> ?_⟩
 ·rw[txt,z2F _ (fun p o=>(h p o).1)]
 ·rw[z2H,z2G,y0u C r]
theorem y0Y{C:Nat}(o:C<2^256):Fx (nb (txt C))=.inr (C,(nb (txt C)).size):=by
 obtain⟨I,r,h,t⟩:=z3h C;have y:Vj (nb (txt C)) 0 ([91]++(Xf I++[93])):=fun j x A=>by
  rw[Nat.zero_add];exact y0J _ (Sk C) j x (by rw[h,List.append_assoc];exact A)
 rw[y0N r y,t o,Vz,h];simp;omega
theorem z3i:Pcs (fun T=>nmS T=true) (fun T=>nb (qt T)) (fun C=>nb (txt C)) where
 nm:=fun T h=>by
  unfold nmS at h;cases o:bt T 0 with
  |none=>rw[o]at h;cases h
  |some x=>
   rw[o]at h;simp at h;obtain⟨⟨E,G⟩,U⟩:=h;exact⟨E,⟨x,rfl,G⟩,fun i y V=>(Sv T _ 0 rfl (Nat.zero_le _)).1 U i y (Nat.zero_le _) V⟩
 qt:=fun T X a Y h=>by
  have t:bt (nb (qt T)) 0=some 39:=by
   obtain⟨r,Z⟩:=Sf T _ 0 rfl (Nat.zero_le _);rw[Em _ (Eg T),Z];rfl
  have A:=(Qp t).1;have hl:=z2D T _ 0 rfl (Nat.zero_le _) (by omega);rw[if_pos Y]at hl;have aa:ll (nb (qt T)) 39 0 (0+1) []=.inr (bp T T.size,0+(nb (qt T)).size):=by rw[show 0+(nb (qt T)).size=(nb (qt T)).size from Nat.zero_add _];exact hl
  have ab:Seg (nb (qt T)) X 0 a (nb (qt T)).size:=fun j D=>by rw[Nat.zero_add];exact h.2 j D
  have hx:=ab.ll (p:=0) (p':=a) (q:=39) (i:=1) L0q aa;have o:bt X a=some 39:=by
   have:=h.2 0 A;rw[Nat.add_zero]at this;rw[this];exact t
  refine⟨a,o,?_⟩;unfold Yh;rw[if_neg (by decide),if_pos (.inl rfl),hx];simp only[y0H]
 ct:=fun C X a hC h=>by
  have hs:=y0Y hC;obtain⟨I,hI,e1,e2⟩:=z3h C;have t:bt (nb (txt C)) 0=some 91:=by rw[Em _ (Sk C),e1];rfl
  have A:=(Qp t).1;have o:bt X a=some 91:=by
   have:=h.2 0 A;rw[Nat.add_zero]at this;rw[this];exact t
  have hg:Agr (nb (txt C)) (X.extract a X.size) (nb (txt C)).size:=fun j D=>by
   have:=h.1;rw[Sh X _ _ _ L0q,if_pos (by omega)];exact h.2 j D
  refine⟨a,o,?_⟩;unfold Yh;rw[if_neg (by decide),if_neg (by decide),if_pos rfl,hg.cls hs L0q]
theorem y0Z{S:ByteArray}{p x:Nat}(r:bt S p=some x)(hl:Zw x=true)(Z:ne S p-p<=32):nmS (S.extract p (ne S p))=true:=by
 have hp:=(Qp r).1;have t:=Ch (S:=S) (k:=p) (by omega);have aa:p<ne S p:=by
  have A:=Ch (S:=S) (k:=p+1) (by omega);rw[Dh r,hl];simp only[Bool.true_or,if_true];omega
 have ab:(S.extract p (ne S p)).size=ne S p-p:=by rw[ByteArray.size_extract];omega
 have E:bt (S.extract p (ne S p)) 0=some x:=by rw[Sh _ _ _ _ t.2,if_pos (by omega),Nat.add_zero];exact r
 have G:∀f k,ne S p-k=f->p<=k->k<=ne S p->ne S k=ne S p->∀j y,k<=j->j<ne S p->bt S j=some y->(Zw y||Gq y)=true:=by
  intro f
  induction f with
  |zero=>intro k I A U _ j y V D;omega
  |succ f ih=>
   intro k I A U o j y V D h;cases hk:bt S k with
   |none=>have:=Xw hk;omega
   |some z=>
    rw[Dh hk]at o;cases hz:(Zw z||Gq z)with
    |false=>rw[hz]at o;simp at o;omega
    |true=>
     rw[hz]at o;simp only[if_true]at o;rcases Nat.lt_or_ge k j with Y|Y
     ·exact ih (k+1) (by omega) (by omega) (by omega) o j y (by omega) D h
     ·obtain rfl:j=k:=by omega
      rw[hk]at h;cases h;exact hz
 unfold nmS;rw[E];simp only[Bool.and_eq_true,decide_eq_true_eq];refine⟨⟨by omega,hl⟩,?_⟩;refine(Sv _ _ 0 rfl (Nat.zero_le _)).2 fun i y _ h=> ?_
 have hi:=(Qp h).1;rw[Sh _ _ _ _ t.2,if_pos (by omega)]at h;exact G _ p rfl L0q t.1 rfl (p+i) y (by omega) (by omega) h
theorem y1a{S:ByteArray}{p x n:Nat}{t:Tok}(r:bt S p=some x)(h:Yh S p x=.inr (t,n)):Ux (fun T=>nmS T=true) t:=by
 have o:=(Kd r h).2.2.1;unfold Yh at h;split at h
 ·rename_i hl
  split at h
  ·cases h
  ·rename_i A
   simp only[Sum.inr.injEq,Prod.mk.injEq]at h;obtain⟨rfl,_⟩:=h;exact⟨fun _=>⟨y0Z r hl (by omega),rfl⟩,(fun e=>by cases e),(fun e=>by cases e),(fun e=>by cases e),o⟩
 ·split at h
  ·split at h
   ·cases h
   ·rename_i l m y
    simp only[Sum.inr.injEq,Prod.mk.injEq]at h;obtain⟨rfl,_⟩:=h;have:=z1I y;exact⟨(fun e=>by cases e),fun _=>⟨by show(nb l).size<=255;rw[Vz];omega,rfl⟩,(fun e=>by cases e),(fun e=>by cases e),o⟩
  ·split at h
   ·split at h
    ·cases h
    ·simp only[Sum.inr.injEq,Prod.mk.injEq]at h
     obtain⟨rfl,_⟩:=h;exact⟨(fun e=>by cases e),(fun e=>by cases e),fun _=>rfl,(fun e=>by cases e),o⟩
   ·split at h
    ·simp only[Sum.inr.injEq,Prod.mk.injEq]at h
     obtain⟨rfl,_⟩:=h;exact⟨(fun e=>by cases e),(fun e=>by cases e),(fun e=>by cases e),(fun e=>by cases e),o⟩
    ·split at h
     ·simp only[Sum.inr.injEq,Prod.mk.injEq]at h
      obtain⟨rfl,_⟩:=h;exact⟨(fun e=>by cases e),(fun e=>by cases e),(fun e=>by cases e),fun _=>rfl,o⟩
     ·cases h
theorem z3j(S:ByteArray):∀(f k:Nat) (acc L:List Tok),tkl S f k acc=.inr L->(∀t∈acc,Ux (fun T=>nmS T=true) t)->∀t∈L,Ux (fun T=>nmS T=true) t
 |0,k,acc,L,h,ha=>by
  rw[tkl]at h;simp only[Sum.inr.injEq]at h;subst h;exact ha
 |f+1,k,acc,L,h,ha=>by
  rw[tkl]at h;split at h
  ·simp only[Sum.inr.injEq]at h
   subst h;exact ha
  ·rename_i x o
   split at h
   ·cases h
   ·rename_i t n r
    exact z3j S f _ _ L h (fun u y=>by
     rcases List.mem_append.1 y with h|h
     ·exact ha u h
     ·simp at h;rw[h];exact y1a o r)
theorem Tg{S:ByteArray}{rs:List Rl}(h:Vb S=.inr rs):∀x∈rs,Ruk (fun T=>nmS T=true) x/\(eN x.2.1=false->dN x.2.1<=24):=by
 unfold Vb at h;cases o:tkS S with
 |inl c=>rw[o]at h;cases h
 |inr L=>
  rw[o]at h;obtain⟨m,y,rfl⟩:=z2A o;have A:=z3j S _ _ _ _ y (fun t o=>by simp at o);have D:∀k,Ux (fun T=>nmS T=true) (gL (m++[(6,{data:=#[]},0,S.size)]) k):=fun k=>by
   rcases Nat.lt_or_ge k m.length with hl|hl
   ·rw[z2j hl]
    exact A _ (List.getElem_mem hl)
   ·rw[z2k hl]
    have r:∀p,Ux (fun T=>nmS T=true) (6,{data:=#[]},0,p):=fun p=>⟨(fun e=>by cases e),(fun e=>by cases e),(fun e=>by cases e),(fun e=>by cases e),by show(0:Nat)<2^256;decide⟩
    match k-m.length with
    |0=>exact r _
    |j+1=>exact r _
  exact fun x hx=>⟨y0R D h x hx,y0X h x hx⟩
section
open Go.Shelf
attribute [local go_sem] Oper.semAt_some
theorem Xm(k:Nat):Fence.wide.depth.isSome=true->1<=k:=fun h=>by cases h
@[reducible] def v8 (kd:Nat) (T:ByteArray) (C:Nat) (sv:Value) (p:Int):List Value:=
  [.int .i64 kd,.string T,.int .u64 (wd C 0),.int .u64 (wd C 1),.int .u64 (wd C 2),.int .u64 (wd C 3),sv,.int .i64 p]
mutual
def NdV(s0:Nat)(w:World):Nd->List Value->Prop
 | .mk kd T C s _,cs=>∃so cap p,cs=v8 kd T C (.slice so (Gk s) cap) p/\(s.isEmpty=true∨(s.isEmpty=false/\∃g o,so=some ⟨g,o,none⟩/\g<s0/\Gk s<=maxLen/\Yk s0 w g o s))
def Yk(s0:Nat)(w:World)(g:Nat):Nat->List Nd->Prop
 |_,[]=>True
 |o,n::r=>(∃cs,NdV s0 w n cs/\∀j u,cs[j]? =some u->w.cell? ⟨g,o+j,none⟩=some u)/\Yk s0 w g (o+8) r
end
mutual
theorem NdV.kept{w w':World}{s0:Nat}(h:∀g o u,g<s0->w.cell? ⟨g,o,none⟩=some u->w'.cell? ⟨g,o,none⟩=some u):∀(t:Nd) (y:List Value),NdV s0 w t y->NdV s0 w' t y
 | .mk kd T C s p,y,r=>by
   rw[NdV]at r ⊢;obtain⟨E,G,p,rfl,r⟩:=r;refine⟨E,G,p,rfl,?_⟩;rcases r with A|⟨A,g,o,I,D,U,V⟩
   ·exact .inl A
   ·exact .inr ⟨A,g,o,I,D,U,Yk.kept h D s o V⟩
theorem Yk.kept{w w':World}{s0 g:Nat}(h:∀g o u,g<s0->w.cell? ⟨g,o,none⟩=some u->w'.cell? ⟨g,o,none⟩=some u)(y:g<s0):∀(s:List Nd) (o:Nat),Yk s0 w g o s->Yk s0 w' g o s
 |[],o,_=>by rw[Yk];trivial
 |t::r,o,ht=>by
  rw[Yk]at ht ⊢;obtain⟨⟨A,D,E⟩,G⟩:=ht;exact⟨⟨A,NdV.kept h t A D,fun j u I=>h g _ u y (E j u I)⟩,Yk.kept h y r _ G⟩
end
def Kt(s0:Nat)(W W':World):Prop:=W.heap.size<=W'.heap.size/\(∀(j:Nat) (cur:Array Value) (t:TypeId),(t=81∨t=83∨t=43)->W.heap[j]? =some (.cells cur t)->W'.heap[j]? =W.heap[j]?)/\(∀(j:Nat) (v:Value),W.cell? ⟨5,j,none⟩=some v->W'.cell? ⟨5,j,none⟩=some v)/\(∀j,j<s0->∀o,W.heap[j]? =some o->W'.heap[j]? =some o)
section
variable {s0:Nat}
theorem Kt.refl(W:World):Kt s0 W W:=⟨Nat.le_refl _,fun _ _ _ _ _=>rfl,fun _ _ h=>h,fun _ _ _ h=>h⟩
theorem Kt.trans{A B C:World}(h:Kt s0 A B)(k:Kt s0 B C):Kt s0 A C:=⟨Nat.le_trans h.1 k.1,fun j cur t y r=>(k.2.1 j cur t y ((h.2.1 j cur t y r).trans r)).trans (h.2.1 j cur t y r),fun j v D=>k.2.2.1 j v (h.2.2.1 j v D),fun j r o E=>k.2.2.2 j r o (h.2.2.2 j r o E)⟩
theorem Kt.below{W W':World}(h:Below W.heap.size W W'):Kt s0 W W':=⟨h.size,fun j cur t _ y=>h.block j (by
 rcases Nat.lt_or_ge j W.heap.size with r|r
 ·exact r
 ·rw[Array.getElem?_eq_none r]at y;cases y),fun j v A=>(h.cell (p:=⟨5,j,none⟩) (World.block_lt_of_cell? W _ A)).trans A,fun j _ o D=>(h.block j (Array.getElem?_eq_some_iff.1 D).1).trans D⟩
theorem Kt.tab{W W':World}(h:Kt s0 W W')(o:TabIs W):TabIs W':=fun j r=>h.2.2.1 j _ (o j r)
theorem Kt.alloc(W:World)(o:Obj):Kt s0 W (W.alloc o):=Kt.below ((Below.refl _ W).alloc L0q o)
theorem Kt.cell{W W':World}(h:Kt s0 W W'){g o:Nat}{u:Value}(t:g<s0)(r:W.cell? ⟨g,o,none⟩=some u):W'.cell? ⟨g,o,none⟩=some u:=by
 have hl:=World.block_lt_of_cell? W _ r;have e:W'.heap[g]? =W.heap[g]? :=(h.2.2.2 g t _ (Array.getElem?_eq_getElem hl)).trans (Array.getElem?_eq_getElem hl).symm;exact(World.cell?_of_block (w:=W) (a:=⟨g,o,none⟩) e).trans r
theorem Kt.node{W W':World}(h:Kt s0 W W'){n:Nd}{r:List Value}(t:NdV s0 W n r):NdV s0 W' n r:=NdV.kept (fun g o u y A=>h.cell y A) _ _ t
theorem Kt.eight{W W':World}(h:Kt s0 W W'){g:Nat}{a b c d e f i k:Value}(o:W.heap[g]? =some (.cells #[a,b,c,d,e,f,i,k] 81)):W'.heap[g]? =some (.cells #[a,b,c,d,e,f,i,k] 81):=
 (h.2.1 g _ _ (.inl rfl) o).trans o
end
structure Yl (s0 l N:Nat) (J Jx:List ByteArray->World->Prop):Prop where
 grow:∀s A B,J s A->A.grownBy B none->J s B
 call:∀m pre x W,J pre W->pre.length<N->x.size<=4096->YieldAt Fence.wide m prog l #[.string x] W fun e W'=>
  (e=.returned (.bool true)/\J (pre++[x]) W'/\Kt s0 W W')∨(e=.returned (.bool false)/\Jx (pre++[x]) W')
def Yp(s0:Nat)(J Jx:List ByteArray->World->Prop)(pre ps:List ByteArray)(W:World)(e:Ending)(W':World):Prop:=
 (e=.returned (.bool true)/\J (pre++ps) W'/\Kt s0 W W')∨(e=.returned (.bool false)/\∃q,q<+:ps/\Jx (pre++q) W')
def YN(s0 l N:Nat)(J Jx:List ByteArray->World->Prop)(QT:ByteArray->ByteArray)(CT:Nat->ByteArray)(n:Nd):Prop:=
 ∀(m:Nat) (cs:List Value) (pre:List ByteArray) (W:World),NdV s0 W n cs->TabIs W->J pre W->pre.length+(pN QT CT n).length<=N->
  CallsIn Fence.wide m prog 295 #[.agg cs.toArray,.func (.yield l) #[] #[]] W (Yp s0 J Jx pre (pN QT CT n) W)
section
variable {s0 l N:Nat} {J Jx:List ByteArray->World->Prop} {QT:ByteArray->ByteArray} {CT:Nat->ByteArray}
theorem Yl.alloc(h:Yl s0 l N J Jx){s:List ByteArray}{A:World}(r:J s A)(o:Obj):J s (A.alloc o):=h.grow s A _ r (World.grownBy_alloc A o none)
theorem z3k{W:World}{kd:Nat}{T:ByteArray}{C t:Nat}{s:List Nd}{o:List Value}(h:NdV s0 W (.mk kd T C s t) o):∃r y A p,o=v8 kd T C (.slice r y A) p:=by
 rw[NdV]at h;obtain⟨r,D,p,rfl,_⟩:=h;exact⟨_,_,_,_,rfl⟩
theorem z3l(Z:Yl s0 l N J Jx){n:Nd}(hN:YN s0 l N J Jx QT CT n)(y m:Nat)(cs:List Value)(t:List ByteArray)(W:World)(aj:6<=y)(ak:y<=12)(al:1<=n.kd)(U:n.kd<=12)(hn:NdV s0 W n cs)(hT:TabIs W)(hJ:J t W)(hl:t.length+(pP QT CT y n).length<=N):
  CallsIn Fence.wide m prog 311 #[.int .i64 y,.agg cs.toArray,.func (.yield l) #[] #[]] W (Yp s0 J Jx t (pP QT CT y n) W):=by
 obtain⟨kd,T,C,s,G⟩:=n;have am:1<=kd:=al;have ao:kd<=12:=U;obtain⟨so,sl,sc,p,rfl⟩:=z3k hn;have aa:=hid (fun w:World=>y0j y kd w aj ak am ao);have V:=Xm;cases hw:wr y kd with
 |false=>
  rw[hw]at aa;have ep:pP QT CT y (.mk kd T C s G)=pN QT CT (.mk kd T C s G):=by
   unfold pP;rw[show(Nd.mk kd T C s G).kd=kd from rfl,hw];rfl
  rw[ep]at hl ⊢;have A:=hid (fun o:Obj=>hN (m-1) _ t (W.alloc o) ((Kt.alloc W o).node hn) ((Kt.alloc (s0:=s0) W o).tab hT) (Z.alloc hJ o) hl);clear hn hN hJ hl ep hw hT;dsimp only[v8]at A ⊢;refine callsIn_of_wp func311 rfl trivial ?_ rfl;simp only[ntmps311,List.size_toArray,List.length_cons,List.length_nil,Nat.reduceAdd,Nat.reduceSub,Array.replicate_succ,Array.replicate_zero,List.push_toArray,List.append_toArray,List.nil_append,List.cons_append]
  gi_wp2_with (first
   |(refine⟨trivial,V _,?_⟩;gi_at_call 314;refine(callsIn_wide.2 (aa.out _)).mono ?_;rintro e W1 ⟨rfl,rfl⟩)
   |(refine⟨trivial,V _,?_⟩;gi_at_call 295;refine(A.out _).mono ?_;rintro e I (⟨rfl,Y,ab⟩|⟨rfl,q,hq,hx⟩)))
  ·go_ret
   exact .inl ⟨rfl,Y,(Kt.alloc W _).trans ab⟩
  ·go_ret
   exact .inr ⟨rfl,q,hq,hx⟩
 |true=>
  rw[hw]at aa;have ep:pP QT CT y (.mk kd T C s G)=bO::(pN QT CT (.mk kd T C s G)++[bC]):=by
   unfold pP;rw[show(Nd.mk kd T C s G).kd=kd from rfl,hw];rfl
  rw[ep]at hl ⊢;simp only[List.length_cons,List.length_append,List.length_nil]at hl;obtain⟨D,ac⟩:∃D,D=pN QT CT (.mk kd T C s G):=⟨_,rfl⟩;have ad:Hid ((W.alloc (.cells #[.int .i64 kd,.string T,.int .u64 (wd C 0),.int .u64 (wd C 1),.int .u64 (wd C 2),.int .u64 (wd C 3),.slice so sl sc,.int .i64 p] 81)).heap[W.heap.size]? =some (.cells #[.int .i64 kd,.string T,.int .u64 (wd C 0),.int .u64 (wd C 1),.int .u64 (wd C 2),.int .u64 (wd C 3),.slice so sl sc,.int .i64 p] 81)):=Qx W _ rfl;have A:=hid (fun(I:World) (Y:J (t++[bO]) I) (hk:Kt s0 W I)=>hN (m-1) _ (t++[bO]) I (hk.node hn) (hk.tab hT) Y (by simp;omega));have ag:=hid (fun o:Obj=>Z.call (m-1) t bO (W.alloc o) (Z.alloc hJ o) (by omega) (by decide));have ae:=hid (fun(E:World) (ap:J (t++[bO]++D) E)=>Z.call (m-1) _ bC E ap (by rw[ac];simp;omega) (by decide));rw[<-ac]at A ⊢;clear hn hN hJ hl ep hw ac Z hT;dsimp only[v8]at A ⊢;obtain⟨fn,ax,ay,Qm,hy,hR⟩:=ag.out (.cells #[.int .i64 kd,.string T,.int .u64 (wd C 0),.int .u64 (wd C 1),.int .u64 (wd C 2),.int .u64 (wd C 3),.slice so sl sc,.int .i64 p] 81);have HR:=hid hR;clear hR ag;unfold bO at hy;refine callsIn_of_wp func311 rfl trivial ?_ rfl;simp only[ntmps311,List.size_toArray,List.length_cons,List.length_nil,Nat.reduceAdd,Nat.reduceSub,Array.replicate_succ,Array.replicate_zero,List.push_toArray,List.append_toArray,List.nil_append,List.cons_append]
  gi_wp2_with (first
   |(refine⟨trivial,V _,?_⟩;gi_at_call 314;refine(callsIn_wide.2 (aa.out _)).mono ?_;rintro e W1 ⟨rfl,rfl⟩))
  refine⟨V _,HR.out.mono ?_⟩;clear HR hy;rintro e I (⟨rfl,Y,U⟩|⟨rfl,aq⟩)
  ·have ab:=U.eight ad.out
   obtain⟨⟨c0,c1,c2,c3,c4,c5,c6,c7⟩,_⟩:=Qy ab;have ah:Hid (CallsIn Fence.wide (m-1) prog 295 #[.agg #[.int .i64 kd,.string T,.int .u64 (wd C 0),.int .u64 (wd C 1),.int .u64 (wd C 2),.int .u64 (wd C 3),.slice so sl sc,.int .i64 p],.func (.yield l) #[] #[]] I fun e E=>(e=.returned (.bool true)/\YieldAt Fence.wide (m-1) prog l #[.string {data:=#[41]}] E (fun e W4=>(e=.returned (.bool true)/\J (t++[bO]++D++[bC]) W4/\Kt s0 W W4)∨(e=.returned (.bool false)/\Jx (t++[bO]++D++[bC]) W4)))∨(e=.returned (.bool false)/\∃q,q<+:D/\Jx (t++[bO]++q) E)):=
    (A.out I Y ((Kt.alloc W _).trans U)).mono fun e E h=>h.elim
      (fun⟨he,hj,ar⟩=>.inl ⟨he,YieldAt.mono (ae.out E hj) fun e W4 h=>h.elim (fun⟨he,hj,af⟩=>.inl ⟨he,hj,(((Kt.alloc W _).trans U).trans ar).trans af⟩) .inr⟩) .inr
   clear A ae Y U ab ad
   gi_wp2_with (first
    |(refine⟨trivial,V _,?_⟩;gi_at_call 295;refine ah.out.mono ?_;clear ah;rintro e E (⟨rfl,az,aA,aB,aC,aD,ai⟩|⟨rfl,q,hq,au⟩))
    |(refine⟨V _,?_⟩;refine ai.mono ?_;clear ai;rintro e W4 (⟨rfl,av,af⟩|⟨rfl,aw⟩)))
   ·go_ret
    exact .inl ⟨rfl,by simpa [List.append_assoc]using av,af⟩
   ·go_ret
    exact .inr ⟨rfl,bO::(D++[bC]),List.prefix_refl _,by simpa [List.append_assoc]using aw⟩
   ·refine⟨fun _ h=>(by cases h),?_⟩
    gi_wp2
    go_ret;obtain⟨r,hr⟩:=hq;exact .inr ⟨rfl,bO::q,⟨r++[bC],by rw[<-hr];simp⟩,by simpa [List.append_assoc]using au⟩
  ·clear A ae ad
   gi_wp2
   refine⟨trivial,?_⟩
   gi_wp2
   refine⟨fun _ h=>(by cases h),?_⟩
   gi_wp2
   go_ret;exact .inr ⟨rfl,[bO],⟨D++[bC],rfl⟩,aq⟩
end
end
section
open Go.Shelf
attribute [local go_sem] Oper.semAt_some
section
variable {s0 l N:Nat} {J Jx:List ByteArray->World->Prop} {QT:ByteArray->ByteArray} {CT:Nat->ByteArray}
theorem z3m(h:Nat)(o:ByteArray)(n:Nd):∀(s:List Nd),pB QT CT h o (s++[n])=pB QT CT h o s++(o::pP QT CT h n)
 |[]=>by rw[List.nil_append,Dp,Sl,List.append_nil,List.nil_append]
 |a::r=>by rw[List.cons_append,Dp,Dp,z3m h o n r];simp
theorem y1b(o:Nat)(t:ByteArray)(n:Nd):∀(s:List Nd),s≠[]->pS QT CT o t (s++[n])=pS QT CT o t s++(t::pP QT CT o n)
 |[],h=>absurd rfl h
 |a::r,_=>by rw[List.cons_append,Dm,Dm,z3m];simp
theorem y1c(h:Nat)(o:ByteArray)(n:Nd):pS QT CT h o [n]=pP QT CT h n:=by rw[Dm,Sl,List.append_nil]
theorem y1d{s:List Nd}{j:Nat}(h:j<s.length):s.take (j+1)=s.take j++[s[j]]:=by simp
theorem y1e(o:Nat)(y:ByteArray):∀(s t:List Nd),∃r,pS QT CT o y (s++t)=pS QT CT o y s++r
 |[],t=>⟨_,by rw[List.nil_append,pS,List.nil_append]⟩
 |a::r,t=>by
  have h:∀(u v:List Nd),∃r,pB QT CT o y (u++v)=pB QT CT o y u++r:=fun u v=>by
   induction u with
   |nil=>exact⟨_,by rw[List.nil_append,pB,List.nil_append]⟩
   |cons b q ih=>
    obtain⟨x,hx⟩:=ih;exact⟨x,by rw[List.cons_append,Dp,Dp,hx];simp⟩
  obtain⟨x,hx⟩:=h r t;exact⟨x,by rw[List.cons_append,Dm,Dm,hx,List.append_assoc]⟩
theorem y1f(h:Nat)(o:ByteArray)(s:List Nd)(j:Nat):∃r,pS QT CT h o s=pS QT CT h o (s.take j)++r:=by
 have:=y1e (QT:=QT) (CT:=CT) h o (s.take j) (s.drop j);rw[List.take_append_drop]at this;exact this
theorem y1g(o:Nat)(r:ByteArray)(s:List Nd)(j:Nat)(t:j<s.length):pS QT CT o r (s.take (j+1))=pS QT CT o r (s.take j)++((if j=0 then []else [r])++pP QT CT o s[j]):=by
 rw[y1d t];by_cases h0:j=0
 ·subst h0
  rw[List.take_zero,List.nil_append,y1c,pS,if_pos rfl];rfl
 ·rw[y1b o r s[j] (s.take j) (fun e=>by
   have h:=congrArg List.length e;rw[List.length_take,List.length_nil]at h;omega),if_neg h0]
  rfl
theorem NdV.shape{w:World}{n:Nd}{o:List Value}(h:NdV s0 w n o):∃kd T C r t y p,o=v8 kd T C (.slice r t y) p:=by
 cases n;rw[NdV]at h;obtain⟨r,A,p,rfl,_⟩:=h;exact⟨_,_,_,_,_,_,_,rfl⟩
def Cv(w:World)(g o:Nat)(kd:Nat)(T:ByteArray)(C:Nat)(sv:Value)(p:Int):Prop:=w.cell? ⟨g,o,none⟩=some (.int .i64 kd)/\w.cell? ⟨g,o+1,none⟩=some (.string T)/\w.cell? ⟨g,o+2,none⟩=some (.int .u64 (wd C 0))/\w.cell? ⟨g,o+3,none⟩=some (.int .u64 (wd C 1))/\w.cell? ⟨g,o+4,none⟩=some (.int .u64 (wd C 2))/\w.cell? ⟨g,o+5,none⟩=some (.int .u64 (wd C 3))/\w.cell? ⟨g,o+6,none⟩=some sv/\w.cell? ⟨g,o+7,none⟩=some (.int .i64 p)
theorem Tb{w:World}{g:Nat}:∀{s:List Nd} {o:Nat},Yk s0 w g o s->∀(k:Nat) (G:k<s.length),∃kd T C A D E p,NdV s0 w s[k] (v8 kd T C (.slice A D E) p)/\Cv w g (o+k*8) kd T C (.slice A D E) p
 |[],o,h,k,G=>by simp at G
 |t::r,o,h,0,G=>by
  rw[Yk]at h;obtain⟨⟨U,I,y⟩,_⟩:=h;obtain⟨kd,T,C,A,D,E,p,rfl⟩:=I.shape;refine⟨kd,T,C,A,D,E,p,I,?_⟩;rw[Nat.zero_mul,Nat.add_zero];exact⟨y 0 _ rfl,y 1 _ rfl,y 2 _ rfl,y 3 _ rfl,y 4 _ rfl,y 5 _ rfl,y 6 _ rfl,y 7 _ rfl⟩
 |t::r,o,h,k+1,G=>by
  rw[Yk]at h;obtain⟨kd,T,C,A,D,E,p,I,y⟩:=Tb h.2 k (by simpa using G);refine⟨kd,T,C,A,D,E,p,I,?_⟩;rw[show o+(k+1)*8=o+8+k*8 by omega];exact y
theorem y1h{w:World}{kd:Nat}{T:ByteArray}{C A:Nat}{s:List Nd}{t:List Value}(h:NdV s0 w (.mk kd T C s A) t)(D:s.isEmpty=false):∃g o r p,t=v8 kd T C (.slice (some ⟨g,o,none⟩) s.length r) p/\g<s0/\s.length<=maxLen/\Yk s0 w g o s:=by
 rw[NdV]at h;obtain⟨U,r,p,rfl,y|⟨_,g,o,rfl,E,G,I⟩⟩:=h
 ·rw[D]at y;cases y
 ·exact⟨g,o,r,p,by rw[Km],E,by rw[<-Km];exact G,I⟩
theorem y1i{w:World}{g o:Nat}{s:List Nd}(h:Yk s0 w g o s)(r:0<s.length):g<w.heap.size:=by
 obtain⟨kd,T,C,y,A,D,p,_,t⟩:=Tb h 0 r;exact World.block_lt_of_cell? w _ t.1
theorem y1j(hY:Yl s0 l N J Jx){kd:Nat}{T:ByteArray}{C pn:Nat}{s:List Nd}(hs:s.isEmpty=false)(hN:∀n∈s,YN s0 l N J Jx QT CT n/\1<=n.kd/\n.kd<=12)(y:ByteArray)(aE:y.size<=4096)(m:Nat)(cs:List Value)(A:List ByteArray)(W:World)(au:6<=kd)(av:kd<=12)(hn:NdV s0 W (.mk kd T C s pn) cs)(hT:TabIs W)(hJ:J A W)(hl:A.length+(pS QT CT kd y s).length<=N):
  CallsIn Fence.wide m prog 304 #[.agg cs.toArray,.string y,.func (.yield l) #[] #[]] W (Yp s0 J Jx A (pS QT CT kd y s) W):=by
 obtain⟨g,o,aw,p,rfl,hg,ax,ay⟩:=y1h hn hs;unfold maxLen at ax;obtain⟨n,al⟩:∃n,n=s.length:=⟨_,rfl⟩;have am:=Xm;obtain⟨W1,af⟩:∃W1,W1=W.alloc (.cells #[.int .i64 kd,.string T,.int .u64 (wd C 0),.int .u64 (wd C 1),.int .u64 (wd C 2),.int .u64 (wd C 3),.slice (some ⟨g,o,none⟩) n aw,.int .i64 p] 81):=⟨_,rfl⟩;have az:Hid (Kt s0 W W1):=by rw[af];exact Kt.alloc W _
 have ao:Hid (W1.heap[W.heap.size]? =some (.cells #[.int .i64 kd,.string T,.int .u64 (wd C 0),.int .u64 (wd C 1),.int .u64 (wd C 2),.int .u64 (wd C 3),.slice (some ⟨g,o,none⟩) n aw,.int .i64 p] 81)):=by rw[af];exact Qx W _ rfl
 have aF:Hid (J A W1):=by rw[af];exact hY.alloc hJ _
 have HG:Hid (g<s0/\Yk s0 W g o s):=⟨hg,ay⟩;have HY:Hid (Yl s0 l N J Jx):=hY;have HN:=hid hN;have aA:Hid (n=s.length):=al;have HL:=hid hl;have aN:n<=9223372036854775807:=by omega
 rw[<-al];have aB:=hid af;have HT:=hid hT;clear hn hg ay hJ hY hN hl ax al af hT;dsimp only[v8];refine callsIn_of_wp func304 rfl trivial ?_ rfl;simp only[ntmps304,List.size_toArray,List.length_cons,List.length_nil,Nat.reduceAdd,Nat.reduceSub,Array.replicate_succ,Array.replicate_zero,List.push_toArray,List.append_toArray,List.nil_append,List.cons_append]
 gi_wp2
 rw[<-aB.out];clear aB
 gi_loopw [12] (fun i wr=>∃j:Nat,i=.int .i64 j/\j<=n/\Hid (J (A++pS QT CT kd y (s.take j)) wr)/\Hid (Kt s0 W1 wr)) (fun i _=>n-(intOf i).toNat)
 case atStart=>exact⟨0,rfl,Nat.zero_le _,by rw[List.take_zero,pS,List.append_nil];exact aF,hid (Kt.refl _)⟩
 case round=>
  obtain⟨j,rfl,hj,ah,V⟩:=hrel;by_cases hjn:j<n
  ·have aO:(j:Int)<(n:Int):=by omega
   have a0:decide ((j:Int)<(n:Int))=true:=by simp;omega
   have ap:j<s.length:=by rw[<-aA.out];exact hjn
   obtain⟨⟨c0,c1,c2,c3,c4,c5,c6,c7⟩,_⟩:=Qy (V.out.eight ao.out);have ad:Kt s0 W wr:=az.out.trans V.out;obtain⟨Y,Z,t,aa,ab,ac,p1,ai,z0,z1,z2,z3,z4,z5,z6,z7⟩:=Tb (Yk.kept (fun q c u hq hu=>ad.cell hq hu) HG.out.1 s o HG.out.2) j ap;obtain⟨yn,k1,k2⟩:=HN.out s[j] (List.getElem_mem ap);have aj:=y1g (QT:=QT) (CT:=CT) kd y s j ap;obtain⟨rr,ak⟩:=y1f (QT:=QT) (CT:=CT) kd y s (j+1);have I:A.length+(pS QT CT kd y (s.take j)).length+((if j=0 then []else [y]).length+(pP QT CT kd s[j]).length)<=N:=by
    have h1:=HL.out;rw[ak,aj]at h1;simp only[List.length_append]at h1;omega
   have aq:=hid ak;have D:=hid aj;obtain⟨U,ar⟩:∃U,U=pS QT CT kd y (s.take j):=⟨_,rfl⟩;rw[<-ar]at ah D I;obtain⟨pp,ag⟩:∃pp,pp=pP QT CT kd s[j]:=⟨_,rfl⟩;have aP:=hid ag;have K2:=hid (Kt.alloc (s0:=s0) wr (.cells #[.int .i64 Y,.string Z,.int .u64 (wd t 0),.int .u64 (wd t 1),.int .u64 (wd t 2),.int .u64 (wd t 3),.slice aa ab ac,.int .i64 p1] 81));have B2:Hid ((wr.alloc (.cells #[.int .i64 Y,.string Z,.int .u64 (wd t 0),.int .u64 (wd t 1),.int .u64 (wd t 2),.int .u64 (wd t 3),.slice aa ab ac,.int .i64 p1] 81)).heap[wr.heap.size]? =some (.cells #[.int .i64 Y,.string Z,.int .u64 (wd t 0),.int .u64 (wd t 1),.int .u64 (wd t 2),.int .u64 (wd t 3),.slice aa ab ac,.int .i64 p1] 81)):=Qx wr _ rfl;have J2:=hid (HY.out.alloc ah.out (.cells #[.int .i64 Y,.string Z,.int .u64 (wd t 0),.int .u64 (wd t 1),.int .u64 (wd t 2),.int .u64 (wd t 3),.slice aa ab ac,.int .i64 p1] 81));have aQ:W.heap.size<wr.heap.size:=Qq (V.out.eight ao.out);have aR:g<wr.heap.size:=Nat.lt_of_lt_of_le (y1i HG.out.2 (by omega)) ad.1;by_cases hj0:j=0
   ·have aG:decide ((0:Int)<(j:Int))=false:=by simp;omega
    have aH:¬0<j:=by omega
    have aI:decide (0<j)=false:=by simp;omega
    have E:=hid (z3l HY.out yn kd (m-1) _ (A++U) (wr.alloc (.cells #[.int .i64 Y,.string Z,.int .u64 (wd t 0),.int .u64 (wd t 1),.int .u64 (wd t 2),.int .u64 (wd t 3),.slice aa ab ac,.int .i64 p1] 81)) au av k1 k2 (K2.out.node ai) (K2.out.tab (ad.tab HT.out)) J2.out (by rw[if_pos hj0]at I;simp at I ⊢;omega));rw[if_pos hj0,List.nil_append]at D;rw[<-ag]at E D;clear aj ak I ai yn ar ag hj0 J2 ad HN;dsimp only[v8]at E
    gi_wp2
    refine⟨fun _ h=>(by cases h),?_⟩
    gi_wp2_with (first|(refine⟨trivial,am _,?_⟩;gi_at_call 311;refine E.out.mono ?_;clear E;rintro e W3 (⟨rfl,ae,G⟩|⟨rfl,q,hq,hx⟩)))
    ·go_roundw
     case rel=>exact⟨j+1,by go_num,by omega,hid (by rw[D.out,<-List.append_assoc];exact ae),hid ((V.out.trans K2.out).trans G)⟩
     case measure=>simp[intOf];omega
    ·go_ret
     obtain⟨r,hr⟩:=hq;exact .inr ⟨rfl,U++q,⟨r++rr,by rw[aq.out,D.out,<-hr];simp⟩,by rw[<-List.append_assoc];exact hx⟩
   ·have aG:decide ((0:Int)<(j:Int))=true:=by simp;omega
    have aH:0<j:=by omega
    have aI:decide (0<j)=true:=by simp;omega
    obtain⟨fn,aS,aT,Qm,hy,hR⟩:=HY.out.call (m-1) (A++U) y (wr.alloc (.cells #[.int .i64 Y,.string Z,.int .u64 (wd t 0),.int .u64 (wd t 1),.int .u64 (wd t 2),.int .u64 (wd t 3),.slice aa ab ac,.int .i64 p1] 81)) J2.out (by rw[if_neg hj0]at I;simp at I ⊢;omega) aE;have HR:=hid hR;have E:=hid (fun(W3:World) (ae:J (A++U++[y]) W3) (G:Kt s0 (wr.alloc (.cells #[.int .i64 Y,.string Z,.int .u64 (wd t 0),.int .u64 (wd t 1),.int .u64 (wd t 2),.int .u64 (wd t 3),.slice aa ab ac,.int .i64 p1] 81)) W3)=>z3l HY.out yn kd (m-1) _ (A++U++[y]) W3 au av k1 k2 (G.node (K2.out.node ai)) (G.tab (K2.out.tab (ad.tab HT.out))) ae (by rw[if_neg hj0]at I;simp at I ⊢;omega));rw[if_neg hj0]at D;rw[<-ag]at E D;clear aj ak I ai yn ar ag hj0 J2 ad HN hR;dsimp only[v8]at E
    gi_wp2
    refine⟨am _,HR.out.mono ?_⟩;clear HR hy c0 c1 c2 c3 c4 c5 c6 c7 z0 z1 z2 z3 z4 z5 z6 z7;rintro e W3 (⟨rfl,ae,G⟩|⟨rfl,aJ⟩)
    ·obtain⟨⟨c0,c1,c2,c3,c4,c5,c6,c7⟩,_⟩:=Qy (((V.out.trans K2.out).trans G).eight ao.out)
     obtain⟨⟨d0,d1,d2,d3,d4,d5,d6,d7⟩,_⟩:=Qy (G.eight B2.out);have aC:=hid (E.out W3 ae G);have aK:=hid G;clear E ae G
     gi_wp2_with (first|(refine⟨trivial,am _,?_⟩;gi_at_call 311;refine aC.out.mono ?_;clear aC;rintro e W4 (⟨rfl,aL,aM⟩|⟨rfl,q,hq,hx⟩)))
     ·go_roundw
      case rel=>exact⟨j+1,by go_num,by omega,hid (by rw[D.out];simpa [List.append_assoc]using aL),hid (((V.out.trans K2.out).trans aK.out).trans aM)⟩
      case measure=>simp[intOf];omega
     ·go_ret
      obtain⟨r,hr⟩:=hq;exact .inr ⟨rfl,U++([y]++q),⟨r++rr,by rw[aq.out,D.out,<-hr];simp⟩,by simpa [List.append_assoc]using hx⟩
    ·clear E
     gi_wp2
     go_ret;exact .inr ⟨rfl,U++[y],⟨pp++rr,by rw[aq.out,D.out];simp⟩,by simpa [List.append_assoc]using aJ⟩
  ·have a0:decide ((j:Int)<(n:Int))=false:=by simp;omega
   have aD:s.take j=s:=List.take_of_length_le (by rw[<-aA.out];omega);rw[aD]at ah;clear aD
   gi_wp2
   go_ret;exact .inl ⟨rfl,ah.out,az.out.trans V.out⟩
end
end
end Go.Proofs.YtgnkkgcgbeianaaGreatDoor
