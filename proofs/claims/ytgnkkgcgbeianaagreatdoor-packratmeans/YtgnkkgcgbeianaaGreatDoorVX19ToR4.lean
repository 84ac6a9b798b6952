/- Lemmas for the last text. Conditions: those that each names. -/
import Derived.Test.YtgnkkgcgbeianaaGreatDoorVX3ToX16
import Derived.Laws.Strings
import Derived.WideShapes
import Derived.Test.YtgnkkgcgbeianaaGreatDoorVY15ToX17
import Derived.Test.YtgnkkgcgbeianaaGreatDoorVQ1ToQ3
import Derived.RangeFuncNested
import Derived.RangeFuncBound
import Derived.RangeFuncCalls
import Derived.RangeFuncLeaves
import Derived.Shelf.Abstract
import Derived.WalkKit
import Derived.OwnWalkIn
import Derived.TacticsInMore
import Derived.LoopNIn
import Derived.LoopIn
set_option linter.unusedVariables false
set_option maxRecDepth 100000
set_option maxHeartbeats 8000000
namespace Go.Proofs.YtgnkkgcgbeianaaGreatDoor
open Go.Proofs.Tryz
open Go.RowKit
theorem z8F(S T:zA)(i:Nat):bt (S++T) i=if i<S.size then bt S i else bt T (i-S.size):=by
 unfold bt;by_cases h:i<S.size
 ·rw[if_pos h,dif_pos h,dif_pos (by rw[ByteArray.size_append];omega),ByteArray.getElem_append_left h]
 ·rw[if_neg h]
  by_cases h2:i<(S++T).size
  ·have o:=h2
   rw[ByteArray.size_append]at o;rw[dif_pos h2,dif_pos (by omega),ByteArray.getElem_append_right (by omega)]
  ·have o:=h2
   rw[ByteArray.size_append]at o;rw[dif_neg h2,dif_neg (by omega)]
theorem z1t(l:List Nat)(h:∀x∈l,x<256)(i:Nat):bt (nb l) i=l[i]? :=by
 unfold bt;by_cases hi:i<(nb l).size
 ·rw[dif_pos hi]
  rw[Uh]at hi;rw[List.getElem?_eq_getElem hi];have:=h _ (List.getElem_mem hi);show some (((nb l).data[i]).toNat)=_;simp[nb];omega
 ·rw[dif_neg hi]
  rw[Uh]at hi;rw[List.getElem?_eq_none (by omega)]
theorem z1u(P:zA):∀f k:Nat,P.size-k=f->k<=P.size->∃r,qt P=qp P k++r
 |0,k,hf,hk=>by
  obtain rfl:k=P.size:=by omega
  exact⟨[39],rfl⟩
 |f+1,k,hf,hk=>by
  obtain⟨r,h⟩:=z1u P f (k+1) (by omega) (by omega);cases hb:bt P k with
  |none=>have:=Yy hb;omega
  |some x=>rw[z1i hb]at h;exact⟨lq x++r,by rw[h,List.append_assoc]⟩
theorem z8G{A B:zA}(h:∀j,bt A j=bt B j):A=B:=by
 have y:A.size=B.size:=by
  rcases Nat.lt_trichotomy A.size B.size with r|r|r
  ·have o:=h A.size
   rw[Jl L0q]at o;have:=Yy o.symm;omega
  ·exact r
  ·have o:=h B.size
   rw[Jl L0q]at o;have:=Yy o;omega
 apply ByteArray.ext;apply Array.ext
 ·exact y
 ·intro i r o
  have t:=h i;have D:bt A i=some (A.data[i].toNat):=by unfold bt;rw[dif_pos (show i<A.size from r)];rfl
  have E:bt B i=some (B.data[i].toNat):=by unfold bt;rw[dif_pos (show i<B.size from o)];rfl
  rw[D,E]at t;exact UInt8.toNat.inj (Option.some.inj t)
section
mutual
def Wf(Nm:zA->Prop):Nd->Prop
 | .mk kd T C s p=>(kd=2->T.size<=255)/\(kd=5->Nm T)/\C<2^256/\WfL Nm s
def WfL(Nm:zA->Prop):List Nd->Prop
 |[]=>True
 |n::r=>Wf Nm n/\WfL Nm r
end
section
variable {L:List Tok} {Nm:ByteArray->Prop}
def Ruk(Nm:zA->Prop)(x:Rl):Prop:=Nm x.1/\Vk x.2.1/\Wf Nm x.2.1
end
end
section
def bO:zA:={data:=#[40]}
def bC:zA:={data:=#[41]}
def bSp:zA:={data:=#[32]}
def bSl:zA:={data:=#[32,47,32]}
def bAr:zA:={data:=#[32,60,45,32]}
def bNl:zA:={data:=#[10]}
def Mq:zA:={data:=#[46]}
def bE:zA:={data:=#[]}
def bsg(kd:Nat):zA:=if kd=11 then{data:=#[38]}else if kd=12 then{data:=#[33]}else{data:=#[rpS kd]}
section
variable (QT:ByteArray->ByteArray) (CT:Nat->ByteArray)
mutual
def pN:Nd->List ByteArray
 | .mk kd T C s p=>if kd=1 then [bO,bC]else if kd=2 then [QT T]else if kd=3 then [CT C]else if kd=4 then [Mq]else if kd=5 then [T]else if kd=6 then pS 6 bSp s else if kd=7 then pS 7 bSl s
   else if kd=11∨kd=12 then bsg kd::pS kd bE s else pS kd bE s++[bsg kd]
def pS(over:Nat)(sep:zA):List Nd->List ByteArray
 |[]=>[]
 |n::r=>(if wr over n.kd=true then bO::(pN n++[bC])else pN n)++pB over sep r
def pB(over:Nat)(sep:zA):List Nd->List ByteArray
 |[]=>[]
 |n::r=>sep::((if wr over n.kd=true then bO::(pN n++[bC])else pN n)++pB over sep r)
end
def pP(over:Nat)(n:Nd):List ByteArray:=if wr over n.kd=true then bO::(pN QT CT n++[bC])else pN QT CT n
def pR:List Rl->List ByteArray
 |[]=>[]
 |x::r=>x.1::bAr::(pN QT CT x.2.1++(bNl::pR r))
end
def sz:List ByteArray->Nat
 |[]=>0
 |p::r=>p.size+sz r
theorem Xy:∀(a b:List ByteArray),sz (a++b)=sz a+sz b
 |[],b=>by rw[List.nil_append,sz,Nat.zero_add]
 |p::r,b=>by rw[List.cons_append,sz,sz,Xy r b,Nat.add_assoc]
section
variable {X:ByteArray}
variable {Nm:ByteArray->Prop} {QT:ByteArray->ByteArray} {CT:Nat->ByteArray}
theorem Fp(over:Nat)(h:zA)(n:Nd)(r:List Nd):pS QT CT over h (n::r)=pP QT CT over n++pB QT CT over h r:=by rw[pS];rfl
theorem Fc(over:Nat)(h:zA)(n:Nd)(r:List Nd):pB QT CT over h (n::r)=h::(pP QT CT over n++pB QT CT over h r):=by rw[pB];rfl
theorem Ol(over:Nat)(h:zA):pB QT CT over h []=[]:=by rw[pB]
end
end
section
def cat:List ByteArray->ByteArray
 |[]=>{data:=#[]}
 |p::r=>p++cat r
theorem Pq:∀(h:List ByteArray),(cat h).size=sz h
 |[]=>rfl
 |p::r=>by rw[cat,ByteArray.size_append,Pq r,sz]
theorem z1v:∀(A B:List ByteArray),cat (A++B)=cat A++cat B
 |[],B=>by
  rw[List.nil_append,cat];apply z8G;intro j;rw[z8F,if_neg (by show ¬j<0;omega)];rfl
 |p::r,B=>by rw[List.cons_append,cat,cat,z1v r B,ByteArray.append_assoc]
section
variable {Nm:ByteArray->Prop} {QT:ByteArray->ByteArray} {CT:Nat->ByteArray}
theorem Zc{p q:zA}{x y:Nat}(o:bt p 0=some x)(r:bt q 0=some y)(h:x≠y):p≠q:=fun e=>by
 rw[e,r]at o;cases o;exact h rfl
theorem z1w:bC≠bO:=Zc (x:=41) (y:=40) rfl rfl (by decide)
theorem Cc(kd:Nat):bsg kd≠bO/\bsg kd≠bC:=by
 unfold bsg rpS;split
 ·exact⟨Zc (x:=38) (y:=40) rfl rfl (by decide),Zc (x:=38) (y:=41) rfl rfl (by decide)⟩
 ·split
  ·exact⟨Zc (x:=33) (y:=40) rfl rfl (by decide),Zc (x:=33) (y:=41) rfl rfl (by decide)⟩
  ·split
   ·exact⟨Zc (x:=63) (y:=40) rfl rfl (by decide),Zc (x:=63) (y:=41) rfl rfl (by decide)⟩
   ·split
    ·exact⟨Zc (x:=42) (y:=40) rfl rfl (by decide),Zc (x:=42) (y:=41) rfl rfl (by decide)⟩
    ·exact⟨Zc (x:=43) (y:=40) rfl rfl (by decide),Zc (x:=43) (y:=41) rfl rfl (by decide)⟩
theorem Cl:bE≠bO/\bE≠bC:=⟨fun e=>by have:=congrArg ByteArray.size e;simp[bE,bO,ByteArray.size]at this,fun e=>by have:=congrArg ByteArray.size e;simp[bE,bC,ByteArray.size]at this⟩
theorem z1x:bSp≠bO/\bSp≠bC:=⟨Zc (x:=32) (y:=40) rfl rfl (by decide),Zc (x:=32) (y:=41) rfl rfl (by decide)⟩
theorem z1y:bSl≠bO/\bSl≠bC:=⟨Zc (x:=32) (y:=40) rfl rfl (by decide),Zc (x:=32) (y:=41) rfl rfl (by decide)⟩
structure Pcz (Nm:zA->Prop) (QT:zA->ByteArray) (CT:Nat->ByteArray):Prop where
 nm:∀T,Nm T->T.size<=32/\∃x,bt T 0=some x/\Zp x=true
 qt:∀T,T.size<=255->bt (QT T) 0=some 39
 ct:∀C,C<2^256->bt (CT C) 0=some 91
theorem z1z(o:Pcz Nm QT CT){T:zA}(h:Nm T):T≠bO/\T≠bC:=by
 obtain⟨_,x,hx,hl⟩:=o.nm T h;have:x≠40/\x≠41:=by
  unfold Zp at hl;simp at hl;omega
 exact⟨Zc hx (y:=40) rfl this.1,Zc hx (y:=41) rfl this.2⟩
def dR:List Rl->Nat
 |[]=>0
 |x::r=>max (dN x.2.1) (dR r)
end
end
section
section
variable {L:List Tok}
end
end
section
open Go.Shelf
attribute [local go_sem] Oper.semAt_some
theorem Xf(k:Nat):Fence.wide.depth.isSome=true->1<=k:=fun h=>by cases h
@[reducible] def v8 (kd:Nat) (T:zA) (C:Nat) (sv:Value) (p:Int):List Value:=
  [zI (kd:Int),zT T,zU (wd C 0:Nat),zU (wd C 1:Nat),zU (wd C 2:Nat),zU (wd C 3:Nat),sv,zI p]
mutual
def NdV(s0:Nat)(w:World):Nd->List Value->Prop
 | .mk kd T C s _,cs=>∃so cap p,cs=v8 kd T C (.slice so (Jw s) cap) p/\(s.isEmpty=true∨(s.isEmpty=false/\∃g o,so=some ⟨g,o,none⟩/\g<s0/\Jw s<=maxLen/\Xc s0 w g o s))
def Xc(s0:Nat)(w:World)(g:Nat):Nat->List Nd->Prop
 |_,[]=>True
 |o,n::r=>(∃cs,NdV s0 w n cs/\∀j u,cs[j]? =some u->w.cell? ⟨g,o+j,none⟩=some u)/\Xc s0 w g (o+8) r
end
mutual
theorem NdV.kept{w w':World}{s0:Nat}(h:∀g o u,g<s0->zC w g o u->zC w' g o u):∀(t:Nd) (y:List Value),NdV s0 w t y->NdV s0 w' t y
 | .mk kd T C s p,y,r=>by
   rw[NdV]at r ⊢;obtain⟨E,G,p,rfl,r⟩:=r;refine⟨E,G,p,rfl,?_⟩;rcases r with A|⟨A,g,o,I,D,U,V⟩
   ·exact .inl A
   ·exact .inr ⟨A,g,o,I,D,U,Xc.kept h D s o V⟩
theorem Xc.kept{w w':World}{s0 g:Nat}(h:∀g o u,g<s0->zC w g o u->zC w' g o u)(y:g<s0):∀(s:List Nd) (o:Nat),Xc s0 w g o s->Xc s0 w' g o s
 |[],o,_=>by rw[Xc];trivial
 |t::r,o,ht=>by
  rw[Xc]at ht ⊢;obtain⟨⟨A,D,E⟩,G⟩:=ht;exact⟨⟨A,NdV.kept h t A D,fun j u I=>h g _ u y (E j u I)⟩,Xc.kept h y r _ G⟩
end
def Kt(s0:Nat)(W W':World):Prop:=W.heap.size<=W'.heap.size/\(∀(j:Nat) (cur:Array Value) (t:TypeId),(t=81∨t=83∨t=43)->W.heap[j]? =some (.cells cur t)->W'.heap[j]? =W.heap[j]?)/\(∀(j:Nat) (v:Value),W.cell? ⟨5,j,none⟩=some v->W'.cell? ⟨5,j,none⟩=some v)/\(∀j,j<s0->∀o,W.heap[j]? =some o->W'.heap[j]? =some o)
section
variable {s0:Nat}
theorem Kt.refl(W:World):Kt s0 W W:=⟨Nat.le_refl _,fun _ _ _ _ _=>rfl,fun _ _ h=>h,fun _ _ _ h=>h⟩
theorem Kt.trans{A B C:World}(h:Kt s0 A B)(k:Kt s0 B C):Kt s0 A C:=⟨Nat.le_trans h.1 k.1,fun j y t D r=>(k.2.1 j y t D ((h.2.1 j y t D r).trans r)).trans (h.2.1 j y t D r),fun j v E=>k.2.2.1 j v (h.2.2.1 j v E),fun j r o G=>k.2.2.2 j r o (h.2.2.2 j r o G)⟩
theorem Kt.below{W W':World}(h:zB W W'):Kt s0 W W':=⟨h.size,fun j E t _ y=>h.block j (by
 rcases Nat.lt_or_ge j W.heap.size with r|r
 ·exact r
 ·rw[Array.getElem?_eq_none r]at y;cases y),fun j v A=>(h.cell (p:=⟨5,j,none⟩) (World.block_lt_of_cell? W _ A)).trans A,fun j _ o D=>(h.block j (Array.getElem?_eq_some_iff.1 D).1).trans D⟩
theorem Kt.tab{W W':World}(h:Kt s0 W W')(o:TabIs W):TabIs W':=fun j r=>h.2.2.1 j _ (o j r)
theorem Kt.alloc(W:World)(o:Obj):Kt s0 W (W.alloc o):=Kt.below ((Below.refl _ W).alloc L0q o)
theorem Kt.cell{W W':World}(h:Kt s0 W W'){g o:Nat}{u:Value}(t:g<s0)(r:zC W g o u):zC W' g o u:=by
 have hl:=World.block_lt_of_cell? W _ r;have e:W'.heap[g]? =W.heap[g]? :=(h.2.2.2 g t _ (Array.getElem?_eq_getElem hl)).trans (Array.getElem?_eq_getElem hl).symm;exact(World.cell?_of_block (w:=W) (a:=⟨g,o,none⟩) e).trans r
theorem Kt.node{W W':World}(h:Kt s0 W W'){n:Nd}{r:List Value}(t:NdV s0 W n r):NdV s0 W' n r:=NdV.kept (fun g o u y A=>h.cell y A) _ _ t
theorem Kt.eight{W W':World}(h:Kt s0 W W'){g:Nat}{a b c d e f i k:Value}(o:zH W g (.cells #[a,b,c,d,e,f,i,k] 81)):zH W' g (.cells #[a,b,c,d,e,f,i,k] 81):=
 (h.2.1 g _ _ (.inl rfl) o).trans o
end
structure Yl (s0 l N:Nat) (J Jx:List ByteArray->World->Prop):Prop where
 grow:∀s A B,J s A->A.grownBy B none->J s B
 call:∀m pre x W,J pre W->pre.length<N->x.size<=4096->YieldAt Fence.wide m prog l #[zT x] W fun e W'=>
  (e=.returned (.bool true)/\J (pre++[x]) W'/\Kt s0 W W')∨(e=.returned (.bool false)/\Jx (pre++[x]) W')
def Yp(s0:Nat)(J Jx:List ByteArray->World->Prop)(pre ps:List ByteArray)(W:World)(e:Ending)(W':World):Prop:=
 (e=.returned (.bool true)/\J (pre++ps) W'/\Kt s0 W W')∨(e=.returned (.bool false)/\∃q,q<+:ps/\Jx (pre++q) W')
def YN(s0 l N:Nat)(J Jx:List ByteArray->World->Prop)(QT:zA->ByteArray)(CT:Nat->ByteArray)(n:Nd):Prop:=
 ∀(m:Nat) (cs:List Value) (pre:List ByteArray) (W:World),NdV s0 W n cs->TabIs W->J pre W->pre.length+(pN QT CT n).length<=N->
  CallsIn Fence.wide m prog 295 #[.agg cs.toArray,.func (.yield l) #[] #[]] W (Yp s0 J Jx pre (pN QT CT n) W)
section
variable {s0 l N:Nat} {J Jx:List ByteArray->World->Prop} {QT:ByteArray->ByteArray} {CT:Nat->ByteArray}
theorem Yl.alloc(h:Yl s0 l N J Jx){s:List ByteArray}{A:World}(r:J s A)(o:Obj):J s (A.alloc o):=h.grow s A _ r (World.grownBy_alloc A o none)
theorem z1A{W:World}{kd:Nat}{T:zA}{C t:Nat}{s:List Nd}{o:List Value}(h:NdV s0 W (.mk kd T C s t) o):∃r y A p,o=v8 kd T C (.slice r y A) p:=by
 rw[NdV]at h;obtain⟨r,D,p,rfl,_⟩:=h;exact⟨_,_,_,_,rfl⟩
theorem z1B(Y:Yl s0 l N J Jx){n:Nd}(hN:YN s0 l N J Jx QT CT n)(over m:Nat)(cs:List Value)(t:List ByteArray)(W:World)(aj:6<=over)(ak:over<=12)(al:1<=n.kd)(I:n.kd<=12)(Z:NdV s0 W n cs)(hT:TabIs W)(hJ:J t W)(hl:t.length+(pP QT CT over n).length<=N):
  CallsIn Fence.wide m prog 311 #[zI (over:Int),.agg cs.toArray,.func (.yield l) #[] #[]] W (Yp s0 J Jx t (pP QT CT over n) W):=by
 obtain⟨kd,T,C,s,E⟩:=n;have am:1<=kd:=al;have ao:kd<=12:=I;obtain⟨so,sl,sc,p,rfl⟩:=z1A Z;have aa:=hid (fun w:World=>z8l over kd w aj ak am ao);have U:=Xf;cases hw:wr over kd with
 |false=>
  rw[hw]at aa;have ep:pP QT CT over (.mk kd T C s E)=pN QT CT (.mk kd T C s E):=by
   unfold pP;rw[show(Nd.mk kd T C s E).kd=kd from rfl,hw];rfl
  rw[ep]at hl ⊢;have y:=hid (fun o:Obj=>hN (m-1) _ t (W.alloc o) ((Kt.alloc W o).node Z) ((Kt.alloc (s0:=s0) W o).tab hT) (Y.alloc hJ o) hl);clear Z hN hJ hl ep hw hT;dsimp only[v8]at y ⊢;refine callsIn_of_wp func311 rfl trivial ?_ rfl;simp only[ntmps311,List.size_toArray,List.length_cons,List.length_nil,Nat.reduceAdd,Nat.reduceSub,Array.replicate_succ,Array.replicate_zero,List.push_toArray,List.append_toArray,List.nil_append,List.cons_append]
  gi_wp2_with (first
   |(refine⟨trivial,U _,?_⟩;gi_at_call 314;refine(callsIn_wide.2 (aa.out _)).mono ?_;rintro e W1 ⟨rfl,rfl⟩)
   |(refine⟨trivial,U _,?_⟩;gi_at_call 295;refine(y.out _).mono ?_;rintro e G (⟨rfl,V,ab⟩|⟨rfl,q,hq,hx⟩)))
  ·go_ret
   exact .inl ⟨rfl,V,(Kt.alloc W _).trans ab⟩
  ·go_ret
   exact .inr ⟨rfl,q,hq,hx⟩
 |true=>
  rw[hw]at aa;have ep:pP QT CT over (.mk kd T C s E)=bO::(pN QT CT (.mk kd T C s E)++[bC]):=by
   unfold pP;rw[show(Nd.mk kd T C s E).kd=kd from rfl,hw];rfl
  rw[ep]at hl ⊢;simp only[List.length_cons,List.length_append,List.length_nil]at hl;obtain⟨A,ac⟩:∃A,A=pN QT CT (.mk kd T C s E):=⟨_,rfl⟩;have ad:Hid ((W.alloc (.cells #[zI (kd:Int),zT T,zU (wd C 0:Nat),zU (wd C 1:Nat),zU (wd C 2:Nat),zU (wd C 3:Nat),.slice so sl sc,zI p] 81)).heap[W.heap.size]? =some (.cells #[zI (kd:Int),zT T,zU (wd C 0:Nat),zU (wd C 1:Nat),zU (wd C 2:Nat),zU (wd C 3:Nat),.slice so sl sc,zI p] 81)):=Qx W _ rfl;have y:=hid (fun(G:World) (V:J (t++[bO]) G) (hk:Kt s0 W G)=>hN (m-1) _ (t++[bO]) G (hk.node Z) (hk.tab hT) V (by simp;omega));have ag:=hid (fun o:Obj=>Y.call (m-1) t bO (W.alloc o) (Y.alloc hJ o) (by omega) (by decide));have ae:=hid (fun(D:World) (ap:J (t++[bO]++A) D)=>Y.call (m-1) _ bC D ap (by rw[ac];simp;omega) (by decide));rw[<-ac]at y ⊢;clear Z hN hJ hl ep hw ac Y hT;dsimp only[v8]at y ⊢;obtain⟨fn,ax,ay,Qm,hy,hR⟩:=ag.out (.cells #[zI (kd:Int),zT T,zU (wd C 0:Nat),zU (wd C 1:Nat),zU (wd C 2:Nat),zU (wd C 3:Nat),.slice so sl sc,zI p] 81);have HR:=hid hR;clear hR ag;unfold bO at hy;refine callsIn_of_wp func311 rfl trivial ?_ rfl;simp only[ntmps311,List.size_toArray,List.length_cons,List.length_nil,Nat.reduceAdd,Nat.reduceSub,Array.replicate_succ,Array.replicate_zero,List.push_toArray,List.append_toArray,List.nil_append,List.cons_append]
  gi_wp2_with (first
   |(refine⟨trivial,U _,?_⟩;gi_at_call 314;refine(callsIn_wide.2 (aa.out _)).mono ?_;rintro e W1 ⟨rfl,rfl⟩))
  refine⟨U _,HR.out.mono ?_⟩;clear HR hy;rintro e G (⟨rfl,V,I⟩|⟨rfl,aq⟩)
  ·have ab:=I.eight ad.out
   obtain⟨⟨c0,c1,c2,c3,c4,c5,c6,c7⟩,_⟩:=Qg ab;have ah:Hid (CallsIn Fence.wide (m-1) prog 295 #[.agg #[zI (kd:Int),zT T,zU (wd C 0:Nat),zU (wd C 1:Nat),zU (wd C 2:Nat),zU (wd C 3:Nat),.slice so sl sc,zI p],.func (.yield l) #[] #[]] G fun e D=>(e=.returned (.bool true)/\YieldAt Fence.wide (m-1) prog l #[zT {data:=#[41]}] D (fun e W4=>(e=.returned (.bool true)/\J (t++[bO]++A++[bC]) W4/\Kt s0 W W4)∨(e=.returned (.bool false)/\Jx (t++[bO]++A++[bC]) W4)))∨(e=.returned (.bool false)/\∃q,q<+:A/\Jx (t++[bO]++q) D)):=
    (y.out G V ((Kt.alloc W _).trans I)).mono fun e D h=>h.elim
      (fun⟨he,hj,ar⟩=>.inl ⟨he,YieldAt.mono (ae.out D hj) fun e W4 h=>h.elim (fun⟨he,hj,af⟩=>.inl ⟨he,hj,(((Kt.alloc W _).trans I).trans ar).trans af⟩) .inr⟩) .inr
   clear y ae V I ab ad
   gi_wp2_with (first
    |(refine⟨trivial,U _,?_⟩;gi_at_call 295;refine ah.out.mono ?_;clear ah;rintro e D (⟨rfl,az,aA,aB,aC,aD,ai⟩|⟨rfl,q,hq,au⟩))
    |(refine⟨U _,?_⟩;refine ai.mono ?_;clear ai;rintro e W4 (⟨rfl,av,af⟩|⟨rfl,aw⟩)))
   ·go_ret
    exact .inl ⟨rfl,by simpa [List.append_assoc]using av,af⟩
   ·go_ret
    exact .inr ⟨rfl,bO::(A++[bC]),List.prefix_refl _,by simpa [List.append_assoc]using aw⟩
   ·refine⟨fun _ h=>(by cases h),?_⟩
    gi_wp2
    go_ret;obtain⟨r,hr⟩:=hq;exact .inr ⟨rfl,bO::q,⟨r++[bC],by rw[<-hr];simp⟩,by simpa [List.append_assoc]using au⟩
  ·clear y ae ad
   gi_wp2
   refine⟨trivial,?_⟩
   gi_wp2
   refine⟨fun _ h=>(by cases h),?_⟩
   gi_wp2
   go_ret;exact .inr ⟨rfl,[bO],⟨A++[bC],rfl⟩,aq⟩
end
end
section
open Go.Shelf
attribute [local go_sem] Oper.semAt_some
section
variable {s0 l N:Nat} {J Jx:List ByteArray->World->Prop} {QT:ByteArray->ByteArray} {CT:Nat->ByteArray}
theorem z1C(over:Nat)(h:zA)(n:Nd):∀(s:List Nd),pB QT CT over h (s++[n])=pB QT CT over h s++(h::pP QT CT over n)
 |[]=>by rw[List.nil_append,Fc,Ol,List.append_nil,List.nil_append]
 |a::r=>by rw[List.cons_append,Fc,Fc,z1C over h n r];simp
theorem z8H(over:Nat)(o:zA)(n:Nd):∀(s:List Nd),s≠[]->pS QT CT over o (s++[n])=pS QT CT over o s++(o::pP QT CT over n)
 |[],h=>absurd rfl h
 |a::r,_=>by rw[List.cons_append,Fp,Fp,z1C];simp
theorem z8I(over:Nat)(h:zA)(n:Nd):pS QT CT over h [n]=pP QT CT over n:=by rw[Fp,Ol,List.append_nil]
theorem z8J{s:List Nd}{j:Nat}(h:j<s.length):s.take (j+1)=s.take j++[s[j]]:=by simp
theorem z8K(over:Nat)(o:zA):∀(s t:List Nd),∃r,pS QT CT over o (s++t)=pS QT CT over o s++r
 |[],t=>⟨_,by rw[List.nil_append,pS,List.nil_append]⟩
 |a::r,t=>by
  have h:∀(u v:List Nd),∃r,pB QT CT over o (u++v)=pB QT CT over o u++r:=fun u v=>by
   induction u with
   |nil=>exact⟨_,by rw[List.nil_append,pB,List.nil_append]⟩
   |cons b q ih=>
    obtain⟨x,hx⟩:=ih;exact⟨x,by rw[List.cons_append,Fc,Fc,hx];simp⟩
  obtain⟨x,hx⟩:=h r t;exact⟨x,by rw[List.cons_append,Fp,Fp,hx,List.append_assoc]⟩
theorem z8L(over:Nat)(h:zA)(s:List Nd)(j:Nat):∃r,pS QT CT over h s=pS QT CT over h (s.take j)++r:=by
 have:=z8K (QT:=QT) (CT:=CT) over h (s.take j) (s.drop j);rw[List.take_append_drop]at this;exact this
theorem z8M(over:Nat)(o:zA)(s:List Nd)(j:Nat)(r:j<s.length):pS QT CT over o (s.take (j+1))=pS QT CT over o (s.take j)++((if j=0 then []else [o])++pP QT CT over s[j]):=by
 rw[z8J r];by_cases h0:j=0
 ·subst h0
  rw[List.take_zero,List.nil_append,z8I,pS,if_pos rfl];rfl
 ·rw[z8H over o s[j] (s.take j) (fun e=>by
   have h:=congrArg List.length e;rw[List.length_take,List.length_nil]at h;omega),if_neg h0]
  rfl
theorem NdV.shape{w:World}{n:Nd}{o:List Value}(h:NdV s0 w n o):∃kd T C r t y p,o=v8 kd T C (.slice r t y) p:=by
 cases n;rw[NdV]at h;obtain⟨r,A,p,rfl,_⟩:=h;exact⟨_,_,_,_,_,_,_,rfl⟩
def Cv(w:World)(g o:Nat)(kd:Nat)(T:zA)(C:Nat)(sv:Value)(p:Int):Prop:=w.cell? ⟨g,o,none⟩=some (zI (kd:Int))/\w.cell? ⟨g,o+1,none⟩=some (zT T)/\w.cell? ⟨g,o+2,none⟩=some (zU (wd C 0:Nat))/\w.cell? ⟨g,o+3,none⟩=some (zU (wd C 1:Nat))/\w.cell? ⟨g,o+4,none⟩=some (zU (wd C 2:Nat))/\w.cell? ⟨g,o+5,none⟩=some (zU (wd C 3:Nat))/\w.cell? ⟨g,o+6,none⟩=some sv/\w.cell? ⟨g,o+7,none⟩=some (zI p)
theorem Px{w:World}{g:Nat}:∀{s:List Nd} {o:Nat},Xc s0 w g o s->∀(k:Nat) (G:k<s.length),∃kd T C A D E p,NdV s0 w s[k] (v8 kd T C (.slice A D E) p)/\Cv w g (o+k*8) kd T C (.slice A D E) p
 |[],o,h,k,G=>by simp at G
 |t::r,o,h,0,G=>by
  rw[Xc]at h;obtain⟨⟨U,I,y⟩,_⟩:=h;obtain⟨kd,T,C,A,D,E,p,rfl⟩:=I.shape;refine⟨kd,T,C,A,D,E,p,I,?_⟩;rw[Nat.zero_mul,Nat.add_zero];exact⟨y 0 _ rfl,y 1 _ rfl,y 2 _ rfl,y 3 _ rfl,y 4 _ rfl,y 5 _ rfl,y 6 _ rfl,y 7 _ rfl⟩
 |t::r,o,h,k+1,G=>by
  rw[Xc]at h;obtain⟨kd,T,C,A,D,E,p,I,y⟩:=Px h.2 k (by simpa using G);refine⟨kd,T,C,A,D,E,p,I,?_⟩;rw[show o+(k+1)*8=o+8+k*8 by omega];exact y
theorem z8N{w:World}{kd:Nat}{T:zA}{C A:Nat}{s:List Nd}{t:List Value}(h:NdV s0 w (.mk kd T C s A) t)(D:s.isEmpty=false):∃g o r p,t=v8 kd T C (.slice (some ⟨g,o,none⟩) s.length r) p/\g<s0/\s.length<=maxLen/\Xc s0 w g o s:=by
 rw[NdV]at h;obtain⟨U,r,p,rfl,y|⟨_,g,o,rfl,E,G,I⟩⟩:=h
 ·rw[D]at y;cases y
 ·exact⟨g,o,r,p,by rw[Dm],E,by rw[<-Dm];exact G,I⟩
theorem z8O{w:World}{g o:Nat}{s:List Nd}(h:Xc s0 w g o s)(r:0<s.length):g<w.heap.size:=by
 obtain⟨kd,T,C,y,A,D,p,_,t⟩:=Px h 0 r;exact World.block_lt_of_cell? w _ t.1
theorem z8P(hY:Yl s0 l N J Jx){kd:Nat}{T:zA}{C pn:Nat}{s:List Nd}(hs:s.isEmpty=false)(hN:∀n∈s,YN s0 l N J Jx QT CT n/\1<=n.kd/\n.kd<=12)(y:zA)(aE:y.size<=4096)(m:Nat)(cs:List Value)(A:List ByteArray)(W:World)(au:6<=kd)(av:kd<=12)(hn:NdV s0 W (.mk kd T C s pn) cs)(hT:TabIs W)(hJ:J A W)(hl:A.length+(pS QT CT kd y s).length<=N):
  CallsIn Fence.wide m prog 304 #[.agg cs.toArray,zT y,.func (.yield l) #[] #[]] W (Yp s0 J Jx A (pS QT CT kd y s) W):=by
 obtain⟨g,o,aw,p,rfl,hg,ax,ay⟩:=z8N hn hs;unfold maxLen at ax;obtain⟨n,al⟩:∃n,n=s.length:=⟨_,rfl⟩;have am:=Xf;obtain⟨W1,af⟩:∃W1,W1=W.alloc (.cells #[zI (kd:Int),zT T,zU (wd C 0:Nat),zU (wd C 1:Nat),zU (wd C 2:Nat),zU (wd C 3:Nat),.slice (some ⟨g,o,none⟩) n aw,zI p] 81):=⟨_,rfl⟩;have az:Hid (Kt s0 W W1):=by rw[af];exact Kt.alloc W _
 have ao:Hid (W1.heap[W.heap.size]? =some (.cells #[zI (kd:Int),zT T,zU (wd C 0:Nat),zU (wd C 1:Nat),zU (wd C 2:Nat),zU (wd C 3:Nat),.slice (some ⟨g,o,none⟩) n aw,zI p] 81)):=by rw[af];exact Qx W _ rfl
 have aF:Hid (J A W1):=by rw[af];exact hY.alloc hJ _
 have HG:Hid (g<s0/\Xc s0 W g o s):=⟨hg,ay⟩;have HY:Hid (Yl s0 l N J Jx):=hY;have HN:=hid hN;have aA:Hid (n=s.length):=al;have HL:=hid hl;have aN:n<=9223372036854775807:=by omega
 rw[<-al];have aB:=hid af;have HT:=hid hT;clear hn hg ay hJ hY hN hl ax al af hT;dsimp only[v8];refine callsIn_of_wp func304 rfl trivial ?_ rfl;simp only[ntmps304,List.size_toArray,List.length_cons,List.length_nil,Nat.reduceAdd,Nat.reduceSub,Array.replicate_succ,Array.replicate_zero,List.push_toArray,List.append_toArray,List.nil_append,List.cons_append]
 gi_wp2
 rw[<-aB.out];clear aB
 gi_loopw [12] (fun i wr=>∃j:Nat,i=zI (j:Int)/\j<=n/\Hid (J (A++pS QT CT kd y (s.take j)) wr)/\Hid (Kt s0 W1 wr)) (fun i _=>n-(intOf i).toNat)
 case atStart=>exact⟨0,rfl,Nat.zero_le _,by rw[List.take_zero,pS,List.append_nil];exact aF,hid (Kt.refl _)⟩
 case round=>
  obtain⟨j,rfl,hj,ah,V⟩:=hrel;by_cases hjn:j<n
  ·have aO:(j:Int)<(n:Int):=by omega
   have a0:decide ((j:Int)<(n:Int))=true:=by simp;omega
   have ap:j<s.length:=by rw[<-aA.out];exact hjn
   obtain⟨⟨c0,c1,c2,c3,c4,c5,c6,c7⟩,_⟩:=Qg (V.out.eight ao.out);have ad:Kt s0 W wr:=az.out.trans V.out;obtain⟨Y,Z,t,aa,ab,ac,p1,ai,z0,z1,z2,z3,z4,z5,z6,z7⟩:=Px (Xc.kept (fun q c u hq hu=>ad.cell hq hu) HG.out.1 s o HG.out.2) j ap;obtain⟨yn,k1,k2⟩:=HN.out s[j] (List.getElem_mem ap);have aj:=z8M (QT:=QT) (CT:=CT) kd y s j ap;obtain⟨rr,ak⟩:=z8L (QT:=QT) (CT:=CT) kd y s (j+1);have I:A.length+(pS QT CT kd y (s.take j)).length+((if j=0 then []else [y]).length+(pP QT CT kd s[j]).length)<=N:=by
    have h1:=HL.out;rw[ak,aj]at h1;simp only[List.length_append]at h1;omega
   have aq:=hid ak;have D:=hid aj;obtain⟨U,ar⟩:∃U,U=pS QT CT kd y (s.take j):=⟨_,rfl⟩;rw[<-ar]at ah D I;obtain⟨pp,ag⟩:∃pp,pp=pP QT CT kd s[j]:=⟨_,rfl⟩;have aP:=hid ag;have K2:=hid (Kt.alloc (s0:=s0) wr (.cells #[zI (Y:Int),zT Z,zU (wd t 0:Nat),zU (wd t 1:Nat),zU (wd t 2:Nat),zU (wd t 3:Nat),.slice aa ab ac,zI p1] 81));have B2:Hid ((wr.alloc (.cells #[zI (Y:Int),zT Z,zU (wd t 0:Nat),zU (wd t 1:Nat),zU (wd t 2:Nat),zU (wd t 3:Nat),.slice aa ab ac,zI p1] 81)).heap[wr.heap.size]? =some (.cells #[zI (Y:Int),zT Z,zU (wd t 0:Nat),zU (wd t 1:Nat),zU (wd t 2:Nat),zU (wd t 3:Nat),.slice aa ab ac,zI p1] 81)):=Qx wr _ rfl;have J2:=hid (HY.out.alloc ah.out (.cells #[zI (Y:Int),zT Z,zU (wd t 0:Nat),zU (wd t 1:Nat),zU (wd t 2:Nat),zU (wd t 3:Nat),.slice aa ab ac,zI p1] 81));have aQ:W.heap.size<wr.heap.size:=Qq (V.out.eight ao.out);have aR:g<wr.heap.size:=Nat.lt_of_lt_of_le (z8O HG.out.2 (by omega)) ad.1;by_cases hj0:j=0
   ·have aG:decide ((0:Int)<(j:Int))=false:=by simp;omega
    have aH:¬0<j:=by omega
    have aI:decide (0<j)=false:=by simp;omega
    have E:=hid (z1B HY.out yn kd (m-1) _ (A++U) (wr.alloc (.cells #[zI (Y:Int),zT Z,zU (wd t 0:Nat),zU (wd t 1:Nat),zU (wd t 2:Nat),zU (wd t 3:Nat),.slice aa ab ac,zI p1] 81)) au av k1 k2 (K2.out.node ai) (K2.out.tab (ad.tab HT.out)) J2.out (by rw[if_pos hj0]at I;simp at I ⊢;omega));rw[if_pos hj0,List.nil_append]at D;rw[<-ag]at E D;clear aj ak I ai yn ar ag hj0 J2 ad HN;dsimp only[v8]at E
    gi_wp2
    refine⟨fun _ h=>(by cases h),?_⟩
    gi_wp2_with (first|(refine⟨trivial,am _,?_⟩;gi_at_call 311;refine E.out.mono ?_;clear E;rintro e W3 (⟨rfl,ae,G⟩|⟨rfl,q,hq,hx⟩)))
    ·go_roundw
     case rel=>exact⟨j+1,by go_num,by omega,hid (by rw[D.out,<-List.append_assoc];exact ae),hid ((V.out.trans K2.out).trans G)⟩
     case measure=>simp[intOf];omega
    ·go_ret
     obtain⟨r,hr⟩:=hq;exact .inr ⟨rfl,U++q,⟨r++rr,by rw[aq.out,D.out,<-hr];simp⟩,by rw[<-List.append_assoc];exact hx⟩
   ·have aG:decide ((0:Int)<(j:Int))=true:=by simp;omega
    have aH:0<j:=by omega
    have aI:decide (0<j)=true:=by simp;omega
    obtain⟨fn,aS,aT,Qm,hy,hR⟩:=HY.out.call (m-1) (A++U) y (wr.alloc (.cells #[zI (Y:Int),zT Z,zU (wd t 0:Nat),zU (wd t 1:Nat),zU (wd t 2:Nat),zU (wd t 3:Nat),.slice aa ab ac,zI p1] 81)) J2.out (by rw[if_neg hj0]at I;simp at I ⊢;omega) aE;have HR:=hid hR;have E:=hid (fun(W3:World) (ae:J (A++U++[y]) W3) (G:Kt s0 (wr.alloc (.cells #[zI (Y:Int),zT Z,zU (wd t 0:Nat),zU (wd t 1:Nat),zU (wd t 2:Nat),zU (wd t 3:Nat),.slice aa ab ac,zI p1] 81)) W3)=>z1B HY.out yn kd (m-1) _ (A++U++[y]) W3 au av k1 k2 (G.node (K2.out.node ai)) (G.tab (K2.out.tab (ad.tab HT.out))) ae (by rw[if_neg hj0]at I;simp at I ⊢;omega));rw[if_neg hj0]at D;rw[<-ag]at E D;clear aj ak I ai yn ar ag hj0 J2 ad HN hR;dsimp only[v8]at E
    gi_wp2
    refine⟨am _,HR.out.mono ?_⟩;clear HR hy c0 c1 c2 c3 c4 c5 c6 c7 z0 z1 z2 z3 z4 z5 z6 z7;rintro e W3 (⟨rfl,ae,G⟩|⟨rfl,aJ⟩)
    ·obtain⟨⟨c0,c1,c2,c3,c4,c5,c6,c7⟩,_⟩:=Qg (((V.out.trans K2.out).trans G).eight ao.out)
     obtain⟨⟨d0,d1,d2,d3,d4,d5,d6,d7⟩,_⟩:=Qg (G.eight B2.out);have aC:=hid (E.out W3 ae G);have aK:=hid G;clear E ae G
     gi_wp2_with (first|(refine⟨trivial,am _,?_⟩;gi_at_call 311;refine aC.out.mono ?_;clear aC;rintro e W4 (⟨rfl,aL,aM⟩|⟨rfl,q,hq,hx⟩)))
     ·go_roundw
      case rel=>exact⟨j+1,by go_num,by omega,hid (by rw[D.out];simpa [List.append_assoc]using aL),hid (((V.out.trans K2.out).trans aK.out).trans aM)⟩
      case measure=>simp[intOf];omega
     ·go_ret
      obtain⟨r,hr⟩:=hq;exact .inr ⟨rfl,U++([y]++q),⟨r++rr,by rw[aq.out,D.out,<-hr];simp⟩,by simpa [List.append_assoc]using hx⟩
    ·clear E
     gi_wp2
     go_ret;exact .inr ⟨rfl,U++[y],⟨pp++rr,by rw[aq.out,D.out];simp⟩,by simpa [List.append_assoc]using aJ⟩
  ·have a0:decide ((j:Int)<(n:Int))=false:=by simp;omega
   have aD:s.take j=s:=List.take_of_length_le (by rw[<-aA.out];omega);rw[aD]at ah;clear aD
   gi_wp2
   go_ret;exact .inl ⟨rfl,ah.out,az.out.trans V.out⟩
end
end
section
open Go.Shelf
attribute [local go_sem] Oper.semAt_some
theorem Mx(kd:Nat)(w:World)(h:8<=kd)(o:kd<=12):Calls prog 305 #[zI (kd:Int)] w fun e w'=>e=.returned (zT (bsg kd))/\w'=w:=by
 have r:kd=8∨kd=9∨kd=10∨kd=11∨kd=12:=by omega
 clear h o;rcases r with rfl|rfl|rfl|rfl|rfl<;>
  (go_enter func305,ntmps305
   go_wp2_with fail
   go_ret;exact⟨rfl,rfl⟩)
theorem z1D{W W':World}(h:zB W W'):W.grownBy W' none:=⟨h.os,h.tape,h.output,h.size,fun j o _=>h.block j o⟩
section
variable {s0 l N:Nat} {J Jx:List ByteArray->World->Prop} {QT:ByteArray->ByteArray} {CT:Nat->ByteArray}
theorem z8Q(G:Yl s0 l N J Jx)(m:Nat)(T:zA)(C:Nat)(p:Int)(o:Option Addr)(r t:Nat)(y:List ByteArray)(W:World)(Y:J y W)(hl:y.length+2<=N):
  CallsIn Fence.wide m prog 295 #[(.agg #[zI (1:Int),zT T,zU (wd C 0:Nat),zU (wd C 1:Nat),zU (wd C 2:Nat),zU (wd C 3:Nat),.slice o r t,zI p]),.func (.yield l) #[] #[]] W (Yp s0 J Jx y [bO,bC] W):=by
 have Z:=Xf;have HB:Hid ((W.alloc (.cells #[zI (1:Int),zT T,zU (wd C 0:Nat),zU (wd C 1:Nat),zU (wd C 2:Nat),zU (wd C 3:Nat),.slice o r t,zI p] 81)).heap[W.heap.size]? =some (.cells #[zI (1:Int),zT T,zU (wd C 0:Nat),zU (wd C 1:Nat),zU (wd C 2:Nat),zU (wd C 3:Nat),.slice o r t,zI p] 81)):=Qx W _ rfl;have aa:=hid (G.call (m-1) y bO (W.alloc (.cells #[zI (1:Int),zT T,zU (wd C 0:Nat),zU (wd C 1:Nat),zU (wd C 2:Nat),zU (wd C 3:Nat),.slice o r t,zI p] 81)) (G.alloc Y (.cells #[zI (1:Int),zT T,zU (wd C 0:Nat),zU (wd C 1:Nat),zU (wd C 2:Nat),zU (wd C 3:Nat),.slice o r t,zI p] 81)) (by omega) (by decide));have V:=hid (fun(I:World) (U:J (y++[bO]) I)=>G.call (m-1) _ bC I U (by simp;omega) (by decide));clear G Y hl;obtain⟨fn,ac,ad,Qm,A,D⟩:=aa.out;have E:=hid D;clear D aa;unfold bO at A;refine callsIn_of_wp func295 rfl trivial ?_ rfl;simp only[ntmps295,List.size_toArray,List.length_cons,List.length_nil,Nat.reduceAdd,Nat.reduceSub,Array.replicate_succ,Array.replicate_zero,List.push_toArray,List.append_toArray,List.nil_append,List.cons_append]
 gi_wp2
 refine⟨Z _,E.out.mono ?_⟩;clear E A;rintro e I (⟨rfl,U,ab⟩|⟨rfl,ae⟩)
 ·obtain⟨fn,ac,ad,Qm,A,D⟩:=V.out I U
  have E:=hid D;have af:=hid ab;clear D V U ab;unfold bC at A
  gi_wp2
  refine⟨Z _,E.out.mono ?_⟩;clear E A;rintro e W3 (⟨rfl,ag,ah⟩|⟨rfl,ai⟩)
  ·gi_wp2
   go_ret;exact .inl ⟨rfl,by simpa [List.append_assoc,bC]using ag,((Kt.alloc W _).trans af.out).trans ah⟩
  ·gi_wp2
   go_ret;exact .inr ⟨rfl,[bO,bC],List.prefix_refl _,by simpa [List.append_assoc,bC]using ai⟩
 ·clear V
  gi_wp2
  refine⟨fun _ h=>(by cases h),?_⟩
  gi_wp2
  go_ret;exact .inr ⟨rfl,[bO],⟨[bC],rfl⟩,ae⟩
theorem z8R(o:Yl s0 l N J Jx)(m:Nat)(T:zA)(C:Nat)(p:Int)(r:Option Addr)(t y:Nat)(h:List ByteArray)(W:World)(A:J h W)(hl:h.length+1<=N):
  CallsIn Fence.wide m prog 295 #[(.agg #[zI (4:Int),zT T,zU (wd C 0:Nat),zU (wd C 1:Nat),zU (wd C 2:Nat),zU (wd C 3:Nat),.slice r t y,zI p]),.func (.yield l) #[] #[]] W (Yp s0 J Jx h [Mq] W):=by
 have U:=Xf;have D:=hid (o.call (m-1) h Mq (W.alloc (.cells #[zI (4:Int),zT T,zU (wd C 0:Nat),zU (wd C 1:Nat),zU (wd C 2:Nat),zU (wd C 3:Nat),.slice r t y,zI p] 81)) (o.alloc A (.cells #[zI (4:Int),zT T,zU (wd C 0:Nat),zU (wd C 1:Nat),zU (wd C 2:Nat),zU (wd C 3:Nat),.slice r t y,zI p] 81)) (by omega) (by decide));clear o A hl;obtain⟨fn,aa,ab,Qm,E,G⟩:=D.out;have I:=hid G;clear G D;unfold Mq at E;refine callsIn_of_wp func295 rfl trivial ?_ rfl;simp only[ntmps295,List.size_toArray,List.length_cons,List.length_nil,Nat.reduceAdd,Nat.reduceSub,Array.replicate_succ,Array.replicate_zero,List.push_toArray,List.append_toArray,List.nil_append,List.cons_append]
 gi_wp2
 refine⟨U _,I.out.mono ?_⟩;clear I E;rintro e W2 (⟨rfl,V,Y⟩|⟨rfl,Z⟩)
 ·gi_wp2
  go_ret;exact .inl ⟨rfl,V,(Kt.alloc W _).trans Y⟩
 ·gi_wp2
  go_ret;exact .inr ⟨rfl,[Mq],List.prefix_refl _,Z⟩
theorem z8S(o:Yl s0 l N J Jx)(m:Nat)(T:zA)(C:Nat)(p:Int)(r:Option Addr)(t y:Nat)(h:List ByteArray)(W:World)(I:T.size<=4096)(A:J h W)(hl:h.length+1<=N):
  CallsIn Fence.wide m prog 295 #[(.agg #[zI (5:Int),zT T,zU (wd C 0:Nat),zU (wd C 1:Nat),zU (wd C 2:Nat),zU (wd C 3:Nat),.slice r t y,zI p]),.func (.yield l) #[] #[]] W (Yp s0 J Jx h [T] W):=by
 have U:=Xf;have D:=hid (o.call (m-1) h T (W.alloc (.cells #[zI (5:Int),zT T,zU (wd C 0:Nat),zU (wd C 1:Nat),zU (wd C 2:Nat),zU (wd C 3:Nat),.slice r t y,zI p] 81)) (o.alloc A (.cells #[zI (5:Int),zT T,zU (wd C 0:Nat),zU (wd C 1:Nat),zU (wd C 2:Nat),zU (wd C 3:Nat),.slice r t y,zI p] 81)) (by omega) I);clear o A hl;obtain⟨fn,ab,ac,Qm,V,E⟩:=D.out;have G:=hid E;clear E D;refine callsIn_of_wp func295 rfl trivial ?_ rfl;simp only[ntmps295,List.size_toArray,List.length_cons,List.length_nil,Nat.reduceAdd,Nat.reduceSub,Array.replicate_succ,Array.replicate_zero,List.push_toArray,List.append_toArray,List.nil_append,List.cons_append]
 gi_wp2
 refine⟨U _,G.out.mono ?_⟩;clear G V;rintro e W2 (⟨rfl,Y,Z⟩|⟨rfl,aa⟩)
 ·gi_wp2
  go_ret;exact .inl ⟨rfl,Y,(Kt.alloc W _).trans Z⟩
 ·gi_wp2
  go_ret;exact .inr ⟨rfl,[T],List.prefix_refl _,aa⟩
theorem z8T(r:Yl s0 l N J Jx)(m:Nat)(T:zA)(C:Nat)(p:Int)(G:Option Addr)(I U:Nat)(o:List ByteArray)(W:World)(hT:T.size<=255)(V:(nb (qt T)).size<=4096)(Y:J o W)(hl:o.length+1<=N):
  CallsIn Fence.wide m prog 295 #[(.agg #[zI (2:Int),zT T,zU (wd C 0:Nat),zU (wd C 1:Nat),zU (wd C 2:Nat),zU (wd C 3:Nat),.slice G I U,zI p]),.func (.yield l) #[] #[]] W (Yp s0 J Jx o [(nb (qt T))] W):=by
 have Z:=Xf;obtain⟨h,t⟩:∃h,h=W.alloc (.cells #[zI (2:Int),zT T,zU (wd C 0:Nat),zU (wd C 1:Nat),zU (wd C 2:Nat),zU (wd C 3:Nat),.slice G I U,zI p] 81):=⟨_,rfl⟩;have aa:=hid t;have ab:Hid (Kt s0 W h):=by rw[t];exact Kt.alloc W _
 have ac:Hid (J o h):=by rw[t];exact r.alloc Y _
 have A:=hid (z8p T h (by omega));have D:=hid (fun(y:World) (hb:zB h y)=>r.call (m-1) o (nb (qt T)) y (r.grow _ _ _ ac.out (z1D hb)) (by omega) V);clear r Y hl t;obtain⟨X,hX⟩:∃X,X=(nb (qt T)):=⟨_,rfl⟩;rw[<-hX]at A D ⊢;clear hX V;refine callsIn_of_wp func295 rfl trivial ?_ rfl;simp only[ntmps295,List.size_toArray,List.length_cons,List.length_nil,Nat.reduceAdd,Nat.reduceSub,Array.replicate_succ,Array.replicate_zero,List.push_toArray,List.append_toArray,List.nil_append,List.cons_append]
 gi_wp2
 rw[<-aa.out];refine⟨trivial,Z _,?_⟩;refine(callsIn_wide.2 A.out).mono ?_;clear A;rintro e y ⟨rfl,E⟩;obtain⟨fn,ah,ai,Qm,hy,hR⟩:=D.out y E;have HR:=hid hR;have ad:=hid (Kt.below (s0:=s0) E);clear hR D E
 gi_wp2
 refine⟨Z _,HR.out.mono ?_⟩;clear HR hy;rintro e W3 (⟨rfl,ae,af⟩|⟨rfl,ag⟩)
 ·gi_wp2
  go_ret;exact .inl ⟨rfl,ae,(ab.out.trans ad.out).trans af⟩
 ·gi_wp2
  go_ret;exact .inr ⟨rfl,[X],List.prefix_refl _,ag⟩
theorem z8U(r:Yl s0 l N J Jx)(m:Nat)(T:zA)(C:Nat)(p:Int)(G:Option Addr)(I U:Nat)(o:List ByteArray)(W:World)(hC:C<2^256)(V:(nb (txt C)).size<=4096)(ab:TabIs W)(Y:J o W)(hl:o.length+1<=N):
  CallsIn Fence.wide m prog 295 #[(.agg #[zI (3:Int),zT T,zU (wd C 0:Nat),zU (wd C 1:Nat),zU (wd C 2:Nat),zU (wd C 3:Nat),.slice G I U,zI p]),.func (.yield l) #[] #[]] W (Yp s0 J Jx o [(nb (txt C))] W):=by
 have Z:=Xf;obtain⟨h,t⟩:∃h,h=W.alloc (.cells #[zI (3:Int),zT T,zU (wd C 0:Nat),zU (wd C 1:Nat),zU (wd C 2:Nat),zU (wd C 3:Nat),.slice G I U,zI p] 81):=⟨_,rfl⟩;have ac:=hid t;have aa:Hid (Kt s0 W h):=by rw[t];exact Kt.alloc W _
 have ad:Hid (J o h):=by rw[t];exact r.alloc Y _
 have y:=hid (z8E C h hC (aa.out.tab ab));have D:=hid (fun(A:World) (hb:zB h A)=>r.call (m-1) o (nb (txt C)) A (r.grow _ _ _ ad.out (z1D hb)) (by omega) V);clear r Y hl t;obtain⟨X,hX⟩:∃X,X=(nb (txt C)):=⟨_,rfl⟩;rw[<-hX]at y D ⊢;clear hX V;unfold cv at y;refine callsIn_of_wp func295 rfl trivial ?_ rfl;simp only[ntmps295,List.size_toArray,List.length_cons,List.length_nil,Nat.reduceAdd,Nat.reduceSub,Array.replicate_succ,Array.replicate_zero,List.push_toArray,List.append_toArray,List.nil_append,List.cons_append]
 gi_wp2
 rw[<-ac.out];refine⟨trivial,Z _,?_⟩;refine(callsIn_wide.2 y.out).mono ?_;clear y;rintro e A ⟨rfl,E⟩;obtain⟨fn,ai,aj,Qm,hy,hR⟩:=D.out A E;have HR:=hid hR;have ae:=hid (Kt.below (s0:=s0) E);clear hR D E
 gi_wp2
 refine⟨Z _,HR.out.mono ?_⟩;clear HR hy;rintro e W3 (⟨rfl,af,ag⟩|⟨rfl,ah⟩)
 ·gi_wp2
  go_ret;exact .inl ⟨rfl,af,(aa.out.trans ae.out).trans ag⟩
 ·gi_wp2
  go_ret;exact .inr ⟨rfl,[X],List.prefix_refl _,ah⟩
theorem z8V(A:Yl s0 l N J Jx)(m:Nat)(T:zA)(C:Nat)(p:Int)(r:Option Addr)(t y:Nat)(h:List ByteArray)(W:World)(D:List ByteArray)(E:∀o,Kt s0 W o->J h o->CallsIn Fence.wide (m-1) prog 304 #[(.agg #[zI (6:Int),zT T,zU (wd C 0:Nat),zU (wd C 1:Nat),zU (wd C 2:Nat),zU (wd C 3:Nat),.slice r t y,zI p]),zT {data:=#[32]},.func (.yield l) #[] #[]] o (Yp s0 J Jx h D o))(G:J h W):
  CallsIn Fence.wide m prog 295 #[(.agg #[zI (6:Int),zT T,zU (wd C 0:Nat),zU (wd C 1:Nat),zU (wd C 2:Nat),zU (wd C 3:Nat),.slice r t y,zI p]),.func (.yield l) #[] #[]] W (Yp s0 J Jx h D W):=by
 have U:=Xf;have I:=hid (E (W.alloc (.cells #[zI (6:Int),zT T,zU (wd C 0:Nat),zU (wd C 1:Nat),zU (wd C 2:Nat),zU (wd C 3:Nat),.slice r t y,zI p] 81)) (Kt.alloc W _) (A.alloc G _));clear E A G;refine callsIn_of_wp func295 rfl trivial ?_ rfl;simp only[ntmps295,List.size_toArray,List.length_cons,List.length_nil,Nat.reduceAdd,Nat.reduceSub,Array.replicate_succ,Array.replicate_zero,List.push_toArray,List.append_toArray,List.nil_append,List.cons_append]
 gi_wp2
 refine⟨trivial,U _,I.out.mono ?_⟩;clear I;rintro e W2 (⟨rfl,V,Y⟩|⟨rfl,q,Z,aa⟩)
 ·gi_wp2
  go_ret;exact .inl ⟨rfl,V,(Kt.alloc W _).trans Y⟩
 ·gi_wp2
  go_ret;exact .inr ⟨rfl,q,Z,aa⟩
theorem z8W(A:Yl s0 l N J Jx)(m:Nat)(T:zA)(C:Nat)(p:Int)(r:Option Addr)(t y:Nat)(h:List ByteArray)(W:World)(D:List ByteArray)(E:∀o,Kt s0 W o->J h o->CallsIn Fence.wide (m-1) prog 304 #[(.agg #[zI (7:Int),zT T,zU (wd C 0:Nat),zU (wd C 1:Nat),zU (wd C 2:Nat),zU (wd C 3:Nat),.slice r t y,zI p]),zT {data:=#[32,47,32]},.func (.yield l) #[] #[]] o (Yp s0 J Jx h D o))(G:J h W):
  CallsIn Fence.wide m prog 295 #[(.agg #[zI (7:Int),zT T,zU (wd C 0:Nat),zU (wd C 1:Nat),zU (wd C 2:Nat),zU (wd C 3:Nat),.slice r t y,zI p]),.func (.yield l) #[] #[]] W (Yp s0 J Jx h D W):=by
 have U:=Xf;have I:=hid (E (W.alloc (.cells #[zI (7:Int),zT T,zU (wd C 0:Nat),zU (wd C 1:Nat),zU (wd C 2:Nat),zU (wd C 3:Nat),.slice r t y,zI p] 81)) (Kt.alloc W _) (A.alloc G _));clear E A G;refine callsIn_of_wp func295 rfl trivial ?_ rfl;simp only[ntmps295,List.size_toArray,List.length_cons,List.length_nil,Nat.reduceAdd,Nat.reduceSub,Array.replicate_succ,Array.replicate_zero,List.push_toArray,List.append_toArray,List.nil_append,List.cons_append]
 gi_wp2
 refine⟨trivial,U _,I.out.mono ?_⟩;clear I;rintro e W2 (⟨rfl,V,Y⟩|⟨rfl,q,Z,aa⟩)
 ·gi_wp2
  go_ret;exact .inl ⟨rfl,V,(Kt.alloc W _).trans Y⟩
 ·gi_wp2
  go_ret;exact .inr ⟨rfl,q,Z,aa⟩
theorem z8X(E:Yl s0 l N J Jx)(m:Nat)(T:zA)(C:Nat)(p:Int)(h:Option Addr)(o t:Nat)(y:List ByteArray)(W:World)(G:List ByteArray)(V:∀A,Kt s0 W A->J (y++[bsg 11]) A->CallsIn Fence.wide (m-1) prog 304 #[(.agg #[zI (11:Int),zT T,zU (wd C 0:Nat),zU (wd C 1:Nat),zU (wd C 2:Nat),zU (wd C 3:Nat),.slice h o t,zI p]),zT {data:=#[]},.func (.yield l) #[] #[]] A (Yp s0 J Jx (y++[bsg 11]) G A))(Y:J y W)(hl:y.length+1<=N):
  CallsIn Fence.wide m prog 295 #[(.agg #[zI (11:Int),zT T,zU (wd C 0:Nat),zU (wd C 1:Nat),zU (wd C 2:Nat),zU (wd C 3:Nat),.slice h o t,zI p]),.func (.yield l) #[] #[]] W (Yp s0 J Jx y (bsg 11::G) W):=by
 have I:=Xf;have HB:Hid ((W.alloc (.cells #[zI (11:Int),zT T,zU (wd C 0:Nat),zU (wd C 1:Nat),zU (wd C 2:Nat),zU (wd C 3:Nat),.slice h o t,zI p] 81)).heap[W.heap.size]? =some (.cells #[zI (11:Int),zT T,zU (wd C 0:Nat),zU (wd C 1:Nat),zU (wd C 2:Nat),zU (wd C 3:Nat),.slice h o t,zI p] 81)):=Qx W _ rfl;have HS:=hid (fun w:World=>Mx 11 w (by decide) (by decide));have Z:=hid (E.call (m-1) y (bsg 11) (W.alloc (.cells #[zI (11:Int),zT T,zU (wd C 0:Nat),zU (wd C 1:Nat),zU (wd C 2:Nat),zU (wd C 3:Nat),.slice h o t,zI p] 81)) (E.alloc Y (.cells #[zI (11:Int),zT T,zU (wd C 0:Nat),zU (wd C 1:Nat),zU (wd C 2:Nat),zU (wd C 3:Nat),.slice h o t,zI p] 81)) (by omega) (by decide));have U:=hid V;clear E Y hl V;obtain⟨fn,ah,ai,Qm,hy,hR⟩:=Z.out;have HR:=hid hR;clear hR Z;refine callsIn_of_wp func295 rfl trivial ?_ rfl;simp only[ntmps295,List.size_toArray,List.length_cons,List.length_nil,Nat.reduceAdd,Nat.reduceSub,Array.replicate_succ,Array.replicate_zero,List.push_toArray,List.append_toArray,List.nil_append,List.cons_append]
 gi_wp2
 refine⟨trivial,I _,(callsIn_wide.2 (HS.out _)).mono ?_⟩;rintro e A ⟨rfl,rfl⟩
 gi_wp2
 refine⟨I _,HR.out.mono ?_⟩;clear HR hy;rintro e W2 (⟨rfl,aa,D⟩|⟨rfl,ac⟩)
 ·obtain⟨⟨c0,c1,c2,c3,c4,c5,c6,c7⟩,_⟩:=Qg (D.eight HB.out)
  have ab:=hid (U.out W2 ((Kt.alloc W _).trans D) aa);have ad:=hid D;clear U aa D
  gi_wp2
  refine⟨trivial,I _,ab.out.mono ?_⟩;clear ab;rintro e W3 (⟨rfl,ae,af⟩|⟨rfl,q,hq,ag⟩)
  ·gi_wp2
   go_ret;exact .inl ⟨rfl,by simpa [List.append_assoc]using ae,((Kt.alloc W _).trans ad.out).trans af⟩
  ·gi_wp2
   go_ret;obtain⟨r,hr⟩:=hq;exact .inr ⟨rfl,bsg 11::q,⟨r,by rw[<-hr];rfl⟩,by simpa [List.append_assoc]using ag⟩
 ·clear U
  gi_wp2
  refine⟨trivial,?_⟩
  gi_wp2
  go_ret;exact .inr ⟨rfl,[bsg 11],⟨G,rfl⟩,ac⟩
theorem z8Y(E:Yl s0 l N J Jx)(m:Nat)(T:zA)(C:Nat)(p:Int)(h:Option Addr)(o t:Nat)(y:List ByteArray)(W:World)(G:List ByteArray)(V:∀A,Kt s0 W A->J (y++[bsg 12]) A->CallsIn Fence.wide (m-1) prog 304 #[(.agg #[zI (12:Int),zT T,zU (wd C 0:Nat),zU (wd C 1:Nat),zU (wd C 2:Nat),zU (wd C 3:Nat),.slice h o t,zI p]),zT {data:=#[]},.func (.yield l) #[] #[]] A (Yp s0 J Jx (y++[bsg 12]) G A))(Y:J y W)(hl:y.length+1<=N):
  CallsIn Fence.wide m prog 295 #[(.agg #[zI (12:Int),zT T,zU (wd C 0:Nat),zU (wd C 1:Nat),zU (wd C 2:Nat),zU (wd C 3:Nat),.slice h o t,zI p]),.func (.yield l) #[] #[]] W (Yp s0 J Jx y (bsg 12::G) W):=by
 have I:=Xf;have HB:Hid ((W.alloc (.cells #[zI (12:Int),zT T,zU (wd C 0:Nat),zU (wd C 1:Nat),zU (wd C 2:Nat),zU (wd C 3:Nat),.slice h o t,zI p] 81)).heap[W.heap.size]? =some (.cells #[zI (12:Int),zT T,zU (wd C 0:Nat),zU (wd C 1:Nat),zU (wd C 2:Nat),zU (wd C 3:Nat),.slice h o t,zI p] 81)):=Qx W _ rfl;have HS:=hid (fun w:World=>Mx 12 w (by decide) (by decide));have Z:=hid (E.call (m-1) y (bsg 12) (W.alloc (.cells #[zI (12:Int),zT T,zU (wd C 0:Nat),zU (wd C 1:Nat),zU (wd C 2:Nat),zU (wd C 3:Nat),.slice h o t,zI p] 81)) (E.alloc Y (.cells #[zI (12:Int),zT T,zU (wd C 0:Nat),zU (wd C 1:Nat),zU (wd C 2:Nat),zU (wd C 3:Nat),.slice h o t,zI p] 81)) (by omega) (by decide));have U:=hid V;clear E Y hl V;obtain⟨fn,ah,ai,Qm,hy,hR⟩:=Z.out;have HR:=hid hR;clear hR Z;refine callsIn_of_wp func295 rfl trivial ?_ rfl;simp only[ntmps295,List.size_toArray,List.length_cons,List.length_nil,Nat.reduceAdd,Nat.reduceSub,Array.replicate_succ,Array.replicate_zero,List.push_toArray,List.append_toArray,List.nil_append,List.cons_append]
 gi_wp2
 refine⟨trivial,I _,(callsIn_wide.2 (HS.out _)).mono ?_⟩;rintro e A ⟨rfl,rfl⟩
 gi_wp2
 refine⟨I _,HR.out.mono ?_⟩;clear HR hy;rintro e W2 (⟨rfl,aa,D⟩|⟨rfl,ac⟩)
 ·obtain⟨⟨c0,c1,c2,c3,c4,c5,c6,c7⟩,_⟩:=Qg (D.eight HB.out)
  have ab:=hid (U.out W2 ((Kt.alloc W _).trans D) aa);have ad:=hid D;clear U aa D
  gi_wp2
  refine⟨trivial,I _,ab.out.mono ?_⟩;clear ab;rintro e W3 (⟨rfl,ae,af⟩|⟨rfl,q,hq,ag⟩)
  ·gi_wp2
   go_ret;exact .inl ⟨rfl,by simpa [List.append_assoc]using ae,((Kt.alloc W _).trans ad.out).trans af⟩
  ·gi_wp2
   go_ret;obtain⟨r,hr⟩:=hq;exact .inr ⟨rfl,bsg 12::q,⟨r,by rw[<-hr];rfl⟩,by simpa [List.append_assoc]using ag⟩
 ·clear U
  gi_wp2
  refine⟨trivial,?_⟩
  gi_wp2
  go_ret;exact .inr ⟨rfl,[bsg 12],⟨G,rfl⟩,ac⟩
theorem z8Z(U:Yl s0 l N J Jx)(m:Nat)(T:zA)(C:Nat)(p:Int)(t:Option Addr)(y A:Nat)(o:List ByteArray)(W:World)(D:List ByteArray)(hP:∀E,Kt s0 W E->J o E->CallsIn Fence.wide (m-1) prog 304 #[(.agg #[zI (8:Int),zT T,zU (wd C 0:Nat),zU (wd C 1:Nat),zU (wd C 2:Nat),zU (wd C 3:Nat),.slice t y A,zI p]),zT {data:=#[]},.func (.yield l) #[] #[]] E (Yp s0 J Jx o D E))(hJ:J o W)(hl:o.length+(D.length+1)<=N):
  CallsIn Fence.wide m prog 295 #[(.agg #[zI (8:Int),zT T,zU (wd C 0:Nat),zU (wd C 1:Nat),zU (wd C 2:Nat),zU (wd C 3:Nat),.slice t y A,zI p]),.func (.yield l) #[] #[]] W (Yp s0 J Jx o (D++[bsg 8]) W):=by
 have V:=Xf;have HB:Hid ((W.alloc (.cells #[zI (8:Int),zT T,zU (wd C 0:Nat),zU (wd C 1:Nat),zU (wd C 2:Nat),zU (wd C 3:Nat),.slice t y A,zI p] 81)).heap[W.heap.size]? =some (.cells #[zI (8:Int),zT T,zU (wd C 0:Nat),zU (wd C 1:Nat),zU (wd C 2:Nat),zU (wd C 3:Nat),.slice t y A,zI p] 81)):=Qx W _ rfl;have HS:=hid (fun w:World=>Mx 8 w (by decide) (by decide));have HP:=hid (hP (W.alloc (.cells #[zI (8:Int),zT T,zU (wd C 0:Nat),zU (wd C 1:Nat),zU (wd C 2:Nat),zU (wd C 3:Nat),.slice t y A,zI p] 81)) (Kt.alloc W _) (U.alloc hJ _));have Y:=hid (fun(G:World) (I:J (o++D) G)=>U.call (m-1) _ (bsg 8) G I (by simp;omega) (by decide));clear U hJ hl hP;refine callsIn_of_wp func295 rfl trivial ?_ rfl;simp only[ntmps295,List.size_toArray,List.length_cons,List.length_nil,Nat.reduceAdd,Nat.reduceSub,Array.replicate_succ,Array.replicate_zero,List.push_toArray,List.append_toArray,List.nil_append,List.cons_append]
 gi_wp2
 refine⟨trivial,V _,HP.out.mono ?_⟩;clear HP;rintro e G (⟨rfl,I,Z⟩|⟨rfl,q,hq,aa⟩)
 ·obtain⟨⟨c0,c1,c2,c3,c4,c5,c6,c7⟩,_⟩:=Qg (Z.eight HB.out)
  obtain⟨fn,af,ag,Qm,hy,hR⟩:=Y.out G I;have HR:=hid hR;have ab:=hid Z;clear hR Y I Z
  gi_wp2
  refine⟨trivial,V _,(callsIn_wide.2 (HS.out _)).mono ?_⟩;rintro e W3 ⟨rfl,rfl⟩
  gi_wp2
  refine⟨V _,HR.out.mono ?_⟩;clear HR hy;rintro e W4 (⟨rfl,ac,ad⟩|⟨rfl,ae⟩)
  ·gi_wp2
   go_ret;exact .inl ⟨rfl,by simpa [List.append_assoc]using ac,((Kt.alloc W _).trans ab.out).trans ad⟩
  ·gi_wp2
   go_ret;exact .inr ⟨rfl,D++[bsg 8],List.prefix_refl _,by simpa [List.append_assoc]using ae⟩
 ·clear Y
  gi_wp2
  refine⟨trivial,?_⟩
  gi_wp2
  refine⟨fun _ h=>(by cases h),?_⟩
  gi_wp2
  go_ret;obtain⟨r,hr⟩:=hq;exact .inr ⟨rfl,q,⟨r++[bsg 8],by rw[<-hr];simp⟩,aa⟩
theorem z9a(U:Yl s0 l N J Jx)(m:Nat)(T:zA)(C:Nat)(p:Int)(t:Option Addr)(y A:Nat)(o:List ByteArray)(W:World)(D:List ByteArray)(hP:∀E,Kt s0 W E->J o E->CallsIn Fence.wide (m-1) prog 304 #[(.agg #[zI (9:Int),zT T,zU (wd C 0:Nat),zU (wd C 1:Nat),zU (wd C 2:Nat),zU (wd C 3:Nat),.slice t y A,zI p]),zT {data:=#[]},.func (.yield l) #[] #[]] E (Yp s0 J Jx o D E))(hJ:J o W)(hl:o.length+(D.length+1)<=N):
  CallsIn Fence.wide m prog 295 #[(.agg #[zI (9:Int),zT T,zU (wd C 0:Nat),zU (wd C 1:Nat),zU (wd C 2:Nat),zU (wd C 3:Nat),.slice t y A,zI p]),.func (.yield l) #[] #[]] W (Yp s0 J Jx o (D++[bsg 9]) W):=by
 have V:=Xf;have HB:Hid ((W.alloc (.cells #[zI (9:Int),zT T,zU (wd C 0:Nat),zU (wd C 1:Nat),zU (wd C 2:Nat),zU (wd C 3:Nat),.slice t y A,zI p] 81)).heap[W.heap.size]? =some (.cells #[zI (9:Int),zT T,zU (wd C 0:Nat),zU (wd C 1:Nat),zU (wd C 2:Nat),zU (wd C 3:Nat),.slice t y A,zI p] 81)):=Qx W _ rfl;have HS:=hid (fun w:World=>Mx 9 w (by decide) (by decide));have HP:=hid (hP (W.alloc (.cells #[zI (9:Int),zT T,zU (wd C 0:Nat),zU (wd C 1:Nat),zU (wd C 2:Nat),zU (wd C 3:Nat),.slice t y A,zI p] 81)) (Kt.alloc W _) (U.alloc hJ _));have Y:=hid (fun(G:World) (I:J (o++D) G)=>U.call (m-1) _ (bsg 9) G I (by simp;omega) (by decide));clear U hJ hl hP;refine callsIn_of_wp func295 rfl trivial ?_ rfl;simp only[ntmps295,List.size_toArray,List.length_cons,List.length_nil,Nat.reduceAdd,Nat.reduceSub,Array.replicate_succ,Array.replicate_zero,List.push_toArray,List.append_toArray,List.nil_append,List.cons_append]
 gi_wp2
 refine⟨trivial,V _,HP.out.mono ?_⟩;clear HP;rintro e G (⟨rfl,I,Z⟩|⟨rfl,q,hq,aa⟩)
 ·obtain⟨⟨c0,c1,c2,c3,c4,c5,c6,c7⟩,_⟩:=Qg (Z.eight HB.out)
  obtain⟨fn,af,ag,Qm,hy,hR⟩:=Y.out G I;have HR:=hid hR;have ab:=hid Z;clear hR Y I Z
  gi_wp2
  refine⟨trivial,V _,(callsIn_wide.2 (HS.out _)).mono ?_⟩;rintro e W3 ⟨rfl,rfl⟩
  gi_wp2
  refine⟨V _,HR.out.mono ?_⟩;clear HR hy;rintro e W4 (⟨rfl,ac,ad⟩|⟨rfl,ae⟩)
  ·gi_wp2
   go_ret;exact .inl ⟨rfl,by simpa [List.append_assoc]using ac,((Kt.alloc W _).trans ab.out).trans ad⟩
  ·gi_wp2
   go_ret;exact .inr ⟨rfl,D++[bsg 9],List.prefix_refl _,by simpa [List.append_assoc]using ae⟩
 ·clear Y
  gi_wp2
  refine⟨trivial,?_⟩
  gi_wp2
  refine⟨fun _ h=>(by cases h),?_⟩
  gi_wp2
  go_ret;obtain⟨r,hr⟩:=hq;exact .inr ⟨rfl,q,⟨r++[bsg 9],by rw[<-hr];simp⟩,aa⟩
theorem z9b(U:Yl s0 l N J Jx)(m:Nat)(T:zA)(C:Nat)(p:Int)(t:Option Addr)(y A:Nat)(o:List ByteArray)(W:World)(D:List ByteArray)(hP:∀E,Kt s0 W E->J o E->CallsIn Fence.wide (m-1) prog 304 #[(.agg #[zI (10:Int),zT T,zU (wd C 0:Nat),zU (wd C 1:Nat),zU (wd C 2:Nat),zU (wd C 3:Nat),.slice t y A,zI p]),zT {data:=#[]},.func (.yield l) #[] #[]] E (Yp s0 J Jx o D E))(hJ:J o W)(hl:o.length+(D.length+1)<=N):
  CallsIn Fence.wide m prog 295 #[(.agg #[zI (10:Int),zT T,zU (wd C 0:Nat),zU (wd C 1:Nat),zU (wd C 2:Nat),zU (wd C 3:Nat),.slice t y A,zI p]),.func (.yield l) #[] #[]] W (Yp s0 J Jx o (D++[bsg 10]) W):=by
 have V:=Xf;have HB:Hid ((W.alloc (.cells #[zI (10:Int),zT T,zU (wd C 0:Nat),zU (wd C 1:Nat),zU (wd C 2:Nat),zU (wd C 3:Nat),.slice t y A,zI p] 81)).heap[W.heap.size]? =some (.cells #[zI (10:Int),zT T,zU (wd C 0:Nat),zU (wd C 1:Nat),zU (wd C 2:Nat),zU (wd C 3:Nat),.slice t y A,zI p] 81)):=Qx W _ rfl;have HS:=hid (fun w:World=>Mx 10 w (by decide) (by decide));have HP:=hid (hP (W.alloc (.cells #[zI (10:Int),zT T,zU (wd C 0:Nat),zU (wd C 1:Nat),zU (wd C 2:Nat),zU (wd C 3:Nat),.slice t y A,zI p] 81)) (Kt.alloc W _) (U.alloc hJ _));have Y:=hid (fun(G:World) (I:J (o++D) G)=>U.call (m-1) _ (bsg 10) G I (by simp;omega) (by decide));clear U hJ hl hP;refine callsIn_of_wp func295 rfl trivial ?_ rfl;simp only[ntmps295,List.size_toArray,List.length_cons,List.length_nil,Nat.reduceAdd,Nat.reduceSub,Array.replicate_succ,Array.replicate_zero,List.push_toArray,List.append_toArray,List.nil_append,List.cons_append]
 gi_wp2
 refine⟨trivial,V _,HP.out.mono ?_⟩;clear HP;rintro e G (⟨rfl,I,Z⟩|⟨rfl,q,hq,aa⟩)
 ·obtain⟨⟨c0,c1,c2,c3,c4,c5,c6,c7⟩,_⟩:=Qg (Z.eight HB.out)
  obtain⟨fn,af,ag,Qm,hy,hR⟩:=Y.out G I;have HR:=hid hR;have ab:=hid Z;clear hR Y I Z
  gi_wp2
  refine⟨trivial,V _,(callsIn_wide.2 (HS.out _)).mono ?_⟩;rintro e W3 ⟨rfl,rfl⟩
  gi_wp2
  refine⟨V _,HR.out.mono ?_⟩;clear HR hy;rintro e W4 (⟨rfl,ac,ad⟩|⟨rfl,ae⟩)
  ·gi_wp2
   go_ret;exact .inl ⟨rfl,by simpa [List.append_assoc]using ac,((Kt.alloc W _).trans ab.out).trans ad⟩
  ·gi_wp2
   go_ret;exact .inr ⟨rfl,D++[bsg 10],List.prefix_refl _,by simpa [List.append_assoc]using ae⟩
 ·clear Y
  gi_wp2
  refine⟨trivial,?_⟩
  gi_wp2
  refine⟨fun _ h=>(by cases h),?_⟩
  gi_wp2
  go_ret;obtain⟨r,hr⟩:=hq;exact .inr ⟨rfl,q,⟨r++[bsg 10],by rw[<-hr];simp⟩,aa⟩
end
end
end Go.Proofs.YtgnkkgcgbeianaaGreatDoor
