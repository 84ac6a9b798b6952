/- Lemmas for the last text. Conditions: those that each names. -/
import Derived.Test.YtmelafeingcgnaaGreatDoorVX6ToX16
import Derived.Laws.Strings
import Derived.WideShapes
import Derived.Test.YtmelafeingcgnaaGreatDoorVY15ToX17
import Derived.Test.YtmelafeingcgnaaGreatDoorVQ1ToQ3
import Derived.RangeFuncNested
import Derived.RangeFuncBound
import Derived.RangeFuncCalls
import Derived.RangeFuncLeaves
import Derived.Shelf.Abstract
import Derived.WalkKit
import Derived.OwnWalkIn
import Derived.TacticsInMore
import Derived.LoopNIn
import Derived.LoopIn
set_option linter.unusedVariables false
set_option maxRecDepth 100000
set_option maxHeartbeats 8000000
namespace Go.Proofs.YtmelafeingcgnaaGreatDoor
open Go.Proofs.Tryz
open Go.RowKit
theorem z8Q(S T:zA)(i:Nat):bt (S++T) i=if i<S.size then bt S i else bt T (i-S.size):=by
 unfold bt;by_cases h:i<S.size
 ·rw[if_pos h,dif_pos h,dif_pos (by rw[ByteArray.size_append];omega),ByteArray.getElem_append_left h]
 ·rw[if_neg h]
  by_cases h2:i<(S++T).size
  ·have o:=h2
   rw[ByteArray.size_append]at o;rw[dif_pos h2,dif_pos (by omega),ByteArray.getElem_append_right (by omega)]
  ·have o:=h2
   rw[ByteArray.size_append]at o;rw[dif_neg h2,dif_neg (by omega)]
theorem z1y(l:List Nat)(h:∀x∈l,x<256)(i:Nat):bt (nb l) i=l[i]? :=by
 unfold bt;by_cases hi:i<(nb l).size
 ·rw[dif_pos hi]
  rw[Uc]at hi;rw[List.getElem?_eq_getElem hi];have:=h _ (List.getElem_mem hi);show some (((nb l).data[i]).toNat)=_;simp[nb];omega
 ·rw[dif_neg hi]
  rw[Uc]at hi;rw[List.getElem?_eq_none (by omega)]
theorem z1z(P:zA):∀f k:Nat,P.size-k=f->k<=P.size->∃r,qt P=qp P k++r
 |0,k,hf,hk=>by
  obtain rfl:k=P.size:=by omega
  exact⟨[39],rfl⟩
 |f+1,k,hf,hk=>by
  obtain⟨r,h⟩:=z1z P f (k+1) (by omega) (by omega);cases hb:bt P k with
  |none=>have:=Yg hb;omega
  |some x=>rw[z1n hb]at h;exact⟨lq x++r,by rw[h,List.append_assoc]⟩
theorem z8R{A B:zA}(h:∀j,bt A j=bt B j):A=B:=by
 have D:A.size=B.size:=by
  rcases Nat.lt_trichotomy A.size B.size with r|r|r
  ·have o:=h A.size
   rw[Up L0q]at o;have:=Yg o.symm;omega
  ·exact r
  ·have o:=h B.size
   rw[Up L0q]at o;have:=Yg o;omega
 apply ByteArray.ext;apply Array.ext
 ·exact D
 ·intro i r o
  have y:=h i;have E:bt A i=some (A.data[i].toNat):=by unfold bt;rw[dif_pos (show i<A.size from r)];rfl
  have G:bt B i=some (B.data[i].toNat):=by unfold bt;rw[dif_pos (show i<B.size from o)];rfl
  rw[E,G]at y;exact UInt8.toNat.inj (Option.some.inj y)
section
mutual
def Wf(Nm:zA->Prop):Nd->Prop
 | .mk kd T C s p=>(kd=2->T.size<=255)/\(kd=5->Nm T)/\C<2^256/\WfL Nm s
def WfL(Nm:zA->Prop):List Nd->Prop
 |[]=>True
 |n::r=>Wf Nm n/\WfL Nm r
end
section
variable {L:List Tok} {Nm:ByteArray->Prop}
def Ruk(Nm:zA->Prop)(x:Rl):Prop:=Nm x.1/\Vk x.2.1/\Wf Nm x.2.1
end
end
section
def bO:zA:={data:=#[40]}
def bC:zA:={data:=#[41]}
def bSp:zA:={data:=#[32]}
def bSl:zA:={data:=#[32,47,32]}
def bAr:zA:={data:=#[32,60,45,32]}
def bNl:zA:={data:=#[10]}
def Nl:zA:={data:=#[46]}
def bE:zA:={data:=#[]}
def bsg(kd:Nat):zA:=if kd=11 then{data:=#[38]}else if kd=12 then{data:=#[33]}else{data:=#[rpS kd]}
section
variable (QT:ByteArray->ByteArray) (CT:Nat->ByteArray)
mutual
def pN:Nd->List ByteArray
 | .mk kd T C s p=>if kd=1 then [bO,bC]else if kd=2 then [QT T]else if kd=3 then [CT C]else if kd=4 then [Nl]else if kd=5 then [T]else if kd=6 then pS 6 bSp s else if kd=7 then pS 7 bSl s
   else if kd=11∨kd=12 then bsg kd::pS kd bE s else pS kd bE s++[bsg kd]
def pS(over:Nat)(sep:zA):List Nd->List ByteArray
 |[]=>[]
 |n::r=>(if wr over n.kd=true then bO::(pN n++[bC])else pN n)++pB over sep r
def pB(over:Nat)(sep:zA):List Nd->List ByteArray
 |[]=>[]
 |n::r=>sep::((if wr over n.kd=true then bO::(pN n++[bC])else pN n)++pB over sep r)
end
def pP(over:Nat)(n:Nd):List ByteArray:=if wr over n.kd=true then bO::(pN QT CT n++[bC])else pN QT CT n
def pR:List Rl->List ByteArray
 |[]=>[]
 |x::r=>x.1::bAr::(pN QT CT x.2.1++(bNl::pR r))
end
def sz:List ByteArray->Nat
 |[]=>0
 |p::r=>p.size+sz r
theorem Xv:∀(a b:List ByteArray),sz (a++b)=sz a+sz b
 |[],b=>by rw[List.nil_append,sz,Nat.zero_add]
 |p::r,b=>by rw[List.cons_append,sz,sz,Xv r b,Nat.add_assoc]
section
variable {X:ByteArray}
variable {Nm:ByteArray->Prop} {QT:ByteArray->ByteArray} {CT:Nat->ByteArray}
theorem Fg(h:Nat)(o:zA)(n:Nd)(r:List Nd):pS QT CT h o (n::r)=pP QT CT h n++pB QT CT h o r:=by rw[pS];rfl
theorem Fb(h:Nat)(o:zA)(n:Nd)(r:List Nd):pB QT CT h o (n::r)=o::(pP QT CT h n++pB QT CT h o r):=by rw[pB];rfl
theorem Od(h:Nat)(o:zA):pB QT CT h o []=[]:=by rw[pB]
end
end
section
def cat:List ByteArray->ByteArray
 |[]=>{data:=#[]}
 |p::r=>p++cat r
theorem Om:∀(h:List ByteArray),(cat h).size=sz h
 |[]=>rfl
 |p::r=>by rw[cat,ByteArray.size_append,Om r,sz]
theorem z1A:∀(A B:List ByteArray),cat (A++B)=cat A++cat B
 |[],B=>by
  rw[List.nil_append,cat];apply z8R;intro j;rw[z8Q,if_neg (by show ¬j<0;omega)];rfl
 |p::r,B=>by rw[List.cons_append,cat,cat,z1A r B,ByteArray.append_assoc]
section
variable {Nm:ByteArray->Prop} {QT:ByteArray->ByteArray} {CT:Nat->ByteArray}
theorem Zc{p q:zA}{x y:Nat}(o:bt p 0=some x)(r:bt q 0=some y)(h:x≠y):p≠q:=fun e=>by
 rw[e,r]at o;cases o;exact h rfl
theorem z1B:bC≠bO:=Zc (x:=41) (y:=40) rfl rfl (by decide)
theorem Eq(kd:Nat):bsg kd≠bO/\bsg kd≠bC:=by
 unfold bsg rpS;split
 ·exact⟨Zc (x:=38) (y:=40) rfl rfl (by decide),Zc (x:=38) (y:=41) rfl rfl (by decide)⟩
 ·split
  ·exact⟨Zc (x:=33) (y:=40) rfl rfl (by decide),Zc (x:=33) (y:=41) rfl rfl (by decide)⟩
  ·split
   ·exact⟨Zc (x:=63) (y:=40) rfl rfl (by decide),Zc (x:=63) (y:=41) rfl rfl (by decide)⟩
   ·split
    ·exact⟨Zc (x:=42) (y:=40) rfl rfl (by decide),Zc (x:=42) (y:=41) rfl rfl (by decide)⟩
    ·exact⟨Zc (x:=43) (y:=40) rfl rfl (by decide),Zc (x:=43) (y:=41) rfl rfl (by decide)⟩
theorem Ex:bE≠bO/\bE≠bC:=⟨fun e=>by have:=congrArg ByteArray.size e;simp[bE,bO,ByteArray.size]at this,fun e=>by have:=congrArg ByteArray.size e;simp[bE,bC,ByteArray.size]at this⟩
theorem z1C:bSp≠bO/\bSp≠bC:=⟨Zc (x:=32) (y:=40) rfl rfl (by decide),Zc (x:=32) (y:=41) rfl rfl (by decide)⟩
theorem z1D:bSl≠bO/\bSl≠bC:=⟨Zc (x:=32) (y:=40) rfl rfl (by decide),Zc (x:=32) (y:=41) rfl rfl (by decide)⟩
structure Pcz (Nm:zA->Prop) (QT:zA->ByteArray) (CT:Nat->ByteArray):Prop where
 nm:∀T,Nm T->T.size<=32/\∃x,bt T 0=some x/\Zp x=true
 qt:∀T,T.size<=255->bt (QT T) 0=some 39
 ct:∀C,C<2^256->bt (CT C) 0=some 91
theorem z1E(o:Pcz Nm QT CT){T:zA}(h:Nm T):T≠bO/\T≠bC:=by
 obtain⟨_,x,hx,hl⟩:=o.nm T h;have:x≠40/\x≠41:=by
  unfold Zp at hl;simp at hl;omega
 exact⟨Zc hx (y:=40) rfl this.1,Zc hx (y:=41) rfl this.2⟩
def dR:List Rl->Nat
 |[]=>0
 |x::r=>max (dN x.2.1) (dR r)
end
end
section
section
variable {L:List Tok}
end
end
section
open Go.Shelf
attribute [local go_sem] Oper.semAt_some
theorem Xw(k:Nat):Fence.wide.depth.isSome=true->1<=k:=fun h=>by cases h
@[reducible] def v8 (kd:Nat) (T:zA) (C:Nat) (sv:Value) (p:Int):List Value:=
  [zI (kd:Int),zT T,zU (wd C 0:Nat),zU (wd C 1:Nat),zU (wd C 2:Nat),zU (wd C 3:Nat),sv,zI p]
mutual
def NdV(s0:Nat)(w:World):Nd->List Value->Prop
 | .mk kd T C s _,cs=>∃so cap p,cs=v8 kd T C (.slice so (Jf s) cap) p/\(s.isEmpty=true∨(s.isEmpty=false/\∃g o,so=some ⟨g,o,none⟩/\g<s0/\Jf s<=maxLen/\Xl s0 w g o s))
def Xl(s0:Nat)(w:World)(g:Nat):Nat->List Nd->Prop
 |_,[]=>True
 |o,n::r=>(∃cs,NdV s0 w n cs/\∀j u,cs[j]? =some u->w.cell? ⟨g,o+j,none⟩=some u)/\Xl s0 w g (o+8) r
end
mutual
theorem NdV.kept{w w':World}{s0:Nat}(h:∀g o u,g<s0->zC w g o u->zC w' g o u):∀(t:Nd) (y:List Value),NdV s0 w t y->NdV s0 w' t y
 | .mk kd T C s p,y,r=>by
   rw[NdV]at r ⊢;obtain⟨E,G,p,rfl,r⟩:=r;refine⟨E,G,p,rfl,?_⟩;rcases r with A|⟨A,g,o,U,D,V,Y⟩
   ·exact .inl A
   ·exact .inr ⟨A,g,o,U,D,V,Xl.kept h D s o Y⟩
theorem Xl.kept{w w':World}{s0 g:Nat}(h:∀g o u,g<s0->zC w g o u->zC w' g o u)(y:g<s0):∀(s:List Nd) (o:Nat),Xl s0 w g o s->Xl s0 w' g o s
 |[],o,_=>by rw[Xl];trivial
 |t::r,o,ht=>by
  rw[Xl]at ht ⊢;obtain⟨⟨A,D,E⟩,G⟩:=ht;exact⟨⟨A,NdV.kept h t A D,fun j u U=>h g _ u y (E j u U)⟩,Xl.kept h y r _ G⟩
end
def Kt(s0:Nat)(W W':World):Prop:=W.heap.size<=W'.heap.size/\(∀(j:Nat) (cur:Array Value) (t:TypeId),(t=119∨t=121∨t=51)->W.heap[j]? =some (.cells cur t)->W'.heap[j]? =W.heap[j]?)/\(∀(j:Nat) (v:Value),W.cell? ⟨5,j,none⟩=some v->W'.cell? ⟨5,j,none⟩=some v)/\(∀j,j<s0->∀o,W.heap[j]? =some o->W'.heap[j]? =some o)
section
variable {s0:Nat}
theorem Kt.refl(W:World):Kt s0 W W:=⟨Nat.le_refl _,fun _ _ _ _ _=>rfl,fun _ _ h=>h,fun _ _ _ h=>h⟩
theorem Kt.trans{A B C:World}(h:Kt s0 A B)(k:Kt s0 B C):Kt s0 A C:=⟨Nat.le_trans h.1 k.1,fun j y t D r=>(k.2.1 j y t D ((h.2.1 j y t D r).trans r)).trans (h.2.1 j y t D r),fun j v E=>k.2.2.1 j v (h.2.2.1 j v E),fun j r o G=>k.2.2.2 j r o (h.2.2.2 j r o G)⟩
theorem Kt.below{W W':World}(h:zB W W'):Kt s0 W W':=⟨h.size,fun j E t _ y=>h.block j (by
 rcases Nat.lt_or_ge j W.heap.size with r|r
 ·exact r
 ·rw[Array.getElem?_eq_none r]at y;cases y),fun j v A=>(h.cell (p:=⟨5,j,none⟩) (World.block_lt_of_cell? W _ A)).trans A,fun j _ o D=>(h.block j (Array.getElem?_eq_some_iff.1 D).1).trans D⟩
theorem Kt.tab{W W':World}(h:Kt s0 W W')(o:TabIs W):TabIs W':=fun j r=>h.2.2.1 j _ (o j r)
theorem Kt.alloc(W:World)(o:Obj):Kt s0 W (W.alloc o):=Kt.below ((Below.refl _ W).alloc L0q o)
theorem Kt.cell{W W':World}(h:Kt s0 W W'){g o:Nat}{u:Value}(y:g<s0)(r:zC W g o u):zC W' g o u:=by
 have hl:=World.block_lt_of_cell? W _ r;have e:W'.heap[g]? =W.heap[g]? :=(h.2.2.2 g y _ (Array.getElem?_eq_getElem hl)).trans (Array.getElem?_eq_getElem hl).symm;exact(World.cell?_of_block (w:=W) (a:=⟨g,o,none⟩) e).trans r
theorem Kt.node{W W':World}(h:Kt s0 W W'){n:Nd}{r:List Value}(y:NdV s0 W n r):NdV s0 W' n r:=NdV.kept (fun g o u A D=>h.cell A D) _ _ y
theorem Kt.eight{W W':World}(h:Kt s0 W W'){g:Nat}{a b c d e f i k:Value}(o:zH W g (.cells #[a,b,c,d,e,f,i,k] 119)):zH W' g (.cells #[a,b,c,d,e,f,i,k] 119):=
 (h.2.1 g _ _ (.inl rfl) o).trans o
end
structure Yl (s0 l N:Nat) (J Jx:List ByteArray->World->Prop):Prop where
 grow:∀s A B,J s A->A.grownBy B none->J s B
 call:∀m pre x W,J pre W->pre.length<N->x.size<=4096->YieldAt Fence.wide m prog l #[zT x] W fun e W'=>
  (e=.returned (.bool true)/\J (pre++[x]) W'/\Kt s0 W W')∨(e=.returned (.bool false)/\Jx (pre++[x]) W')
def Yp(s0:Nat)(J Jx:List ByteArray->World->Prop)(pre ps:List ByteArray)(W:World)(e:Ending)(W':World):Prop:=
 (e=.returned (.bool true)/\J (pre++ps) W'/\Kt s0 W W')∨(e=.returned (.bool false)/\∃q,q<+:ps/\Jx (pre++q) W')
def YN(s0 l N:Nat)(J Jx:List ByteArray->World->Prop)(QT:zA->ByteArray)(CT:Nat->ByteArray)(n:Nd):Prop:=
 ∀(m:Nat) (cs:List Value) (pre:List ByteArray) (W:World),NdV s0 W n cs->TabIs W->J pre W->pre.length+(pN QT CT n).length<=N->
  CallsIn Fence.wide m prog 305 #[.agg cs.toArray,.func (.yield l) #[] #[]] W (Yp s0 J Jx pre (pN QT CT n) W)
section
variable {s0 l N:Nat} {J Jx:List ByteArray->World->Prop} {QT:ByteArray->ByteArray} {CT:Nat->ByteArray}
theorem Yl.alloc(h:Yl s0 l N J Jx){s:List ByteArray}{A:World}(r:J s A)(o:Obj):J s (A.alloc o):=h.grow s A _ r (World.grownBy_alloc A o none)
theorem z1F{W:World}{kd:Nat}{T:zA}{C y:Nat}{s:List Nd}{o:List Value}(h:NdV s0 W (.mk kd T C s y) o):∃r A D p,o=v8 kd T C (.slice r A D) p:=by
 rw[NdV]at h;obtain⟨r,E,p,rfl,_⟩:=h;exact⟨_,_,_,_,rfl⟩
theorem z1G(hY:Yl s0 l N J Jx){n:Nd}(hN:YN s0 l N J Jx QT CT n)(A m:Nat)(cs:List Value)(y:List ByteArray)(W:World)(ak:6<=A)(al:A<=12)(am:1<=n.kd)(Y:n.kd<=12)(hn:NdV s0 W n cs)(hT:TabIs W)(hJ:J y W)(hl:y.length+(pP QT CT A n).length<=N):
  CallsIn Fence.wide m prog 319 #[zI (A:Int),.agg cs.toArray,.func (.yield l) #[] #[]] W (Yp s0 J Jx y (pP QT CT A n) W):=by
 obtain⟨kd,T,C,s,U⟩:=n;have ao:1<=kd:=am;have ap:kd<=12:=Y;obtain⟨so,sl,sc,p,rfl⟩:=z1F hn;have ab:=hid (fun w:World=>z8w A kd w ak al ao ap);have Z:=Xw;cases hw:wr A kd with
 |false=>
  rw[hw]at ab;have ep:pP QT CT A (.mk kd T C s U)=pN QT CT (.mk kd T C s U):=by
   unfold pP;rw[show(Nd.mk kd T C s U).kd=kd from rfl,hw];rfl
  rw[ep]at hl ⊢;have D:=hid (fun o:Obj=>hN (m-1) _ y (W.alloc o) ((Kt.alloc W o).node hn) ((Kt.alloc (s0:=s0) W o).tab hT) (hY.alloc hJ o) hl);clear hn hN hJ hl ep hw hT;dsimp only[v8]at D ⊢;refine callsIn_of_wp func319 rfl trivial ?_ rfl;simp only[ntmps319,List.size_toArray,List.length_cons,List.length_nil,Nat.reduceAdd,Nat.reduceSub,Array.replicate_succ,Array.replicate_zero,List.push_toArray,List.append_toArray,List.nil_append,List.cons_append]
  gi_wp2_with (first
   |(refine⟨trivial,Z _,?_⟩;gi_at_call 322;refine(callsIn_wide.2 (ab.out _)).mono ?_;rintro e W1 ⟨rfl,rfl⟩)
   |(refine⟨trivial,Z _,?_⟩;gi_at_call 305;refine(D.out _).mono ?_;rintro e V (⟨rfl,aa,ac⟩|⟨rfl,q,hq,hx⟩)))
  ·go_ret
   exact .inl ⟨rfl,aa,(Kt.alloc W _).trans ac⟩
  ·go_ret
   exact .inr ⟨rfl,q,hq,hx⟩
 |true=>
  rw[hw]at ab;have ep:pP QT CT A (.mk kd T C s U)=bO::(pN QT CT (.mk kd T C s U)++[bC]):=by
   unfold pP;rw[show(Nd.mk kd T C s U).kd=kd from rfl,hw];rfl
  rw[ep]at hl ⊢;simp only[List.length_cons,List.length_append,List.length_nil]at hl;obtain⟨E,ad⟩:∃E,E=pN QT CT (.mk kd T C s U):=⟨_,rfl⟩;have ae:Hid ((W.alloc (.cells #[zI (kd:Int),zT T,zU (wd C 0:Nat),zU (wd C 1:Nat),zU (wd C 2:Nat),zU (wd C 3:Nat),.slice so sl sc,zI p] 119)).heap[W.heap.size]? =some (.cells #[zI (kd:Int),zT T,zU (wd C 0:Nat),zU (wd C 1:Nat),zU (wd C 2:Nat),zU (wd C 3:Nat),.slice so sl sc,zI p] 119)):=Qx W _ rfl;have D:=hid (fun(V:World) (aa:J (y++[bO]) V) (hk:Kt s0 W V)=>hN (m-1) _ (y++[bO]) V (hk.node hn) (hk.tab hT) aa (by simp;omega));have ah:=hid (fun o:Obj=>hY.call (m-1) y bO (W.alloc o) (hY.alloc hJ o) (by omega) (by decide));have af:=hid (fun(G:World) (aq:J (y++[bO]++E) G)=>hY.call (m-1) _ bC G aq (by rw[ad];simp;omega) (by decide));rw[<-ad]at D ⊢;clear hn hN hJ hl ep hw ad hY hT;dsimp only[v8]at D ⊢;obtain⟨fn,ay,az,Qm,hy,hR⟩:=ah.out (.cells #[zI (kd:Int),zT T,zU (wd C 0:Nat),zU (wd C 1:Nat),zU (wd C 2:Nat),zU (wd C 3:Nat),.slice so sl sc,zI p] 119);have HR:=hid hR;clear hR ah;unfold bO at hy;refine callsIn_of_wp func319 rfl trivial ?_ rfl;simp only[ntmps319,List.size_toArray,List.length_cons,List.length_nil,Nat.reduceAdd,Nat.reduceSub,Array.replicate_succ,Array.replicate_zero,List.push_toArray,List.append_toArray,List.nil_append,List.cons_append]
  gi_wp2_with (first
   |(refine⟨trivial,Z _,?_⟩;gi_at_call 322;refine(callsIn_wide.2 (ab.out _)).mono ?_;rintro e W1 ⟨rfl,rfl⟩))
  refine⟨Z _,HR.out.mono ?_⟩;clear HR hy;rintro e V (⟨rfl,aa,Y⟩|⟨rfl,ar⟩)
  ·have ac:=Y.eight ae.out
   obtain⟨⟨c0,c1,c2,c3,c4,c5,c6,c7⟩,_⟩:=Qf ac;have ai:Hid (CallsIn Fence.wide (m-1) prog 305 #[.agg #[zI (kd:Int),zT T,zU (wd C 0:Nat),zU (wd C 1:Nat),zU (wd C 2:Nat),zU (wd C 3:Nat),.slice so sl sc,zI p],.func (.yield l) #[] #[]] V fun e G=>(e=.returned (.bool true)/\YieldAt Fence.wide (m-1) prog l #[zT {data:=#[41]}] G (fun e W4=>(e=.returned (.bool true)/\J (y++[bO]++E++[bC]) W4/\Kt s0 W W4)∨(e=.returned (.bool false)/\Jx (y++[bO]++E++[bC]) W4)))∨(e=.returned (.bool false)/\∃q,q<+:E/\Jx (y++[bO]++q) G)):=
    (D.out V aa ((Kt.alloc W _).trans Y)).mono fun e G h=>h.elim
      (fun⟨he,hj,au⟩=>.inl ⟨he,YieldAt.mono (af.out G hj) fun e W4 h=>h.elim (fun⟨he,hj,ag⟩=>.inl ⟨he,hj,(((Kt.alloc W _).trans Y).trans au).trans ag⟩) .inr⟩) .inr
   clear D af aa Y ac ae
   gi_wp2_with (first
    |(refine⟨trivial,Z _,?_⟩;gi_at_call 305;refine ai.out.mono ?_;clear ai;rintro e G (⟨rfl,aA,aB,aC,aD,aE,aj⟩|⟨rfl,q,hq,av⟩))
    |(refine⟨Z _,?_⟩;refine aj.mono ?_;clear aj;rintro e W4 (⟨rfl,aw,ag⟩|⟨rfl,ax⟩)))
   ·go_ret
    exact .inl ⟨rfl,by simpa [List.append_assoc]using aw,ag⟩
   ·go_ret
    exact .inr ⟨rfl,bO::(E++[bC]),List.prefix_refl _,by simpa [List.append_assoc]using ax⟩
   ·refine⟨fun _ h=>(by cases h),?_⟩
    gi_wp2
    go_ret;obtain⟨r,hr⟩:=hq;exact .inr ⟨rfl,bO::q,⟨r++[bC],by rw[<-hr];simp⟩,by simpa [List.append_assoc]using av⟩
  ·clear D af ae
   gi_wp2
   refine⟨trivial,?_⟩
   gi_wp2
   refine⟨fun _ h=>(by cases h),?_⟩
   gi_wp2
   go_ret;exact .inr ⟨rfl,[bO],⟨E++[bC],rfl⟩,ar⟩
end
end
section
open Go.Shelf
attribute [local go_sem] Oper.semAt_some
section
variable {s0 l N:Nat} {J Jx:List ByteArray->World->Prop} {QT:ByteArray->ByteArray} {CT:Nat->ByteArray}
theorem z1H(h:Nat)(o:zA)(n:Nd):∀(s:List Nd),pB QT CT h o (s++[n])=pB QT CT h o s++(o::pP QT CT h n)
 |[]=>by rw[List.nil_append,Fb,Od,List.append_nil,List.nil_append]
 |a::r=>by rw[List.cons_append,Fb,Fb,z1H h o n r];simp
theorem z8S(o:Nat)(y:zA)(n:Nd):∀(s:List Nd),s≠[]->pS QT CT o y (s++[n])=pS QT CT o y s++(y::pP QT CT o n)
 |[],h=>absurd rfl h
 |a::r,_=>by rw[List.cons_append,Fg,Fg,z1H];simp
theorem z8T(h:Nat)(o:zA)(n:Nd):pS QT CT h o [n]=pP QT CT h n:=by rw[Fg,Od,List.append_nil]
theorem z8U{s:List Nd}{j:Nat}(h:j<s.length):s.take (j+1)=s.take j++[s[j]]:=by simp
theorem z8V(o:Nat)(y:zA):∀(s t:List Nd),∃r,pS QT CT o y (s++t)=pS QT CT o y s++r
 |[],t=>⟨_,by rw[List.nil_append,pS,List.nil_append]⟩
 |a::r,t=>by
  have h:∀(u v:List Nd),∃r,pB QT CT o y (u++v)=pB QT CT o y u++r:=fun u v=>by
   induction u with
   |nil=>exact⟨_,by rw[List.nil_append,pB,List.nil_append]⟩
   |cons b q ih=>
    obtain⟨x,hx⟩:=ih;exact⟨x,by rw[List.cons_append,Fb,Fb,hx];simp⟩
  obtain⟨x,hx⟩:=h r t;exact⟨x,by rw[List.cons_append,Fg,Fg,hx,List.append_assoc]⟩
theorem z8W(h:Nat)(o:zA)(s:List Nd)(j:Nat):∃r,pS QT CT h o s=pS QT CT h o (s.take j)++r:=by
 have:=z8V (QT:=QT) (CT:=CT) h o (s.take j) (s.drop j);rw[List.take_append_drop]at this;exact this
theorem z8X(o:Nat)(r:zA)(s:List Nd)(j:Nat)(y:j<s.length):pS QT CT o r (s.take (j+1))=pS QT CT o r (s.take j)++((if j=0 then []else [r])++pP QT CT o s[j]):=by
 rw[z8U y];by_cases h0:j=0
 ·subst h0
  rw[List.take_zero,List.nil_append,z8T,pS,if_pos rfl];rfl
 ·rw[z8S o r s[j] (s.take j) (fun e=>by
   have h:=congrArg List.length e;rw[List.length_take,List.length_nil]at h;omega),if_neg h0]
  rfl
theorem NdV.shape{w:World}{n:Nd}{o:List Value}(h:NdV s0 w n o):∃kd T C r y A p,o=v8 kd T C (.slice r y A) p:=by
 cases n;rw[NdV]at h;obtain⟨r,D,p,rfl,_⟩:=h;exact⟨_,_,_,_,_,_,_,rfl⟩
def Cv(w:World)(g o:Nat)(kd:Nat)(T:zA)(C:Nat)(sv:Value)(p:Int):Prop:=w.cell? ⟨g,o,none⟩=some (zI (kd:Int))/\w.cell? ⟨g,o+1,none⟩=some (zT T)/\w.cell? ⟨g,o+2,none⟩=some (zU (wd C 0:Nat))/\w.cell? ⟨g,o+3,none⟩=some (zU (wd C 1:Nat))/\w.cell? ⟨g,o+4,none⟩=some (zU (wd C 2:Nat))/\w.cell? ⟨g,o+5,none⟩=some (zU (wd C 3:Nat))/\w.cell? ⟨g,o+6,none⟩=some sv/\w.cell? ⟨g,o+7,none⟩=some (zI p)
theorem Oc{w:World}{g:Nat}:∀{s:List Nd} {o:Nat},Xl s0 w g o s->∀(k:Nat) (G:k<s.length),∃kd T C A D E p,NdV s0 w s[k] (v8 kd T C (.slice A D E) p)/\Cv w g (o+k*8) kd T C (.slice A D E) p
 |[],o,h,k,G=>by simp at G
 |t::r,o,h,0,G=>by
  rw[Xl]at h;obtain⟨⟨V,U,y⟩,_⟩:=h;obtain⟨kd,T,C,A,D,E,p,rfl⟩:=U.shape;refine⟨kd,T,C,A,D,E,p,U,?_⟩;rw[Nat.zero_mul,Nat.add_zero];exact⟨y 0 _ rfl,y 1 _ rfl,y 2 _ rfl,y 3 _ rfl,y 4 _ rfl,y 5 _ rfl,y 6 _ rfl,y 7 _ rfl⟩
 |t::r,o,h,k+1,G=>by
  rw[Xl]at h;obtain⟨kd,T,C,A,D,E,p,U,y⟩:=Oc h.2 k (by simpa using G);refine⟨kd,T,C,A,D,E,p,U,?_⟩;rw[show o+(k+1)*8=o+8+k*8 by omega];exact y
theorem z8Y{w:World}{kd:Nat}{T:zA}{C D:Nat}{s:List Nd}{y:List Value}(h:NdV s0 w (.mk kd T C s D) y)(E:s.isEmpty=false):∃g o r p,y=v8 kd T C (.slice (some ⟨g,o,none⟩) s.length r) p/\g<s0/\s.length<=maxLen/\Xl s0 w g o s:=by
 rw[NdV]at h;obtain⟨Y,r,p,rfl,A|⟨_,g,o,rfl,G,U,V⟩⟩:=h
 ·rw[E]at A;cases A
 ·exact⟨g,o,r,p,by rw[Dm],G,by rw[<-Dm];exact U,V⟩
theorem z8Z{w:World}{g o:Nat}{s:List Nd}(h:Xl s0 w g o s)(r:0<s.length):g<w.heap.size:=by
 obtain⟨kd,T,C,A,D,E,p,_,y⟩:=Oc h 0 r;exact World.block_lt_of_cell? w _ y.1
theorem z9a(hY:Yl s0 l N J Jx){kd:Nat}{T:zA}{C pn:Nat}{s:List Nd}(hs:s.isEmpty=false)(hN:∀n∈s,YN s0 l N J Jx QT CT n/\1<=n.kd/\n.kd<=12)(A:zA)(aF:A.size<=4096)(m:Nat)(cs:List Value)(D:List ByteArray)(W:World)(av:6<=kd)(aw:kd<=12)(hn:NdV s0 W (.mk kd T C s pn) cs)(hT:TabIs W)(hJ:J D W)(hl:D.length+(pS QT CT kd A s).length<=N):
  CallsIn Fence.wide m prog 313 #[.agg cs.toArray,zT A,.func (.yield l) #[] #[]] W (Yp s0 J Jx D (pS QT CT kd A s) W):=by
 obtain⟨g,o,ax,p,rfl,hg,ay,az⟩:=z8Y hn hs;unfold maxLen at ay;obtain⟨n,am⟩:∃n,n=s.length:=⟨_,rfl⟩;have ao:=Xw;obtain⟨W1,ag⟩:∃W1,W1=W.alloc (.cells #[zI (kd:Int),zT T,zU (wd C 0:Nat),zU (wd C 1:Nat),zU (wd C 2:Nat),zU (wd C 3:Nat),.slice (some ⟨g,o,none⟩) n ax,zI p] 119):=⟨_,rfl⟩;have aA:Hid (Kt s0 W W1):=by rw[ag];exact Kt.alloc W _
 have ap:Hid (W1.heap[W.heap.size]? =some (.cells #[zI (kd:Int),zT T,zU (wd C 0:Nat),zU (wd C 1:Nat),zU (wd C 2:Nat),zU (wd C 3:Nat),.slice (some ⟨g,o,none⟩) n ax,zI p] 119)):=by rw[ag];exact Qx W _ rfl
 have aG:Hid (J D W1):=by rw[ag];exact hY.alloc hJ _
 have HG:Hid (g<s0/\Xl s0 W g o s):=⟨hg,az⟩;have HY:Hid (Yl s0 l N J Jx):=hY;have HN:=hid hN;have aB:Hid (n=s.length):=am;have HL:=hid hl;have aO:n<=9223372036854775807:=by omega
 rw[<-am];have aC:=hid ag;have HT:=hid hT;clear hn hg az hJ hY hN hl ay am ag hT;dsimp only[v8];refine callsIn_of_wp func313 rfl trivial ?_ rfl;simp only[ntmps313,List.size_toArray,List.length_cons,List.length_nil,Nat.reduceAdd,Nat.reduceSub,Array.replicate_succ,Array.replicate_zero,List.push_toArray,List.append_toArray,List.nil_append,List.cons_append]
 gi_wp2
 rw[<-aC.out];clear aC
 gi_loopw [12] (fun i wr=>∃j:Nat,i=zI (j:Int)/\j<=n/\Hid (J (D++pS QT CT kd A (s.take j)) wr)/\Hid (Kt s0 W1 wr)) (fun i _=>n-(intOf i).toNat)
 case atStart=>exact⟨0,rfl,Nat.zero_le _,by rw[List.take_zero,pS,List.append_nil];exact aG,hid (Kt.refl _)⟩
 case round=>
  obtain⟨j,rfl,hj,ai,Z⟩:=hrel;by_cases hjn:j<n
  ·have aP:(j:Int)<(n:Int):=by omega
   have a0:decide ((j:Int)<(n:Int))=true:=by simp;omega
   have aq:j<s.length:=by rw[<-aB.out];exact hjn
   obtain⟨⟨c0,c1,c2,c3,c4,c5,c6,c7⟩,_⟩:=Qf (Z.out.eight ap.out);have ae:Kt s0 W wr:=aA.out.trans Z.out;obtain⟨aa,T1,y,ab,ac,ad,p1,aj,z0,z1,z2,z3,z4,z5,z6,z7⟩:=Oc (Xl.kept (fun q c u hq hu=>ae.cell hq hu) HG.out.1 s o HG.out.2) j aq;obtain⟨yn,k1,k2⟩:=HN.out s[j] (List.getElem_mem aq);have ak:=z8X (QT:=QT) (CT:=CT) kd A s j aq;obtain⟨rr,al⟩:=z8W (QT:=QT) (CT:=CT) kd A s (j+1);have V:D.length+(pS QT CT kd A (s.take j)).length+((if j=0 then []else [A]).length+(pP QT CT kd s[j]).length)<=N:=by
    have h1:=HL.out;rw[al,ak]at h1;simp only[List.length_append]at h1;omega
   have ar:=hid al;have E:=hid ak;obtain⟨Y,au⟩:∃Y,Y=pS QT CT kd A (s.take j):=⟨_,rfl⟩;rw[<-au]at ai E V;obtain⟨pp,ah⟩:∃pp,pp=pP QT CT kd s[j]:=⟨_,rfl⟩;have aQ:=hid ah;have K2:=hid (Kt.alloc (s0:=s0) wr (.cells #[zI (aa:Int),zT T1,zU (wd y 0:Nat),zU (wd y 1:Nat),zU (wd y 2:Nat),zU (wd y 3:Nat),.slice ab ac ad,zI p1] 119));have B2:Hid ((wr.alloc (.cells #[zI (aa:Int),zT T1,zU (wd y 0:Nat),zU (wd y 1:Nat),zU (wd y 2:Nat),zU (wd y 3:Nat),.slice ab ac ad,zI p1] 119)).heap[wr.heap.size]? =some (.cells #[zI (aa:Int),zT T1,zU (wd y 0:Nat),zU (wd y 1:Nat),zU (wd y 2:Nat),zU (wd y 3:Nat),.slice ab ac ad,zI p1] 119)):=Qx wr _ rfl;have J2:=hid (HY.out.alloc ai.out (.cells #[zI (aa:Int),zT T1,zU (wd y 0:Nat),zU (wd y 1:Nat),zU (wd y 2:Nat),zU (wd y 3:Nat),.slice ab ac ad,zI p1] 119));have aR:W.heap.size<wr.heap.size:=Qq (Z.out.eight ap.out);have aS:g<wr.heap.size:=Nat.lt_of_lt_of_le (z8Z HG.out.2 (by omega)) ae.1;by_cases hj0:j=0
   ·have aH:decide ((0:Int)<(j:Int))=false:=by simp;omega
    have aI:¬0<j:=by omega
    have aJ:decide (0<j)=false:=by simp;omega
    have G:=hid (z1G HY.out yn kd (m-1) _ (D++Y) (wr.alloc (.cells #[zI (aa:Int),zT T1,zU (wd y 0:Nat),zU (wd y 1:Nat),zU (wd y 2:Nat),zU (wd y 3:Nat),.slice ab ac ad,zI p1] 119)) av aw k1 k2 (K2.out.node aj) (K2.out.tab (ae.tab HT.out)) J2.out (by rw[if_pos hj0]at V;simp at V ⊢;omega));rw[if_pos hj0,List.nil_append]at E;rw[<-ah]at G E;clear ak al V aj yn au ah hj0 J2 ae HN;dsimp only[v8]at G
    gi_wp2
    refine⟨fun _ h=>(by cases h),?_⟩
    gi_wp2_with (first|(refine⟨trivial,ao _,?_⟩;gi_at_call 319;refine G.out.mono ?_;clear G;rintro e W3 (⟨rfl,af,U⟩|⟨rfl,q,hq,hx⟩)))
    ·go_roundw
     case rel=>exact⟨j+1,by go_num,by omega,hid (by rw[E.out,<-List.append_assoc];exact af),hid ((Z.out.trans K2.out).trans U)⟩
     case measure=>simp[intOf];omega
    ·go_ret
     obtain⟨r,hr⟩:=hq;exact .inr ⟨rfl,Y++q,⟨r++rr,by rw[ar.out,E.out,<-hr];simp⟩,by rw[<-List.append_assoc];exact hx⟩
   ·have aH:decide ((0:Int)<(j:Int))=true:=by simp;omega
    have aI:0<j:=by omega
    have aJ:decide (0<j)=true:=by simp;omega
    obtain⟨fn,aT,aU,Qm,hy,hR⟩:=HY.out.call (m-1) (D++Y) A (wr.alloc (.cells #[zI (aa:Int),zT T1,zU (wd y 0:Nat),zU (wd y 1:Nat),zU (wd y 2:Nat),zU (wd y 3:Nat),.slice ab ac ad,zI p1] 119)) J2.out (by rw[if_neg hj0]at V;simp at V ⊢;omega) aF;have HR:=hid hR;have G:=hid (fun(W3:World) (af:J (D++Y++[A]) W3) (U:Kt s0 (wr.alloc (.cells #[zI (aa:Int),zT T1,zU (wd y 0:Nat),zU (wd y 1:Nat),zU (wd y 2:Nat),zU (wd y 3:Nat),.slice ab ac ad,zI p1] 119)) W3)=>z1G HY.out yn kd (m-1) _ (D++Y++[A]) W3 av aw k1 k2 (U.node (K2.out.node aj)) (U.tab (K2.out.tab (ae.tab HT.out))) af (by rw[if_neg hj0]at V;simp at V ⊢;omega));rw[if_neg hj0]at E;rw[<-ah]at G E;clear ak al V aj yn au ah hj0 J2 ae HN hR;dsimp only[v8]at G
    gi_wp2
    refine⟨ao _,HR.out.mono ?_⟩;clear HR hy c0 c1 c2 c3 c4 c5 c6 c7 z0 z1 z2 z3 z4 z5 z6 z7;rintro e W3 (⟨rfl,af,U⟩|⟨rfl,aK⟩)
    ·obtain⟨⟨c0,c1,c2,c3,c4,c5,c6,c7⟩,_⟩:=Qf (((Z.out.trans K2.out).trans U).eight ap.out)
     obtain⟨⟨d0,d1,d2,d3,d4,d5,d6,d7⟩,_⟩:=Qf (U.eight B2.out);have aD:=hid (G.out W3 af U);have aL:=hid U;clear G af U
     gi_wp2_with (first|(refine⟨trivial,ao _,?_⟩;gi_at_call 319;refine aD.out.mono ?_;clear aD;rintro e W4 (⟨rfl,aM,aN⟩|⟨rfl,q,hq,hx⟩)))
     ·go_roundw
      case rel=>exact⟨j+1,by go_num,by omega,hid (by rw[E.out];simpa [List.append_assoc]using aM),hid (((Z.out.trans K2.out).trans aL.out).trans aN)⟩
      case measure=>simp[intOf];omega
     ·go_ret
      obtain⟨r,hr⟩:=hq;exact .inr ⟨rfl,Y++([A]++q),⟨r++rr,by rw[ar.out,E.out,<-hr];simp⟩,by simpa [List.append_assoc]using hx⟩
    ·clear G
     gi_wp2
     go_ret;exact .inr ⟨rfl,Y++[A],⟨pp++rr,by rw[ar.out,E.out];simp⟩,by simpa [List.append_assoc]using aK⟩
  ·have a0:decide ((j:Int)<(n:Int))=false:=by simp;omega
   have aE:s.take j=s:=List.take_of_length_le (by rw[<-aB.out];omega);rw[aE]at ai;clear aE
   gi_wp2
   go_ret;exact .inl ⟨rfl,ai.out,aA.out.trans Z.out⟩
end
end
section
open Go.Shelf
attribute [local go_sem] Oper.semAt_some
theorem Mz(kd:Nat)(w:World)(h:8<=kd)(o:kd<=12):Calls prog 314 #[zI (kd:Int)] w fun e w'=>e=.returned (zT (bsg kd))/\w'=w:=by
 have r:kd=8∨kd=9∨kd=10∨kd=11∨kd=12:=by omega
 clear h o;rcases r with rfl|rfl|rfl|rfl|rfl<;>
  (go_enter func314,ntmps314
   go_wp2_with fail
   go_ret;exact⟨rfl,rfl⟩)
theorem z1I{W W':World}(h:zB W W'):W.grownBy W' none:=⟨h.os,h.tape,h.output,h.size,fun j o _=>h.block j o⟩
section
variable {s0 l N:Nat} {J Jx:List ByteArray->World->Prop} {QT:ByteArray->ByteArray} {CT:Nat->ByteArray}
theorem z9b(U:Yl s0 l N J Jx)(m:Nat)(T:zA)(C:Nat)(p:Int)(o:Option Addr)(r y:Nat)(A:List ByteArray)(W:World)(hJ:J A W)(hl:A.length+2<=N):
  CallsIn Fence.wide m prog 305 #[(.agg #[zI (1:Int),zT T,zU (wd C 0:Nat),zU (wd C 1:Nat),zU (wd C 2:Nat),zU (wd C 3:Nat),.slice o r y,zI p]),.func (.yield l) #[] #[]] W (Yp s0 J Jx A [bO,bC] W):=by
 have aa:=Xw;have HB:Hid ((W.alloc (.cells #[zI (1:Int),zT T,zU (wd C 0:Nat),zU (wd C 1:Nat),zU (wd C 2:Nat),zU (wd C 3:Nat),.slice o r y,zI p] 119)).heap[W.heap.size]? =some (.cells #[zI (1:Int),zT T,zU (wd C 0:Nat),zU (wd C 1:Nat),zU (wd C 2:Nat),zU (wd C 3:Nat),.slice o r y,zI p] 119)):=Qx W _ rfl;have ab:=hid (U.call (m-1) A bO (W.alloc (.cells #[zI (1:Int),zT T,zU (wd C 0:Nat),zU (wd C 1:Nat),zU (wd C 2:Nat),zU (wd C 3:Nat),.slice o r y,zI p] 119)) (U.alloc hJ (.cells #[zI (1:Int),zT T,zU (wd C 0:Nat),zU (wd C 1:Nat),zU (wd C 2:Nat),zU (wd C 3:Nat),.slice o r y,zI p] 119)) (by omega) (by decide));have Z:=hid (fun(V:World) (Y:J (A++[bO]) V)=>U.call (m-1) _ bC V Y (by simp;omega) (by decide));clear U hJ hl;obtain⟨fn,ad,ae,Qm,D,E⟩:=ab.out;have G:=hid E;clear E ab;unfold bO at D;refine callsIn_of_wp func305 rfl trivial ?_ rfl;simp only[ntmps305,List.size_toArray,List.length_cons,List.length_nil,Nat.reduceAdd,Nat.reduceSub,Array.replicate_succ,Array.replicate_zero,List.push_toArray,List.append_toArray,List.nil_append,List.cons_append]
 gi_wp2
 refine⟨aa _,G.out.mono ?_⟩;clear G D;rintro e V (⟨rfl,Y,ac⟩|⟨rfl,af⟩)
 ·obtain⟨fn,ad,ae,Qm,D,E⟩:=Z.out V Y
  have G:=hid E;have ag:=hid ac;clear E Z Y ac;unfold bC at D
  gi_wp2
  refine⟨aa _,G.out.mono ?_⟩;clear G D;rintro e W3 (⟨rfl,ah,ai⟩|⟨rfl,aj⟩)
  ·gi_wp2
   go_ret;exact .inl ⟨rfl,by simpa [List.append_assoc,bC]using ah,((Kt.alloc W _).trans ag.out).trans ai⟩
  ·gi_wp2
   go_ret;exact .inr ⟨rfl,[bO,bC],List.prefix_refl _,by simpa [List.append_assoc,bC]using aj⟩
 ·clear Z
  gi_wp2
  refine⟨fun _ h=>(by cases h),?_⟩
  gi_wp2
  go_ret;exact .inr ⟨rfl,[bO],⟨[bC],rfl⟩,af⟩
theorem z9c(o:Yl s0 l N J Jx)(m:Nat)(T:zA)(C:Nat)(p:Int)(r:Option Addr)(y A:Nat)(h:List ByteArray)(W:World)(D:J h W)(hl:h.length+1<=N):
  CallsIn Fence.wide m prog 305 #[(.agg #[zI (4:Int),zT T,zU (wd C 0:Nat),zU (wd C 1:Nat),zU (wd C 2:Nat),zU (wd C 3:Nat),.slice r y A,zI p]),.func (.yield l) #[] #[]] W (Yp s0 J Jx h [Nl] W):=by
 have Y:=Xw;have E:=hid (o.call (m-1) h Nl (W.alloc (.cells #[zI (4:Int),zT T,zU (wd C 0:Nat),zU (wd C 1:Nat),zU (wd C 2:Nat),zU (wd C 3:Nat),.slice r y A,zI p] 119)) (o.alloc D (.cells #[zI (4:Int),zT T,zU (wd C 0:Nat),zU (wd C 1:Nat),zU (wd C 2:Nat),zU (wd C 3:Nat),.slice r y A,zI p] 119)) (by omega) (by decide));clear o D hl;obtain⟨fn,ac,ad,Qm,G,U⟩:=E.out;have V:=hid U;clear U E;unfold Nl at G;refine callsIn_of_wp func305 rfl trivial ?_ rfl;simp only[ntmps305,List.size_toArray,List.length_cons,List.length_nil,Nat.reduceAdd,Nat.reduceSub,Array.replicate_succ,Array.replicate_zero,List.push_toArray,List.append_toArray,List.nil_append,List.cons_append]
 gi_wp2
 refine⟨Y _,V.out.mono ?_⟩;clear V G;rintro e W2 (⟨rfl,Z,aa⟩|⟨rfl,ab⟩)
 ·gi_wp2
  go_ret;exact .inl ⟨rfl,Z,(Kt.alloc W _).trans aa⟩
 ·gi_wp2
  go_ret;exact .inr ⟨rfl,[Nl],List.prefix_refl _,ab⟩
theorem z9d(o:Yl s0 l N J Jx)(m:Nat)(T:zA)(C:Nat)(p:Int)(r:Option Addr)(y A:Nat)(h:List ByteArray)(W:World)(V:T.size<=4096)(D:J h W)(hl:h.length+1<=N):
  CallsIn Fence.wide m prog 305 #[(.agg #[zI (5:Int),zT T,zU (wd C 0:Nat),zU (wd C 1:Nat),zU (wd C 2:Nat),zU (wd C 3:Nat),.slice r y A,zI p]),.func (.yield l) #[] #[]] W (Yp s0 J Jx h [T] W):=by
 have Y:=Xw;have E:=hid (o.call (m-1) h T (W.alloc (.cells #[zI (5:Int),zT T,zU (wd C 0:Nat),zU (wd C 1:Nat),zU (wd C 2:Nat),zU (wd C 3:Nat),.slice r y A,zI p] 119)) (o.alloc D (.cells #[zI (5:Int),zT T,zU (wd C 0:Nat),zU (wd C 1:Nat),zU (wd C 2:Nat),zU (wd C 3:Nat),.slice r y A,zI p] 119)) (by omega) V);clear o D hl;obtain⟨fn,ad,ae,Qm,Z,G⟩:=E.out;have U:=hid G;clear G E;refine callsIn_of_wp func305 rfl trivial ?_ rfl;simp only[ntmps305,List.size_toArray,List.length_cons,List.length_nil,Nat.reduceAdd,Nat.reduceSub,Array.replicate_succ,Array.replicate_zero,List.push_toArray,List.append_toArray,List.nil_append,List.cons_append]
 gi_wp2
 refine⟨Y _,U.out.mono ?_⟩;clear U Z;rintro e W2 (⟨rfl,aa,ab⟩|⟨rfl,ac⟩)
 ·gi_wp2
  go_ret;exact .inl ⟨rfl,aa,(Kt.alloc W _).trans ab⟩
 ·gi_wp2
  go_ret;exact .inr ⟨rfl,[T],List.prefix_refl _,ac⟩
theorem z9e(r:Yl s0 l N J Jx)(m:Nat)(T:zA)(C:Nat)(p:Int)(U:Option Addr)(V Y:Nat)(o:List ByteArray)(W:World)(hT:T.size<=255)(Z:(nb (qt T)).size<=4096)(hJ:J o W)(hl:o.length+1<=N):
  CallsIn Fence.wide m prog 305 #[(.agg #[zI (2:Int),zT T,zU (wd C 0:Nat),zU (wd C 1:Nat),zU (wd C 2:Nat),zU (wd C 3:Nat),.slice U V Y,zI p]),.func (.yield l) #[] #[]] W (Yp s0 J Jx o [(nb (qt T))] W):=by
 have aa:=Xw;obtain⟨h,y⟩:∃h,h=W.alloc (.cells #[zI (2:Int),zT T,zU (wd C 0:Nat),zU (wd C 1:Nat),zU (wd C 2:Nat),zU (wd C 3:Nat),.slice U V Y,zI p] 119):=⟨_,rfl⟩;have ab:=hid y;have ac:Hid (Kt s0 W h):=by rw[y];exact Kt.alloc W _
 have ad:Hid (J o h):=by rw[y];exact r.alloc hJ _
 have D:=hid (z8A T h (by omega));have E:=hid (fun(A:World) (hb:zB h A)=>r.call (m-1) o (nb (qt T)) A (r.grow _ _ _ ad.out (z1I hb)) (by omega) Z);clear r hJ hl y;obtain⟨X,hX⟩:∃X,X=(nb (qt T)):=⟨_,rfl⟩;rw[<-hX]at D E ⊢;clear hX Z;refine callsIn_of_wp func305 rfl trivial ?_ rfl;simp only[ntmps305,List.size_toArray,List.length_cons,List.length_nil,Nat.reduceAdd,Nat.reduceSub,Array.replicate_succ,Array.replicate_zero,List.push_toArray,List.append_toArray,List.nil_append,List.cons_append]
 gi_wp2
 rw[<-ab.out];refine⟨trivial,aa _,?_⟩;refine(callsIn_wide.2 D.out).mono ?_;clear D;rintro e A ⟨rfl,G⟩;obtain⟨fn,ai,aj,Qm,hy,hR⟩:=E.out A G;have HR:=hid hR;have ae:=hid (Kt.below (s0:=s0) G);clear hR E G
 gi_wp2
 refine⟨aa _,HR.out.mono ?_⟩;clear HR hy;rintro e W3 (⟨rfl,af,ag⟩|⟨rfl,ah⟩)
 ·gi_wp2
  go_ret;exact .inl ⟨rfl,af,(ac.out.trans ae.out).trans ag⟩
 ·gi_wp2
  go_ret;exact .inr ⟨rfl,[X],List.prefix_refl _,ah⟩
theorem z9f(r:Yl s0 l N J Jx)(m:Nat)(T:zA)(C:Nat)(p:Int)(U:Option Addr)(V Y:Nat)(o:List ByteArray)(W:World)(hC:C<2^256)(Z:(nb (txt C)).size<=4096)(ac:TabIs W)(hJ:J o W)(hl:o.length+1<=N):
  CallsIn Fence.wide m prog 305 #[(.agg #[zI (3:Int),zT T,zU (wd C 0:Nat),zU (wd C 1:Nat),zU (wd C 2:Nat),zU (wd C 3:Nat),.slice U V Y,zI p]),.func (.yield l) #[] #[]] W (Yp s0 J Jx o [(nb (txt C))] W):=by
 have aa:=Xw;obtain⟨h,y⟩:∃h,h=W.alloc (.cells #[zI (3:Int),zT T,zU (wd C 0:Nat),zU (wd C 1:Nat),zU (wd C 2:Nat),zU (wd C 3:Nat),.slice U V Y,zI p] 119):=⟨_,rfl⟩;have ad:=hid y;have ab:Hid (Kt s0 W h):=by rw[y];exact Kt.alloc W _
 have ae:Hid (J o h):=by rw[y];exact r.alloc hJ _
 have A:=hid (z8P C h hC (ab.out.tab ac));have E:=hid (fun(D:World) (hb:zB h D)=>r.call (m-1) o (nb (txt C)) D (r.grow _ _ _ ae.out (z1I hb)) (by omega) Z);clear r hJ hl y;obtain⟨X,hX⟩:∃X,X=(nb (txt C)):=⟨_,rfl⟩;rw[<-hX]at A E ⊢;clear hX Z;unfold cv at A;refine callsIn_of_wp func305 rfl trivial ?_ rfl;simp only[ntmps305,List.size_toArray,List.length_cons,List.length_nil,Nat.reduceAdd,Nat.reduceSub,Array.replicate_succ,Array.replicate_zero,List.push_toArray,List.append_toArray,List.nil_append,List.cons_append]
 gi_wp2
 rw[<-ad.out];refine⟨trivial,aa _,?_⟩;refine(callsIn_wide.2 A.out).mono ?_;clear A;rintro e D ⟨rfl,G⟩;obtain⟨fn,aj,ak,Qm,hy,hR⟩:=E.out D G;have HR:=hid hR;have af:=hid (Kt.below (s0:=s0) G);clear hR E G
 gi_wp2
 refine⟨aa _,HR.out.mono ?_⟩;clear HR hy;rintro e W3 (⟨rfl,ag,ah⟩|⟨rfl,ai⟩)
 ·gi_wp2
  go_ret;exact .inl ⟨rfl,ag,(ab.out.trans af.out).trans ah⟩
 ·gi_wp2
  go_ret;exact .inr ⟨rfl,[X],List.prefix_refl _,ai⟩
theorem z9g(D:Yl s0 l N J Jx)(m:Nat)(T:zA)(C:Nat)(p:Int)(r:Option Addr)(y A:Nat)(h:List ByteArray)(W:World)(E:List ByteArray)(G:∀o,Kt s0 W o->J h o->CallsIn Fence.wide (m-1) prog 313 #[(.agg #[zI (6:Int),zT T,zU (wd C 0:Nat),zU (wd C 1:Nat),zU (wd C 2:Nat),zU (wd C 3:Nat),.slice r y A,zI p]),zT {data:=#[32]},.func (.yield l) #[] #[]] o (Yp s0 J Jx h E o))(U:J h W):
  CallsIn Fence.wide m prog 305 #[(.agg #[zI (6:Int),zT T,zU (wd C 0:Nat),zU (wd C 1:Nat),zU (wd C 2:Nat),zU (wd C 3:Nat),.slice r y A,zI p]),.func (.yield l) #[] #[]] W (Yp s0 J Jx h E W):=by
 have Y:=Xw;have V:=hid (G (W.alloc (.cells #[zI (6:Int),zT T,zU (wd C 0:Nat),zU (wd C 1:Nat),zU (wd C 2:Nat),zU (wd C 3:Nat),.slice r y A,zI p] 119)) (Kt.alloc W _) (D.alloc U _));clear G D U;refine callsIn_of_wp func305 rfl trivial ?_ rfl;simp only[ntmps305,List.size_toArray,List.length_cons,List.length_nil,Nat.reduceAdd,Nat.reduceSub,Array.replicate_succ,Array.replicate_zero,List.push_toArray,List.append_toArray,List.nil_append,List.cons_append]
 gi_wp2
 refine⟨trivial,Y _,V.out.mono ?_⟩;clear V;rintro e W2 (⟨rfl,Z,aa⟩|⟨rfl,q,hq,ab⟩)
 ·gi_wp2
  go_ret;exact .inl ⟨rfl,Z,(Kt.alloc W _).trans aa⟩
 ·gi_wp2
  go_ret;exact .inr ⟨rfl,q,hq,ab⟩
theorem z9h(D:Yl s0 l N J Jx)(m:Nat)(T:zA)(C:Nat)(p:Int)(r:Option Addr)(y A:Nat)(h:List ByteArray)(W:World)(E:List ByteArray)(G:∀o,Kt s0 W o->J h o->CallsIn Fence.wide (m-1) prog 313 #[(.agg #[zI (7:Int),zT T,zU (wd C 0:Nat),zU (wd C 1:Nat),zU (wd C 2:Nat),zU (wd C 3:Nat),.slice r y A,zI p]),zT {data:=#[32,47,32]},.func (.yield l) #[] #[]] o (Yp s0 J Jx h E o))(U:J h W):
  CallsIn Fence.wide m prog 305 #[(.agg #[zI (7:Int),zT T,zU (wd C 0:Nat),zU (wd C 1:Nat),zU (wd C 2:Nat),zU (wd C 3:Nat),.slice r y A,zI p]),.func (.yield l) #[] #[]] W (Yp s0 J Jx h E W):=by
 have Y:=Xw;have V:=hid (G (W.alloc (.cells #[zI (7:Int),zT T,zU (wd C 0:Nat),zU (wd C 1:Nat),zU (wd C 2:Nat),zU (wd C 3:Nat),.slice r y A,zI p] 119)) (Kt.alloc W _) (D.alloc U _));clear G D U;refine callsIn_of_wp func305 rfl trivial ?_ rfl;simp only[ntmps305,List.size_toArray,List.length_cons,List.length_nil,Nat.reduceAdd,Nat.reduceSub,Array.replicate_succ,Array.replicate_zero,List.push_toArray,List.append_toArray,List.nil_append,List.cons_append]
 gi_wp2
 refine⟨trivial,Y _,V.out.mono ?_⟩;clear V;rintro e W2 (⟨rfl,Z,aa⟩|⟨rfl,q,hq,ab⟩)
 ·gi_wp2
  go_ret;exact .inl ⟨rfl,Z,(Kt.alloc W _).trans aa⟩
 ·gi_wp2
  go_ret;exact .inr ⟨rfl,q,hq,ab⟩
theorem z9i(G:Yl s0 l N J Jx)(m:Nat)(T:zA)(C:Nat)(p:Int)(h:Option Addr)(o y:Nat)(A:List ByteArray)(W:World)(U:List ByteArray)(Z:∀D,Kt s0 W D->J (A++[bsg 11]) D->CallsIn Fence.wide (m-1) prog 313 #[(.agg #[zI (11:Int),zT T,zU (wd C 0:Nat),zU (wd C 1:Nat),zU (wd C 2:Nat),zU (wd C 3:Nat),.slice h o y,zI p]),zT {data:=#[]},.func (.yield l) #[] #[]] D (Yp s0 J Jx (A++[bsg 11]) U D))(hJ:J A W)(hl:A.length+1<=N):
  CallsIn Fence.wide m prog 305 #[(.agg #[zI (11:Int),zT T,zU (wd C 0:Nat),zU (wd C 1:Nat),zU (wd C 2:Nat),zU (wd C 3:Nat),.slice h o y,zI p]),.func (.yield l) #[] #[]] W (Yp s0 J Jx A (bsg 11::U) W):=by
 have V:=Xw;have HB:Hid ((W.alloc (.cells #[zI (11:Int),zT T,zU (wd C 0:Nat),zU (wd C 1:Nat),zU (wd C 2:Nat),zU (wd C 3:Nat),.slice h o y,zI p] 119)).heap[W.heap.size]? =some (.cells #[zI (11:Int),zT T,zU (wd C 0:Nat),zU (wd C 1:Nat),zU (wd C 2:Nat),zU (wd C 3:Nat),.slice h o y,zI p] 119)):=Qx W _ rfl;have HS:=hid (fun w:World=>Mz 11 w (by decide) (by decide));have aa:=hid (G.call (m-1) A (bsg 11) (W.alloc (.cells #[zI (11:Int),zT T,zU (wd C 0:Nat),zU (wd C 1:Nat),zU (wd C 2:Nat),zU (wd C 3:Nat),.slice h o y,zI p] 119)) (G.alloc hJ (.cells #[zI (11:Int),zT T,zU (wd C 0:Nat),zU (wd C 1:Nat),zU (wd C 2:Nat),zU (wd C 3:Nat),.slice h o y,zI p] 119)) (by omega) (by decide));have Y:=hid Z;clear G hJ hl Z;obtain⟨fn,ai,aj,Qm,hy,hR⟩:=aa.out;have HR:=hid hR;clear hR aa;refine callsIn_of_wp func305 rfl trivial ?_ rfl;simp only[ntmps305,List.size_toArray,List.length_cons,List.length_nil,Nat.reduceAdd,Nat.reduceSub,Array.replicate_succ,Array.replicate_zero,List.push_toArray,List.append_toArray,List.nil_append,List.cons_append]
 gi_wp2
 refine⟨trivial,V _,(callsIn_wide.2 (HS.out _)).mono ?_⟩;rintro e D ⟨rfl,rfl⟩
 gi_wp2
 refine⟨V _,HR.out.mono ?_⟩;clear HR hy;rintro e W2 (⟨rfl,ab,E⟩|⟨rfl,ad⟩)
 ·obtain⟨⟨c0,c1,c2,c3,c4,c5,c6,c7⟩,_⟩:=Qf (E.eight HB.out)
  have ac:=hid (Y.out W2 ((Kt.alloc W _).trans E) ab);have ae:=hid E;clear Y ab E
  gi_wp2
  refine⟨trivial,V _,ac.out.mono ?_⟩;clear ac;rintro e W3 (⟨rfl,af,ag⟩|⟨rfl,q,hq,ah⟩)
  ·gi_wp2
   go_ret;exact .inl ⟨rfl,by simpa [List.append_assoc]using af,((Kt.alloc W _).trans ae.out).trans ag⟩
  ·gi_wp2
   go_ret;obtain⟨r,hr⟩:=hq;exact .inr ⟨rfl,bsg 11::q,⟨r,by rw[<-hr];rfl⟩,by simpa [List.append_assoc]using ah⟩
 ·clear Y
  gi_wp2
  refine⟨trivial,?_⟩
  gi_wp2
  go_ret;exact .inr ⟨rfl,[bsg 11],⟨U,rfl⟩,ad⟩
theorem z9j(G:Yl s0 l N J Jx)(m:Nat)(T:zA)(C:Nat)(p:Int)(h:Option Addr)(o y:Nat)(A:List ByteArray)(W:World)(U:List ByteArray)(Z:∀D,Kt s0 W D->J (A++[bsg 12]) D->CallsIn Fence.wide (m-1) prog 313 #[(.agg #[zI (12:Int),zT T,zU (wd C 0:Nat),zU (wd C 1:Nat),zU (wd C 2:Nat),zU (wd C 3:Nat),.slice h o y,zI p]),zT {data:=#[]},.func (.yield l) #[] #[]] D (Yp s0 J Jx (A++[bsg 12]) U D))(hJ:J A W)(hl:A.length+1<=N):
  CallsIn Fence.wide m prog 305 #[(.agg #[zI (12:Int),zT T,zU (wd C 0:Nat),zU (wd C 1:Nat),zU (wd C 2:Nat),zU (wd C 3:Nat),.slice h o y,zI p]),.func (.yield l) #[] #[]] W (Yp s0 J Jx A (bsg 12::U) W):=by
 have V:=Xw;have HB:Hid ((W.alloc (.cells #[zI (12:Int),zT T,zU (wd C 0:Nat),zU (wd C 1:Nat),zU (wd C 2:Nat),zU (wd C 3:Nat),.slice h o y,zI p] 119)).heap[W.heap.size]? =some (.cells #[zI (12:Int),zT T,zU (wd C 0:Nat),zU (wd C 1:Nat),zU (wd C 2:Nat),zU (wd C 3:Nat),.slice h o y,zI p] 119)):=Qx W _ rfl;have HS:=hid (fun w:World=>Mz 12 w (by decide) (by decide));have aa:=hid (G.call (m-1) A (bsg 12) (W.alloc (.cells #[zI (12:Int),zT T,zU (wd C 0:Nat),zU (wd C 1:Nat),zU (wd C 2:Nat),zU (wd C 3:Nat),.slice h o y,zI p] 119)) (G.alloc hJ (.cells #[zI (12:Int),zT T,zU (wd C 0:Nat),zU (wd C 1:Nat),zU (wd C 2:Nat),zU (wd C 3:Nat),.slice h o y,zI p] 119)) (by omega) (by decide));have Y:=hid Z;clear G hJ hl Z;obtain⟨fn,ai,aj,Qm,hy,hR⟩:=aa.out;have HR:=hid hR;clear hR aa;refine callsIn_of_wp func305 rfl trivial ?_ rfl;simp only[ntmps305,List.size_toArray,List.length_cons,List.length_nil,Nat.reduceAdd,Nat.reduceSub,Array.replicate_succ,Array.replicate_zero,List.push_toArray,List.append_toArray,List.nil_append,List.cons_append]
 gi_wp2
 refine⟨trivial,V _,(callsIn_wide.2 (HS.out _)).mono ?_⟩;rintro e D ⟨rfl,rfl⟩
 gi_wp2
 refine⟨V _,HR.out.mono ?_⟩;clear HR hy;rintro e W2 (⟨rfl,ab,E⟩|⟨rfl,ad⟩)
 ·obtain⟨⟨c0,c1,c2,c3,c4,c5,c6,c7⟩,_⟩:=Qf (E.eight HB.out)
  have ac:=hid (Y.out W2 ((Kt.alloc W _).trans E) ab);have ae:=hid E;clear Y ab E
  gi_wp2
  refine⟨trivial,V _,ac.out.mono ?_⟩;clear ac;rintro e W3 (⟨rfl,af,ag⟩|⟨rfl,q,hq,ah⟩)
  ·gi_wp2
   go_ret;exact .inl ⟨rfl,by simpa [List.append_assoc]using af,((Kt.alloc W _).trans ae.out).trans ag⟩
  ·gi_wp2
   go_ret;obtain⟨r,hr⟩:=hq;exact .inr ⟨rfl,bsg 12::q,⟨r,by rw[<-hr];rfl⟩,by simpa [List.append_assoc]using ah⟩
 ·clear Y
  gi_wp2
  refine⟨trivial,?_⟩
  gi_wp2
  go_ret;exact .inr ⟨rfl,[bsg 12],⟨U,rfl⟩,ad⟩
theorem z9k(Y:Yl s0 l N J Jx)(m:Nat)(T:zA)(C:Nat)(p:Int)(y:Option Addr)(A D:Nat)(o:List ByteArray)(W:World)(E:List ByteArray)(hP:∀G,Kt s0 W G->J o G->CallsIn Fence.wide (m-1) prog 313 #[(.agg #[zI (8:Int),zT T,zU (wd C 0:Nat),zU (wd C 1:Nat),zU (wd C 2:Nat),zU (wd C 3:Nat),.slice y A D,zI p]),zT {data:=#[]},.func (.yield l) #[] #[]] G (Yp s0 J Jx o E G))(hJ:J o W)(hl:o.length+(E.length+1)<=N):
  CallsIn Fence.wide m prog 305 #[(.agg #[zI (8:Int),zT T,zU (wd C 0:Nat),zU (wd C 1:Nat),zU (wd C 2:Nat),zU (wd C 3:Nat),.slice y A D,zI p]),.func (.yield l) #[] #[]] W (Yp s0 J Jx o (E++[bsg 8]) W):=by
 have Z:=Xw;have HB:Hid ((W.alloc (.cells #[zI (8:Int),zT T,zU (wd C 0:Nat),zU (wd C 1:Nat),zU (wd C 2:Nat),zU (wd C 3:Nat),.slice y A D,zI p] 119)).heap[W.heap.size]? =some (.cells #[zI (8:Int),zT T,zU (wd C 0:Nat),zU (wd C 1:Nat),zU (wd C 2:Nat),zU (wd C 3:Nat),.slice y A D,zI p] 119)):=Qx W _ rfl;have HS:=hid (fun w:World=>Mz 8 w (by decide) (by decide));have HP:=hid (hP (W.alloc (.cells #[zI (8:Int),zT T,zU (wd C 0:Nat),zU (wd C 1:Nat),zU (wd C 2:Nat),zU (wd C 3:Nat),.slice y A D,zI p] 119)) (Kt.alloc W _) (Y.alloc hJ _));have aa:=hid (fun(U:World) (V:J (o++E) U)=>Y.call (m-1) _ (bsg 8) U V (by simp;omega) (by decide));clear Y hJ hl hP;refine callsIn_of_wp func305 rfl trivial ?_ rfl;simp only[ntmps305,List.size_toArray,List.length_cons,List.length_nil,Nat.reduceAdd,Nat.reduceSub,Array.replicate_succ,Array.replicate_zero,List.push_toArray,List.append_toArray,List.nil_append,List.cons_append]
 gi_wp2
 refine⟨trivial,Z _,HP.out.mono ?_⟩;clear HP;rintro e U (⟨rfl,V,ab⟩|⟨rfl,q,hq,ac⟩)
 ·obtain⟨⟨c0,c1,c2,c3,c4,c5,c6,c7⟩,_⟩:=Qf (ab.eight HB.out)
  obtain⟨fn,ah,ai,Qm,hy,hR⟩:=aa.out U V;have HR:=hid hR;have ad:=hid ab;clear hR aa V ab
  gi_wp2
  refine⟨trivial,Z _,(callsIn_wide.2 (HS.out _)).mono ?_⟩;rintro e W3 ⟨rfl,rfl⟩
  gi_wp2
  refine⟨Z _,HR.out.mono ?_⟩;clear HR hy;rintro e W4 (⟨rfl,ae,af⟩|⟨rfl,ag⟩)
  ·gi_wp2
   go_ret;exact .inl ⟨rfl,by simpa [List.append_assoc]using ae,((Kt.alloc W _).trans ad.out).trans af⟩
  ·gi_wp2
   go_ret;exact .inr ⟨rfl,E++[bsg 8],List.prefix_refl _,by simpa [List.append_assoc]using ag⟩
 ·clear aa
  gi_wp2
  refine⟨trivial,?_⟩
  gi_wp2
  refine⟨fun _ h=>(by cases h),?_⟩
  gi_wp2
  go_ret;obtain⟨r,hr⟩:=hq;exact .inr ⟨rfl,q,⟨r++[bsg 8],by rw[<-hr];simp⟩,ac⟩
theorem z9l(Y:Yl s0 l N J Jx)(m:Nat)(T:zA)(C:Nat)(p:Int)(y:Option Addr)(A D:Nat)(o:List ByteArray)(W:World)(E:List ByteArray)(hP:∀G,Kt s0 W G->J o G->CallsIn Fence.wide (m-1) prog 313 #[(.agg #[zI (9:Int),zT T,zU (wd C 0:Nat),zU (wd C 1:Nat),zU (wd C 2:Nat),zU (wd C 3:Nat),.slice y A D,zI p]),zT {data:=#[]},.func (.yield l) #[] #[]] G (Yp s0 J Jx o E G))(hJ:J o W)(hl:o.length+(E.length+1)<=N):
  CallsIn Fence.wide m prog 305 #[(.agg #[zI (9:Int),zT T,zU (wd C 0:Nat),zU (wd C 1:Nat),zU (wd C 2:Nat),zU (wd C 3:Nat),.slice y A D,zI p]),.func (.yield l) #[] #[]] W (Yp s0 J Jx o (E++[bsg 9]) W):=by
 have Z:=Xw;have HB:Hid ((W.alloc (.cells #[zI (9:Int),zT T,zU (wd C 0:Nat),zU (wd C 1:Nat),zU (wd C 2:Nat),zU (wd C 3:Nat),.slice y A D,zI p] 119)).heap[W.heap.size]? =some (.cells #[zI (9:Int),zT T,zU (wd C 0:Nat),zU (wd C 1:Nat),zU (wd C 2:Nat),zU (wd C 3:Nat),.slice y A D,zI p] 119)):=Qx W _ rfl;have HS:=hid (fun w:World=>Mz 9 w (by decide) (by decide));have HP:=hid (hP (W.alloc (.cells #[zI (9:Int),zT T,zU (wd C 0:Nat),zU (wd C 1:Nat),zU (wd C 2:Nat),zU (wd C 3:Nat),.slice y A D,zI p] 119)) (Kt.alloc W _) (Y.alloc hJ _));have aa:=hid (fun(U:World) (V:J (o++E) U)=>Y.call (m-1) _ (bsg 9) U V (by simp;omega) (by decide));clear Y hJ hl hP;refine callsIn_of_wp func305 rfl trivial ?_ rfl;simp only[ntmps305,List.size_toArray,List.length_cons,List.length_nil,Nat.reduceAdd,Nat.reduceSub,Array.replicate_succ,Array.replicate_zero,List.push_toArray,List.append_toArray,List.nil_append,List.cons_append]
 gi_wp2
 refine⟨trivial,Z _,HP.out.mono ?_⟩;clear HP;rintro e U (⟨rfl,V,ab⟩|⟨rfl,q,hq,ac⟩)
 ·obtain⟨⟨c0,c1,c2,c3,c4,c5,c6,c7⟩,_⟩:=Qf (ab.eight HB.out)
  obtain⟨fn,ah,ai,Qm,hy,hR⟩:=aa.out U V;have HR:=hid hR;have ad:=hid ab;clear hR aa V ab
  gi_wp2
  refine⟨trivial,Z _,(callsIn_wide.2 (HS.out _)).mono ?_⟩;rintro e W3 ⟨rfl,rfl⟩
  gi_wp2
  refine⟨Z _,HR.out.mono ?_⟩;clear HR hy;rintro e W4 (⟨rfl,ae,af⟩|⟨rfl,ag⟩)
  ·gi_wp2
   go_ret;exact .inl ⟨rfl,by simpa [List.append_assoc]using ae,((Kt.alloc W _).trans ad.out).trans af⟩
  ·gi_wp2
   go_ret;exact .inr ⟨rfl,E++[bsg 9],List.prefix_refl _,by simpa [List.append_assoc]using ag⟩
 ·clear aa
  gi_wp2
  refine⟨trivial,?_⟩
  gi_wp2
  refine⟨fun _ h=>(by cases h),?_⟩
  gi_wp2
  go_ret;obtain⟨r,hr⟩:=hq;exact .inr ⟨rfl,q,⟨r++[bsg 9],by rw[<-hr];simp⟩,ac⟩
theorem z9m(Y:Yl s0 l N J Jx)(m:Nat)(T:zA)(C:Nat)(p:Int)(y:Option Addr)(A D:Nat)(o:List ByteArray)(W:World)(E:List ByteArray)(hP:∀G,Kt s0 W G->J o G->CallsIn Fence.wide (m-1) prog 313 #[(.agg #[zI (10:Int),zT T,zU (wd C 0:Nat),zU (wd C 1:Nat),zU (wd C 2:Nat),zU (wd C 3:Nat),.slice y A D,zI p]),zT {data:=#[]},.func (.yield l) #[] #[]] G (Yp s0 J Jx o E G))(hJ:J o W)(hl:o.length+(E.length+1)<=N):
  CallsIn Fence.wide m prog 305 #[(.agg #[zI (10:Int),zT T,zU (wd C 0:Nat),zU (wd C 1:Nat),zU (wd C 2:Nat),zU (wd C 3:Nat),.slice y A D,zI p]),.func (.yield l) #[] #[]] W (Yp s0 J Jx o (E++[bsg 10]) W):=by
 have Z:=Xw;have HB:Hid ((W.alloc (.cells #[zI (10:Int),zT T,zU (wd C 0:Nat),zU (wd C 1:Nat),zU (wd C 2:Nat),zU (wd C 3:Nat),.slice y A D,zI p] 119)).heap[W.heap.size]? =some (.cells #[zI (10:Int),zT T,zU (wd C 0:Nat),zU (wd C 1:Nat),zU (wd C 2:Nat),zU (wd C 3:Nat),.slice y A D,zI p] 119)):=Qx W _ rfl;have HS:=hid (fun w:World=>Mz 10 w (by decide) (by decide));have HP:=hid (hP (W.alloc (.cells #[zI (10:Int),zT T,zU (wd C 0:Nat),zU (wd C 1:Nat),zU (wd C 2:Nat),zU (wd C 3:Nat),.slice y A D,zI p] 119)) (Kt.alloc W _) (Y.alloc hJ _));have aa:=hid (fun(U:World) (V:J (o++E) U)=>Y.call (m-1) _ (bsg 10) U V (by simp;omega) (by decide));clear Y hJ hl hP;refine callsIn_of_wp func305 rfl trivial ?_ rfl;simp only[ntmps305,List.size_toArray,List.length_cons,List.length_nil,Nat.reduceAdd,Nat.reduceSub,Array.replicate_succ,Array.replicate_zero,List.push_toArray,List.append_toArray,List.nil_append,List.cons_append]
 gi_wp2
 refine⟨trivial,Z _,HP.out.mono ?_⟩;clear HP;rintro e U (⟨rfl,V,ab⟩|⟨rfl,q,hq,ac⟩)
 ·obtain⟨⟨c0,c1,c2,c3,c4,c5,c6,c7⟩,_⟩:=Qf (ab.eight HB.out)
  obtain⟨fn,ah,ai,Qm,hy,hR⟩:=aa.out U V;have HR:=hid hR;have ad:=hid ab;clear hR aa V ab
  gi_wp2
  refine⟨trivial,Z _,(callsIn_wide.2 (HS.out _)).mono ?_⟩;rintro e W3 ⟨rfl,rfl⟩
  gi_wp2
  refine⟨Z _,HR.out.mono ?_⟩;clear HR hy;rintro e W4 (⟨rfl,ae,af⟩|⟨rfl,ag⟩)
  ·gi_wp2
   go_ret;exact .inl ⟨rfl,by simpa [List.append_assoc]using ae,((Kt.alloc W _).trans ad.out).trans af⟩
  ·gi_wp2
   go_ret;exact .inr ⟨rfl,E++[bsg 10],List.prefix_refl _,by simpa [List.append_assoc]using ag⟩
 ·clear aa
  gi_wp2
  refine⟨trivial,?_⟩
  gi_wp2
  refine⟨fun _ h=>(by cases h),?_⟩
  gi_wp2
  go_ret;obtain⟨r,hr⟩:=hq;exact .inr ⟨rfl,q,⟨r++[bsg 10],by rw[<-hr];simp⟩,ac⟩
end
end
end Go.Proofs.YtmelafeingcgnaaGreatDoor
