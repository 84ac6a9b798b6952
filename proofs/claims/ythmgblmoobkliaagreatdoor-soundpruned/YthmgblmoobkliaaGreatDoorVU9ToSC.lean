/- Lemmas for the last text. Conditions: those that each names. -/
import Derived.Test.YthmgblmoobkliaaGreatDoorVO16ToU1
import Derived.Test.YthmgblmoobkliaaGreatDoorVS1ToO4
import Derived.Test.YthmgblmoobkliaaGreatDoorVO12ToS5
import Derived.Test.YthmgblmoobkliaaGreatDoorVU8
import Derived.Test.YthmgblmoobkliaaGreatDoorVW4ToS9
set_option linter.unusedVariables false
set_option maxRecDepth 100000
set_option maxHeartbeats 8000000
namespace Go.Proofs.YthmgblmoobkliaaGreatDoor
open Go.Proofs.Tryz
section
open Go.RowKit Go.Shelf
section
variable {F:Fence} {n:Nat} {P:Program} {Q:Exit->Act->World->Prop} {a:Act} {w:World}
open Classical in
theorem y1L{c:Code}(I:Nat->Act->World->Prop)(k0:Nat)(h0:I k0 a w)(round:∀k a w,I k a w->c.wpIn F n P (Exit.then (fun a' w'=>∃k',k'<k/\I k' a' w') Q) a w):(Code.loop c).wpIn F n P Q a w:=by
 have least:∀(k:Nat) (a:Act) (w:World),I k a w->∃m,I m a w/\∀j,I j a w->m<=j:=by
  intro k
  induction k using Nat.strongRecOn with
  |_ k ih=>
   intro a w h;by_cases hk:∃j,j<k/\I j a w
   ·obtain⟨j,hj,hI⟩:=hk
    exact ih j hj a w hI
   ·exact⟨k,h,fun j hj=>Nat.le_of_not_lt fun hlt=>hk ⟨j,hlt,hj⟩⟩
 let μ:Act->World->Nat:=fun a w=>if h:∃m,I m a w/\∀j,I j a w->m<=j then Classical.choose h else 0
 have hμ:∀k a w,I k a w->I (μ a w) a w/\μ a w<=k:=fun k a w h=>by
  have hm:=least k a w h;have hs:=Classical.choose_spec hm;have e:μ a w=Classical.choose hm:=dif_pos hm;rw[e];exact⟨hs.1,hs.2 k h⟩
 refine wpIn_loop (fun a w=>∃k,I k a w) μ ⟨k0,h0⟩ ?_;rintro a w ⟨k,h⟩;refine Code.wpIn_mono (fun e a' w' q=> ?_) (round (μ a w) a w (hμ k a w h).1);cases e<;>first
  |exact q
  |(obtain⟨k',hlt,hI⟩:=q;exact⟨⟨k',hI⟩,Nat.lt_of_le_of_lt (hμ k' _ _ hI).2 hlt⟩)
end
theorem z4y(K:ByteArray->Ot):∀rs:List Rr,rs.reverse.foldl Vz K=swp K rs
 |[]=>rfl
 |x::r=>by rw[List.reverse_cons,List.foldl_append,z4y K r,swp];rfl
structure Rnd (rs:List Rr) (K0 K:ByteArray->Ot) (l:List Rr) (b:Bool) (n:Nat):Prop where
 k:K=l.foldl Vz K0
 inv:Dd K rs
 le:lck K rs<=lck K0 rs
 no:b=false->K=K0/\∀x∈l,ofT K0 x.2.1=K0 x.1
 yes:b=true->lck K rs<lck K0 rs
 cnt:n+lck K rs<=3*rs.length
section
variable {rs:List Rr} {K0 K:ByteArray->Ot} {l:List Rr} {b:Bool} {n:Nat}
theorem Rnd.start(h:Dd K0 rs)(hc:n+lck K0 rs<=3*rs.length):Rnd rs K0 K0 [] false n:=⟨rfl,h,Nat.le_refl _,fun _=>⟨rfl,fun x hx=>by simp at hx⟩,(fun h=>by cases h),hc⟩
theorem Rnd.same(h:Rnd rs K0 K l b n){x:Rr}(e:ofT K x.2.1=K x.1):Rnd rs K0 K (l++[x]) b n:=by
 refine⟨?_,h.inv,h.le,fun hb=>⟨(h.no hb).1,fun y hy=> ?_⟩,h.yes,h.cnt⟩
 ·rw[List.foldl_append,<-h.k,List.foldl_cons,List.foldl_nil,Vz]
  exact(z4h e).symm
 ·rcases List.mem_append.1 hy with hy|hy
  ·exact(h.no hb).2 y hy
  ·obtain rfl:y=x:=by simpa using hy
   rw[<-(h.no hb).1];exact e
theorem Rnd.new(h:Rnd rs K0 K l b n){x:Rr}(hx:x∈rs)(hu:∀y∈rs,y.1=x.1->y=x)(e:ofT K x.2.1≠K x.1):Rnd rs K0 (Uk K x.1 (ofT K x.2.1)) (l++[x]) true (n+1):=by
 have hle:=z4j (h.inv x hx);have hlt:lck (Vz K x) rs<lck K rs:=z4n hle hx (fun h=>e (by
  unfold Vz Uk at h;rw[if_pos rfl]at h;exact h.symm))
 have h1:=h.le;have h2:=h.cnt;refine⟨?_,y1e hu hx h.inv,?_,(fun h=>by cases h),fun _=> ?_,?_⟩
 ·rw[List.foldl_append,<-h.k]
  rfl
 ·exact Nat.le_trans (Nat.le_of_lt hlt) h1
 ·exact Nat.lt_of_lt_of_le hlt h1
 ·show n+1+lck (Vz K x) rs<=_
  omega
theorem Rnd.last(h:Rnd rs K0 K rs.reverse b n):K=swp K0 rs:=h.k.trans (z4y K0 rs)
theorem Rnd.fix(h:Rnd rs K0 K rs.reverse false n):K=K0/\Xb K0 rs:=⟨(h.no rfl).1,fun x hx=>(h.no rfl).2 x (List.mem_reverse.2 hx)⟩
end
theorem z4z(rs:List Rr):Dd z0O rs:=fun x hx=>rfl
theorem z4A:∀rs:List Rr,lck z0O rs=3*rs.length
 |[]=>rfl
 |x::r=>by rw[lck,z4A r,List.length_cons];show 3-0+_=_;omega
theorem y1M{α β:Type}(f:β->Nat)(g:β->α)(rs:List α)(xs:List β)(h:xs.map f=(List.range rs.length).reverse)(e:∀x∈xs,rs[f x]? =some (g x)):xs.map g=rs.reverse:=by
 have h1:(xs.map f).map (fun i=>rs[i]?)=xs.map (fun x=>some (g x)):=by
  rw[List.map_map];exact List.map_congr_left fun x hx=>e x hx
 have h2:(List.range rs.length).map (fun i=>rs[i]?)=rs.map some:=by
  apply List.ext_getElem
  ·simp
  ·intro i h1 h2
   simp at h1;simp[h1]
 rw[h,List.map_reverse,h2,<-List.map_reverse]at h1;have h3:(xs.map g).map some=(rs.reverse).map some:=by rw[h1,List.map_map];rfl
 exact(List.map_inj_right (fun x y e=>Option.some.inj e)).1 h3
end
section
open Go.RowKit Go.Shelf
attribute [local go_sem] Oper.semAt_some
structure Bx (w:World) (B:Nat) (rs:List Rr) where
 i:Nat
 N:ByteArray
 t:RT
 q:Int
 k:Int
 T:ByteArray
 a:Int
 b:Int
 c:Int
 d:Int
 so:Option Addr
 n:Nat
 cap:Nat
 p:Int
 e:rs[i]? =some (N,t,q)
 rt:Qj w B t (r8 k T a b c d so n cap p)
section
variable {w:World} {B:Nat} {rs:List Rr}
@[reducible] def Bx.v (x:Bx w B rs):Value:=.agg #[.string x.N,.int .i64 x.k,.string x.T,.int .u64 x.a,.int .u64 x.b,.int .u64 x.c,.int .u64 x.d,.slice x.so x.n x.cap,.int .i64 x.p,.int .i64 x.q]
@[reducible] def Bx.vs (x:Bx w B rs):Array Value:=#[.int .i64 (x.i:Int),x.v]
def Bx.r(x:Bx w B rs):Rr:=(x.N,x.t,x.q)
end
def Kb(B Bt:Nat)(W W':World):Prop:=W.heap.size<=W'.heap.size/\(∀j,j<B->∀o,W.heap[j]? =some o->W'.heap[j]? =some o)/\∀o,W.heap[Bt]? =some o->W'.heap[Bt]? =some o
section
variable {B Bt:Nat}
theorem Kb.trans{A C D:World}(h:Kb B Bt A C)(k:Kb B Bt C D):Kb B Bt A D:=⟨Nat.le_trans h.1 k.1,fun j hj o ho=>k.2.1 j hj o (h.2.1 j hj o ho),fun o ho=>k.2.2 o (h.2.2 o ho)⟩
theorem Kb.below{W W':World}(h:Below W.heap.size W W'):Kb B Bt W W':=⟨h.size,fun j _ o ho=>(h.block j (Array.getElem?_eq_some_iff.1 ho).1).trans ho,fun o ho=>(h.block _ (Array.getElem?_eq_some_iff.1 ho).1).trans ho⟩
theorem Kb.alloc(W:World)(o:Obj):Kb B Bt W (W.alloc o):=Kb.below ((Below.refl _ W).alloc L0q o)
theorem Kb.grown{W W':World}{row:Option Nat}(h:W.grownBy W' row)(h1:∀r,row=some r->B<=r/\r≠Bt):Kb B Bt W W':=⟨h.size,fun j hj o ho=>(h.block j (Array.getElem?_eq_some_iff.1 ho).1 (fun e=>by have:=(h1 j e.symm).1;omega)).trans ho,fun o ho=>(h.block Bt (Array.getElem?_eq_some_iff.1 ho).1 (fun e=>(h1 Bt e.symm).2 rfl)).trans ho⟩
theorem Kb.cell{W W':World}(h:Kb B Bt W W'){g o:Nat}{u:Value}(hg:g<B)(hu:W.cell? ⟨g,o,none⟩=some u):W'.cell? ⟨g,o,none⟩=some u:=by
 have hl:=World.block_lt_of_cell? W _ hu;have e:W'.heap[g]? =W.heap[g]? :=(h.2.1 g hg _ (Array.getElem?_eq_getElem hl)).trans (Array.getElem?_eq_getElem hl).symm;exact(World.cell?_of_block (w:=W) (a:=⟨g,o,none⟩) e).trans hu
end
structure Yb (w:World) (B Bt:Nat) (rs:List Rr) (l N:Nat) (J Jx:List (Bx w B rs)->World->Prop):Prop where
 call:∀m pre (x:Bx w B rs) W,J pre W->pre.length<N->YieldAt Fence.wide m prog l x.vs W fun e W'=>
  (e=.returned (.bool true)/\J (pre++[x]) W'/\Kb B Bt W W')∨(e=.returned (.bool false)/\Jx (pre++[x]) W')
section
variable {w:World} {B Bt:Nat} {rs:List Rr} {l:Nat} {J Jx:List (Bx w B rs)->World->Prop}
theorem y1N(n cap:Nat)(hY:Yb w B Bt rs l n J Jx)(so:Option Addr)(m:Nat)(W:World)(h:Qv w B so n rs)(hb:Boxed w Bt 22 (.slice so n cap))(hW:Below w.heap.size w W)(hJ:J [] W):
  CallsIn Fence.wide m prog 159 #[.func (.yield l) #[] #[],.pointer (some ⟨Bt,0,none⟩)] W fun e W'=>(∃v,e=.returned v)/\((∃q:List (Bx w B rs),q.map Bx.i=(List.range n).reverse/\J q W')∨∃q:List (Bx w B rs),Jx q W'):=by
 have hdd:=Xg;have hk0:Kb B Bt w W:=Kb.below hW;have HK0:=hid hk0;have hn:n<=9223372036854775807:=by have:=h.2.1;unfold maxLen at this;omega
 have HR:=hid h.2.2;have HNl:Hid (n=rs.length):=h.1;have cb:W.cell? ⟨Bt,0,none⟩=some (.slice so n cap):=Boxed.cell (show W.heap[Bt]? =_ from hk0.2.2 _ hb);have HBx:=hid hb;have HY:=hid hY;have HJ:=hid hJ;clear hk0 h hW hY hJ hb;refine callsIn_of_wp func159 rfl trivial ?_ rfl;simp only[ntmps159,List.size_toArray,List.length_cons,List.length_nil,Nat.reduceAdd,Nat.reduceSub,Array.replicate_succ,Array.replicate_zero,List.push_toArray,List.append_toArray,List.nil_append,List.cons_append]
 gi_wp2
 clear cb
 gi_loopw [3] (fun i wr=>∃r:Nat,i=.int .i64 ((r:Int)-1)/\r<=n/\Hid (∃q:List (Bx w B rs),q.map Bx.i=((List.range n).drop r).reverse/\J q wr)/\Hid (Kb B Bt w wr)) (fun i _=>(intOf i+1).toNat)
 case atStart=>exact⟨n,rfl,Nat.le_refl _,hid ⟨[],by simp,HJ.out⟩,HK0⟩
 case round=>
  obtain⟨r,rfl,hr,HJr,HKr⟩:=hrel;cases r with
  |zero=>
   have a0:decide ((0:Int)<=((0:Nat):Int)-1)=false:=by decide
   obtain⟨q,hq,hJq⟩:=HJr.out;clear HJr
   gi_wp2
   go_end0
   exact⟨⟨_,rfl⟩,.inl ⟨q,by simpa using hq,hJq⟩⟩
  |succ r=>
   have e:((r+1:Nat):Int)-1=(r:Int):=by omega
   rw[e];clear e;have a0:decide ((0:Int)<=(r:Int))=true:=by simp
   have hrn:(r:Int)<(n:Int):=by omega
   have hw:IntKind.i64.wrap ((r:Int)-1)=(r:Int)-1:=by rw[IntKind.wrap_i64];omega
   have hrs:r<rs.length:=by rw[<-HNl.out];omega
   obtain⟨g,o,rfl,hg,k1,T1,a1,b1,c1,d1,so1,n1,cap1,p1,rt1,z0,z1,z2,z3,z4,z5,z6,z7,z8,z9⟩:=HR.out r hrs;have x0:=HKr.out.cell hg z0;have x1:=HKr.out.cell hg z1;have x2:=HKr.out.cell hg z2;have x3:=HKr.out.cell hg z3;have x4:=HKr.out.cell hg z4;have x5:=HKr.out.cell hg z5;have x6:=HKr.out.cell hg z6;have x7:=HKr.out.cell hg z7;have x8:=HKr.out.cell hg z8;have x9:=HKr.out.cell hg z9;have hgl:g<wr.heap.size:=World.block_lt_of_cell? wr _ x0;have cb:wr.cell? ⟨Bt,0,none⟩=some (.slice (some ⟨g,o,none⟩) n cap):=Boxed.cell (show wr.heap[Bt]? =_ from HKr.out.2.2 _ HBx.out);obtain⟨q,hq,hJq⟩:=HJr.out;have hql:q.length<n:=by
    have:=congrArg List.length hq;simp at this;omega
   obtain⟨fn,tmps,assign,Qg,hy,hR⟩:=HY.out.call (m-1) q ⟨r,rs[r].1,rs[r].2.1,rs[r].2.2,k1,T1,a1,b1,c1,d1,so1,n1,cap1,p1,List.getElem?_eq_getElem hrs,rt1⟩ wr hJq hql;have HRy:=hid hR;have HQ:Hid (q.map Bx.i=((List.range n).drop (r+1)).reverse):=hq;clear hR hq hJq hql HJr z0 z1 z2 z3 z4 z5 z6 z7 z8 z9;dsimp only[Bx.vs,Bx.v]at hy;have hdr:(List.range n).drop r=r::(List.range n).drop (r+1):=by
    rw[List.drop_eq_getElem_cons (by simp;omega)];simp
   have HD:=hid hdr;clear hdr
   gi_wp2
   refine⟨hdd _,HRy.out.mono ?_⟩;clear HRy hy x0 x1 x2 x3 x4 x5 x6 x7 x8 x9 cb;rintro e W4 (⟨rfl,hJ4,hk4⟩|⟨rfl,hx4⟩)
   ·gi_wp2
    go_roundw
    case rel=>exact⟨r,rfl,by omega,hid ⟨_,by rw[List.map_append,HQ.out,HD.out];simp,hJ4⟩,hid (HKr.out.trans hk4)⟩
    case measure=>simp[intOf]
   ·gi_wp2
    refine bodyPost_ret (results_none rfl _ _ _) rfl ?_;exact⟨⟨_,rfl⟩,.inr ⟨_,hx4⟩⟩
end
theorem y1O{w:World}{B Bt:Nat}{rs:List Rr}(n cap:Nat)(so:Option Addr)(m:Nat)(h:Qv w B so n rs)(hb:Boxed w Bt 22 (.slice so n cap)):
  SeqStopsK Fence.wide m prog 159 #[.pointer (some ⟨Bt,0,none⟩)] (fun x:Bx w B rs=>x.vs) (Kb B Bt) (fun ys=>ys.map Bx.i=(List.range n).reverse) (fun _=>True) n w:=by
 intro l J Jx W hW hJ hJx hY h0;have yl:Yb w B Bt rs l n J Jx:=⟨fun m' pre x W1 h hl=>by
  refine YieldAt.mono (Sv rfl m' (hY pre x W1 h hl)) fun e' W' hh=> ?_
  rcases hh with⟨h1,h2,h3⟩|⟨h1,h2⟩
  ·exact .inl ⟨h1,h2,h3⟩
  ·exact .inr ⟨h1,h2⟩⟩
 refine(y1N n cap yl so m W h hb hW h0).mono fun e W' h=> ?_
 refine⟨h.1,?_⟩;rcases h.2 with h|⟨q,h⟩
 ·exact .inl h
 ·exact .inr ⟨q,trivial,h⟩
theorem y1P(m:Nat)(so:Option Addr)(n cap:Nat)(w:World):CallsIn Fence.wide m prog 124 #[.slice so n cap] w fun e w'=>e=.returned (.func (.func 159) #[] #[.pointer (some ⟨w.heap.size,0,none⟩)])/\w'=w.alloc (.cells #[.slice so n cap] 22):=by
 refine callsIn_of_wp func124 rfl trivial ?_ rfl;simp only[ntmps124,List.size_toArray,List.length_cons,List.length_nil,Nat.reduceAdd,Nat.reduceSub,Array.replicate_succ,Array.replicate_zero,List.push_toArray,List.append_toArray,List.nil_append,List.cons_append]
 gi_wp2
 go_ret;exact⟨rfl,rfl⟩
end
open Go.RowKit Go.Shelf Go.Maps
attribute [local go_sem] Oper.semAt_some
theorem y1Q(n:Int)(w:World):(Instr.makeMap 147 (some (.int .i64 n))).run prog w=.ok (.map (some w.heap.size)) (w.alloc (.map #[] 0)):=by kernel_rfl
theorem y1R(x y:Ot)(w:World):(Op.equalIn 10000 95 (ov x) (ov y)).run prog w=.ok (decide (x=y)) w:=by
 obtain⟨a,b,c⟩:=x;obtain⟨d,e,f⟩:=y;cases a<;>cases b<;>cases c<;>cases d<;>cases e<;>cases f<;>kernel_rfl
structure Kl (w:World) (M n cap:Nat) (so:Option Addr) (W:World):Prop where
 be:Below w.heap.size w W
 g:W.heap[w.heap.size]? =some (.cells #[.slice so n cap] 24)
 b:W.heap[M+1]? =some (.cells #[.map (some M)] 147)
theorem Kl.lt{w W:World}{M n cap:Nat}{so:Option Addr}(h:Kl w M n cap so W):M+1<W.heap.size:=Qq h.b
theorem Kl.below{w W W':World}{M n cap S:Nat}{so:Option Addr}(h:Kl w M n cap so W)(hb:Below S W W')(h1:w.heap.size<S)(h2:M+1<S):Kl w M n cap so W':=
 ⟨h.be.trans (hb.mono (by omega)),(hb.block _ h1).trans h.g,(hb.block _ h2).trans h.b⟩
theorem Kl.grown{w W W':World}{M n cap r:Nat}{so:Option Addr}(h:Kl w M n cap so W)(hg:W.grownBy W' (some r))(h1:w.heap.size<r)(h2:r≠M+1):Kl w M n cap so W':=
 ⟨h.be.grown hg h.be.size (fun g e=>by have:=Option.some.inj e;omega),(hg.block _ (Qq h.g) (fun e=>by have:=Option.some.inj e;omega)).trans h.g,(hg.block _ (Qq h.b) (fun e=>h2 (Option.some.inj e).symm)).trans h.b⟩
theorem Dk.nm{base:Nat}{w w':World}{B n:Nat}{K:ByteArray->Ot}(h:Dk base w w')(hp:Nm w B n K):Nm w' B n K:=by
 obtain⟨D,⟨es,ck,h1,h2,h3,h4⟩,h5⟩:=hp;exact⟨D,⟨es,ck,h.2 B _ h1 (fun l e=>by cases e),h2,h3,h4⟩,h5⟩
theorem Nm.obj{W:World}{B n:Nat}{K:ByteArray->Ot}(h:Nm W B n K):∃es ck,W.heap[B]? =some (.map es ck):=by
 obtain⟨D,⟨es,ck,h1,_⟩,_⟩:=h;exact⟨es,ck,h1⟩
def LsP(rs:List Rr)(w:World)(e:Ending)(w':World):Prop:=∃M nn m,e=.returned (.map (some M))/\w.heap.size<=M/\Nm w' M nn (itr rs m)/\Xb (itr rs m) rs/\Below w.heap.size w w'
def LsI(rs:List Rr)(w:World)(M n cap:Nat)(so:Option Addr)(k ib:Nat)(b:Bool)(ds:List Deferred)(W:World):Prop:=∃nn m,Nm W M nn (itr rs m)/\Dd (itr rs m) rs/\nn+lck (itr rs m) rs<=3*rs.length/\Kl w M n cap so W/\W.heap[ib]? =some (.cells #[.bool b] 4)/\M+1<ib/\(b=false->Xb (itr rs m) rs)/\Mks w.heap.size W.heap.size ds W/\k=(if b then lck (itr rs m) rs+1 else 0)
def LsJ(rs:List Rr)(w w4:World)(M n cap:Nat)(so:Option Addr)(K0:ByteArray->Ot)(ib:Nat)(ds:List Deferred)(l:List Rr)(W:World):Prop:=∃K nn b,Nm W M nn K/\Rnd rs K0 K l b nn/\W.heap[ib]? =some (.cells #[.bool b] 4)/\Kl w M n cap so W/\Mks w.heap.size w4.heap.size ds W/\w4.heap.size<=W.heap.size
theorem LsJ.below{rs:List Rr}{w w4 W W':World}{M n cap ib:Nat}{so:Option Addr}{K0:ByteArray->Ot}{ds:List Deferred}{l:List Rr}(h:LsJ rs w w4 M n cap so K0 ib ds l W)(hb:Below w4.heap.size W W')(hM:M+1<ib)(hwM:w.heap.size<M)(hib:ib<w4.heap.size):LsJ rs w w4 M n cap so K0 ib ds l W':=by
 obtain⟨K,nn,b,h1,h2,h3,h4,h5,h6⟩:=h;exact⟨K,nn,b,h1.below hb (by omega),h2,(hb.block _ hib).trans h3,h4.below hb (by omega) (by omega),h5.below hb,Nat.le_trans h6 hb.size⟩
theorem y1S(so:Option Addr)(n cap:Nat)(rs:List Rr)(w:World)(h:Qv w w.heap.size so n rs)(HZ:Hid (RgZ rs))(HO:Hid (∀x∈rs,okT x.2.1=true))(HU:Hid (∀x∈rs,∀y∈rs,y.1=x.1->y=x))(h64:rs.length<=64)(m:Nat):
  CallsIn Fence.wide (m+5) prog 85 #[.agg #[.slice so n cap]] w (LsP rs w):=by
 have hdd:=Xg;have hmm:=y1Q;obtain⟨M,hM⟩:∃M,M=w.heap.size+1:=⟨_,rfl⟩;obtain⟨W0,hW0⟩:∃W0,W0=(((w.alloc (.cells #[.slice so n cap] 24)).alloc (.map #[] 0)).alloc (.cells #[.map (some M)] 147)).alloc (.cells #[.bool true] 4):=⟨_,rfl⟩;have HB0:Hid (Below w.heap.size w W0):=by rw[hW0];exact((((Below.refl _ w).alloc L0q _).alloc (by simp) _).alloc (by simp;omega) _).alloc (by simp;omega) _
 have HG0:Hid (W0.heap[w.heap.size]? =some (.cells #[.slice so n cap] 24)):=by
  rw[hW0];exact(Below.heap_alloc _ _ _ (by simp;omega)).trans ((Below.heap_alloc _ _ _ (by simp;omega)).trans ((Below.heap_alloc _ _ _ (by simp)).trans (Qx w _ rfl)))
 have HN0:Hid (Nm W0 M 0 z0O):=by
  rw[hW0,hM];have h1:=Nm.made (w.alloc (.cells #[.slice so n cap] 24));rw[World.size_alloc]at h1;exact(h1.kept (World.grownBy_alloc _ _ none) (by simp)).kept (World.grownBy_alloc _ _ none) (by simp)
 have HK0:Hid (W0.heap[M+1]? =some (.cells #[.map (some M)] 147)):=by
  rw[hW0,hM];exact(Below.heap_alloc _ _ _ (by simp)).trans (Qx _ _ (by simp))
 have HI0:Hid (W0.heap[M+1+1]? =some (.cells #[.bool true] 4)):=by
  rw[hW0,hM];exact Qx _ _ (by simp)
 have hn6:n<=9223372036854775807:=by have:=h.2.1;unfold maxLen at this;omega
 have HR:=hid h;have HNl:Hid (n=rs.length):=h.1;have hwM:w.heap.size<M:=by omega
 clear h;refine callsIn_of_wp_marks func85 rfl trivial ?_ rfl;simp only[ntmps85,List.size_toArray,List.length_cons,List.length_nil,Nat.reduceAdd,Nat.reduceSub,Array.replicate_succ,Array.replicate_zero,List.push_toArray,List.append_toArray,List.nil_append,List.cons_append]
 gi_wp2
 rw[<-hM,<-hW0];clear hW0 hmm;have HM:=hid hM;clear hM;refine y1L (fun k a' w'=>∃(ib:Nat) (b:Bool) (v12 v13 v14 v15 v32:Value) (ds:List Deferred),a'={tmps:=#[.agg #[.slice so n cap],.pointer (some ⟨w.heap.size,0,none⟩),.map none,.pointer (some ⟨M+1,0,none⟩),.pointer (some ⟨ib,0,none⟩),undef,undef,undef,.pointer (some ⟨w.heap.size,0,none⟩),.slice so n cap,.int .i64 n,.map (some M),v12,v13,v14,v15,undef,undef,undef,undef,undef,undef,undef,undef,undef,undef,undef,undef,undef,undef,undef,undef,v32,undef],defers:=ds}/\Hid (LsI rs w M n cap so k ib b ds w')) _ ⟨M+1+1,true,undef,undef,undef,undef,undef,[],rfl,hid ⟨0,0,HN0.out,z4z rs,by show 0+lck z0O rs<=_;rw[z4A];omega,⟨HB0.out,HG0.out,HK0.out⟩,HI0.out,by omega,(fun h=>by cases h),trivial,rfl⟩⟩ ?_;clear HB0 HG0 HN0 HK0 HI0;rintro k a' w1 ⟨ib,b,v12,v13,v14,v15,v32,ds,rfl,HI⟩;obtain⟨nn,mm,hNm,hInv,hCnt,hKl,hIb,hib,hFx,hMk,hk⟩:=HI.out;clear HI;obtain⟨i0,f0⟩:=Qk hIb;obtain⟨g0,_⟩:=Qk hKl.g;obtain⟨b0,_⟩:=Qk hKl.b;have li:=Qq hIb;have lg:=Qq hKl.g;have lb:=Qq hKl.b;cases b with
 |false=>
  have HNm:=hid hNm;have HFx:=hid (hFx rfl);have HMk:=hid hMk;have HKl:=hid hKl;clear hNm hInv hCnt hKl hIb hFx hMk hk
  gi_wp2
  refine Ml ds w1.heap.size _ HMk.out fun w' hk=> ?_
  exact⟨.map (some M),by simp[results,Tryz.f85,go_sem],M,nn,mm,rfl,by omega,hk.nm HNm.out,HFx.out,HKl.out.be.trans hk.1⟩
 |true=>
  obtain⟨w3,hw3⟩:∃w3,w3=w1.setCell ⟨ib,0,none⟩ (.bool false):=⟨_,rfl⟩;have hg3:w1.grownBy w3 (some ib):=by rw[hw3];exact grownBy_setCell' _ _ _
  have hs3:w3.heap.size=w1.heap.size:=by rw[hw3];simp
  have hI3:w3.heap[ib]? =some (.cells #[.bool false] 4):=by rw[hw3];exact Qf hIb 0 _
  have hKl3:=hKl.grown hg3 (by omega) (by omega);have hNm3:=hNm.kept hg3 (fun e=>by have:=Option.some.inj e;omega);have hMk3:Mks w.heap.size w1.heap.size ds w3:=hMk.kept fun D hD e=>(hg3.block D hD (fun e'=>by have:=Option.some.inj e';subst this;rw[hIb]at e;cases e)).trans e
  obtain⟨g3,_⟩:=Qk hKl3.g;have lg3:=Qq hKl3.g;have HW3:=hid hw3;have HIb:Hid (b0=b0):=rfl;have HKl3:=hid hKl3;have HNm3:=hid hNm3;have HMk3:=hid hMk3;have HI3:=hid hI3;have HInv:=hid hInv;have HCnt:Hid (nn+lck (itr rs mm) rs<=3*rs.length):=hCnt;have HKk:Hid (k=lck (itr rs mm) rs+1):=hk;have hle3:w1.heap.size<=w3.heap.size:=Nat.le_of_eq hs3.symm;have HS3:=hid hs3;clear hw3 hg3 hKl3 hNm3 hMk3 hI3 hInv hCnt hk hFx hMk hNm hKl hIb HIb hs3
  gi_wp2_with (first
   |(rw[<-HW3.out];refine⟨trivial,?_⟩;gi_at_call 124;refine(y1P _ so n cap _).mono ?_;rintro e w4 ⟨rfl,rfl⟩))
  clear HW3 g3 lg3 i0 f0 g0 b0;obtain⟨w4,hw4⟩:∃w4,w4=w3.alloc (.cells #[.slice so n cap] 22):=⟨_,rfl⟩;have hb34:Below w3.heap.size w3 w4:=by rw[hw4];exact(Below.refl _ w3).alloc L0q _
  have hs4:w4.heap.size=w3.heap.size+1:=by rw[hw4];simp
  have hBx:Boxed w4 w3.heap.size 22 (.slice so n cap):=by rw[hw4];exact Qx w3 _ rfl
  rw[<-hw4];clear hw4;have HNm4:=hid (HNm3.out.below hb34 (by omega));have HKl4:=hid (HKl3.out.below hb34 (by omega) (by omega));have HI4:=hid ((hb34.block _ (Qq HI3.out)).trans HI3.out);have HMk4:Hid (Mks w.heap.size w4.heap.size ds w4):=(HMk3.out.below (hb34.mono hle3)).mono (by omega);have hR4:Qv w4 w.heap.size so n rs:=HR.out.below HKl4.out.be;have hib4:ib<w4.heap.size:=by omega
  have hlt4:w.heap.size<w4.heap.size:=by omega
  clear HNm3 HKl3 HI3 HMk3 hb34;refine wpIn_rangeFunc_ownH rfl (by omega) (gf:=159) (lb:=#[.pointer (some ⟨w3.heap.size,0,none⟩)]) rfl trivial (enters_of func159 (by kernel_rfl) rfl)
   (y1O (B:=w.heap.size) n cap so _ hR4 hBx) Kb.trans (fun W' l o o' h1 h2 h3 h4=>Kb.grown (grownBy_putObj' W' l o') (fun r e=>by have:=Option.some.inj e;omega)) B0q (fun _=>rfl)
   (fun pre W=>LsJ rs w w4 M n cap so (itr rs mm) ib ds (pre.map Bx.r) W)
   (fun c pre W=>False)
   ?own ?ownx ⟨itr rs mm,nn,false,HNm4.out,Rnd.start HInv.out HCnt.out,HI4.out,HKl4.out,HMk4.out,Nat.le_refl _⟩
   (fun x a' W=>∃b,a'={tmps:=#[.agg #[.slice so n cap],.pointer (some ⟨w.heap.size,0,none⟩),.map none,.pointer (some ⟨M+1,0,none⟩),.pointer (some ⟨ib,0,none⟩),undef,.pointer (some ⟨b,0,none⟩),undef,.pointer (some ⟨w.heap.size,0,none⟩),.slice so n cap,.int .i64 n,.map (some M),.bool true,.pointer (some ⟨w.heap.size,0,none⟩),.slice so n cap,.func (.func 159) #[] #[.pointer (some ⟨w3.heap.size,0,none⟩)],.int .i64 (x.i:Int),x.v,undef,undef,undef,undef,undef,undef,undef,undef,undef,undef,undef,undef,undef,undef,v32,undef],defers:=[]}/\W.heap[b]? =some (.cells #[.string x.N,.int .i64 x.k,.string x.T,.int .u64 x.a,.int .u64 x.b,.int .u64 x.c,.int .u64 x.d,.slice x.so x.n x.cap,.int .i64 x.p,.int .i64 x.q] 56))
   ?ownA ?assign ?Qg ?done ?stop
  case own=>
   intro pre X Y row h hg hr;have hB:Below w4.heap.size X Y:=(Below.refl _ X).grown hg h.choose_spec.choose_spec.choose_spec.2.2.2.2.2 (fun k e=>(hr k e).1);exact h.below hB hib hwM hib4
  case ownx=>exact fun _ _ _ _ _ h=>h.elim
  case ownA=>
   rintro x a' _ X Y row ⟨b,h1,h2⟩ hg hr;exact⟨b,h1,El h2 hg (fun r e=>(hr r e).2)⟩
  case assign=>
   rintro l pre x W K hJ hK;have hB:Below W.heap.size W (W.alloc (.cells #[.string x.N,.int .i64 x.k,.string x.T,.int .u64 x.a,.int .u64 x.b,.int .u64 x.c,.int .u64 x.d,.slice x.so x.n x.cap,.int .i64 x.p,.int .i64 x.q] 56)):=(Below.refl _ W).alloc L0q _;have HK:=hid (hK {tmps:=#[.agg #[.slice so n cap],.pointer (some ⟨w.heap.size,0,none⟩),.map none,.pointer (some ⟨M+1,0,none⟩),.pointer (some ⟨ib,0,none⟩),undef,.pointer (some ⟨W.heap.size,0,none⟩),undef,.pointer (some ⟨w.heap.size,0,none⟩),.slice so n cap,.int .i64 n,.map (some M),.bool true,.pointer (some ⟨w.heap.size,0,none⟩),.slice so n cap,.func (.func 159) #[] #[.pointer (some ⟨w3.heap.size,0,none⟩)],.int .i64 (x.i:Int),x.v,undef,undef,undef,undef,undef,undef,undef,undef,undef,undef,undef,undef,undef,undef,v32,undef],defers:=[]} (W.alloc (.cells #[.string x.N,.int .i64 x.k,.string x.T,.int .u64 x.a,.int .u64 x.b,.int .u64 x.c,.int .u64 x.d,.slice x.so x.n x.cap,.int .i64 x.p,.int .i64 x.q] 56)) (KeepsFrom.of_grownBy (World.grownBy_alloc W _ none) (fun j e=>by cases e)) (Kb.alloc W _) (hJ.below (hB.mono hJ.choose_spec.choose_spec.choose_spec.2.2.2.2.2) hib hwM hib4) ⟨W.heap.size,rfl,Qx W _ rfl⟩);clear hK hJ hB
   gi_wp2
   exact HK.out
  case Qg=>
   rintro l pre x a' W hl ⟨r,hr⟩ hJ ⟨bb,rfl,hbb⟩ hlt;obtain⟨K,nk,bk,jN,jR,jI,jK,jM,jS⟩:=hJ;have hx:x.r∈rs:=List.mem_of_getElem? x.e;have hzx:=HZ.out _ hx;have hrtW:Qj W w.heap.size x.t (r8 x.k x.T x.a x.b x.c x.d x.so x.n x.cap x.p):=Qj.kept (fun g o u hg hu=>(jK.be.cell (p:=⟨g,o,none⟩) hg).trans ((HKl4.out.be.cell (p:=⟨g,o,none⟩) hg).symm.trans hu)) _ _ x.rt;obtain⟨⟨y1,y2,y3⟩,hy⟩:∃y,y=ofT K x.t:=⟨_,rfl⟩;have HS:=hid (z4x M nk K x.t _ W w.heap.size hrtW (by omega) hzx.2 (HO.out _ hx) jN);rw[<-hy]at HS;dsimp only[r8,ov]at HS;obtain⟨⟨q1,q2,q3⟩,hq⟩:∃q,q=K x.N:=⟨_,rfl⟩;have hNz:x.N.size<=maxLen:=hzx.1;obtain⟨⟨c0,c1,c2,c3,c4,c5,c6,c7,c8,c9⟩,_⟩:=Jz hbb;obtain⟨k0,_⟩:=Qk jK.b;have lbb:=Qq hbb;have lk:=Qq jK.b;have HX:Hid (x.r∈rs):=hx;have HY:Hid ((y1,y2,y3)=ofT K x.t):=hy;have HQ:Hid ((q1,q2,q3)=K x.N):=hq;have HJN:=hid jN;have HJR:=hid jR;have HJI:=hid jI;have HJK:=hid jK;have HJM:=hid jM;have HBB:=hid hbb;have hcnt:nk<maxLen:=by have:=jR.cnt;unfold maxLen;omega
   have heq:=y1R (y1,y2,y3) (q1,q2,q3);dsimp only[ov]at heq;clear hx hzx hrtW hy hq jN jR jI jK jM hbb;by_cases hyq:(y1,y2,y3)=(q1,q2,q3)
   ·rw[decide_eq_true hyq]at heq
    have HYQ:=hid hyq;clear hyq
    gi_wp2_with (first
     |(refine⟨trivial,?_⟩;gi_at_call 125;refine((callsIn_wide.2 HS.out).inRound l).mono ?_;rintro e w5 ⟨rfl,HB5⟩;have HB6:=hid (HB5.out.alloc HB5.out.size (.cells #[.bool y1,.bool y2,.bool y3] 95));obtain⟨⟨u0,u1,u2⟩,_⟩:=Qp (Qx w5 (.cells #[.bool y1,.bool y2,.bool y3] 95) rfl);have hL:=(HJN.out.below HB6.out (by omega)).look hNz;rw[<-HQ.out]at hL;dsimp only[ov]at hL;obtain⟨k6,_⟩:=Qk ((HB6.out.block _ lk).trans HJK.out.b);obtain⟨⟨r0,-,-,-,-,-,-,-,-,-⟩,-⟩:=Jz ((HB6.out.block _ lbb).trans HBB.out);clear HB5))
    refine⟨KeepsFrom.of_grownBy (G.below (R:=0) HB6.out) (fun j e=>by have:=Option.some.inj e;omega),Kb.below HB6.out,?_⟩;have hb6:=HB6.out.mono jS;refine LsJ.below (W:=W) ?_ hb6 hib hwM hib4;refine⟨K,nk,bk,HJN.out,?_,HJI.out,HJK.out,HJM.out,jS⟩;rw[List.map_append];exact HJR.out.same (x:=x.r) (by rw[show ofT K x.r.2.1=_ from HY.out.symm,show K x.r.1=_ from HQ.out.symm];exact HYQ.out)
   ·rw[decide_eq_false hyq]at heq
    have HYQ:=hid hyq;clear hyq
    gi_wp2_with (first
     |(refine⟨trivial,?_⟩;gi_at_call 125;refine((callsIn_wide.2 HS.out).inRound l).mono ?_;rintro e w5 ⟨rfl,HB5⟩;have HB6:=hid (HB5.out.alloc HB5.out.size (.cells #[.bool y1,.bool y2,.bool y3] 95));obtain⟨⟨u0,u1,u2⟩,_⟩:=Qp (Qx w5 (.cells #[.bool y1,.bool y2,.bool y3] 95) rfl);have HN6:=hid (HJN.out.below HB6.out (by omega));have hL:=HN6.out.look hNz;rw[<-HQ.out]at hL;dsimp only[ov]at hL;obtain⟨k6,_⟩:=Qk ((HB6.out.block _ lk).trans HJK.out.b);obtain⟨⟨r0,-,-,-,-,-,-,-,-,-⟩,-⟩:=Jz ((HB6.out.block _ lbb).trans HBB.out);obtain⟨w7,h7,hN7,hg7⟩:=HN6.out.put hNz (y1,y2,y3) hcnt;dsimp only[ov]at h7;have hI7:=(hg7.block ib (by have:=HB6.out.size;omega) (fun e=>by have:=Option.some.inj e;omega)).trans ((HB6.out.block _ (by omega)).trans HJI.out);obtain⟨i7,f7⟩:=Qk hI7;have li7:=Qq hI7;have HN7:=hid hN7;have HG7:=hid hg7;have HI7:=hid hI7;clear HB5 hN7 hg7 hI7))
    have hs3:=HS3.out;have hb6:=HB6.out;have hg7:=HG7.out;have hg8:w7.grownBy (w7.setCell ⟨ib,0,none⟩ (.bool true)) (some ib):=grownBy_setCell' _ _ _;refine⟨((KeepsFrom.of_grownBy (G.below (R:=0) hb6) (fun j e=>by have:=Option.some.inj e;omega)).trans (KeepsFrom.of_grownBy hg7 (fun j e=>by have:=Option.some.inj e;omega))).trans (KeepsFrom.of_grownBy hg8 (fun j e=>by have:=Option.some.inj e;omega)),((Kb.below hb6).trans (Kb.grown hg7 (fun r e=>by have:=Option.some.inj e;omega))).trans (Kb.grown hg8 (fun r e=>by have:=Option.some.inj e;omega)),?_⟩;refine⟨_,_,true,HN7.out.kept hg8 (fun e=>by have:=Option.some.inj e;omega),?_,Qf HI7.out 0 _,((HJK.out.below hb6 (by omega) (by omega)).grown hg7 hwM (by omega)).grown hg8 (by omega) (by omega),?_,?_⟩
    ·rw[List.map_append,HY.out]
     exact HJR.out.new (x:=x.r) HX.out (HU.out _ HX.out) (by rw[show ofT K x.r.2.1=_ from HY.out.symm,show K x.r.1=_ from HQ.out.symm];exact HYQ.out)
    ·refine HJM.out.kept fun D hD e=> ?_
     obtain⟨es,ck,hmap⟩:=HN6.out.obj;have e6:=(hb6.block D (by omega)).trans e;have e7:=(hg7.block D (Qq e6) (fun e'=>by have:=Option.some.inj e';subst this;rw[hmap]at e6;cases e6)).trans e6;exact(hg8.block D (Qq e7) (fun e'=>by have:=Option.some.inj e';subst this;rw[HI7.out]at e7;cases e7)).trans e7
    ·have h1:=hb6.size
     have h2:=hg7.size;have h3:=hg8.size;omega
  case done=>
   rintro D xs W hD hxs ⟨K,nk,bk,jN,jR,jI,jK,jM,jS⟩ hK;rw[HNl.out]at hxs;rw[y1M Bx.i Bx.r rs xs hxs (fun x _=>x.e)]at jR;have eK:K=itr rs (mm+1):=jR.last;have hfx:bk=false->Xb K rs:=fun e=>by
    subst e;rw[jR.fix.1];exact jR.fix.2
   obtain⟨i6,_⟩:=Qk jI;have li6:=Qq jI;have HJR:=hid jR;have HJN:=hid jN;have HJK:=hid jK;have HEK:Hid (K=itr rs (mm+1)):=eK;have HFX:=hid hfx;have HMM:Hid (Mks w.heap.size W.heap.size ({target:=.collected D,args:=#[]}::ds) W):=⟨D,rfl,by omega,Qq hK,hK,jM.mono hD⟩;clear jN jR jI jK jM hK hxs hfx eK
   gi_wp2
   have hal:=(Below.refl _ W).alloc L0q (.cells #[.bool bk] 4);refine⟨if bk then lck (itr rs (mm+1)) rs+1 else 0,?_,W.heap.size,bk,_,_,_,_,_,_,rfl,hid ⟨nk,mm+1,?_,?_,?_,HJK.out.below hal (by have:=HJK.out.be.size;have:=Qq HJK.out.g;omega) HJK.out.lt,Qx W _ rfl,HJK.out.lt,?_,(HMM.out.below hal).mono hal.size,rfl⟩⟩
   ·rw[<-HEK.out,HKk.out]
    cases bk with
    |true=>have:=HJR.out.yes rfl;simp;omega
    |false=>simp
   ·rw[<-HEK.out];exact HJN.out.below hal (by have:=HJN.out.lt;omega)
   ·rw[<-HEK.out];exact HJR.out.inv
   ·rw[<-HEK.out];exact HJR.out.cnt
   ·rw[<-HEK.out];exact HFX.out
  case stop=>exact fun _ _ _ _ _ _ h=>h.elim
mutual
def hrT(l:List ByteArray):RT->Bool
 | .mk k T _ _ _ _ s _=>if k=5 then inN T l else hrL l s
def hrL(l:List ByteArray):List RT->Bool
 |[]=>true
 |t::r=>hrT l t&&hrL l r
end
theorem z4B{l:List ByteArray}:∀{s:List RT} (j:Nat) (hj:j<s.length),hrT l s[j]=false->hrL l s=false
 |[],j,hj,_=>by simp at hj
 |t::r,0,_,h=>by rw[hrL,show hrT l t=false from h];rfl
 |t::r,j+1,hj,h=>by rw[hrL,z4B j (by simpa using hj) h,Bool.and_false]
theorem z4C{l:List ByteArray}:∀{s:List RT},(∀(j:Nat) (hj:j<s.length),hrT l s[j]=true)->hrL l s=true
 |[],_=>by rw[hrL]
 |t::r,h=>by rw[hrL,show hrT l t=true from h 0 (by simp),z4C (s:=r) (fun j hj=>h (j+1) (by simpa using hj))];rfl
theorem y1T(l:List ByteArray)(so0:Option Addr)(n0 cap0:Nat)(T:ByteArray)(a b c d p:Int)(so:Option Addr)(n cap:Nat)(w:World)
  (HF:Hid (∀W:World,Below w.heap.size w W->Calls prog 52 #[.agg #[.slice so0 n0 cap0],.string T] W fun e w'=>e=.returned (.int .i64 (fdI T l))/\Below W.heap.size W w')):
  Calls prog 158 #[.agg #[.slice so0 n0 cap0],.agg (r8 5 T a b c d so n cap p).toArray] w fun e w'=>e=.returned (.bool (inN T l))/\Below w.heap.size w w':=by
 have HB:Hid (∀o1 o2:Obj,Below w.heap.size w ((w.alloc o1).alloc o2)):=fun o1 o2=>((Below.refl _ w).alloc L0q o1).alloc (by simp) o2
 obtain⟨v,hv⟩:∃v,v=fdI T l:=⟨_,rfl⟩;have hi:decide (0<=v)=inN T l:=by
  rw[hv];unfold fdI;cases inN T l
  ·simp
  ·simp
 rw[<-hv]at HF;obtain⟨q,hq⟩:∃q,q=inN T l:=⟨_,rfl⟩;rw[<-hq]at hi ⊢;clear hv hq;dsimp only[r8];go_enter func158,ntmps158
 go_wp2_with(first|(go_at_call 52;refine(HF.out _ (HB.out _ _)).mono ?_;rintro e wz ⟨rfl,hbz⟩))
 go_ret;exact⟨rfl,(HB.out _ _).trans (hbz.mono (HB.out _ _).size)⟩
theorem y1U(l:List ByteArray)(so0:Option Addr)(n0 cap0:Nat)(k:Int)(hk:k≠5)(T:ByteArray)(a b c d p:Int)(so:Option Addr)(n cap:Nat)(s:List RT)(w:World)(hn:n<=9223372036854775807)(HN:Hid (n=s.length))
  (HC:Hid (∀j (hj:j<s.length),∃g o,so=some ⟨g,o,none⟩/\g<w.heap.size/\∃k1 T1 a1 b1 c1 d1 so1 n1 cap1 p1,Rc w g (o+j*8) k1 T1 a1 b1 c1 d1 (.slice so1 n1 cap1) p1/\
    ∀W:World,Below w.heap.size w W->Calls prog 158 #[.agg #[.slice so0 n0 cap0],.agg (r8 k1 T1 a1 b1 c1 d1 so1 n1 cap1 p1).toArray] W fun e w'=>e=.returned (.bool (hrT l s[j]))/\Below W.heap.size W w')):
  Calls prog 158 #[.agg #[.slice so0 n0 cap0],.agg (r8 k T a b c d so n cap p).toArray] w fun e w'=>e=.returned (.bool (hrL l s))/\Below w.heap.size w w':=by
 have hk2:(k == 5)=false:=by simp[hk]
 have hk3:decide (k=5)=false:=by simp[hk]
 obtain⟨R,hR⟩:∃R,R=hrL l s:=⟨_,rfl⟩;have HR:=hid hR;rw[<-hR];clear hR;obtain⟨W1,hW1⟩:∃W1,W1=(w.alloc (.cells #[.slice so0 n0 cap0] 24)).alloc (.cells #[.int .i64 k,.string T,.int .u64 a,.int .u64 b,.int .u64 c,.int .u64 d,.slice so n cap,.int .i64 p] 54):=⟨_,rfl⟩;have HB1:Hid (Below w.heap.size w W1):=by rw[hW1];exact((Below.refl _ w).alloc L0q _).alloc (by simp) _
 have HW1:=hid hW1;have HG1:Hid (W1.heap[w.heap.size]? =some (.cells #[.slice so0 n0 cap0] 24)):=by rw[hW1];exact(Below.heap_alloc _ _ _ (by simp)).trans (Qx w _ rfl)
 clear hW1;dsimp only[r8];go_enter func158,ntmps158
 go_wp2_with fail
 rw[<-HW1.out];clear HW1
 go_loopw [18] (fun i wr=>∃j:Nat,i=.int .i64 j/\j<=n/\Hid (Below w.heap.size w wr)/\Hid (wr.heap[w.heap.size]? =some (.cells #[.slice so0 n0 cap0] 24))/\Hid (∀i (hi:i<s.length),i<j->hrT l s[i]=true)) (fun i _=>n-(intOf i).toNat)
 case atStart=>exact⟨0,rfl,Nat.zero_le _,HB1,HG1,fun i _ h=>absurd h (by omega)⟩
 case round=>
  obtain⟨j,rfl,hj,HB,HG,HO⟩:=hrel;by_cases hjn:j<n
  ·have hjI:(j:Int)<(n:Int):=by omega
   have a0:decide ((j:Int)<(n:Int))=true:=by simp;omega
   have hjs:j<s.length:=by rw[<-HN.out];exact hjn
   obtain⟨g,o,rfl,hg,k1,T1,a1,b1,c1,d1,so1,n1,cap1,p1,hrc,hcall⟩:=HC.out j hjs;obtain⟨z0,z1,z2,z3,z4,z5,z6,z7⟩:=hrc.below HB.out hg;have hgl:g<wr.heap.size:=World.block_lt_of_cell? wr _ z0;obtain⟨q,hq⟩:∃q,q=hrT l s[j]:=⟨_,rfl⟩;have hbp:Below w.heap.size w (wr.alloc (.cells #[.int .i64 k1,.string T1,.int .u64 a1,.int .u64 b1,.int .u64 c1,.int .u64 d1,.slice so1 n1 cap1,.int .i64 p1] 54)):=HB.out.alloc HB.out.size _;have hbq:=(Below.refl _ wr).alloc L0q (.cells #[.int .i64 k1,.string T1,.int .u64 a1,.int .u64 b1,.int .u64 c1,.int .u64 d1,.slice so1 n1 cap1,.int .i64 p1] 54);have HGp:=hid ((hbq.block _ (Qq HG.out)).trans HG.out);obtain⟨g0,_⟩:=Qk HGp.out;have lg:=Qq HGp.out;have HBp:=hid hbp;have HS:=hid (hcall _ hbp);rw[<-hq]at HS;have HQ:=hid hq;clear hcall hrc hq hbp hbq;dsimp only[r8]at HS;cases q with
   |false=>
    go_wp2_with(first
     |(go_at_call 158;refine HS.out.mono ?_;rintro e wz ⟨rfl,hbz⟩))
    go_ret;refine⟨?_,HBp.out.trans (hbz.mono HBp.out.size)⟩;rw[HR.out,z4B j hjs HQ.out.symm];rfl
   |true=>
    go_wp2_with(first
     |(go_at_call 158;refine HS.out.mono ?_;rintro e wz ⟨rfl,hbz⟩))
    refine⟨⟨j+1,by go_num,by omega,hid (HBp.out.trans (hbz.mono HBp.out.size)),hid ((hbz.block _ lg).trans HGp.out),fun i hi hij=> ?_⟩,by simp[intOf];omega⟩;rcases Nat.lt_or_ge i j with h1|h1
    ·exact HO.out i hi h1
    ·obtain rfl:i=j:=by omega
     exact HQ.out.symm
  ·have a0:decide ((j:Int)<(n:Int))=false:=by simp;omega
   clear HC
   go_wp2_with fail
   go_ret;refine⟨?_,HB.out⟩;rw[HR.out,z4C fun i hi=>HO.out i hi (by have:=HN.out;omega)];rfl
theorem z4D(l:List ByteArray)(rs:List Rr)(hl:l=nmL rs)(so0:Option Addr)(n0 cap0:Nat)(B0:Nat):∀(N:Nat) (t:RT) (cs:List Value) (B:Nat) (w:World),SizeOf.sizeOf t<N->Qj w B t cs->B<=w.heap.size->Qv w B0 so0 n0 rs->B0<=w.heap.size->
  Calls prog 158 #[.agg #[.slice so0 n0 cap0],.agg cs.toArray] w fun e w'=>e=.returned (.bool (hrT l t))/\Below w.heap.size w w'
 |0,t,_,_,_,h,_,_,_,_=>by omega
 |N+1,.mk k T a b c d s p,cs,B,w,hN,ht,hB,hr,hB0=>by
  rw[Qj]at ht;obtain⟨so,cap,rfl,hso⟩:=ht;rw[hrT];by_cases hk:k=5
  ·subst hk
   rw[if_pos rfl];refine y1T l so0 n0 cap0 T a b c d p so _ cap w fun W hW=> ?_
   rw[hl];exact z4a T so0 n0 cap0 rs B0 W (hr.below (hW.mono hB0)) (Nat.le_trans hB0 hW.size)
  ·rw[if_neg hk]
   refine y1U l so0 n0 cap0 k hk T a b c d p so _ cap s w (Hd hso) (Xc s) fun j hj=> ?_
   obtain⟨g,o,h1,h2,k1,T1,a1,b1,c1,d1,so1,n1,cap1,p1,h3,h4⟩:=Ag hB hso j hj;refine⟨g,o,h1,h2,k1,T1,a1,b1,c1,d1,so1,n1,cap1,p1,h3,fun W hW=> ?_⟩;have hsz:=List.sizeOf_lt_of_mem (List.getElem_mem hj);simp only[RT.mk.sizeOf_spec]at hN;exact z4D l rs hl so0 n0 cap0 B0 N s[j] _ B W (by omega) (h4.below (hW.mono hB)) (Nat.le_trans hB hW.size) (hr.below (hW.mono hB0)) (Nat.le_trans hB0 hW.size)
mutual
theorem Qj.mono{w:World}{B B':Nat}(hB:B<=B'):∀(t:RT) (cs:List Value),Qj w B t cs->Qj w B' t cs
 | .mk k T a b c d s p,cs,ht=>by
   rw[Qj]at ht ⊢;obtain⟨so,cap,rfl,ht⟩:=ht;refine⟨so,cap,rfl,?_⟩;rcases ht with h1|⟨h1,g,o,h2,h3,h4,h5⟩
   ·exact .inl h1
   ·exact .inr ⟨h1,g,o,h2,by omega,h4,Qc.mono hB s g o h5⟩
theorem Qc.mono{w:World}{B B':Nat}(hB:B<=B'):∀(s:List RT) (g o:Nat),Qc w B g o s->Qc w B' g o s
 |[],g,o,_=>by rw[Qc];trivial
 |t::r,g,o,ht=>by
  rw[Qc]at ht ⊢;obtain⟨⟨cs,h1,h2⟩,h3⟩:=ht;exact⟨⟨cs,Qj.mono hB t cs h1,h2⟩,Qc.mono hB r g _ h3⟩
end
@[reducible] def bA:ByteArray:={data:=#[97]}
theorem z4E:∀x,x<1->nmS bA=true:=by decide+kernel
@[reducible] def wX (w:World) (k:Int) (T:ByteArray) (a b c d:Int) (so:Option Addr) (n cap:Nat) (p:Int):World:=(w.alloc (.cells #[.int .i64 k,.string T,.int .u64 a,.int .u64 b,.int .u64 c,.int .u64 d,.slice so n cap,.int .i64 p] 54)).alloc (.cells #[.string {data:=#[97]},.int .i64 k,.string T,.int .u64 a,.int .u64 b,.int .u64 c,.int .u64 d,.slice so n cap,.int .i64 p,.int .i64 0] 56)
theorem Hm(w:World)(k:Int)(T:ByteArray)(a b c d:Int)(so:Option Addr)(n cap:Nat)(p:Int):Below w.heap.size w (wX w k T a b c d so n cap p):=(B0q.alloc L0q _).alloc (by simp) _
theorem y1V{w:World}{k:Int}{T:ByteArray}{a b c d:Int}{so:Option Addr}{n cap:Nat}{p:Int}{t:RT}(ht:Qj w w.heap.size t (r8 k T a b c d so n cap p)):Qv (wX w k T a b c d so n cap p) (wX w k T a b c d so n cap p).heap.size (some ⟨w.heap.size+1,0,none⟩) 1 [(bA,t,0)]:=by
 have hb:=Hm w k T a b c d so n cap p;refine⟨rfl,by unfold maxLen;omega,fun j hj=>⟨w.heap.size+1,0,rfl,by simp,?_⟩⟩;obtain rfl:j=0:=by simpa using hj
 obtain⟨⟨c0,c1,c2,c3,c4,c5,c6,c7,c8,c9⟩,_⟩:=Jz (w:=wX w k T a b c d so n cap p) (g:=w.heap.size+1) (Qx _ _ (by simp));exact⟨k,T,a,b,c,d,so,n,cap,p,(ht.below hb).mono hb.size _ _,c0,c1,c2,c3,c4,c5,c6,c7,c8,c9⟩
theorem y1W{t:RT}(hz:RtZ t):RgZ [(bA,t,0)]:=fun x hx=>by
 obtain rfl:x=(bA,t,0):=by simpa using hx
 exact⟨by show 1<=_;omega,hz⟩
theorem y1X(t:RT):okG [(bA,t,0)]=okT t:=by
 unfold okG;rw[List.all_cons,List.all_nil,Bool.and_true];show(true&&(true&&(nmS bA&&okT t)))=okT t;rw[z4E 0 (by decide)];rfl
theorem z4F(k:Int)(T:ByteArray)(a b c d p:Int)(so:Option Addr)(n cap:Nat)(w:World)(c0:Int)
  (HP:Hid (Calls prog 108 #[.agg #[.slice (some ⟨w.heap.size+1,0,none⟩) 1 1]] (wX w k T a b c d so n cap p) fun e w'=>e=.returned (.tuple #[.string ⟨#[]⟩,.iface 37 (.int .i64 c0)])/\Below (wX w k T a b c d so n cap p).heap.size (wX w k T a b c d so n cap p) w')):
  Calls prog 157 #[.agg (r8 k T a b c d so n cap p).toArray] w fun e w'=>e=.returned (.string ⟨#[]⟩)/\Below w.heap.size w w':=by
 have HB:=hid (Hm w k T a b c d so n cap p);dsimp only[r8];go_enter func157,ntmps157
 go_wp2_with fail
 refine HP.out.mono ?_;rintro e w1 ⟨rfl,hb1⟩;have HB1:Hid (Below w.heap.size w w1):=HB.out.trans (hb1.mono HB.out.size);clear HP hb1 HB
 go_wp2_with fail
 go_ret;exact⟨rfl,HB1.out⟩
theorem y1Y(k:Int)(T:ByteArray)(a b c d p:Int)(so:Option Addr)(n cap:Nat)(w:World)(X L:ByteArray)(hL:L.size=X.size+6)(hX:X.size<=8192)(HX:Hid (L.extract 5 (X.size+5)=X))
  (HP:Hid (Calls prog 108 #[.agg #[.slice (some ⟨w.heap.size+1,0,none⟩) 1 1]] (wX w k T a b c d so n cap p) fun e w'=>e=.returned (.tuple #[.string L,.nilIface])/\Below (wX w k T a b c d so n cap p).heap.size (wX w k T a b c d so n cap p) w')):
  Calls prog 157 #[.agg (r8 k T a b c d so n cap p).toArray] w fun e w'=>e=.returned (.string X)/\Below w.heap.size w w':=by
 have HB:=hid (Hm w k T a b c d so n cap p);dsimp only[r8];go_enter func157,ntmps157
 go_wp2_with fail
 refine HP.out.mono ?_;rintro e w1 ⟨rfl,hb1⟩;have HB1:Hid (Below w.heap.size w w1):=HB.out.trans (hb1.mono HB.out.size);have hsl:(Instr.slice 9 (.string L) (some (.int .i64 5)) (some (.int .i64 ((X.size:Int)+6-1))) none).run prog w1=.ok (.string X) w1:=by
  rw[run_slice_string w1 9 L .i64 .i64 5 ((X.size:Int)+6-1) Tryz.underlying9 (by omega) (by omega) (by rw[hL];omega)];rw[show((X.size:Int)+6-1).toNat=X.size+5 by omega];exact congrArg (fun q=>Result.ok (Value.string q) w1) HX.out
 clear HP hb1 HB
 go_wp2_with fail
 go_ret;exact⟨rfl,HB1.out⟩
def exS(nd:Nd):ByteArray:=if 8192<sz (pR qT cT [(bA,nd,0)])∨24<dR [(bA,nd,0)]then{data:=#[]}else cat (pN qT cT nd)
theorem y1Z(nd:Nd):cat (pR qT cT [(bA,nd,0)])={data:=([97,32,60,45,32]++((cat (pN qT cT nd)).data.toList++[10])).toArray}:=by
 rw[pR,pR,cat,cat,z2r,cat,cat];apply ByteArray.ext;apply Array.ext';simp[bA,bAr,bNl]
theorem y2a(nd:Nd):(cat (pR qT cT [(bA,nd,0)])).size=(cat (pN qT cT nd)).size+6/\(cat (pR qT cT [(bA,nd,0)])).extract 5 ((cat (pN qT cT nd)).size+5)=cat (pN qT cT nd):=by
 obtain⟨X,hX⟩:∃X,X=cat (pN qT cT nd):=⟨_,rfl⟩;rw[y1Z,<-hX];have hl:X.data.toList.length=X.size:=by rw[Array.length_toList];rfl
 refine⟨?_,?_⟩
 ·show([97,32,60,45,32]++(X.data.toList++[10])).toArray.size=_
  simp
 ·rw[ByteArray.extract_mk]
  apply ByteArray.ext;apply Array.ext';show List.take (X.size+5-5) (List.drop 5 ([97,32,60,45,32]++(X.data.toList++[10])))=X.data.toList;rw[show X.size+5-5=X.data.toList.length by omega];simp
theorem y2b(k:Int)(T:ByteArray)(a b c d p:Int)(so:Option Addr)(n cap:Nat)(t:RT)(nd:Nd)(w:World)(hT:TabIs w)(ht:Qj w w.heap.size t (r8 k T a b c d so n cap p))(hz:RtZ t)(hq:Tq t nd)(hv:Vk nd)(hw:Wf Nmq nd):
  Calls prog 157 #[.agg (r8 k T a b c d so n cap p).toArray] w fun e w'=>e=.returned (.string (exS nd))/\Below w.heap.size w w':=by
 have hb:=Hm w k T a b c d so n cap p;have hqr:TqR [(bA,t,0)] [(bA,nd,0)]:=by rw[TqR];exact⟨rfl,hq,by rw[TqR];trivial⟩
 have hx:∀x∈[((bA,nd,0):Rl)],Ruk Nmq x:=fun x hx=>by
  obtain rfl:x=(bA,nd,0):=by simpa using hx
  exact⟨z4E 0 (by decide),hv,hw⟩
 have HP:=Hx (some ⟨w.heap.size+1,0,none⟩) 1 1 [(bA,t,0)] [(bA,nd,0)] _ (wX w k T a b c d so n cap p) (y1W hz) (y1V ht) L0q (by rw[y1X];exact(Tw t nd hq hv hw).1) hqr hx (hT.below hb hT.lt);unfold exS;rcases Nat.lt_or_ge 8192 (sz (pR qT cT [(bA,nd,0)]))with hlong|hshort
 ·rw[Sy hlong]at HP
  rw[if_pos (.inl hlong)];exact z4F k T a b c d p so n cap w 2 HP
 rcases Nat.lt_or_ge 24 (dR [(bA,nd,0)])with hdeep|hflat
 ·rw[Sf hshort hdeep]at HP
  rw[if_pos (.inr hdeep)];exact z4F k T a b c d p so n cap w 20 HP
 rw[Mm hshort hflat]at HP;rw[if_neg (by omega)];have hc:=y2a nd;have hs:(cat (pR qT cT [(bA,nd,0)])).size<=8192:=by rw[Rf];exact hshort
 exact y1Y k T a b c d p so n cap w _ _ hc.1 (by omega) hc.2 HP
end Go.Proofs.YthmgblmoobkliaaGreatDoor
