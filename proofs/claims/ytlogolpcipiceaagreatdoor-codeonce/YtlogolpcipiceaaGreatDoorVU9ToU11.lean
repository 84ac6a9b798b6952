/- Lemmas for the last text. Conditions: those that each names. -/
import Derived.Test.YtlogolpcipiceaaGreatDoorVO18ToU1
import Derived.Test.YtlogolpcipiceaaGreatDoorVS1ToO3
import Derived.Test.YtlogolpcipiceaaGreatDoorVO12ToO16
import Derived.Test.YtlogolpcipiceaaGreatDoorVU8
set_option linter.unusedVariables false
set_option maxRecDepth 100000
set_option maxHeartbeats 8000000
namespace Go.Proofs.YtlogolpcipiceaaGreatDoor
open Go.Proofs.Tryz
section
open Go.RowKit Go.Shelf
section
variable {F:Fence} {n:Nat} {P:Program} {Q:Exit->Act->World->Prop} {a:Act} {w:World}
open Classical in
theorem y0M{c:Code}(I:Nat->Act->World->Prop)(k0:Nat)(h0:I k0 a w)(round:∀k a w,I k a w->c.wpIn F n P (Exit.then (fun a' w'=>∃k',k'<k/\I k' a' w') Q) a w):(Code.loop c).wpIn F n P Q a w:=by
 have least:∀(k:Nat) (a:Act) (w:World),I k a w->∃m,I m a w/\∀j,I j a w->m<=j:=by
  intro k
  induction k using Nat.strongRecOn with
  |_ k ih=>
   intro a w h;by_cases hk:∃j,j<k/\I j a w
   ·obtain⟨j,hj,hI⟩:=hk
    exact ih j hj a w hI
   ·exact⟨k,h,fun j hj=>Nat.le_of_not_lt fun hlt=>hk ⟨j,hlt,hj⟩⟩
 let μ:Act->World->Nat:=fun a w=>if h:∃m,I m a w/\∀j,I j a w->m<=j then Classical.choose h else 0
 have hμ:∀k a w,I k a w->I (μ a w) a w/\μ a w<=k:=fun k a w h=>by
  have hm:=least k a w h;have hs:=Classical.choose_spec hm;have e:μ a w=Classical.choose hm:=dif_pos hm;rw[e];exact⟨hs.1,hs.2 k h⟩
 refine wpIn_loop (fun a w=>∃k,I k a w) μ ⟨k0,h0⟩ ?_;rintro a w ⟨k,h⟩;refine Code.wpIn_mono (fun e a' w' q=> ?_) (round (μ a w) a w (hμ k a w h).1);cases e<;>first
  |exact q
  |(obtain⟨k',hlt,hI⟩:=q;exact⟨⟨k',hI⟩,Nat.lt_of_le_of_lt (hμ k' _ _ hI).2 hlt⟩)
end
theorem z3y(K:ByteArray->Ot):∀rs:List Rr,rs.reverse.foldl Vc K=swp K rs
 |[]=>rfl
 |x::r=>by rw[List.reverse_cons,List.foldl_append,z3y K r,swp];rfl
structure Rnd (rs:List Rr) (K0 K:ByteArray->Ot) (l:List Rr) (b:Bool) (n:Nat):Prop where
 k:K=l.foldl Vc K0
 inv:Kv K rs
 le:lck K rs<=lck K0 rs
 no:b=false->K=K0/\∀x∈l,ofT K0 x.2.1=K0 x.1
 yes:b=true->lck K rs<lck K0 rs
 cnt:n+lck K rs<=3*rs.length
section
variable {rs:List Rr} {K0 K:ByteArray->Ot} {l:List Rr} {b:Bool} {n:Nat}
theorem Rnd.start(h:Kv K0 rs)(hc:n+lck K0 rs<=3*rs.length):Rnd rs K0 K0 [] false n:=⟨rfl,h,Nat.le_refl _,fun _=>⟨rfl,fun x hx=>by simp at hx⟩,(fun h=>by cases h),hc⟩
theorem Rnd.same(h:Rnd rs K0 K l b n){x:Rr}(e:ofT K x.2.1=K x.1):Rnd rs K0 K (l++[x]) b n:=by
 refine⟨?_,h.inv,h.le,fun hb=>⟨(h.no hb).1,fun y hy=> ?_⟩,h.yes,h.cnt⟩
 ·rw[List.foldl_append,<-h.k,List.foldl_cons,List.foldl_nil,Vc]
  exact(z3g e).symm
 ·rcases List.mem_append.1 hy with hy|hy
  ·exact(h.no hb).2 y hy
  ·obtain rfl:y=x:=by simpa using hy
   rw[<-(h.no hb).1];exact e
theorem Rnd.new(h:Rnd rs K0 K l b n){x:Rr}(hx:x∈rs)(hu:∀y∈rs,y.1=x.1->y=x)(e:ofT K x.2.1≠K x.1):Rnd rs K0 (Ul K x.1 (ofT K x.2.1)) (l++[x]) true (n+1):=by
 have hle:=z3i (h.inv x hx);have hlt:lck (Vc K x) rs<lck K rs:=z3m hle hx (fun h=>e (by
  unfold Vc Ul at h;rw[if_pos rfl]at h;exact h.symm))
 have h1:=h.le;have h2:=h.cnt;refine⟨?_,y0d hu hx h.inv,?_,(fun h=>by cases h),fun _=> ?_,?_⟩
 ·rw[List.foldl_append,<-h.k]
  rfl
 ·exact Nat.le_trans (Nat.le_of_lt hlt) h1
 ·exact Nat.lt_of_lt_of_le hlt h1
 ·show n+1+lck (Vc K x) rs<=_
  omega
theorem Rnd.last(h:Rnd rs K0 K rs.reverse b n):K=swp K0 rs:=h.k.trans (z3y K0 rs)
theorem Rnd.fix(h:Rnd rs K0 K rs.reverse false n):K=K0/\Yk K0 rs:=⟨(h.no rfl).1,fun x hx=>(h.no rfl).2 x (List.mem_reverse.2 hx)⟩
end
theorem y0N(rs:List Rr):Kv z0O rs:=fun x hx=>rfl
theorem z3z:∀rs:List Rr,lck z0O rs=3*rs.length
 |[]=>rfl
 |x::r=>by rw[lck,z3z r,List.length_cons];show 3-0+_=_;omega
theorem y0O{α β:Type}(f:β->Nat)(g:β->α)(rs:List α)(xs:List β)(h:xs.map f=(List.range rs.length).reverse)(e:∀x∈xs,rs[f x]? =some (g x)):xs.map g=rs.reverse:=by
 have h1:(xs.map f).map (fun i=>rs[i]?)=xs.map (fun x=>some (g x)):=by
  rw[List.map_map];exact List.map_congr_left fun x hx=>e x hx
 have h2:(List.range rs.length).map (fun i=>rs[i]?)=rs.map some:=by
  apply List.ext_getElem
  ·simp
  ·intro i h1 h2
   simp at h1;simp[h1]
 rw[h,List.map_reverse,h2,<-List.map_reverse]at h1;have h3:(xs.map g).map some=(rs.reverse).map some:=by rw[h1,List.map_map];rfl
 exact(List.map_inj_right (fun x y e=>Option.some.inj e)).1 h3
end
section
open Go.RowKit Go.Shelf
attribute [local go_sem] Oper.semAt_some
structure Bx (w:World) (B:Nat) (rs:List Rr) where
 i:Nat
 N:ByteArray
 t:RT
 q:Int
 k:Int
 T:ByteArray
 a:Int
 b:Int
 c:Int
 d:Int
 so:Option Addr
 n:Nat
 cap:Nat
 p:Int
 e:rs[i]? =some (N,t,q)
 rt:Qj w B t (r8 k T a b c d so n cap p)
section
variable {w:World} {B:Nat} {rs:List Rr}
@[reducible] def Bx.v (x:Bx w B rs):Value:=.agg #[.string x.N,.int .i64 x.k,.string x.T,.int .u64 x.a,.int .u64 x.b,.int .u64 x.c,.int .u64 x.d,.slice x.so x.n x.cap,.int .i64 x.p,.int .i64 x.q]
@[reducible] def Bx.vs (x:Bx w B rs):Array Value:=#[.int .i64 (x.i:Int),x.v]
def Bx.r(x:Bx w B rs):Rr:=(x.N,x.t,x.q)
end
def Kb(B Bt:Nat)(W W':World):Prop:=W.heap.size<=W'.heap.size/\(∀j,j<B->∀o,W.heap[j]? =some o->W'.heap[j]? =some o)/\∀o,W.heap[Bt]? =some o->W'.heap[Bt]? =some o
section
variable {B Bt:Nat}
theorem Kb.refl(W:World):Kb B Bt W W:=⟨Nat.le_refl _,fun _ _ _ h=>h,fun _ h=>h⟩
theorem Kb.trans{A C D:World}(h:Kb B Bt A C)(k:Kb B Bt C D):Kb B Bt A D:=⟨Nat.le_trans h.1 k.1,fun j hj o ho=>k.2.1 j hj o (h.2.1 j hj o ho),fun o ho=>k.2.2 o (h.2.2 o ho)⟩
theorem Kb.below{W W':World}(h:Below W.heap.size W W'):Kb B Bt W W':=⟨h.size,fun j _ o ho=>(h.block j (Array.getElem?_eq_some_iff.1 ho).1).trans ho,fun o ho=>(h.block _ (Array.getElem?_eq_some_iff.1 ho).1).trans ho⟩
theorem Kb.alloc(W:World)(o:Obj):Kb B Bt W (W.alloc o):=Kb.below ((Below.refl _ W).alloc L0q o)
theorem Kb.grown{W W':World}{row:Option Nat}(h:W.grownBy W' row)(h1:∀r,row=some r->B<=r/\r≠Bt):Kb B Bt W W':=⟨h.size,fun j hj o ho=>(h.block j (Array.getElem?_eq_some_iff.1 ho).1 (fun e=>by have:=(h1 j e.symm).1;omega)).trans ho,fun o ho=>(h.block Bt (Array.getElem?_eq_some_iff.1 ho).1 (fun e=>(h1 Bt e.symm).2 rfl)).trans ho⟩
theorem Kb.cell{W W':World}(h:Kb B Bt W W'){g o:Nat}{u:Value}(hg:g<B)(hu:W.cell? ⟨g,o,none⟩=some u):W'.cell? ⟨g,o,none⟩=some u:=by
 have hl:=World.block_lt_of_cell? W _ hu;have e:W'.heap[g]? =W.heap[g]? :=(h.2.1 g hg _ (Array.getElem?_eq_getElem hl)).trans (Array.getElem?_eq_getElem hl).symm;exact(World.cell?_of_block (w:=W) (a:=⟨g,o,none⟩) e).trans hu
end
structure Yb (w:World) (B Bt:Nat) (rs:List Rr) (l N:Nat) (J Jx:List (Bx w B rs)->World->Prop):Prop where
 call:∀m pre (x:Bx w B rs) W,J pre W->pre.length<N->YieldAt Fence.wide m prog l x.vs W fun e W'=>
  (e=.returned (.bool true)/\J (pre++[x]) W'/\Kb B Bt W W')∨(e=.returned (.bool false)/\Jx (pre++[x]) W')
section
variable {w:World} {B Bt:Nat} {rs:List Rr} {l:Nat} {J Jx:List (Bx w B rs)->World->Prop}
theorem y0P(n cap:Nat)(hY:Yb w B Bt rs l n J Jx)(so:Option Addr)(m:Nat)(W:World)(h:Qv w B so n rs)(hb:Boxed w Bt 22 (.slice so n cap))(hW:Below w.heap.size w W)(hJ:J [] W):
  CallsIn Fence.wide m prog 235 #[.func (.yield l) #[] #[],.pointer (some ⟨Bt,0,none⟩)] W fun e W'=>(∃v,e=.returned v)/\((∃q:List (Bx w B rs),q.map Bx.i=(List.range n).reverse/\J q W')∨∃q:List (Bx w B rs),Jx q W'):=by
 have hdd:=Xy;have hk0:Kb B Bt w W:=Kb.below hW;have HK0:=hid hk0;have hn:n<=9223372036854775807:=by have:=h.2.1;unfold maxLen at this;omega
 have HR:=hid h.2.2;have HNl:Hid (n=rs.length):=h.1;have cb:W.cell? ⟨Bt,0,none⟩=some (.slice so n cap):=Boxed.cell (show W.heap[Bt]? =_ from hk0.2.2 _ hb);have HBx:=hid hb;have HY:=hid hY;have HJ:=hid hJ;clear hk0 h hW hY hJ hb;refine callsIn_of_wp func235 rfl trivial ?_ rfl;simp only[ntmps235,List.size_toArray,List.length_cons,List.length_nil,Nat.reduceAdd,Nat.reduceSub,Array.replicate_succ,Array.replicate_zero,List.push_toArray,List.append_toArray,List.nil_append,List.cons_append]
 gi_wp2
 clear cb
 gi_loopw [3] (fun i wr=>∃r:Nat,i=.int .i64 ((r:Int)-1)/\r<=n/\Hid (∃q:List (Bx w B rs),q.map Bx.i=((List.range n).drop r).reverse/\J q wr)/\Hid (Kb B Bt w wr)) (fun i _=>(intOf i+1).toNat)
 case atStart=>exact⟨n,rfl,Nat.le_refl _,hid ⟨[],by simp,HJ.out⟩,HK0⟩
 case round=>
  obtain⟨r,rfl,hr,HJr,HKr⟩:=hrel;cases r with
  |zero=>
   have a0:decide ((0:Int)<=((0:Nat):Int)-1)=false:=by decide
   obtain⟨q,hq,hJq⟩:=HJr.out;clear HJr
   gi_wp2
   go_end0
   exact⟨⟨_,rfl⟩,.inl ⟨q,by simpa using hq,hJq⟩⟩
  |succ r=>
   have e:((r+1:Nat):Int)-1=(r:Int):=by omega
   rw[e];clear e;have a0:decide ((0:Int)<=(r:Int))=true:=by simp
   have hrn:(r:Int)<(n:Int):=by omega
   have hw:IntKind.i64.wrap ((r:Int)-1)=(r:Int)-1:=by rw[IntKind.wrap_i64];omega
   have hrs:r<rs.length:=by rw[<-HNl.out];omega
   obtain⟨g,o,rfl,hg,k1,T1,a1,b1,c1,d1,so1,n1,cap1,p1,rt1,z0,z1,z2,z3,z4,z5,z6,z7,z8,z9⟩:=HR.out r hrs;have x0:=HKr.out.cell hg z0;have x1:=HKr.out.cell hg z1;have x2:=HKr.out.cell hg z2;have x3:=HKr.out.cell hg z3;have x4:=HKr.out.cell hg z4;have x5:=HKr.out.cell hg z5;have x6:=HKr.out.cell hg z6;have x7:=HKr.out.cell hg z7;have x8:=HKr.out.cell hg z8;have x9:=HKr.out.cell hg z9;have hgl:g<wr.heap.size:=World.block_lt_of_cell? wr _ x0;have cb:wr.cell? ⟨Bt,0,none⟩=some (.slice (some ⟨g,o,none⟩) n cap):=Boxed.cell (show wr.heap[Bt]? =_ from HKr.out.2.2 _ HBx.out);obtain⟨q,hq,hJq⟩:=HJr.out;have hql:q.length<n:=by
    have:=congrArg List.length hq;simp at this;omega
   obtain⟨fn,tmps,assign,Qg,hy,hR⟩:=HY.out.call (m-1) q ⟨r,rs[r].1,rs[r].2.1,rs[r].2.2,k1,T1,a1,b1,c1,d1,so1,n1,cap1,p1,List.getElem?_eq_getElem hrs,rt1⟩ wr hJq hql;have HRy:=hid hR;have HQ:Hid (q.map Bx.i=((List.range n).drop (r+1)).reverse):=hq;clear hR hq hJq hql HJr z0 z1 z2 z3 z4 z5 z6 z7 z8 z9;dsimp only[Bx.vs,Bx.v]at hy;have hdr:(List.range n).drop r=r::(List.range n).drop (r+1):=by
    rw[List.drop_eq_getElem_cons (by simp;omega)];simp
   have HD:=hid hdr;clear hdr
   gi_wp2
   refine⟨hdd _,HRy.out.mono ?_⟩;clear HRy hy x0 x1 x2 x3 x4 x5 x6 x7 x8 x9 cb;rintro e W4 (⟨rfl,hJ4,hk4⟩|⟨rfl,hx4⟩)
   ·gi_wp2
    go_roundw
    case rel=>exact⟨r,rfl,by omega,hid ⟨_,by rw[List.map_append,HQ.out,HD.out];simp,hJ4⟩,hid (HKr.out.trans hk4)⟩
    case measure=>simp[intOf]
   ·gi_wp2
    refine bodyPost_ret (results_none rfl _ _ _) rfl ?_;exact⟨⟨_,rfl⟩,.inr ⟨_,hx4⟩⟩
end
theorem y0Q{w:World}{B Bt:Nat}{rs:List Rr}(n cap:Nat)(so:Option Addr)(m:Nat)(h:Qv w B so n rs)(hb:Boxed w Bt 22 (.slice so n cap)):
  SeqStopsK Fence.wide m prog 235 #[.pointer (some ⟨Bt,0,none⟩)] (fun x:Bx w B rs=>x.vs) (Kb B Bt) (fun ys=>ys.map Bx.i=(List.range n).reverse) (fun _=>True) n w:=by
 intro l J Jx W hW hJ hJx hY h0;have yl:Yb w B Bt rs l n J Jx:=⟨fun m' pre x W1 h hl=>by
  refine YieldAt.mono (Py rfl m' (hY pre x W1 h hl)) fun e' W' hh=> ?_
  rcases hh with⟨h1,h2,h3⟩|⟨h1,h2⟩
  ·exact .inl ⟨h1,h2,h3⟩
  ·exact .inr ⟨h1,h2⟩⟩
 refine(y0P n cap yl so m W h hb hW h0).mono fun e W' h=> ?_
 refine⟨h.1,?_⟩;rcases h.2 with h|⟨q,h⟩
 ·exact .inl h
 ·exact .inr ⟨q,trivial,h⟩
theorem y0R(m:Nat)(so:Option Addr)(n cap:Nat)(w:World):CallsIn Fence.wide m prog 200 #[.slice so n cap] w fun e w'=>e=.returned (.func (.func 235) #[] #[.pointer (some ⟨w.heap.size,0,none⟩)])/\w'=w.alloc (.cells #[.slice so n cap] 22):=by
 refine callsIn_of_wp func200 rfl trivial ?_ rfl;simp only[ntmps200,List.size_toArray,List.length_cons,List.length_nil,Nat.reduceAdd,Nat.reduceSub,Array.replicate_succ,Array.replicate_zero,List.push_toArray,List.append_toArray,List.nil_append,List.cons_append]
 gi_wp2
 go_ret;exact⟨rfl,rfl⟩
end
open Go.RowKit Go.Shelf Go.Maps
attribute [local go_sem] Oper.semAt_some
theorem y0S(n:Int)(w:World):(Instr.makeMap 277 (some (.int .i64 n))).run prog w=.ok (.map (some w.heap.size)) (w.alloc (.map #[] 0)):=by kernel_rfl
theorem y0T(x y:Ot)(w:World):(Op.equalIn 10000 199 (ov x) (ov y)).run prog w=.ok (decide (x=y)) w:=by
 obtain⟨a,b,c⟩:=x;obtain⟨d,e,f⟩:=y;cases a<;>cases b<;>cases c<;>cases d<;>cases e<;>cases f<;>kernel_rfl
structure Kl (w:World) (M n cap:Nat) (so:Option Addr) (W:World):Prop where
 be:Below w.heap.size w W
 g:W.heap[w.heap.size]? =some (.cells #[.slice so n cap] 24)
 b:W.heap[M+1]? =some (.cells #[.map (some M)] 277)
theorem Kl.lt{w W:World}{M n cap:Nat}{so:Option Addr}(h:Kl w M n cap so W):M+1<W.heap.size:=Qz h.b
theorem Kl.below{w W W':World}{M n cap S:Nat}{so:Option Addr}(h:Kl w M n cap so W)(hb:Below S W W')(h1:w.heap.size<S)(h2:M+1<S):Kl w M n cap so W':=
 ⟨h.be.trans (hb.mono (by omega)),(hb.block _ h1).trans h.g,(hb.block _ h2).trans h.b⟩
theorem Kl.grown{w W W':World}{M n cap r:Nat}{so:Option Addr}(h:Kl w M n cap so W)(hg:W.grownBy W' (some r))(h1:w.heap.size<r)(h2:r≠M+1):Kl w M n cap so W':=
 ⟨h.be.grown hg h.be.size (fun g e=>by have:=Option.some.inj e;omega),(hg.block _ (Qz h.g) (fun e=>by have:=Option.some.inj e;omega)).trans h.g,(hg.block _ (Qz h.b) (fun e=>h2 (Option.some.inj e).symm)).trans h.b⟩
theorem Dk.nm{base:Nat}{w w':World}{B n:Nat}{K:ByteArray->Ot}(h:Dk base w w')(hp:Nm w B n K):Nm w' B n K:=by
 obtain⟨D,⟨es,ck,h1,h2,h3,h4⟩,h5⟩:=hp;exact⟨D,⟨es,ck,h.2 B _ h1 (fun l e=>by cases e),h2,h3,h4⟩,h5⟩
theorem Nm.obj{W:World}{B n:Nat}{K:ByteArray->Ot}(h:Nm W B n K):∃es ck,W.heap[B]? =some (.map es ck):=by
 obtain⟨D,⟨es,ck,h1,_⟩,_⟩:=h;exact⟨es,ck,h1⟩
def LsP(rs:List Rr)(w:World)(e:Ending)(w':World):Prop:=∃M nn m,e=.returned (.map (some M))/\w.heap.size<=M/\Nm w' M nn (itr rs m)/\Yk (itr rs m) rs/\Below w.heap.size w w'
def LsI(rs:List Rr)(w:World)(M n cap:Nat)(so:Option Addr)(k ib:Nat)(b:Bool)(ds:List Deferred)(W:World):Prop:=∃nn m,Nm W M nn (itr rs m)/\Kv (itr rs m) rs/\nn+lck (itr rs m) rs<=3*rs.length/\Kl w M n cap so W/\W.heap[ib]? =some (.cells #[.bool b] 4)/\M+1<ib/\(b=false->Yk (itr rs m) rs)/\Mks w.heap.size W.heap.size ds W/\k=(if b then lck (itr rs m) rs+1 else 0)
def LsJ(rs:List Rr)(w w4:World)(M n cap:Nat)(so:Option Addr)(K0:ByteArray->Ot)(ib:Nat)(ds:List Deferred)(l:List Rr)(W:World):Prop:=∃K nn b,Nm W M nn K/\Rnd rs K0 K l b nn/\W.heap[ib]? =some (.cells #[.bool b] 4)/\Kl w M n cap so W/\Mks w.heap.size w4.heap.size ds W/\w4.heap.size<=W.heap.size
theorem LsJ.below{rs:List Rr}{w w4 W W':World}{M n cap ib:Nat}{so:Option Addr}{K0:ByteArray->Ot}{ds:List Deferred}{l:List Rr}(h:LsJ rs w w4 M n cap so K0 ib ds l W)(hb:Below w4.heap.size W W')(hM:M+1<ib)(hwM:w.heap.size<M)(hib:ib<w4.heap.size):LsJ rs w w4 M n cap so K0 ib ds l W':=by
 obtain⟨K,nn,b,h1,h2,h3,h4,h5,h6⟩:=h;exact⟨K,nn,b,h1.below hb (by omega),h2,(hb.block _ hib).trans h3,h4.below hb (by omega) (by omega),h5.below hb,Nat.le_trans h6 hb.size⟩
theorem y0U(so:Option Addr)(n cap:Nat)(rs:List Rr)(w:World)(h:Qv w w.heap.size so n rs)(HZ:Hid (RgZ rs))(HO:Hid (∀x∈rs,okT x.2.1=true))(HU:Hid (∀x∈rs,∀y∈rs,y.1=x.1->y=x))(h64:rs.length<=64)(m:Nat):
  CallsIn Fence.wide (m+5) prog 168 #[.agg #[.slice so n cap]] w (LsP rs w):=by
 have hdd:=Xy;have hmm:=y0S;obtain⟨M,hM⟩:∃M,M=w.heap.size+1:=⟨_,rfl⟩;obtain⟨W0,hW0⟩:∃W0,W0=(((w.alloc (.cells #[.slice so n cap] 24)).alloc (.map #[] 0)).alloc (.cells #[.map (some M)] 277)).alloc (.cells #[.bool true] 4):=⟨_,rfl⟩;have HB0:Hid (Below w.heap.size w W0):=by rw[hW0];exact((((Below.refl _ w).alloc L0q _).alloc (by simp) _).alloc (by simp;omega) _).alloc (by simp;omega) _
 have HG0:Hid (W0.heap[w.heap.size]? =some (.cells #[.slice so n cap] 24)):=by
  rw[hW0];exact(Below.heap_alloc _ _ _ (by simp;omega)).trans ((Below.heap_alloc _ _ _ (by simp;omega)).trans ((Below.heap_alloc _ _ _ (by simp)).trans (Qx w _ rfl)))
 have HN0:Hid (Nm W0 M 0 z0O):=by
  rw[hW0,hM];have h1:=Nm.made (w.alloc (.cells #[.slice so n cap] 24));rw[World.size_alloc]at h1;exact(h1.kept (World.grownBy_alloc _ _ none) (by simp)).kept (World.grownBy_alloc _ _ none) (by simp)
 have HK0:Hid (W0.heap[M+1]? =some (.cells #[.map (some M)] 277)):=by
  rw[hW0,hM];exact(Below.heap_alloc _ _ _ (by simp)).trans (Qx _ _ (by simp))
 have HI0:Hid (W0.heap[M+1+1]? =some (.cells #[.bool true] 4)):=by
  rw[hW0,hM];exact Qx _ _ (by simp)
 have hn6:n<=9223372036854775807:=by have:=h.2.1;unfold maxLen at this;omega
 have HR:=hid h;have HNl:Hid (n=rs.length):=h.1;have hwM:w.heap.size<M:=by omega
 clear h;refine callsIn_of_wp_marks func168 rfl trivial ?_ rfl;simp only[ntmps168,List.size_toArray,List.length_cons,List.length_nil,Nat.reduceAdd,Nat.reduceSub,Array.replicate_succ,Array.replicate_zero,List.push_toArray,List.append_toArray,List.nil_append,List.cons_append]
 gi_wp2
 rw[<-hM,<-hW0];clear hW0 hmm;have HM:=hid hM;clear hM;refine y0M (fun k a' w'=>∃(ib:Nat) (b:Bool) (v12 v13 v14 v15 v32:Value) (ds:List Deferred),a'={tmps:=#[.agg #[.slice so n cap],.pointer (some ⟨w.heap.size,0,none⟩),.map none,.pointer (some ⟨M+1,0,none⟩),.pointer (some ⟨ib,0,none⟩),undef,undef,undef,.pointer (some ⟨w.heap.size,0,none⟩),.slice so n cap,.int .i64 n,.map (some M),v12,v13,v14,v15,undef,undef,undef,undef,undef,undef,undef,undef,undef,undef,undef,undef,undef,undef,undef,undef,v32,undef],defers:=ds}/\Hid (LsI rs w M n cap so k ib b ds w')) _ ⟨M+1+1,true,undef,undef,undef,undef,undef,[],rfl,hid ⟨0,0,HN0.out,y0N rs,by show 0+lck z0O rs<=_;rw[z3z];omega,⟨HB0.out,HG0.out,HK0.out⟩,HI0.out,by omega,(fun h=>by cases h),trivial,rfl⟩⟩ ?_;clear HB0 HG0 HN0 HK0 HI0;rintro k a' w1 ⟨ib,b,v12,v13,v14,v15,v32,ds,rfl,HI⟩;obtain⟨nn,mm,hNm,hInv,hCnt,hKl,hIb,hib,hFx,hMk,hk⟩:=HI.out;clear HI;obtain⟨i0,f0⟩:=Qk hIb;obtain⟨g0,_⟩:=Qk hKl.g;obtain⟨b0,_⟩:=Qk hKl.b;have li:=Qz hIb;have lg:=Qz hKl.g;have lb:=Qz hKl.b;cases b with
 |false=>
  have HNm:=hid hNm;have HFx:=hid (hFx rfl);have HMk:=hid hMk;have HKl:=hid hKl;clear hNm hInv hCnt hKl hIb hFx hMk hk
  gi_wp2
  refine Ez ds w1.heap.size _ HMk.out fun w' hk=> ?_
  exact⟨.map (some M),by simp[results,Tryz.f168,go_sem],M,nn,mm,rfl,by omega,hk.nm HNm.out,HFx.out,HKl.out.be.trans hk.1⟩
 |true=>
  obtain⟨w3,hw3⟩:∃w3,w3=w1.setCell ⟨ib,0,none⟩ (.bool false):=⟨_,rfl⟩;have hg3:w1.grownBy w3 (some ib):=by rw[hw3];exact grownBy_setCell' _ _ _
  have hs3:w3.heap.size=w1.heap.size:=by rw[hw3];simp
  have hI3:w3.heap[ib]? =some (.cells #[.bool false] 4):=by rw[hw3];exact Qb hIb 0 _
  have hKl3:=hKl.grown hg3 (by omega) (by omega);have hNm3:=hNm.kept hg3 (fun e=>by have:=Option.some.inj e;omega);have hMk3:Mks w.heap.size w1.heap.size ds w3:=hMk.kept fun D hD e=>(hg3.block D hD (fun e'=>by have:=Option.some.inj e';subst this;rw[hIb]at e;cases e)).trans e
  obtain⟨g3,_⟩:=Qk hKl3.g;have lg3:=Qz hKl3.g;have HW3:=hid hw3;have HIb:Hid (b0=b0):=rfl;have HKl3:=hid hKl3;have HNm3:=hid hNm3;have HMk3:=hid hMk3;have HI3:=hid hI3;have HInv:=hid hInv;have HCnt:Hid (nn+lck (itr rs mm) rs<=3*rs.length):=hCnt;have HKk:Hid (k=lck (itr rs mm) rs+1):=hk;have hle3:w1.heap.size<=w3.heap.size:=Nat.le_of_eq hs3.symm;have HS3:=hid hs3;clear hw3 hg3 hKl3 hNm3 hMk3 hI3 hInv hCnt hk hFx hMk hNm hKl hIb HIb hs3
  gi_wp2_with (first
   |(rw[<-HW3.out];refine⟨trivial,?_⟩;gi_at_call 200;refine(y0R _ so n cap _).mono ?_;rintro e w4 ⟨rfl,rfl⟩))
  clear HW3 g3 lg3 i0 f0 g0 b0;obtain⟨w4,hw4⟩:∃w4,w4=w3.alloc (.cells #[.slice so n cap] 22):=⟨_,rfl⟩;have hb34:Below w3.heap.size w3 w4:=by rw[hw4];exact(Below.refl _ w3).alloc L0q _
  have hs4:w4.heap.size=w3.heap.size+1:=by rw[hw4];simp
  have hBx:Boxed w4 w3.heap.size 22 (.slice so n cap):=by rw[hw4];exact Qx w3 _ rfl
  rw[<-hw4];clear hw4;have HNm4:=hid (HNm3.out.below hb34 (by omega));have HKl4:=hid (HKl3.out.below hb34 (by omega) (by omega));have HI4:=hid ((hb34.block _ (Qz HI3.out)).trans HI3.out);have HMk4:Hid (Mks w.heap.size w4.heap.size ds w4):=(HMk3.out.below (hb34.mono hle3)).mono (by omega);have hR4:Qv w4 w.heap.size so n rs:=HR.out.below HKl4.out.be;have hib4:ib<w4.heap.size:=by omega
  have hlt4:w.heap.size<w4.heap.size:=by omega
  clear HNm3 HKl3 HI3 HMk3 hb34;refine wpIn_rangeFunc_ownH rfl (by omega) (gf:=235) (lb:=#[.pointer (some ⟨w3.heap.size,0,none⟩)]) rfl trivial (enters_of func235 (by kernel_rfl) rfl)
   (y0Q (B:=w.heap.size) n cap so _ hR4 hBx) Kb.trans (fun W' l o o' h1 h2 h3 h4=>Kb.grown (grownBy_putObj' W' l o') (fun r e=>by have:=Option.some.inj e;omega)) B0q (fun _=>rfl)
   (fun pre W=>LsJ rs w w4 M n cap so (itr rs mm) ib ds (pre.map Bx.r) W)
   (fun c pre W=>False)
   ?own ?ownx ⟨itr rs mm,nn,false,HNm4.out,Rnd.start HInv.out HCnt.out,HI4.out,HKl4.out,HMk4.out,Nat.le_refl _⟩
   (fun x a' W=>∃b,a'={tmps:=#[.agg #[.slice so n cap],.pointer (some ⟨w.heap.size,0,none⟩),.map none,.pointer (some ⟨M+1,0,none⟩),.pointer (some ⟨ib,0,none⟩),undef,.pointer (some ⟨b,0,none⟩),undef,.pointer (some ⟨w.heap.size,0,none⟩),.slice so n cap,.int .i64 n,.map (some M),.bool true,.pointer (some ⟨w.heap.size,0,none⟩),.slice so n cap,.func (.func 235) #[] #[.pointer (some ⟨w3.heap.size,0,none⟩)],.int .i64 (x.i:Int),x.v,undef,undef,undef,undef,undef,undef,undef,undef,undef,undef,undef,undef,undef,undef,v32,undef],defers:=[]}/\W.heap[b]? =some (.cells #[.string x.N,.int .i64 x.k,.string x.T,.int .u64 x.a,.int .u64 x.b,.int .u64 x.c,.int .u64 x.d,.slice x.so x.n x.cap,.int .i64 x.p,.int .i64 x.q] 73))
   ?ownA ?assign ?Qg ?done ?stop
  case own=>
   intro pre X Y row h hg hr;have hB:Below w4.heap.size X Y:=(Below.refl _ X).grown hg h.choose_spec.choose_spec.choose_spec.2.2.2.2.2 (fun k e=>(hr k e).1);exact h.below hB hib hwM hib4
  case ownx=>exact fun _ _ _ _ _ h=>h.elim
  case ownA=>
   rintro x a' _ X Y row ⟨b,h1,h2⟩ hg hr;exact⟨b,h1,Rj h2 hg (fun r e=>(hr r e).2)⟩
  case assign=>
   rintro l pre x W K hJ hK;have hB:Below W.heap.size W (W.alloc (.cells #[.string x.N,.int .i64 x.k,.string x.T,.int .u64 x.a,.int .u64 x.b,.int .u64 x.c,.int .u64 x.d,.slice x.so x.n x.cap,.int .i64 x.p,.int .i64 x.q] 73)):=(Below.refl _ W).alloc L0q _;have HK:=hid (hK {tmps:=#[.agg #[.slice so n cap],.pointer (some ⟨w.heap.size,0,none⟩),.map none,.pointer (some ⟨M+1,0,none⟩),.pointer (some ⟨ib,0,none⟩),undef,.pointer (some ⟨W.heap.size,0,none⟩),undef,.pointer (some ⟨w.heap.size,0,none⟩),.slice so n cap,.int .i64 n,.map (some M),.bool true,.pointer (some ⟨w.heap.size,0,none⟩),.slice so n cap,.func (.func 235) #[] #[.pointer (some ⟨w3.heap.size,0,none⟩)],.int .i64 (x.i:Int),x.v,undef,undef,undef,undef,undef,undef,undef,undef,undef,undef,undef,undef,undef,undef,v32,undef],defers:=[]} (W.alloc (.cells #[.string x.N,.int .i64 x.k,.string x.T,.int .u64 x.a,.int .u64 x.b,.int .u64 x.c,.int .u64 x.d,.slice x.so x.n x.cap,.int .i64 x.p,.int .i64 x.q] 73)) (KeepsFrom.of_grownBy (World.grownBy_alloc W _ none) (fun j e=>by cases e)) (Kb.alloc W _) (hJ.below (hB.mono hJ.choose_spec.choose_spec.choose_spec.2.2.2.2.2) hib hwM hib4) ⟨W.heap.size,rfl,Qx W _ rfl⟩);clear hK hJ hB
   gi_wp2
   exact HK.out
  case Qg=>
   rintro l pre x a' W hl ⟨r,hr⟩ hJ ⟨bb,rfl,hbb⟩ hlt;obtain⟨K,nk,bk,jN,jR,jI,jK,jM,jS⟩:=hJ;have hx:x.r∈rs:=List.mem_of_getElem? x.e;have hzx:=HZ.out _ hx;have hrtW:Qj W w.heap.size x.t (r8 x.k x.T x.a x.b x.c x.d x.so x.n x.cap x.p):=Qj.kept (fun g o u hg hu=>(jK.be.cell (p:=⟨g,o,none⟩) hg).trans ((HKl4.out.be.cell (p:=⟨g,o,none⟩) hg).symm.trans hu)) _ _ x.rt;obtain⟨⟨y1,y2,y3⟩,hy⟩:∃y,y=ofT K x.t:=⟨_,rfl⟩;have HS:=hid (z3x M nk K x.t _ W w.heap.size hrtW (by omega) hzx.2 (HO.out _ hx) jN);rw[<-hy]at HS;dsimp only[r8,ov]at HS;obtain⟨⟨q1,q2,q3⟩,hq⟩:∃q,q=K x.N:=⟨_,rfl⟩;have hNz:x.N.size<=maxLen:=hzx.1;obtain⟨⟨c0,c1,c2,c3,c4,c5,c6,c7,c8,c9⟩,_⟩:=Gg hbb;obtain⟨k0,_⟩:=Qk jK.b;have lbb:=Qz hbb;have lk:=Qz jK.b;have HX:Hid (x.r∈rs):=hx;have HY:Hid ((y1,y2,y3)=ofT K x.t):=hy;have HQ:Hid ((q1,q2,q3)=K x.N):=hq;have HJN:=hid jN;have HJR:=hid jR;have HJI:=hid jI;have HJK:=hid jK;have HJM:=hid jM;have HBB:=hid hbb;have hcnt:nk<maxLen:=by have:=jR.cnt;unfold maxLen;omega
   have heq:=y0T (y1,y2,y3) (q1,q2,q3);dsimp only[ov]at heq;clear hx hzx hrtW hy hq jN jR jI jK jM hbb;by_cases hyq:(y1,y2,y3)=(q1,q2,q3)
   ·rw[decide_eq_true hyq]at heq
    have HYQ:=hid hyq;clear hyq
    gi_wp2_with (first
     |(refine⟨trivial,?_⟩;gi_at_call 201;refine((callsIn_wide.2 HS.out).inRound l).mono ?_;rintro e w5 ⟨rfl,HB5⟩;have HB6:=hid (HB5.out.alloc HB5.out.size (.cells #[.bool y1,.bool y2,.bool y3] 199));obtain⟨⟨u0,u1,u2⟩,_⟩:=Zz (Qx w5 (.cells #[.bool y1,.bool y2,.bool y3] 199) rfl);have hL:=(HJN.out.below HB6.out (by omega)).look hNz;rw[<-HQ.out]at hL;dsimp only[ov]at hL;obtain⟨k6,_⟩:=Qk ((HB6.out.block _ lk).trans HJK.out.b);obtain⟨⟨r0,-,-,-,-,-,-,-,-,-⟩,-⟩:=Gg ((HB6.out.block _ lbb).trans HBB.out);clear HB5))
    refine⟨KeepsFrom.of_grownBy (G.below (R:=0) HB6.out) (fun j e=>by have:=Option.some.inj e;omega),Kb.below HB6.out,?_⟩;have hb6:=HB6.out.mono jS;refine LsJ.below (W:=W) ?_ hb6 hib hwM hib4;refine⟨K,nk,bk,HJN.out,?_,HJI.out,HJK.out,HJM.out,jS⟩;rw[List.map_append];exact HJR.out.same (x:=x.r) (by rw[show ofT K x.r.2.1=_ from HY.out.symm,show K x.r.1=_ from HQ.out.symm];exact HYQ.out)
   ·rw[decide_eq_false hyq]at heq
    have HYQ:=hid hyq;clear hyq
    gi_wp2_with (first
     |(refine⟨trivial,?_⟩;gi_at_call 201;refine((callsIn_wide.2 HS.out).inRound l).mono ?_;rintro e w5 ⟨rfl,HB5⟩;have HB6:=hid (HB5.out.alloc HB5.out.size (.cells #[.bool y1,.bool y2,.bool y3] 199));obtain⟨⟨u0,u1,u2⟩,_⟩:=Zz (Qx w5 (.cells #[.bool y1,.bool y2,.bool y3] 199) rfl);have HN6:=hid (HJN.out.below HB6.out (by omega));have hL:=HN6.out.look hNz;rw[<-HQ.out]at hL;dsimp only[ov]at hL;obtain⟨k6,_⟩:=Qk ((HB6.out.block _ lk).trans HJK.out.b);obtain⟨⟨r0,-,-,-,-,-,-,-,-,-⟩,-⟩:=Gg ((HB6.out.block _ lbb).trans HBB.out);obtain⟨w7,h7,hN7,hg7⟩:=HN6.out.put hNz (y1,y2,y3) hcnt;dsimp only[ov]at h7;have hI7:=(hg7.block ib (by have:=HB6.out.size;omega) (fun e=>by have:=Option.some.inj e;omega)).trans ((HB6.out.block _ (by omega)).trans HJI.out);obtain⟨i7,f7⟩:=Qk hI7;have li7:=Qz hI7;have HN7:=hid hN7;have HG7:=hid hg7;have HI7:=hid hI7;clear HB5 hN7 hg7 hI7))
    have hs3:=HS3.out;have hb6:=HB6.out;have hg7:=HG7.out;have hg8:w7.grownBy (w7.setCell ⟨ib,0,none⟩ (.bool true)) (some ib):=grownBy_setCell' _ _ _;refine⟨((KeepsFrom.of_grownBy (G.below (R:=0) hb6) (fun j e=>by have:=Option.some.inj e;omega)).trans (KeepsFrom.of_grownBy hg7 (fun j e=>by have:=Option.some.inj e;omega))).trans (KeepsFrom.of_grownBy hg8 (fun j e=>by have:=Option.some.inj e;omega)),((Kb.below hb6).trans (Kb.grown hg7 (fun r e=>by have:=Option.some.inj e;omega))).trans (Kb.grown hg8 (fun r e=>by have:=Option.some.inj e;omega)),?_⟩;refine⟨_,_,true,HN7.out.kept hg8 (fun e=>by have:=Option.some.inj e;omega),?_,Qb HI7.out 0 _,((HJK.out.below hb6 (by omega) (by omega)).grown hg7 hwM (by omega)).grown hg8 (by omega) (by omega),?_,?_⟩
    ·rw[List.map_append,HY.out]
     exact HJR.out.new (x:=x.r) HX.out (HU.out _ HX.out) (by rw[show ofT K x.r.2.1=_ from HY.out.symm,show K x.r.1=_ from HQ.out.symm];exact HYQ.out)
    ·refine HJM.out.kept fun D hD e=> ?_
     obtain⟨es,ck,hmap⟩:=HN6.out.obj;have e6:=(hb6.block D (by omega)).trans e;have e7:=(hg7.block D (Qz e6) (fun e'=>by have:=Option.some.inj e';subst this;rw[hmap]at e6;cases e6)).trans e6;exact(hg8.block D (Qz e7) (fun e'=>by have:=Option.some.inj e';subst this;rw[HI7.out]at e7;cases e7)).trans e7
    ·have h1:=hb6.size
     have h2:=hg7.size;have h3:=hg8.size;omega
  case done=>
   rintro D xs W hD hxs ⟨K,nk,bk,jN,jR,jI,jK,jM,jS⟩ hK;rw[HNl.out]at hxs;rw[y0O Bx.i Bx.r rs xs hxs (fun x _=>x.e)]at jR;have eK:K=itr rs (mm+1):=jR.last;have hfx:bk=false->Yk K rs:=fun e=>by
    subst e;rw[jR.fix.1];exact jR.fix.2
   obtain⟨i6,_⟩:=Qk jI;have li6:=Qz jI;have HJR:=hid jR;have HJN:=hid jN;have HJK:=hid jK;have HEK:Hid (K=itr rs (mm+1)):=eK;have HFX:=hid hfx;have HMM:Hid (Mks w.heap.size W.heap.size ({target:=.collected D,args:=#[]}::ds) W):=⟨D,rfl,by omega,Qz hK,hK,jM.mono hD⟩;clear jN jR jI jK jM hK hxs hfx eK
   gi_wp2
   have hal:=(Below.refl _ W).alloc L0q (.cells #[.bool bk] 4);refine⟨if bk then lck (itr rs (mm+1)) rs+1 else 0,?_,W.heap.size,bk,_,_,_,_,_,_,rfl,hid ⟨nk,mm+1,?_,?_,?_,HJK.out.below hal (by have:=HJK.out.be.size;have:=Qz HJK.out.g;omega) HJK.out.lt,Qx W _ rfl,HJK.out.lt,?_,(HMM.out.below hal).mono hal.size,rfl⟩⟩
   ·rw[<-HEK.out,HKk.out]
    cases bk with
    |true=>have:=HJR.out.yes rfl;simp;omega
    |false=>simp
   ·rw[<-HEK.out];exact HJN.out.below hal (by have:=HJN.out.lt;omega)
   ·rw[<-HEK.out];exact HJR.out.inv
   ·rw[<-HEK.out];exact HJR.out.cnt
   ·rw[<-HEK.out];exact HFX.out
  case stop=>exact fun _ _ _ _ _ _ h=>h.elim
end Go.Proofs.YtlogolpcipiceaaGreatDoor
