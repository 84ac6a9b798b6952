/- Lemmas for the last text. Conditions: those that each names. -/
import Derived.Test.YtgnkkgcgbeianaaGreatDoorVO22ToU2
import Derived.Test.YtgnkkgcgbeianaaGreatDoorVS1ToO4
import Derived.Test.YtgnkkgcgbeianaaGreatDoorVO12ToO20
import Derived.Test.YtgnkkgcgbeianaaGreatDoorVU8
set_option linter.unusedVariables false
set_option maxRecDepth 100000
set_option maxHeartbeats 8000000
namespace Go.Proofs.YtgnkkgcgbeianaaGreatDoor
open Go.Proofs.Tryz
section
open Go.RowKit Go.Shelf
section
variable {F:Fence} {n:Nat} {P:Program} {Q:Exit->Act->World->Prop} {a:Act} {w:World}
open Classical in
theorem y3N{c:Code}(I:Nat->Act->World->Prop)(A:Nat)(U:I A a w)(V:∀k a w,I k a w->c.wpIn F n P (Exit.then (fun D w'=>∃k',k'<k/\I k' D w') Q) a w):(Code.loop c).wpIn F n P Q a w:=by
 have Y:∀(k:Nat) (a:Act) (w:World),I k a w->∃m,I m a w/\∀j,I j a w->m<=j:=by
  intro k
  induction k using Nat.strongRecOn with
  |_ k ih=>
   intro a w h;by_cases hk:∃j,j<k/\I j a w
   ·obtain⟨j,r,o⟩:=hk
    exact ih j r a w o
   ·exact⟨k,h,fun j r=>Nat.le_of_not_lt fun t=>hk ⟨j,t,r⟩⟩
 let μ:Act->World->Nat:=fun a w=>if h:∃m,I m a w/\∀j,I j a w->m<=j then Classical.choose h else 0
 have E:∀k a w,I k a w->I (μ a w) a w/\μ a w<=k:=fun k a w h=>by
  have y:=Y k a w h;have G:=Classical.choose_spec y;have e:μ a w=Classical.choose y:=dif_pos y;rw[e];exact⟨G.1,G.2 k h⟩
 refine wpIn_loop (fun a w=>∃k,I k a w) μ ⟨A,U⟩ ?_;rintro a w ⟨k,h⟩;refine Code.wpIn_mono (fun e D w' q=> ?_) (V (μ a w) a w (E k a w h).1);cases e<;>first
  |exact q
  |(obtain⟨k',t,o⟩:=q;exact⟨⟨k',o⟩,Nat.lt_of_le_of_lt (E k' _ _ o).2 t⟩)
end
theorem z5c(K:ByteArray->Ot):∀rs:List Rr,rs.reverse.foldl Ym K=swp K rs
 |[]=>rfl
 |x::r=>by rw[List.reverse_cons,List.foldl_append,z5c K r,swp];rfl
structure Rnd (rs:List Rr) (K0 K:ByteArray->Ot) (l:List Rr) (b:Bool) (n:Nat):Prop where
 k:K=l.foldl Ym K0
 inv:Kk K rs
 le:lck K rs<=lck K0 rs
 no:b=false->K=K0/\∀x∈l,ofT K0 x.2.1=K0 x.1
 yes:b=true->lck K rs<lck K0 rs
 cnt:n+lck K rs<=3*rs.length
section
variable {rs:List Rr} {K0 K:ByteArray->Ot} {l:List Rr} {b:Bool} {n:Nat}
theorem Rnd.start(h:Kk K0 rs)(o:n+lck K0 rs<=3*rs.length):Rnd rs K0 K0 [] false n:=⟨rfl,h,Nat.le_refl _,fun _=>⟨rfl,fun x hx=>by simp at hx⟩,(fun h=>by cases h),o⟩
theorem Rnd.same(h:Rnd rs K0 K l b n){x:Rr}(e:ofT K x.2.1=K x.1):Rnd rs K0 K (l++[x]) b n:=by
 refine⟨?_,h.inv,h.le,fun r=>⟨(h.no r).1,fun y o=> ?_⟩,h.yes,h.cnt⟩
 ·rw[List.foldl_append,<-h.k,List.foldl_cons,List.foldl_nil,Ym]
  exact(z4K e).symm
 ·rcases List.mem_append.1 o with o|o
  ·exact(h.no r).2 y o
  ·obtain rfl:y=x:=by simpa using o
   rw[<-(h.no r).1];exact e
theorem Rnd.new(h:Rnd rs K0 K l b n){x:Rr}(hx:x∈rs)(t:∀y∈rs,y.1=x.1->y=x)(e:ofT K x.2.1≠K x.1):Rnd rs K0 (Jp K x.1 (ofT K x.2.1)) (l++[x]) true (n+1):=by
 have A:=z4M (h.inv x hx);have o:lck (Ym K x) rs<lck K rs:=z4Q A hx (fun h=>e (by
  unfold Ym Jp at h;rw[if_pos rfl]at h;exact h.symm))
 have r:=h.le;have D:=h.cnt;refine⟨?_,y3e t hx h.inv,?_,(fun h=>by cases h),fun _=> ?_,?_⟩
 ·rw[List.foldl_append,<-h.k]
  rfl
 ·exact Nat.le_trans (Nat.le_of_lt o) r
 ·exact Nat.lt_of_lt_of_le o r
 ·show n+1+lck (Ym K x) rs<=_
  omega
theorem Rnd.last(h:Rnd rs K0 K rs.reverse b n):K=swp K0 rs:=h.k.trans (z5c K0 rs)
theorem Rnd.fix(h:Rnd rs K0 K rs.reverse false n):K=K0/\Xy K0 rs:=⟨(h.no rfl).1,fun x hx=>(h.no rfl).2 x (List.mem_reverse.2 hx)⟩
end
theorem z5d(rs:List Rr):Kk z0O rs:=fun x hx=>rfl
theorem z5e:∀rs:List Rr,lck z0O rs=3*rs.length
 |[]=>rfl
 |x::r=>by rw[lck,z5e r,List.length_cons];show 3-0+_=_;omega
theorem y3O{α β:Type}(f:β->Nat)(g:β->α)(rs:List α)(xs:List β)(h:xs.map f=(List.range rs.length).reverse)(e:∀x∈xs,rs[f x]? =some (g x)):xs.map g=rs.reverse:=by
 have o:(xs.map f).map (fun i=>rs[i]?)=xs.map (fun x=>some (g x)):=by
  rw[List.map_map];exact List.map_congr_left fun x hx=>e x hx
 have r:(List.range rs.length).map (fun i=>rs[i]?)=rs.map some:=by
  apply List.ext_getElem
  ·simp
  ·intro i o r
   simp at o;simp[o]
 rw[h,List.map_reverse,r,<-List.map_reverse]at o;have t:(xs.map g).map some=(rs.reverse).map some:=by rw[o,List.map_map];rfl
 exact(List.map_inj_right (fun x y e=>Option.some.inj e)).1 t
end
section
open Go.RowKit Go.Shelf
attribute [local go_sem] Oper.semAt_some
structure Bx (w:World) (B:Nat) (rs:List Rr) where
 i:Nat
 N:ByteArray
 t:RT
 q:Int
 k:Int
 T:ByteArray
 a:Int
 b:Int
 c:Int
 d:Int
 so:Option Addr
 n:Nat
 cap:Nat
 p:Int
 e:rs[i]? =some (N,t,q)
 rt:Qv w B t (r8 k T a b c d so n cap p)
section
variable {w:World} {B:Nat} {rs:List Rr}
@[reducible] def Bx.v (x:Bx w B rs):Value:=.agg #[.string x.N,.int .i64 x.k,.string x.T,.int .u64 x.a,.int .u64 x.b,.int .u64 x.c,.int .u64 x.d,.slice x.so x.n x.cap,.int .i64 x.p,.int .i64 x.q]
@[reducible] def Bx.vs (x:Bx w B rs):Array Value:=#[.int .i64 (x.i:Int),x.v]
def Bx.r(x:Bx w B rs):Rr:=(x.N,x.t,x.q)
end
def Kb(B Bt:Nat)(W W':World):Prop:=W.heap.size<=W'.heap.size/\(∀j,j<B->∀o,W.heap[j]? =some o->W'.heap[j]? =some o)/\∀o,W.heap[Bt]? =some o->W'.heap[Bt]? =some o
section
variable {B Bt:Nat}
theorem Kb.trans{A C D:World}(h:Kb B Bt A C)(k:Kb B Bt C D):Kb B Bt A D:=⟨Nat.le_trans h.1 k.1,fun j t o r=>k.2.1 j t o (h.2.1 j t o r),fun o r=>k.2.2 o (h.2.2 o r)⟩
theorem Kb.below{W W':World}(h:Below W.heap.size W W'):Kb B Bt W W':=⟨h.size,fun j _ o r=>(h.block j (Array.getElem?_eq_some_iff.1 r).1).trans r,fun o r=>(h.block _ (Array.getElem?_eq_some_iff.1 r).1).trans r⟩
theorem Kb.alloc(W:World)(o:Obj):Kb B Bt W (W.alloc o):=Kb.below ((Below.refl _ W).alloc L0q o)
theorem Kb.grown{W W':World}{row:Option Nat}(h:W.grownBy W' row)(y:∀r,row=some r->B<=r/\r≠Bt):Kb B Bt W W':=⟨h.size,fun j A o t=>(h.block j (Array.getElem?_eq_some_iff.1 t).1 (fun e=>by have:=(y j e.symm).1;omega)).trans t,fun o t=>(h.block Bt (Array.getElem?_eq_some_iff.1 t).1 (fun e=>(y Bt e.symm).2 rfl)).trans t⟩
theorem Kb.cell{W W':World}(h:Kb B Bt W W'){g o:Nat}{u:Value}(t:g<B)(r:W.cell? ⟨g,o,none⟩=some u):W'.cell? ⟨g,o,none⟩=some u:=by
 have hl:=World.block_lt_of_cell? W _ r;have e:W'.heap[g]? =W.heap[g]? :=(h.2.1 g t _ (Array.getElem?_eq_getElem hl)).trans (Array.getElem?_eq_getElem hl).symm;exact(World.cell?_of_block (w:=W) (a:=⟨g,o,none⟩) e).trans r
end
structure Yb (w:World) (B Bt:Nat) (rs:List Rr) (l N:Nat) (J Jx:List (Bx w B rs)->World->Prop):Prop where
 call:∀m pre (x:Bx w B rs) W,J pre W->pre.length<N->YieldAt Fence.wide m prog l x.vs W fun e W'=>
  (e=.returned (.bool true)/\J (pre++[x]) W'/\Kb B Bt W W')∨(e=.returned (.bool false)/\Jx (pre++[x]) W')
section
variable {w:World} {B Bt:Nat} {rs:List Rr} {l:Nat} {J Jx:List (Bx w B rs)->World->Prop}
theorem y3P(n G:Nat)(Z:Yb w B Bt rs l n J Jx)(I:Option Addr)(m:Nat)(W:World)(h:Qf w B I n rs)(U:Boxed w Bt 41 (.slice I n G))(hW:Below w.heap.size w W)(hJ:J [] W):
  CallsIn Fence.wide m prog 227 #[.func (.yield l) #[] #[],.pointer (some ⟨Bt,0,none⟩)] W fun e W'=>(∃v,e=.returned v)/\((∃q:List (Bx w B rs),q.map Bx.i=(List.range n).reverse/\J q W')∨∃q:List (Bx w B rs),Jx q W'):=by
 have ae:=Xm;have V:Kb B Bt w W:=Kb.below hW;have af:=hid V;have hn:n<=9223372036854775807:=by have:=h.2.1;unfold maxLen at this;omega
 have HR:=hid h.2.2;have ag:Hid (n=rs.length):=h.1;have Y:W.cell? ⟨Bt,0,none⟩=some (.slice I n G):=Boxed.cell (show W.heap[Bt]? =_ from V.2.2 _ U);have ah:=hid U;have HY:=hid Z;have HJ:=hid hJ;clear V h hW Z hJ U;refine callsIn_of_wp func227 rfl trivial ?_ rfl;simp only[ntmps227,List.size_toArray,List.length_cons,List.length_nil,Nat.reduceAdd,Nat.reduceSub,Array.replicate_succ,Array.replicate_zero,List.push_toArray,List.append_toArray,List.nil_append,List.cons_append]
 gi_wp2
 clear Y
 gi_loopw [3] (fun i wr=>∃r:Nat,i=.int .i64 ((r:Int)-1)/\r<=n/\Hid (∃q:List (Bx w B rs),q.map Bx.i=((List.range n).drop r).reverse/\J q wr)/\Hid (Kb B Bt w wr)) (fun i _=>(intOf i+1).toNat)
 case atStart=>exact⟨n,rfl,Nat.le_refl _,hid ⟨[],by simp,HJ.out⟩,af⟩
 case round=>
  obtain⟨r,rfl,hr,D,t⟩:=hrel;cases r with
  |zero=>
   have a0:decide ((0:Int)<=((0:Nat):Int)-1)=false:=by decide
   obtain⟨q,A,E⟩:=D.out;clear D
   gi_wp2
   go_end0
   exact⟨⟨_,rfl⟩,.inl ⟨q,by simpa using A,E⟩⟩
  |succ r=>
   have e:((r+1:Nat):Int)-1=(r:Int):=by omega
   rw[e];clear e;have a0:decide ((0:Int)<=(r:Int))=true:=by simp
   have ap:(r:Int)<(n:Int):=by omega
   have hw:IntKind.i64.wrap ((r:Int)-1)=(r:Int)-1:=by rw[IntKind.wrap_i64];omega
   have aa:r<rs.length:=by rw[<-ag.out];omega
   obtain⟨g,o,rfl,y,k1,T1,a1,b1,c1,d1,ai,n1,aj,p1,ak,z0,z1,z2,z3,z4,z5,z6,z7,z8,z9⟩:=HR.out r aa;have x0:=t.out.cell y z0;have x1:=t.out.cell y z1;have x2:=t.out.cell y z2;have x3:=t.out.cell y z3;have x4:=t.out.cell y z4;have x5:=t.out.cell y z5;have x6:=t.out.cell y z6;have x7:=t.out.cell y z7;have x8:=t.out.cell y z8;have x9:=t.out.cell y z9;have aq:g<wr.heap.size:=World.block_lt_of_cell? wr _ x0;have Y:wr.cell? ⟨Bt,0,none⟩=some (.slice (some ⟨g,o,none⟩) n G):=Boxed.cell (show wr.heap[Bt]? =_ from t.out.2.2 _ ah.out);obtain⟨q,A,E⟩:=D.out;have ab:q.length<n:=by
    have:=congrArg List.length A;simp at this;omega
   obtain⟨fn,ar,au,Qm,hy,hR⟩:=HY.out.call (m-1) q ⟨r,rs[r].1,rs[r].2.1,rs[r].2.2,k1,T1,a1,b1,c1,d1,ai,n1,aj,p1,List.getElem?_eq_getElem aa,ak⟩ wr E ab;have ac:=hid hR;have HQ:Hid (q.map Bx.i=((List.range n).drop (r+1)).reverse):=A;clear hR A E ab D z0 z1 z2 z3 z4 z5 z6 z7 z8 z9;dsimp only[Bx.vs,Bx.v]at hy;have ad:(List.range n).drop r=r::(List.range n).drop (r+1):=by
    rw[List.drop_eq_getElem_cons (by simp;omega)];simp
   have HD:=hid ad;clear ad
   gi_wp2
   refine⟨ae _,ac.out.mono ?_⟩;clear ac hy x0 x1 x2 x3 x4 x5 x6 x7 x8 x9 Y;rintro e W4 (⟨rfl,al,am⟩|⟨rfl,ao⟩)
   ·gi_wp2
    go_roundw
    case rel=>exact⟨r,rfl,by omega,hid ⟨_,by rw[List.map_append,HQ.out,HD.out];simp,al⟩,hid (t.out.trans am)⟩
    case measure=>simp[intOf]
   ·gi_wp2
    refine bodyPost_ret (results_none rfl _ _ _) rfl ?_;exact⟨⟨_,rfl⟩,.inr ⟨_,ao⟩⟩
end
theorem y3Q{w:World}{B Bt:Nat}{rs:List Rr}(n y:Nat)(o:Option Addr)(m:Nat)(h:Qf w B o n rs)(A:Boxed w Bt 41 (.slice o n y)):
  SeqStopsK Fence.wide m prog 227 #[.pointer (some ⟨Bt,0,none⟩)] (fun x:Bx w B rs=>x.vs) (Kb B Bt) (fun D=>D.map Bx.i=(List.range n).reverse) (fun _=>True) n w:=by
 intro l J Jx W E hJ aa G I;have U:Yb w B Bt rs l n J Jx:=⟨fun V Y x Z h hl=>by
  refine YieldAt.mono (Tp rfl V (G Y x Z h hl)) fun e' W' hh=> ?_
  rcases hh with⟨r,t,h3⟩|⟨r,t⟩
  ·exact .inl ⟨r,t,h3⟩
  ·exact .inr ⟨r,t⟩⟩
 refine(y3P n y U o m W h A E I).mono fun e W' h=> ?_
 refine⟨h.1,?_⟩;rcases h.2 with h|⟨q,h⟩
 ·exact .inl h
 ·exact .inr ⟨q,trivial,h⟩
theorem y3R(m:Nat)(h:Option Addr)(n o:Nat)(w:World):CallsIn Fence.wide m prog 190 #[.slice h n o] w fun e w'=>e=.returned (.func (.func 227) #[] #[.pointer (some ⟨w.heap.size,0,none⟩)])/\w'=w.alloc (.cells #[.slice h n o] 41):=by
 refine callsIn_of_wp func190 rfl trivial ?_ rfl;simp only[ntmps190,List.size_toArray,List.length_cons,List.length_nil,Nat.reduceAdd,Nat.reduceSub,Array.replicate_succ,Array.replicate_zero,List.push_toArray,List.append_toArray,List.nil_append,List.cons_append]
 gi_wp2
 go_ret;exact⟨rfl,rfl⟩
end
open Go.RowKit Go.Shelf Go.Maps
attribute [local go_sem] Oper.semAt_some
theorem y3S(n:Int)(w:World):(Instr.makeMap 247 (some (.int .i64 n))).run prog w=.ok (.map (some w.heap.size)) (w.alloc (.map #[] 0)):=by kernel_rfl
theorem y3T(x y:Ot)(w:World):(Op.equalIn 10000 210 (ov x) (ov y)).run prog w=.ok (decide (x=y)) w:=by
 obtain⟨a,b,c⟩:=x;obtain⟨d,e,f⟩:=y;cases a<;>cases b<;>cases c<;>cases d<;>cases e<;>cases f<;>kernel_rfl
structure Kl (w:World) (M n cap:Nat) (so:Option Addr) (W:World):Prop where
 be:Below w.heap.size w W
 g:W.heap[w.heap.size]? =some (.cells #[.slice so n cap] 43)
 b:W.heap[M+1]? =some (.cells #[.map (some M)] 247)
theorem Kl.lt{w W:World}{M n o:Nat}{r:Option Addr}(h:Kl w M n o r W):M+1<W.heap.size:=Qq h.b
theorem Kl.below{w W W':World}{M n r S:Nat}{t:Option Addr}(h:Kl w M n r t W)(o:Below S W W')(y:w.heap.size<S)(A:M+1<S):Kl w M n r t W':=
 ⟨h.be.trans (o.mono (by omega)),(o.block _ y).trans h.g,(o.block _ A).trans h.b⟩
theorem Kl.grown{w W W':World}{M n t r:Nat}{y:Option Addr}(h:Kl w M n t y W)(o:W.grownBy W' (some r))(D:w.heap.size<r)(A:r≠M+1):Kl w M n t y W':=
 ⟨h.be.grown o h.be.size (fun g e=>by have:=Option.some.inj e;omega),(o.block _ (Qq h.g) (fun e=>by have:=Option.some.inj e;omega)).trans h.g,(o.block _ (Qq h.b) (fun e=>A (Option.some.inj e).symm)).trans h.b⟩
theorem Dk.nm{base:Nat}{w w':World}{B n:Nat}{K:ByteArray->Ot}(h:Dk base w w')(o:Nm w B n K):Nm w' B n K:=by
 obtain⟨D,⟨r,t,y,A,E,G⟩,I⟩:=o;exact⟨D,⟨r,t,h.2 B _ y (fun l e=>by cases e),A,E,G⟩,I⟩
theorem Nm.obj{W:World}{B n:Nat}{K:ByteArray->Ot}(h:Nm W B n K):∃o r,W.heap[B]? =some (.map o r):=by
 obtain⟨D,⟨o,r,t,_⟩,_⟩:=h;exact⟨o,r,t⟩
def LsP(rs:List Rr)(w:World)(e:Ending)(w':World):Prop:=∃M nn m,e=.returned (.map (some M))/\w.heap.size<=M/\Nm w' M nn (itr rs m)/\Xy (itr rs m) rs/\Below w.heap.size w w'
def LsI(rs:List Rr)(w:World)(M n cap:Nat)(so:Option Addr)(k ib:Nat)(b:Bool)(ds:List Deferred)(W:World):Prop:=∃nn m,Nm W M nn (itr rs m)/\Kk (itr rs m) rs/\nn+lck (itr rs m) rs<=3*rs.length/\Kl w M n cap so W/\W.heap[ib]? =some (.cells #[.bool b] 4)/\M+1<ib/\(b=false->Xy (itr rs m) rs)/\Mks w.heap.size W.heap.size ds W/\k=(if b then lck (itr rs m) rs+1 else 0)
def LsJ(rs:List Rr)(w w4:World)(M n cap:Nat)(so:Option Addr)(K0:ByteArray->Ot)(ib:Nat)(ds:List Deferred)(l:List Rr)(W:World):Prop:=∃K nn b,Nm W M nn K/\Rnd rs K0 K l b nn/\W.heap[ib]? =some (.cells #[.bool b] 4)/\Kl w M n cap so W/\Mks w.heap.size w4.heap.size ds W/\w4.heap.size<=W.heap.size
theorem LsJ.below{rs:List Rr}{w r W W':World}{M n y t:Nat}{A:Option Addr}{K0:ByteArray->Ot}{D:List Deferred}{l:List Rr}(h:LsJ rs w r M n y A K0 t D l W)(o:Below r.heap.size W W')(hM:M+1<t)(aa:w.heap.size<M)(E:t<r.heap.size):LsJ rs w r M n y A K0 t D l W':=by
 obtain⟨K,G,b,I,U,V,Y,Z,h6⟩:=h;exact⟨K,G,b,I.below o (by omega),U,(o.block _ E).trans V,Y.below o (by omega) (by omega),Z.below o,Nat.le_trans h6 o.size⟩
theorem y3U(A:Option Addr)(n E:Nat)(rs:List Rr)(w:World)(h:Qf w w.heap.size A n rs)(HZ:Hid (RgZ rs))(HO:Hid (∀x∈rs,okT x.2.1=true))(HU:Hid (∀x∈rs,∀y∈rs,y.1=x.1->y=x))(bG:rs.length<=64)(m:Nat):
  CallsIn Fence.wide (m+5) prog 153 #[.agg #[.slice A n E]] w (LsP rs w):=by
 have bH:=Xm;have bf:=y3S;obtain⟨M,hM⟩:∃M,M=w.heap.size+1:=⟨_,rfl⟩;obtain⟨W0,ad⟩:∃W0,W0=(((w.alloc (.cells #[.slice A n E] 43)).alloc (.map #[] 0)).alloc (.cells #[.map (some M)] 247)).alloc (.cells #[.bool true] 4):=⟨_,rfl⟩;have aP:Hid (Below w.heap.size w W0):=by rw[ad];exact((((Below.refl _ w).alloc L0q _).alloc (by simp) _).alloc (by simp;omega) _).alloc (by simp;omega) _
 have aQ:Hid (W0.heap[w.heap.size]? =some (.cells #[.slice A n E] 43)):=by
  rw[ad];exact(Below.heap_alloc _ _ _ (by simp;omega)).trans ((Below.heap_alloc _ _ _ (by simp;omega)).trans ((Below.heap_alloc _ _ _ (by simp)).trans (Qx w _ rfl)))
 have aR:Hid (Nm W0 M 0 z0O):=by
  rw[ad,hM];have h1:=Nm.made (w.alloc (.cells #[.slice A n E] 43));rw[World.size_alloc]at h1;exact(h1.kept (World.grownBy_alloc _ _ none) (by simp)).kept (World.grownBy_alloc _ _ none) (by simp)
 have aS:Hid (W0.heap[M+1]? =some (.cells #[.map (some M)] 247)):=by
  rw[ad,hM];exact(Below.heap_alloc _ _ _ (by simp)).trans (Qx _ _ (by simp))
 have aT:Hid (W0.heap[M+1+1]? =some (.cells #[.bool true] 4)):=by
  rw[ad,hM];exact Qx _ _ (by simp)
 have bI:n<=9223372036854775807:=by have:=h.2.1;unfold maxLen at this;omega
 have HR:=hid h;have bg:Hid (n=rs.length):=h.1;have aq:w.heap.size<M:=by omega
 clear h;refine callsIn_of_wp_marks func153 rfl trivial ?_ rfl;simp only[ntmps153,List.size_toArray,List.length_cons,List.length_nil,Nat.reduceAdd,Nat.reduceSub,Array.replicate_succ,Array.replicate_zero,List.push_toArray,List.append_toArray,List.nil_append,List.cons_append]
 gi_wp2
 rw[<-hM,<-ad];clear ad bf;have HM:=hid hM;clear hM;refine y3N (fun k a' w'=>∃(U:Nat) (b:Bool) (aU aV aW aX ar:Value) (ds:List Deferred),a'={tmps:=#[.agg #[.slice A n E],.pointer (some ⟨w.heap.size,0,none⟩),.map none,.pointer (some ⟨M+1,0,none⟩),.pointer (some ⟨U,0,none⟩),undef,undef,undef,.pointer (some ⟨w.heap.size,0,none⟩),.slice A n E,.int .i64 n,.map (some M),aU,aV,aW,aX,undef,undef,undef,undef,undef,undef,undef,undef,undef,undef,undef,undef,undef,undef,undef,undef,ar,undef],defers:=ds}/\Hid (LsI rs w M n E A k U b ds w')) _ ⟨M+1+1,true,undef,undef,undef,undef,undef,[],rfl,hid ⟨0,0,aR.out,z5d rs,by show 0+lck z0O rs<=_;rw[z5e];omega,⟨aP.out,aQ.out,aS.out⟩,aT.out,by omega,(fun h=>by cases h),trivial,rfl⟩⟩ ?_;clear aP aQ aR aS aT;rintro k a' w1 ⟨U,b,aU,aV,aW,aX,ar,ds,rfl,HI⟩;obtain⟨nn,mm,au,aC,aD,ac,ag,aE,aF,av,hk⟩:=HI.out;clear HI;obtain⟨i0,f0⟩:=Qw ag;obtain⟨g0,_⟩:=Qw ac.g;obtain⟨b0,_⟩:=Qw ac.b;have li:=Qq ag;have lg:=Qq ac.g;have lb:=Qq ac.b;cases b with
 |false=>
  have bh:=hid au;have bi:=hid (aF rfl);have bj:=hid av;have bl:=hid ac;clear au aC aD ac ag aF av hk
  gi_wp2
  refine Hg ds w1.heap.size _ bj.out fun w' hk=> ?_
  exact⟨.map (some M),by simp[results,Tryz.f153,go_sem],M,nn,mm,rfl,by omega,hk.nm bh.out,bi.out,bl.out.be.trans hk.1⟩
 |true=>
  obtain⟨I,ak⟩:∃I,I=w1.setCell ⟨U,0,none⟩ (.bool false):=⟨_,rfl⟩;have aw:w1.grownBy I (some U):=by rw[ak];exact grownBy_setCell' _ _ _
  have ax:I.heap.size=w1.heap.size:=by rw[ak];simp
  have aY:I.heap[U]? =some (.cells #[.bool false] 4):=by rw[ak];exact Qk ag 0 _
  have ay:=ac.grown aw (by omega) (by omega);have aZ:=au.kept aw (fun e=>by have:=Option.some.inj e;omega);have a0:Mks w.heap.size w1.heap.size ds I:=av.kept fun D hD e=>(aw.block D hD (fun e'=>by have:=Option.some.inj e';subst this;rw[ag]at e;cases e)).trans e
  obtain⟨g3,_⟩:=Qw ay.g;have bm:=Qq ay.g;have a1:=hid ak;have bn:Hid (b0=b0):=rfl;have a2:=hid ay;have a3:=hid aZ;have a4:=hid a0;have aG:=hid aY;have bo:=hid aC;have bp:Hid (nn+lck (itr rs mm) rs<=3*rs.length):=aD;have bq:Hid (k=lck (itr rs mm) rs+1):=hk;have br:w1.heap.size<=I.heap.size:=Nat.le_of_eq ax.symm;have bs:=hid ax;clear ak aw ay aZ a0 aY aC aD hk aF av au ac ag bn ax
  gi_wp2_with (first
   |(rw[<-a1.out];refine⟨trivial,?_⟩;gi_at_call 190;refine(y3R _ A n E _).mono ?_;rintro e V ⟨rfl,rfl⟩))
  clear a1 g3 bm i0 f0 g0 b0;obtain⟨V,al⟩:∃V,V=I.alloc (.cells #[.slice A n E] 41):=⟨_,rfl⟩;have am:Below I.heap.size I V:=by rw[al];exact(Below.refl _ I).alloc L0q _
  have bJ:V.heap.size=I.heap.size+1:=by rw[al];simp
  have bt:Boxed V I.heap.size 41 (.slice A n E):=by rw[al];exact Qx I _ rfl
  rw[<-al];clear al;have bu:=hid (a3.out.below am (by omega));have aH:=hid (a2.out.below am (by omega) (by omega));have bv:=hid ((am.block _ (Qq aG.out)).trans aG.out);have bw:Hid (Mks w.heap.size V.heap.size ds V):=(a4.out.below (am.mono br)).mono (by omega);have bx:Qf V w.heap.size A n rs:=HR.out.below aH.out.be;have aI:U<V.heap.size:=by omega
  have bK:w.heap.size<V.heap.size:=by omega
  clear a3 a2 aG a4 am;refine wpIn_rangeFunc_ownH rfl (by omega) (gf:=227) (lb:=#[.pointer (some ⟨I.heap.size,0,none⟩)]) rfl trivial (enters_of func227 (by kernel_rfl) rfl)
   (y3Q (B:=w.heap.size) n E A _ bx bt) Kb.trans (fun W' l o o' h1 h2 h3 h4=>Kb.grown (grownBy_putObj' W' l o') (fun r e=>by have:=Option.some.inj e;omega)) B0q (fun _=>rfl)
   (fun ao W=>LsJ rs w V M n E A (itr rs mm) U ds (ao.map Bx.r) W)
   (fun c ao W=>False)
   ?own ?ownx ⟨itr rs mm,nn,false,bu.out,Rnd.start bo.out bp.out,bv.out,aH.out,bw.out,Nat.le_refl _⟩
   (fun x a' W=>∃b,a'={tmps:=#[.agg #[.slice A n E],.pointer (some ⟨w.heap.size,0,none⟩),.map none,.pointer (some ⟨M+1,0,none⟩),.pointer (some ⟨U,0,none⟩),undef,.pointer (some ⟨b,0,none⟩),undef,.pointer (some ⟨w.heap.size,0,none⟩),.slice A n E,.int .i64 n,.map (some M),.bool true,.pointer (some ⟨w.heap.size,0,none⟩),.slice A n E,.func (.func 227) #[] #[.pointer (some ⟨I.heap.size,0,none⟩)],.int .i64 (x.i:Int),x.v,undef,undef,undef,undef,undef,undef,undef,undef,undef,undef,undef,undef,undef,undef,ar,undef],defers:=[]}/\W.heap[b]? =some (.cells #[.string x.N,.int .i64 x.k,.string x.T,.int .u64 x.a,.int .u64 x.b,.int .u64 x.c,.int .u64 x.d,.slice x.so x.n x.cap,.int .i64 x.p,.int .i64 x.q] 83))
   ?ownA ?assign ?Qm ?done ?stop
  case own=>
   intro ao X Y row h hg hr;have hB:Below V.heap.size X Y:=(Below.refl _ X).grown hg h.choose_spec.choose_spec.choose_spec.2.2.2.2.2 (fun k e=>(hr k e).1);exact h.below hB aE aq aI
  case ownx=>exact fun _ _ _ _ _ h=>h.elim
  case ownA=>
   rintro x a' _ X Y row ⟨b,h1,h2⟩ hg hr;exact⟨b,h1,Wy h2 hg (fun r e=>(hr r e).2)⟩
  case assign=>
   rintro l ao x W K hJ hK;have hB:Below W.heap.size W (W.alloc (.cells #[.string x.N,.int .i64 x.k,.string x.T,.int .u64 x.a,.int .u64 x.b,.int .u64 x.c,.int .u64 x.d,.slice x.so x.n x.cap,.int .i64 x.p,.int .i64 x.q] 83)):=(Below.refl _ W).alloc L0q _;have HK:=hid (hK {tmps:=#[.agg #[.slice A n E],.pointer (some ⟨w.heap.size,0,none⟩),.map none,.pointer (some ⟨M+1,0,none⟩),.pointer (some ⟨U,0,none⟩),undef,.pointer (some ⟨W.heap.size,0,none⟩),undef,.pointer (some ⟨w.heap.size,0,none⟩),.slice A n E,.int .i64 n,.map (some M),.bool true,.pointer (some ⟨w.heap.size,0,none⟩),.slice A n E,.func (.func 227) #[] #[.pointer (some ⟨I.heap.size,0,none⟩)],.int .i64 (x.i:Int),x.v,undef,undef,undef,undef,undef,undef,undef,undef,undef,undef,undef,undef,undef,undef,ar,undef],defers:=[]} (W.alloc (.cells #[.string x.N,.int .i64 x.k,.string x.T,.int .u64 x.a,.int .u64 x.b,.int .u64 x.c,.int .u64 x.d,.slice x.so x.n x.cap,.int .i64 x.p,.int .i64 x.q] 83)) (KeepsFrom.of_grownBy (World.grownBy_alloc W _ none) (fun j e=>by cases e)) (Kb.alloc W _) (hJ.below (hB.mono hJ.choose_spec.choose_spec.choose_spec.2.2.2.2.2) aE aq aI) ⟨W.heap.size,rfl,Qx W _ rfl⟩);clear hK hJ hB
   gi_wp2
   exact HK.out
  case Qm=>
   rintro l ao x a' W hl ⟨r,hr⟩ hJ ⟨bb,rfl,az⟩ bL;obtain⟨K,nk,bk,jN,jR,jI,jK,jM,jS⟩:=hJ;have hx:x.r∈rs:=List.mem_of_getElem? x.e;have aJ:=HZ.out _ hx;have a5:Qv W w.heap.size x.t (r8 x.k x.T x.a x.b x.c x.d x.so x.n x.cap x.p):=Qv.kept (fun g o u hg hu=>(jK.be.cell (p:=⟨g,o,none⟩) hg).trans ((aH.out.be.cell (p:=⟨g,o,none⟩) hg).symm.trans hu)) _ _ x.rt;obtain⟨⟨y1,y2,y3⟩,hy⟩:∃y,y=ofT K x.t:=⟨_,rfl⟩;have HS:=hid (z5b M nk K x.t _ W w.heap.size a5 (by omega) aJ.2 (HO.out _ hx) jN);rw[<-hy]at HS;dsimp only[r8,ov]at HS;obtain⟨⟨q1,q2,q3⟩,hq⟩:∃q,q=K x.N:=⟨_,rfl⟩;have aK:x.N.size<=maxLen:=aJ.1;obtain⟨⟨c0,c1,c2,c3,c4,c5,c6,c7,c8,c9⟩,_⟩:=Ff az;obtain⟨k0,_⟩:=Qw jK.b;have a6:=Qq az;have lk:=Qq jK.b;have HX:Hid (x.r∈rs):=hx;have HY:Hid ((y1,y2,y3)=ofT K x.t):=hy;have HQ:Hid ((q1,q2,q3)=K x.N):=hq;have ah:=hid jN;have ai:=hid jR;have a7:=hid jI;have aa:=hid jK;have a8:=hid jM;have a9:=hid az;have bz:nk<maxLen:=by have:=jR.cnt;unfold maxLen;omega
   have aL:=y3T (y1,y2,y3) (q1,q2,q3);dsimp only[ov]at aL;clear hx aJ a5 hy hq jN jR jI jK jM az;by_cases hyq:(y1,y2,y3)=(q1,q2,q3)
   ·rw[decide_eq_true hyq]at aL
    have aM:=hid hyq;clear hyq
    gi_wp2_with (first
     |(refine⟨trivial,?_⟩;gi_at_call 191;refine((callsIn_wide.2 HS.out).inRound l).mono ?_;rintro e w5 ⟨rfl,ae⟩;have Z:=hid (ae.out.alloc ae.out.size (.cells #[.bool y1,.bool y2,.bool y3] 210));obtain⟨⟨u0,u1,u2⟩,_⟩:=Zz (Qx w5 (.cells #[.bool y1,.bool y2,.bool y3] 210) rfl);have hL:=(ah.out.below Z.out (by omega)).look aK;rw[<-HQ.out]at hL;dsimp only[ov]at hL;obtain⟨k6,_⟩:=Qw ((Z.out.block _ lk).trans aa.out.b);obtain⟨⟨r0,-,-,-,-,-,-,-,-,-⟩,-⟩:=Ff ((Z.out.block _ a6).trans a9.out);clear ae))
    refine⟨KeepsFrom.of_grownBy (G.below (R:=0) Z.out) (fun j e=>by have:=Option.some.inj e;omega),Kb.below Z.out,?_⟩;have af:=Z.out.mono jS;refine LsJ.below (W:=W) ?_ af aE aq aI;refine⟨K,nk,bk,ah.out,?_,a7.out,aa.out,a8.out,jS⟩;rw[List.map_append];exact ai.out.same (x:=x.r) (by rw[show ofT K x.r.2.1=_ from HY.out.symm,show K x.r.1=_ from HQ.out.symm];exact aM.out)
   ·rw[decide_eq_false hyq]at aL
    have aM:=hid hyq;clear hyq
    gi_wp2_with (first
     |(refine⟨trivial,?_⟩;gi_at_call 191;refine((callsIn_wide.2 HS.out).inRound l).mono ?_;rintro e w5 ⟨rfl,ae⟩;have Z:=hid (ae.out.alloc ae.out.size (.cells #[.bool y1,.bool y2,.bool y3] 210));obtain⟨⟨u0,u1,u2⟩,_⟩:=Zz (Qx w5 (.cells #[.bool y1,.bool y2,.bool y3] 210) rfl);have aN:=hid (ah.out.below Z.out (by omega));have hL:=aN.out.look aK;rw[<-HQ.out]at hL;dsimp only[ov]at hL;obtain⟨k6,_⟩:=Qw ((Z.out.block _ lk).trans aa.out.b);obtain⟨⟨r0,-,-,-,-,-,-,-,-,-⟩,-⟩:=Ff ((Z.out.block _ a6).trans a9.out);obtain⟨w7,h7,ba,ab⟩:=aN.out.put aK (y1,y2,y3) bz;dsimp only[ov]at h7;have aA:=(ab.block U (by have:=Z.out.size;omega) (fun e=>by have:=Option.some.inj e;omega)).trans ((Z.out.block _ (by omega)).trans a7.out);obtain⟨i7,f7⟩:=Qw aA;have bM:=Qq aA;have bA:=hid ba;have bC:=hid ab;have bc:=hid aA;clear ae ba ab aA))
    have ax:=bs.out;have af:=Z.out;have ab:=bC.out;have aj:w7.grownBy (w7.setCell ⟨U,0,none⟩ (.bool true)) (some U):=grownBy_setCell' _ _ _;refine⟨((KeepsFrom.of_grownBy (G.below (R:=0) af) (fun j e=>by have:=Option.some.inj e;omega)).trans (KeepsFrom.of_grownBy ab (fun j e=>by have:=Option.some.inj e;omega))).trans (KeepsFrom.of_grownBy aj (fun j e=>by have:=Option.some.inj e;omega)),((Kb.below af).trans (Kb.grown ab (fun r e=>by have:=Option.some.inj e;omega))).trans (Kb.grown aj (fun r e=>by have:=Option.some.inj e;omega)),?_⟩;refine⟨_,_,true,bA.out.kept aj (fun e=>by have:=Option.some.inj e;omega),?_,Qk bc.out 0 _,((aa.out.below af (by omega) (by omega)).grown ab aq (by omega)).grown aj (by omega) (by omega),?_,?_⟩
    ·rw[List.map_append,HY.out]
     exact ai.out.new (x:=x.r) HX.out (HU.out _ HX.out) (by rw[show ofT K x.r.2.1=_ from HY.out.symm,show K x.r.1=_ from HQ.out.symm];exact aM.out)
    ·refine a8.out.kept fun D hD e=> ?_
     obtain⟨es,ck,bD⟩:=aN.out.obj;have e6:=(af.block D (by omega)).trans e;have e7:=(ab.block D (Qq e6) (fun e'=>by have:=Option.some.inj e';subst this;rw[bD]at e6;cases e6)).trans e6;exact(aj.block D (Qq e7) (fun e'=>by have:=Option.some.inj e';subst this;rw[bc.out]at e7;cases e7)).trans e7
    ·have h1:=af.size
     have h2:=ab.size;have h3:=aj.size;omega
  case done=>
   rintro D xs W hD aO ⟨K,nk,bk,jN,jR,jI,jK,jM,jS⟩ hK;rw[bg.out]at aO;rw[y3O Bx.i Bx.r rs xs aO (fun x _=>x.e)]at jR;have eK:K=itr rs (mm+1):=jR.last;have bd:bk=false->Xy K rs:=fun e=>by
    subst e;rw[jR.fix.1];exact jR.fix.2
   obtain⟨i6,_⟩:=Qw jI;have bN:=Qq jI;have ai:=hid jR;have ah:=hid jN;have aa:=hid jK;have ap:Hid (K=itr rs (mm+1)):=eK;have bE:=hid bd;have bF:Hid (Mks w.heap.size W.heap.size ({target:=.collected D,args:=#[]}::ds) W):=⟨D,rfl,by omega,Qq hK,hK,jM.mono hD⟩;clear jN jR jI jK jM hK aO bd eK
   gi_wp2
   have aB:=(Below.refl _ W).alloc L0q (.cells #[.bool bk] 4);refine⟨if bk then lck (itr rs (mm+1)) rs+1 else 0,?_,W.heap.size,bk,_,_,_,_,_,_,rfl,hid ⟨nk,mm+1,?_,?_,?_,aa.out.below aB (by have:=aa.out.be.size;have:=Qq aa.out.g;omega) aa.out.lt,Qx W _ rfl,aa.out.lt,?_,(bF.out.below aB).mono aB.size,rfl⟩⟩
   ·rw[<-ap.out,bq.out]
    cases bk with
    |true=>have:=ai.out.yes rfl;simp;omega
    |false=>simp
   ·rw[<-ap.out];exact ah.out.below aB (by have:=ah.out.lt;omega)
   ·rw[<-ap.out];exact ai.out.inv
   ·rw[<-ap.out];exact ai.out.cnt
   ·rw[<-ap.out];exact bE.out
  case stop=>exact fun _ _ _ _ _ _ h=>h.elim
end Go.Proofs.YtgnkkgcgbeianaaGreatDoor
