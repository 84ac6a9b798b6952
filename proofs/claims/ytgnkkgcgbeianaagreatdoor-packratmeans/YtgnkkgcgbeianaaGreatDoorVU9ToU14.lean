/- Lemmas for the last text. Conditions: those that each names. -/
import Derived.Test.YtgnkkgcgbeianaaGreatDoorVO22ToU2
import Derived.Test.YtgnkkgcgbeianaaGreatDoorVR8ToO4
import Derived.Test.YtgnkkgcgbeianaaGreatDoorVS9ToO20
import Derived.Test.YtgnkkgcgbeianaaGreatDoorVU3ToU8
set_option linter.unusedVariables false
set_option maxRecDepth 100000
set_option maxHeartbeats 8000000
namespace Go.Proofs.YtgnkkgcgbeianaaGreatDoor
open Go.Proofs.Tryz
section
open Go.RowKit Go.Shelf
section
variable {F:Fence} {n:Nat} {P:Program} {Q:Exit->Act->World->Prop} {a:Act} {w:World}
open Classical in
theorem y1q{c:Code}(I:Nat->Act->World->Prop)(k0:Nat)(G:I k0 a w)(U:∀k a w,I k a w->c.wpIn F n P (Exit.then (fun A w'=>∃k',k'<k/\I k' A w') Q) a w):(Code.loop c).wpIn F n P Q a w:=by
 have V:∀(k:Nat) (a:Act) (w:World),I k a w->∃m,I m a w/\∀j,I j a w->m<=j:=by
  intro k
  induction k using Nat.strongRecOn with
  |_ k ih=>
   intro a w h;by_cases hk:∃j,j<k/\I j a w
   ·obtain⟨j,r,o⟩:=hk
    exact ih j r a w o
   ·exact⟨k,h,fun j r=>Nat.le_of_not_lt fun t=>hk ⟨j,t,r⟩⟩
 let μ:Act->World->Nat:=fun a w=>if h:∃m,I m a w/\∀j,I j a w->m<=j then Classical.choose h else 0
 have D:∀k a w,I k a w->I (μ a w) a w/\μ a w<=k:=fun k a w h=>by
  have y:=V k a w h;have E:=Classical.choose_spec y;have e:μ a w=Classical.choose y:=dif_pos y;rw[e];exact⟨E.1,E.2 k h⟩
 refine wpIn_loop (fun a w=>∃k,I k a w) μ ⟨k0,G⟩ ?_;rintro a w ⟨k,h⟩;refine Code.wpIn_mono (fun e A w' q=> ?_) (U (μ a w) a w (D k a w h).1);cases e<;>first
  |exact q
  |(obtain⟨k',t,o⟩:=q;exact⟨⟨k',o⟩,Nat.lt_of_le_of_lt (D k' _ _ o).2 t⟩)
end
theorem z3i(K:zA->Ot):∀rs:List Rr,rs.reverse.foldl Yw K=swp K rs
 |[]=>rfl
 |x::r=>by rw[List.reverse_cons,List.foldl_append,z3i K r,swp];rfl
structure Rnd (rs:List Rr) (K0 K:zA->Ot) (l:List Rr) (b:Bool) (n:Nat):Prop where
 k:K=l.foldl Yw K0
 inv:Dj K rs
 le:lck K rs<=lck K0 rs
 no:b=false->K=K0/\∀x∈l,ofT K0 x.2.1=K0 x.1
 yes:b=true->lck K rs<lck K0 rs
 cnt:n+lck K rs<=3*rs.length
section
variable {rs:List Rr} {K0 K:ByteArray->Ot} {l:List Rr} {b:Bool} {n:Nat}
theorem Rnd.start(h:Dj K0 rs)(o:n+lck K0 rs<=3*rs.length):Rnd rs K0 K0 [] false n:=⟨rfl,h,Nat.le_refl _,fun _=>⟨rfl,fun x hx=>by simp at hx⟩,(fun h=>by cases h),o⟩
theorem Rnd.same(h:Rnd rs K0 K l b n){x:Rr}(e:ofT K x.2.1=K x.1):Rnd rs K0 K (l++[x]) b n:=by
 refine⟨?_,h.inv,h.le,fun r=>⟨(h.no r).1,fun y o=> ?_⟩,h.yes,h.cnt⟩
 ·rw[List.foldl_append,<-h.k,List.foldl_cons,List.foldl_nil,Yw]
  exact(z2Q e).symm
 ·rcases List.mem_append.1 o with o|o
  ·exact(h.no r).2 y o
  ·obtain rfl:y=x:=by simpa using o
   rw[<-(h.no r).1];exact e
theorem Rnd.new(h:Rnd rs K0 K l b n){x:Rr}(hx:x∈rs)(t:∀y∈rs,y.1=x.1->y=x)(e:ofT K x.2.1≠K x.1):Rnd rs K0 (Jz K x.1 (ofT K x.2.1)) (l++[x]) true (n+1):=by
 have A:=z2S (h.inv x hx);have o:lck (Yw K x) rs<lck K rs:=z2W A hx (fun h=>e (by
  unfold Yw Jz at h;rw[if_pos rfl]at h;exact h.symm))
 have r:=h.le;have D:=h.cnt;refine⟨?_,y0I t hx h.inv,?_,(fun h=>by cases h),fun _=> ?_,?_⟩
 ·rw[List.foldl_append,<-h.k]
  rfl
 ·exact Nat.le_trans (Nat.le_of_lt o) r
 ·exact Nat.lt_of_lt_of_le o r
 ·show n+1+lck (Yw K x) rs<=_
  omega
theorem Rnd.last(h:Rnd rs K0 K rs.reverse b n):K=swp K0 rs:=h.k.trans (z3i K0 rs)
theorem Rnd.fix(h:Rnd rs K0 K rs.reverse false n):K=K0/\Xk K0 rs:=⟨(h.no rfl).1,fun x hx=>(h.no rfl).2 x (List.mem_reverse.2 hx)⟩
end
theorem z3j(rs:List Rr):Dj z0O rs:=fun x hx=>rfl
theorem z3k:∀rs:List Rr,lck z0O rs=3*rs.length
 |[]=>rfl
 |x::r=>by rw[lck,z3k r,List.length_cons];show 3-0+_=_;omega
theorem y1r{α β:Type}(f:β->Nat)(g:β->α)(rs:List α)(xs:List β)(h:xs.map f=(List.range rs.length).reverse)(e:∀x∈xs,rs[f x]? =some (g x)):xs.map g=rs.reverse:=by
 have o:(xs.map f).map (fun i=>rs[i]?)=xs.map (fun x=>some (g x)):=by
  rw[List.map_map];exact List.map_congr_left fun x hx=>e x hx
 have r:(List.range rs.length).map (fun i=>rs[i]?)=rs.map some:=by
  apply List.ext_getElem
  ·simp
  ·intro i o r
   simp at o;simp[o]
 rw[h,List.map_reverse,r,<-List.map_reverse]at o;have t:(xs.map g).map some=(rs.reverse).map some:=by rw[o,List.map_map];rfl
 exact(List.map_inj_right (fun x y e=>Option.some.inj e)).1 t
end
section
open Go.RowKit Go.Shelf
attribute [local go_sem] Oper.semAt_some
structure Bx (w:World) (B:Nat) (rs:List Rr) where
 i:Nat
 N:zA
 t:RT
 q:Int
 k:Int
 T:zA
 a:Int
 b:Int
 c:Int
 d:Int
 so:Option Addr
 n:Nat
 cap:Nat
 p:Int
 e:rs[i]? =some (N,t,q)
 rt:Qy w B t (r8 k T a b c d so n cap p)
section
variable {w:World} {B:Nat} {rs:List Rr}
@[reducible] def Bx.v (x:Bx w B rs):Value:=.agg #[zT x.N,zI x.k,zT x.T,zU x.a,zU x.b,zU x.c,zU x.d,.slice x.so x.n x.cap,zI x.p,zI x.q]
@[reducible] def Bx.vs (x:Bx w B rs):Array Value:=#[zI (x.i:Int),x.v]
def Bx.r(x:Bx w B rs):Rr:=(x.N,x.t,x.q)
end
def Kb(B Bt:Nat)(W W':World):Prop:=W.heap.size<=W'.heap.size/\(∀j,j<B->∀o,W.heap[j]? =some o->W'.heap[j]? =some o)/\∀o,W.heap[Bt]? =some o->W'.heap[Bt]? =some o
section
variable {B Bt:Nat}
theorem Kb.trans{A C D:World}(h:Kb B Bt A C)(k:Kb B Bt C D):Kb B Bt A D:=⟨Nat.le_trans h.1 k.1,fun j t o r=>k.2.1 j t o (h.2.1 j t o r),fun o r=>k.2.2 o (h.2.2 o r)⟩
theorem Kb.below{W W':World}(h:zB W W'):Kb B Bt W W':=⟨h.size,fun j _ o r=>(h.block j (Array.getElem?_eq_some_iff.1 r).1).trans r,fun o r=>(h.block _ (Array.getElem?_eq_some_iff.1 r).1).trans r⟩
theorem Kb.alloc(W:World)(o:Obj):Kb B Bt W (W.alloc o):=Kb.below ((Below.refl _ W).alloc L0q o)
theorem Kb.grown{W W':World}{row:Option Nat}(h:W.grownBy W' row)(y:∀r,row=some r->B<=r/\r≠Bt):Kb B Bt W W':=⟨h.size,fun j A o t=>(h.block j (Array.getElem?_eq_some_iff.1 t).1 (fun e=>by have:=(y j e.symm).1;omega)).trans t,fun o t=>(h.block Bt (Array.getElem?_eq_some_iff.1 t).1 (fun e=>(y Bt e.symm).2 rfl)).trans t⟩
theorem Kb.cell{W W':World}(h:Kb B Bt W W'){g o:Nat}{u:Value}(t:g<B)(r:zC W g o u):zC W' g o u:=by
 have hl:=World.block_lt_of_cell? W _ r;have e:W'.heap[g]? =W.heap[g]? :=(h.2.1 g t _ (Array.getElem?_eq_getElem hl)).trans (Array.getElem?_eq_getElem hl).symm;exact(World.cell?_of_block (w:=W) (a:=⟨g,o,none⟩) e).trans r
end
structure Yb (w:World) (B Bt:Nat) (rs:List Rr) (l N:Nat) (J Jx:List (Bx w B rs)->World->Prop):Prop where
 call:∀m pre (x:Bx w B rs) W,J pre W->pre.length<N->YieldAt Fence.wide m prog l x.vs W fun e W'=>
  (e=.returned (.bool true)/\J (pre++[x]) W'/\Kb B Bt W W')∨(e=.returned (.bool false)/\Jx (pre++[x]) W')
section
variable {w:World} {B Bt:Nat} {rs:List Rr} {l:Nat} {J Jx:List (Bx w B rs)->World->Prop}
theorem y1s(n G:Nat)(Z:Yb w B Bt rs l n J Jx)(I:Option Addr)(m:Nat)(W:World)(h:Qb w B I n rs)(U:Boxed w Bt 41 (.slice I n G))(hW:zB w W)(hJ:J [] W):
  CallsIn Fence.wide m prog 227 #[.func (.yield l) #[] #[],zP Bt 0] W fun e W'=>(∃v,e=.returned v)/\((∃q:List (Bx w B rs),q.map Bx.i=(List.range n).reverse/\J q W')∨∃q:List (Bx w B rs),Jx q W'):=by
 have ae:=Xf;have V:Kb B Bt w W:=Kb.below hW;have af:=hid V;have hn:n<=9223372036854775807:=by have:=h.2.1;unfold maxLen at this;omega
 have HR:=hid h.2.2;have ag:Hid (n=rs.length):=h.1;have Y:zC W Bt 0 (.slice I n G):=Boxed.cell (show W.heap[Bt]? =_ from V.2.2 _ U);have ah:=hid U;have HY:=hid Z;have HJ:=hid hJ;clear V h hW Z hJ U;refine callsIn_of_wp func227 rfl trivial ?_ rfl;simp only[ntmps227,List.size_toArray,List.length_cons,List.length_nil,Nat.reduceAdd,Nat.reduceSub,Array.replicate_succ,Array.replicate_zero,List.push_toArray,List.append_toArray,List.nil_append,List.cons_append]
 gi_wp2
 clear Y
 gi_loopw [3] (fun i wr=>∃r:Nat,i=zI ((r:Int)-1)/\r<=n/\Hid (∃q:List (Bx w B rs),q.map Bx.i=((List.range n).drop r).reverse/\J q wr)/\Hid (Kb B Bt w wr)) (fun i _=>(intOf i+1).toNat)
 case atStart=>exact⟨n,rfl,Nat.le_refl _,hid ⟨[],by simp,HJ.out⟩,af⟩
 case round=>
  obtain⟨r,rfl,hr,D,t⟩:=hrel;cases r with
  |zero=>
   have a0:decide ((0:Int)<=((0:Nat):Int)-1)=false:=by decide
   obtain⟨q,A,E⟩:=D.out;clear D
   gi_wp2
   go_end0
   exact⟨⟨_,rfl⟩,.inl ⟨q,by simpa using A,E⟩⟩
  |succ r=>
   have e:((r+1:Nat):Int)-1=(r:Int):=by omega
   rw[e];clear e;have a0:decide ((0:Int)<=(r:Int))=true:=by simp
   have ap:(r:Int)<(n:Int):=by omega
   have hw:IntKind.i64.wrap ((r:Int)-1)=(r:Int)-1:=by rw[IntKind.wrap_i64];omega
   have aa:r<rs.length:=by rw[<-ag.out];omega
   obtain⟨g,o,rfl,y,k1,T1,a1,b1,c1,d1,ai,n1,aj,p1,ak,z0,z1,z2,z3,z4,z5,z6,z7,z8,z9⟩:=HR.out r aa;have x0:=t.out.cell y z0;have x1:=t.out.cell y z1;have x2:=t.out.cell y z2;have x3:=t.out.cell y z3;have x4:=t.out.cell y z4;have x5:=t.out.cell y z5;have x6:=t.out.cell y z6;have x7:=t.out.cell y z7;have x8:=t.out.cell y z8;have x9:=t.out.cell y z9;have aq:g<wr.heap.size:=World.block_lt_of_cell? wr _ x0;have Y:zC wr Bt 0 (.slice (some ⟨g,o,none⟩) n G):=Boxed.cell (show wr.heap[Bt]? =_ from t.out.2.2 _ ah.out);obtain⟨q,A,E⟩:=D.out;have ab:q.length<n:=by
    have:=congrArg List.length A;simp at this;omega
   obtain⟨fn,ar,au,Qm,hy,hR⟩:=HY.out.call (m-1) q ⟨r,rs[r].1,rs[r].2.1,rs[r].2.2,k1,T1,a1,b1,c1,d1,ai,n1,aj,p1,List.getElem?_eq_getElem aa,ak⟩ wr E ab;have ac:=hid hR;have HQ:Hid (q.map Bx.i=((List.range n).drop (r+1)).reverse):=A;clear hR A E ab D z0 z1 z2 z3 z4 z5 z6 z7 z8 z9;dsimp only[Bx.vs,Bx.v]at hy;have ad:(List.range n).drop r=r::(List.range n).drop (r+1):=by
    rw[List.drop_eq_getElem_cons (by simp;omega)];simp
   have HD:=hid ad;clear ad
   gi_wp2
   refine⟨ae _,ac.out.mono ?_⟩;clear ac hy x0 x1 x2 x3 x4 x5 x6 x7 x8 x9 Y;rintro e W4 (⟨rfl,al,am⟩|⟨rfl,ao⟩)
   ·gi_wp2
    go_roundw
    case rel=>exact⟨r,rfl,by omega,hid ⟨_,by rw[List.map_append,HQ.out,HD.out];simp,al⟩,hid (t.out.trans am)⟩
    case measure=>simp[intOf]
   ·gi_wp2
    refine bodyPost_ret (results_none rfl _ _ _) rfl ?_;exact⟨⟨_,rfl⟩,.inr ⟨_,ao⟩⟩
end
theorem y1t{w:World}{B Bt:Nat}{rs:List Rr}(n y:Nat)(o:Option Addr)(m:Nat)(h:Qb w B o n rs)(A:Boxed w Bt 41 (.slice o n y)):
  SeqStopsK Fence.wide m prog 227 #[zP Bt 0] (fun x:Bx w B rs=>x.vs) (Kb B Bt) (fun D=>D.map Bx.i=(List.range n).reverse) (fun _=>True) n w:=by
 intro l J Jx W E hJ aa G I;have U:Yb w B Bt rs l n J Jx:=⟨fun V Y x Z h hl=>by
  refine YieldAt.mono (Pf rfl V (G Y x Z h hl)) fun e' W' hh=> ?_
  rcases hh with⟨r,t,h3⟩|⟨r,t⟩
  ·exact .inl ⟨r,t,h3⟩
  ·exact .inr ⟨r,t⟩⟩
 refine(y1s n y U o m W h A E I).mono fun e W' h=> ?_
 refine⟨h.1,?_⟩;rcases h.2 with h|⟨q,h⟩
 ·exact .inl h
 ·exact .inr ⟨q,trivial,h⟩
theorem y1u(m:Nat)(h:Option Addr)(n o:Nat)(w:World):CallsIn Fence.wide m prog 190 #[.slice h n o] w fun e w'=>e=.returned (.func (.func 227) #[] #[zP w.heap.size 0])/\w'=w.alloc (.cells #[.slice h n o] 41):=by
 refine callsIn_of_wp func190 rfl trivial ?_ rfl;simp only[ntmps190,List.size_toArray,List.length_cons,List.length_nil,Nat.reduceAdd,Nat.reduceSub,Array.replicate_succ,Array.replicate_zero,List.push_toArray,List.append_toArray,List.nil_append,List.cons_append]
 gi_wp2
 go_ret;exact⟨rfl,rfl⟩
end
open Go.RowKit Go.Shelf Go.Maps
attribute [local go_sem] Oper.semAt_some
theorem y1v(n:Int)(w:World):(Instr.makeMap 247 (some (zI n))).run prog w=.ok (.map (some w.heap.size)) (w.alloc (.map #[] 0)):=by kernel_rfl
theorem y1w(x y:Ot)(w:World):(Op.equalIn 10000 210 (ov x) (ov y)).run prog w=.ok (decide (x=y)) w:=by
 obtain⟨a,b,c⟩:=x;obtain⟨d,e,f⟩:=y;cases a<;>cases b<;>cases c<;>cases d<;>cases e<;>cases f<;>kernel_rfl
structure Kl (w:World) (M n cap:Nat) (so:Option Addr) (W:World):Prop where
 be:zB w W
 g:W.heap[w.heap.size]? =some (.cells #[.slice so n cap] 43)
 b:W.heap[M+1]? =some (.cells #[.map (some M)] 247)
theorem Kl.lt{w W:World}{M n o:Nat}{r:Option Addr}(h:Kl w M n o r W):M+1<W.heap.size:=Qq h.b
theorem Kl.below{w W W':World}{M n r S:Nat}{t:Option Addr}(h:Kl w M n r t W)(o:Below S W W')(y:w.heap.size<S)(A:M+1<S):Kl w M n r t W':=
 ⟨h.be.trans (o.mono (by omega)),(o.block _ y).trans h.g,(o.block _ A).trans h.b⟩
theorem Kl.grown{w W W':World}{M n t r:Nat}{y:Option Addr}(h:Kl w M n t y W)(o:W.grownBy W' (some r))(D:w.heap.size<r)(A:r≠M+1):Kl w M n t y W':=
 ⟨h.be.grown o h.be.size (fun g e=>by have:=Option.some.inj e;omega),(o.block _ (Qq h.g) (fun e=>by have:=Option.some.inj e;omega)).trans h.g,(o.block _ (Qq h.b) (fun e=>A (Option.some.inj e).symm)).trans h.b⟩
theorem Dk.nm{base:Nat}{w w':World}{B n:Nat}{K:zA->Ot}(h:Dk base w w')(o:Nm w B n K):Nm w' B n K:=by
 obtain⟨D,⟨r,t,y,A,E,G⟩,I⟩:=o;exact⟨D,⟨r,t,h.2 B _ y (fun l e=>by cases e),A,E,G⟩,I⟩
theorem Nm.obj{W:World}{B n:Nat}{K:zA->Ot}(h:Nm W B n K):∃o r,zH W B (.map o r):=by
 obtain⟨D,⟨o,r,t,_⟩,_⟩:=h;exact⟨o,r,t⟩
def LsP(rs:List Rr)(w:World)(e:Ending)(w':World):Prop:=∃M nn m,e=.returned (.map (some M))/\w.heap.size<=M/\Nm w' M nn (itr rs m)/\Xk (itr rs m) rs/\zB w w'
def LsI(rs:List Rr)(w:World)(M n cap:Nat)(so:Option Addr)(k ib:Nat)(b:Bool)(ds:List Deferred)(W:World):Prop:=∃nn m,Nm W M nn (itr rs m)/\Dj (itr rs m) rs/\nn+lck (itr rs m) rs<=3*rs.length/\Kl w M n cap so W/\W.heap[ib]? =some (.cells #[.bool b] 4)/\M+1<ib/\(b=false->Xk (itr rs m) rs)/\Mks w.heap.size W.heap.size ds W/\k=(if b then lck (itr rs m) rs+1 else 0)
def LsJ(rs:List Rr)(w w4:World)(M n cap:Nat)(so:Option Addr)(K0:zA->Ot)(ib:Nat)(ds:List Deferred)(l:List Rr)(W:World):Prop:=∃K nn b,Nm W M nn K/\Rnd rs K0 K l b nn/\W.heap[ib]? =some (.cells #[.bool b] 4)/\Kl w M n cap so W/\Mks w.heap.size w4.heap.size ds W/\w4.heap.size<=W.heap.size
theorem LsJ.below{rs:List Rr}{w r W W':World}{M n y t:Nat}{A:Option Addr}{K0:zA->Ot}{D:List Deferred}{l:List Rr}(h:LsJ rs w r M n y A K0 t D l W)(o:Below r.heap.size W W')(hM:M+1<t)(aa:w.heap.size<M)(E:t<r.heap.size):LsJ rs w r M n y A K0 t D l W':=by
 obtain⟨K,G,b,I,U,V,Y,Z,h6⟩:=h;exact⟨K,G,b,I.below o (by omega),U,(o.block _ E).trans V,Y.below o (by omega) (by omega),Z.below o,Nat.le_trans h6 o.size⟩
theorem y1x(A:Option Addr)(n E:Nat)(rs:List Rr)(w:World)(h:Qb w w.heap.size A n rs)(HZ:Hid (RgZ rs))(HO:Hid (∀x∈rs,okT x.2.1=true))(HU:Hid (∀x∈rs,∀y∈rs,y.1=x.1->y=x))(bG:rs.length<=64)(m:Nat):
  CallsIn Fence.wide (m+5) prog 153 #[.agg #[.slice A n E]] w (LsP rs w):=by
 have bH:=Xf;have bf:=y1v;obtain⟨M,hM⟩:∃M,M=w.heap.size+1:=⟨_,rfl⟩;obtain⟨W0,ad⟩:∃W0,W0=(((w.alloc (.cells #[.slice A n E] 43)).alloc (.map #[] 0)).alloc (.cells #[.map (some M)] 247)).alloc (.cells #[.bool true] 4):=⟨_,rfl⟩;have aP:Hid (zB w W0):=by rw[ad];exact((((Below.refl _ w).alloc L0q _).alloc (by simp) _).alloc (by simp;omega) _).alloc (by simp;omega) _
 have aQ:Hid (W0.heap[w.heap.size]? =some (.cells #[.slice A n E] 43)):=by
  rw[ad];exact(Below.heap_alloc _ _ _ (by simp;omega)).trans ((Below.heap_alloc _ _ _ (by simp;omega)).trans ((Below.heap_alloc _ _ _ (by simp)).trans (Qx w _ rfl)))
 have aR:Hid (Nm W0 M 0 z0O):=by
  rw[ad,hM];have h1:=Nm.made (w.alloc (.cells #[.slice A n E] 43));rw[World.size_alloc]at h1;exact(h1.kept (World.grownBy_alloc _ _ none) (by simp)).kept (World.grownBy_alloc _ _ none) (by simp)
 have aS:Hid (W0.heap[M+1]? =some (.cells #[.map (some M)] 247)):=by
  rw[ad,hM];exact(Below.heap_alloc _ _ _ (by simp)).trans (Qx _ _ (by simp))
 have aT:Hid (W0.heap[M+1+1]? =some (.cells #[.bool true] 4)):=by
  rw[ad,hM];exact Qx _ _ (by simp)
 have bI:n<=9223372036854775807:=by have:=h.2.1;unfold maxLen at this;omega
 have HR:=hid h;have bg:Hid (n=rs.length):=h.1;have aq:w.heap.size<M:=by omega
 clear h;refine callsIn_of_wp_marks func153 rfl trivial ?_ rfl;simp only[ntmps153,List.size_toArray,List.length_cons,List.length_nil,Nat.reduceAdd,Nat.reduceSub,Array.replicate_succ,Array.replicate_zero,List.push_toArray,List.append_toArray,List.nil_append,List.cons_append]
 gi_wp2
 rw[<-hM,<-ad];clear ad bf;have HM:=hid hM;clear hM;refine y1q (fun k a' w'=>∃(U:Nat) (b:Bool) (aU aV aW aX ar:Value) (ds:List Deferred),a'={tmps:=#[.agg #[.slice A n E],zP w.heap.size 0,.map none,zP (M+1) 0,zP U 0,undef,undef,undef,zP w.heap.size 0,.slice A n E,zI (n:Int),.map (some M),aU,aV,aW,aX,undef,undef,undef,undef,undef,undef,undef,undef,undef,undef,undef,undef,undef,undef,undef,undef,ar,undef],defers:=ds}/\Hid (LsI rs w M n E A k U b ds w')) _ ⟨M+1+1,true,undef,undef,undef,undef,undef,[],rfl,hid ⟨0,0,aR.out,z3j rs,by show 0+lck z0O rs<=_;rw[z3k];omega,⟨aP.out,aQ.out,aS.out⟩,aT.out,by omega,(fun h=>by cases h),trivial,rfl⟩⟩ ?_;clear aP aQ aR aS aT;rintro k a' w1 ⟨U,b,aU,aV,aW,aX,ar,ds,rfl,HI⟩;obtain⟨nn,mm,au,aC,aD,ac,ag,aE,aF,av,hk⟩:=HI.out;clear HI;obtain⟨i0,f0⟩:=Qk ag;obtain⟨g0,_⟩:=Qk ac.g;obtain⟨b0,_⟩:=Qk ac.b;have li:=Qq ag;have lg:=Qq ac.g;have lb:=Qq ac.b;cases b with
 |false=>
  have bh:=hid au;have bi:=hid (aF rfl);have bj:=hid av;have bl:=hid ac;clear au aC aD ac ag aF av hk
  gi_wp2
  refine Ef ds w1.heap.size _ bj.out fun w' hk=> ?_
  exact⟨.map (some M),by simp[results,Tryz.f153,go_sem],M,nn,mm,rfl,by omega,hk.nm bh.out,bi.out,bl.out.be.trans hk.1⟩
 |true=>
  obtain⟨I,ak⟩:∃I,I=w1.setCell ⟨U,0,none⟩ (.bool false):=⟨_,rfl⟩;have aw:w1.grownBy I (some U):=by rw[ak];exact grownBy_setCell' _ _ _
  have ax:I.heap.size=w1.heap.size:=by rw[ak];simp
  have aY:zH I U (.cells #[.bool false] 4):=by rw[ak];exact Qw ag 0 _
  have ay:=ac.grown aw (by omega) (by omega);have aZ:=au.kept aw (fun e=>by have:=Option.some.inj e;omega);have a0:Mks w.heap.size w1.heap.size ds I:=av.kept fun D hD e=>(aw.block D hD (fun e'=>by have:=Option.some.inj e';subst this;rw[zH,ag]at e;cases e)).trans e
  obtain⟨g3,_⟩:=Qk ay.g;have bm:=Qq ay.g;have a1:=hid ak;have bn:Hid (b0=b0):=rfl;have a2:=hid ay;have a3:=hid aZ;have a4:=hid a0;have aG:=hid aY;have bo:=hid aC;have bp:Hid (nn+lck (itr rs mm) rs<=3*rs.length):=aD;have bq:Hid (k=lck (itr rs mm) rs+1):=hk;have br:w1.heap.size<=I.heap.size:=Nat.le_of_eq ax.symm;have bs:=hid ax;clear ak aw ay aZ a0 aY aC aD hk aF av au ac ag bn ax
  gi_wp2_with (first
   |(rw[<-a1.out];refine⟨trivial,?_⟩;gi_at_call 190;refine(y1u _ A n E _).mono ?_;rintro e V ⟨rfl,rfl⟩))
  clear a1 g3 bm i0 f0 g0 b0;obtain⟨V,al⟩:∃V,V=I.alloc (.cells #[.slice A n E] 41):=⟨_,rfl⟩;have am:zB I V:=by rw[al];exact(Below.refl _ I).alloc L0q _
  have bJ:V.heap.size=I.heap.size+1:=by rw[al];simp
  have bt:Boxed V I.heap.size 41 (.slice A n E):=by rw[al];exact Qx I _ rfl
  rw[<-al];clear al;have bu:=hid (a3.out.below am (by omega));have aH:=hid (a2.out.below am (by omega) (by omega));have bv:=hid ((am.block _ (Qq aG.out)).trans aG.out);have bw:Hid (Mks w.heap.size V.heap.size ds V):=(a4.out.below (am.mono br)).mono (by omega);have bx:Qb V w.heap.size A n rs:=HR.out.below aH.out.be;have aI:U<V.heap.size:=by omega
  have bK:w.heap.size<V.heap.size:=by omega
  clear a3 a2 aG a4 am;refine wpIn_rangeFunc_ownH rfl (by omega) (gf:=227) (lb:=#[zP I.heap.size 0]) rfl trivial (enters_of func227 (by kernel_rfl) rfl)
   (y1t (B:=w.heap.size) n E A _ bx bt) Kb.trans (fun W' l o o' h1 h2 h3 h4=>Kb.grown (grownBy_putObj' W' l o') (fun r e=>by have:=Option.some.inj e;omega)) B0q (fun _=>rfl)
   (fun ao W=>LsJ rs w V M n E A (itr rs mm) U ds (ao.map Bx.r) W)
   (fun c ao W=>False)
   ?own ?ownx ⟨itr rs mm,nn,false,bu.out,Rnd.start bo.out bp.out,bv.out,aH.out,bw.out,Nat.le_refl _⟩
   (fun x a' W=>∃b,a'={tmps:=#[.agg #[.slice A n E],zP w.heap.size 0,.map none,zP (M+1) 0,zP U 0,undef,zP b 0,undef,zP w.heap.size 0,.slice A n E,zI (n:Int),.map (some M),.bool true,zP w.heap.size 0,.slice A n E,.func (.func 227) #[] #[zP I.heap.size 0],zI (x.i:Int),x.v,undef,undef,undef,undef,undef,undef,undef,undef,undef,undef,undef,undef,undef,undef,ar,undef],defers:=[]}/\zH W b (.cells #[zT x.N,zI x.k,zT x.T,zU x.a,zU x.b,zU x.c,zU x.d,.slice x.so x.n x.cap,zI x.p,zI x.q] 83))
   ?ownA ?assign ?Qm ?done ?stop
  case own=>
   intro ao X Y row h hg hr;have hB:Below V.heap.size X Y:=(Below.refl _ X).grown hg h.choose_spec.choose_spec.choose_spec.2.2.2.2.2 (fun k e=>(hr k e).1);exact h.below hB aE aq aI
  case ownx=>exact fun _ _ _ _ _ h=>h.elim
  case ownA=>
   rintro x a' _ X Y row ⟨b,h1,h2⟩ hg hr;exact⟨b,h1,Rx h2 hg (fun r e=>(hr r e).2)⟩
  case assign=>
   rintro l ao x W K hJ hK;have hB:zB W (W.alloc (.cells #[zT x.N,zI x.k,zT x.T,zU x.a,zU x.b,zU x.c,zU x.d,.slice x.so x.n x.cap,zI x.p,zI x.q] 83)):=(Below.refl _ W).alloc L0q _;have HK:=hid (hK {tmps:=#[.agg #[.slice A n E],zP w.heap.size 0,.map none,zP (M+1) 0,zP U 0,undef,zP W.heap.size 0,undef,zP w.heap.size 0,.slice A n E,zI (n:Int),.map (some M),.bool true,zP w.heap.size 0,.slice A n E,.func (.func 227) #[] #[zP I.heap.size 0],zI (x.i:Int),x.v,undef,undef,undef,undef,undef,undef,undef,undef,undef,undef,undef,undef,undef,undef,ar,undef],defers:=[]} (W.alloc (.cells #[zT x.N,zI x.k,zT x.T,zU x.a,zU x.b,zU x.c,zU x.d,.slice x.so x.n x.cap,zI x.p,zI x.q] 83)) (KeepsFrom.of_grownBy (World.grownBy_alloc W _ none) (fun j e=>by cases e)) (Kb.alloc W _) (hJ.below (hB.mono hJ.choose_spec.choose_spec.choose_spec.2.2.2.2.2) aE aq aI) ⟨W.heap.size,rfl,Qx W _ rfl⟩);clear hK hJ hB
   gi_wp2
   exact HK.out
  case Qm=>
   rintro l ao x a' W hl ⟨r,hr⟩ hJ ⟨bb,rfl,az⟩ bL;obtain⟨K,nk,bk,jN,jR,jI,jK,jM,jS⟩:=hJ;have hx:x.r∈rs:=List.mem_of_getElem? x.e;have aJ:=HZ.out _ hx;have a5:Qy W w.heap.size x.t (r8 x.k x.T x.a x.b x.c x.d x.so x.n x.cap x.p):=Qy.kept (fun g o u hg hu=>(jK.be.cell (p:=⟨g,o,none⟩) hg).trans ((aH.out.be.cell (p:=⟨g,o,none⟩) hg).symm.trans hu)) _ _ x.rt;obtain⟨⟨y1,y2,y3⟩,hy⟩:∃y,y=ofT K x.t:=⟨_,rfl⟩;have HS:=hid (z3h M nk K x.t _ W w.heap.size a5 (by omega) aJ.2 (HO.out _ hx) jN);rw[<-hy]at HS;dsimp only[r8,ov]at HS;obtain⟨⟨q1,q2,q3⟩,hq⟩:∃q,q=K x.N:=⟨_,rfl⟩;have aK:x.N.size<=maxLen:=aJ.1;obtain⟨⟨c0,c1,c2,c3,c4,c5,c6,c7,c8,c9⟩,_⟩:=Gp az;obtain⟨k0,_⟩:=Qk jK.b;have a6:=Qq az;have lk:=Qq jK.b;have HX:Hid (x.r∈rs):=hx;have HY:Hid ((y1,y2,y3)=ofT K x.t):=hy;have HQ:Hid ((q1,q2,q3)=K x.N):=hq;have ah:=hid jN;have ai:=hid jR;have a7:=hid jI;have aa:=hid jK;have a8:=hid jM;have a9:=hid az;have bz:nk<maxLen:=by have:=jR.cnt;unfold maxLen;omega
   have aL:=y1w (y1,y2,y3) (q1,q2,q3);dsimp only[ov]at aL;clear hx aJ a5 hy hq jN jR jI jK jM az;by_cases hyq:(y1,y2,y3)=(q1,q2,q3)
   ·rw[decide_eq_true hyq]at aL
    have aM:=hid hyq;clear hyq
    gi_wp2_with (first
     |(refine⟨trivial,?_⟩;gi_at_call 191;refine((callsIn_wide.2 HS.out).inRound l).mono ?_;rintro e w5 ⟨rfl,ae⟩;have Z:=hid (ae.out.alloc ae.out.size (.cells #[.bool y1,.bool y2,.bool y3] 210));obtain⟨⟨u0,u1,u2⟩,_⟩:=Zz (Qx w5 (.cells #[.bool y1,.bool y2,.bool y3] 210) rfl);have hL:=(ah.out.below Z.out (by omega)).look aK;rw[<-HQ.out]at hL;dsimp only[ov]at hL;obtain⟨k6,_⟩:=Qk ((Z.out.block _ lk).trans aa.out.b);obtain⟨⟨r0,-,-,-,-,-,-,-,-,-⟩,-⟩:=Gp ((Z.out.block _ a6).trans a9.out);clear ae))
    refine⟨KeepsFrom.of_grownBy (G.below (R:=0) Z.out) (fun j e=>by have:=Option.some.inj e;omega),Kb.below Z.out,?_⟩;have af:=Z.out.mono jS;refine LsJ.below (W:=W) ?_ af aE aq aI;refine⟨K,nk,bk,ah.out,?_,a7.out,aa.out,a8.out,jS⟩;rw[List.map_append];exact ai.out.same (x:=x.r) (by rw[show ofT K x.r.2.1=_ from HY.out.symm,show K x.r.1=_ from HQ.out.symm];exact aM.out)
   ·rw[decide_eq_false hyq]at aL
    have aM:=hid hyq;clear hyq
    gi_wp2_with (first
     |(refine⟨trivial,?_⟩;gi_at_call 191;refine((callsIn_wide.2 HS.out).inRound l).mono ?_;rintro e w5 ⟨rfl,ae⟩;have Z:=hid (ae.out.alloc ae.out.size (.cells #[.bool y1,.bool y2,.bool y3] 210));obtain⟨⟨u0,u1,u2⟩,_⟩:=Zz (Qx w5 (.cells #[.bool y1,.bool y2,.bool y3] 210) rfl);have aN:=hid (ah.out.below Z.out (by omega));have hL:=aN.out.look aK;rw[<-HQ.out]at hL;dsimp only[ov]at hL;obtain⟨k6,_⟩:=Qk ((Z.out.block _ lk).trans aa.out.b);obtain⟨⟨r0,-,-,-,-,-,-,-,-,-⟩,-⟩:=Gp ((Z.out.block _ a6).trans a9.out);obtain⟨w7,h7,ba,ab⟩:=aN.out.put aK (y1,y2,y3) bz;dsimp only[ov]at h7;have aA:=(ab.block U (by have:=Z.out.size;omega) (fun e=>by have:=Option.some.inj e;omega)).trans ((Z.out.block _ (by omega)).trans a7.out);obtain⟨i7,f7⟩:=Qk aA;have bM:=Qq aA;have bA:=hid ba;have bC:=hid ab;have bc:=hid aA;clear ae ba ab aA))
    have ax:=bs.out;have af:=Z.out;have ab:=bC.out;have aj:w7.grownBy (w7.setCell ⟨U,0,none⟩ (.bool true)) (some U):=grownBy_setCell' _ _ _;refine⟨((KeepsFrom.of_grownBy (G.below (R:=0) af) (fun j e=>by have:=Option.some.inj e;omega)).trans (KeepsFrom.of_grownBy ab (fun j e=>by have:=Option.some.inj e;omega))).trans (KeepsFrom.of_grownBy aj (fun j e=>by have:=Option.some.inj e;omega)),((Kb.below af).trans (Kb.grown ab (fun r e=>by have:=Option.some.inj e;omega))).trans (Kb.grown aj (fun r e=>by have:=Option.some.inj e;omega)),?_⟩;refine⟨_,_,true,bA.out.kept aj (fun e=>by have:=Option.some.inj e;omega),?_,Qw bc.out 0 _,((aa.out.below af (by omega) (by omega)).grown ab aq (by omega)).grown aj (by omega) (by omega),?_,?_⟩
    ·rw[List.map_append,HY.out]
     exact ai.out.new (x:=x.r) HX.out (HU.out _ HX.out) (by rw[show ofT K x.r.2.1=_ from HY.out.symm,show K x.r.1=_ from HQ.out.symm];exact aM.out)
    ·refine a8.out.kept fun D hD e=> ?_
     obtain⟨es,ck,bD⟩:=aN.out.obj;have e6:=(af.block D (by omega)).trans e;have e7:=(ab.block D (Qq e6) (fun e'=>by have:=Option.some.inj e';subst this;rw[bD]at e6;cases e6)).trans e6;exact(aj.block D (Qq e7) (fun e'=>by have:=Option.some.inj e';subst this;rw[bc.out]at e7;cases e7)).trans e7
    ·have h1:=af.size
     have h2:=ab.size;have h3:=aj.size;omega
  case done=>
   rintro D xs W hD aO ⟨K,nk,bk,jN,jR,jI,jK,jM,jS⟩ hK;rw[bg.out]at aO;rw[y1r Bx.i Bx.r rs xs aO (fun x _=>x.e)]at jR;have eK:K=itr rs (mm+1):=jR.last;have bd:bk=false->Xk K rs:=fun e=>by
    subst e;rw[jR.fix.1];exact jR.fix.2
   obtain⟨i6,_⟩:=Qk jI;have bN:=Qq jI;have ai:=hid jR;have ah:=hid jN;have aa:=hid jK;have ap:Hid (K=itr rs (mm+1)):=eK;have bE:=hid bd;have bF:Hid (Mks w.heap.size W.heap.size ({target:=.collected D,args:=#[]}::ds) W):=⟨D,rfl,by omega,Qq hK,hK,jM.mono hD⟩;clear jN jR jI jK jM hK aO bd eK
   gi_wp2
   have aB:=(Below.refl _ W).alloc L0q (.cells #[.bool bk] 4);refine⟨if bk then lck (itr rs (mm+1)) rs+1 else 0,?_,W.heap.size,bk,_,_,_,_,_,_,rfl,hid ⟨nk,mm+1,?_,?_,?_,aa.out.below aB (by have:=aa.out.be.size;have:=Qq aa.out.g;omega) aa.out.lt,Qx W _ rfl,aa.out.lt,?_,(bF.out.below aB).mono aB.size,rfl⟩⟩
   ·rw[<-ap.out,bq.out]
    cases bk with
    |true=>have:=ai.out.yes rfl;simp;omega
    |false=>simp
   ·rw[<-ap.out];exact ah.out.below aB (by have:=ah.out.lt;omega)
   ·rw[<-ap.out];exact ai.out.inv
   ·rw[<-ap.out];exact ai.out.cnt
   ·rw[<-ap.out];exact bE.out
  case stop=>exact fun _ _ _ _ _ _ h=>h.elim
mutual
def hrT(l:List ByteArray):RT->Bool
 | .mk k T _ _ _ _ s _=>if k=5 then inN T l else hrL l s
def hrL(l:List ByteArray):List RT->Bool
 |[]=>true
 |t::r=>hrT l t&&hrL l r
end
theorem z3l{l:List ByteArray}:∀{s:List RT} (j:Nat) (o:j<s.length),hrT l s[j]=false->hrL l s=false
 |[],j,o,_=>by simp at o
 |t::r,0,_,h=>by rw[hrL,show hrT l t=false from h];rfl
 |t::r,j+1,o,h=>by rw[hrL,z3l j (by simpa using o) h,Bool.and_false]
theorem z3m{l:List ByteArray}:∀{s:List RT},(∀(j:Nat) (o:j<s.length),hrT l s[j]=true)->hrL l s=true
 |[],_=>by rw[hrL]
 |t::r,h=>by rw[hrL,show hrT l t=true from h 0 (by simp),z3m (s:=r) (fun j o=>h (j+1) (by simpa using o))];rfl
theorem y1y(l:List ByteArray)(y:Option Addr)(A D:Nat)(T:zA)(a b c d p:Int)(I:Option Addr)(n U:Nat)(w:World)
  (E:Hid (∀W:World,zB w W->Calls prog 85 #[.agg #[.slice y A D],zT T] W (zR W (zI (fdI T l))))):
  Calls prog 193 #[.agg #[.slice y A D],.agg (r8 5 T a b c d I n U p).toArray] w fun e w'=>e=.returned (.bool (inN T l))/\zB w w':=by
 have h:Hid (∀o r:Obj,zB w ((w.alloc o).alloc r)):=fun o r=>((Below.refl _ w).alloc L0q o).alloc (by simp) r
 obtain⟨v,t⟩:∃v,v=fdI T l:=⟨_,rfl⟩;have V:decide (0<=v)=inN T l:=by
  rw[t];unfold fdI;cases inN T l
  ·simp
  ·simp
 rw[<-t]at E;obtain⟨q,G⟩:∃q,q=inN T l:=⟨_,rfl⟩;rw[<-G]at V ⊢;clear t G;dsimp only[r8];go_enter func193,ntmps193
 go_wp2_with(first|(go_at_call 85;refine(E.out _ (h.out _ _)).mono ?_;rintro e Z ⟨rfl,Y⟩))
 go_ret;exact⟨rfl,(h.out _ _).trans (Y.mono (h.out _ _).size)⟩
theorem y1z(l:List ByteArray)(r:Option Addr)(t y:Nat)(k:Int)(hk:k≠5)(T:zA)(a b c d p:Int)(so:Option Addr)(n ae:Nat)(s:List RT)(w:World)(hn:n<=9223372036854775807)(HN:Hid (n=s.length))
  (HC:Hid (∀j (hj:j<s.length),∃g o,so=some ⟨g,o,none⟩/\g<w.heap.size/\∃A D a1 E c1 G I U V p1,Rc w g (o+j*8) A D a1 E c1 G (.slice I U V) p1/\
    ∀W:World,zB w W->Calls prog 193 #[.agg #[.slice r t y],.agg (r8 A D a1 E c1 G I U V p1).toArray] W (zR W (.bool (hrT l s[j]))))):
  Calls prog 193 #[.agg #[.slice r t y],.agg (r8 k T a b c d so n ae p).toArray] w fun e w'=>e=.returned (.bool (hrL l s))/\zB w w':=by
 have am:(k == 5)=false:=by simp[hk]
 have ao:decide (k=5)=false:=by simp[hk]
 obtain⟨R,hR⟩:∃R,R=hrL l s:=⟨_,rfl⟩;have HR:=hid hR;rw[<-hR];clear hR;obtain⟨Y,Z⟩:∃Y,Y=(w.alloc (.cells #[.slice r t y] 43)).alloc (.cells #[zI k,zT T,zU a,zU b,zU c,zU d,.slice so n ae,zI p] 81):=⟨_,rfl⟩;have ak:Hid (zB w Y):=by rw[Z];exact((Below.refl _ w).alloc L0q _).alloc (by simp) _
 have af:=hid Z;have al:Hid (Y.heap[w.heap.size]? =some (.cells #[.slice r t y] 43)):=by rw[Z];exact(Below.heap_alloc _ _ _ (by simp)).trans (Qx w _ rfl)
 clear Z;dsimp only[r8];go_enter func193,ntmps193
 go_wp2_with fail
 rw[<-af.out];clear af
 go_loopw [18] (fun i wr=>∃j:Nat,i=zI (j:Int)/\j<=n/\Hid (zB w wr)/\Hid (wr.heap[w.heap.size]? =some (.cells #[.slice r t y] 43))/\Hid (∀i (hi:i<s.length),i<j->hrT l s[i]=true)) (fun i _=>n-(intOf i).toNat)
 case atStart=>exact⟨0,rfl,Nat.zero_le _,ak,al,fun i _ h=>absurd h (by omega)⟩
 case round=>
  obtain⟨j,rfl,hj,HB,HG,HO⟩:=hrel;by_cases hjn:j<n
  ·have ap:(j:Int)<(n:Int):=by omega
   have a0:decide ((j:Int)<(n:Int))=true:=by simp;omega
   have ag:j<s.length:=by rw[<-HN.out];exact hjn
   obtain⟨g,o,rfl,hg,A,D,a1,E,c1,G,I,U,V,p1,ah,ai⟩:=HC.out j ag;obtain⟨z0,z1,z2,z3,z4,z5,z6,z7⟩:=ah.below HB.out hg;have aq:g<wr.heap.size:=World.block_lt_of_cell? wr _ z0;obtain⟨q,hq⟩:∃q,q=hrT l s[j]:=⟨_,rfl⟩;have ac:zB w (wr.alloc (.cells #[zI A,zT D,zU a1,zU E,zU c1,zU G,.slice I U V,zI p1] 81)):=HB.out.alloc HB.out.size _;have aj:=(Below.refl _ wr).alloc L0q (.cells #[zI A,zT D,zU a1,zU E,zU c1,zU G,.slice I U V,zI p1] 81);have ad:=hid ((aj.block _ (Qq HG.out)).trans HG.out);obtain⟨g0,_⟩:=Qk ad.out;have lg:=Qq ad.out;have aa:=hid ac;have HS:=hid (ai _ ac);rw[<-hq]at HS;have HQ:=hid hq;clear ai ah hq ac aj;dsimp only[r8]at HS;cases q with
   |false=>
    go_wp2_with(first
     |(go_at_call 193;refine HS.out.mono ?_;rintro e wz ⟨rfl,ab⟩))
    go_ret;refine⟨?_,aa.out.trans (ab.mono aa.out.size)⟩;rw[HR.out,z3l j ag HQ.out.symm];rfl
   |true=>
    go_wp2_with(first
     |(go_at_call 193;refine HS.out.mono ?_;rintro e wz ⟨rfl,ab⟩))
    refine⟨⟨j+1,by go_num,by omega,hid (aa.out.trans (ab.mono aa.out.size)),hid ((ab.block _ lg).trans ad.out),fun i hi ar=> ?_⟩,by simp[intOf];omega⟩;rcases Nat.lt_or_ge i j with h1|h1
    ·exact HO.out i hi h1
    ·obtain rfl:i=j:=by omega
     exact HQ.out.symm
  ·have a0:decide ((j:Int)<(n:Int))=false:=by simp;omega
   clear HC
   go_wp2_with fail
   go_ret;refine⟨?_,HB.out⟩;rw[HR.out,z3m fun i hi=>HO.out i hi (by have:=HN.out;omega)];rfl
theorem z3n(l:List ByteArray)(rs:List Rr)(hl:l=nmL rs)(y:Option Addr)(A D:Nat)(E:Nat):∀(N:Nat) (t:RT) (G:List Value) (B:Nat) (w:World),SizeOf.sizeOf t<N->Qy w B t G->B<=w.heap.size->Qb w E y A rs->E<=w.heap.size->
  Calls prog 193 #[.agg #[.slice y A D],.agg G.toArray] w (zR w (.bool (hrT l t)))
 |0,t,_,_,_,h,_,_,_,_=>by omega
 |N+1,.mk k T a b c d s p,G,B,w,hN,ht,hB,hr,hB0=>by
  rw[Qy]at ht;obtain⟨I,U,rfl,V⟩:=ht;rw[hrT];by_cases hk:k=5
  ·subst hk
   rw[if_pos rfl];refine y1y l y A D T a b c d p I _ U w fun W r=> ?_
   rw[hl];exact Sz T y A D rs E W (hr.below (r.mono hB0)) (Nat.le_trans hB0 r.size)
  ·rw[if_neg hk]
   refine y1z l y A D k hk T a b c d p I _ U s w (Ep V) (Zm s) fun j Y=> ?_
   obtain⟨g,o,Z,h2,k1,T1,a1,b1,c1,d1,aa,n1,ab,p1,h3,h4⟩:=Kw hB V j Y;refine⟨g,o,Z,h2,k1,T1,a1,b1,c1,d1,aa,n1,ab,p1,h3,fun W r=> ?_⟩;have ac:=List.sizeOf_lt_of_mem (List.getElem_mem Y);simp only[RT.mk.sizeOf_spec]at hN;exact z3n l rs hl y A D E N s[j] _ B W (by omega) (h4.below (r.mono hB)) (Nat.le_trans hB r.size) (hr.below (r.mono hB0)) (Nat.le_trans hB0 r.size)
mutual
theorem Qy.mono{w:World}{B B':Nat}(A:B<=B'):∀(t:RT) (r:List Value),Qy w B t r->Qy w B' t r
 | .mk k T a b c d s p,r,h=>by
   rw[Qy]at h ⊢;obtain⟨D,E,rfl,h⟩:=h;refine⟨D,E,rfl,?_⟩;rcases h with y|⟨y,g,o,G,V,I,U⟩
   ·exact .inl y
   ·exact .inr ⟨y,g,o,G,by omega,I,Zq.mono A s g o U⟩
theorem Zq.mono{w:World}{B B':Nat}(h:B<=B'):∀(s:List RT) (g o:Nat),Zq w B g o s->Zq w B' g o s
 |[],g,o,_=>by rw[Zq];trivial
 |t::r,g,o,ht=>by
  rw[Zq]at ht ⊢;obtain⟨⟨y,A,D⟩,E⟩:=ht;exact⟨⟨y,Qy.mono h t y A,D⟩,Zq.mono h r g _ E⟩
end
@[reducible] def bA:zA:={data:=#[97]}
theorem z3o:∀x,x<1->nmS bA=true:=by decide+kernel
@[reducible] def wX (w:World) (k:Int) (T:zA) (a b c d:Int) (so:Option Addr) (n cap:Nat) (p:Int):World:=(w.alloc (.cells #[zI k,zT T,zU a,zU b,zU c,zU d,.slice so n cap,zI p] 81)).alloc (.cells #[zT {data:=#[97]},zI k,zT T,zU a,zU b,zU c,zU d,.slice so n cap,zI p,zI 0] 83)
theorem Ec(w:World)(k:Int)(T:zA)(a b c d:Int)(h:Option Addr)(n o:Nat)(p:Int):zB w (wX w k T a b c d h n o p):=(B0q.alloc L0q _).alloc (by simp) _
theorem y1A{w:World}{k:Int}{T:zA}{a b c d:Int}{h:Option Addr}{n o:Nat}{p:Int}{t:RT}(y:Qy w w.heap.size t (r8 k T a b c d h n o p)):Qb (wX w k T a b c d h n o p) (wX w k T a b c d h n o p).heap.size (some ⟨w.heap.size+1,0,none⟩) 1 [(bA,t,0)]:=by
 have r:=Ec w k T a b c d h n o p;refine⟨rfl,by unfold maxLen;omega,fun j A=>⟨w.heap.size+1,0,rfl,by simp,?_⟩⟩;obtain rfl:j=0:=by simpa using A
 obtain⟨⟨c0,c1,c2,c3,D,E,G,I,U,V⟩,_⟩:=Gp (w:=wX w k T a b c d h n o p) (g:=w.heap.size+1) (Qx _ _ (by simp));exact⟨k,T,a,b,c,d,h,n,o,p,(y.below r).mono r.size _ _,c0,c1,c2,c3,D,E,G,I,U,V⟩
theorem y1B{t:RT}(h:RtZ t):RgZ [(bA,t,0)]:=fun x hx=>by
 obtain rfl:x=(bA,t,0):=by simpa using hx
 exact⟨by show 1<=_;omega,h⟩
theorem y1C(t:RT):okG [(bA,t,0)]=okT t:=by
 unfold okG;rw[List.all_cons,List.all_nil,Bool.and_true];show(true&&(true&&(nmS bA&&okT t)))=okT t;rw[z3o 0 (by decide)];rfl
theorem z3p(k:Int)(T:zA)(a b c d p:Int)(h:Option Addr)(n o:Nat)(w:World)(c0:Int)
  (t:Hid (Calls prog 231 #[.agg #[zS (w.heap.size+1) 1 1]] (wX w k T a b c d h n o p) fun e w'=>e=.returned (.tuple #[zT {data:=#[]},.iface 36 (zI c0)])/\Below (wX w k T a b c d h n o p).heap.size (wX w k T a b c d h n o p) w')):
  Calls prog 192 #[.agg (r8 k T a b c d h n o p).toArray] w fun e w'=>e=.returned (zT {data:=#[]})/\zB w w':=by
 have r:=hid (Ec w k T a b c d h n o p);dsimp only[r8];go_enter func192,ntmps192
 go_wp2_with fail
 refine t.out.mono ?_;rintro e A ⟨rfl,y⟩;have D:Hid (zB w A):=r.out.trans (y.mono r.out.size);clear t y r
 go_wp2_with fail
 go_ret;exact⟨rfl,D.out⟩
theorem y1D(k:Int)(T:zA)(a b c d p:Int)(h:Option Addr)(n o:Nat)(w:World)(X L:zA)(D:L.size=X.size+6)(I:X.size<=8192)(E:Hid (L.extract 5 (X.size+5)=X))
  (y:Hid (Calls prog 231 #[.agg #[zS (w.heap.size+1) 1 1]] (wX w k T a b c d h n o p) fun e w'=>e=.returned (.tuple #[zT L,.nilIface])/\Below (wX w k T a b c d h n o p).heap.size (wX w k T a b c d h n o p) w')):
  Calls prog 192 #[.agg (r8 k T a b c d h n o p).toArray] w fun e w'=>e=.returned (zT X)/\zB w w':=by
 have t:=hid (Ec w k T a b c d h n o p);dsimp only[r8];go_enter func192,ntmps192
 go_wp2_with fail
 refine y.out.mono ?_;rintro e r ⟨rfl,A⟩;have G:Hid (zB w r):=t.out.trans (A.mono t.out.size);have U:(Instr.slice 9 (zT L) (some (zI 5)) (some (zI ((X.size:Int)+6-1))) none).run prog r=.ok (zT X) r:=by
  rw[run_slice_string r 9 L .i64 .i64 5 ((X.size:Int)+6-1) Tryz.underlying9 (by omega) (by omega) (by rw[D];omega)];rw[show((X.size:Int)+6-1).toNat=X.size+5 by omega];exact congrArg (fun q=>Result.ok (Value.string q) r) E.out
 clear y A t
 go_wp2_with fail
 go_ret;exact⟨rfl,G.out⟩
def exS(nd:Nd):zA:=if 8192<sz (pR qT cT [(bA,nd,0)])∨24<dR [(bA,nd,0)]then{data:=#[]}else cat (pN qT cT nd)
theorem y1E(h:Nd):cat (pR qT cT [(bA,h,0)])={data:=([97,32,60,45,32]++((cat (pN qT cT h)).data.toList++[10])).toArray}:=by
 rw[pR,pR,cat,cat,z1v,cat,cat];apply ByteArray.ext;apply Array.ext';simp[bA,bAr,bNl]
theorem y1F(h:Nd):(cat (pR qT cT [(bA,h,0)])).size=(cat (pN qT cT h)).size+6/\(cat (pR qT cT [(bA,h,0)])).extract 5 ((cat (pN qT cT h)).size+5)=cat (pN qT cT h):=by
 obtain⟨X,o⟩:∃X,X=cat (pN qT cT h):=⟨_,rfl⟩;rw[y1E,<-o];have hl:X.data.toList.length=X.size:=by rw[Array.length_toList];rfl
 refine⟨?_,?_⟩
 ·show([97,32,60,45,32]++(X.data.toList++[10])).toArray.size=_
  simp
 ·rw[ByteArray.extract_mk]
  apply ByteArray.ext;apply Array.ext';show List.take (X.size+5-5) (List.drop 5 ([97,32,60,45,32]++(X.data.toList++[10])))=X.data.toList;rw[show X.size+5-5=X.data.toList.length by omega];simp
theorem y1G(k:Int)(T:zA)(a b c d p:Int)(o:Option Addr)(n r:Nat)(t:RT)(h:Nd)(w:World)(D:TabIs w)(Z:Qy w w.heap.size t (r8 k T a b c d o n r p))(hz:RtZ t)(E:Tq t h)(G:Vk h)(I:Wf Nmq h):
  Calls prog 192 #[.agg (r8 k T a b c d o n r p).toArray] w fun e w'=>e=.returned (zT (exS h))/\zB w w':=by
 have hb:=Ec w k T a b c d o n r p;have aa:TqR [(bA,t,0)] [(bA,h,0)]:=by rw[TqR];exact⟨rfl,E,by rw[TqR];trivial⟩
 have hx:∀x∈[((bA,h,0):Rl)],Ruk Nmq x:=fun x hx=>by
  obtain rfl:x=(bA,h,0):=by simpa using hx
  exact⟨z3o 0 (by decide),G,I⟩
 have y:=Rj (some ⟨w.heap.size+1,0,none⟩) 1 1 [(bA,t,0)] [(bA,h,0)] _ (wX w k T a b c d o n r p) (y1B hz) (y1A Z) L0q (by rw[y1C];exact(Rw t h E G I).1) aa hx (D.below hb D.lt);unfold exS;rcases Nat.lt_or_ge 8192 (sz (pR qT cT [(bA,h,0)]))with U|A
 ·rw[Pb U]at y
  rw[if_pos (.inl U)];exact z3p k T a b c d p o n r w 2 y
 rcases Nat.lt_or_ge 24 (dR [(bA,h,0)])with V|ab
 ·rw[Ph A V]at y
  rw[if_pos (.inr V)];exact z3p k T a b c d p o n r w 20 y
 rw[Ej A ab]at y;rw[if_neg (by omega)];have Y:=y1F h;have hs:(cat (pR qT cT [(bA,h,0)])).size<=8192:=by rw[Pq];exact A
 exact y1D k T a b c d p o n r w _ _ Y.1 (by omega) Y.2 y
theorem El{w W W':World}{y y0 y1 y2 y3 r t A D:Value}(h:Hid (zB w W)/\Hid (∃v0 v1 v2:Value,W.heap[w.heap.size+1+1]? =some (.cells #[v0,v1,v2] 210))/\zC W w.heap.size 0 y/\zC W (w.heap.size+1) 0 y0/\zC W (w.heap.size+1) 1 y1/\zC W (w.heap.size+1) 2 y2/\zC W (w.heap.size+1) 3 y3/\zC W (w.heap.size+1) 4 r/\zC W (w.heap.size+1) 5 t/\zC W (w.heap.size+1) 6 A/\zC W (w.heap.size+1) 7 D)(o:zB W W'):Hid (zB w W')/\Hid (∃v0 v1 v2:Value,W'.heap[w.heap.size+1+1]? =some (.cells #[v0,v1,v2] 210))/\zC W' w.heap.size 0 y/\zC W' (w.heap.size+1) 0 y0/\zC W' (w.heap.size+1) 1 y1/\zC W' (w.heap.size+1) 2 y2/\zC W' (w.heap.size+1) 3 y3/\zC W' (w.heap.size+1) 4 r/\zC W' (w.heap.size+1) 5 t/\zC W' (w.heap.size+1) 6 A/\zC W' (w.heap.size+1) 7 D:=by
 obtain⟨E,I,z,U,V,Y,Z,z4,z5,z6,z7⟩:=h;have e:∀{a:Addr} {u:Value},W.cell? a=some u->W'.cell? a=some u:=fun{a u} h=>(o.cell (p:=a) (World.block_lt_of_cell? W _ h)).trans h
 obtain⟨r0,r1,r2,G⟩:=I.out;exact⟨hid (E.out.trans (o.mono E.out.size)),hid ⟨r0,r1,r2,(o.block _ (Qq G)).trans G⟩,e z,e U,e V,e Y,e Z,e z4,e z5,e z6,e z7⟩
theorem y1H{w W:World}{y y0 y1 y2 y3 r t A D x1 x2 x3:Value}(h:Hid (zB w W)/\Hid (∃v0 v1 v2:Value,W.heap[w.heap.size+1+1]? =some (.cells #[v0,v1,v2] 210))/\zC W w.heap.size 0 y/\zC W (w.heap.size+1) 0 y0/\zC W (w.heap.size+1) 1 y1/\zC W (w.heap.size+1) 2 y2/\zC W (w.heap.size+1) 3 y3/\zC W (w.heap.size+1) 4 r/\zC W (w.heap.size+1) 5 t/\zC W (w.heap.size+1) 6 A/\zC W (w.heap.size+1) 7 D)(W':World)(e:W'=((W.setCell ⟨w.heap.size+1+1,0,none⟩ x1).setCell ⟨w.heap.size+1+1,1,none⟩ x2).setCell ⟨w.heap.size+1+1,2,none⟩ x3):Hid (zB w W')/\Hid (∃v0 v1 v2:Value,W'.heap[w.heap.size+1+1]? =some (.cells #[v0,v1,v2] 210))/\zC W' w.heap.size 0 y/\zC W' (w.heap.size+1) 0 y0/\zC W' (w.heap.size+1) 1 y1/\zC W' (w.heap.size+1) 2 y2/\zC W' (w.heap.size+1) 3 y3/\zC W' (w.heap.size+1) 4 r/\zC W' (w.heap.size+1) 5 t/\zC W' (w.heap.size+1) 6 A/\zC W' (w.heap.size+1) 7 D:=by
 obtain⟨E,I,z,U,V,Y,Z,z4,z5,z6,z7⟩:=h;have G:W.grownBy W' (some (w.heap.size+1+1)):=by rw[e];exact Xv _ _ _ _ _
 have k:∀{a:Addr} {u:Value},a.block≠w.heap.size+1+1->W.cell? a=some u->W'.cell? a=some u:=fun{a u} aa h=>(World.cell?_of_block (G.block a.block (World.block_lt_of_cell? W _ h) (fun e=>aa (Option.some.inj e)))).trans h
 obtain⟨r0,r1,r2,hr⟩:=I.out;have hl:∀j,(⟨w.heap.size,j,none⟩:Addr).block≠w.heap.size+1+1:=fun j=>by show w.heap.size≠_;omega
 have o:∀j,(⟨w.heap.size+1,j,none⟩:Addr).block≠w.heap.size+1+1:=fun j=>by show w.heap.size+1≠_;omega
 exact⟨hid (E.out.grown G E.out.size (fun g e=>by have:=Option.some.inj e;omega)),hid ⟨x1,x2,x3,by rw[e];exact Ym hr⟩,k (hl _) z,k (o _) U,k (o _) V,k (o _) Y,k (o _) Z,k (o _) z4,k (o _) z5,k (o _) z6,k (o _) z7⟩
theorem y1I{w W W':World}{p:Prop}(h:Hid (zB w W)/\Hid (∃v0 v1 v2:Value,W.heap[w.heap.size+1+1]? =some (.cells #[v0,v1,v2] 210))/\p)(o:zB W W'):Hid (zB w W')/\Hid (∃v0 v1 v2:Value,W'.heap[w.heap.size+1+1]? =some (.cells #[v0,v1,v2] 210)):=by
 obtain⟨t,y,A,r⟩:=h.2.1.out;exact⟨hid (h.1.out.trans (o.mono h.1.out.size)),hid ⟨t,y,A,(o.block _ (Qq r)).trans r⟩⟩
theorem Zh.kept{X:Option (Int ⊕ (Int×Int))}{S R:Nat}{w w':World}{v:Value}(h:Zh X S w v)(r:w.grownBy w' (some R))(A:R<S):Zh X S w' v:=by
 unfold Zh at h ⊢
 match X,h with
 |none,h=>exact h
 |some (.inl c),h=>exact h
 |some (.inr q),h=>
  obtain⟨g,t,y,o⟩:=h;exact⟨g,t,y,(r.block g (Qq o) (fun e=>by have:=Option.some.inj e;omega)).trans o⟩
theorem y1J(h:Option Addr)(n o:Nat)(rs:List Rr)(k:Int)(T:zA)(a b c d:Int)(r:Option Addr)(A D:Nat)(p:Int)(t:RT)(w:World)(V:zA)(hV:V.toList.isEmpty=false)
  (HC:Hid (∀W:World,zB w W->Calls prog 152 #[.agg #[.slice h n o]] W fun e w'=>e=.returned .nilIface/\zB W w'))
  (HE:Hid (∀W:World,zB w W->Calls prog 192 #[.agg #[zI k,zT T,zU a,zU b,zU c,zU d,.slice r A D,zI p]] W (zR W (zT V))))
  (HH:Hid (∀W:World,zB w W->Calls prog 193 #[.agg #[.slice h n o],.agg #[zI k,zT T,zU a,zU b,zU c,zU d,.slice r A D,zI p]] W (zR W (.bool true))))
  (HL:Hid (∀W:World,zB w W->Calls prog 153 #[.agg #[.slice h n o]] W (LsP rs W)))
  (HU:Hid (∀(W:World) (M nn m:Nat),zB w W->Nm W M nn (itr rs m)->Calls prog 191 #[.map (some M),.agg #[zI k,zT T,zU a,zU b,zU c,zU d,.slice r A D,zI p]] W fun e w'=>e=.returned (ov (ofT (itr rs m) t))/\Hid (zB W w'))):
  Calls prog 155 #[.agg #[.slice h n o],.agg #[zI k,zT T,zU a,zU b,zU c,zU d,.slice r A D,zI p]] w fun e w'=>∃m,Xk (itr rs m) rs/\e=.returned (.tuple #[ov (ofT (itr rs m) t),.nilIface])/\zB w w':=by
 obtain⟨E,G⟩:∃E,E=((w.alloc (.cells #[.slice h n o] 43)).alloc (.cells #[zI k,zT T,zU a,zU b,zU c,zU d,.slice r A D,zI p] 81)).alloc (.cells #[.bool false,.bool false,.bool false] 210):=⟨_,rfl⟩;have ad:zB w E:=by rw[G];exact(((Below.refl _ w).alloc L0q _).alloc (by simp) _).alloc (by simp;omega) _
 have am:E.heap[w.heap.size+1+1]? =some (.cells #[.bool false,.bool false,.bool false] 210):=by rw[G];exact Qx _ _ (by simp)
 have ao:E.heap[w.heap.size]? =some (.cells #[.slice h n o] 43):=by rw[G];exact(Below.heap_alloc _ _ _ (by simp;omega)).trans ((Below.heap_alloc _ _ _ (by simp)).trans (Qx w _ rfl))
 have ap:E.heap[w.heap.size+1]? =some (.cells #[zI k,zT T,zU a,zU b,zU c,zU d,.slice r A D,zI p] 81):=by rw[G];exact(Below.heap_alloc _ _ _ (by simp)).trans (Qx _ _ (by simp))
 have HS:=hid (HC.out E ad);have ae:=hid ad;have aq:=hid G;have af:=hid am;have ag:=hid ao;have ah:=hid ap;clear G ad HC am ao ap;go_enter func155,ntmps155
 go_wp2_with fail
 rw[<-aq.out];refine HS.out.mono ?_;rintro e w2 ⟨rfl,I⟩;have U:=hid (ae.out.trans (I.mono ae.out.size));have Y:=hid ((I.block _ (Qq af.out)).trans af.out);have ai:=hid ((I.block _ (Qq ag.out)).trans ag.out);have aj:=hid ((I.block _ (Qq ah.out)).trans ah.out);obtain⟨g0,_⟩:=Qk ai.out;obtain⟨⟨n0,ar,n2,n3,n4,n5,n6,n7⟩,_⟩:=Qg aj.out;have lg:=Qq ai.out;have ln:=Qq aj.out;have S2:Hid ((fun W:World=>Hid (zB w W)/\Hid (∃v0 v1 v2:Value,W.heap[w.heap.size+1+1]? =some (.cells #[v0,v1,v2] 210))/\zC W w.heap.size 0 (.slice h n o)/\zC W (w.heap.size+1) 0 (zI k)/\zC W (w.heap.size+1) 1 (zT T)/\zC W (w.heap.size+1) 2 (zU a)/\zC W (w.heap.size+1) 3 (zU b)/\zC W (w.heap.size+1) 4 (zU c)/\zC W (w.heap.size+1) 5 (zU d)/\zC W (w.heap.size+1) 6 (.slice r A D)/\zC W (w.heap.size+1) 7 (zI p)) w2):=⟨U,hid ⟨_,_,_,Y.out⟩,g0,n0,ar,n2,n3,n4,n5,n6,n7⟩;clear I HS aq af ae ag ah
 go_wp2_with(first
  |(go_at_call 192;refine(HE.out _ U.out).mono ?_;rintro e w3 ⟨rfl,Z⟩;have aa:=hid (U.out.trans (Z.mono U.out.size));have ak:=hid ((Z.block _ (Qq Y.out)).trans Y.out);have S3:=hid (El S2.out Z);obtain⟨-,-,g3,m0,m1,m2,m3,m4,m5,m6,m7⟩:=S3.out)
  |(go_at_call 193;refine(HH.out _ aa.out).mono ?_;rintro e w4 ⟨rfl,ab⟩;have ax:=hid (aa.out.trans (ab.mono aa.out.size));have ac:=(ab.block _ (Qq ak.out)).trans ak.out;obtain⟨⟨u0,u1,u2⟩,f0,f1,f2⟩:=Zz ac;have lr:=Qq ac;have ay:=hid ac;clear ac))
 have S4:=El (El S3.out ab) (show zB w4 w4.drew from B0q.drew);clear HE HH U Y ai aj S2 S3 g0 n0 ar n2 n3 n4 n5 n6 n7 g3 m0 m1 m2 m3 m4 m5 m6 m7 Z ab aa ak ax ay u0 u1 u2 f0 f1 f2 lr lg ln
 go_region_held3 (fun W:World=>Hid (zB w W)/\Hid (∃v0 v1 v2:Value,W.heap[w.heap.size+1+1]? =some (.cells #[v0,v1,v2] 210))/\zC W w.heap.size 0 (.slice h n o)/\zC W (w.heap.size+1) 0 (zI k)/\zC W (w.heap.size+1) 1 (zT T)/\zC W (w.heap.size+1) 2 (zU a)/\zC W (w.heap.size+1) 3 (zU b)/\zC W (w.heap.size+1) 4 (zU c)/\zC W (w.heap.size+1) 5 (zU d)/\zC W (w.heap.size+1) 6 (.slice r A D)/\zC W (w.heap.size+1) 7 (zI p)) (first|(with_reducible assumption)|(with_reducible exact El (by assumption) (by assumption))|(with_reducible exact y1H (by assumption) _ rfl)) (first
  |(go_at_call 153;refine(HL.out _ (Fj (by assumption))).mono ?_;rintro e w5 ⟨M,nn,m,rfl,hM,au,av,az⟩;have aA:=hid (Below.trans (Fj (by assumption)) (az.mono (Below.size (Fj (by assumption)))));obtain⟨⟨y1,y2,y3⟩,hy⟩:∃y,y=ofT (itr rs m) t:=⟨_,rfl⟩;have al:=hid (HU.out w5 M nn m aA.out au);rw[<-hy]at al;dsimp only[ov]at al;have aB:=hid av;have HY:=hid hy;clear au av hy)
  |(go_at_call 191;refine al.out.mono ?_;rintro e w6 ⟨rfl,aC⟩;have aD:=aC.out;obtain⟨aw,aE⟩:=y1I (by assumption) aD;obtain⟨q0,q1,q2,hq⟩:=aE.out;obtain⟨⟨u0,u1,u2⟩,f0,f1,f2⟩:=Zz hq;have lr:=Qq hq;have aF:=hid hq;clear hq))
 obtain⟨⟨r0,r1,r2⟩,_⟩:=Zz (Ym (v0:=.bool y1) (v1:=.bool y2) (v2:=.bool y3) aF.out)
 go_wp2_with fail
 refine bodyPost_ret (v:=.tuple #[.agg #[.bool y1,.bool y2,.bool y3],.nilIface]) (by simp[results,Tryz.results155,go_sem,r0,r1,r2]) rfl ?_;exact⟨m,aB.out,by rw[<-HY.out],aw.out.grown (Xv _ _ _ _ _) aw.out.size (fun g e=>by have:=Option.some.inj e;omega)⟩
theorem y1K(k:Nat)(A:k<=1048576)(W:World):(Instr.makeSlice 41 (zI 0) (zI (k:Int))).run prog W=.ok (zS W.heap.size 0 k) (W.alloc (.cells (madeCells #[zT {data:=#[]},zI 0,zT {data:=#[]},zU 0,zU 0,zU 0,zU 0,.slice none 0 0,zI 0,zI 0] (k*10)) 83)):=by
 obtain⟨h,o,r,t,y⟩:=info_parts Tryz.infoRl;rw[run_make W 41 83 h _ Tryz.underlying41 o r .i64 .i64 0 k (by omega) (by omega) (by rw[y];omega) (by omega),t];simp[Value.cells]
structure PqR (w2:World) (j:Nat) (ps:List Rr) (xs:List Value) (a:Value) (W:World):Prop where
 be:zB w2 W
 ow:W.ownsRow w2.heap.size 83 10 a j xs
 rq:Zk W (fun g=>w2.heap.size<=g) (ps.take j) xs
theorem PqR.step{A:World}{j:Nat}{D:List Rr}{xs G:List Value}{a Y:Value}{wr t W4 E:World}{x:Rr}
  (h:PqR A j D xs a wr)(hj:j<D.length)(hx:x=D[j])(y:zB wr t)(r:RqR t (fun g=>wr.heap.size<=g) x G)
  (I:zB t W4)(ad:E.ownsRow A.heap.size 83 10 Y (j+1) (xs++G))(Z:W4.grownBy E a.ownBlock):PqR A (j+1) D (xs++G) Y E:=by
 have ae:=h.be.size;have af:=y.size;have ag:=I.size;have aa:=h.be.trans ((y.trans (I.mono af)).mono ae);have ab:∀g o,g<t.heap.size->A.heap.size<=g->zH t g (.cells o 81)->E.heap[g]? =t.heap[g]? :=fun g o U h3 h5=>by
  refine(Z.block g (by omega) (fun e=> ?_)).trans (I.block g U);have hl:=(h.ow.lt g e.symm).2;have h6:zH wr g (.cells o 81):=(y.block g hl).symm.trans h5;exact Fq h.ow h6 (fun o e=>by cases e) e.symm
 refine⟨aa.grown Z aa.size (fun j ej=>(h.ow.lt j ej).1),ad,?_⟩;rw[List.take_succ_eq_append_getElem hj,<-hx];refine Zk.append _ _ _ _ (Zk.kept (fun g o V r=> ?_) _ _ h.rq) (by rw[List.length_take,Nat.min_eq_left (by omega)];exact h.ow.1) ?_
 ·have ac:=Qq r
  exact⟨(ab g o (by omega) V ((y.block g ac).trans r)).trans (y.block g ac),V⟩
 ·obtain⟨c,U,h2⟩:=r
  exact⟨c,U,Zv.kept (fun g o V r=>⟨ab g o (Qq r) (by omega) r,by omega⟩) _ _ h2⟩
theorem z3q{rs:List Rr}(h:ckR rs=none):∀x∈rs,∀y∈rs,y.1=x.1->y=x:=fun x hx y o e=>by
 obtain⟨i,r,rfl⟩:=List.getElem_of_mem hx;obtain⟨j,t,rfl⟩:=List.getElem_of_mem o;have A:=z2L h i r;have D:=z2L h j t;rw[e,A]at D;obtain rfl:i=j:=by omega
 rfl
theorem Fk{rs:List Rr}(h:okG rs=true):∀x∈rs,nmS x.1=true/\okT x.2.1=true:=fun x hx=>by
 unfold okG at h;rw[Bool.and_eq_true,Bool.and_eq_true]at h;have:=List.all_eq_true.1 h.2.2 x hx;unfold okR at this;rw[Bool.and_eq_true]at this;exact this
theorem y1L{V:zA}(h:V.size≠0):V.toList.isEmpty=false:=by
 cases e:V.toList with
 |nil=>
  exfalso;apply h;have:=congrArg List.length e;rw[ByteArray.toList_eq]at this;simpa using this
 |cons x r=>rfl
theorem z3r(o:Option Addr)(n r:Nat)(rs:List Rr)(B:Nat)(W:World)(h:Qb W B o n rs)(y:B<=W.heap.size)(A:RgZ rs)(t:okG rs=true)(D:ckR rs=none):Calls prog 153 #[.agg #[.slice o n r]] W (LsP rs W):=
 callsIn_wide.1 (y1x o n r rs W (h.upto y) A (fun x hx=>(Fk t x hx).2) (z3q D) (Jm t).2 0)
end Go.Proofs.YtgnkkgcgbeianaaGreatDoor
