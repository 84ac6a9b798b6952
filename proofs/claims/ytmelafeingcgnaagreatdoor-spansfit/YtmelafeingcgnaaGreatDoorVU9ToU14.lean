/- Lemmas for the last text. Conditions: those that each names. -/
import Derived.Test.YtmelafeingcgnaaGreatDoorVR8ToU1
import Derived.Test.YtmelafeingcgnaaGreatDoorVF1ToO4
import Derived.Test.YtmelafeingcgnaaGreatDoorVS9ToO18
import Derived.Test.YtmelafeingcgnaaGreatDoorVU3ToU8
import Derived.Test.YtmelafeingcgnaaGreatDoorVO19ToU2
set_option linter.unusedVariables false
set_option maxRecDepth 100000
set_option maxHeartbeats 8000000
namespace Go.Proofs.YtmelafeingcgnaaGreatDoor
open Go.Proofs.Tryz
section
open Go.RowKit Go.Shelf
section
variable {F:Fence} {n:Nat} {P:Program} {Q:Exit->Act->World->Prop} {a:Act} {w:World}
open Classical in
theorem y1D{c:Code}(I:Nat->Act->World->Prop)(D:Nat)(V:I D a w)(Y:∀k a w,I k a w->c.wpIn F n P (Exit.then (fun E w'=>∃k',k'<k/\I k' E w') Q) a w):(Code.loop c).wpIn F n P Q a w:=by
 have Z:∀(k:Nat) (a:Act) (w:World),I k a w->∃m,I m a w/\∀j,I j a w->m<=j:=by
  intro k
  induction k using Nat.strongRecOn with
  |_ k ih=>
   intro a w h;by_cases hk:∃j,j<k/\I j a w
   ·obtain⟨j,r,o⟩:=hk
    exact ih j r a w o
   ·exact⟨k,h,fun j r=>Nat.le_of_not_lt fun y=>hk ⟨j,y,r⟩⟩
 let μ:Act->World->Nat:=fun a w=>if h:∃m,I m a w/\∀j,I j a w->m<=j then Classical.choose h else 0
 have G:∀k a w,I k a w->I (μ a w) a w/\μ a w<=k:=fun k a w h=>by
  have A:=Z k a w h;have U:=Classical.choose_spec A;have e:μ a w=Classical.choose A:=dif_pos A;rw[e];exact⟨U.1,U.2 k h⟩
 refine wpIn_loop (fun a w=>∃k,I k a w) μ ⟨D,V⟩ ?_;rintro a w ⟨k,h⟩;refine Code.wpIn_mono (fun e E w' q=> ?_) (Y (μ a w) a w (G k a w h).1);cases e<;>first
  |exact q
  |(obtain⟨k',y,o⟩:=q;exact⟨⟨k',o⟩,Nat.lt_of_le_of_lt (G k' _ _ o).2 y⟩)
end
theorem z3l(K:zA->Ot):∀rs:List Rr,rs.reverse.foldl Yy K=swp K rs
 |[]=>rfl
 |x::r=>by rw[List.reverse_cons,List.foldl_append,z3l K r,swp];rfl
structure Rnd (rs:List Rr) (K0 K:zA->Ot) (l:List Rr) (b:Bool) (n:Nat):Prop where
 k:K=l.foldl Yy K0
 inv:Fm K rs
 le:lck K rs<=lck K0 rs
 no:b=false->K=K0/\∀x∈l,ofT K0 x.2.1=K0 x.1
 yes:b=true->lck K rs<lck K0 rs
 cnt:n+lck K rs<=3*rs.length
section
variable {rs:List Rr} {K0 K:ByteArray->Ot} {l:List Rr} {b:Bool} {n:Nat}
theorem Rnd.start(h:Fm K0 rs)(o:n+lck K0 rs<=3*rs.length):Rnd rs K0 K0 [] false n:=⟨rfl,h,Nat.le_refl _,fun _=>⟨rfl,fun x hx=>by simp at hx⟩,(fun h=>by cases h),o⟩
theorem Rnd.same(h:Rnd rs K0 K l b n){x:Rr}(e:ofT K x.2.1=K x.1):Rnd rs K0 K (l++[x]) b n:=by
 refine⟨?_,h.inv,h.le,fun r=>⟨(h.no r).1,fun y o=> ?_⟩,h.yes,h.cnt⟩
 ·rw[List.foldl_append,<-h.k,List.foldl_cons,List.foldl_nil,Yy]
  exact(z2b e).symm
 ·rcases List.mem_append.1 o with o|o
  ·exact(h.no r).2 y o
  ·obtain rfl:y=x:=by simpa using o
   rw[<-(h.no r).1];exact e
theorem Rnd.new(h:Rnd rs K0 K l b n){x:Rr}(hx:x∈rs)(A:∀y∈rs,y.1=x.1->y=x)(e:ofT K x.2.1≠K x.1):Rnd rs K0 (Jk K x.1 (ofT K x.2.1)) (l++[x]) true (n+1):=by
 have D:=z2d (h.inv x hx);have o:lck (Yy K x) rs<lck K rs:=z2h D hx (fun h=>e (by
  unfold Yy Jk at h;rw[if_pos rfl]at h;exact h.symm))
 have r:=h.le;have E:=h.cnt;refine⟨?_,y0a A hx h.inv,?_,(fun h=>by cases h),fun _=> ?_,?_⟩
 ·rw[List.foldl_append,<-h.k]
  rfl
 ·exact Nat.le_trans (Nat.le_of_lt o) r
 ·exact Nat.lt_of_lt_of_le o r
 ·show n+1+lck (Yy K x) rs<=_
  omega
theorem Rnd.last(h:Rnd rs K0 K rs.reverse b n):K=swp K0 rs:=h.k.trans (z3l K0 rs)
theorem Rnd.fix(h:Rnd rs K0 K rs.reverse false n):K=K0/\Xq K0 rs:=⟨(h.no rfl).1,fun x hx=>(h.no rfl).2 x (List.mem_reverse.2 hx)⟩
end
theorem z3m(rs:List Rr):Fm z0O rs:=fun x hx=>rfl
theorem z3n:∀rs:List Rr,lck z0O rs=3*rs.length
 |[]=>rfl
 |x::r=>by rw[lck,z3n r,List.length_cons];show 3-0+_=_;omega
theorem y1E{α β:Type}(f:β->Nat)(g:β->α)(rs:List α)(xs:List β)(h:xs.map f=(List.range rs.length).reverse)(e:∀x∈xs,rs[f x]? =some (g x)):xs.map g=rs.reverse:=by
 have o:(xs.map f).map (fun i=>rs[i]?)=xs.map (fun x=>some (g x)):=by
  rw[List.map_map];exact List.map_congr_left fun x hx=>e x hx
 have r:(List.range rs.length).map (fun i=>rs[i]?)=rs.map some:=by
  apply List.ext_getElem
  ·simp
  ·intro i o r
   simp at o;simp[o]
 rw[h,List.map_reverse,r,<-List.map_reverse]at o;have A:(xs.map g).map some=(rs.reverse).map some:=by rw[o,List.map_map];rfl
 exact(List.map_inj_right (fun x y e=>Option.some.inj e)).1 A
end
section
open Go.RowKit Go.Shelf
attribute [local go_sem] Oper.semAt_some
structure Bx (w:World) (B:Nat) (rs:List Rr) where
 i:Nat
 N:zA
 t:RT
 q:Int
 k:Int
 T:zA
 a:Int
 b:Int
 c:Int
 d:Int
 so:Option Addr
 n:Nat
 cap:Nat
 p:Int
 e:rs[i]? =some (N,t,q)
 rt:Qw w B t (r8 k T a b c d so n cap p)
section
variable {w:World} {B:Nat} {rs:List Rr}
@[reducible] def Bx.v (x:Bx w B rs):Value:=.agg #[zT x.N,zI x.k,zT x.T,zU x.a,zU x.b,zU x.c,zU x.d,.slice x.so x.n x.cap,zI x.p,zI x.q]
@[reducible] def Bx.vs (x:Bx w B rs):Array Value:=#[zI (x.i:Int),x.v]
def Bx.r(x:Bx w B rs):Rr:=(x.N,x.t,x.q)
end
def Kb(B Bt:Nat)(W W':World):Prop:=W.heap.size<=W'.heap.size/\(∀j,j<B->∀o,W.heap[j]? =some o->W'.heap[j]? =some o)/\∀o,W.heap[Bt]? =some o->W'.heap[Bt]? =some o
section
variable {B Bt:Nat}
theorem Kb.trans{A C D:World}(h:Kb B Bt A C)(k:Kb B Bt C D):Kb B Bt A D:=⟨Nat.le_trans h.1 k.1,fun j y o r=>k.2.1 j y o (h.2.1 j y o r),fun o r=>k.2.2 o (h.2.2 o r)⟩
theorem Kb.below{W W':World}(h:zB W W'):Kb B Bt W W':=⟨h.size,fun j _ o r=>(h.block j (Array.getElem?_eq_some_iff.1 r).1).trans r,fun o r=>(h.block _ (Array.getElem?_eq_some_iff.1 r).1).trans r⟩
theorem Kb.alloc(W:World)(o:Obj):Kb B Bt W (W.alloc o):=Kb.below ((Below.refl _ W).alloc L0q o)
theorem Kb.grown{W W':World}{row:Option Nat}(h:W.grownBy W' row)(A:∀r,row=some r->B<=r/\r≠Bt):Kb B Bt W W':=⟨h.size,fun j D o y=>(h.block j (Array.getElem?_eq_some_iff.1 y).1 (fun e=>by have:=(A j e.symm).1;omega)).trans y,fun o y=>(h.block Bt (Array.getElem?_eq_some_iff.1 y).1 (fun e=>(A Bt e.symm).2 rfl)).trans y⟩
theorem Kb.cell{W W':World}(h:Kb B Bt W W'){g o:Nat}{u:Value}(y:g<B)(r:zC W g o u):zC W' g o u:=by
 have hl:=World.block_lt_of_cell? W _ r;have e:W'.heap[g]? =W.heap[g]? :=(h.2.1 g y _ (Array.getElem?_eq_getElem hl)).trans (Array.getElem?_eq_getElem hl).symm;exact(World.cell?_of_block (w:=W) (a:=⟨g,o,none⟩) e).trans r
end
structure Yb (w:World) (B Bt:Nat) (rs:List Rr) (l N:Nat) (J Jx:List (Bx w B rs)->World->Prop):Prop where
 call:∀m pre (x:Bx w B rs) W,J pre W->pre.length<N->YieldAt Fence.wide m prog l x.vs W fun e W'=>
  (e=.returned (.bool true)/\J (pre++[x]) W'/\Kb B Bt W W')∨(e=.returned (.bool false)/\Jx (pre++[x]) W')
section
variable {w:World} {B Bt:Nat} {rs:List Rr} {l:Nat} {J Jx:List (Bx w B rs)->World->Prop}
theorem y1F(n U:Nat)(hY:Yb w B Bt rs l n J Jx)(V:Option Addr)(m:Nat)(W:World)(h:Qg w B V n rs)(Y:Boxed w Bt 49 (.slice V n U))(hW:zB w W)(hJ:J [] W):
  CallsIn Fence.wide m prog 238 #[.func (.yield l) #[] #[],zP Bt 0] W fun e W'=>(∃v,e=.returned v)/\((∃q:List (Bx w B rs),q.map Bx.i=(List.range n).reverse/\J q W')∨∃q:List (Bx w B rs),Jx q W'):=by
 have ae:=Xw;have Z:Kb B Bt w W:=Kb.below hW;have af:=hid Z;have hn:n<=9223372036854775807:=by have:=h.2.1;unfold maxLen at this;omega
 have HR:=hid h.2.2;have ag:Hid (n=rs.length):=h.1;have cb:zC W Bt 0 (.slice V n U):=Boxed.cell (show W.heap[Bt]? =_ from Z.2.2 _ Y);have ah:=hid Y;have HY:=hid hY;have HJ:=hid hJ;clear Z h hW hY hJ Y;refine callsIn_of_wp func238 rfl trivial ?_ rfl;simp only[ntmps238,List.size_toArray,List.length_cons,List.length_nil,Nat.reduceAdd,Nat.reduceSub,Array.replicate_succ,Array.replicate_zero,List.push_toArray,List.append_toArray,List.nil_append,List.cons_append]
 gi_wp2
 clear cb
 gi_loopw [3] (fun i wr=>∃r:Nat,i=zI ((r:Int)-1)/\r<=n/\Hid (∃q:List (Bx w B rs),q.map Bx.i=((List.range n).drop r).reverse/\J q wr)/\Hid (Kb B Bt w wr)) (fun i _=>(intOf i+1).toNat)
 case atStart=>exact⟨n,rfl,Nat.le_refl _,hid ⟨[],by simp,HJ.out⟩,af⟩
 case round=>
  obtain⟨r,rfl,hr,E,y⟩:=hrel;cases r with
  |zero=>
   have a0:decide ((0:Int)<=((0:Nat):Int)-1)=false:=by decide
   obtain⟨q,D,G⟩:=E.out;clear E
   gi_wp2
   go_end0
   exact⟨⟨_,rfl⟩,.inl ⟨q,by simpa using D,G⟩⟩
  |succ r=>
   have e:((r+1:Nat):Int)-1=(r:Int):=by omega
   rw[e];clear e;have a0:decide ((0:Int)<=(r:Int))=true:=by simp
   have ap:(r:Int)<(n:Int):=by omega
   have hw:IntKind.i64.wrap ((r:Int)-1)=(r:Int)-1:=by rw[IntKind.wrap_i64];omega
   have aa:r<rs.length:=by rw[<-ag.out];omega
   obtain⟨g,o,rfl,A,k1,T1,a1,b1,c1,d1,ai,n1,aj,p1,ak,z0,z1,z2,z3,z4,z5,z6,z7,z8,z9⟩:=HR.out r aa;have x0:=y.out.cell A z0;have x1:=y.out.cell A z1;have x2:=y.out.cell A z2;have x3:=y.out.cell A z3;have x4:=y.out.cell A z4;have x5:=y.out.cell A z5;have x6:=y.out.cell A z6;have x7:=y.out.cell A z7;have x8:=y.out.cell A z8;have x9:=y.out.cell A z9;have aq:g<wr.heap.size:=World.block_lt_of_cell? wr _ x0;have cb:zC wr Bt 0 (.slice (some ⟨g,o,none⟩) n U):=Boxed.cell (show wr.heap[Bt]? =_ from y.out.2.2 _ ah.out);obtain⟨q,D,G⟩:=E.out;have ab:q.length<n:=by
    have:=congrArg List.length D;simp at this;omega
   obtain⟨fn,ar,au,Qm,hy,hR⟩:=HY.out.call (m-1) q ⟨r,rs[r].1,rs[r].2.1,rs[r].2.2,k1,T1,a1,b1,c1,d1,ai,n1,aj,p1,List.getElem?_eq_getElem aa,ak⟩ wr G ab;have ac:=hid hR;have HQ:Hid (q.map Bx.i=((List.range n).drop (r+1)).reverse):=D;clear hR D G ab E z0 z1 z2 z3 z4 z5 z6 z7 z8 z9;dsimp only[Bx.vs,Bx.v]at hy;have ad:(List.range n).drop r=r::(List.range n).drop (r+1):=by
    rw[List.drop_eq_getElem_cons (by simp;omega)];simp
   have HD:=hid ad;clear ad
   gi_wp2
   refine⟨ae _,ac.out.mono ?_⟩;clear ac hy x0 x1 x2 x3 x4 x5 x6 x7 x8 x9 cb;rintro e W4 (⟨rfl,al,am⟩|⟨rfl,ao⟩)
   ·gi_wp2
    go_roundw
    case rel=>exact⟨r,rfl,by omega,hid ⟨_,by rw[List.map_append,HQ.out,HD.out];simp,al⟩,hid (y.out.trans am)⟩
    case measure=>simp[intOf]
   ·gi_wp2
    refine bodyPost_ret (results_none rfl _ _ _) rfl ?_;exact⟨⟨_,rfl⟩,.inr ⟨_,ao⟩⟩
end
theorem y1G{w:World}{B Bt:Nat}{rs:List Rr}(n A:Nat)(o:Option Addr)(m:Nat)(h:Qg w B o n rs)(D:Boxed w Bt 49 (.slice o n A)):
  SeqStopsK Fence.wide m prog 238 #[zP Bt 0] (fun x:Bx w B rs=>x.vs) (Kb B Bt) (fun E=>E.map Bx.i=(List.range n).reverse) (fun _=>True) n w:=by
 intro l J Jx W G hJ ab U V;have Y:Yb w B Bt rs l n J Jx:=⟨fun Z aa x W1 h hl=>by
  refine YieldAt.mono (Px rfl Z (U aa x W1 h hl)) fun e' W' hh=> ?_
  rcases hh with⟨r,y,h3⟩|⟨r,y⟩
  ·exact .inl ⟨r,y,h3⟩
  ·exact .inr ⟨r,y⟩⟩
 refine(y1F n A Y o m W h D G V).mono fun e W' h=> ?_
 refine⟨h.1,?_⟩;rcases h.2 with h|⟨q,h⟩
 ·exact .inl h
 ·exact .inr ⟨q,trivial,h⟩
theorem y1H(m:Nat)(h:Option Addr)(n o:Nat)(w:World):CallsIn Fence.wide m prog 202 #[.slice h n o] w fun e w'=>e=.returned (.func (.func 238) #[] #[zP w.heap.size 0])/\w'=w.alloc (.cells #[.slice h n o] 49):=by
 refine callsIn_of_wp func202 rfl trivial ?_ rfl;simp only[ntmps202,List.size_toArray,List.length_cons,List.length_nil,Nat.reduceAdd,Nat.reduceSub,Array.replicate_succ,Array.replicate_zero,List.push_toArray,List.append_toArray,List.nil_append,List.cons_append]
 gi_wp2
 go_ret;exact⟨rfl,rfl⟩
end
open Go.RowKit Go.Shelf Go.Maps
attribute [local go_sem] Oper.semAt_some
theorem y1I(n:Int)(w:World):(Instr.makeMap 293 (some (zI n))).run prog w=.ok (.map (some w.heap.size)) (w.alloc (.map #[] 0)):=by kernel_rfl
theorem y1J(x y:Ot)(w:World):(Op.equalIn 10000 264 (ov x) (ov y)).run prog w=.ok (decide (x=y)) w:=by
 obtain⟨a,b,c⟩:=x;obtain⟨d,e,f⟩:=y;cases a<;>cases b<;>cases c<;>cases d<;>cases e<;>cases f<;>kernel_rfl
structure Kl (w:World) (M n cap:Nat) (so:Option Addr) (W:World):Prop where
 be:zB w W
 g:W.heap[w.heap.size]? =some (.cells #[.slice so n cap] 51)
 b:W.heap[M+1]? =some (.cells #[.map (some M)] 293)
theorem Kl.lt{w W:World}{M n o:Nat}{r:Option Addr}(h:Kl w M n o r W):M+1<W.heap.size:=Qq h.b
theorem Kl.below{w W W':World}{M n r S:Nat}{y:Option Addr}(h:Kl w M n r y W)(o:Below S W W')(A:w.heap.size<S)(D:M+1<S):Kl w M n r y W':=
 ⟨h.be.trans (o.mono (by omega)),(o.block _ A).trans h.g,(o.block _ D).trans h.b⟩
theorem Kl.grown{w W W':World}{M n y r:Nat}{A:Option Addr}(h:Kl w M n y A W)(o:W.grownBy W' (some r))(E:w.heap.size<r)(D:r≠M+1):Kl w M n y A W':=
 ⟨h.be.grown o h.be.size (fun g e=>by have:=Option.some.inj e;omega),(o.block _ (Qq h.g) (fun e=>by have:=Option.some.inj e;omega)).trans h.g,(o.block _ (Qq h.b) (fun e=>D (Option.some.inj e).symm)).trans h.b⟩
theorem Dk.nm{base:Nat}{w w':World}{B n:Nat}{K:zA->Ot}(h:Dk base w w')(o:Nm w B n K):Nm w' B n K:=by
 obtain⟨D,⟨r,y,A,E,G,U⟩,V⟩:=o;exact⟨D,⟨r,y,h.2 B _ A (fun l e=>by cases e),E,G,U⟩,V⟩
theorem Nm.obj{W:World}{B n:Nat}{K:zA->Ot}(h:Nm W B n K):∃o r,zH W B (.map o r):=by
 obtain⟨D,⟨o,r,y,_⟩,_⟩:=h;exact⟨o,r,y⟩
def LsP(rs:List Rr)(w:World)(e:Ending)(w':World):Prop:=∃M nn m,e=.returned (.map (some M))/\w.heap.size<=M/\Nm w' M nn (itr rs m)/\Xq (itr rs m) rs/\zB w w'
def LsI(rs:List Rr)(w:World)(M n cap:Nat)(so:Option Addr)(k ib:Nat)(b:Bool)(ds:List Deferred)(W:World):Prop:=∃nn m,Nm W M nn (itr rs m)/\Fm (itr rs m) rs/\nn+lck (itr rs m) rs<=3*rs.length/\Kl w M n cap so W/\W.heap[ib]? =some (.cells #[.bool b] 4)/\M+1<ib/\(b=false->Xq (itr rs m) rs)/\Mks w.heap.size W.heap.size ds W/\k=(if b then lck (itr rs m) rs+1 else 0)
def LsJ(rs:List Rr)(w w4:World)(M n cap:Nat)(so:Option Addr)(K0:zA->Ot)(ib:Nat)(ds:List Deferred)(l:List Rr)(W:World):Prop:=∃K nn b,Nm W M nn K/\Rnd rs K0 K l b nn/\W.heap[ib]? =some (.cells #[.bool b] 4)/\Kl w M n cap so W/\Mks w.heap.size w4.heap.size ds W/\w4.heap.size<=W.heap.size
theorem LsJ.below{rs:List Rr}{w r W W':World}{M n A y:Nat}{D:Option Addr}{K0:zA->Ot}{E:List Deferred}{l:List Rr}(h:LsJ rs w r M n A D K0 y E l W)(o:Below r.heap.size W W')(hM:M+1<y)(aa:w.heap.size<M)(G:y<r.heap.size):LsJ rs w r M n A D K0 y E l W':=by
 obtain⟨K,U,b,V,Y,Z,h4,h5,h6⟩:=h;exact⟨K,U,b,V.below o (by omega),Y,(o.block _ G).trans Z,h4.below o (by omega) (by omega),h5.below o,Nat.le_trans h6 o.size⟩
theorem y1K(A:Option Addr)(n E:Nat)(rs:List Rr)(w:World)(h:Qg w w.heap.size A n rs)(HZ:Hid (RgZ rs))(HO:Hid (∀x∈rs,okT x.2.1=true))(HU:Hid (∀x∈rs,∀y∈rs,y.1=x.1->y=x))(bH:rs.length<=64)(m:Nat):
  CallsIn Fence.wide (m+5) prog 175 #[.agg #[.slice A n E]] w (LsP rs w):=by
 have bI:=Xw;have bg:=y1I;obtain⟨M,hM⟩:∃M,M=w.heap.size+1:=⟨_,rfl⟩;obtain⟨W0,ae⟩:∃W0,W0=(((w.alloc (.cells #[.slice A n E] 51)).alloc (.map #[] 0)).alloc (.cells #[.map (some M)] 293)).alloc (.cells #[.bool true] 4):=⟨_,rfl⟩;have aQ:Hid (zB w W0):=by rw[ae];exact((((Below.refl _ w).alloc L0q _).alloc (by simp) _).alloc (by simp;omega) _).alloc (by simp;omega) _
 have aR:Hid (W0.heap[w.heap.size]? =some (.cells #[.slice A n E] 51)):=by
  rw[ae];exact(Below.heap_alloc _ _ _ (by simp;omega)).trans ((Below.heap_alloc _ _ _ (by simp;omega)).trans ((Below.heap_alloc _ _ _ (by simp)).trans (Qx w _ rfl)))
 have aS:Hid (Nm W0 M 0 z0O):=by
  rw[ae,hM];have h1:=Nm.made (w.alloc (.cells #[.slice A n E] 51));rw[World.size_alloc]at h1;exact(h1.kept (World.grownBy_alloc _ _ none) (by simp)).kept (World.grownBy_alloc _ _ none) (by simp)
 have aT:Hid (W0.heap[M+1]? =some (.cells #[.map (some M)] 293)):=by
  rw[ae,hM];exact(Below.heap_alloc _ _ _ (by simp)).trans (Qx _ _ (by simp))
 have aU:Hid (W0.heap[M+1+1]? =some (.cells #[.bool true] 4)):=by
  rw[ae,hM];exact Qx _ _ (by simp)
 have bJ:n<=9223372036854775807:=by have:=h.2.1;unfold maxLen at this;omega
 have HR:=hid h;have bh:Hid (n=rs.length):=h.1;have ar:w.heap.size<M:=by omega
 clear h;refine callsIn_of_wp_marks func175 rfl trivial ?_ rfl;simp only[ntmps175,List.size_toArray,List.length_cons,List.length_nil,Nat.reduceAdd,Nat.reduceSub,Array.replicate_succ,Array.replicate_zero,List.push_toArray,List.append_toArray,List.nil_append,List.cons_append]
 gi_wp2
 rw[<-hM,<-ae];clear ae bg;have HM:=hid hM;clear hM;refine y1D (fun k a' w'=>∃(V:Nat) (b:Bool) (aV aW aX aY au:Value) (ds:List Deferred),a'={tmps:=#[.agg #[.slice A n E],zP w.heap.size 0,.map none,zP (M+1) 0,zP V 0,undef,undef,undef,zP w.heap.size 0,.slice A n E,zI (n:Int),.map (some M),aV,aW,aX,aY,undef,undef,undef,undef,undef,undef,undef,undef,undef,undef,undef,undef,undef,undef,undef,undef,au,undef],defers:=ds}/\Hid (LsI rs w M n E A k V b ds w')) _ ⟨M+1+1,true,undef,undef,undef,undef,undef,[],rfl,hid ⟨0,0,aS.out,z3m rs,by show 0+lck z0O rs<=_;rw[z3n];omega,⟨aQ.out,aR.out,aT.out⟩,aU.out,by omega,(fun h=>by cases h),trivial,rfl⟩⟩ ?_;clear aQ aR aS aT aU;rintro k a' w1 ⟨V,b,aV,aW,aX,aY,au,ds,rfl,HI⟩;obtain⟨nn,mm,av,aD,aE,ad,ah,aF,aG,aw,hk⟩:=HI.out;clear HI;obtain⟨i0,f0⟩:=Qy ah;obtain⟨g0,_⟩:=Qy ad.g;obtain⟨b0,_⟩:=Qy ad.b;have li:=Qq ah;have lg:=Qq ad.g;have lb:=Qq ad.b;cases b with
 |false=>
  have bi:=hid av;have bj:=hid (aG rfl);have bl:=hid aw;have bm:=hid ad;clear av aD aE ad ah aG aw hk
  gi_wp2
  refine Eb ds w1.heap.size _ bl.out fun w' hk=> ?_
  exact⟨.map (some M),by simp[results,Tryz.f175,go_sem],M,nn,mm,rfl,by omega,hk.nm bi.out,bj.out,bm.out.be.trans hk.1⟩
 |true=>
  obtain⟨U,al⟩:∃U,U=w1.setCell ⟨V,0,none⟩ (.bool false):=⟨_,rfl⟩;have ax:w1.grownBy U (some V):=by rw[al];exact grownBy_setCell' _ _ _
  have ay:U.heap.size=w1.heap.size:=by rw[al];simp
  have aZ:zH U V (.cells #[.bool false] 4):=by rw[al];exact Qk ah 0 _
  have az:=ad.grown ax (by omega) (by omega);have a0:=av.kept ax (fun e=>by have:=Option.some.inj e;omega);have a1:Mks w.heap.size w1.heap.size ds U:=aw.kept fun D hD e=>(ax.block D hD (fun e'=>by have:=Option.some.inj e';subst this;rw[zH,ah]at e;cases e)).trans e
  obtain⟨g3,_⟩:=Qy az.g;have bn:=Qq az.g;have a2:=hid al;have bo:Hid (b0=b0):=rfl;have a3:=hid az;have a4:=hid a0;have a5:=hid a1;have aH:=hid aZ;have bp:=hid aD;have bq:Hid (nn+lck (itr rs mm) rs<=3*rs.length):=aE;have br:Hid (k=lck (itr rs mm) rs+1):=hk;have bs:w1.heap.size<=U.heap.size:=Nat.le_of_eq ay.symm;have bt:=hid ay;clear al ax az a0 a1 aZ aD aE hk aG aw av ad ah bo ay
  gi_wp2_with (first
   |(rw[<-a2.out];refine⟨trivial,?_⟩;gi_at_call 202;refine(y1H _ A n E _).mono ?_;rintro e Z ⟨rfl,rfl⟩))
  clear a2 g3 bn i0 f0 g0 b0;obtain⟨Z,am⟩:∃Z,Z=U.alloc (.cells #[.slice A n E] 49):=⟨_,rfl⟩;have ao:zB U Z:=by rw[am];exact(Below.refl _ U).alloc L0q _
  have bK:Z.heap.size=U.heap.size+1:=by rw[am];simp
  have bu:Boxed Z U.heap.size 49 (.slice A n E):=by rw[am];exact Qx U _ rfl
  rw[<-am];clear am;have bv:=hid (a4.out.below ao (by omega));have aI:=hid (a3.out.below ao (by omega) (by omega));have bw:=hid ((ao.block _ (Qq aH.out)).trans aH.out);have bx:Hid (Mks w.heap.size Z.heap.size ds Z):=(a5.out.below (ao.mono bs)).mono (by omega);have bz:Qg Z w.heap.size A n rs:=HR.out.below aI.out.be;have aJ:V<Z.heap.size:=by omega
  have bL:w.heap.size<Z.heap.size:=by omega
  clear a4 a3 aH a5 ao;refine wpIn_rangeFunc_ownH rfl (by omega) (gf:=238) (lb:=#[zP U.heap.size 0]) rfl trivial (enters_of func238 (by kernel_rfl) rfl)
   (y1G (B:=w.heap.size) n E A _ bz bu) Kb.trans (fun W' l o o' h1 h2 h3 h4=>Kb.grown (grownBy_putObj' W' l o') (fun r e=>by have:=Option.some.inj e;omega)) B0q (fun _=>rfl)
   (fun ap W=>LsJ rs w Z M n E A (itr rs mm) V ds (ap.map Bx.r) W)
   (fun c ap W=>False)
   ?own ?ownx ⟨itr rs mm,nn,false,bv.out,Rnd.start bp.out bq.out,bw.out,aI.out,bx.out,Nat.le_refl _⟩
   (fun x a' W=>∃b,a'={tmps:=#[.agg #[.slice A n E],zP w.heap.size 0,.map none,zP (M+1) 0,zP V 0,undef,zP b 0,undef,zP w.heap.size 0,.slice A n E,zI (n:Int),.map (some M),.bool true,zP w.heap.size 0,.slice A n E,.func (.func 238) #[] #[zP U.heap.size 0],zI (x.i:Int),x.v,undef,undef,undef,undef,undef,undef,undef,undef,undef,undef,undef,undef,undef,undef,au,undef],defers:=[]}/\zH W b (.cells #[zT x.N,zI x.k,zT x.T,zU x.a,zU x.b,zU x.c,zU x.d,.slice x.so x.n x.cap,zI x.p,zI x.q] 121))
   ?ownA ?assign ?Qm ?done ?stop
  case own=>
   intro ap X Y row h hg hr;have hB:Below Z.heap.size X Y:=(Below.refl _ X).grown hg h.choose_spec.choose_spec.choose_spec.2.2.2.2.2 (fun k e=>(hr k e).1);exact h.below hB aF ar aJ
  case ownx=>exact fun _ _ _ _ _ h=>h.elim
  case ownA=>
   rintro x a' _ X Y row ⟨b,h1,h2⟩ hg hr;exact⟨b,h1,Pl h2 hg (fun r e=>(hr r e).2)⟩
  case assign=>
   rintro l ap x W K hJ hK;have hB:zB W (W.alloc (.cells #[zT x.N,zI x.k,zT x.T,zU x.a,zU x.b,zU x.c,zU x.d,.slice x.so x.n x.cap,zI x.p,zI x.q] 121)):=(Below.refl _ W).alloc L0q _;have HK:=hid (hK {tmps:=#[.agg #[.slice A n E],zP w.heap.size 0,.map none,zP (M+1) 0,zP V 0,undef,zP W.heap.size 0,undef,zP w.heap.size 0,.slice A n E,zI (n:Int),.map (some M),.bool true,zP w.heap.size 0,.slice A n E,.func (.func 238) #[] #[zP U.heap.size 0],zI (x.i:Int),x.v,undef,undef,undef,undef,undef,undef,undef,undef,undef,undef,undef,undef,undef,undef,au,undef],defers:=[]} (W.alloc (.cells #[zT x.N,zI x.k,zT x.T,zU x.a,zU x.b,zU x.c,zU x.d,.slice x.so x.n x.cap,zI x.p,zI x.q] 121)) (KeepsFrom.of_grownBy (World.grownBy_alloc W _ none) (fun j e=>by cases e)) (Kb.alloc W _) (hJ.below (hB.mono hJ.choose_spec.choose_spec.choose_spec.2.2.2.2.2) aF ar aJ) ⟨W.heap.size,rfl,Qx W _ rfl⟩);clear hK hJ hB
   gi_wp2
   exact HK.out
  case Qm=>
   rintro l ap x a' W hl ⟨r,hr⟩ hJ ⟨bb,rfl,aA⟩ bM;obtain⟨K,nk,bk,jN,jR,jI,jK,jM,jS⟩:=hJ;have hx:x.r∈rs:=List.mem_of_getElem? x.e;have aK:=HZ.out _ hx;have a6:Qw W w.heap.size x.t (r8 x.k x.T x.a x.b x.c x.d x.so x.n x.cap x.p):=Qw.kept (fun g o u hg hu=>(jK.be.cell (p:=⟨g,o,none⟩) hg).trans ((aI.out.be.cell (p:=⟨g,o,none⟩) hg).symm.trans hu)) _ _ x.rt;obtain⟨⟨y1,y2,y3⟩,hy⟩:∃y,y=ofT K x.t:=⟨_,rfl⟩;have HS:=hid (z3k M nk K x.t _ W w.heap.size a6 (by omega) aK.2 (HO.out _ hx) jN);rw[<-hy]at HS;dsimp only[r8,ov]at HS;obtain⟨⟨q1,q2,q3⟩,hq⟩:∃q,q=K x.N:=⟨_,rfl⟩;have aL:x.N.size<=maxLen:=aK.1;obtain⟨⟨c0,c1,c2,c3,c4,c5,c6,c7,c8,c9⟩,_⟩:=Gy aA;obtain⟨k0,_⟩:=Qy jK.b;have a7:=Qq aA;have lk:=Qq jK.b;have HX:Hid (x.r∈rs):=hx;have HY:Hid ((y1,y2,y3)=ofT K x.t):=hy;have HQ:Hid ((q1,q2,q3)=K x.N):=hq;have ai:=hid jN;have aj:=hid jR;have a8:=hid jI;have ab:=hid jK;have a9:=hid jM;have ba:=hid aA;have bA:nk<maxLen:=by have:=jR.cnt;unfold maxLen;omega
   have aM:=y1J (y1,y2,y3) (q1,q2,q3);dsimp only[ov]at aM;clear hx aK a6 hy hq jN jR jI jK jM aA;by_cases hyq:(y1,y2,y3)=(q1,q2,q3)
   ·rw[decide_eq_true hyq]at aM
    have aN:=hid hyq;clear hyq
    gi_wp2_with (first
     |(refine⟨trivial,?_⟩;gi_at_call 203;refine((callsIn_wide.2 HS.out).inRound l).mono ?_;rintro e w5 ⟨rfl,af⟩;have aa:=hid (af.out.alloc af.out.size (.cells #[.bool y1,.bool y2,.bool y3] 264));obtain⟨⟨u0,u1,u2⟩,_⟩:=Zz (Qx w5 (.cells #[.bool y1,.bool y2,.bool y3] 264) rfl);have hL:=(ai.out.below aa.out (by omega)).look aL;rw[<-HQ.out]at hL;dsimp only[ov]at hL;obtain⟨k6,_⟩:=Qy ((aa.out.block _ lk).trans ab.out.b);obtain⟨⟨r0,-,-,-,-,-,-,-,-,-⟩,-⟩:=Gy ((aa.out.block _ a7).trans ba.out);clear af))
    refine⟨KeepsFrom.of_grownBy (G.below (R:=0) aa.out) (fun j e=>by have:=Option.some.inj e;omega),Kb.below aa.out,?_⟩;have ag:=aa.out.mono jS;refine LsJ.below (W:=W) ?_ ag aF ar aJ;refine⟨K,nk,bk,ai.out,?_,a8.out,ab.out,a9.out,jS⟩;rw[List.map_append];exact aj.out.same (x:=x.r) (by rw[show ofT K x.r.2.1=_ from HY.out.symm,show K x.r.1=_ from HQ.out.symm];exact aN.out)
   ·rw[decide_eq_false hyq]at aM
    have aN:=hid hyq;clear hyq
    gi_wp2_with (first
     |(refine⟨trivial,?_⟩;gi_at_call 203;refine((callsIn_wide.2 HS.out).inRound l).mono ?_;rintro e w5 ⟨rfl,af⟩;have aa:=hid (af.out.alloc af.out.size (.cells #[.bool y1,.bool y2,.bool y3] 264));obtain⟨⟨u0,u1,u2⟩,_⟩:=Zz (Qx w5 (.cells #[.bool y1,.bool y2,.bool y3] 264) rfl);have aO:=hid (ai.out.below aa.out (by omega));have hL:=aO.out.look aL;rw[<-HQ.out]at hL;dsimp only[ov]at hL;obtain⟨k6,_⟩:=Qy ((aa.out.block _ lk).trans ab.out.b);obtain⟨⟨r0,-,-,-,-,-,-,-,-,-⟩,-⟩:=Gy ((aa.out.block _ a7).trans ba.out);obtain⟨w7,h7,bc,ac⟩:=aO.out.put aL (y1,y2,y3) bA;dsimp only[ov]at h7;have aB:=(ac.block V (by have:=aa.out.size;omega) (fun e=>by have:=Option.some.inj e;omega)).trans ((aa.out.block _ (by omega)).trans a8.out);obtain⟨i7,f7⟩:=Qy aB;have bN:=Qq aB;have bC:=hid bc;have bD:=hid ac;have bd:=hid aB;clear af bc ac aB))
    have ay:=bt.out;have ag:=aa.out;have ac:=bD.out;have ak:w7.grownBy (w7.setCell ⟨V,0,none⟩ (.bool true)) (some V):=grownBy_setCell' _ _ _;refine⟨((KeepsFrom.of_grownBy (G.below (R:=0) ag) (fun j e=>by have:=Option.some.inj e;omega)).trans (KeepsFrom.of_grownBy ac (fun j e=>by have:=Option.some.inj e;omega))).trans (KeepsFrom.of_grownBy ak (fun j e=>by have:=Option.some.inj e;omega)),((Kb.below ag).trans (Kb.grown ac (fun r e=>by have:=Option.some.inj e;omega))).trans (Kb.grown ak (fun r e=>by have:=Option.some.inj e;omega)),?_⟩;refine⟨_,_,true,bC.out.kept ak (fun e=>by have:=Option.some.inj e;omega),?_,Qk bd.out 0 _,((ab.out.below ag (by omega) (by omega)).grown ac ar (by omega)).grown ak (by omega) (by omega),?_,?_⟩
    ·rw[List.map_append,HY.out]
     exact aj.out.new (x:=x.r) HX.out (HU.out _ HX.out) (by rw[show ofT K x.r.2.1=_ from HY.out.symm,show K x.r.1=_ from HQ.out.symm];exact aN.out)
    ·refine a9.out.kept fun D hD e=> ?_
     obtain⟨es,ck,bE⟩:=aO.out.obj;have e6:=(ag.block D (by omega)).trans e;have e7:=(ac.block D (Qq e6) (fun e'=>by have:=Option.some.inj e';subst this;rw[bE]at e6;cases e6)).trans e6;exact(ak.block D (Qq e7) (fun e'=>by have:=Option.some.inj e';subst this;rw[bd.out]at e7;cases e7)).trans e7
    ·have h1:=ag.size
     have h2:=ac.size;have h3:=ak.size;omega
  case done=>
   rintro D xs W hD aP ⟨K,nk,bk,jN,jR,jI,jK,jM,jS⟩ hK;rw[bh.out]at aP;rw[y1E Bx.i Bx.r rs xs aP (fun x _=>x.e)]at jR;have eK:K=itr rs (mm+1):=jR.last;have bf:bk=false->Xq K rs:=fun e=>by
    subst e;rw[jR.fix.1];exact jR.fix.2
   obtain⟨i6,_⟩:=Qy jI;have bO:=Qq jI;have aj:=hid jR;have ai:=hid jN;have ab:=hid jK;have aq:Hid (K=itr rs (mm+1)):=eK;have bF:=hid bf;have bG:Hid (Mks w.heap.size W.heap.size ({target:=.collected D,args:=#[]}::ds) W):=⟨D,rfl,by omega,Qq hK,hK,jM.mono hD⟩;clear jN jR jI jK jM hK aP bf eK
   gi_wp2
   have aC:=(Below.refl _ W).alloc L0q (.cells #[.bool bk] 4);refine⟨if bk then lck (itr rs (mm+1)) rs+1 else 0,?_,W.heap.size,bk,_,_,_,_,_,_,rfl,hid ⟨nk,mm+1,?_,?_,?_,ab.out.below aC (by have:=ab.out.be.size;have:=Qq ab.out.g;omega) ab.out.lt,Qx W _ rfl,ab.out.lt,?_,(bG.out.below aC).mono aC.size,rfl⟩⟩
   ·rw[<-aq.out,br.out]
    cases bk with
    |true=>have:=aj.out.yes rfl;simp;omega
    |false=>simp
   ·rw[<-aq.out];exact ai.out.below aC (by have:=ai.out.lt;omega)
   ·rw[<-aq.out];exact aj.out.inv
   ·rw[<-aq.out];exact aj.out.cnt
   ·rw[<-aq.out];exact bF.out
  case stop=>exact fun _ _ _ _ _ _ h=>h.elim
mutual
def hrT(l:List ByteArray):RT->Bool
 | .mk k T _ _ _ _ s _=>if k=5 then inN T l else hrL l s
def hrL(l:List ByteArray):List RT->Bool
 |[]=>true
 |t::r=>hrT l t&&hrL l r
end
theorem z3o{l:List ByteArray}:∀{s:List RT} (j:Nat) (o:j<s.length),hrT l s[j]=false->hrL l s=false
 |[],j,o,_=>by simp at o
 |t::r,0,_,h=>by rw[hrL,show hrT l t=false from h];rfl
 |t::r,j+1,o,h=>by rw[hrL,z3o j (by simpa using o) h,Bool.and_false]
theorem z3p{l:List ByteArray}:∀{s:List RT},(∀(j:Nat) (o:j<s.length),hrT l s[j]=true)->hrL l s=true
 |[],_=>by rw[hrL]
 |t::r,h=>by rw[hrL,show hrT l t=true from h 0 (by simp),z3p (s:=r) (fun j o=>h (j+1) (by simpa using o))];rfl
theorem y1L(l:List ByteArray)(A:Option Addr)(D E:Nat)(T:zA)(a b c d p:Int)(V:Option Addr)(n Y:Nat)(w:World)
  (G:Hid (∀W:World,zB w W->Calls prog 122 #[.agg #[.slice A D E],zT T] W (zR W (zI (fdI T l))))):
  Calls prog 205 #[.agg #[.slice A D E],.agg (r8 5 T a b c d V n Y p).toArray] w fun e w'=>e=.returned (.bool (inN T l))/\zB w w':=by
 have h:Hid (∀o r:Obj,zB w ((w.alloc o).alloc r)):=fun o r=>((Below.refl _ w).alloc L0q o).alloc (by simp) r
 obtain⟨v,y⟩:∃v,v=fdI T l:=⟨_,rfl⟩;have Z:decide (0<=v)=inN T l:=by
  rw[y];unfold fdI;cases inN T l
  ·simp
  ·simp
 rw[<-y]at G;obtain⟨q,U⟩:∃q,q=inN T l:=⟨_,rfl⟩;rw[<-U]at Z ⊢;clear y U;dsimp only[r8];go_enter func205,ntmps205
 go_wp2_with(first|(go_at_call 122;refine(G.out _ (h.out _ _)).mono ?_;rintro e wz ⟨rfl,aa⟩))
 go_ret;exact⟨rfl,(h.out _ _).trans (aa.mono (h.out _ _).size)⟩
theorem y1M(l:List ByteArray)(r:Option Addr)(y A:Nat)(k:Int)(hk:k≠5)(T:zA)(a b c d p:Int)(so:Option Addr)(n af:Nat)(s:List RT)(w:World)(hn:n<=9223372036854775807)(HN:Hid (n=s.length))
  (HC:Hid (∀j (hj:j<s.length),∃g o,so=some ⟨g,o,none⟩/\g<w.heap.size/\∃D E a1 G c1 U V Y Z p1,Rc w g (o+j*8) D E a1 G c1 U (.slice V Y Z) p1/\
    ∀W:World,zB w W->Calls prog 205 #[.agg #[.slice r y A],.agg (r8 D E a1 G c1 U V Y Z p1).toArray] W (zR W (.bool (hrT l s[j]))))):
  Calls prog 205 #[.agg #[.slice r y A],.agg (r8 k T a b c d so n af p).toArray] w fun e w'=>e=.returned (.bool (hrL l s))/\zB w w':=by
 have ao:(k == 5)=false:=by simp[hk]
 have ap:decide (k=5)=false:=by simp[hk]
 obtain⟨R,hR⟩:∃R,R=hrL l s:=⟨_,rfl⟩;have HR:=hid hR;rw[<-hR];clear hR;obtain⟨W1,aa⟩:∃W1,W1=(w.alloc (.cells #[.slice r y A] 51)).alloc (.cells #[zI k,zT T,zU a,zU b,zU c,zU d,.slice so n af,zI p] 119):=⟨_,rfl⟩;have al:Hid (zB w W1):=by rw[aa];exact((Below.refl _ w).alloc L0q _).alloc (by simp) _
 have ag:=hid aa;have am:Hid (W1.heap[w.heap.size]? =some (.cells #[.slice r y A] 51)):=by rw[aa];exact(Below.heap_alloc _ _ _ (by simp)).trans (Qx w _ rfl)
 clear aa;dsimp only[r8];go_enter func205,ntmps205
 go_wp2_with fail
 rw[<-ag.out];clear ag
 go_loopw [18] (fun i wr=>∃j:Nat,i=zI (j:Int)/\j<=n/\Hid (zB w wr)/\Hid (wr.heap[w.heap.size]? =some (.cells #[.slice r y A] 51))/\Hid (∀i (hi:i<s.length),i<j->hrT l s[i]=true)) (fun i _=>n-(intOf i).toNat)
 case atStart=>exact⟨0,rfl,Nat.zero_le _,al,am,fun i _ h=>absurd h (by omega)⟩
 case round=>
  obtain⟨j,rfl,hj,HB,HG,HO⟩:=hrel;by_cases hjn:j<n
  ·have aq:(j:Int)<(n:Int):=by omega
   have a0:decide ((j:Int)<(n:Int))=true:=by simp;omega
   have ah:j<s.length:=by rw[<-HN.out];exact hjn
   obtain⟨g,o,rfl,hg,D,E,a1,G,c1,U,V,Y,Z,p1,ai,aj⟩:=HC.out j ah;obtain⟨z0,z1,z2,z3,z4,z5,z6,z7⟩:=ai.below HB.out hg;have ar:g<wr.heap.size:=World.block_lt_of_cell? wr _ z0;obtain⟨q,hq⟩:∃q,q=hrT l s[j]:=⟨_,rfl⟩;have ad:zB w (wr.alloc (.cells #[zI D,zT E,zU a1,zU G,zU c1,zU U,.slice V Y Z,zI p1] 119)):=HB.out.alloc HB.out.size _;have ak:=(Below.refl _ wr).alloc L0q (.cells #[zI D,zT E,zU a1,zU G,zU c1,zU U,.slice V Y Z,zI p1] 119);have ae:=hid ((ak.block _ (Qq HG.out)).trans HG.out);obtain⟨g0,_⟩:=Qy ae.out;have lg:=Qq ae.out;have ab:=hid ad;have HS:=hid (aj _ ad);rw[<-hq]at HS;have HQ:=hid hq;clear aj ai hq ad ak;dsimp only[r8]at HS;cases q with
   |false=>
    go_wp2_with(first
     |(go_at_call 205;refine HS.out.mono ?_;rintro e wz ⟨rfl,ac⟩))
    go_ret;refine⟨?_,ab.out.trans (ac.mono ab.out.size)⟩;rw[HR.out,z3o j ah HQ.out.symm];rfl
   |true=>
    go_wp2_with(first
     |(go_at_call 205;refine HS.out.mono ?_;rintro e wz ⟨rfl,ac⟩))
    refine⟨⟨j+1,by go_num,by omega,hid (ab.out.trans (ac.mono ab.out.size)),hid ((ac.block _ lg).trans ae.out),fun i hi au=> ?_⟩,by simp[intOf];omega⟩;rcases Nat.lt_or_ge i j with h1|h1
    ·exact HO.out i hi h1
    ·obtain rfl:i=j:=by omega
     exact HQ.out.symm
  ·have a0:decide ((j:Int)<(n:Int))=false:=by simp;omega
   clear HC
   go_wp2_with fail
   go_ret;refine⟨?_,HB.out⟩;rw[HR.out,z3p fun i hi=>HO.out i hi (by have:=HN.out;omega)];rfl
theorem z3q(l:List ByteArray)(rs:List Rr)(hl:l=nmL rs)(y:Option Addr)(A D:Nat)(E:Nat):∀(N:Nat) (t:RT) (G:List Value) (B:Nat) (w:World),SizeOf.sizeOf t<N->Qw w B t G->B<=w.heap.size->Qg w E y A rs->E<=w.heap.size->
  Calls prog 205 #[.agg #[.slice y A D],.agg G.toArray] w (zR w (.bool (hrT l t)))
 |0,t,_,_,_,h,_,_,_,_=>by omega
 |N+1,.mk k T a b c d s p,G,B,w,hN,ht,hB,hr,hB0=>by
  rw[Qw]at ht;obtain⟨U,V,rfl,Y⟩:=ht;rw[hrT];by_cases hk:k=5
  ·subst hk
   rw[if_pos rfl];refine y1L l y A D T a b c d p U _ V w fun W r=> ?_
   rw[hl];exact Rp T y A D rs E W (hr.below (r.mono hB0)) (Nat.le_trans hB0 r.size)
  ·rw[if_neg hk]
   refine y1M l y A D k hk T a b c d p U _ V s w (El Y) (Xg s) fun j Z=> ?_
   obtain⟨g,o,h1,h2,k1,T1,a1,b1,c1,d1,aa,n1,ab,p1,h3,h4⟩:=Az hB Y j Z;refine⟨g,o,h1,h2,k1,T1,a1,b1,c1,d1,aa,n1,ab,p1,h3,fun W r=> ?_⟩;have ac:=List.sizeOf_lt_of_mem (List.getElem_mem Z);simp only[RT.mk.sizeOf_spec]at hN;exact z3q l rs hl y A D E N s[j] _ B W (by omega) (h4.below (r.mono hB)) (Nat.le_trans hB r.size) (hr.below (r.mono hB0)) (Nat.le_trans hB0 r.size)
mutual
theorem Qw.mono{w:World}{B B':Nat}(A:B<=B'):∀(t:RT) (r:List Value),Qw w B t r->Qw w B' t r
 | .mk k T a b c d s p,r,h=>by
   rw[Qw]at h ⊢;obtain⟨D,E,rfl,h⟩:=h;refine⟨D,E,rfl,?_⟩;rcases h with y|⟨y,g,o,G,Y,U,V⟩
   ·exact .inl y
   ·exact .inr ⟨y,g,o,G,by omega,U,Zj.mono A s g o V⟩
theorem Zj.mono{w:World}{B B':Nat}(h:B<=B'):∀(s:List RT) (g o:Nat),Zj w B g o s->Zj w B' g o s
 |[],g,o,_=>by rw[Zj];trivial
 |t::r,g,o,ht=>by
  rw[Zj]at ht ⊢;obtain⟨⟨y,A,D⟩,E⟩:=ht;exact⟨⟨y,Qw.mono h t y A,D⟩,Zj.mono h r g _ E⟩
end
@[reducible] def bA:zA:={data:=#[97]}
theorem z3r:∀x,x<1->nmS bA=true:=by decide+kernel
@[reducible] def wX (w:World) (k:Int) (T:zA) (a b c d:Int) (so:Option Addr) (n cap:Nat) (p:Int):World:=(w.alloc (.cells #[zI k,zT T,zU a,zU b,zU c,zU d,.slice so n cap,zI p] 119)).alloc (.cells #[zT {data:=#[97]},zI k,zT T,zU a,zU b,zU c,zU d,.slice so n cap,zI p,zI 0] 121)
theorem Hz(w:World)(k:Int)(T:zA)(a b c d:Int)(h:Option Addr)(n o:Nat)(p:Int):zB w (wX w k T a b c d h n o p):=(B0q.alloc L0q _).alloc (by simp) _
theorem y1N{w:World}{k:Int}{T:zA}{a b c d:Int}{h:Option Addr}{n o:Nat}{p:Int}{t:RT}(y:Qw w w.heap.size t (r8 k T a b c d h n o p)):Qg (wX w k T a b c d h n o p) (wX w k T a b c d h n o p).heap.size (some ⟨w.heap.size+1,0,none⟩) 1 [(bA,t,0)]:=by
 have r:=Hz w k T a b c d h n o p;refine⟨rfl,by unfold maxLen;omega,fun j A=>⟨w.heap.size+1,0,rfl,by simp,?_⟩⟩;obtain rfl:j=0:=by simpa using A
 obtain⟨⟨c0,c1,c2,c3,D,E,G,U,V,Y⟩,_⟩:=Gy (w:=wX w k T a b c d h n o p) (g:=w.heap.size+1) (Qx _ _ (by simp));exact⟨k,T,a,b,c,d,h,n,o,p,(y.below r).mono r.size _ _,c0,c1,c2,c3,D,E,G,U,V,Y⟩
theorem y1O{t:RT}(h:RtZ t):RgZ [(bA,t,0)]:=fun x hx=>by
 obtain rfl:x=(bA,t,0):=by simpa using hx
 exact⟨by show 1<=_;omega,h⟩
theorem y1P(t:RT):okG [(bA,t,0)]=okT t:=by
 unfold okG;rw[List.all_cons,List.all_nil,Bool.and_true];show(true&&(true&&(nmS bA&&okT t)))=okT t;rw[z3r 0 (by decide)];rfl
theorem z3s(k:Int)(T:zA)(a b c d p:Int)(h:Option Addr)(n o:Nat)(w:World)(c0:Int)
  (y:Hid (Calls prog 242 #[.agg #[zS (w.heap.size+1) 1 1]] (wX w k T a b c d h n o p) fun e w'=>e=.returned (.tuple #[zT {data:=#[]},.iface 34 (zI c0)])/\Below (wX w k T a b c d h n o p).heap.size (wX w k T a b c d h n o p) w')):
  Calls prog 204 #[.agg (r8 k T a b c d h n o p).toArray] w fun e w'=>e=.returned (zT {data:=#[]})/\zB w w':=by
 have r:=hid (Hz w k T a b c d h n o p);dsimp only[r8];go_enter func204,ntmps204
 go_wp2_with fail
 refine y.out.mono ?_;rintro e w1 ⟨rfl,A⟩;have D:Hid (zB w w1):=r.out.trans (A.mono r.out.size);clear y A r
 go_wp2_with fail
 go_ret;exact⟨rfl,D.out⟩
theorem y1Q(k:Int)(T:zA)(a b c d p:Int)(h:Option Addr)(n o:Nat)(w:World)(X L:zA)(D:L.size=X.size+6)(U:X.size<=8192)(E:Hid (L.extract 5 (X.size+5)=X))
  (y:Hid (Calls prog 242 #[.agg #[zS (w.heap.size+1) 1 1]] (wX w k T a b c d h n o p) fun e w'=>e=.returned (.tuple #[zT L,.nilIface])/\Below (wX w k T a b c d h n o p).heap.size (wX w k T a b c d h n o p) w')):
  Calls prog 204 #[.agg (r8 k T a b c d h n o p).toArray] w fun e w'=>e=.returned (zT X)/\zB w w':=by
 have r:=hid (Hz w k T a b c d h n o p);dsimp only[r8];go_enter func204,ntmps204
 go_wp2_with fail
 refine y.out.mono ?_;rintro e w1 ⟨rfl,A⟩;have G:Hid (zB w w1):=r.out.trans (A.mono r.out.size);have V:(Instr.slice 9 (zT L) (some (zI 5)) (some (zI ((X.size:Int)+6-1))) none).run prog w1=.ok (zT X) w1:=by
  rw[run_slice_string w1 9 L .i64 .i64 5 ((X.size:Int)+6-1) Tryz.underlying9 (by omega) (by omega) (by rw[D];omega)];rw[show((X.size:Int)+6-1).toNat=X.size+5 by omega];exact congrArg (fun q=>Result.ok (Value.string q) w1) E.out
 clear y A r
 go_wp2_with fail
 go_ret;exact⟨rfl,G.out⟩
def exS(nd:Nd):zA:=if 8192<sz (pR qT cT [(bA,nd,0)])∨24<dR [(bA,nd,0)]then{data:=#[]}else cat (pN qT cT nd)
theorem y1R(h:Nd):cat (pR qT cT [(bA,h,0)])={data:=([97,32,60,45,32]++((cat (pN qT cT h)).data.toList++[10])).toArray}:=by
 rw[pR,pR,cat,cat,z1A,cat,cat];apply ByteArray.ext;apply Array.ext';simp[bA,bAr,bNl]
theorem y1S(h:Nd):(cat (pR qT cT [(bA,h,0)])).size=(cat (pN qT cT h)).size+6/\(cat (pR qT cT [(bA,h,0)])).extract 5 ((cat (pN qT cT h)).size+5)=cat (pN qT cT h):=by
 obtain⟨X,o⟩:∃X,X=cat (pN qT cT h):=⟨_,rfl⟩;rw[y1R,<-o];have hl:X.data.toList.length=X.size:=by rw[Array.length_toList];rfl
 refine⟨?_,?_⟩
 ·show([97,32,60,45,32]++(X.data.toList++[10])).toArray.size=_
  simp
 ·rw[ByteArray.extract_mk]
  apply ByteArray.ext;apply Array.ext';show List.take (X.size+5-5) (List.drop 5 ([97,32,60,45,32]++(X.data.toList++[10])))=X.data.toList;rw[show X.size+5-5=X.data.toList.length by omega];simp
theorem y1T(k:Int)(T:zA)(a b c d p:Int)(o:Option Addr)(n r:Nat)(t:RT)(h:Nd)(w:World)(D:TabIs w)(ht:Qw w w.heap.size t (r8 k T a b c d o n r p))(hz:RtZ t)(E:Tq t h)(G:Vk h)(U:Wf Nmq h):
  Calls prog 204 #[.agg (r8 k T a b c d o n r p).toArray] w fun e w'=>e=.returned (zT (exS h))/\zB w w':=by
 have hb:=Hz w k T a b c d o n r p;have aa:TqR [(bA,t,0)] [(bA,h,0)]:=by rw[TqR];exact⟨rfl,E,by rw[TqR];trivial⟩
 have hx:∀x∈[((bA,h,0):Rl)],Ruk Nmq x:=fun x hx=>by
  obtain rfl:x=(bA,h,0):=by simpa using hx
  exact⟨z3r 0 (by decide),G,U⟩
 have y:=Rz (some ⟨w.heap.size+1,0,none⟩) 1 1 [(bA,t,0)] [(bA,h,0)] _ (wX w k T a b c d o n r p) (y1O hz) (y1N ht) L0q (by rw[y1P];exact(Rx t h E G U).1) aa hx (D.below hb D.lt);unfold exS;rcases Nat.lt_or_ge 8192 (sz (pR qT cT [(bA,h,0)]))with V|A
 ·rw[Pv V]at y
  rw[if_pos (.inl V)];exact z3s k T a b c d p o n r w 2 y
 rcases Nat.lt_or_ge 24 (dR [(bA,h,0)])with Y|ab
 ·rw[Pw A Y]at y
  rw[if_pos (.inr Y)];exact z3s k T a b c d p o n r w 20 y
 rw[Ef A ab]at y;rw[if_neg (by omega)];have Z:=y1S h;have hs:(cat (pR qT cT [(bA,h,0)])).size<=8192:=by rw[Om];exact A
 exact y1Q k T a b c d p o n r w _ _ Z.1 (by omega) Z.2 y
theorem Hk{w W W':World}{y y0 y1 y2 y3 r A D E:Value}(h:Hid (zB w W)/\Hid (∃v0 v1 v2:Value,W.heap[w.heap.size+1+1]? =some (.cells #[v0,v1,v2] 264))/\zC W w.heap.size 0 y/\zC W (w.heap.size+1) 0 y0/\zC W (w.heap.size+1) 1 y1/\zC W (w.heap.size+1) 2 y2/\zC W (w.heap.size+1) 3 y3/\zC W (w.heap.size+1) 4 r/\zC W (w.heap.size+1) 5 A/\zC W (w.heap.size+1) 6 D/\zC W (w.heap.size+1) 7 E)(o:zB W W'):Hid (zB w W')/\Hid (∃v0 v1 v2:Value,W'.heap[w.heap.size+1+1]? =some (.cells #[v0,v1,v2] 264))/\zC W' w.heap.size 0 y/\zC W' (w.heap.size+1) 0 y0/\zC W' (w.heap.size+1) 1 y1/\zC W' (w.heap.size+1) 2 y2/\zC W' (w.heap.size+1) 3 y3/\zC W' (w.heap.size+1) 4 r/\zC W' (w.heap.size+1) 5 A/\zC W' (w.heap.size+1) 6 D/\zC W' (w.heap.size+1) 7 E:=by
 obtain⟨G,V,z,Y,Z,z2,z3,z4,z5,z6,z7⟩:=h;have e:∀{a:Addr} {u:Value},W.cell? a=some u->W'.cell? a=some u:=fun{a u} h=>(o.cell (p:=a) (World.block_lt_of_cell? W _ h)).trans h
 obtain⟨r0,r1,r2,U⟩:=V.out;exact⟨hid (G.out.trans (o.mono G.out.size)),hid ⟨r0,r1,r2,(o.block _ (Qq U)).trans U⟩,e z,e Y,e Z,e z2,e z3,e z4,e z5,e z6,e z7⟩
theorem y1U{w W:World}{y y0 y1 y2 y3 r A D E x1 x2 x3:Value}(h:Hid (zB w W)/\Hid (∃v0 v1 v2:Value,W.heap[w.heap.size+1+1]? =some (.cells #[v0,v1,v2] 264))/\zC W w.heap.size 0 y/\zC W (w.heap.size+1) 0 y0/\zC W (w.heap.size+1) 1 y1/\zC W (w.heap.size+1) 2 y2/\zC W (w.heap.size+1) 3 y3/\zC W (w.heap.size+1) 4 r/\zC W (w.heap.size+1) 5 A/\zC W (w.heap.size+1) 6 D/\zC W (w.heap.size+1) 7 E)(W':World)(e:W'=((W.setCell ⟨w.heap.size+1+1,0,none⟩ x1).setCell ⟨w.heap.size+1+1,1,none⟩ x2).setCell ⟨w.heap.size+1+1,2,none⟩ x3):Hid (zB w W')/\Hid (∃v0 v1 v2:Value,W'.heap[w.heap.size+1+1]? =some (.cells #[v0,v1,v2] 264))/\zC W' w.heap.size 0 y/\zC W' (w.heap.size+1) 0 y0/\zC W' (w.heap.size+1) 1 y1/\zC W' (w.heap.size+1) 2 y2/\zC W' (w.heap.size+1) 3 y3/\zC W' (w.heap.size+1) 4 r/\zC W' (w.heap.size+1) 5 A/\zC W' (w.heap.size+1) 6 D/\zC W' (w.heap.size+1) 7 E:=by
 obtain⟨G,V,z,Y,Z,z2,z3,z4,z5,z6,z7⟩:=h;have U:W.grownBy W' (some (w.heap.size+1+1)):=by rw[e];exact Xj _ _ _ _ _
 have k:∀{a:Addr} {u:Value},a.block≠w.heap.size+1+1->W.cell? a=some u->W'.cell? a=some u:=fun{a u} aa h=>(World.cell?_of_block (U.block a.block (World.block_lt_of_cell? W _ h) (fun e=>aa (Option.some.inj e)))).trans h
 obtain⟨r0,r1,r2,hr⟩:=V.out;have hl:∀j,(⟨w.heap.size,j,none⟩:Addr).block≠w.heap.size+1+1:=fun j=>by show w.heap.size≠_;omega
 have o:∀j,(⟨w.heap.size+1,j,none⟩:Addr).block≠w.heap.size+1+1:=fun j=>by show w.heap.size+1≠_;omega
 exact⟨hid (G.out.grown U G.out.size (fun g e=>by have:=Option.some.inj e;omega)),hid ⟨x1,x2,x3,by rw[e];exact Vx hr⟩,k (hl _) z,k (o _) Y,k (o _) Z,k (o _) z2,k (o _) z3,k (o _) z4,k (o _) z5,k (o _) z6,k (o _) z7⟩
theorem y1V{w W W':World}{p:Prop}(h:Hid (zB w W)/\Hid (∃v0 v1 v2:Value,W.heap[w.heap.size+1+1]? =some (.cells #[v0,v1,v2] 264))/\p)(o:zB W W'):Hid (zB w W')/\Hid (∃v0 v1 v2:Value,W'.heap[w.heap.size+1+1]? =some (.cells #[v0,v1,v2] 264)):=by
 obtain⟨y,A,D,r⟩:=h.2.1.out;exact⟨hid (h.1.out.trans (o.mono h.1.out.size)),hid ⟨y,A,D,(o.block _ (Qq r)).trans r⟩⟩
theorem Zd.kept{X:Option (Int ⊕ (Int×Int))}{S R:Nat}{w w':World}{v:Value}(h:Zd X S w v)(r:w.grownBy w' (some R))(D:R<S):Zd X S w' v:=by
 unfold Zd at h ⊢
 match X,h with
 |none,h=>exact h
 |some (.inl c),h=>exact h
 |some (.inr q),h=>
  obtain⟨g,y,A,o⟩:=h;exact⟨g,y,A,(r.block g (Qq o) (fun e=>by have:=Option.some.inj e;omega)).trans o⟩
theorem y1W(h:Option Addr)(n o:Nat)(rs:List Rr)(k:Int)(T:zA)(a b c d:Int)(r:Option Addr)(A D:Nat)(p:Int)(t:RT)(w:World)(V:zA)(hV:V.toList.isEmpty=false)
  (HC:Hid (∀W:World,zB w W->Calls prog 174 #[.agg #[.slice h n o]] W fun e w'=>e=.returned .nilIface/\zB W w'))
  (HE:Hid (∀W:World,zB w W->Calls prog 204 #[.agg #[zI k,zT T,zU a,zU b,zU c,zU d,.slice r A D,zI p]] W (zR W (zT V))))
  (HH:Hid (∀W:World,zB w W->Calls prog 205 #[.agg #[.slice h n o],.agg #[zI k,zT T,zU a,zU b,zU c,zU d,.slice r A D,zI p]] W (zR W (.bool true))))
  (HL:Hid (∀W:World,zB w W->Calls prog 175 #[.agg #[.slice h n o]] W (LsP rs W)))
  (HU:Hid (∀(W:World) (M nn m:Nat),zB w W->Nm W M nn (itr rs m)->Calls prog 203 #[.map (some M),.agg #[zI k,zT T,zU a,zU b,zU c,zU d,.slice r A D,zI p]] W fun e w'=>e=.returned (ov (ofT (itr rs m) t))/\Hid (zB W w'))):
  Calls prog 177 #[.agg #[.slice h n o],.agg #[zI k,zT T,zU a,zU b,zU c,zU d,.slice r A D,zI p]] w fun e w'=>∃m,Xq (itr rs m) rs/\e=.returned (.tuple #[ov (ofT (itr rs m) t),.nilIface])/\zB w w':=by
 obtain⟨E,G⟩:∃E,E=((w.alloc (.cells #[.slice h n o] 51)).alloc (.cells #[zI k,zT T,zU a,zU b,zU c,zU d,.slice r A D,zI p] 119)).alloc (.cells #[.bool false,.bool false,.bool false] 264):=⟨_,rfl⟩;have ae:zB w E:=by rw[G];exact(((Below.refl _ w).alloc L0q _).alloc (by simp) _).alloc (by simp;omega) _
 have ao:E.heap[w.heap.size+1+1]? =some (.cells #[.bool false,.bool false,.bool false] 264):=by rw[G];exact Qx _ _ (by simp)
 have ap:E.heap[w.heap.size]? =some (.cells #[.slice h n o] 51):=by rw[G];exact(Below.heap_alloc _ _ _ (by simp;omega)).trans ((Below.heap_alloc _ _ _ (by simp)).trans (Qx w _ rfl))
 have aq:E.heap[w.heap.size+1]? =some (.cells #[zI k,zT T,zU a,zU b,zU c,zU d,.slice r A D,zI p] 119):=by rw[G];exact(Below.heap_alloc _ _ _ (by simp)).trans (Qx _ _ (by simp))
 have HS:=hid (HC.out E ae);have af:=hid ae;have ar:=hid G;have ag:=hid ao;have ah:=hid ap;have ai:=hid aq;clear G ae HC ao ap aq;go_enter func177,ntmps177
 go_wp2_with fail
 rw[<-ar.out];refine HS.out.mono ?_;rintro e w2 ⟨rfl,U⟩;have Y:=hid (af.out.trans (U.mono af.out.size));have Z:=hid ((U.block _ (Qq ag.out)).trans ag.out);have aj:=hid ((U.block _ (Qq ah.out)).trans ah.out);have ak:=hid ((U.block _ (Qq ai.out)).trans ai.out);obtain⟨g0,_⟩:=Qy aj.out;obtain⟨⟨n0,au,n2,n3,n4,n5,n6,n7⟩,_⟩:=Qf ak.out;have lg:=Qq aj.out;have ln:=Qq ak.out;have S2:Hid ((fun W:World=>Hid (zB w W)/\Hid (∃v0 v1 v2:Value,W.heap[w.heap.size+1+1]? =some (.cells #[v0,v1,v2] 264))/\zC W w.heap.size 0 (.slice h n o)/\zC W (w.heap.size+1) 0 (zI k)/\zC W (w.heap.size+1) 1 (zT T)/\zC W (w.heap.size+1) 2 (zU a)/\zC W (w.heap.size+1) 3 (zU b)/\zC W (w.heap.size+1) 4 (zU c)/\zC W (w.heap.size+1) 5 (zU d)/\zC W (w.heap.size+1) 6 (.slice r A D)/\zC W (w.heap.size+1) 7 (zI p)) w2):=⟨Y,hid ⟨_,_,_,Z.out⟩,g0,n0,au,n2,n3,n4,n5,n6,n7⟩;clear U HS ar ag af ah ai
 go_wp2_with(first
  |(go_at_call 204;refine(HE.out _ Y.out).mono ?_;rintro e w3 ⟨rfl,aa⟩;have ab:=hid (Y.out.trans (aa.mono Y.out.size));have al:=hid ((aa.block _ (Qq Z.out)).trans Z.out);have S3:=hid (Hk S2.out aa);obtain⟨-,-,g3,m0,m1,m2,m3,m4,m5,m6,m7⟩:=S3.out)
  |(go_at_call 205;refine(HH.out _ ab.out).mono ?_;rintro e w4 ⟨rfl,ac⟩;have ay:=hid (ab.out.trans (ac.mono ab.out.size));have ad:=(ac.block _ (Qq al.out)).trans al.out;obtain⟨⟨u0,u1,u2⟩,f0,f1,f2⟩:=Zz ad;have lr:=Qq ad;have az:=hid ad;clear ad))
 have S4:=Hk (Hk S3.out ac) (show zB w4 w4.drew from B0q.drew);clear HE HH Y Z aj ak S2 S3 g0 n0 au n2 n3 n4 n5 n6 n7 g3 m0 m1 m2 m3 m4 m5 m6 m7 aa ac ab al ay az u0 u1 u2 f0 f1 f2 lr lg ln
 go_region_held3 (fun W:World=>Hid (zB w W)/\Hid (∃v0 v1 v2:Value,W.heap[w.heap.size+1+1]? =some (.cells #[v0,v1,v2] 264))/\zC W w.heap.size 0 (.slice h n o)/\zC W (w.heap.size+1) 0 (zI k)/\zC W (w.heap.size+1) 1 (zT T)/\zC W (w.heap.size+1) 2 (zU a)/\zC W (w.heap.size+1) 3 (zU b)/\zC W (w.heap.size+1) 4 (zU c)/\zC W (w.heap.size+1) 5 (zU d)/\zC W (w.heap.size+1) 6 (.slice r A D)/\zC W (w.heap.size+1) 7 (zI p)) (first|(with_reducible assumption)|(with_reducible exact Hk (by assumption) (by assumption))|(with_reducible exact y1U (by assumption) _ rfl)) (first
  |(go_at_call 175;refine(HL.out _ (Gp (by assumption))).mono ?_;rintro e w5 ⟨M,nn,m,rfl,hM,av,aw,aA⟩;have aB:=hid (Below.trans (Gp (by assumption)) (aA.mono (Below.size (Gp (by assumption)))));obtain⟨⟨y1,y2,y3⟩,hy⟩:∃y,y=ofT (itr rs m) t:=⟨_,rfl⟩;have am:=hid (HU.out w5 M nn m aB.out av);rw[<-hy]at am;dsimp only[ov]at am;have aC:=hid aw;have HY:=hid hy;clear av aw hy)
  |(go_at_call 203;refine am.out.mono ?_;rintro e w6 ⟨rfl,aD⟩;have aE:=aD.out;obtain⟨ax,aF⟩:=y1V (by assumption) aE;obtain⟨q0,q1,q2,hq⟩:=aF.out;obtain⟨⟨u0,u1,u2⟩,f0,f1,f2⟩:=Zz hq;have lr:=Qq hq;have aG:=hid hq;clear hq))
 obtain⟨⟨r0,r1,r2⟩,_⟩:=Zz (Vx (v0:=.bool y1) (v1:=.bool y2) (v2:=.bool y3) aG.out)
 go_wp2_with fail
 refine bodyPost_ret (v:=.tuple #[.agg #[.bool y1,.bool y2,.bool y3],.nilIface]) (by simp[results,Tryz.results177,go_sem,r0,r1,r2]) rfl ?_;exact⟨m,aC.out,by rw[<-HY.out],ax.out.grown (Xj _ _ _ _ _) ax.out.size (fun g e=>by have:=Option.some.inj e;omega)⟩
theorem y1X(k:Nat)(D:k<=1048576)(W:World):(Instr.makeSlice 49 (zI 0) (zI (k:Int))).run prog W=.ok (zS W.heap.size 0 k) (W.alloc (.cells (madeCells #[zT {data:=#[]},zI 0,zT {data:=#[]},zU 0,zU 0,zU 0,zU 0,.slice none 0 0,zI 0,zI 0] (k*10)) 121)):=by
 obtain⟨h,o,r,y,A⟩:=info_parts Tryz.infoRl;rw[run_make W 49 121 h _ Tryz.underlying49 o r .i64 .i64 0 k (by omega) (by omega) (by rw[A];omega) (by omega),y];simp[Value.cells]
structure PqR (w2:World) (j:Nat) (ps:List Rr) (xs:List Value) (a:Value) (W:World):Prop where
 be:zB w2 W
 ow:W.ownsRow w2.heap.size 121 10 a j xs
 rq:Zv W (fun g=>w2.heap.size<=g) (ps.take j) xs
theorem PqR.step{D:World}{j:Nat}{E:List Rr}{xs U:List Value}{a a':Value}{wr y W4 G:World}{x:Rr}
  (h:PqR D j E xs a wr)(hj:j<E.length)(hx:x=E[j])(A:zB wr y)(r:RqR y (fun g=>wr.heap.size<=g) x U)
  (V:zB y W4)(ae:G.ownsRow D.heap.size 121 10 a' (j+1) (xs++U))(aa:W4.grownBy G a.ownBlock):PqR D (j+1) E (xs++U) a' G:=by
 have af:=h.be.size;have ag:=A.size;have ah:=V.size;have ab:=h.be.trans ((A.trans (V.mono ag)).mono af);have ac:∀g o,g<y.heap.size->D.heap.size<=g->zH y g (.cells o 119)->G.heap[g]? =y.heap[g]? :=fun g o Y h3 h5=>by
  refine(aa.block g (by omega) (fun e=> ?_)).trans (V.block g Y);have hl:=(h.ow.lt g e.symm).2;have h6:zH wr g (.cells o 119):=(A.block g hl).symm.trans h5;exact Gm h.ow h6 (fun o e=>by cases e) e.symm
 refine⟨ab.grown aa ab.size (fun j ej=>(h.ow.lt j ej).1),ae,?_⟩;rw[List.take_succ_eq_append_getElem hj,<-hx];refine Zv.append _ _ _ _ (Zv.kept (fun g o Z r=> ?_) _ _ h.rq) (by rw[List.length_take,Nat.min_eq_left (by omega)];exact h.ow.1) ?_
 ·have ad:=Qq r
  exact⟨(ac g o (by omega) Z ((A.block g ad).trans r)).trans (A.block g ad),Z⟩
 ·obtain⟨c,Y,h2⟩:=r
  exact⟨c,Y,Zw.kept (fun g o Z r=>⟨ac g o (Qq r) (by omega) r,by omega⟩) _ _ h2⟩
theorem z3t{rs:List Rr}(h:ckR rs=none):∀x∈rs,∀y∈rs,y.1=x.1->y=x:=fun x hx y o e=>by
 obtain⟨i,r,rfl⟩:=List.getElem_of_mem hx;obtain⟨j,A,rfl⟩:=List.getElem_of_mem o;have D:=z2X h i r;have E:=z2X h j A;rw[e,D]at E;obtain rfl:i=j:=by omega
 rfl
theorem Gc{rs:List Rr}(h:okG rs=true):∀x∈rs,nmS x.1=true/\okT x.2.1=true:=fun x hx=>by
 unfold okG at h;rw[Bool.and_eq_true,Bool.and_eq_true]at h;have:=List.all_eq_true.1 h.2.2 x hx;unfold okR at this;rw[Bool.and_eq_true]at this;exact this
theorem y1Y{V:zA}(h:V.size≠0):V.toList.isEmpty=false:=by
 cases e:V.toList with
 |nil=>
  exfalso;apply h;have:=congrArg List.length e;rw[ByteArray.toList_eq]at this;simpa using this
 |cons x r=>rfl
theorem z3u(o:Option Addr)(n r:Nat)(rs:List Rr)(B:Nat)(W:World)(h:Qg W B o n rs)(A:B<=W.heap.size)(D:RgZ rs)(y:okG rs=true)(E:ckR rs=none):Calls prog 175 #[.agg #[.slice o n r]] W (LsP rs W):=
 callsIn_wide.1 (y1K o n r rs W (h.upto A) D (fun x hx=>(Gc y x hx).2) (z3t E) (Gz y).2 0)
end Go.Proofs.YtmelafeingcgnaaGreatDoor
