/- Lemmas for the last text. Conditions: those that each names. -/
import Derived.Test.YtjodljnddflgfaaGreatDoorVS1ToS3
import Derived.Test.YtjodljnddflgfaaGreatDoorVW4ToS9
import Derived.Deep.RegionHeld3
set_option linter.unusedVariables false
set_option maxRecDepth 100000
set_option maxHeartbeats 4000000
namespace Go.Proofs.YtjodljnddflgfaaGreatDoor
open Go.Proofs.Tryz
section
open Go.RowKit Go.Shelf
section
variable {F:Fence} {n:Nat} {P:Program} {Q:Exit->Act->World->Prop} {a:Act} {w:World}
open Classical in
theorem z3I{c:Code}(I:Nat->Act->World->Prop)(k0:Nat)(h0:I k0 a w)(round:∀k a w,I k a w->c.wpIn F n P (Exit.then (fun a' w'=>∃k',k'<k/\I k' a' w') Q) a w):(Code.loop c).wpIn F n P Q a w:=by
 have least:∀(k:Nat) (a:Act) (w:World),I k a w->∃m,I m a w/\∀j,I j a w->m<=j:=by
  intro k
  induction k using Nat.strongRecOn with
  |_ k ih=>
   intro a w h;by_cases hk:∃j,j<k/\I j a w
   ·obtain⟨j,hj,hI⟩:=hk
    exact ih j hj a w hI
   ·exact⟨k,h,fun j hj=>Nat.le_of_not_lt fun hlt=>hk ⟨j,hlt,hj⟩⟩
 let μ:Act->World->Nat:=fun a w=>if h:∃m,I m a w/\∀j,I j a w->m<=j then Classical.choose h else 0
 have hμ:∀k a w,I k a w->I (μ a w) a w/\μ a w<=k:=fun k a w h=>by
  have hm:=least k a w h;have hs:=Classical.choose_spec hm;have e:μ a w=Classical.choose hm:=dif_pos hm;rw[e];exact⟨hs.1,hs.2 k h⟩
 refine wpIn_loop (fun a w=>∃k,I k a w) μ ⟨k0,h0⟩ ?_;rintro a w ⟨k,h⟩;refine Code.wpIn_mono (fun e a' w' q=> ?_) (round (μ a w) a w (hμ k a w h).1);cases e<;>first
  |exact q
  |(obtain⟨k',hlt,hI⟩:=q;exact⟨⟨k',hI⟩,Nat.lt_of_le_of_lt (hμ k' _ _ hI).2 hlt⟩)
end
theorem z3J(K:ByteArray->Ot):∀rs:List Rr,rs.reverse.foldl Ud K=swp K rs
 |[]=>rfl
 |x::r=>by rw[List.reverse_cons,List.foldl_append,z3J K r,swp];rfl
structure Rnd (rs:List Rr) (K0 K:ByteArray->Ot) (l:List Rr) (b:Bool) (n:Nat):Prop where
 k:K=l.foldl Ud K0
 inv:Nf K rs
 le:lck K rs<=lck K0 rs
 no:b=false->K=K0/\∀x∈l,ofT K0 x.2.1=K0 x.1
 yes:b=true->lck K rs<lck K0 rs
 cnt:n+lck K rs<=3*rs.length
section
variable {rs:List Rr} {K0 K:ByteArray->Ot} {l:List Rr} {b:Bool} {n:Nat}
theorem Rnd.start(h:Nf K0 rs)(hc:n+lck K0 rs<=3*rs.length):Rnd rs K0 K0 [] false n:=⟨rfl,h,Nat.le_refl _,fun _=>⟨rfl,fun x hx=>by simp at hx⟩,(fun h=>by cases h),hc⟩
theorem Rnd.same(h:Rnd rs K0 K l b n){x:Rr}(e:ofT K x.2.1=K x.1):Rnd rs K0 K (l++[x]) b n:=by
 refine⟨?_,h.inv,h.le,fun hb=>⟨(h.no hb).1,fun y hy=> ?_⟩,h.yes,h.cnt⟩
 ·rw[List.foldl_append,<-h.k,List.foldl_cons,List.foldl_nil,Ud]
  exact(z2S e).symm
 ·rcases List.mem_append.1 hy with hy|hy
  ·exact(h.no hb).2 y hy
  ·obtain rfl:y=x:=by simpa using hy
   rw[<-(h.no hb).1];exact e
theorem Rnd.new(h:Rnd rs K0 K l b n){x:Rr}(hx:x∈rs)(hu:∀y∈rs,y.1=x.1->y=x)(e:ofT K x.2.1≠K x.1):Rnd rs K0 (Gz K x.1 (ofT K x.2.1)) (l++[x]) true (n+1):=by
 have hle:=z2U (h.inv x hx);have hlt:lck (Ud K x) rs<lck K rs:=z2Y hle hx (fun h=>e (by
  unfold Ud Gz at h;rw[if_pos rfl]at h;exact h.symm))
 have h1:=h.le;have h2:=h.cnt;refine⟨?_,z9J hu hx h.inv,?_,(fun h=>by cases h),fun _=> ?_,?_⟩
 ·rw[List.foldl_append,<-h.k]
  rfl
 ·exact Nat.le_trans (Nat.le_of_lt hlt) h1
 ·exact Nat.lt_of_lt_of_le hlt h1
 ·show n+1+lck (Ud K x) rs<=_
  omega
theorem Rnd.last(h:Rnd rs K0 K rs.reverse b n):K=swp K0 rs:=h.k.trans (z3J K0 rs)
theorem Rnd.fix(h:Rnd rs K0 K rs.reverse false n):K=K0/\Yk K0 rs:=⟨(h.no rfl).1,fun x hx=>(h.no rfl).2 x (List.mem_reverse.2 hx)⟩
end
theorem y0a(rs:List Rr):Nf z0O rs:=fun x hx=>rfl
theorem z3K:∀rs:List Rr,lck z0O rs=3*rs.length
 |[]=>rfl
 |x::r=>by rw[lck,z3K r,List.length_cons];show 3-0+_=_;omega
theorem z3L{α β:Type}(f:β->Nat)(g:β->α)(rs:List α)(xs:List β)(h:xs.map f=(List.range rs.length).reverse)(e:∀x∈xs,rs[f x]? =some (g x)):xs.map g=rs.reverse:=by
 have h1:(xs.map f).map (fun i=>rs[i]?)=xs.map (fun x=>some (g x)):=by
  rw[List.map_map];exact List.map_congr_left fun x hx=>e x hx
 have h2:(List.range rs.length).map (fun i=>rs[i]?)=rs.map some:=by
  apply List.ext_getElem
  ·simp
  ·intro i h1 h2
   simp at h1;simp[h1]
 rw[h,List.map_reverse,h2,<-List.map_reverse]at h1;have h3:(xs.map g).map some=(rs.reverse).map some:=by rw[h1,List.map_map];rfl
 exact(List.map_inj_right (fun x y e=>Option.some.inj e)).1 h3
end
section
open Go.RowKit Go.Shelf
def BdA(F:ByteArray->Ah):Prop:=∀s,(F s).1<2^256
theorem BdA.upd{F:ByteArray->Ah}(h:BdA F){s:ByteArray}{x:Ah}(hx:x.1<2^256):BdA (Jd F s x):=fun t=>by
 unfold Jd;split
 ·exact hx
 ·exact h t
theorem BdA.zero:BdA z0A:=fun s=>by show 0<2^256;exact Nat.two_pow_pos _
theorem Nl:Qj<2^256:=by unfold Qj;have:=Nat.two_pow_pos 256;omega
theorem y0b{on:Bool}{x y:Ah}(hx:x.1<2^256):(Gq on x y).1<2^256:=by
 unfold Gq;cases on with
 |false=>exact hx
 |true=>exact Nat.lt_of_le_of_lt Nat.and_le_left hx
theorem y0c{x y:Ah}(hx:x.1<2^256)(hy:y.1<2^256):(orA x y).1<2^256:=Nat.or_lt_two_pow hx hy
theorem y0d{a b c d:Int}(h:(0<=a/\a<18446744073709551616)/\(0<=b/\b<18446744073709551616)/\(0<=c/\c<18446744073709551616)/\(0<=d/\d<18446744073709551616)):cl4 a b c d<2^256:=by
 unfold cl4;exact z0d _ _ _ _ (by omega) (by omega) (by omega) (by omega)
mutual
theorem Dz(A:ByteArray->Ot){F:ByteArray->Ah}(h:BdA F):∀t:RT,RtU t->(afT A F t).1<2^256
 | .mk k T a b c d s p,hu=>by
   rw[RtU]at hu;rw[afT];by_cases h2:k=2
   ·rw[if_pos h2]
    split
    ·exact Nl
    ·refine Nat.pow_lt_pow_right (by decide) ?_
     cases T.data[0]? with
     |none=>decide
     |some x=>exact x.toNat_lt
   rw[if_neg h2];by_cases h1:k=1∨k=8∨k=9
   ·rw[if_pos h1];exact Nl
   rw[if_neg h1];by_cases h3:k=3
   ·rw[if_pos h3];exact y0d ⟨hu.1,hu.2.1,hu.2.2.1,hu.2.2.2.1⟩
   rw[if_neg h3];by_cases h4:k=4
   ·rw[if_pos h4];exact Nl
   rw[if_neg h4];by_cases h5:k=5
   ·rw[if_pos h5];exact h T
   rw[if_neg h5];by_cases h6:k=6
   ·rw[if_pos h6];exact z3M A h s hu.2.2.2.2 _ _ Nl
   rw[if_neg h6];by_cases h7:k=7
   ·rw[if_pos h7];exact z3N A h s hu.2.2.2.2 _ (Nat.two_pow_pos _)
   rw[if_neg h7];by_cases h12:k=12
   ·rw[if_pos h12];exact y0e A h s
   rw[if_neg h12];exact y0f A h s hu.2.2.2.2
theorem z3M(A:ByteArray->Ot){F:ByteArray->Ah}(h:BdA F):∀s:List RT,Zh s->∀(on:Bool) (x:Ah),x.1<2^256->(afS A F on x s).1<2^256
 |[],_,on,x,hx=>by rw[afS];exact hx
 |t::r,hu,on,x,hx=>by rw[Zh]at hu;rw[afS];exact z3M A h r hu.2 _ _ (y0b hx)
theorem z3N(A:ByteArray->Ot){F:ByteArray->Ah}(h:BdA F):∀s:List RT,Zh s->∀(x:Ah),x.1<2^256->(afA A F x s).1<2^256
 |[],_,x,hx=>by rw[afA];exact hx
 |t::r,hu,x,hx=>by rw[Zh]at hu;rw[afA];exact z3N A h r hu.2 _ (y0c hx (Dz A h t hu.1))
theorem y0e(A:ByteArray->Ot){F:ByteArray->Ah}(h:BdA F):∀s:List RT,(afN A F s).1<2^256
 |[]=>by rw[afN];exact Nl
 |t::r=>by
  rw[afN];split
  ·exact z5y _
  ·exact Nl
theorem y0f(A:ByteArray->Ot){F:ByteArray->Ah}(h:BdA F):∀s:List RT,Zh s->(afH A F s).1<2^256
 |[],_=>by rw[afH];exact Nat.two_pow_pos _
 |t::r,hu=>by rw[Zh]at hu;rw[afH];exact Dz A h t hu.1
end
theorem z3O:∀k,pc k 0=0
 |0=>rfl
 |k+1=>by rw[pc,z3O k,Nat.zero_testBit];rfl
theorem y0g:Jv ((0:Nat),false)=0:=by unfold Jv;rw[z3O];rfl
theorem z3P(A:ByteArray->Ot)(K:ByteArray->Ah):∀rs:List Rr,rs.reverse.foldl (Jk A) K=Kx A K rs
 |[]=>rfl
 |x::r=>by rw[List.reverse_cons,List.foldl_append,z3P A K r,Kx];rfl
structure RnA (A:ByteArray->Ot) (rs:List Rr) (K0 K:ByteArray->Ah) (l:List Rr) (b:Bool) (n:Nat):Prop where
 k:K=l.foldl (Jk A) K0
 inv:Nh A K rs
 le:Xf K rs<=Xf K0 rs
 no:b=false->K=K0/\∀x∈l,afT A K0 x.2.1=K0 x.1
 yes:b=true->Xf K rs<Xf K0 rs
 bd:BdA K
 cnt:n+Xf K rs<=257*rs.length
section
variable {A:ByteArray->Ot} {rs:List Rr} {K0 K:ByteArray->Ah} {l:List Rr} {b:Bool} {n:Nat}
theorem RnA.start(hb:BdA K0)(h:Nh A K0 rs)(hc:n+Xf K0 rs<=257*rs.length):RnA A rs K0 K0 [] false n:=⟨rfl,h,Nat.le_refl _,fun _=>⟨rfl,fun x hx=>by simp at hx⟩,(fun h=>by cases h),hb,hc⟩
theorem RnA.same(h:RnA A rs K0 K l b n){x:Rr}(e:afT A K x.2.1=K x.1):RnA A rs K0 K (l++[x]) b n:=by
 refine⟨?_,h.inv,h.le,fun hb=>⟨(h.no hb).1,fun y hy=> ?_⟩,h.yes,h.bd,h.cnt⟩
 ·rw[List.foldl_append,<-h.k,List.foldl_cons,List.foldl_nil,Jk]
  exact(z3b e).symm
 ·rcases List.mem_append.1 hy with hy|hy
  ·exact(h.no hb).2 y hy
  ·obtain rfl:y=x:=by simpa using hy
   rw[<-(h.no hb).1];exact e
theorem RnA.new(h:RnA A rs K0 K l b n){x:Rr}(hx:x∈rs)(hbt:(afT A K x.2.1).1<2^256)(hu:∀y∈rs,y.1=x.1->y=x)(e:afT A K x.2.1≠K x.1):RnA A rs K0 (Jd K x.1 (afT A K x.2.1)) (l++[x]) true (n+1):=by
 have hle:=z3d A (h.inv x hx);have hlt:Xf (Jk A K x) rs<Xf K rs:=z3i hle h.bd (h.bd.upd hbt) hx (fun h=>e (by
  unfold Jk Jd at h;rw[if_pos rfl]at h;exact h.symm))
 have h1:=h.le;have h2:=h.cnt;refine⟨?_,z9Q A hu hx h.inv,?_,(fun h=>by cases h),fun _=> ?_,h.bd.upd hbt,?_⟩
 ·rw[List.foldl_append,<-h.k]
  rfl
 ·exact Nat.le_trans (Nat.le_of_lt hlt) h1
 ·exact Nat.lt_of_lt_of_le hlt h1
 ·show n+1+Xf (Jk A K x) rs<=_
  omega
theorem RnA.last(h:RnA A rs K0 K rs.reverse b n):K=Kx A K0 rs:=h.k.trans (z3P A K0 rs)
theorem RnA.fix(h:RnA A rs K0 K rs.reverse false n):K=K0/\Uc A K0 rs:=⟨(h.no rfl).1,fun x hx=>(h.no rfl).2 x (List.mem_reverse.2 hx)⟩
end
theorem y0h(A:ByteArray->Ot)(rs:List Rr):Nh A z0A rs:=fun x hx=>⟨fun i hi=>(by rw[show(z0A x.1).1=0 from rfl,Nat.zero_testBit]at hi;cases hi),fun e=>by cases e⟩
theorem z3Q:∀rs:List Rr,Xf z0A rs=257*rs.length
 |[]=>rfl
 |x::r=>by rw[Xf,z3Q r,List.length_cons];have:Jv (z0A x.1)=0:=y0g;omega
end
open Go.RowKit Go.Shelf
theorem Zj{w:World}{g:Nat}{cur:Array Value}{t:TypeId}(h:w.heap[g]? =some (.cells cur t))(j:Nat)(v:Value)(hj:cur[j]? =some v):w.cell? ⟨g,j,none⟩=some v/\w.frozen? ⟨g,j,none⟩=false:=by
 constructor
 ·simp[World.cell?,h,hj]
 ·simp[World.frozen?,h]
theorem Qy{w:World}{g:Nat}{cur:Array Value}{t:TypeId}(h:w.heap[g]? =some (.cells cur t))(j:Nat)(v:Value):(w.setCell ⟨g,j,none⟩ v).heap[g]? =some (.cells (cur.setIfInBounds j v) t):=by
 obtain⟨hlt,hk⟩:=Array.getElem?_eq_some_iff.1 h;show(w.heap.modify g _)[g]? =_;rw[Array.getElem?_eq_getElem (by rw[Array.size_modify];exact hlt),Array.getElem_modify_self,hk];rfl
@[reducible] def ov (x:Ot):Value:=.agg #[.bool x.1,.bool x.2.1,.bool x.2.2]
theorem Hw(z s f:Bool)(w:World):Calls prog 140 #[.agg #[.bool z,.bool s,.bool f]] w fun e w'=>e=.returned (.bool (suc (z,s,f)))/\Hid (Below w.heap.size w w'):=by
 have HB:Hid (∀o:Obj,Below w.heap.size w (w.alloc o)):=fun o=>(Below.refl _ w).alloc L0q o
 cases z<;>cases s<;>(
  go_enter func140,ntmps140
  go_wp2_with fail
  go_ret;exact⟨rfl,hid (HB.out _)⟩)
theorem Ql{w:World}{B:Nat}{a b c:Value}{t:TypeId}(h:w.heap[B]? =some (.cells #[a,b,c] t)):(w.cell? ⟨B,0,none⟩=some a/\w.cell? ⟨B,1,none⟩=some b/\w.cell? ⟨B,2,none⟩=some c)/\w.frozen? ⟨B,0,none⟩=false/\w.frozen? ⟨B,1,none⟩=false/\w.frozen? ⟨B,2,none⟩=false:=by
 obtain⟨x0,y0⟩:=Zj h 0 a rfl;obtain⟨x1,y1⟩:=Zj h 1 b rfl;obtain⟨x2,y2⟩:=Zj h 2 c rfl;exact⟨⟨x0,x1,x2⟩,y0,y1,y2⟩
theorem z3R{w W W':World}{y0 y1 y2:Value}(h:Hid (Below w.heap.size w W)/\W.cell? ⟨w.heap.size,0,none⟩=some y0/\W.cell? ⟨w.heap.size,1,none⟩=some y1/\W.cell? ⟨w.heap.size,2,none⟩=some y2)(hb:Below W.heap.size W W'):Hid (Below w.heap.size w W')/\W'.cell? ⟨w.heap.size,0,none⟩=some y0/\W'.cell? ⟨w.heap.size,1,none⟩=some y1/\W'.cell? ⟨w.heap.size,2,none⟩=some y2:=by
 obtain⟨z,z0,z1,z2⟩:=h;have hl:w.heap.size<W.heap.size:=World.block_lt_of_cell? W ⟨w.heap.size,0,none⟩ z0;have e:∀j,W'.cell? ⟨w.heap.size,j,none⟩=W.cell? ⟨w.heap.size,j,none⟩:=fun j=>hb.cell (p:=⟨w.heap.size,j,none⟩) hl
 exact⟨hid (z.out.trans (hb.mono z.out.size)),(e _).trans z0,(e _).trans z1,(e _).trans z2⟩
theorem z3S{w W W':World}{y0 y1 y2:Value}(h:Hid (Below w.heap.size w W)/\W.cell? ⟨w.heap.size,0,none⟩=some y0/\W.cell? ⟨w.heap.size,1,none⟩=some y1/\W.cell? ⟨w.heap.size,2,none⟩=some y2)(hb:W.grownBy W' (some (w.heap.size+1+1))):Hid (Below w.heap.size w W')/\W'.cell? ⟨w.heap.size,0,none⟩=some y0/\W'.cell? ⟨w.heap.size,1,none⟩=some y1/\W'.cell? ⟨w.heap.size,2,none⟩=some y2:=by
 obtain⟨z,z0,z1,z2⟩:=h;have e:∀j,W'.cell? ⟨w.heap.size,j,none⟩=W.cell? ⟨w.heap.size,j,none⟩:=fun j=>World.cell?_of_block (hb.block w.heap.size (World.block_lt_of_cell? W ⟨w.heap.size,0,none⟩ z0) (fun e=>by have:=Option.some.inj e;omega))
 exact⟨hid (z.out.grown hb z.out.size (fun g e=>by have:=Option.some.inj e;omega)),(e _).trans z0,(e _).trans z1,(e _).trans z2⟩
theorem Xk(W:World)(R:Nat)(v0 v1 v2:Value):W.grownBy (((W.setCell ⟨R,0,none⟩ v0).setCell ⟨R,1,none⟩ v1).setCell ⟨R,2,none⟩ v2) (some R):=G.setR (G.setR (G.setR (G.refl _ _)))
theorem y0i(z s f:Bool)(w:World):Calls prog 102 #[.int .i64 8,.agg #[.bool z,.bool s,.bool f]] w fun e w'=>e=.returned (ov (Yf 8 (z,s,f)))/\Hid (Below w.heap.size w w'):=by
 have HB:Hid (∀o1 o2 o3:Obj,Below w.heap.size w (((w.alloc o1).alloc o2).alloc o3)):=fun o1 o2 o3=>(((Below.refl _ w).alloc L0q o1).alloc (by simp) o2).alloc (by simp;omega) o3
 match z,s,f with
 |true,true,true=>
  go_enter func102,ntmps102
  go_wp2_with fail
  refine bodyPost_ret (v:=.agg #[.bool true,.bool true,.bool false]) (by simp[results,Tryz.results102,go_sem]) rfl ?_;exact⟨rfl,hid (HB.out _ _ _)⟩
 |true,true,false=>
  go_enter func102,ntmps102
  go_wp2_with fail
  refine bodyPost_ret (v:=.agg #[.bool true,.bool true,.bool false]) (by simp[results,Tryz.results102,go_sem]) rfl ?_;exact⟨rfl,hid (HB.out _ _ _)⟩
 |true,false,true=>
  go_enter func102,ntmps102
  go_wp2_with fail
  refine bodyPost_ret (v:=.agg #[.bool true,.bool false,.bool false]) (by simp[results,Tryz.results102,go_sem]) rfl ?_;exact⟨rfl,hid (HB.out _ _ _)⟩
 |true,false,false=>
  go_enter func102,ntmps102
  go_wp2_with fail
  refine bodyPost_ret (v:=.agg #[.bool true,.bool false,.bool false]) (by simp[results,Tryz.results102,go_sem]) rfl ?_;exact⟨rfl,hid (HB.out _ _ _)⟩
 |false,true,true=>
  go_enter func102,ntmps102
  go_wp2_with fail
  refine bodyPost_ret (v:=.agg #[.bool true,.bool true,.bool false]) (by simp[results,Tryz.results102,go_sem]) rfl ?_;exact⟨rfl,hid (HB.out _ _ _)⟩
 |false,true,false=>
  go_enter func102,ntmps102
  go_wp2_with fail
  refine bodyPost_ret (v:=.agg #[.bool false,.bool true,.bool false]) (by simp[results,Tryz.results102,go_sem]) rfl ?_;exact⟨rfl,hid (HB.out _ _ _)⟩
 |false,false,true=>
  go_enter func102,ntmps102
  go_wp2_with fail
  refine bodyPost_ret (v:=.agg #[.bool true,.bool false,.bool false]) (by simp[results,Tryz.results102,go_sem]) rfl ?_;exact⟨rfl,hid (HB.out _ _ _)⟩
 |false,false,false=>
  go_enter func102,ntmps102
  go_wp2_with fail
  refine bodyPost_ret (v:=.agg #[.bool false,.bool false,.bool false]) (by simp[results,Tryz.results102,go_sem]) rfl ?_;exact⟨rfl,hid (HB.out _ _ _)⟩
theorem y0j(z s f:Bool)(w:World):Calls prog 102 #[.int .i64 9,.agg #[.bool z,.bool s,.bool f]] w fun e w'=>e=.returned (ov (Yf 9 (z,s,f)))/\Hid (Below w.heap.size w w'):=by
 have HB:Hid (∀o1 o2 o3:Obj,Below w.heap.size w (((w.alloc o1).alloc o2).alloc o3)):=fun o1 o2 o3=>(((Below.refl _ w).alloc L0q o1).alloc (by simp) o2).alloc (by simp;omega) o3
 match z,s,f with
 |true,true,true=>
  go_enter func102,ntmps102
  go_wp2_with fail
  refine bodyPost_ret (v:=.agg #[.bool true,.bool true,.bool false]) (by simp[results,Tryz.results102,go_sem]) rfl ?_;exact⟨rfl,hid (HB.out _ _ _)⟩
 |true,true,false=>
  go_enter func102,ntmps102
  go_wp2_with fail
  refine bodyPost_ret (v:=.agg #[.bool false,.bool true,.bool false]) (by simp[results,Tryz.results102,go_sem]) rfl ?_;exact⟨rfl,hid (HB.out _ _ _)⟩
 |true,false,true=>
  go_enter func102,ntmps102
  go_wp2_with fail
  refine bodyPost_ret (v:=.agg #[.bool true,.bool false,.bool false]) (by simp[results,Tryz.results102,go_sem]) rfl ?_;exact⟨rfl,hid (HB.out _ _ _)⟩
 |true,false,false=>
  go_enter func102,ntmps102
  go_wp2_with fail
  refine bodyPost_ret (v:=.agg #[.bool false,.bool false,.bool false]) (by simp[results,Tryz.results102,go_sem]) rfl ?_;exact⟨rfl,hid (HB.out _ _ _)⟩
 |false,true,true=>
  go_enter func102,ntmps102
  go_wp2_with fail
  refine bodyPost_ret (v:=.agg #[.bool true,.bool true,.bool false]) (by simp[results,Tryz.results102,go_sem]) rfl ?_;exact⟨rfl,hid (HB.out _ _ _)⟩
 |false,true,false=>
  go_enter func102,ntmps102
  go_wp2_with fail
  refine bodyPost_ret (v:=.agg #[.bool false,.bool true,.bool false]) (by simp[results,Tryz.results102,go_sem]) rfl ?_;exact⟨rfl,hid (HB.out _ _ _)⟩
 |false,false,true=>
  go_enter func102,ntmps102
  go_wp2_with fail
  refine bodyPost_ret (v:=.agg #[.bool true,.bool false,.bool false]) (by simp[results,Tryz.results102,go_sem]) rfl ?_;exact⟨rfl,hid (HB.out _ _ _)⟩
 |false,false,false=>
  go_enter func102,ntmps102
  go_wp2_with fail
  refine bodyPost_ret (v:=.agg #[.bool false,.bool false,.bool false]) (by simp[results,Tryz.results102,go_sem]) rfl ?_;exact⟨rfl,hid (HB.out _ _ _)⟩
theorem y0k(z s f:Bool)(w:World):Calls prog 102 #[.int .i64 10,.agg #[.bool z,.bool s,.bool f]] w fun e w'=>e=.returned (ov (Yf 10 (z,s,f)))/\Hid (Below w.heap.size w w'):=by
 have HB:Hid (∀o1 o2 o3:Obj,Below w.heap.size w (((w.alloc o1).alloc o2).alloc o3)):=fun o1 o2 o3=>(((Below.refl _ w).alloc L0q o1).alloc (by simp) o2).alloc (by simp;omega) o3
 match z,s,f with
 |true,true,true=>
  go_enter func102,ntmps102
  go_wp2_with fail
  refine bodyPost_ret (v:=.agg #[.bool true,.bool true,.bool true]) (by simp[results,Tryz.results102,go_sem]) rfl ?_;exact⟨rfl,hid (HB.out _ _ _)⟩
 |true,true,false=>
  go_enter func102,ntmps102
  go_wp2_with fail
  refine bodyPost_ret (v:=.agg #[.bool false,.bool true,.bool false]) (by simp[results,Tryz.results102,go_sem]) rfl ?_;exact⟨rfl,hid (HB.out _ _ _)⟩
 |true,false,true=>
  go_enter func102,ntmps102
  go_wp2_with fail
  refine bodyPost_ret (v:=.agg #[.bool true,.bool false,.bool true]) (by simp[results,Tryz.results102,go_sem]) rfl ?_;exact⟨rfl,hid (HB.out _ _ _)⟩
 |true,false,false=>
  go_enter func102,ntmps102
  go_wp2_with fail
  refine bodyPost_ret (v:=.agg #[.bool false,.bool false,.bool false]) (by simp[results,Tryz.results102,go_sem]) rfl ?_;exact⟨rfl,hid (HB.out _ _ _)⟩
 |false,true,true=>
  go_enter func102,ntmps102
  go_wp2_with fail
  refine bodyPost_ret (v:=.agg #[.bool false,.bool true,.bool true]) (by simp[results,Tryz.results102,go_sem]) rfl ?_;exact⟨rfl,hid (HB.out _ _ _)⟩
 |false,true,false=>
  go_enter func102,ntmps102
  go_wp2_with fail
  refine bodyPost_ret (v:=.agg #[.bool false,.bool true,.bool false]) (by simp[results,Tryz.results102,go_sem]) rfl ?_;exact⟨rfl,hid (HB.out _ _ _)⟩
 |false,false,true=>
  go_enter func102,ntmps102
  go_wp2_with fail
  refine bodyPost_ret (v:=.agg #[.bool false,.bool false,.bool true]) (by simp[results,Tryz.results102,go_sem]) rfl ?_;exact⟨rfl,hid (HB.out _ _ _)⟩
 |false,false,false=>
  go_enter func102,ntmps102
  go_wp2_with fail
  refine bodyPost_ret (v:=.agg #[.bool false,.bool false,.bool false]) (by simp[results,Tryz.results102,go_sem]) rfl ?_;exact⟨rfl,hid (HB.out _ _ _)⟩
theorem y0l(z s f:Bool)(w:World):Calls prog 102 #[.int .i64 11,.agg #[.bool z,.bool s,.bool f]] w fun e w'=>e=.returned (ov (Yf 11 (z,s,f)))/\Hid (Below w.heap.size w w'):=by
 obtain⟨W0,hW0⟩:∃W0,W0=((w.alloc (.cells #[.bool z,.bool s,.bool f] 71)).alloc (.cells #[.bool false,.bool false,.bool false] 71)).alloc (.cells #[.bool false,.bool false,.bool false] 71):=⟨_,rfl⟩;have HB0:Hid (Below w.heap.size w W0):=by rw[hW0];exact(((Below.refl _ w).alloc L0q _).alloc (by simp) _).alloc (by simp;omega) _
 have hT0:W0.heap[w.heap.size]? =some (.cells #[.bool z,.bool s,.bool f] 71):=by rw[hW0];exact(Below.heap_alloc _ _ _ (by simp;omega)).trans ((Below.heap_alloc _ _ _ (by simp)).trans (Qx w _ rfl))
 have HR0:Hid (W0.heap[w.heap.size+1]? =some (.cells #[.bool false,.bool false,.bool false] 71)):=by rw[hW0];exact(Below.heap_alloc _ _ _ (by simp)).trans (Qx _ _ (by simp))
 have HZ0:Hid (W0.heap[w.heap.size+1+1]? =some (.cells #[.bool false,.bool false,.bool false] 71)):=by rw[hW0];exact Qx _ _ (by simp)
 obtain⟨⟨t0,t1,t2⟩,_⟩:=Ql hT0;have S2:(fun W:World=>Hid (Below w.heap.size w W)/\W.cell? ⟨w.heap.size,0,none⟩=some (.bool z)/\W.cell? ⟨w.heap.size,1,none⟩=some (.bool s)/\W.cell? ⟨w.heap.size,2,none⟩=some (.bool f)) W0.drew:=⟨hid HB0.out.drew,t0,t1,t2⟩;have lt0:=Qz hT0;have lz0:=Qz HZ0.out;have lr0:=Qz HR0.out;have HS:=hid (fun W:World=>Hw z s f W);clear hT0;go_enter func102,ntmps102
 go_wp2_with fail
 rw[<-hW0];clear hW0
 go_region_held3 (fun W:World=>Hid (Below w.heap.size w W)/\W.cell? ⟨w.heap.size,0,none⟩=some (.bool z)/\W.cell? ⟨w.heap.size,1,none⟩=some (.bool s)/\W.cell? ⟨w.heap.size,2,none⟩=some (.bool f)) (first|(with_reducible assumption)|(with_reducible exact z3R (by assumption) (by assumption))|(with_reducible exact z3S (by assumption) (Xk _ _ _ _ _))) (first
  |(go_at_call 140;refine(HS.out _).mono ?_;rintro e w4 ⟨rfl,HB4⟩;have hb4:=HB4.out;have HZ4:=hid ((hb4.block (w.heap.size+1+1) lz0).trans HZ0.out);have HR4:=hid ((hb4.block (w.heap.size+1) lr0).trans HR0.out);obtain⟨⟨z0,z1,z2⟩,f0,f1,f2⟩:=Ql HZ4.out;have lz:=Qz HZ4.out))
 obtain⟨X3,hX3⟩:∃X3,X3=((w4.setCell ⟨w.heap.size+1+1,0,none⟩ (.bool (suc (z,s,f)))).setCell ⟨w.heap.size+1+1,1,none⟩ (.bool false)).setCell ⟨w.heap.size+1+1,2,none⟩ (.bool f):=⟨_,rfl⟩;have bX3:X3.heap[w.heap.size+1+1]? =some (.cells #[.bool (suc (z,s,f)),.bool false,.bool f] 71):=by rw[hX3];exact Qy (Qy (Qy HZ4.out 0 _) 1 _) 2 _
 have gX3:w4.grownBy X3 (some (w.heap.size+1+1)):=by rw[hX3];exact Xk _ _ _ _ _
 have rX3:X3.heap[w.heap.size+1]? =some (.cells #[.bool false,.bool false,.bool false] 71):=(gX3.block _ (Qz HR4.out) (fun e=>by have:=Option.some.inj e;omega)).trans HR4.out;rw[<-hX3];obtain⟨Y3,hY3⟩:∃Y3,Y3=((X3.setCell ⟨w.heap.size+1,0,none⟩ (.bool (suc (z,s,f)))).setCell ⟨w.heap.size+1,1,none⟩ (.bool false)).setCell ⟨w.heap.size+1,2,none⟩ (.bool f):=⟨_,rfl⟩;have bY3:Y3.heap[w.heap.size+1]? =some (.cells #[.bool (suc (z,s,f)),.bool false,.bool f] 71):=by rw[hY3];exact Qy (Qy (Qy rX3 0 _) 1 _) 2 _
 have gY3:X3.grownBy Y3 (some (w.heap.size+1)):=by rw[hY3];exact Xk _ _ _ _ _
 have hB4:Below w.heap.size w w4:=HB0.out.drew.trans (hb4.mono HB0.out.drew.size);have hBX:Below w.heap.size w X3:=hB4.grown gX3 hB4.size (fun g e=>by have:=Option.some.inj e;omega);have HBY:=hid (hBX.grown gY3 hBX.size (fun g e=>by have:=Option.some.inj e;omega));obtain⟨⟨u0,u1,u2⟩,_⟩:=Ql bX3;obtain⟨⟨r0,r1,r2⟩,q0,q1,q2⟩:=Ql rX3;obtain⟨⟨e0,e1,e2⟩,_⟩:=Ql bY3;have lx:=Qz bX3;have ly:=Qz rX3;have HY3:=hid hY3;clear hX3 hY3 bX3 gX3 rX3 bY3 gY3 hB4 hBX HZ4 HR4 HB4 hb4 z0 z1 z2 f0 f1 f2 S2 t0 t1 t2 HS
 go_wp2_with fail
 rw[<-HY3.out];refine bodyPost_ret (v:=.agg #[.bool (suc (z,s,f)),.bool false,.bool f]) (by simp[results,Tryz.results102,go_sem,e0,e1,e2]) rfl ?_;exact⟨rfl,HBY⟩
theorem y0m(z s f:Bool)(w:World):Calls prog 102 #[.int .i64 12,.agg #[.bool z,.bool s,.bool f]] w fun e w'=>e=.returned (ov (Yf 12 (z,s,f)))/\Hid (Below w.heap.size w w'):=by
 obtain⟨W0,hW0⟩:∃W0,W0=((w.alloc (.cells #[.bool z,.bool s,.bool f] 71)).alloc (.cells #[.bool false,.bool false,.bool false] 71)).alloc (.cells #[.bool false,.bool false,.bool false] 71):=⟨_,rfl⟩;have HB0:Hid (Below w.heap.size w W0):=by rw[hW0];exact(((Below.refl _ w).alloc L0q _).alloc (by simp) _).alloc (by simp;omega) _
 have hT0:W0.heap[w.heap.size]? =some (.cells #[.bool z,.bool s,.bool f] 71):=by rw[hW0];exact(Below.heap_alloc _ _ _ (by simp;omega)).trans ((Below.heap_alloc _ _ _ (by simp)).trans (Qx w _ rfl))
 have HR0:Hid (W0.heap[w.heap.size+1]? =some (.cells #[.bool false,.bool false,.bool false] 71)):=by rw[hW0];exact(Below.heap_alloc _ _ _ (by simp)).trans (Qx _ _ (by simp))
 have HZ0:Hid (W0.heap[w.heap.size+1+1]? =some (.cells #[.bool false,.bool false,.bool false] 71)):=by rw[hW0];exact Qx _ _ (by simp)
 obtain⟨⟨t0,t1,t2⟩,_⟩:=Ql hT0;have S2:(fun W:World=>Hid (Below w.heap.size w W)/\W.cell? ⟨w.heap.size,0,none⟩=some (.bool z)/\W.cell? ⟨w.heap.size,1,none⟩=some (.bool s)/\W.cell? ⟨w.heap.size,2,none⟩=some (.bool f)) W0.drew:=⟨hid HB0.out.drew,t0,t1,t2⟩;have lt0:=Qz hT0;have lz0:=Qz HZ0.out;have lr0:=Qz HR0.out;have HS:=hid (fun W:World=>Hw z s f W);clear hT0;go_enter func102,ntmps102
 go_wp2_with fail
 rw[<-hW0];clear hW0
 go_region_held3 (fun W:World=>Hid (Below w.heap.size w W)/\W.cell? ⟨w.heap.size,0,none⟩=some (.bool z)/\W.cell? ⟨w.heap.size,1,none⟩=some (.bool s)/\W.cell? ⟨w.heap.size,2,none⟩=some (.bool f)) (first|(with_reducible assumption)|(with_reducible exact z3R (by assumption) (by assumption))|(with_reducible exact z3S (by assumption) (Xk _ _ _ _ _))) (first
  |(go_at_call 140;refine(HS.out _).mono ?_;rintro e w4 ⟨rfl,HB4⟩;have hb4:=HB4.out;have HZ4:=hid ((hb4.block (w.heap.size+1+1) lz0).trans HZ0.out);have HR4:=hid ((hb4.block (w.heap.size+1) lr0).trans HR0.out);obtain⟨⟨z0,z1,z2⟩,f0,f1,f2⟩:=Ql HZ4.out;have lz:=Qz HZ4.out))
 obtain⟨X3,hX3⟩:∃X3,X3=((w4.setCell ⟨w.heap.size+1+1,0,none⟩ (.bool f)).setCell ⟨w.heap.size+1+1,1,none⟩ (.bool false)).setCell ⟨w.heap.size+1+1,2,none⟩ (.bool (suc (z,s,f))):=⟨_,rfl⟩;have bX3:X3.heap[w.heap.size+1+1]? =some (.cells #[.bool f,.bool false,.bool (suc (z,s,f))] 71):=by rw[hX3];exact Qy (Qy (Qy HZ4.out 0 _) 1 _) 2 _
 have gX3:w4.grownBy X3 (some (w.heap.size+1+1)):=by rw[hX3];exact Xk _ _ _ _ _
 have rX3:X3.heap[w.heap.size+1]? =some (.cells #[.bool false,.bool false,.bool false] 71):=(gX3.block _ (Qz HR4.out) (fun e=>by have:=Option.some.inj e;omega)).trans HR4.out;rw[<-hX3];obtain⟨Y3,hY3⟩:∃Y3,Y3=((X3.setCell ⟨w.heap.size+1,0,none⟩ (.bool f)).setCell ⟨w.heap.size+1,1,none⟩ (.bool false)).setCell ⟨w.heap.size+1,2,none⟩ (.bool (suc (z,s,f))):=⟨_,rfl⟩;have bY3:Y3.heap[w.heap.size+1]? =some (.cells #[.bool f,.bool false,.bool (suc (z,s,f))] 71):=by rw[hY3];exact Qy (Qy (Qy rX3 0 _) 1 _) 2 _
 have gY3:X3.grownBy Y3 (some (w.heap.size+1)):=by rw[hY3];exact Xk _ _ _ _ _
 have hB4:Below w.heap.size w w4:=HB0.out.drew.trans (hb4.mono HB0.out.drew.size);have hBX:Below w.heap.size w X3:=hB4.grown gX3 hB4.size (fun g e=>by have:=Option.some.inj e;omega);have HBY:=hid (hBX.grown gY3 hBX.size (fun g e=>by have:=Option.some.inj e;omega));obtain⟨⟨u0,u1,u2⟩,_⟩:=Ql bX3;obtain⟨⟨r0,r1,r2⟩,q0,q1,q2⟩:=Ql rX3;obtain⟨⟨e0,e1,e2⟩,_⟩:=Ql bY3;have lx:=Qz bX3;have ly:=Qz rX3;have HY3:=hid hY3;clear hX3 hY3 bX3 gX3 rX3 bY3 gY3 hB4 hBX HZ4 HR4 HB4 hb4 z0 z1 z2 f0 f1 f2 S2 t0 t1 t2 HS
 go_wp2_with fail
 rw[<-HY3.out];refine bodyPost_ret (v:=.agg #[.bool f,.bool false,.bool (suc (z,s,f))]) (by simp[results,Tryz.results102,go_sem,e0,e1,e2]) rfl ?_;exact⟨rfl,HBY⟩
end Go.Proofs.YtjodljnddflgfaaGreatDoor
