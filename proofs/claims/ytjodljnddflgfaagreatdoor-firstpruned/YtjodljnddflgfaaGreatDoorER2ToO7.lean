/- Lemmas for the last text. Conditions: those that each names. -/
import Derived.Test.YtjodljnddflgfaaGreatDoorVFIToFBase
import Derived.RangeFuncNested
import Derived.RangeFuncBound
import Derived.RangeFuncCalls
import Derived.RangeFuncLeaves
import Derived.Shelf.Abstract
import Derived.WalkKit
import Derived.OwnWalkIn
import Derived.TacticsInMore
import Derived.LoopNIn
import Derived.LoopIn
import Derived.Lib.AppendStr
import Derived.RangeFuncBox
import Derived.RangeFuncFrom
import Derived.Maps.OwnIn
import Derived.Maps.Own
import Derived.Maps.OwnOps
import Derived.Maps.OwnSet
import Derived.Shelf.Lay
import Derived.Shelf.Sort.Plain
import Derived.Shelf.Slices.CompactI
import Derived.Shelf.Slices.In.SortNone
import Derived.Sort.OwnSortedInts
import Derived.Ground.NamesProg
import Derived.Ground.Names2Prog
set_option linter.unusedVariables false
set_option maxRecDepth 100000
set_option maxHeartbeats 8000000
namespace Go.Proofs.YtjodljnddflgfaaGreatDoor
open Go.Proofs.Tryz
section
open Go.RowKit Go.Shelf
attribute [local go_sem] Oper.semAt_some
section
variable {s0:Nat}
end
section
variable {s0 l N:Nat} {J Jx:List ByteArray->World->Prop} {QT:ByteArray->ByteArray} {CT:Nat->ByteArray}
end
end
section
open Go.RowKit Go.Shelf
attribute [local go_sem] Oper.semAt_some
section
variable {s0 l N:Nat} {J Jx:List ByteArray->World->Prop} {QT:ByteArray->ByteArray} {CT:Nat->ByteArray}
end
end
section
open Go.RowKit Go.Shelf
attribute [local go_sem] Oper.semAt_some
section
variable {s0 l N:Nat} {J Jx:List ByteArray->World->Prop} {QT:ByteArray->ByteArray} {CT:Nat->ByteArray}
end
end
section
open Go.RowKit Go.Shelf
attribute [local go_sem] Oper.semAt_some
section
variable {s0 l N:Nat} {J Jx:List ByteArray->World->Prop}
end
end
open Go.RowKit Go.Shelf
attribute [local go_sem] Oper.semAt_some
section
attribute [local go_sem] Oper.semAt_some
section
variable {s0 l N:Nat} {J Jx:List Nq->World->Prop}
end
end
section
attribute [local go_sem] Oper.semAt_some
section
variable {s0 l N:Nat} {J Jx:List Nq->World->Prop}
end
end
open Go.Maps
theorem y4c(s:ByteArray):∀l,inN s l=true->ixN s l<l.length
 |[],h=>by simp[inN]at h
 |a::r,h=>by
  rw[inN]at h;rw[ixN];by_cases h2:a=s
  ·simp[h2]
  ·rw[if_neg h2]at h ⊢
   have:=y4c s r h;simp only[List.length_cons];omega
theorem Pm.lt{W:World}{B:Nat}{l:List ByteArray}(h:Pm W B l):B<W.heap.size:=by
 obtain⟨D,h1,_⟩:=h;exact h1.lt
attribute [local go_sem] Oper.semAt_some
end Go.Proofs.YtjodljnddflgfaaGreatDoor
namespace Go.Proofs
open Go.Shelf
end Go.Proofs
namespace Go.Proofs.YtjodljnddflgfaaGreatDoor
open Go.Proofs.Tryz
open Go.RowKit Go.Shelf Go.Sort
theorem y4O(blk off cap:Nat)(zs:List Int)(w:World)(hH:Holds (Value.int .i64) w blk off zs.toArray)(hblk:blk<w.heap.size)(hsz:zs.length<4611686018427387904):
 Calls prog 122 #[.slice (some ⟨blk,off,none⟩) zs.length cap] w fun e w'=>
  e=.returned (.tuple #[])/\∃n os,w'=grow (putRow (Value.int .i64) (Sort.ahead w n) blk off (zs.mergeSort fun x y=>decide (x<=y)).toArray) os:=Any.slices_Sort_int Tryz.lays189 blk off cap zs w hH hblk hsz
theorem y4P(p:Option Addr)(cap:Nat)(w:World):
 Calls prog 122 #[.slice p 0 cap] w fun e w'=>e=.returned (.tuple #[])/\w'=w:=Any.slices_Sort_int_none Tryz.lays189 p cap w
theorem y4Q(blk off cap:Nat)(zs:List Int)(w:World)(hH:Holds (Value.int .i64) w blk off zs.toArray)(hsz:zs.length<=9223372036854775807)(hcap:zs.length<=cap):
 Calls prog 151 #[.slice (some ⟨blk,off,none⟩) zs.length cap] w fun e w'=>e=.returned (.slice (some ⟨blk,off,none⟩) (Lib.compact zs).length cap)/\∃q,w'=putRow (Value.int .i64) (Sort.ahead w q) blk off (Lib.compact zs++List.replicate (zs.length-(Lib.compact zs).length) 0).toArray:=Any.slices_Compact_int Tryz.lays2_20 blk off cap zs w hH hsz hcap
theorem y4R(a:Option Addr)(cap:Nat)(w:World):
 Calls prog 151 #[.slice a 0 cap] w fun e w'=>e=.returned (.slice a 0 cap)/\w'=w:=Any.slices_Compact_int_empty Tryz.lays2_20 a cap w
theorem y4m(zs:List Int):(Lib.compact zs).length<=zs.length:=by
 unfold Lib.compact Lib.compactUpTo;rw[List.length_map];exact Nat.le_trans (List.length_filter_le _ _) (by simp)
def srt(zs:List Int):List Int:=zs.mergeSort fun x y=>decide (x<=y)
theorem y3X(zs:List Int):(srt zs).length=zs.length:=List.length_mergeSort zs
theorem y4n{W:World}{s:Nat}{v:Value}{zs:List Int}(h:W.ownsRow s 3 1 v zs.length (zs.map (Value.int .i64)))(hz:zs.length<=1048576):
  Calls prog 122 #[v] W fun e w'=>e=.returned (.tuple #[])/\w'.ownsRow s 3 1 v zs.length ((srt zs).map (Value.int .i64))/\W.grownBy w' v.ownBlock:=by
 rcases h.2 with⟨rfl,h0⟩|⟨g,cap,cur,rfl,hg,hb,h1,h2,h3,h4⟩
 ·refine(y4P none 0 W).mono fun e w' he=>⟨he.1,?_,?_⟩
  ·rw[he.2]
   cases zs with
   |nil=>rw[show srt []=[]from List.length_eq_zero_iff.1 (y3X [])];exact h
   |cons _ _=>simp at h0
  ·rw[he.2]
   exact⟨rfl,rfl,rfl,Nat.le_refl _,fun _ _ _=>rfl⟩
 ·refine(y4O g 0 cap zs W (holds_of_blockI hb (by rw[<-h4,Nat.mul_one])) (Array.getElem?_eq_some_iff.1 hb).1 (by omega)).mono fun e w' he=> ?_
  obtain⟨he,n,os,hw⟩:=he;refine⟨he,?_,?_⟩
  ·rw[hw]
   exact ownsRow_sortedI (y3X zs) hg hb h1 h2 h3
  ·rw[hw]
   exact grownBy_sortedI _
theorem y4S{W:World}{s:Nat}{v:Value}{zs:List Int}(h:W.ownsRow s 3 1 v zs.length (zs.map (Value.int .i64)))(hz:zs.length<=1048576):
  Calls prog 151 #[v] W fun e w'=>∃v',e=.returned v'/\w'.ownsRow s 3 1 v' (Lib.compact zs).length ((Lib.compact zs).map (Value.int .i64))/\W.grownBy w' v.ownBlock:=by
 rcases h.2 with⟨rfl,h0⟩|⟨g,cap,cur,rfl,hg,hb,h1,h2,h3,h4⟩
 ·refine(y4R none 0 W).mono fun e w' he=>⟨_,he.1,?_,?_⟩
  ·rw[he.2]
   cases zs with
   |nil=>exact h
   |cons _ _=>simp at h0
  ·rw[he.2]
   exact⟨rfl,rfl,rfl,Nat.le_refl _,fun _ _ _=>rfl⟩
 ·refine(y4Q g 0 cap zs W (holds_of_blockI hb (by rw[<-h4,Nat.mul_one])) (by omega) h1).mono fun e w' he=> ?_
  obtain⟨he,q,hw⟩:=he;have hc:=y4m zs;have hl:(Lib.compact zs++List.replicate (zs.length-(Lib.compact zs).length) 0).length=zs.length:=by
   rw[List.length_append,List.length_replicate];omega
  have hw2:w'=grow (putRow (Value.int .i64) (Sort.ahead W q) g 0 (Lib.compact zs++List.replicate (zs.length-(Lib.compact zs).length) 0).toArray) #[]:=by rw[grow_empty];exact hw
  refine⟨_,he,⟨by simp,.inr ⟨g,cap,_,rfl,hg,by rw[hw2];exact heap_sortedI _ hb,by omega,h2,by simp[putCells,h3],?_⟩⟩,by rw[hw2];exact grownBy_sortedI _⟩;have ht:=take_putCellsI cur (Lib.compact zs++List.replicate (zs.length-(Lib.compact zs).length) 0) (by rw[hl,h3];omega);rw[hl]at ht;obtain⟨X,hX⟩:∃X,X=(putCells (Value.int .i64) 0 (Lib.compact zs++List.replicate (zs.length-(Lib.compact zs).length) 0).toArray cur).toList:=⟨_,rfl⟩;rw[<-hX]at ht ⊢;have e:X.take (Lib.compact zs).length=(X.take zs.length).take (Lib.compact zs).length:=by rw[List.take_take,Nat.min_eq_left hc]
  rw[Nat.mul_one,e,ht,List.map_append,List.take_append_of_le_length (by simp),List.take_of_length_le (by simp)]
open Go.Maps
attribute [local go_sem] Oper.semAt_some
theorem Tryz.infoInt:(Tryz.prog.info? 3).map (fun i=>(i.zero,i.size,i.bytes))=some (some (.int .i64 0),1,8):=by kernel_rfl
def ixV(l:List ByteArray)(s:ByteArray):Nat:=if inN s l then ixN s l else 0
def ixL(l:List ByteArray)(q:List (ByteArray×Int)):List Int:=q.map fun x=>(ixV l x.1:Int)
theorem y4T(l:List ByteArray)(a b:List (ByteArray×Int)):ixL l (a++b)=ixL l a++ixL l b:=List.map_append
theorem y4o(l:List ByteArray)(q:List (ByteArray×Int)):(ixL l q).length=q.length:=List.length_map _
theorem Kt.grown3{W W1:World}{base k:Nat}{v:Value}{xs:List Value}(hr:W.ownsRow base 3 1 v k xs)(hg:W.grownBy W1 v.ownBlock)(hb:1<base)(hs:base<=W.heap.size):Kt base W W1:=by
 have hB:Below base W W1:=(Below.refl base W).grown hg hs (fun j ej=>by
  rcases hr.2 with⟨rfl,_⟩|⟨g,cap,cur,rfl,h,_,_⟩
  ·simp[Value.ownBlock]at ej
  ·obtain rfl:g=j:=by simpa [Value.ownBlock]using ej
   exact h)
 refine⟨hB.size,fun j cur u hu hj=>hg.block j (Array.getElem?_eq_some_iff.1 hj).1 (fun e=> ?_),fun j u hv=>(hB.cell (p:=⟨1,j,none⟩) hb).trans hv,fun j hj o ho=>(hB.block j hj).trans ho⟩;rcases hr.2 with⟨rfl,_⟩|⟨g,cap,cur',rfl,_,hgb,_⟩
 ·simp[Value.ownBlock]at e
 ·obtain rfl:j=g:=by simpa [Value.ownBlock]using e
  rw[hgb]at hj;cases hj;rcases hu with h|h|h<;>exact absurd h (by decide)
theorem Kt.mono{s0 s1:Nat}{W W':World}(h:Kt s1 W W')(hs:s0<=s1):Kt s0 W W':=⟨h.1,h.2.1,h.2.2.1,fun j hj o ho=>h.2.2.2 j (by omega) o ho⟩
theorem y4d{W W1:World}{base k:Nat}{v:Value}{xs:List Value}(hr:W.ownsRow base 3 1 v k xs)(hg:W.grownBy W1 v.ownBlock)(hs:base<=W.heap.size):KeepsOthers W W1/\Below base W W1:=by
 constructor
 ·refine KeepsOthers.of_grownBy hg fun j o ej hj=> ?_
  rcases hr.2 with⟨rfl,_⟩|⟨g,cap,cur,rfl,_,hgb,_⟩
  ·simp[Value.ownBlock]at ej
  ·obtain rfl:g=j:=by simpa [Value.ownBlock]using ej
   rw[hgb]at hj;cases hj;rfl
 ·exact(Below.refl base W).grown hg hs (fun j ej=>by
   rcases hr.2 with⟨rfl,_⟩|⟨g,cap,cur,rfl,h,_,_⟩
   ·simp[Value.ownBlock]at ej
   ·obtain rfl:g=j:=by simpa [Value.ownBlock]using ej
    exact h)
structure Us (w:World) (M:Nat) (l:List ByteArray) (ps:List (ByteArray×Int)) (W:World):Prop where
 out:∃v,Boxed W (w.heap.size+1+1) 99 v/\W.ownsRow w.heap.size 3 1 v ps.length ((ixL l ps).map (Value.int .i64))/\True
 pl:Boxed W (w.heap.size+1) 174 (.map (some M))
 pm:Pm W M l
 be:Below w.heap.size w W
theorem y4U(k1:Int)(T1:ByteArray)(a1 b1 c1 d1:Int)(so1:Option Addr)(n1 cap1:Nat)(p1:Int)(t:RT)(M:Nat)(l:List ByteArray)(w:World)(B:Nat)(hB0:B<=w.heap.size)(ht:Qk w B t (r8 k1 T1 a1 b1 c1 d1 so1 n1 cap1 p1))(hz:RtZ t)(hTg:1<w.heap.size)(hP:Pm w M l)(hlen:(rfT t).length<=1048576)(m:Nat):
  CallsIn Fence.wide (m+5) prog 120 #[.agg #[.int .i64 k1,.string T1,.int .u64 a1,.int .u64 b1,.int .u64 c1,.int .u64 d1,.slice so1 n1 cap1,.int .i64 p1],.map (some M)] w fun e w'=>∃v,e=.returned v/\w'.ownsRow w.heap.size 3 1 v (Lib.compact (srt (ixL l (rfT t)))).length ((Lib.compact (srt (ixL l (rfT t)))).map (Value.int .i64))/\Below w.heap.size w w':=by
 obtain⟨i0,hi0,hz0,hz1,hz2⟩:=info_parts Tryz.infoInt;have hMl:M<w.heap.size:=hP.lt;refine callsIn_of_wp_marks func120 rfl trivial ?_ rfl;simp only[ntmps120,List.size_toArray,List.length_cons,List.length_nil,Nat.reduceAdd,Nat.reduceSub,Array.replicate_succ,Array.replicate_zero,List.push_toArray,List.append_toArray,List.nil_append,List.cons_append]
 gi_wp2_with (first
  |(refine⟨trivial,?_⟩;gi_at_call 136;refine(y0y _ k1 T1 a1 b1 c1 d1 so1 n1 cap1 p1 _).mono ?_;rintro e w4 ⟨rfl,rfl⟩))
 obtain⟨w5,hw5⟩:∃w5,w5=(((w.alloc (.cells #[.int .i64 k1,.string T1,.int .u64 a1,.int .u64 b1,.int .u64 c1,.int .u64 d1,.slice so1 n1 cap1,.int .i64 p1] 30)).alloc (.cells #[.map (some M)] 174)).alloc (.cells #[.slice none 0 0] 99)).alloc (.cells #[.int .i64 k1,.string T1,.int .u64 a1,.int .u64 b1,.int .u64 c1,.int .u64 d1,.slice so1 n1 cap1,.int .i64 p1] 30):=⟨_,rfl⟩;rw[<-hw5];have hB5:Below w.heap.size w w5:=by rw[hw5];exact((((Below.refl _ w).alloc L0q _).alloc (by simp) _).alloc (by simp;omega) _).alloc (by simp;omega) _
 have hs5:w5.heap.size=w.heap.size+1+1+1+1:=by rw[hw5];simp
 have b1':Boxed w5 (w.heap.size+1) 174 (.map (some M)):=by
  rw[hw5];have:=((Boxed.new (w.alloc (.cells #[.int .i64 k1,.string T1,.int .u64 a1,.int .u64 b1,.int .u64 c1,.int .u64 d1,.slice so1 n1 cap1,.int .i64 p1] 30)) 174 (.map (some M))).alloc (.cells #[.slice none 0 0] 99)).alloc (.cells #[.int .i64 k1,.string T1,.int .u64 a1,.int .u64 b1,.int .u64 c1,.int .u64 d1,.slice so1 n1 cap1,.int .i64 p1] 30);simpa only[World.size_alloc]using this
 have b2':Boxed w5 (w.heap.size+1+1) 99 (.slice none 0 0):=by
  rw[hw5];have:=(Boxed.new ((w.alloc (.cells #[.int .i64 k1,.string T1,.int .u64 a1,.int .u64 b1,.int .u64 c1,.int .u64 d1,.slice so1 n1 cap1,.int .i64 p1] 30)).alloc (.cells #[.map (some M)] 174)) 99 (.slice none 0 0)).alloc (.cells #[.int .i64 k1,.string T1,.int .u64 a1,.int .u64 b1,.int .u64 c1,.int .u64 d1,.slice so1 n1 cap1,.int .i64 p1] 30);simpa only[World.size_alloc]using this
 have hbn:w5.heap[w.heap.size+1+1+1]? =some (.cells #[.int .i64 k1,.string T1,.int .u64 a1,.int .u64 b1,.int .u64 c1,.int .u64 d1,.slice so1 n1 cap1,.int .i64 p1] 30):=by rw[hw5];exact Qx _ _ (by simp)
 have hrt5:=ht.below (hB5.mono hB0);have hP5:=hP.below hB5 hMl;clear hw5;refine wpIn_rangeFunc_ownH rfl (by omega) (gf:=162) (lb:=#[.pointer (some ⟨w.heap.size+1+1+1,0,none⟩)]) rfl trivial (enters_of func162 (by kernel_rfl) rfl)
  (y0x (s0:=B) t k1 T1 a1 b1 c1 d1 so1 n1 cap1 p1 _ _ w5 hbn hrt5 hz) Kt.trans (fun W' l o o' h1 h2 h3 h4=>Kt.book W' l o o' (by omega) h2 h3) B0q (fun _=>rfl)
  (fun pre W=>Us w M l (tps pre) W/\w5.heap.size<=W.heap.size) (fun c pre W=>False)
  ?own (fun c pre X Y row h=>h.elim) ⟨⟨⟨_,b2',World.ownsRow_nil _ _ _ _,trivial⟩,b1',hP5,hB5⟩,Nat.le_refl _⟩
  (fun x a' W=>∃b,a'={tmps:=#[.agg #[.int .i64 k1,.string T1,.int .u64 a1,.int .u64 b1,.int .u64 c1,.int .u64 d1,.slice so1 n1 cap1,.int .i64 p1],.map (some M),.pointer (some ⟨w.heap.size,0,none⟩),.pointer (some ⟨w.heap.size+1,0,none⟩),.slice none 0 0,.pointer (some ⟨w.heap.size+1+1,0,none⟩),.pointer (some ⟨b,0,none⟩),.agg #[.int .i64 k1,.string T1,.int .u64 a1,.int .u64 b1,.int .u64 c1,.int .u64 d1,.slice so1 n1 cap1,.int .i64 p1],.func (.func 162) #[] #[.pointer (some ⟨w.heap.size+1+1+1,0,none⟩)],x.v,undef,undef,undef,undef,undef,undef,undef,undef,undef,undef,undef],defers:=[]}/\W.heap[b]? =some (.cells #[.int .i64 x.k,.string x.T,.int .u64 x.a,.int .u64 x.b,.int .u64 x.c,.int .u64 x.d,.slice x.so x.n x.cap,.int .i64 x.p] 30))
  ?ownA ?assign ?Qp ?done (fun D c pre W _ _ h=>h.elim)
 case own=>
  rintro pre X Y row ⟨⟨h1,h2,h3,h4⟩,h5⟩ hg hr;have hB:Below w5.heap.size X Y:=(Below.refl _ X).grown hg h5 (fun k e=>(hr k e).1);have hr':=fun r e=>(hr r e).2
  exact⟨⟨holdsRow_own w.heap.size (w.heap.size+1+1) 99 3 1 (fun p:List Nq=>(tps p).length) (fun p=>(ixL l (tps p)).map (Value.int .i64)) (fun _ _=>True) pre X Y row h1 hg hr',Uh h2 hg hr',h3.below hB (by omega),h4.trans (hB.mono (by omega))⟩,Nat.le_trans h5 hB.size⟩
 case ownA=>
  rintro x a' _ X Y row ⟨b,h1,h2⟩ hg hr;exact⟨b,h1,Hg h2 hg (fun r e=>(hr r e).2)⟩
 case assign=>
  rintro lp pre x W K ⟨⟨h1,h2,h3,h4⟩,h5⟩ hK;have hB:Below w5.heap.size W (W.alloc (.cells #[.int .i64 x.k,.string x.T,.int .u64 x.a,.int .u64 x.b,.int .u64 x.c,.int .u64 x.d,.slice x.so x.n x.cap,.int .i64 x.p] 30)):=(Below.refl _ W).alloc h5 _;have HK:=hid (hK {tmps:=#[.agg #[.int .i64 k1,.string T1,.int .u64 a1,.int .u64 b1,.int .u64 c1,.int .u64 d1,.slice so1 n1 cap1,.int .i64 p1],.map (some M),.pointer (some ⟨w.heap.size,0,none⟩),.pointer (some ⟨w.heap.size+1,0,none⟩),.slice none 0 0,.pointer (some ⟨w.heap.size+1+1,0,none⟩),.pointer (some ⟨W.heap.size,0,none⟩),.agg #[.int .i64 k1,.string T1,.int .u64 a1,.int .u64 b1,.int .u64 c1,.int .u64 d1,.slice so1 n1 cap1,.int .i64 p1],.func (.func 162) #[] #[.pointer (some ⟨w.heap.size+1+1+1,0,none⟩)],x.v,undef,undef,undef,undef,undef,undef,undef,undef,undef,undef,undef],defers:=[]} (W.alloc (.cells #[.int .i64 x.k,.string x.T,.int .u64 x.a,.int .u64 x.b,.int .u64 x.c,.int .u64 x.d,.slice x.so x.n x.cap,.int .i64 x.p] 30)) (KeepsFrom.of_grownBy (World.grownBy_alloc W _ none) (fun j e=>by cases e)) (Kt.alloc W _) ⟨⟨?_,h2.alloc _,h3.below hB (by omega),h4.trans (hB.mono (by omega))⟩,Nat.le_trans h5 hB.size⟩ ⟨W.heap.size,rfl,Qx W _ rfl⟩)
  ·clear hK h1 h2 h3 h4 h5 hB
   gi_wp2
   exact HK.out
  ·obtain⟨v,hv,hr,_⟩:=h1
   exact⟨v,hv.alloc _,hr.alloc _,trivial⟩
 case Qp=>
  rintro lp pre x a' W hlp ⟨r,hr⟩ ⟨⟨h1,h2,h3,h4⟩,h5⟩ ⟨b,rfl,hb⟩ hlt;obtain⟨v,hv,hrow,_⟩:=h1;have hsz:x.T.size<=maxLen:=x.z;have cv:=hv.cell;have cp:=h2.cell;obtain⟨⟨c0,c1',c2,c3,c4,c5,c6,c7⟩,_⟩:=Qg hb;have lb:=Qz hb;have ho:=hv.lt;obtain⟨D,hown,hD⟩:=h3;have hpl:(tps pre).length<1048576:=by rw[y0r];omega
  gi_wp2_with (first
   |(gi_at_lookup;refine wpListIn_lookup_own_int _ rfl _ _ 174 rfl 9 3 .i64 Fk Tryz.underlying174 Tryz.underlying3 (Hy _) M _ D rfl hown _ _ rfl (Fv hsz) ?_;intro cc hat hwc)
   |(gi_at_builtin;refine wpListIn_append_own _ rfl _ _ 99 rfl w.heap.size 3 i0 (.int .i64 0) 1 8 Tryz.underlying99 hi0 hz0 hz1 hz2 rfl (by decide) _ _ _ rfl (hrow.alloc _) ⟨W.heap.size,0,none⟩ 1 1 [.int .i64 cc] rfl rfl (cell_one_new _ _ _) (by simp[Value.oneCell']) (by unfold maxLen;omega) (by omega) (by have:=h4.size;simp;omega) ?_;intro v' w1 hown' hgrow _;obtain⟨g',cap',rfl⟩:=ownsRow_succ hown';obtain⟨hv1,hv2,hr2,hko,hbe⟩:=Boxed.appended hv (by decide) hrow h4.size (by omega) hown' hgrow;have cv1:=hv1.cell;have fv1:=hv1.frozen))
  have et:tps (pre++[x])=tps pre++[(x.T,x.p)]:=by rw[Td];rfl
  have ec:cc=(ixV l x.T:Int):=by
   unfold ixV;cases hin:inN x.T l with
   |true=>
    rw[(hD x.T).2 hin]at hat;injection hat with hat
    injection hat with _ hat
    rw[<-hat];rfl
   |false=>
    rw[Maps.atKey_of_not_has (by rw[(hD x.T).1,hin])]at hat;injection hat with hat
    injection hat with _ hat
    rw[<-hat];rfl
  have hkt:Kt B W (w1.setCell ⟨w.heap.size+1+1,0,none⟩ (.slice (some ⟨g',0,none⟩) ((tps pre).length+1) cap')):=((Kt.alloc W _).trans ((Kt.grown3 (hrow.alloc _) hgrow hTg (by rw[World.size_alloc];have:=h4.size;omega)).mono hB0)).trans ((Kt.put hv1 _ (by decide) (by omega) (by omega)).mono hB0);refine⟨hko.from _,hkt,⟨?_,?_,Pm.below ⟨D,hown,hD⟩ hbe hMl,h4.trans hbe⟩,Nat.le_trans h5 hbe.size⟩
  ·rw[et,y4T,List.length_append,List.map_append]
   refine⟨_,hv2,?_,trivial⟩;rw[ec]at hr2;exact hr2
  ·exact((h2.alloc _).kept hgrow (h2.not_row (by decide) hrow)).other (by omega) _
 case done=>
  rintro D ys W hD hys ⟨⟨h1,h2,h3,h4⟩,h5⟩ hK;obtain⟨v,hv,hrow,_⟩:=h1;rw[hys]at hrow;have hll:(ixL l (rfT t)).length=(rfT t).length:=y4o _ _;rw[<-hll]at hrow;obtain⟨zs,hzs⟩:∃zs,zs=ixL l (rfT t):=⟨_,rfl⟩;rw[<-hzs]at hrow hll;have HS:=hid (y4n hrow (by omega));have HZ2:Hid (zs.length<=1048576):=by show _<=_;omega
  obtain⟨kz,hkz⟩:∃kz,kz=zs.length:=⟨_,rfl⟩;rw[<-hkz]at hrow HS;obtain⟨so,sc,rfl⟩:=z9h hrow;have cv:=hv.cell;have HKZ:Hid (kz=zs.length):=hkz;have HRow:=hid hrow;have HZS:Hid (zs=ixL l (rfT t)):=hzs;have HV:=hid hv;have HB4:=hid h4;have HK:=hid hK;clear hll hzs hkz hrow h2 h3 hys hv h4 hK
  gi_wp2
  refine⟨trivial,(callsIn_wide.2 HS.out).mono ?_⟩;rintro e w6 ⟨rfl,hr6,hg6⟩;have hv6:=HV.out.kept hg6 (HV.out.not_row (by decide) HRow.out);have cv6:=hv6.cell;have HC:=hid (y4S (zs:=srt zs) (by rw[y3X,<-HKZ.out];exact hr6) (by rw[y3X];exact HZ2.out));have HG6:=hid hg6;have HR6:=hid hr6;clear HS cv hv6 hg6 hr6
  gi_wp2
  refine⟨trivial,(callsIn_wide.2 HC.out).mono ?_⟩;rintro e w7 ⟨v7,rfl,hr7,hg7⟩;obtain⟨k7,hk7⟩:∃k7,k7=(Lib.compact (srt zs)).length:=⟨_,rfl⟩;rw[<-hk7]at hr7;obtain⟨so7,sc7,rfl⟩:=z9h hr7;have HK7:Hid (k7=(Lib.compact (srt zs)).length):=hk7;have HR7:=hid hr7;have HG7:=hid hg7;clear HC cv6 hk7 hr7 hg7
  gi_wp2
  have k6:=y4d HRow.out HG6.out HB4.out.size;have k7':=y4d HR6.out HG7.out (Nat.le_trans HB4.out.size k6.2.size);have hD7:=(k6.1.trans k7'.1).same D _ HK.out rfl;have hB7:Below w.heap.size w w7:=(HB4.out.trans k6.2).trans k7'.2;refine Bz (base:=w.heap.size) _ w7.heap.size _ ⟨D,rfl,by omega,Qz hD7,hD7,trivial⟩ fun w' hk=>⟨.slice so7 k7 sc7,by simp[results,Tryz.f120,go_sem],_,rfl,?_,hB7.trans hk.1⟩
  rw[<-HZS.out,<-HK7.out];refine⟨HR7.out.1,?_⟩;rcases HR7.out.2 with h1|⟨g,cap,cur,h1,h2,h3,h4⟩
  ·exact .inl h1
  ·exact .inr ⟨g,cap,cur,h1,h2,hk.2 g _ h3 (fun l e=>by cases e),h4⟩
end Go.Proofs.YtjodljnddflgfaaGreatDoor
