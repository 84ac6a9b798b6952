/- Lemmas for the last text. Conditions: those that each names. -/
import Derived.Test.YthmgblmoobkliaaGreatDoorVO5
import Derived.Shelf.Lay
import Derived.Shelf.Sort.Plain
import Derived.Shelf.Slices.CompactI
import Derived.Shelf.Slices.In.SortNone
import Derived.Sort.OwnSortedInts
import Derived.Ground.NamesProg
import Derived.Ground.Names2Prog
import Derived.Test.YthmgblmoobkliaaGreatDoorVS1ToO4
import Derived.Laws.EntriesVeiled
set_option linter.unusedVariables false
set_option maxRecDepth 100000
set_option maxHeartbeats 8000000
namespace Go.Proofs.YthmgblmoobkliaaGreatDoor
open Go.Proofs.Tryz
end Go.Proofs.YthmgblmoobkliaaGreatDoor
namespace Go.Proofs
open Go.Shelf
shelf_lay Lays.n189 Nm 189 at Tryz as Tryz.lays189
shelf_lay Lays2.n20 Nm2 20 at Tryz as Tryz.lays2_20
end Go.Proofs
namespace Go.Proofs.YthmgblmoobkliaaGreatDoor
open Go.Proofs.Tryz
open Go.RowKit Go.Shelf Go.Sort
variable {W W' w:World} {k n s:Nat} {v:Value} {xs:List Value} {cur:Array Value} {T:ByteArray}
theorem y0A(blk off cap:Nat)(zs:List Int)(w:World)(hH:Holds (Value.int .i64) w blk off zs.toArray)(hblk:blk<w.heap.size)(hsz:zs.length<4611686018427387904):
 Calls prog 53 #[.slice (some ⟨blk,off,none⟩) zs.length cap] w fun e w'=>
  e=.returned (.tuple #[])/\∃n os,w'=grow (putRow (Value.int .i64) (Sort.ahead w n) blk off (zs.mergeSort fun x y=>decide (x<=y)).toArray) os:=Any.slices_Sort_int Tryz.lays189 blk off cap zs w hH hblk hsz
theorem y0B(p:Option Addr)(cap:Nat)(w:World):
 Calls prog 53 #[.slice p 0 cap] w fun e w'=>e=.returned (.tuple #[])/\w'=w:=Any.slices_Sort_int_none Tryz.lays189 p cap w
theorem y0C(blk off cap:Nat)(zs:List Int)(w:World)(hH:Holds (Value.int .i64) w blk off zs.toArray)(hsz:zs.length<=9223372036854775807)(hcap:zs.length<=cap):
 Calls prog 54 #[.slice (some ⟨blk,off,none⟩) zs.length cap] w fun e w'=>e=.returned (.slice (some ⟨blk,off,none⟩) (Lib.compact zs).length cap)/\∃q,w'=putRow (Value.int .i64) (Sort.ahead w q) blk off (Lib.compact zs++List.replicate (zs.length-(Lib.compact zs).length) 0).toArray:=Any.slices_Compact_int Tryz.lays2_20 blk off cap zs w hH hsz hcap
theorem y0D(a:Option Addr)(cap:Nat)(w:World):
 Calls prog 54 #[.slice a 0 cap] w fun e w'=>e=.returned (.slice a 0 cap)/\w'=w:=Any.slices_Compact_int_empty Tryz.lays2_20 a cap w
theorem Sp(zs:List Int):(Lib.compact zs).length<=zs.length:=by
 unfold Lib.compact Lib.compactUpTo;rw[List.length_map];exact Nat.le_trans (List.length_filter_le _ _) (by simp)
def srt(zs:List Int):List Int:=zs.mergeSort fun x y=>decide (x<=y)
theorem Jc(zs:List Int):(srt zs).length=zs.length:=List.length_mergeSort zs
theorem Sc{zs:List Int}(h:W.ownsRow s 3 1 v zs.length (zs.map (Value.int .i64)))(hz:zs.length<=1048576):
  Calls prog 53 #[v] W fun e w'=>e=.returned (.tuple #[])/\w'.ownsRow s 3 1 v zs.length ((srt zs).map (Value.int .i64))/\W.grownBy w' v.ownBlock:=by
 rcases h.2 with⟨rfl,h0⟩|⟨g,cap,cur,rfl,hg,hb,h1,h2,h3,h4⟩
 ·refine(y0B none 0 W).mono fun e w' he=>⟨he.1,?_,?_⟩
  ·rw[he.2]
   cases zs with
   |nil=>rw[show srt []=[]from List.length_eq_zero_iff.1 (Jc [])];exact h
   |cons _ _=>simp at h0
  ·rw[he.2]
   exact⟨rfl,rfl,rfl,Nat.le_refl _,fun _ _ _=>rfl⟩
 ·refine(y0A g 0 cap zs W (holds_of_blockI hb (by rw[<-h4,Nat.mul_one])) (Array.getElem?_eq_some_iff.1 hb).1 (by omega)).mono fun e w' he=> ?_
  obtain⟨he,n,os,hw⟩:=he;refine⟨he,?_,?_⟩
  ·rw[hw]
   exact ownsRow_sortedI (Jc zs) hg hb h1 h2 h3
  ·rw[hw]
   exact grownBy_sortedI _
theorem z3l{zs:List Int}(h:W.ownsRow s 3 1 v zs.length (zs.map (Value.int .i64)))(hz:zs.length<=1048576):
  Calls prog 54 #[v] W fun e w'=>∃v',e=.returned v'/\w'.ownsRow s 3 1 v' (Lib.compact zs).length ((Lib.compact zs).map (Value.int .i64))/\W.grownBy w' v.ownBlock:=by
 rcases h.2 with⟨rfl,h0⟩|⟨g,cap,cur,rfl,hg,hb,h1,h2,h3,h4⟩
 ·refine(y0D none 0 W).mono fun e w' he=>⟨_,he.1,?_,?_⟩
  ·rw[he.2]
   cases zs with
   |nil=>exact h
   |cons _ _=>simp at h0
  ·rw[he.2]
   exact⟨rfl,rfl,rfl,Nat.le_refl _,fun _ _ _=>rfl⟩
 ·refine(y0C g 0 cap zs W (holds_of_blockI hb (by rw[<-h4,Nat.mul_one])) (by omega) h1).mono fun e w' he=> ?_
  obtain⟨he,q,hw⟩:=he;have hc:=Sp zs;have hl:(Lib.compact zs++List.replicate (zs.length-(Lib.compact zs).length) 0).length=zs.length:=by
   rw[List.length_append,List.length_replicate];omega
  have hw2:w'=grow (putRow (Value.int .i64) (Sort.ahead W q) g 0 (Lib.compact zs++List.replicate (zs.length-(Lib.compact zs).length) 0).toArray) #[]:=by rw[grow_empty];exact hw
  refine⟨_,he,⟨by simp,.inr ⟨g,cap,_,rfl,hg,by rw[hw2];exact heap_sortedI _ hb,by omega,h2,by simp[putCells,h3],?_⟩⟩,by rw[hw2];exact grownBy_sortedI _⟩;have ht:=take_putCellsI cur (Lib.compact zs++List.replicate (zs.length-(Lib.compact zs).length) 0) (by rw[hl,h3];omega);rw[hl]at ht;obtain⟨X,hX⟩:∃X,X=(putCells (Value.int .i64) 0 (Lib.compact zs++List.replicate (zs.length-(Lib.compact zs).length) 0).toArray cur).toList:=⟨_,rfl⟩;rw[<-hX]at ht ⊢;have e:X.take (Lib.compact zs).length=(X.take zs.length).take (Lib.compact zs).length:=by rw[List.take_take,Nat.min_eq_left hc]
  rw[Nat.mul_one,e,ht,List.map_append,List.take_append_of_le_length (by simp),List.take_of_length_le (by simp)]
open Go.Maps
attribute [local go_sem] Oper.semAt_some
theorem Tryz.infoInt:(Tryz.prog.info? 3).map (fun i=>(i.zero,i.size,i.bytes))=some (some (.int .i64 0),1,8):=by kernel_rfl
def ixV(l:List ByteArray)(s:ByteArray):Nat:=if inN s l then ixN s l else 0
def ixL(l:List ByteArray)(q:List (ByteArray×Int)):List Int:=q.map fun x=>(ixV l x.1:Int)
theorem y0E(l:List ByteArray)(a b:List (ByteArray×Int)):ixL l (a++b)=ixL l a++ixL l b:=List.map_append
theorem z3m(l:List ByteArray)(q:List (ByteArray×Int)):(ixL l q).length=q.length:=List.length_map _
theorem Kt.grown3{W1:World}{base:Nat}(hr:W.ownsRow base 3 1 v k xs)(hg:W.grownBy W1 v.ownBlock)(hb:3<base)(hs:base<=W.heap.size):Kt base W W1:=by
 have hB:Below base W W1:=(Below.refl base W).grown hg hs (fun j ej=>by
  rcases hr.2 with⟨rfl,_⟩|⟨g,cap,cur,rfl,h,_,_⟩
  ·simp[Value.ownBlock]at ej
  ·obtain rfl:g=j:=by simpa [Value.ownBlock]using ej
   exact h)
 refine⟨hB.size,fun j cur u hu hj=>hg.block j (Array.getElem?_eq_some_iff.1 hj).1 (fun e=> ?_),fun j u hv=>(hB.cell (p:=⟨3,j,none⟩) hb).trans hv,fun j hj o ho=>(hB.block j hj).trans ho⟩;rcases hr.2 with⟨rfl,_⟩|⟨g,cap,cur',rfl,_,hgb,_⟩
 ·simp[Value.ownBlock]at e
 ·obtain rfl:j=g:=by simpa [Value.ownBlock]using e
  rw[hgb]at hj;cases hj;rcases hu with h|h|h<;>exact absurd h (by decide)
theorem Kt.mono{s0 s1:Nat}(h:Kt s1 W W')(hs:s0<=s1):Kt s0 W W':=⟨h.1,h.2.1,h.2.2.1,fun j hj o ho=>h.2.2.2 j (by omega) o ho⟩
theorem Sl{W1:World}{base:Nat}(hr:W.ownsRow base 3 1 v k xs)(hg:W.grownBy W1 v.ownBlock)(hs:base<=W.heap.size):KeepsOthers W W1/\Below base W W1:=by
 constructor
 ·refine KeepsOthers.of_grownBy hg fun j o ej hj=> ?_
  rcases hr.2 with⟨rfl,_⟩|⟨g,cap,cur,rfl,_,hgb,_⟩
  ·simp[Value.ownBlock]at ej
  ·obtain rfl:g=j:=by simpa [Value.ownBlock]using ej
   rw[hgb]at hj;cases hj;rfl
 ·exact(Below.refl base W).grown hg hs (fun j ej=>by
   rcases hr.2 with⟨rfl,_⟩|⟨g,cap,cur,rfl,h,_,_⟩
   ·simp[Value.ownBlock]at ej
   ·obtain rfl:g=j:=by simpa [Value.ownBlock]using ej
    exact h)
structure Us (w:World) (M:Nat) (l:List ByteArray) (ps:List (ByteArray×Int)) (W:World):Prop where
 out:∃v,Boxed W (w.heap.size+1+1) 33 v/\W.ownsRow w.heap.size 3 1 v ps.length ((ixL l ps).map (Value.int .i64))/\True
 pl:Boxed W (w.heap.size+1) 82 (.map (some M))
 pm:Pm W M l
 be:Below w.heap.size w W
theorem y0F(k1:Int)(T1:ByteArray)(a1 b1 c1 d1:Int)(so1:Option Addr)(n1 cap1:Nat)(p1:Int)(t:RT)(M:Nat)(l:List ByteArray)(w:World)(B:Nat)(hB0:B<=w.heap.size)(ht:Qj w B t (r8 k1 T1 a1 b1 c1 d1 so1 n1 cap1 p1))(hz:RtZ t)(hTg:3<w.heap.size)(hP:Pm w M l)(hlen:(rfT t).length<=1048576)(m:Nat):
  CallsIn Fence.wide (m+5) prog 43 #[.agg #[.int .i64 k1,.string T1,.int .u64 a1,.int .u64 b1,.int .u64 c1,.int .u64 d1,.slice so1 n1 cap1,.int .i64 p1],.map (some M)] w fun e w'=>∃v,e=.returned v/\w'.ownsRow w.heap.size 3 1 v (Lib.compact (srt (ixL l (rfT t)))).length ((Lib.compact (srt (ixL l (rfT t)))).map (Value.int .i64))/\Below w.heap.size w w':=by
 obtain⟨i0,hi0,hz0,hz1,hz2⟩:=info_parts Tryz.infoInt;have hMl:M<w.heap.size:=hP.lt;refine callsIn_of_wp_marks func43 rfl trivial ?_ rfl;simp only[ntmps43,List.size_toArray,List.length_cons,List.length_nil,Nat.reduceAdd,Nat.reduceSub,Array.replicate_succ,Array.replicate_zero,List.push_toArray,List.append_toArray,List.nil_append,List.cons_append]
 gi_wp2_with (first
  |(refine⟨trivial,?_⟩;gi_at_call 70;refine(z3f _ k1 T1 a1 b1 c1 d1 so1 n1 cap1 p1 _).mono ?_;rintro e w4 ⟨rfl,rfl⟩))
 obtain⟨w5,hw5⟩:∃w5,w5=(((w.alloc (.cells #[.int .i64 k1,.string T1,.int .u64 a1,.int .u64 b1,.int .u64 c1,.int .u64 d1,.slice so1 n1 cap1,.int .i64 p1] 54)).alloc (.cells #[.map (some M)] 82)).alloc (.cells #[.slice none 0 0] 33)).alloc (.cells #[.int .i64 k1,.string T1,.int .u64 a1,.int .u64 b1,.int .u64 c1,.int .u64 d1,.slice so1 n1 cap1,.int .i64 p1] 54):=⟨_,rfl⟩;rw[<-hw5];have hB5:Below w.heap.size w w5:=by rw[hw5];exact((((Below.refl _ w).alloc L0q _).alloc (by simp) _).alloc (by simp;omega) _).alloc (by simp;omega) _
 have hs5:w5.heap.size=w.heap.size+1+1+1+1:=by rw[hw5];simp
 have b1':Boxed w5 (w.heap.size+1) 82 (.map (some M)):=by
  rw[hw5];have:=((Boxed.new (w.alloc (.cells #[.int .i64 k1,.string T1,.int .u64 a1,.int .u64 b1,.int .u64 c1,.int .u64 d1,.slice so1 n1 cap1,.int .i64 p1] 54)) 82 (.map (some M))).alloc (.cells #[.slice none 0 0] 33)).alloc (.cells #[.int .i64 k1,.string T1,.int .u64 a1,.int .u64 b1,.int .u64 c1,.int .u64 d1,.slice so1 n1 cap1,.int .i64 p1] 54);simpa only[World.size_alloc]using this
 have b2':Boxed w5 (w.heap.size+1+1) 33 (.slice none 0 0):=by
  rw[hw5];have:=(Boxed.new ((w.alloc (.cells #[.int .i64 k1,.string T1,.int .u64 a1,.int .u64 b1,.int .u64 c1,.int .u64 d1,.slice so1 n1 cap1,.int .i64 p1] 54)).alloc (.cells #[.map (some M)] 82)) 33 (.slice none 0 0)).alloc (.cells #[.int .i64 k1,.string T1,.int .u64 a1,.int .u64 b1,.int .u64 c1,.int .u64 d1,.slice so1 n1 cap1,.int .i64 p1] 54);simpa only[World.size_alloc]using this
 have hbn:w5.heap[w.heap.size+1+1+1]? =some (.cells #[.int .i64 k1,.string T1,.int .u64 a1,.int .u64 b1,.int .u64 c1,.int .u64 d1,.slice so1 n1 cap1,.int .i64 p1] 54):=by rw[hw5];exact Qx _ _ (by simp)
 have hrt5:=ht.below (hB5.mono hB0);have hP5:=hP.below hB5 hMl;clear hw5;refine wpIn_rangeFunc_ownH rfl (by omega) (gf:=109) (lb:=#[.pointer (some ⟨w.heap.size+1+1+1,0,none⟩)]) rfl trivial (enters_of func109 (by kernel_rfl) rfl)
  (z3e (s0:=B) t k1 T1 a1 b1 c1 d1 so1 n1 cap1 p1 _ _ w5 hbn hrt5 hz) Kt.trans (fun W' l o o' h1 h2 h3 h4=>Kt.book W' l o o' (by omega) h2 h3) B0q (fun _=>rfl)
  (fun pre W=>Us w M l (tps pre) W/\w5.heap.size<=W.heap.size) (fun c pre W=>False)
  ?own (fun c pre X Y row h=>h.elim) ⟨⟨⟨_,b2',World.ownsRow_nil _ _ _ _,trivial⟩,b1',hP5,hB5⟩,Nat.le_refl _⟩
  (fun x a' W=>∃b,a'={tmps:=#[.agg #[.int .i64 k1,.string T1,.int .u64 a1,.int .u64 b1,.int .u64 c1,.int .u64 d1,.slice so1 n1 cap1,.int .i64 p1],.map (some M),.pointer (some ⟨w.heap.size,0,none⟩),.pointer (some ⟨w.heap.size+1,0,none⟩),.slice none 0 0,.pointer (some ⟨w.heap.size+1+1,0,none⟩),.pointer (some ⟨b,0,none⟩),.agg #[.int .i64 k1,.string T1,.int .u64 a1,.int .u64 b1,.int .u64 c1,.int .u64 d1,.slice so1 n1 cap1,.int .i64 p1],.func (.func 109) #[] #[.pointer (some ⟨w.heap.size+1+1+1,0,none⟩)],x.v,undef,undef,undef,undef,undef,undef,undef,undef,undef,undef,undef],defers:=[]}/\W.heap[b]? =some (.cells #[.int .i64 x.k,.string x.T,.int .u64 x.a,.int .u64 x.b,.int .u64 x.c,.int .u64 x.d,.slice x.so x.n x.cap,.int .i64 x.p] 54))
  ?ownA ?assign ?Qg ?done (fun D c pre W _ _ h=>h.elim)
 case own=>
  rintro pre X Y row ⟨⟨h1,h2,h3,h4⟩,h5⟩ hg hr;have hB:Below w5.heap.size X Y:=(Below.refl _ X).grown hg h5 (fun k e=>(hr k e).1);have hr':=fun r e=>(hr r e).2
  exact⟨⟨holdsRow_own w.heap.size (w.heap.size+1+1) 33 3 1 (fun p:List Nq=>(tps p).length) (fun p=>(ixL l (tps p)).map (Value.int .i64)) (fun _ _=>True) pre X Y row h1 hg hr',Vy h2 hg hr',h3.below hB (by omega),h4.trans (hB.mono (by omega))⟩,Nat.le_trans h5 hB.size⟩
 case ownA=>
  rintro x a' _ X Y row ⟨b,h1,h2⟩ hg hr;exact⟨b,h1,El h2 hg (fun r e=>(hr r e).2)⟩
 case assign=>
  rintro lp pre x W K ⟨⟨h1,h2,h3,h4⟩,h5⟩ hK;have hB:Below w5.heap.size W (W.alloc (.cells #[.int .i64 x.k,.string x.T,.int .u64 x.a,.int .u64 x.b,.int .u64 x.c,.int .u64 x.d,.slice x.so x.n x.cap,.int .i64 x.p] 54)):=(Below.refl _ W).alloc h5 _;have HK:=hid (hK {tmps:=#[.agg #[.int .i64 k1,.string T1,.int .u64 a1,.int .u64 b1,.int .u64 c1,.int .u64 d1,.slice so1 n1 cap1,.int .i64 p1],.map (some M),.pointer (some ⟨w.heap.size,0,none⟩),.pointer (some ⟨w.heap.size+1,0,none⟩),.slice none 0 0,.pointer (some ⟨w.heap.size+1+1,0,none⟩),.pointer (some ⟨W.heap.size,0,none⟩),.agg #[.int .i64 k1,.string T1,.int .u64 a1,.int .u64 b1,.int .u64 c1,.int .u64 d1,.slice so1 n1 cap1,.int .i64 p1],.func (.func 109) #[] #[.pointer (some ⟨w.heap.size+1+1+1,0,none⟩)],x.v,undef,undef,undef,undef,undef,undef,undef,undef,undef,undef,undef],defers:=[]} (W.alloc (.cells #[.int .i64 x.k,.string x.T,.int .u64 x.a,.int .u64 x.b,.int .u64 x.c,.int .u64 x.d,.slice x.so x.n x.cap,.int .i64 x.p] 54)) (KeepsFrom.of_grownBy (World.grownBy_alloc W _ none) (fun j e=>by cases e)) (Kt.alloc W _) ⟨⟨?_,h2.alloc _,h3.below hB (by omega),h4.trans (hB.mono (by omega))⟩,Nat.le_trans h5 hB.size⟩ ⟨W.heap.size,rfl,Qx W _ rfl⟩)
  ·clear hK h1 h2 h3 h4 h5 hB
   gi_wp2
   exact HK.out
  ·obtain⟨v,hv,hr,_⟩:=h1
   exact⟨v,hv.alloc _,hr.alloc _,trivial⟩
 case Qg=>
  rintro lp pre x a' W hlp ⟨r,hr⟩ ⟨⟨h1,h2,h3,h4⟩,h5⟩ ⟨b,rfl,hb⟩ hlt;obtain⟨v,hv,hrow,_⟩:=h1;have hsz:x.T.size<=maxLen:=x.z;have cv:=hv.cell;have cp:=h2.cell;obtain⟨⟨c0,c1',c2,c3,c4,c5,c6,c7⟩,_⟩:=Qw hb;have lb:=Qq hb;have ho:=hv.lt;obtain⟨D,hown,hD⟩:=h3;have hpl:(tps pre).length<1048576:=by rw[z3c];omega
  gi_wp2_with (first
   |(gi_at_lookup;refine wpListIn_lookup_own_int _ rfl _ _ 82 rfl 9 3 .i64 Fj Tryz.underlying82 Tryz.underlying3 (Db _) M _ D rfl hown _ _ rfl (Fk hsz) ?_;intro cc hat hwc)
   |(gi_at_builtin;refine wpListIn_append_own _ rfl _ _ 33 rfl w.heap.size 3 i0 (.int .i64 0) 1 8 Tryz.underlying33 hi0 hz0 hz1 hz2 rfl (by decide) _ _ _ rfl (hrow.alloc _) ⟨W.heap.size,0,none⟩ 1 1 [.int .i64 cc] rfl rfl (cell_one_new _ _ _) (by simp[Value.oneCell']) (by unfold maxLen;omega) (by omega) (by have:=h4.size;simp;omega) ?_;intro v' w1 hown' hgrow _;obtain⟨g',cap',rfl⟩:=ownsRow_succ hown';obtain⟨hv1,hv2,hr2,hko,hbe⟩:=Boxed.appended hv (by decide) hrow h4.size (by omega) hown' hgrow;have cv1:=hv1.cell;have fv1:=hv1.frozen))
  have et:tps (pre++[x])=tps pre++[(x.T,x.p)]:=by rw[Ec];rfl
  have ec:cc=(ixV l x.T:Int):=by
   unfold ixV;cases hin:inN x.T l with
   |true=>
    rw[(hD x.T).2 hin]at hat;injection hat with hat
    injection hat with _ hat
    rw[<-hat];rfl
   |false=>
    rw[Maps.atKey_of_not_has (by rw[(hD x.T).1,hin])]at hat;injection hat with hat
    injection hat with _ hat
    rw[<-hat];rfl
  have hkt:Kt B W (w1.setCell ⟨w.heap.size+1+1,0,none⟩ (.slice (some ⟨g',0,none⟩) ((tps pre).length+1) cap')):=((Kt.alloc W _).trans ((Kt.grown3 (hrow.alloc _) hgrow hTg (by rw[World.size_alloc];have:=h4.size;omega)).mono hB0)).trans ((Kt.put hv1 _ (by decide) (by omega) (by omega)).mono hB0);refine⟨hko.from _,hkt,⟨?_,?_,Pm.below ⟨D,hown,hD⟩ hbe hMl,h4.trans hbe⟩,Nat.le_trans h5 hbe.size⟩
  ·rw[et,y0E,List.length_append,List.map_append]
   refine⟨_,hv2,?_,trivial⟩;rw[ec]at hr2;exact hr2
  ·exact((h2.alloc _).kept hgrow (h2.not_row (by decide) hrow)).other (by omega) _
 case done=>
  rintro D ys W hD hys ⟨⟨h1,h2,h3,h4⟩,h5⟩ hK;obtain⟨v,hv,hrow,_⟩:=h1;rw[hys]at hrow;have hll:(ixL l (rfT t)).length=(rfT t).length:=z3m _ _;rw[<-hll]at hrow;obtain⟨zs,hzs⟩:∃zs,zs=ixL l (rfT t):=⟨_,rfl⟩;rw[<-hzs]at hrow hll;have HS:=hid (Sc hrow (by omega));have HZ2:Hid (zs.length<=1048576):=by show _<=_;omega
  obtain⟨kz,hkz⟩:∃kz,kz=zs.length:=⟨_,rfl⟩;rw[<-hkz]at hrow HS;obtain⟨so,sc,rfl⟩:=Jp hrow;have cv:=hv.cell;have HKZ:Hid (kz=zs.length):=hkz;have HRow:=hid hrow;have HZS:Hid (zs=ixL l (rfT t)):=hzs;have HV:=hid hv;have HB4:=hid h4;have HK:=hid hK;clear hll hzs hkz hrow h2 h3 hys hv h4 hK
  gi_wp2
  refine⟨trivial,(callsIn_wide.2 HS.out).mono ?_⟩;rintro e w6 ⟨rfl,hr6,hg6⟩;have hv6:=HV.out.kept hg6 (HV.out.not_row (by decide) HRow.out);have cv6:=hv6.cell;have HC:=hid (z3l (zs:=srt zs) (by rw[Jc,<-HKZ.out];exact hr6) (by rw[Jc];exact HZ2.out));have HG6:=hid hg6;have HR6:=hid hr6;clear HS cv hv6 hg6 hr6
  gi_wp2
  refine⟨trivial,(callsIn_wide.2 HC.out).mono ?_⟩;rintro e w7 ⟨v7,rfl,hr7,hg7⟩;obtain⟨k7,hk7⟩:∃k7,k7=(Lib.compact (srt zs)).length:=⟨_,rfl⟩;rw[<-hk7]at hr7;obtain⟨so7,sc7,rfl⟩:=Jp hr7;have HK7:Hid (k7=(Lib.compact (srt zs)).length):=hk7;have HR7:=hid hr7;have HG7:=hid hg7;clear HC cv6 hk7 hr7 hg7
  gi_wp2
  have k6:=Sl HRow.out HG6.out HB4.out.size;have k7':=Sl HR6.out HG7.out (Nat.le_trans HB4.out.size k6.2.size);have hD7:=(k6.1.trans k7'.1).same D _ HK.out rfl;have hB7:Below w.heap.size w w7:=(HB4.out.trans k6.2).trans k7'.2;refine Ml (base:=w.heap.size) _ w7.heap.size _ ⟨D,rfl,by omega,Qq hD7,hD7,trivial⟩ fun w' hk=>⟨.slice so7 k7 sc7,by simp[results,Tryz.f43,go_sem],_,rfl,?_,hB7.trans hk.1⟩
  rw[<-HZS.out,<-HK7.out];refine⟨HR7.out.1,?_⟩;rcases HR7.out.2 with h1|⟨g,cap,cur,h1,h2,h3,h4⟩
  ·exact .inl h1
  ·exact .inr ⟨g,cap,cur,h1,h2,hk.2 g _ h3 (fun l e=>by cases e),h4⟩
theorem Zx{g:Nat}{t:TypeId}(h:w.heap[g]? =some (.cells cur t))(j:Nat)(v:Value)(hj:cur[j]? =some v):w.cell? ⟨g,j,none⟩=some v/\w.frozen? ⟨g,j,none⟩=false:=by
 constructor
 ·simp[World.cell?,h,hj]
 ·simp[World.frozen?,h]
theorem Qf{g:Nat}{t:TypeId}(h:w.heap[g]? =some (.cells cur t))(j:Nat)(v:Value):(w.setCell ⟨g,j,none⟩ v).heap[g]? =some (.cells (cur.setIfInBounds j v) t):=by
 obtain⟨hlt,hk⟩:=Array.getElem?_eq_some_iff.1 h;show(w.heap.modify g _)[g]? =_;rw[Array.getElem?_eq_getElem (by rw[Array.size_modify];exact hlt),Array.getElem_modify_self,hk];rfl
def usR(l:List ByteArray)(x:Rr):List Int:=Lib.compact (srt (ixL l (rfT x.2.1)))
structure Uw (w:World) (ub n:Nat) (vs:List Value) (us:List (List Int)) (W:World):Prop where
 blk:W.heap[ub]? =some (.cells (vs++List.replicate (n-vs.length) (Value.slice none 0 0)).toArray 33)
 len:vs.length=us.length
 row:∀i (h1:i<vs.length) (h2:i<us.length),W.ownsRow w.heap.size 3 1 vs[i] us[i].length (us[i].map (Value.int .i64))
 be:Below w.heap.size w W
 lo:w.heap.size<=ub
theorem z3n{α:Type}(vs:List α)(n:Nat)(z:α)(h:vs.length<n):(vs++List.replicate (n-vs.length) z).toArray[vs.length]? =some z:=by
 rw[List.getElem?_toArray,List.getElem?_append_right L0q,Nat.sub_self,List.getElem?_replicate,if_pos (by omega)]
theorem y0G{α:Type}(vs:List α)(n:Nat)(z v:α)(h:vs.length<n):(vs++List.replicate (n-vs.length) z).toArray.setIfInBounds vs.length v=((vs++[v])++List.replicate (n-(vs++[v]).length) z).toArray:=by
 have e:n-vs.length=(n-(vs++[v]).length)+1:=by simp;omega
 rw[e,List.replicate_succ];simp
theorem y0H{S:Nat}(h:W.ownsRow s 3 1 v k xs)(hb:Below S W W')(hS:S=W.heap.size):W'.ownsRow s 3 1 v k xs:=by
 refine⟨h.1,?_⟩;rcases h.2 with h1|⟨g,cap,cur,h1,h2,h3,h4⟩
 ·exact .inl h1
 ·exact .inr ⟨g,cap,cur,h1,h2,(hb.block g (by rw[hS];exact(Array.getElem?_eq_some_iff.1 h3).1)).trans h3,h4⟩
theorem z3o{ub j:Nat}{u:Value}(h:W.ownsRow s 3 1 v k xs)(hu:W.heap[ub]? =some (.cells cur 33)):(W.setCell ⟨ub,j,none⟩ u).ownsRow s 3 1 v k xs:=by
 refine⟨h.1,?_⟩;rcases h.2 with h1|⟨g,cap,cur',h1,h2,h3,h4⟩
 ·exact .inl h1
 ·refine .inr ⟨g,cap,cur',h1,h2,(Below.heap_setCell _ _ _ g (fun e=> ?_)).trans h3,h4⟩
  have e:g=ub:=e;rw[e,hu]at h3;cases h3
theorem Az{s':Nat}(h:W.ownsRow s 3 1 v k xs)(hs:s'<=s):W.ownsRow s' 3 1 v k xs:=by
 refine⟨h.1,?_⟩;rcases h.2 with h1|⟨g,cap,cur,h1,h2,h3⟩
 ·exact .inl h1
 ·exact .inr ⟨g,cap,cur,h1,by omega,h3⟩
theorem Uw.below{ub:Nat}{vs:List Value}{us:List (List Int)}(h:Uw w ub n vs us W)(hb:Below W.heap.size W W'):Uw w ub n vs us W':=
 ⟨(hb.block ub (Array.getElem?_eq_some_iff.1 h.blk).1).trans h.blk,h.len,fun i h1 h2=>y0H (h.row i h1 h2) hb rfl,h.be.trans (hb.mono h.be.size),h.lo⟩
theorem Uw.step{w:World}{ub n:Nat}{vs:List Value}{us:List (List Int)}{W:World}{v:Value}{u:List Int}(h:Uw w ub n vs us W)(hn:vs.length<n)(hr:W.ownsRow w.heap.size 3 1 v u.length (u.map (Value.int .i64))):Uw w ub n (vs++[v]) (us++[u]) (W.setCell ⟨ub,vs.length,none⟩ v):=by
 refine⟨by rw[Qf h.blk,y0G vs n _ v hn],by simp[h.len],fun i h1 h2=> ?_,h.be.setCell (p:=⟨ub,vs.length,none⟩) h.lo v,h.lo⟩;by_cases hi:i<vs.length
 ·have hi2:i<us.length:=by rw[<-h.len];exact hi
  rw[List.getElem_append_left hi,List.getElem_append_left hi2];exact z3o (h.row i hi hi2) h.blk
 ·have e1:i=vs.length:=by simp at h1;omega
  subst e1;have e2:vs.length=us.length:=h.len;rw[List.getElem_append_right (by omega)];have:(us++[u])[vs.length]=u:=by rw[List.getElem_append_right (by omega)];simp[e2]
  rw[this];simp only[Nat.sub_self,List.getElem_cons_zero];exact z3o hr h.blk
theorem Tryz.infoInts:(Tryz.prog.info? 33).map (fun i=>(i.zero,i.size,i.bytes))=some (some (.slice none 0 0),1,24):=by kernel_rfl
theorem Tz(z:Value)(hz:z.cells=#[z])(k:Nat):madeCells z.cells k=(List.replicate k z).toArray:=by
 rw[hz];unfold madeCells;apply Array.ext
 ·simp
 ·intro i h1 h2
  simp[Nat.mod_one]
theorem z3p(n:Nat)(hn:n<=1048576)(W:World):(Instr.makeSlice 30 (.int .i64 n) (.int .i64 n)).run prog W=.ok (.slice (some ⟨W.heap.size,0,none⟩) n n) (W.alloc (.cells (List.replicate n (Value.slice none 0 0)).toArray 33)):=by
 obtain⟨i0,hi0,hz0,hz1,hz2⟩:=info_parts Tryz.infoInts;rw[run_make W 30 33 i0 (.slice none 0 0) Tryz.underlying30 hi0 hz0 .i64 .i64 n n (by omega) (by omega) (by rw[hz2];omega) (by omega),hz1,Tz _ rfl];simp
theorem y0I(so:Option Addr)(n cap:Nat)(rs:List Rr)(w:World)(h:Qv w w.heap.size so n rs)(hTg:3<w.heap.size)(HZ:Hid (RgZ rs))(HL:Hid (∀x∈rs,(rfT x.2.1).length<=1048576))(hn:n<=1048576)
  (HC:Hid (∀W:World,Below w.heap.size w W->Calls prog 42 #[.agg #[.slice so n cap]] W fun e w'=>∃M,e=.returned (.tuple #[.map (some M),.nilIface])/\W.heap.size<=M/\Pm w' M (nmL rs)/\Below W.heap.size W w')):
  Calls prog 23 #[.agg #[.slice so n cap]] w fun e w'=>∃ub vs,e=.returned (.tuple #[.slice (some ⟨ub,0,none⟩) n n,.nilIface])/\vs.length=n/\Uw w ub n vs (rs.map (usR (nmL rs))) w':=by
 obtain⟨W0,hW0⟩:∃W0,W0=w.alloc (.cells #[.slice so n cap] 24):=⟨_,rfl⟩;have hB0:Below w.heap.size w W0:=by rw[hW0];exact(Below.refl _ w).alloc L0q _
 have c1:W0.heap[w.heap.size]? =some (.cells #[.slice so n cap] 24):=by rw[hW0];exact Qx w _ rfl
 have hs0:W0.heap.size=w.heap.size+1:=by rw[hW0];simp
 have HC0:=hid (HC.out W0 hB0);have hmk:=z3p n hn;go_enter func23,ntmps23
 go_wp2_with fail
 rw[<-hW0];clear hW0;refine HC0.out.mono ?_;rintro e W1 ⟨M,rfl,hM,HP,hb1⟩;have d1:=(hb1.block _ (by omega)).trans c1;have hs1:=hb1.size;obtain⟨e1,_⟩:=Qk d1;have hl1:w.heap.size<W1.heap.size:=by omega
 clear HC0 HC;obtain⟨ub,hub⟩:∃ub,ub=W1.heap.size:=⟨_,rfl⟩;obtain⟨W2,hW2⟩:∃W2,W2=W1.alloc (.cells (Array.replicate n (Value.slice none 0 0)) 33):=⟨_,rfl⟩;have hBw:Below w.heap.size w W1:=hB0.trans (hb1.mono hB0.size);have HU2:Hid (Uw w ub n [] [] W2):=by
  refine⟨?_,rfl,fun i h1=>by simp at h1,by rw[hW2];exact hBw.alloc hBw.size _,by rw[hub];exact hBw.size⟩;rw[hW2,hub,Qx _ _ rfl];simp
 have HP2:Hid (Pm W2 M (nmL rs)):=by rw[hW2];exact HP.kept (World.grownBy_alloc _ _ none) (by simp)
 have HMu:Hid (M<ub):=by rw[hub];exact HP.lt
 have HR:=hid h;have HNl:Hid (n=rs.length):=h.1
 go_wp2_with fail
 rw[<-hW2,<-hub];clear hW2 hub d1 e1 h hs0 hs1 hB0 c1 hb1 hl1 hmk HP hBw hM
 go_loopw [24] (fun i wr=>∃j:Nat,i=.int .i64 j/\j<=n/\Hid (∃vs,vs.length=j/\Uw w ub n vs ((rs.take j).map (usR (nmL rs))) wr)/\Hid (Pm wr M (nmL rs))) (fun i _=>n-(intOf i).toNat)
 case atStart=>exact⟨0,rfl,Nat.zero_le _,⟨[],rfl,by rw[List.take_zero];exact HU2.out⟩,HP2⟩
 case round=>
  obtain⟨j,rfl,hj,HUj,HPj⟩:=hrel;by_cases hjn:j<n
  ·have hjI:(j:Int)<(n:Int):=by omega
   have a0:decide ((j:Int)<(n:Int))=true:=by simp;omega
   have hjs:j<rs.length:=by rw[<-HNl.out];exact hjn
   obtain⟨g,o,rfl,hg,k1,T1,a1,b1,c1,d1,so1,n1,cap1,p1,hrt,r0⟩:=HR.out.2.2 j hjs;obtain⟨vs,hvl,hU⟩:=HUj.out;have hce:∀q,wr.cell? ⟨g,q,none⟩=w.cell? ⟨g,q,none⟩:=fun q=>hU.be.cell (p:=⟨g,q,none⟩) hg
   simp only[<-hce]at r0;obtain⟨z0,z1,z2,z3,z4,z5,z6,z7,z8,z9⟩:=r0;have hgl:g<wr.heap.size:=World.block_lt_of_cell? wr _ z0;obtain⟨N0,hN0⟩:∃N0,N0=rs[j].1:=⟨_,rfl⟩;obtain⟨q1,hq1⟩:∃q1,q1=rs[j].2.2:=⟨_,rfl⟩;rw[<-hN0]at z0;rw[<-hq1]at z9;have hb2:Below wr.heap.size wr (wr.alloc (.cells #[.string N0,.int .i64 k1,.string T1,.int .u64 a1,.int .u64 b1,.int .u64 c1,.int .u64 d1,.slice so1 n1 cap1,.int .i64 p1,.int .i64 q1] 56)):=(Below.refl _ wr).alloc L0q _;have hU2:=hU.below hb2;have hx:=List.getElem_mem hjs;have HUS:=hid (callsIn_wide.1 (y0F k1 T1 a1 b1 c1 d1 so1 n1 cap1 p1 rs[j].2.1 M (nmL rs) (wr.alloc (.cells #[.string N0,.int .i64 k1,.string T1,.int .u64 a1,.int .u64 b1,.int .u64 c1,.int .u64 d1,.slice so1 n1 cap1,.int .i64 p1,.int .i64 q1] 56)) w.heap.size hU2.be.size (hrt.below hU2.be) (HZ.out _ hx).2 (by have:=hU2.be.size;omega) (HPj.out.kept (World.grownBy_alloc _ _ none) (by simp)) (HL.out _ hx) 0));have HUw:=hid hU2;have HV:Hid (vs.length=j):=hvl;have lu:ub<wr.heap.size:=Qq hU.blk;clear hN0 hq1 hce hrt hU hb2 hU2 hvl HUj
   go_wp2_with(first
    |(go_at_call 43;refine HUS.out.mono ?_;clear HUS;rintro e w6 ⟨v6,rfl,hr6,hb6⟩;obtain⟨so6,sc6,rfl⟩:=Jp hr6;have hU6:=HUw.out.below hb6;obtain⟨x6,f6⟩:=Zx hU6.blk j (.slice none 0 0) (by have:=z3n vs n (Value.slice none 0 0) (by rw[HV.out];exact hjn);rw[HV.out]at this;rw[HV.out];exact this)))
   refine⟨⟨j+1,by go_num,by omega,hid ⟨vs++[.slice so6 (usR (nmL rs) rs[j]).length sc6],by rw[List.length_append,HV.out];rfl,?_⟩,hid ?_⟩,by simp[intOf];omega⟩
   ·have hs:=hU6.step (u:=usR (nmL rs) rs[j]) (by rw[HV.out];exact hjn) (Az hr6 HUw.out.be.size)
    rw[HV.out]at hs;rw[show(rs.take (j+1)).map (usR (nmL rs))=(rs.take j).map (usR (nmL rs))++[usR (nmL rs) rs[j]] by rw[show rs.take (j+1)=rs.take j++[rs[j]] by simp,List.map_append];rfl];exact hs
   ·have hP6:=(HPj.out.kept (World.grownBy_alloc _ (.cells #[.string N0,.int .i64 k1,.string T1,.int .u64 a1,.int .u64 b1,.int .u64 c1,.int .u64 d1,.slice so1 n1 cap1,.int .i64 p1,.int .i64 q1] 56) none) (by simp)).below hb6 (by rw[World.size_alloc];have:=HPj.out.lt;omega)
    obtain⟨D,hown,hD⟩:=hP6;exact⟨D,hown.setCell (a:=⟨ub,j,none⟩) (by have:=HMu.out;show M≠ub;omega) _,hD⟩
  ·have a0:decide ((j:Int)<(n:Int))=false:=by simp;omega
   have hjn':rs.take j=rs:=List.take_of_length_le (by rw[<-HNl.out];omega);rw[hjn']at HUj;clear hjn'
   go_wp2_with fail
   obtain⟨vs,hvl,hU⟩:=HUj.out;refine bodyPost_ret (v:=.tuple #[.slice (some ⟨ub,0,none⟩) n n,.nilIface]) (by simp[results,Tryz.results23,go_sem]) rfl ?_;exact⟨ub,vs,rfl,by omega,hU⟩
inductive Rch (us:List (List Int)) (a:Nat):Nat->Prop where
 |refl:Rch us a a
 |step {b c:Nat}:Rch us a b->(c:Int)∈us.getD b []->Rch us a c
theorem Rch.trans{us:List (List Int)}{a b c:Nat}(h:Rch us a b)(k:Rch us b c):Rch us a c:=by
 induction k with
 |refl=>exact h
 |step _ hm ih=>exact ih.step hm
def unm(sn:List Bool):Nat:=(sn.filter (· == false)).length
theorem Hz:∀(sn:List Bool) (p:Nat),sn[p]? =some false->unm (sn.set p true)<unm sn
 |[],p,h=>by simp at h
 |b::r,0,h=>by
  obtain rfl:b=false:=by simpa using h
  simp[unm]
 |b::r,p+1,h=>by
  have ih:=Hz r p (by simpa using h);unfold unm at ih ⊢;rw[List.set_cons_succ,List.filter_cons,List.filter_cons];split
  ·simp only[List.length_cons];omega
  ·exact ih
theorem Tj:∀(a b:List Bool),b.length=a.length->(∀i:Nat,a[i]? =some true->b[i]? =some true)->unm b<=unm a
 |[],[],_,_=>Nat.le_refl _
 |[],_::_,h,_=>by simp at h
 |_::_,[],h,_=>by simp at h
 |x::r,y::q,h,hm=>by
  have ih:=Tj r q (by simpa using h) (fun i hi=>by have:=hm (i+1) (by simpa using hi);simpa using this);have h0:=hm 0;unfold unm at ih ⊢;rw[List.filter_cons,List.filter_cons];cases x<;>cases y<;>simp_all;omega
def z3q(W:World)(B:Nat)(rv:Value)(u:List Int):Prop:=∃so cap,rv=.slice so u.length cap/\u.length<=1048576/\∀j (hj:j<u.length),∃g o,so=some ⟨g,o,none⟩/\g<B/\W.cell? ⟨g,o+j,none⟩=some (.int .i64 u[j])
def UsM(W:World)(B:Nat)(uv:Value)(us:List (List Int)):Prop:=∃so cap,uv=.slice so us.length cap/\us.length<=1048576/\∀i (hi:i<us.length),∃g o rv,so=some ⟨g,o,none⟩/\g<B/\W.cell? ⟨g,o+i,none⟩=some rv/\z3q W B rv us[i]
theorem Hq{a b:Nat}{x y:Array Value}{t u:TypeId}(h:W.heap[a]? =some (.cells x t))(k:W.heap[b]? =some (.cells y u))(ht:t≠u):a≠b:=fun e=>by
 subst e;rw[h]at k;cases k;exact ht rfl
theorem Fy{sb:Nat}{sn:List Bool}(h:W.heap[sb]? =some (.cells (sn.map Value.bool).toArray 4)){p:Nat}{b:Bool}(hp:sn[p]? =some b):W.cell? ⟨sb,p,none⟩=some (.bool b)/\W.frozen? ⟨sb,p,none⟩=false:=Zx h p _ (by simp[hp])
theorem Ff(L:List Int):(srt L).Perm L:=List.mergeSort_perm L _
theorem Tryz.infoBool:(Tryz.prog.info? 4).map (fun i=>(i.zero,i.size,i.bytes))=some (some (.bool false),1,1):=by kernel_rfl
theorem Tv(n:Nat)(hn:n<=1048576)(W:World):(Instr.makeSlice 48 (.int .i64 n) (.int .i64 n)).run prog W=.ok (.slice (some ⟨W.heap.size,0,none⟩) n n) (W.alloc (.cells (Array.replicate n (Value.bool false)) 4)):=by
 obtain⟨i0,hi0,hz0,hz1,hz2⟩:=info_parts Tryz.infoBool;rw[run_make W 48 4 i0 (.bool false) Tryz.underlying48 hi0 hz0 .i64 .i64 n n (by omega) (by omega) (by rw[hz2];omega) (by omega),hz1,Tz _ rfl];simp
mutual
def Tq:RT->Nd->Prop
 | .mk k T a b c d s _,.mk kd T' C s' _=>k=(kd:Int)/\T'=T/\a=(wd C 0:Nat)/\b=(wd C 1:Nat)/\c=(wd C 2:Nat)/\d=(wd C 3:Nat)/\TqL s s'
def TqL:List RT->List Nd->Prop
 |[],[]=>True
 |t::r,n::q=>Tq t n/\TqL r q
 |_,_=>False
end
theorem TqL.len:∀{s:List RT} {q:List Nd},TqL s q->Jg q=Qd s/\q.isEmpty=s.isEmpty
 |[],[],_=>⟨rfl,rfl⟩
 |[],_::_,h=>by simp[TqL]at h
 |_::_,[],h=>by simp[TqL]at h
 |t::r,n::q,h=>by
  rw[TqL]at h;exact⟨by rw[Jg,Qd,h.2.len.1],rfl⟩
mutual
theorem z3r{w:World}{B s0:Nat}(hB:B<=s0):∀(t:RT) (n:Nd) (cs:List Value),Tq t n->Qj w B t cs->NdV s0 w n cs
 | .mk k T a b c d s p,.mk kd T' C s' pn,cs,h,ht=>by
   rw[Tq]at h;obtain⟨rfl,rfl,rfl,rfl,rfl,rfl,hs⟩:=h;rw[Qj]at ht;obtain⟨so,cap,rfl,ht⟩:=ht;rw[NdV];refine⟨so,cap,p,by rw[hs.len.1],?_⟩;rcases ht with h1|⟨h1,g,o,rfl,h3,h4,h5⟩
   ·exact .inl (by rw[hs.len.2];exact h1)
   ·exact .inr ⟨by rw[hs.len.2];exact h1,g,o,rfl,by omega,by rw[hs.len.1];exact h4,z3s hB s s' g o hs h5⟩
theorem z3s{w:World}{B s0:Nat}(hB:B<=s0):∀(s:List RT) (q:List Nd) (g o:Nat),TqL s q->Qc w B g o s->Xp s0 w g o q
 |[],[],g,o,_,_=>by rw[Xp];trivial
 |[],_::_,_,_,h,_=>by simp[TqL]at h
 |_::_,[],_,_,h,_=>by simp[TqL]at h
 |t::r,n::q,g,o,h,ht=>by
  rw[TqL]at h;rw[Qc]at ht;obtain⟨⟨cs,h1,h2⟩,h3⟩:=ht;rw[Xp];exact⟨⟨cs,z3r hB t n cs h.1 h1,h2⟩,z3s hB r q g _ h.2 h3⟩
end
def TqR:List Rr->List Rl->Prop
 |[],[]=>True
 |x::r,y::q=>y.1=x.1/\Tq x.2.1 y.2.1/\TqR r q
 |_,_=>False
theorem TqR.len:∀{rs:List Rr} {ns:List Rl},TqR rs ns->ns.length=rs.length
 |[],[],_=>rfl
 |[],_::_,h=>by simp[TqR]at h
 |_::_,[],h=>by simp[TqR]at h
 |x::r,y::q,h=>by
  rw[TqR]at h;simp[h.2.2.len]
theorem TqR.get:∀{rs:List Rr} {ns:List Rl},TqR rs ns->∀(j:Nat) (h1:j<rs.length) (h2:j<ns.length),ns[j].1=rs[j].1/\Tq rs[j].2.1 ns[j].2.1
 |[],[],_,j,h1,_=>by simp at h1
 |[],_::_,h,_,_,_=>by simp[TqR]at h
 |_::_,[],h,_,_,_=>by simp[TqR]at h
 |x::r,y::q,h,0,_,_=>by
  rw[TqR]at h;exact⟨h.1,h.2.1⟩
 |x::r,y::q,h,j+1,h1,h2=>by
  rw[TqR]at h;exact h.2.2.get j (by simpa using h1) (by simpa using h2)
theorem y0J{B s0:Nat}{so:Option Addr}{rs:List Rr}{ns:List Rl}(hB:B<=s0)(hq:TqR rs ns)(h:Qv w B so n rs):RgV s0 w so n ns:=by
 refine⟨by rw[hq.len];exact h.1,h.2.1,fun j hj=> ?_⟩;have hj':j<rs.length:=by rw[<-hq.len];exact hj
 obtain⟨g,o,h1,hg,k,T,a,b,c,d,so1,n1,cap,p,rt,z0,z1,z2,z3,z4,z5,z6,z7,z8,z9⟩:=h.2.2 j hj';obtain⟨e1,e2⟩:=hq.get j hj' hj;have hv:=z3r hB _ _ _ e2 rt;obtain⟨kd,T1,C,so2,sl,sc,p1,e3⟩:=hv.shape;dsimp only[r8,v8]at e3;cases e3;exact⟨g,o,h1,by omega,kd,T,C,so1,n1,cap,p,_,hv,by rw[e1];exact z0,z1,z2,z3,z4,z5,z6,z7,z8,z9⟩
theorem z3t(so:Option Addr)(n cap:Nat)(rs:List Rr)(B:Nat)(w:World)(hz:RgZ rs)(h:Qv w B so n rs)(hB:B<=w.heap.size)(hk:okG rs=false):
  Calls prog 108 #[.agg #[.slice so n cap]] w fun e w'=>e=.returned (.tuple #[.string ⟨#[]⟩,.iface 37 (.int .i64 20)])/\Below w.heap.size w w':=by
 have HI:=hid (fun(W:World) (hb:Below w.heap.size w W)=>z3b so n cap rs B W hz (h.below (hb.mono hB)) (Nat.le_trans hB hb.size));rw[hk]at HI;clear h hz;go_enter func108,ntmps108
 go_wp2_with(first|(go_at_call 147;refine(HI.out _ ?hh).mono ?_;(case hh=>exact B0q.alloc L0q _);rintro e wq ⟨rfl,hbq⟩))
 go_ret2
 exact⟨rfl,((Below.refl _ w).alloc L0q _).trans (hbq.mono (by simp))⟩
theorem Hx(so:Option Addr)(n cap:Nat)(rs:List Rr)(ns:List Rl)(B:Nat)(w:World)(hz:RgZ rs)(h:Qv w B so n rs)(hB:B<=w.heap.size)(hk:okG rs=true)(hq:TqR rs ns)(hx:∀x∈ns,Ruk Nmq x)(hT:TabIs w):
  Calls prog 108 #[.agg #[.slice so n cap]] w fun e w'=>e=.returned (Gy ns)/\Below w.heap.size w w':=by
 have HI:=hid (fun(W:World) (hb:Below w.heap.size w W)=>z3b so n cap rs B W hz (h.below (hb.mono hB)) (Nat.le_trans hB hb.size));have HT:=hid (fun(W:World) (hb:Below w.heap.size w W)=>z9Z hx n cap so W (y0J (Nat.le_trans hB hb.size) hq (h.below (hb.mono hB))) (hT.below hb hT.lt));rw[hk]at HI;obtain⟨A,E,hA⟩:∃A E,Gy ns=.tuple #[A,E]:=by
  unfold Gy;split
  ·exact⟨_,_,rfl⟩
  ·split
   ·exact⟨_,_,rfl⟩
   ·exact⟨_,_,rfl⟩
 rw[hA]at HT ⊢;obtain⟨W1,hW1⟩:∃W1,W1=w.alloc (.cells #[.slice so n cap] 24):=⟨_,rfl⟩;have HB1:Hid (Below w.heap.size w W1):=by rw[hW1];exact(Below.refl _ w).alloc L0q _
 have HC1:Hid (W1.heap[w.heap.size]? =some (.cells #[.slice so n cap] 24)):=by rw[hW1];exact Qx w _ rfl
 have HZ1:Hid (W1.heap.size=w.heap.size+1):=by rw[hW1];exact World.size_alloc _ _
 have HW1:=hid hW1;clear hW1 h hz hT hx hq hA;go_enter func108,ntmps108
 go_wp2_with(first|(go_at_call 147;rw[<-HW1.out];refine(HI.out _ HB1.out).mono ?_;rintro e wq ⟨rfl,hbq⟩;have c0:=(Qk ((hbq.block _ (by rw[HZ1.out];exact Nat.lt_succ_self _)).trans HC1.out)).1;have HBq:Hid (Below w.heap.size w wq):=HB1.out.trans (hbq.mono HB1.out.size))|(go_at_call 148;refine(HT.out _ HBq.out).mono ?_;rintro e wz ⟨rfl,hbz⟩))
 go_ret2
 exact⟨rfl,HBq.out.trans (hbz.mono HBq.out.size)⟩
mutual
def toR:Nd->RT
 | .mk kd T C s p=>.mk (kd:Int) T (wd C 0:Nat) (wd C 1:Nat) (wd C 2:Nat) (wd C 3:Nat) (Uh s) (p:Int)
def Uh:List Nd->List RT
 |[]=>[]
 |n::r=>toR n::Uh r
end
mutual
theorem z3u:∀n:Nd,Tq (toR n) n
 | .mk kd T C s p=>by
   rw[toR,Tq];exact⟨rfl,rfl,rfl,rfl,rfl,rfl,z3v s⟩
theorem z3v:∀s:List Nd,TqL (Uh s) s
 |[]=>by rw[Uh,TqL];trivial
 |n::r=>by
  rw[Uh,TqL];exact⟨z3u n,z3v r⟩
end
theorem Hj:∀s:List Nd,Qd (Uh s)=Jg s/\(Uh s).isEmpty=s.isEmpty
 |[]=>⟨rfl,rfl⟩
 |n::r=>⟨by rw[Uh,Qd,Jg,(Hj r).1],by rw[Uh];rfl⟩
mutual
theorem z3w{w:World}{P:Nat->Prop}:∀(n:Nd) (cs:List Value),Sm n n->Qb w P n cs->Qj w w.heap.size (toR n) cs
 | .mk kd T C s p,cs,hs,h=>by
   rw[Sm]at hs;rw[Qb]at h;obtain⟨_,_,_,hl,hn⟩:=hs;obtain⟨sv,rfl,h⟩:=h;rw[toR,Qj];rcases h with⟨h1,rfl⟩|⟨h1,g,cap,cur,rfl,_,hg,_,h5⟩
   ·have hs0:s=[]:=by simpa using h1
    subst hs0;exact⟨none,0,rfl,.inl rfl⟩
   ·refine⟨some ⟨g,0,none⟩,cap,by rw[(Hj s).1],.inr ⟨by rw[(Hj s).2];exact h1,g,0,rfl,Qq hg,by rw[(Hj s).1,Ky];unfold maxLen;omega,z3x s cur.toList g 0 hl h5 fun j u hj=> ?_⟩⟩
    rw[Array.getElem?_toList]at hj;simp[World.cell?,hg,hj]
theorem z3x{w:World}{P:Nat->Prop}:∀(s:List Nd) (vs:List Value) (g o:Nat),SmL s s->Ql w P s vs->(∀j u,vs[j]? =some u->w.cell? ⟨g,o+j,none⟩=some u)->Qc w w.heap.size g o (Uh s)
 |[],vs,g,o,_,_,_=>by rw[Uh,Qc];trivial
 |n::r,vs,g,o,hs,h,hc=>by
  rw[SmL]at hs;rw[Ql]at h;obtain⟨c,rest,rfl,h1,h2⟩:=h;have hl:=h1.len;rw[Uh,Qc];refine⟨⟨c,z3w n c hs.1 h1,fun j u hj=>hc j u ?_⟩,z3x r rest g (o+8) hs.2 h2 fun j u hj=> ?_⟩
  ·have:j<c.length:=(List.getElem?_eq_some_iff.1 hj).1
   rw[List.getElem?_append_left this];exact hj
  ·rw[Nat.add_assoc]
   refine hc (8+j) u ?_;rw[List.getElem?_append_right (by omega),hl,Nat.add_sub_cancel_left];exact hj
end
theorem Aq(h:T={data:=#[]}):T.toList.isEmpty=true:=by
 subst h;rw[ByteArray.toList_eq];rfl
theorem Ax(h:T.toList.isEmpty=true):T={data:=#[]}:=by
 rw[ByteArray.toList_eq]at h;apply ByteArray.ext;simpa using h
theorem TqL.length{s:List RT}{q:List Nd}(h:TqL s q):q.length=Qd s:=by rw[<-Ky];exact h.len.1
theorem Kc:zc ((wd 0 0:Nat):Int) ((wd 0 1:Nat):Int) ((wd 0 2:Nat):Int) ((wd 0 3:Nat):Int)=true:=by decide
theorem y0K{kd:Nat}{C:Nat}{s:List Nd}(hn:s.length=n)(hv:(kd=1/\T={data:=#[]}/\C=0/\s=[])∨(kd=2/\C=0/\s=[])∨(kd=3/\T={data:=#[]}/\s=[])∨(kd=4/\T={data:=#[]}/\C=0/\s=[])∨(kd=5/\C=0/\s=[])∨
   ((kd=6∨kd=7)/\T={data:=#[]}/\C=0/\2<=s.length)∨(8<=kd/\kd<=12/\T={data:=#[]}/\C=0/\s.length=1))(w2:kd=2->T.size<=255)(w5:kd=5->nmS T=true):
  okN (kd:Int) T (wd C 0:Nat) (wd C 1:Nat) (wd C 2:Nat) (wd C 3:Nat) n=true:=by
 unfold okN;subst hn;rcases hv with⟨rfl,hT,rfl,rfl⟩|⟨rfl,rfl,rfl⟩|⟨rfl,hT,rfl⟩|⟨rfl,hT,rfl,rfl⟩|⟨rfl,rfl,rfl⟩|⟨hk,hT,rfl,hl⟩|⟨h8,h12,hT,rfl,hl⟩
 ·rw[if_pos (by decide),Aq hT,Kc];rfl
 ·rw[if_neg (by decide),if_pos (by decide),Kc,decide_eq_true (by have:=w2 rfl;omega)];rfl
 ·rw[if_neg (by decide),if_neg (by decide),if_pos (by decide),Aq hT];rfl
 ·rw[if_pos (by decide),Aq hT,Kc];rfl
 ·rw[if_neg (by decide),if_neg (by decide),if_neg (by decide),if_pos (by decide),Kc,w5 rfl];rfl
 ·rw[if_neg (by omega),if_neg (by omega),if_neg (by omega),if_neg (by omega),if_pos (by omega),Aq hT,Kc,decide_eq_true (by omega)];rfl
 ·rw[if_neg (by omega),if_neg (by omega),if_neg (by omega),if_neg (by omega),if_neg (by omega),if_pos (by omega),Aq hT,Kc,hl];rfl
mutual
theorem Tw:∀(t:RT) (n:Nd),Tq t n->Vk n->Wf Nmq n->okT t=true/\RtZ t
 | .mk k T a b c d s p,.mk kd T' C s' pn,h,hv,hw=>by
   rw[Tq]at h;obtain⟨rfl,rfl,rfl,rfl,rfl,rfl,hs⟩:=h;have hkd:=hv.kd;rw[Vk]at hv;rw[Wf]at hw;obtain⟨hv1,hvs⟩:=hv;obtain⟨w2,w5,wc,ws⟩:=hw;obtain⟨h1,h2⟩:=z3y s s' hs hvs ws;rw[okT,RtZ,h1,Bool.and_true];refine⟨y0K hs.length hv1 w2 w5,?_,h2⟩;have hz:∀T:ByteArray,T={data:=#[]}->T.size<=9223372036854775807:=fun T h=>by rw[h];decide
   rcases hv1 with q|q|q|q|q|q|q
   ·exact hz _ q.2.1
   ·have:=w2 q.1;omega
   ·exact hz _ q.2.1
   ·exact hz _ q.2.1
   ·have:=Eh (w5 q.1);omega
   ·exact hz _ q.2.1
   ·exact hz _ q.2.2.1
theorem z3y:∀(s:List RT) (q:List Nd),TqL s q->VkL q->WfL Nmq q->okL s=true/\Xl s
 |[],[],_,_,_=>by rw[okL,Xl];exact⟨rfl,trivial⟩
 |[],_::_,h,_,_=>by simp[TqL]at h
 |_::_,[],h,_,_=>by simp[TqL]at h
 |t::r,n::q,h,hv,hw=>by
  rw[TqL]at h;rw[VkL]at hv;rw[WfL]at hw;obtain⟨a1,a2⟩:=Tw t n h.1 hv.1 hw.1;obtain⟨b1,b2⟩:=z3y r q h.2 hv.2 hw.2;rw[okL,Xl,a1,b1];exact⟨rfl,a2,b2⟩
end
end Go.Proofs.YthmgblmoobkliaaGreatDoor
