/- Lemmas for the last text. Conditions: those that each names. -/
import Derived.Test.YtlogolpcipiceaaGreatDoorVO5
import Derived.Shelf.Lay
import Derived.Shelf.Sort.Plain
import Derived.Shelf.Slices.CompactI
import Derived.Shelf.Slices.In.SortNone
import Derived.Sort.OwnSortedInts
import Derived.Ground.NamesProg
import Derived.Ground.Names2Prog
import Derived.Test.YtlogolpcipiceaaGreatDoorVS1ToO3
import Derived.Laws.EntriesVeiled
set_option linter.unusedVariables false
set_option maxRecDepth 100000
set_option maxHeartbeats 8000000
namespace Go.Proofs.YtlogolpcipiceaaGreatDoor
open Go.Proofs.Tryz
end Go.Proofs.YtlogolpcipiceaaGreatDoor
namespace Go.Proofs
open Go.Shelf
shelf_lay Lays.n189 Nm 189 at Tryz as Tryz.lays189
shelf_lay Lays2.n20 Nm2 20 at Tryz as Tryz.lays2_20
end Go.Proofs
namespace Go.Proofs.YtlogolpcipiceaaGreatDoor
open Go.Proofs.Tryz
open Go.RowKit Go.Shelf Go.Sort
variable {W W' w:World} {k n s:Nat} {v:Value} {cur:Array Value} {xs:List Value} {T:ByteArray}
theorem z9r(blk off cap:Nat)(zs:List Int)(w:World)(hH:Holds (Value.int .i64) w blk off zs.toArray)(hblk:blk<w.heap.size)(hsz:zs.length<4611686018427387904):
 Calls prog 142 #[.slice (some ⟨blk,off,none⟩) zs.length cap] w fun e w'=>
  e=.returned (.tuple #[])/\∃n os,w'=grow (putRow (Value.int .i64) (Sort.ahead w n) blk off (zs.mergeSort fun x y=>decide (x<=y)).toArray) os:=Any.slices_Sort_int Tryz.lays189 blk off cap zs w hH hblk hsz
theorem z9s(p:Option Addr)(cap:Nat)(w:World):
 Calls prog 142 #[.slice p 0 cap] w fun e w'=>e=.returned (.tuple #[])/\w'=w:=Any.slices_Sort_int_none Tryz.lays189 p cap w
theorem z9t(blk off cap:Nat)(zs:List Int)(w:World)(hH:Holds (Value.int .i64) w blk off zs.toArray)(hsz:zs.length<=9223372036854775807)(hcap:zs.length<=cap):
 Calls prog 143 #[.slice (some ⟨blk,off,none⟩) zs.length cap] w fun e w'=>e=.returned (.slice (some ⟨blk,off,none⟩) (Lib.compact zs).length cap)/\∃q,w'=putRow (Value.int .i64) (Sort.ahead w q) blk off (Lib.compact zs++List.replicate (zs.length-(Lib.compact zs).length) 0).toArray:=Any.slices_Compact_int Tryz.lays2_20 blk off cap zs w hH hsz hcap
theorem z9u(a:Option Addr)(cap:Nat)(w:World):
 Calls prog 143 #[.slice a 0 cap] w fun e w'=>e=.returned (.slice a 0 cap)/\w'=w:=Any.slices_Compact_int_empty Tryz.lays2_20 a cap w
theorem z2q(zs:List Int):(Lib.compact zs).length<=zs.length:=by
 unfold Lib.compact Lib.compactUpTo;rw[List.length_map];exact Nat.le_trans (List.length_filter_le _ _) (by simp)
def srt(zs:List Int):List Int:=zs.mergeSort fun x y=>decide (x<=y)
theorem My(zs:List Int):(srt zs).length=zs.length:=List.length_mergeSort zs
theorem z9v{zs:List Int}(h:W.ownsRow s 3 1 v zs.length (zs.map (Value.int .i64)))(hz:zs.length<=1048576):
  Calls prog 142 #[v] W fun e w'=>e=.returned (.tuple #[])/\w'.ownsRow s 3 1 v zs.length ((srt zs).map (Value.int .i64))/\W.grownBy w' v.ownBlock:=by
 rcases h.2 with⟨rfl,h0⟩|⟨g,cap,cur,rfl,hg,hb,h1,h2,h3,h4⟩
 ·refine(z9s none 0 W).mono fun e w' he=>⟨he.1,?_,?_⟩
  ·rw[he.2]
   cases zs with
   |nil=>rw[show srt []=[]from List.length_eq_zero_iff.1 (My [])];exact h
   |cons _ _=>simp at h0
  ·rw[he.2]
   exact⟨rfl,rfl,rfl,Nat.le_refl _,fun _ _ _=>rfl⟩
 ·refine(z9r g 0 cap zs W (holds_of_blockI hb (by rw[<-h4,Nat.mul_one])) (Array.getElem?_eq_some_iff.1 hb).1 (by omega)).mono fun e w' he=> ?_
  obtain⟨he,n,os,hw⟩:=he;refine⟨he,?_,?_⟩
  ·rw[hw]
   exact ownsRow_sortedI (My zs) hg hb h1 h2 h3
  ·rw[hw]
   exact grownBy_sortedI _
theorem z9w{zs:List Int}(h:W.ownsRow s 3 1 v zs.length (zs.map (Value.int .i64)))(hz:zs.length<=1048576):
  Calls prog 143 #[v] W fun e w'=>∃v',e=.returned v'/\w'.ownsRow s 3 1 v' (Lib.compact zs).length ((Lib.compact zs).map (Value.int .i64))/\W.grownBy w' v.ownBlock:=by
 rcases h.2 with⟨rfl,h0⟩|⟨g,cap,cur,rfl,hg,hb,h1,h2,h3,h4⟩
 ·refine(z9u none 0 W).mono fun e w' he=>⟨_,he.1,?_,?_⟩
  ·rw[he.2]
   cases zs with
   |nil=>exact h
   |cons _ _=>simp at h0
  ·rw[he.2]
   exact⟨rfl,rfl,rfl,Nat.le_refl _,fun _ _ _=>rfl⟩
 ·refine(z9t g 0 cap zs W (holds_of_blockI hb (by rw[<-h4,Nat.mul_one])) (by omega) h1).mono fun e w' he=> ?_
  obtain⟨he,q,hw⟩:=he;have hc:=z2q zs;have hl:(Lib.compact zs++List.replicate (zs.length-(Lib.compact zs).length) 0).length=zs.length:=by
   rw[List.length_append,List.length_replicate];omega
  have hw2:w'=grow (putRow (Value.int .i64) (Sort.ahead W q) g 0 (Lib.compact zs++List.replicate (zs.length-(Lib.compact zs).length) 0).toArray) #[]:=by rw[grow_empty];exact hw
  refine⟨_,he,⟨by simp,.inr ⟨g,cap,_,rfl,hg,by rw[hw2];exact heap_sortedI _ hb,by omega,h2,by simp[putCells,h3],?_⟩⟩,by rw[hw2];exact grownBy_sortedI _⟩;have ht:=take_putCellsI cur (Lib.compact zs++List.replicate (zs.length-(Lib.compact zs).length) 0) (by rw[hl,h3];omega);rw[hl]at ht;obtain⟨X,hX⟩:∃X,X=(putCells (Value.int .i64) 0 (Lib.compact zs++List.replicate (zs.length-(Lib.compact zs).length) 0).toArray cur).toList:=⟨_,rfl⟩;rw[<-hX]at ht ⊢;have e:X.take (Lib.compact zs).length=(X.take zs.length).take (Lib.compact zs).length:=by rw[List.take_take,Nat.min_eq_left hc]
  rw[Nat.mul_one,e,ht,List.map_append,List.take_append_of_le_length (by simp),List.take_of_length_le (by simp)]
open Go.Maps
attribute [local go_sem] Oper.semAt_some
theorem Tryz.infoInt:(Tryz.prog.info? 3).map (fun i=>(i.zero,i.size,i.bytes))=some (some (.int .i64 0),1,8):=by kernel_rfl
def ixV(l:List ByteArray)(s:ByteArray):Nat:=if inN s l then ixN s l else 0
def ixL(l:List ByteArray)(q:List (ByteArray×Int)):List Int:=q.map fun x=>(ixV l x.1:Int)
theorem Kt.mono{s0 s1:Nat}(h:Kt s1 W W')(hs:s0<=s1):Kt s0 W W':=⟨h.1,h.2.1,h.2.2.1,fun j hj o ho=>h.2.2.2 j (by omega) o ho⟩
structure Us (w:World) (M:Nat) (l:List ByteArray) (ps:List (ByteArray×Int)) (W:World):Prop where
 out:∃v,Boxed W (w.heap.size+1+1) 29 v/\W.ownsRow w.heap.size 3 1 v ps.length ((ixL l ps).map (Value.int .i64))/\True
 pl:Boxed W (w.heap.size+1) 300 (.map (some M))
 pm:Pm W M l
 be:Below w.heap.size w W
theorem Zc{g:Nat}{t:TypeId}(h:w.heap[g]? =some (.cells cur t))(j:Nat)(v:Value)(hj:cur[j]? =some v):w.cell? ⟨g,j,none⟩=some v/\w.frozen? ⟨g,j,none⟩=false:=by
 constructor
 ·simp[World.cell?,h,hj]
 ·simp[World.frozen?,h]
theorem Qb{g:Nat}{t:TypeId}(h:w.heap[g]? =some (.cells cur t))(j:Nat)(v:Value):(w.setCell ⟨g,j,none⟩ v).heap[g]? =some (.cells (cur.setIfInBounds j v) t):=by
 obtain⟨hlt,hk⟩:=Array.getElem?_eq_some_iff.1 h;show(w.heap.modify g _)[g]? =_;rw[Array.getElem?_eq_getElem (by rw[Array.size_modify];exact hlt),Array.getElem_modify_self,hk];rfl
def usR(l:List ByteArray)(x:Rr):List Int:=Lib.compact (srt (ixL l (rfT x.2.1)))
structure Uw (w:World) (ub n:Nat) (vs:List Value) (us:List (List Int)) (W:World):Prop where
 blk:W.heap[ub]? =some (.cells (vs++List.replicate (n-vs.length) (Value.slice none 0 0)).toArray 29)
 len:vs.length=us.length
 row:∀i (h1:i<vs.length) (h2:i<us.length),W.ownsRow w.heap.size 3 1 vs[i] us[i].length (us[i].map (Value.int .i64))
 be:Below w.heap.size w W
 lo:w.heap.size<=ub
theorem z9x{α:Type}(vs:List α)(n:Nat)(z:α)(h:vs.length<n):(vs++List.replicate (n-vs.length) z).toArray[vs.length]? =some z:=by
 rw[List.getElem?_toArray,List.getElem?_append_right L0q,Nat.sub_self,List.getElem?_replicate,if_pos (by omega)]
theorem z9y{α:Type}(vs:List α)(n:Nat)(z v:α)(h:vs.length<n):(vs++List.replicate (n-vs.length) z).toArray.setIfInBounds vs.length v=((vs++[v])++List.replicate (n-(vs++[v]).length) z).toArray:=by
 have e:n-vs.length=(n-(vs++[v]).length)+1:=by simp;omega
 rw[e,List.replicate_succ];simp
theorem z9z{S:Nat}(h:W.ownsRow s 3 1 v k xs)(hb:Below S W W')(hS:S=W.heap.size):W'.ownsRow s 3 1 v k xs:=by
 refine⟨h.1,?_⟩;rcases h.2 with h1|⟨g,cap,cur,h1,h2,h3,h4⟩
 ·exact .inl h1
 ·exact .inr ⟨g,cap,cur,h1,h2,(hb.block g (by rw[hS];exact(Array.getElem?_eq_some_iff.1 h3).1)).trans h3,h4⟩
theorem z2r{ub j:Nat}{u:Value}(h:W.ownsRow s 3 1 v k xs)(hu:W.heap[ub]? =some (.cells cur 29)):(W.setCell ⟨ub,j,none⟩ u).ownsRow s 3 1 v k xs:=by
 refine⟨h.1,?_⟩;rcases h.2 with h1|⟨g,cap,cur',h1,h2,h3,h4⟩
 ·exact .inl h1
 ·refine .inr ⟨g,cap,cur',h1,h2,(Below.heap_setCell _ _ _ g (fun e=> ?_)).trans h3,h4⟩
  have e:g=ub:=e;rw[e,hu]at h3;cases h3
theorem z2s{s':Nat}(h:W.ownsRow s 3 1 v k xs)(hs:s'<=s):W.ownsRow s' 3 1 v k xs:=by
 refine⟨h.1,?_⟩;rcases h.2 with h1|⟨g,cap,cur,h1,h2,h3⟩
 ·exact .inl h1
 ·exact .inr ⟨g,cap,cur,h1,by omega,h3⟩
theorem Uw.below{ub:Nat}{vs:List Value}{us:List (List Int)}(h:Uw w ub n vs us W)(hb:Below W.heap.size W W'):Uw w ub n vs us W':=
 ⟨(hb.block ub (Array.getElem?_eq_some_iff.1 h.blk).1).trans h.blk,h.len,fun i h1 h2=>z9z (h.row i h1 h2) hb rfl,h.be.trans (hb.mono h.be.size),h.lo⟩
theorem Uw.step{w:World}{ub n:Nat}{vs:List Value}{us:List (List Int)}{W:World}{v:Value}{u:List Int}(h:Uw w ub n vs us W)(hn:vs.length<n)(hr:W.ownsRow w.heap.size 3 1 v u.length (u.map (Value.int .i64))):Uw w ub n (vs++[v]) (us++[u]) (W.setCell ⟨ub,vs.length,none⟩ v):=by
 refine⟨by rw[Qb h.blk,z9y vs n _ v hn],by simp[h.len],fun i h1 h2=> ?_,h.be.setCell (p:=⟨ub,vs.length,none⟩) h.lo v,h.lo⟩;by_cases hi:i<vs.length
 ·have hi2:i<us.length:=by rw[<-h.len];exact hi
  rw[List.getElem_append_left hi,List.getElem_append_left hi2];exact z2r (h.row i hi hi2) h.blk
 ·have e1:i=vs.length:=by simp at h1;omega
  subst e1;have e2:vs.length=us.length:=h.len;rw[List.getElem_append_right (by omega)];have:(us++[u])[vs.length]=u:=by rw[List.getElem_append_right (by omega)];simp[e2]
  rw[this];simp only[Nat.sub_self,List.getElem_cons_zero];exact z2r hr h.blk
theorem Tryz.infoInts:(Tryz.prog.info? 29).map (fun i=>(i.zero,i.size,i.bytes))=some (some (.slice none 0 0),1,24):=by kernel_rfl
theorem z2t(z:Value)(hz:z.cells=#[z])(k:Nat):madeCells z.cells k=(List.replicate k z).toArray:=by
 rw[hz];unfold madeCells;apply Array.ext
 ·simp
 ·intro i h1 h2
  simp[Nat.mod_one]
theorem z9A(n:Nat)(hn:n<=1048576)(W:World):(Instr.makeSlice 124 (.int .i64 n) (.int .i64 n)).run prog W=.ok (.slice (some ⟨W.heap.size,0,none⟩) n n) (W.alloc (.cells (List.replicate n (Value.slice none 0 0)).toArray 29)):=by
 obtain⟨i0,hi0,hz0,hz1,hz2⟩:=info_parts Tryz.infoInts;rw[run_make W 124 29 i0 (.slice none 0 0) Tryz.underlying124 hi0 hz0 .i64 .i64 n n (by omega) (by omega) (by rw[hz2];omega) (by omega),hz1,z2t _ rfl];simp
inductive Rch (us:List (List Int)) (a:Nat):Nat->Prop where
 |refl:Rch us a a
 |step {b c:Nat}:Rch us a b->(c:Int)∈us.getD b []->Rch us a c
theorem Rch.trans{us:List (List Int)}{a b c:Nat}(h:Rch us a b)(k:Rch us b c):Rch us a c:=by
 induction k with
 |refl=>exact h
 |step _ hm ih=>exact ih.step hm
structure Vp (us:List (List Int)) (P:Nat->Prop) (sn:List Bool) (out:List Int) (sn':List Bool) (out':List Int):Prop where
 len:sn'.length=sn.length
 mono:∀i:Nat,sn[i]? =some true->sn'[i]? =some true
 ext:∃news:List Int,out'=out++news/\news.Nodup/\(∀x∈news,∃i:Nat,x=(i:Int)/\sn[i]? =some false/\sn'[i]? =some true/\P i)/\(∀i:Nat,sn[i]? =some false->sn'[i]? =some true->(i:Int)∈news)
def Cw(us:List (List Int))(E:Nat->Prop)(sn sn':List Bool):Prop:=∀i:Nat,sn[i]? =some false->sn'[i]? =some true->¬E i->∀k∈us.getD i [],∃m:Nat,k=(m:Int)/\sn'[m]? =some true
theorem Vp.refl(us:List (List Int))(P:Nat->Prop)(sn:List Bool)(out:List Int):Vp us P sn out sn out:=
 ⟨rfl,fun _ h=>h,[],by simp,List.nodup_nil,fun x h=>by simp at h,fun i h1 h2=>by rw[h1]at h2;cases h2⟩
theorem Cw.refl(us:List (List Int))(E:Nat->Prop)(sn:List Bool):Cw us E sn sn:=fun i h1 h2=>by rw[h1]at h2;cases h2
theorem Vp.get{us:List (List Int)}{P:Nat->Prop}{sn sn':List Bool}{out out':List Int}(h:Vp us P sn out sn' out'){i:Nat}{b:Bool}(hi:sn[i]? =some b):sn'[i]? =some true∨sn'[i]? =some false:=by
 have hl:i<sn'.length:=by rw[h.len];exact(List.getElem?_eq_some_iff.1 hi).1
 rw[List.getElem?_eq_getElem hl];cases sn'[i]<;>simp
theorem Vp.trans{us:List (List Int)}{P:Nat->Prop}{s1 s2 s3:List Bool}{o1 o2 o3:List Int}(h:Vp us P s1 o1 s2 o2)(k:Vp us P s2 o2 s3 o3):Vp us P s1 o1 s3 o3:=by
 obtain⟨n1,e1,d1,a1,b1⟩:=h.ext;obtain⟨n2,e2,d2,a2,b2⟩:=k.ext;have back:∀i:Nat,s2[i]? =some false->s1[i]? =some false:=fun i hi=>by
  have hl:i<s1.length:=by rw[<-h.len];exact(List.getElem?_eq_some_iff.1 hi).1
  have e:=List.getElem?_eq_getElem hl;cases hb:s1[i]with
  |false=>rw[e,hb]
  |true=>
   rw[hb]at e;rw[h.mono i e]at hi;cases hi
 refine⟨k.len.trans h.len,fun i hi=>k.mono i (h.mono i hi),n1++n2,by rw[e2,e1,List.append_assoc],?_,fun x hx=> ?_,fun i hi hj=> ?_⟩
 ·refine List.nodup_append.2 ⟨d1,d2,fun x hx y hy e=> ?_⟩
  subst e;obtain⟨i,rfl,_,q2,_⟩:=a1 x hx;obtain⟨j,ej,q3,_,_⟩:=a2 _ hy;have:i=j:=by omega
  subst this;rw[q2]at q3;cases q3
 ·rcases List.mem_append.1 hx with hx|hx
  ·obtain⟨i,q1,q2,q3,q4⟩:=a1 x hx
   exact⟨i,q1,q2,k.mono i q3,q4⟩
  ·obtain⟨i,q1,q2,q3,q4⟩:=a2 x hx
   exact⟨i,q1,back i q2,q3,q4⟩
 ·rcases h.get hi with h2|h2
  ·exact List.mem_append.2 (.inl (b1 i hi h2))
  ·exact List.mem_append.2 (.inr (b2 i h2 hj))
theorem Cw.trans{us:List (List Int)}{P E:Nat->Prop}{s1 s2 s3:List Bool}{o1 o2 o3:List Int}(h:Vp us P s1 o1 s2 o2)(k:Vp us P s2 o2 s3 o3)(c:Cw us E s1 s2)(d:Cw us E s2 s3):Cw us E s1 s3:=fun i h1 h3 hE x hx=>by
 rcases h.get h1 with h2|h2
 ·obtain⟨m,rfl,hm⟩:=c i h1 h2 hE x hx
  exact⟨m,rfl,k.mono m hm⟩
 ·exact d i h2 h3 hE x hx
def unm(sn:List Bool):Nat:=(sn.filter (· == false)).length
theorem Rw:∀(sn:List Bool) (p:Nat),sn[p]? =some false->unm (sn.set p true)<unm sn
 |[],p,h=>by simp at h
 |b::r,0,h=>by
  obtain rfl:b=false:=by simpa using h
  simp[unm]
 |b::r,p+1,h=>by
  have ih:=Rw r p (by simpa using h);unfold unm at ih ⊢;rw[List.set_cons_succ,List.filter_cons,List.filter_cons];split
  ·simp only[List.length_cons];omega
  ·exact ih
theorem z2u:∀(a b:List Bool),b.length=a.length->(∀i:Nat,a[i]? =some true->b[i]? =some true)->unm b<=unm a
 |[],[],_,_=>Nat.le_refl _
 |[],_::_,h,_=>by simp at h
 |_::_,[],h,_=>by simp at h
 |x::r,y::q,h,hm=>by
  have ih:=z2u r q (by simpa using h) (fun i hi=>by have:=hm (i+1) (by simpa using hi);simpa using this);have h0:=hm 0;unfold unm at ih ⊢;rw[List.filter_cons,List.filter_cons];cases x<;>cases y<;>simp_all;omega
def Dj(W:World)(B:Nat)(rv:Value)(u:List Int):Prop:=∃so cap,rv=.slice so u.length cap/\u.length<=1048576/\∀j (hj:j<u.length),∃g o,so=some ⟨g,o,none⟩/\g<B/\W.cell? ⟨g,o+j,none⟩=some (.int .i64 u[j])
def UsM(W:World)(B:Nat)(uv:Value)(us:List (List Int)):Prop:=∃so cap,uv=.slice so us.length cap/\us.length<=1048576/\∀i (hi:i<us.length),∃g o rv,so=some ⟨g,o,none⟩/\g<B/\W.cell? ⟨g,o+i,none⟩=some rv/\Dj W B rv us[i]
theorem z9B{a b:Nat}{x y:Array Value}{t u:TypeId}(h:W.heap[a]? =some (.cells x t))(k:W.heap[b]? =some (.cells y u))(ht:t≠u):a≠b:=fun e=>by
 subst e;rw[h]at k;cases k;exact ht rfl
theorem z2v{sb:Nat}{sn:List Bool}(h:W.heap[sb]? =some (.cells (sn.map Value.bool).toArray 4)){p:Nat}{b:Bool}(hp:sn[p]? =some b):W.cell? ⟨sb,p,none⟩=some (.bool b)/\W.frozen? ⟨sb,p,none⟩=false:=Zc h p _ (by simp[hp])
theorem Mf(L:List Int):(srt L).Perm L:=List.mergeSort_perm L _
theorem Tryz.infoBool:(Tryz.prog.info? 4).map (fun i=>(i.zero,i.size,i.bytes))=some (some (.bool false),1,1):=by kernel_rfl
theorem z9C(n:Nat)(hn:n<=1048576)(W:World):(Instr.makeSlice 202 (.int .i64 n) (.int .i64 n)).run prog W=.ok (.slice (some ⟨W.heap.size,0,none⟩) n n) (W.alloc (.cells (Array.replicate n (Value.bool false)) 4)):=by
 obtain⟨i0,hi0,hz0,hz1,hz2⟩:=info_parts Tryz.infoBool;rw[run_make W 202 4 i0 (.bool false) Tryz.underlying202 hi0 hz0 .i64 .i64 n n (by omega) (by omega) (by rw[hz2];omega) (by omega),hz1,z2t _ rfl];simp
mutual
def Tq:RT->Nd->Prop
 | .mk k T a b c d s _,.mk kd T' C s' _=>k=(kd:Int)/\T'=T/\a=(wd C 0:Nat)/\b=(wd C 1:Nat)/\c=(wd C 2:Nat)/\d=(wd C 3:Nat)/\TqL s s'
def TqL:List RT->List Nd->Prop
 |[],[]=>True
 |t::r,n::q=>Tq t n/\TqL r q
 |_,_=>False
end
theorem TqL.len:∀{s:List RT} {q:List Nd},TqL s q->Jv q=Qp s/\q.isEmpty=s.isEmpty
 |[],[],_=>⟨rfl,rfl⟩
 |[],_::_,h=>by simp[TqL]at h
 |_::_,[],h=>by simp[TqL]at h
 |t::r,n::q,h=>by
  rw[TqL]at h;exact⟨by rw[Jv,Qp,h.2.len.1],rfl⟩
mutual
theorem z2w{w:World}{B s0:Nat}(hB:B<=s0):∀(t:RT) (n:Nd) (cs:List Value),Tq t n->Qj w B t cs->NdV s0 w n cs
 | .mk k T a b c d s p,.mk kd T' C s' pn,cs,h,ht=>by
   rw[Tq]at h;obtain⟨rfl,rfl,rfl,rfl,rfl,rfl,hs⟩:=h;rw[Qj]at ht;obtain⟨so,cap,rfl,ht⟩:=ht;rw[NdV];refine⟨so,cap,p,by rw[hs.len.1],?_⟩;rcases ht with h1|⟨h1,g,o,rfl,h3,h4,h5⟩
   ·exact .inl (by rw[hs.len.2];exact h1)
   ·exact .inr ⟨by rw[hs.len.2];exact h1,g,o,rfl,by omega,by rw[hs.len.1];exact h4,z2x hB s s' g o hs h5⟩
theorem z2x{w:World}{B s0:Nat}(hB:B<=s0):∀(s:List RT) (q:List Nd) (g o:Nat),TqL s q->Ql w B g o s->Xh s0 w g o q
 |[],[],g,o,_,_=>by rw[Xh];trivial
 |[],_::_,_,_,h,_=>by simp[TqL]at h
 |_::_,[],_,_,h,_=>by simp[TqL]at h
 |t::r,n::q,g,o,h,ht=>by
  rw[TqL]at h;rw[Ql]at ht;obtain⟨⟨cs,h1,h2⟩,h3⟩:=ht;rw[Xh];exact⟨⟨cs,z2w hB t n cs h.1 h1,h2⟩,z2x hB r q g _ h.2 h3⟩
end
def TqR:List Rr->List Rl->Prop
 |[],[]=>True
 |x::r,y::q=>y.1=x.1/\Tq x.2.1 y.2.1/\TqR r q
 |_,_=>False
theorem TqR.len:∀{rs:List Rr} {ns:List Rl},TqR rs ns->ns.length=rs.length
 |[],[],_=>rfl
 |[],_::_,h=>by simp[TqR]at h
 |_::_,[],h=>by simp[TqR]at h
 |x::r,y::q,h=>by
  rw[TqR]at h;simp[h.2.2.len]
theorem TqR.get:∀{rs:List Rr} {ns:List Rl},TqR rs ns->∀(j:Nat) (h1:j<rs.length) (h2:j<ns.length),ns[j].1=rs[j].1/\Tq rs[j].2.1 ns[j].2.1
 |[],[],_,j,h1,_=>by simp at h1
 |[],_::_,h,_,_,_=>by simp[TqR]at h
 |_::_,[],h,_,_,_=>by simp[TqR]at h
 |x::r,y::q,h,0,_,_=>by
  rw[TqR]at h;exact⟨h.1,h.2.1⟩
 |x::r,y::q,h,j+1,h1,h2=>by
  rw[TqR]at h;exact h.2.2.get j (by simpa using h1) (by simpa using h2)
theorem z9D{B s0:Nat}{so:Option Addr}{rs:List Rr}{ns:List Rl}(hB:B<=s0)(hq:TqR rs ns)(h:Qv w B so n rs):RgV s0 w so n ns:=by
 refine⟨by rw[hq.len];exact h.1,h.2.1,fun j hj=> ?_⟩;have hj':j<rs.length:=by rw[<-hq.len];exact hj
 obtain⟨g,o,h1,hg,k,T,a,b,c,d,so1,n1,cap,p,rt,z0,z1,z2,z3,z4,z5,z6,z7,z8,z9⟩:=h.2.2 j hj';obtain⟨e1,e2⟩:=hq.get j hj' hj;have hv:=z2w hB _ _ _ e2 rt;obtain⟨kd,T1,C,so2,sl,sc,p1,e3⟩:=hv.shape;dsimp only[r8,v8]at e3;cases e3;exact⟨g,o,h1,by omega,kd,T,C,so1,n1,cap,p,_,hv,by rw[e1];exact z0,z1,z2,z3,z4,z5,z6,z7,z8,z9⟩
theorem z9E(so:Option Addr)(n cap:Nat)(rs:List Rr)(B:Nat)(w:World)(hz:RgZ rs)(h:Qv w B so n rs)(hB:B<=w.heap.size)(hk:okG rs=false):
  Calls prog 239 #[.agg #[.slice so n cap]] w fun e w'=>e=.returned (.tuple #[.string ⟨#[]⟩,.iface 36 (.int .i64 20)])/\Below w.heap.size w w':=by
 have HI:=hid (fun(W:World) (hb:Below w.heap.size w W)=>z2e so n cap rs B W hz (h.below (hb.mono hB)) (Nat.le_trans hB hb.size));rw[hk]at HI;clear h hz;go_enter func239,ntmps239
 go_wp2_with(first|(go_at_call 270;refine(HI.out _ ?hh).mono ?_;(case hh=>exact B0q.alloc L0q _);rintro e wq ⟨rfl,hbq⟩))
 go_ret2
 exact⟨rfl,((Below.refl _ w).alloc L0q _).trans (hbq.mono (by simp))⟩
theorem Eq(so:Option Addr)(n cap:Nat)(rs:List Rr)(ns:List Rl)(B:Nat)(w:World)(hz:RgZ rs)(h:Qv w B so n rs)(hB:B<=w.heap.size)(hk:okG rs=true)(hq:TqR rs ns)(hx:∀x∈ns,Ruk Nmq x)(hT:TabIs w):
  Calls prog 239 #[.agg #[.slice so n cap]] w fun e w'=>e=.returned (Jc ns)/\Below w.heap.size w w':=by
 have HI:=hid (fun(W:World) (hb:Below w.heap.size w W)=>z2e so n cap rs B W hz (h.below (hb.mono hB)) (Nat.le_trans hB hb.size));have HT:=hid (fun(W:World) (hb:Below w.heap.size w W)=>z8J hx n cap so W (z9D (Nat.le_trans hB hb.size) hq (h.below (hb.mono hB))) (hT.below hb hT.lt));rw[hk]at HI;obtain⟨A,E,hA⟩:∃A E,Jc ns=.tuple #[A,E]:=by
  unfold Jc;split
  ·exact⟨_,_,rfl⟩
  ·split
   ·exact⟨_,_,rfl⟩
   ·exact⟨_,_,rfl⟩
 rw[hA]at HT ⊢;obtain⟨W1,hW1⟩:∃W1,W1=w.alloc (.cells #[.slice so n cap] 24):=⟨_,rfl⟩;have HB1:Hid (Below w.heap.size w W1):=by rw[hW1];exact(Below.refl _ w).alloc L0q _
 have HC1:Hid (W1.heap[w.heap.size]? =some (.cells #[.slice so n cap] 24)):=by rw[hW1];exact Qx w _ rfl
 have HZ1:Hid (W1.heap.size=w.heap.size+1):=by rw[hW1];exact World.size_alloc _ _
 have HW1:=hid hW1;clear hW1 h hz hT hx hq hA;go_enter func239,ntmps239
 go_wp2_with(first|(go_at_call 270;rw[<-HW1.out];refine(HI.out _ HB1.out).mono ?_;rintro e wq ⟨rfl,hbq⟩;have c0:=(Qk ((hbq.block _ (by rw[HZ1.out];exact Nat.lt_succ_self _)).trans HC1.out)).1;have HBq:Hid (Below w.heap.size w wq):=HB1.out.trans (hbq.mono HB1.out.size))|(go_at_call 271;refine(HT.out _ HBq.out).mono ?_;rintro e wz ⟨rfl,hbz⟩))
 go_ret2
 exact⟨rfl,HBq.out.trans (hbz.mono HBq.out.size)⟩
mutual
def toR:Nd->RT
 | .mk kd T C s p=>.mk (kd:Int) T (wd C 0:Nat) (wd C 1:Nat) (wd C 2:Nat) (wd C 3:Nat) (Vv s) (p:Int)
def Vv:List Nd->List RT
 |[]=>[]
 |n::r=>toR n::Vv r
end
mutual
theorem z2y:∀n:Nd,Tq (toR n) n
 | .mk kd T C s p=>by
   rw[toR,Tq];exact⟨rfl,rfl,rfl,rfl,rfl,rfl,z2z s⟩
theorem z2z:∀s:List Nd,TqL (Vv s) s
 |[]=>by rw[Vv,TqL];trivial
 |n::r=>by
  rw[Vv,TqL];exact⟨z2y n,z2z r⟩
end
theorem Ex:∀s:List Nd,Qp (Vv s)=Jv s/\(Vv s).isEmpty=s.isEmpty
 |[]=>⟨rfl,rfl⟩
 |n::r=>⟨by rw[Vv,Qp,Jv,(Ex r).1],by rw[Vv];rfl⟩
mutual
theorem z2A{w:World}{P:Nat->Prop}:∀(n:Nd) (cs:List Value),Sm n n->Qy w P n cs->Qj w w.heap.size (toR n) cs
 | .mk kd T C s p,cs,hs,h=>by
   rw[Sm]at hs;rw[Qy]at h;obtain⟨_,_,_,hl,hn⟩:=hs;obtain⟨sv,rfl,h⟩:=h;rw[toR,Qj];rcases h with⟨h1,rfl⟩|⟨h1,g,cap,cur,rfl,_,hg,_,h5⟩
   ·have hs0:s=[]:=by simpa using h1
    subst hs0;exact⟨none,0,rfl,.inl rfl⟩
   ·refine⟨some ⟨g,0,none⟩,cap,by rw[(Ex s).1],.inr ⟨by rw[(Ex s).2];exact h1,g,0,rfl,Qz hg,by rw[(Ex s).1,Dh];unfold maxLen;omega,z2B s cur.toList g 0 hl h5 fun j u hj=> ?_⟩⟩
    rw[Array.getElem?_toList]at hj;simp[World.cell?,hg,hj]
theorem z2B{w:World}{P:Nat->Prop}:∀(s:List Nd) (vs:List Value) (g o:Nat),SmL s s->Qm w P s vs->(∀j u,vs[j]? =some u->w.cell? ⟨g,o+j,none⟩=some u)->Ql w w.heap.size g o (Vv s)
 |[],vs,g,o,_,_,_=>by rw[Vv,Ql];trivial
 |n::r,vs,g,o,hs,h,hc=>by
  rw[SmL]at hs;rw[Qm]at h;obtain⟨c,rest,rfl,h1,h2⟩:=h;have hl:=h1.len;rw[Vv,Ql];refine⟨⟨c,z2A n c hs.1 h1,fun j u hj=>hc j u ?_⟩,z2B r rest g (o+8) hs.2 h2 fun j u hj=> ?_⟩
  ·have:j<c.length:=(List.getElem?_eq_some_iff.1 hj).1
   rw[List.getElem?_append_left this];exact hj
  ·rw[Nat.add_assoc]
   refine hc (8+j) u ?_;rw[List.getElem?_append_right (by omega),hl,Nat.add_sub_cancel_left];exact hj
end
theorem Mg(h:T={data:=#[]}):T.toList.isEmpty=true:=by
 subst h;rw[ByteArray.toList_eq];rfl
theorem Mb(h:T.toList.isEmpty=true):T={data:=#[]}:=by
 rw[ByteArray.toList_eq]at h;apply ByteArray.ext;simpa using h
theorem TqL.length{s:List RT}{q:List Nd}(h:TqL s q):q.length=Qp s:=by rw[<-Dh];exact h.len.1
theorem Kq:zc ((wd 0 0:Nat):Int) ((wd 0 1:Nat):Int) ((wd 0 2:Nat):Int) ((wd 0 3:Nat):Int)=true:=by decide
theorem z9F{kd:Nat}{C:Nat}{s:List Nd}(hn:s.length=n)(hv:(kd=1/\T={data:=#[]}/\C=0/\s=[])∨(kd=2/\C=0/\s=[])∨(kd=3/\T={data:=#[]}/\s=[])∨(kd=4/\T={data:=#[]}/\C=0/\s=[])∨(kd=5/\C=0/\s=[])∨
   ((kd=6∨kd=7)/\T={data:=#[]}/\C=0/\2<=s.length)∨(8<=kd/\kd<=12/\T={data:=#[]}/\C=0/\s.length=1))(w2:kd=2->T.size<=255)(w5:kd=5->nmS T=true):
  okN (kd:Int) T (wd C 0:Nat) (wd C 1:Nat) (wd C 2:Nat) (wd C 3:Nat) n=true:=by
 unfold okN;subst hn;rcases hv with⟨rfl,hT,rfl,rfl⟩|⟨rfl,rfl,rfl⟩|⟨rfl,hT,rfl⟩|⟨rfl,hT,rfl,rfl⟩|⟨rfl,rfl,rfl⟩|⟨hk,hT,rfl,hl⟩|⟨h8,h12,hT,rfl,hl⟩
 ·rw[if_pos (by decide),Mg hT,Kq];rfl
 ·rw[if_neg (by decide),if_pos (by decide),Kq,decide_eq_true (by have:=w2 rfl;omega)];rfl
 ·rw[if_neg (by decide),if_neg (by decide),if_pos (by decide),Mg hT];rfl
 ·rw[if_pos (by decide),Mg hT,Kq];rfl
 ·rw[if_neg (by decide),if_neg (by decide),if_neg (by decide),if_pos (by decide),Kq,w5 rfl];rfl
 ·rw[if_neg (by omega),if_neg (by omega),if_neg (by omega),if_neg (by omega),if_pos (by omega),Mg hT,Kq,decide_eq_true (by omega)];rfl
 ·rw[if_neg (by omega),if_neg (by omega),if_neg (by omega),if_neg (by omega),if_neg (by omega),if_pos (by omega),Mg hT,Kq,hl];rfl
mutual
theorem Ry:∀(t:RT) (n:Nd),Tq t n->Vk n->Wf Nmq n->okT t=true/\RtZ t
 | .mk k T a b c d s p,.mk kd T' C s' pn,h,hv,hw=>by
   rw[Tq]at h;obtain⟨rfl,rfl,rfl,rfl,rfl,rfl,hs⟩:=h;have hkd:=hv.kd;rw[Vk]at hv;rw[Wf]at hw;obtain⟨hv1,hvs⟩:=hv;obtain⟨w2,w5,wc,ws⟩:=hw;obtain⟨h1,h2⟩:=z2C s s' hs hvs ws;rw[okT,RtZ,h1,Bool.and_true];refine⟨z9F hs.length hv1 w2 w5,?_,h2⟩;have hz:∀T:ByteArray,T={data:=#[]}->T.size<=9223372036854775807:=fun T h=>by rw[h];decide
   rcases hv1 with q|q|q|q|q|q|q
   ·exact hz _ q.2.1
   ·have:=w2 q.1;omega
   ·exact hz _ q.2.1
   ·exact hz _ q.2.1
   ·have:=Cg (w5 q.1);omega
   ·exact hz _ q.2.1
   ·exact hz _ q.2.2.1
theorem z2C:∀(s:List RT) (q:List Nd),TqL s q->VkL q->WfL Nmq q->okL s=true/\Yd s
 |[],[],_,_,_=>by rw[okL,Yd];exact⟨rfl,trivial⟩
 |[],_::_,h,_,_=>by simp[TqL]at h
 |_::_,[],h,_,_=>by simp[TqL]at h
 |t::r,n::q,h,hv,hw=>by
  rw[TqL]at h;rw[VkL]at hv;rw[WfL]at hw;obtain⟨a1,a2⟩:=Ry t n h.1 hv.1 hw.1;obtain⟨b1,b2⟩:=z2C r q h.2 hv.2 hw.2;rw[okL,Yd,a1,b1];exact⟨rfl,a2,b2⟩
end
end Go.Proofs.YtlogolpcipiceaaGreatDoor
