/- Lemmas for the last text. Conditions: those that each names. -/
import Derived.Test.YtgmcjddjdidpjaaGreatDoorVO5
import Derived.Shelf.Lay
import Derived.Shelf.Sort.Plain
import Derived.Shelf.Slices.CompactI
import Derived.Shelf.Slices.In.SortNone
import Derived.Sort.OwnSortedInts
import Derived.Ground.NamesProg
import Derived.Ground.Names2Prog
import Derived.Test.YtgmcjddjdidpjaaGreatDoorVHBToO4
import Derived.Laws.EntriesVeiled
import Derived.Test.YtgmcjddjdidpjaaGreatDoorVS2ToS9
import Derived.Test.YtgmcjddjdidpjaaGreatDoorVX10ToY2
set_option linter.unusedVariables false
set_option maxRecDepth 100000
set_option maxHeartbeats 8000000
namespace Go.Proofs.YtgmcjddjdidpjaaGreatDoor
open Go.Proofs.Tryz
end Go.Proofs.YtgmcjddjdidpjaaGreatDoor
namespace Go.Proofs
open Go.Shelf
shelf_lay Lays.n189 Nm 189 at Tryz as Tryz.lays189
shelf_lay Lays2.n20 Nm2 20 at Tryz as Tryz.lays2_20
end Go.Proofs
namespace Go.Proofs.YtgmcjddjdidpjaaGreatDoor
open Go.Proofs.Tryz
open Go.RowKit Go.Shelf Go.Sort
variable {W W':World} {S k n s ub:Nat} {v:Value} {zs:List Int} {xs:List Value} {x:Int}
theorem y2f(blk off cap:Nat)(zs:List Int)(w:World)(hH:Holds (Value.int .i64) w blk off zs.toArray)(hblk:blk<w.heap.size)(hsz:zs.length<4611686018427387904):
 Calls prog 115 #[.slice (some ⟨blk,off,none⟩) zs.length cap] w fun e w'=>
  e=.returned (.tuple #[])/\∃n os,w'=grow (putRow (Value.int .i64) (Sort.ahead w n) blk off (zs.mergeSort fun x y=>decide (x<=y)).toArray) os:=Any.slices_Sort_int Tryz.lays189 blk off cap zs w hH hblk hsz
theorem y2g(p:Option Addr)(cap:Nat)(w:World):
 Calls prog 115 #[.slice p 0 cap] w fun e w'=>e=.returned (.tuple #[])/\w'=w:=Any.slices_Sort_int_none Tryz.lays189 p cap w
theorem y2h(blk off cap:Nat)(zs:List Int)(w:World)(hH:Holds (Value.int .i64) w blk off zs.toArray)(hsz:zs.length<=9223372036854775807)(hcap:zs.length<=cap):
 Calls prog 116 #[.slice (some ⟨blk,off,none⟩) zs.length cap] w fun e w'=>e=.returned (.slice (some ⟨blk,off,none⟩) (Lib.compact zs).length cap)/\∃q,w'=putRow (Value.int .i64) (Sort.ahead w q) blk off (Lib.compact zs++List.replicate (zs.length-(Lib.compact zs).length) 0).toArray:=Any.slices_Compact_int Tryz.lays2_20 blk off cap zs w hH hsz hcap
theorem y2i(a:Option Addr)(cap:Nat)(w:World):
 Calls prog 116 #[.slice a 0 cap] w fun e w'=>e=.returned (.slice a 0 cap)/\w'=w:=Any.slices_Compact_int_empty Tryz.lays2_20 a cap w
theorem z4A(zs:List Int):(Lib.compact zs).length<=zs.length:=by
 unfold Lib.compact Lib.compactUpTo;rw[List.length_map];exact Nat.le_trans (List.length_filter_le _ _) (by simp)
def srt(zs:List Int):List Int:=zs.mergeSort fun x y=>decide (x<=y)
theorem Ej(zs:List Int):(srt zs).length=zs.length:=List.length_mergeSort zs
theorem y2j(h:W.ownsRow s 3 1 v zs.length (zs.map (Value.int .i64)))(hz:zs.length<=1048576):
  Calls prog 115 #[v] W fun e w'=>e=.returned (.tuple #[])/\w'.ownsRow s 3 1 v zs.length ((srt zs).map (Value.int .i64))/\W.grownBy w' v.ownBlock:=by
 rcases h.2 with⟨rfl,h0⟩|⟨g,cap,cur,rfl,hg,hb,h1,h2,h3,h4⟩
 ·refine(y2g none 0 W).mono fun e w' he=>⟨he.1,?_,?_⟩
  ·rw[he.2]
   cases zs with
   |nil=>rw[show srt []=[]from List.length_eq_zero_iff.1 (Ej [])];exact h
   |cons _ _=>simp at h0
  ·rw[he.2]
   exact⟨rfl,rfl,rfl,Nat.le_refl _,fun _ _ _=>rfl⟩
 ·refine(y2f g 0 cap zs W (holds_of_blockI hb (by rw[<-h4,Nat.mul_one])) (Array.getElem?_eq_some_iff.1 hb).1 (by omega)).mono fun e w' he=> ?_
  obtain⟨he,n,os,hw⟩:=he;refine⟨he,?_,?_⟩
  ·rw[hw]
   exact ownsRow_sortedI (Ej zs) hg hb h1 h2 h3
  ·rw[hw]
   exact grownBy_sortedI _
theorem y2k(h:W.ownsRow s 3 1 v zs.length (zs.map (Value.int .i64)))(hz:zs.length<=1048576):
  Calls prog 116 #[v] W fun e w'=>∃v',e=.returned v'/\w'.ownsRow s 3 1 v' (Lib.compact zs).length ((Lib.compact zs).map (Value.int .i64))/\W.grownBy w' v.ownBlock:=by
 rcases h.2 with⟨rfl,h0⟩|⟨g,cap,cur,rfl,hg,hb,h1,h2,h3,h4⟩
 ·refine(y2i none 0 W).mono fun e w' he=>⟨_,he.1,?_,?_⟩
  ·rw[he.2]
   cases zs with
   |nil=>exact h
   |cons _ _=>simp at h0
  ·rw[he.2]
   exact⟨rfl,rfl,rfl,Nat.le_refl _,fun _ _ _=>rfl⟩
 ·refine(y2h g 0 cap zs W (holds_of_blockI hb (by rw[<-h4,Nat.mul_one])) (by omega) h1).mono fun e w' he=> ?_
  obtain⟨he,q,hw⟩:=he;have hc:=z4A zs;have hl:(Lib.compact zs++List.replicate (zs.length-(Lib.compact zs).length) 0).length=zs.length:=by
   rw[List.length_append,List.length_replicate];omega
  have hw2:w'=grow (putRow (Value.int .i64) (Sort.ahead W q) g 0 (Lib.compact zs++List.replicate (zs.length-(Lib.compact zs).length) 0).toArray) #[]:=by rw[grow_empty];exact hw
  refine⟨_,he,⟨by simp,.inr ⟨g,cap,_,rfl,hg,by rw[hw2];exact heap_sortedI _ hb,by omega,h2,by simp[putCells,h3],?_⟩⟩,by rw[hw2];exact grownBy_sortedI _⟩;have ht:=take_putCellsI cur (Lib.compact zs++List.replicate (zs.length-(Lib.compact zs).length) 0) (by rw[hl,h3];omega);rw[hl]at ht;obtain⟨X,hX⟩:∃X,X=(putCells (Value.int .i64) 0 (Lib.compact zs++List.replicate (zs.length-(Lib.compact zs).length) 0).toArray cur).toList:=⟨_,rfl⟩;rw[<-hX]at ht ⊢;have e:X.take (Lib.compact zs).length=(X.take zs.length).take (Lib.compact zs).length:=by rw[List.take_take,Nat.min_eq_left hc]
  rw[Nat.mul_one,e,ht,List.map_append,List.take_append_of_le_length (by simp),List.take_of_length_le (by simp)]
open Go.Maps
attribute [local go_sem] Oper.semAt_some
theorem Tryz.infoInt:(Tryz.prog.info? 3).map (fun i=>(i.zero,i.size,i.bytes))=some (some (.int .i64 0),1,8):=by kernel_rfl
def ixV(l:List ByteArray)(s:ByteArray):Nat:=if inN s l then ixN s l else 0
def ixL(l:List ByteArray)(q:List (ByteArray×Int)):List Int:=q.map fun x=>(ixV l x.1:Int)
def usR(l:List ByteArray)(x:Rr):List Int:=Lib.compact (srt (ixL l (rfT x.2.1)))
structure Uw (w:World) (ub n:Nat) (vs:List Value) (us:List (List Int)) (W:World):Prop where
 blk:W.heap[ub]? =some (.cells (vs++List.replicate (n-vs.length) (Value.slice none 0 0)).toArray 162)
 len:vs.length=us.length
 row:∀i (h1:i<vs.length) (h2:i<us.length),W.ownsRow w.heap.size 3 1 vs[i] us[i].length (us[i].map (Value.int .i64))
 be:Below w.heap.size w W
 lo:w.heap.size<=ub
theorem y2l{α:Type}(vs:List α)(n:Nat)(z:α)(h:vs.length<n):(vs++List.replicate (n-vs.length) z).toArray[vs.length]? =some z:=by
 rw[List.getElem?_toArray,List.getElem?_append_right L0q,Nat.sub_self,List.getElem?_replicate,if_pos (by omega)]
theorem y2m{α:Type}(vs:List α)(n:Nat)(z v:α)(h:vs.length<n):(vs++List.replicate (n-vs.length) z).toArray.setIfInBounds vs.length v=((vs++[v])++List.replicate (n-(vs++[v]).length) z).toArray:=by
 have e:n-vs.length=(n-(vs++[v]).length)+1:=by simp;omega
 rw[e,List.replicate_succ];simp
theorem y2n(h:W.ownsRow s 3 1 v k xs)(hb:Below S W W')(hS:S=W.heap.size):W'.ownsRow s 3 1 v k xs:=by
 refine⟨h.1,?_⟩;rcases h.2 with h1|⟨g,cap,cur,h1,h2,h3,h4⟩
 ·exact .inl h1
 ·exact .inr ⟨g,cap,cur,h1,h2,(hb.block g (by rw[hS];exact(Array.getElem?_eq_some_iff.1 h3).1)).trans h3,h4⟩
theorem z4B{j:Nat}{u:Value}{cur:Array Value}(h:W.ownsRow s 3 1 v k xs)(hu:W.heap[ub]? =some (.cells cur 162)):(W.setCell ⟨ub,j,none⟩ u).ownsRow s 3 1 v k xs:=by
 refine⟨h.1,?_⟩;rcases h.2 with h1|⟨g,cap,cur',h1,h2,h3,h4⟩
 ·exact .inl h1
 ·refine .inr ⟨g,cap,cur',h1,h2,(Below.heap_setCell _ _ _ g (fun e=> ?_)).trans h3,h4⟩
  have e:g=ub:=e;rw[e,hu]at h3;cases h3
theorem z4C{s':Nat}(h:W.ownsRow s 3 1 v k xs)(hs:s'<=s):W.ownsRow s' 3 1 v k xs:=by
 refine⟨h.1,?_⟩;rcases h.2 with h1|⟨g,cap,cur,h1,h2,h3⟩
 ·exact .inl h1
 ·exact .inr ⟨g,cap,cur,h1,by omega,h3⟩
theorem Uw.below{w:World}{vs:List Value}{us:List (List Int)}(h:Uw w ub n vs us W)(hb:Below W.heap.size W W'):Uw w ub n vs us W':=
 ⟨(hb.block ub (Array.getElem?_eq_some_iff.1 h.blk).1).trans h.blk,h.len,fun i h1 h2=>y2n (h.row i h1 h2) hb rfl,h.be.trans (hb.mono h.be.size),h.lo⟩
theorem Uw.step{w:World}{ub n:Nat}{vs:List Value}{us:List (List Int)}{W:World}{v:Value}{u:List Int}(h:Uw w ub n vs us W)(hn:vs.length<n)(hr:W.ownsRow w.heap.size 3 1 v u.length (u.map (Value.int .i64))):Uw w ub n (vs++[v]) (us++[u]) (W.setCell ⟨ub,vs.length,none⟩ v):=by
 refine⟨by rw[Qy h.blk,y2m vs n _ v hn],by simp[h.len],fun i h1 h2=> ?_,h.be.setCell (p:=⟨ub,vs.length,none⟩) h.lo v,h.lo⟩;by_cases hi:i<vs.length
 ·have hi2:i<us.length:=by rw[<-h.len];exact hi
  rw[List.getElem_append_left hi,List.getElem_append_left hi2];exact z4B (h.row i hi hi2) h.blk
 ·have e1:i=vs.length:=by simp at h1;omega
  subst e1;have e2:vs.length=us.length:=h.len;rw[List.getElem_append_right (by omega)];have:(us++[u])[vs.length]=u:=by rw[List.getElem_append_right (by omega)];simp[e2]
  rw[this];simp only[Nat.sub_self,List.getElem_cons_zero];exact z4B hr h.blk
theorem Tryz.infoInts:(Tryz.prog.info? 162).map (fun i=>(i.zero,i.size,i.bytes))=some (some (.slice none 0 0),1,24):=by kernel_rfl
theorem z4D(z:Value)(hz:z.cells=#[z])(k:Nat):madeCells z.cells k=(List.replicate k z).toArray:=by
 rw[hz];unfold madeCells;apply Array.ext
 ·simp
 ·intro i h1 h2
  simp[Nat.mod_one]
theorem y2o(n:Nat)(hn:n<=1048576)(W:World):(Instr.makeSlice 99 (.int .i64 n) (.int .i64 n)).run prog W=.ok (.slice (some ⟨W.heap.size,0,none⟩) n n) (W.alloc (.cells (List.replicate n (Value.slice none 0 0)).toArray 162)):=by
 obtain⟨i0,hi0,hz0,hz1,hz2⟩:=info_parts Tryz.infoInts;rw[run_make W 99 162 i0 (.slice none 0 0) Tryz.underlying99 hi0 hz0 .i64 .i64 n n (by omega) (by omega) (by rw[hz2];omega) (by omega),hz1,z4D _ rfl];simp
inductive Rch (us:List (List Int)) (a:Nat):Nat->Prop where
 |refl:Rch us a a
 |step {b c:Nat}:Rch us a b->(c:Int)∈us.getD b []->Rch us a c
theorem Rch.trans{us:List (List Int)}{a b c:Nat}(h:Rch us a b)(k:Rch us b c):Rch us a c:=by
 induction k with
 |refl=>exact h
 |step _ hm ih=>exact ih.step hm
def unm(sn:List Bool):Nat:=(sn.filter (· == false)).length
theorem z4E:∀(sn:List Bool) (p:Nat),sn[p]? =some false->unm (sn.set p true)<unm sn
 |[],p,h=>by simp at h
 |b::r,0,h=>by
  obtain rfl:b=false:=by simpa using h
  simp[unm]
 |b::r,p+1,h=>by
  have ih:=z4E r p (by simpa using h);unfold unm at ih ⊢;rw[List.set_cons_succ,List.filter_cons,List.filter_cons];split
  ·simp only[List.length_cons];omega
  ·exact ih
theorem z4F:∀(a b:List Bool),b.length=a.length->(∀i:Nat,a[i]? =some true->b[i]? =some true)->unm b<=unm a
 |[],[],_,_=>Nat.le_refl _
 |[],_::_,h,_=>by simp at h
 |_::_,[],h,_=>by simp at h
 |x::r,y::q,h,hm=>by
  have ih:=z4F r q (by simpa using h) (fun i hi=>by have:=hm (i+1) (by simpa using hi);simpa using this);have h0:=hm 0;unfold unm at ih ⊢;rw[List.filter_cons,List.filter_cons];cases x<;>cases y<;>simp_all;omega
def z4G(W:World)(B:Nat)(rv:Value)(u:List Int):Prop:=∃so cap,rv=.slice so u.length cap/\u.length<=1048576/\∀j (hj:j<u.length),∃g o,so=some ⟨g,o,none⟩/\g<B/\W.cell? ⟨g,o+j,none⟩=some (.int .i64 u[j])
def UsM(W:World)(B:Nat)(uv:Value)(us:List (List Int)):Prop:=∃so cap,uv=.slice so us.length cap/\us.length<=1048576/\∀i (hi:i<us.length),∃g o rv,so=some ⟨g,o,none⟩/\g<B/\W.cell? ⟨g,o+i,none⟩=some rv/\z4G W B rv us[i]
theorem y2p{a b:Nat}{x y:Array Value}{t u:TypeId}(h:W.heap[a]? =some (.cells x t))(k:W.heap[b]? =some (.cells y u))(ht:t≠u):a≠b:=fun e=>by
 subst e;rw[h]at k;cases k;exact ht rfl
theorem z4H{sb:Nat}{sn:List Bool}(h:W.heap[sb]? =some (.cells (sn.map Value.bool).toArray 4)){p:Nat}{b:Bool}(hp:sn[p]? =some b):W.cell? ⟨sb,p,none⟩=some (.bool b)/\W.frozen? ⟨sb,p,none⟩=false:=Qf h p _ (by simp[hp])
theorem Ew(L:List Int):(srt L).Perm L:=List.mergeSort_perm L _
theorem Tryz.infoBool:(Tryz.prog.info? 4).map (fun i=>(i.zero,i.size,i.bytes))=some (some (.bool false),1,1):=by kernel_rfl
theorem y2q(n:Nat)(hn:n<=1048576)(W:World):(Instr.makeSlice 160 (.int .i64 n) (.int .i64 n)).run prog W=.ok (.slice (some ⟨W.heap.size,0,none⟩) n n) (W.alloc (.cells (Array.replicate n (Value.bool false)) 4)):=by
 obtain⟨i0,hi0,hz0,hz1,hz2⟩:=info_parts Tryz.infoBool;rw[run_make W 160 4 i0 (.bool false) Tryz.underlying160 hi0 hz0 .i64 .i64 n n (by omega) (by omega) (by rw[hz2];omega) (by omega),hz1,z4D _ rfl];simp
theorem z0v{M:ByteArray}(h:nmS M=true):1<=M.size:=by
 rcases Nat.lt_or_ge 0 M.size with h1|h1
 ·exact h1
 ·have e:M={data:=#[]}:=by
   apply ByteArray.ext;apply Array.ext';exact List.eq_nil_of_length_eq_zero (by have:M.data.size=M.size:=rfl;rw[Array.length_toList];omega)
  subst e
  revert h
  decide+kernel
theorem Ld(over:Nat)(n:Nd):sz (pN qT cT n)<=sz (pP qT cT over n):=by
 unfold pP;split
 ·rw[sz,Ux];omega
 ·exact Nat.le_refl _
mutual
theorem z0w:∀(t:RT) (n:Nd),Tq t n->Vk n->Wf Nmq n->(rfT t).length<=sz (pN qT cT n)
 | .mk k T a b c d s p,.mk kd T' C s' p',hq,hv,hw=>by
   rw[Tq]at hq;obtain⟨hk,hT,_,_,_,_,hs⟩:=hq;rw[Wf]at hw;rw[Vk]at hv;rw[rfT];by_cases h5:kd=5
   ·rw[if_pos (by omega)]
    have h1:1<=T'.size:=z0v (hw.2.1 h5);rw[h5,pN];simp[sz];exact h1
   ·rw[if_neg (by omega)]
    have hB:∀over sep,(rfL s).length<=sz (pS qT cT over sep s'):=fun over sep=>by
     cases s with
     |nil=>rw[rfL];exact Nat.zero_le _
     |cons t r=>
      cases s' with
      |nil=>simp[TqL]at hs
      |cons n q=>
       rw[TqL]at hs;have hvl:=hv.2;rw[VkL]at hvl;have hwl:=hw.2.2.2;rw[WfL]at hwl;have i1:=z0w t n hs.1 hvl.1 hwl.1;have i2:=z4I r q over sep hs.2 hvl.2 hwl.2;have i3:=Ld over n;rw[rfL,List.length_append,Nx,Ux];omega
    have h0:kd<=4->(rfL s).length=0:=fun h=>by
     have e:s'=[]:=by
      rcases hv.1 with h1|h1|h1|h1|h1|h1|h1
      ·exact h1.2.2.2
      ·exact h1.2.2
      ·exact h1.2.2
      ·exact h1.2.2.2
      ·omega
      ·omega
      ·omega
     have:=hB 0 bE;rw[e,pS,sz]at this;omega
    rw[pN]
    repeat' split
    all_goals first
     |(rw[h0 (by omega)];exact Nat.zero_le _)
     |exact hB _ _
     |(rw[sz];exact Nat.le_trans (hB _ _) (Nat.le_add_left _ _))
     |(rw[Ux];exact Nat.le_trans (hB _ _) (Nat.le_add_right _ _))
     |omega
theorem z4I:∀(s:List RT) (q:List Nd) (over:Nat) (sep:ByteArray),TqL s q->VkL q->WfL Nmq q->(rfL s).length<=sz (pB qT cT over sep q)
 |[],_,_,_,_,_,_=>by rw[rfL];exact Nat.zero_le _
 |t::r,[],_,_,h,_,_=>by simp[TqL]at h
 |t::r,n::q,over,sep,h,hv,hw=>by
  rw[TqL]at h;rw[VkL]at hv;rw[WfL]at hw;have i1:=z0w t n h.1 hv.1 hw.1;have i2:=z4I r q over sep h.2 hv.2 hw.2;have i3:=Ld over n;rw[rfL,List.length_append,Nj,sz,Ux];omega
end
theorem Lm:∀{rs:List Rr} {ns:List Rl},TqR rs ns->(∀x∈ns,Ruk Nmq x)->∀x∈rs,(rfT x.2.1).length<=sz (pR qT cT ns)
 |[],_,_,_,x,hx=>by simp at hx
 |a::r,[],h,_,_,_=>by simp[TqR]at h
 |a::r,b::q,h,hk,x,hx=>by
  rw[TqR]at h;rw[pR,sz,sz,Ux,sz];rcases List.mem_cons.1 hx with rfl|hx
  ·have hb:=hk b (by simp)
   have:=z0w _ _ h.2.1 hb.2.1 hb.2.2;omega
  ·have:=Lm h.2.2 (fun y hy=>hk y (List.mem_cons_of_mem _ hy)) x hx
   omega
theorem Lp(so:Option Addr)(n cap:Nat)(A E:Value)(w:World)
  (HP:Hid (∀W:World,Below w.heap.size w W->Calls prog 139 #[.agg #[.slice so n cap]] W fun e w'=>e=.returned (.tuple #[A,E])/\Below W.heap.size W w')):
  Calls prog 82 #[.agg #[.slice so n cap]] w fun e w'=>e=.returned E/\Below w.heap.size w w':=by
 have HB1:Hid (Below w.heap.size w (w.alloc (.cells #[.slice so n cap] 24))):=(Below.refl _ w).alloc L0q _;go_enter func82,ntmps82
 go_wp2_with(first|(go_at_call 139;refine(HP.out _ HB1.out).mono ?_;rintro e wq ⟨rfl,hbq⟩;have HBq:Hid (Below w.heap.size w wq):=HB1.out.trans (hbq.mono HB1.out.size)))
 go_ret;exact⟨rfl,HBq.out⟩
def RtA(rs:List Rr)(E:Value):Prop:=(∃c:Int,(c=2∨c=20)/\E=.iface 34 (.int .i64 c))∨(E=.nilIface/\okG rs=true/\∀x∈rs,(rfT x.2.1).length<=8192)
attribute [local go_sem] Oper.semAt_some
theorem y2r(so:Option Addr)(n cap:Nat)(c:Int)(w:World)
  (HP:Hid (∀W:World,Below w.heap.size w W->Calls prog 82 #[.agg #[.slice so n cap]] W fun e w'=>e=.returned (.iface 34 (.int .i64 c))/\Below W.heap.size W w'))(m:Nat):
  CallsIn Fence.wide (m+5) prog 56 #[.agg #[.slice so n cap]] w fun e w'=>e=.returned (.tuple #[.map none,.iface 34 (.int .i64 c)])/\Below w.heap.size w w':=by
 obtain⟨W0,hW0⟩:∃W0,W0=((w.alloc (.cells #[.slice so n cap] 24)).alloc (.cells #[.map none] 102)).alloc (.cells #[.nilIface] 28):=⟨_,rfl⟩;have hB0:Below w.heap.size w W0:=by rw[hW0];exact(((Below.refl _ w).alloc L0q _).alloc (by simp) _).alloc (by simp;omega) _
 have c2:W0.heap[w.heap.size+1]? =some (.cells #[.map none] 102):=by
  rw[hW0];exact(Below.heap_alloc _ _ _ (by simp)).trans (Qq _ _ (by simp))
 have c3:W0.heap[w.heap.size+1+1]? =some (.cells #[.nilIface] 28):=by
  rw[hW0];exact Qq _ _ (by simp)
 have hs0:W0.heap.size=w.heap.size+1+1+1:=by rw[hW0];simp
 have HP0:=hid (HP.out W0 hB0);refine callsIn_of_wp_marks func56 rfl trivial ?_ rfl;simp only[ntmps56,List.size_toArray,List.length_cons,List.length_nil,Nat.reduceAdd,Nat.reduceSub,Array.replicate_succ,Array.replicate_zero,List.push_toArray,List.append_toArray,List.nil_append,List.cons_append]
 gi_wp2
 rw[<-hW0];clear hW0;refine⟨trivial,?_⟩;refine(callsIn_wide.2 HP0.out).mono ?_;rintro e W1 ⟨rfl,hb1⟩;have d2:=(hb1.block _ (by omega)).trans c2;have d3:=(hb1.block _ (by omega)).trans c3;have hs1:=hb1.size;have HBw:Hid (Below w.heap.size w W1):=hB0.trans (hb1.mono hB0.size);obtain⟨x2,e2⟩:=Qk d2;obtain⟨x3,e3⟩:=Qk d3;have l2:=Qz d2;have l3:=Qz d3;clear HP0 HP c2 c3
 gi_wp2
 have b2:Boxed W1 (w.heap.size+1) 102 (.map none):=d2;have b3:Boxed W1 (w.heap.size+1+1) 28 .nilIface:=d3;have y1:=((b2.set (.map none)).other (B':=w.heap.size+1+1) (by omega) (.iface 34 (.int .i64 c))).cell;have y2:=((b3.other (B':=w.heap.size+1) (by omega) (.map none)).set (.iface 34 (.int .i64 c))).cell;refine⟨.tuple #[.map none,.iface 34 (.int .i64 c)],by simp[results,Tryz.f56,go_sem,y1,y2],rfl,?_⟩;exact(HBw.out.setCell (p:=⟨w.heap.size+1,0,none⟩) (by show w.heap.size<=_+1;omega) _).setCell (p:=⟨w.heap.size+1+1,0,none⟩) (by show w.heap.size<=_+1+1;omega) _
def Zw(X:Option (Int ⊕ (Int×Int)))(S:Nat)(w':World)(v:Value):Prop:=match X with
 |none=>v=.nilIface
 |some (.inl c)=>v=.iface 34 (.int .i64 c)
 |some (.inr q)=>∃g,v=.iface 81 (.pointer (some ⟨g,0,none⟩))/\S<=g/\w'.heap[g]? =some (.cells #[.int .i64 q.1,.int .i64 q.2] 84)
def CkX(rs:List Rr)(X:Option (Int ⊕ (Int×Int))):Prop:=match X with
 |none=>okG rs=true/\ckR rs=none/\∀x∈rs,(rfT x.2.1).length<=8192
 |some (.inl c)=>c=2∨c=20
 |some (.inr q)=>okG rs=true/\ckR rs=some q
theorem Zw.shape{X:Option (Int ⊕ (Int×Int))}{w':World}(h:Zw X S w' v)(hX:X≠none):∃t u,v=.iface t u:=by
 match X,hX with
 |some (.inl c),_=>exact⟨_,_,h⟩
 |some (.inr q),_=>
  obtain⟨g,h1,_⟩:=h;exact⟨_,_,h1⟩
mutual
theorem Qv.upto{w:World}{B B':Nat}(hB:B<=B'):∀(t:RT) (cs:List Value),Qv w B t cs->Qv w B' t cs
 | .mk k T a b c d s p,cs,ht=>by
   rw[Qv]at ht ⊢;obtain⟨so,cap,rfl,ht⟩:=ht;refine⟨so,cap,rfl,?_⟩;rcases ht with h1|⟨h1,g,o,h2,h3,h4,h5⟩
   ·exact .inl h1
   ·exact .inr ⟨h1,g,o,h2,by omega,h4,Zq.upto hB s g o h5⟩
theorem Zq.upto{w:World}{B B':Nat}(hB:B<=B'):∀(s:List RT) (g o:Nat),Zq w B g o s->Zq w B' g o s
 |[],g,o,_=>by rw[Zq];trivial
 |t::r,g,o,ht=>by
  rw[Zq]at ht ⊢;obtain⟨⟨cs,h1,h2⟩,h3⟩:=ht;exact⟨⟨cs,Qv.upto hB t cs h1,h2⟩,Zq.upto hB r g _ h3⟩
end
theorem Qg.upto{w:World}{B B' n:Nat}{so:Option Addr}{rs:List Rr}(h:Qg w B so n rs)(hB:B<=B'):Qg w B' so n rs:=
 ⟨h.1,h.2.1,fun j hj=>by
   obtain⟨g,o,h1,h2,k,T,a,b,c,d,s',n',cap,p,h3,h4⟩:=h.2.2 j hj;exact⟨g,o,h1,by omega,k,T,a,b,c,d,s',n',cap,p,Qv.upto hB _ _ h3,h4⟩⟩
theorem Zw.lo{X:Option (Int ⊕ (Int×Int))}{S':Nat}{w':World}(h:Zw X S w' v)(hS:S'<=S):Zw X S' w' v:=by
 match X with
 |none=>exact h
 |some (.inl c)=>exact h
 |some (.inr q)=>
  obtain⟨g,h1,h2,h3⟩:=h;exact⟨g,h1,by omega,h3⟩
theorem z4J(so:Option Addr)(n cap:Nat)(rs:List Rr)(X:Option (Int ⊕ (Int×Int)))(W:World)
  (HC:Hid (∀W':World,Below W.heap.size W W'->Calls prog 56 #[.agg #[.slice so n cap]] W' fun e w'=>∃m v,e=.returned (.tuple #[m,v])/\Zw X W'.heap.size w' v/\(X=none->∃M,m=.map (some M)/\W'.heap.size<=M/\Pm w' M (nmL rs))/\(X≠none->m=.map none)/\Below W'.heap.size W' w')):
  Calls prog 32 #[.agg #[.slice so n cap]] W fun e w'=>∃v,e=.returned v/\Zw X W.heap.size w' v/\Below W.heap.size W w':=by
 have HB1:Hid (Below W.heap.size W (W.alloc (.cells #[.slice so n cap] 24))):=(Below.refl _ W).alloc L0q _;have HB0:Hid (Below W.heap.size W W):=Below.refl _ W;go_enter func32,ntmps32
 go_wp2_with fail
 first
  |(refine(HC.out _ HB1.out).mono ?_;rintro e w1 ⟨m,v,rfl,h1,-,-,h2⟩;have h3:=HB1.out.trans (h2.mono HB1.out.size);have h4:=h1.lo (S':=W.heap.size) HB1.out.size)
  |(refine(HC.out _ HB0.out).mono ?_;rintro e w1 ⟨m,v,rfl,h1,-,-,h2⟩;have h3:=h2;have h4:=h1)
 clear HC HB1 HB0 h1 h2;have H3:=hid h3;have H4:=hid h4;clear h3 h4
 go_wp2_with fail
 go_ret;exact⟨_,rfl,H4.out,H3.out⟩
theorem y2s{u:List Int}(h:W.ownsRow s 3 1 v u.length (u.map (Value.int .i64)))(hl:u.length<=1048576):z4G W W.heap.size v u:=by
 rcases h.2 with⟨rfl,h0⟩|⟨g,cap,cur,rfl,h1,h2,h3,h4,h5,h6⟩
 ·cases u with
  |nil=>exact⟨none,0,rfl,hl,fun j hj=>by simp at hj⟩
  |cons _ _=>simp at h0
 ·refine⟨_,cap,rfl,hl,fun j hj=>⟨g,0,rfl,(Array.getElem?_eq_some_iff.1 h2).1,?_⟩⟩
  refine(Qf h2 (0+j) _ ?_).1;have e:(cur.toList.take (u.length*1))[j]? =(u.map (Value.int .i64))[j]? :=by rw[h6]
  rw[List.getElem?_take_of_lt (by omega)]at e;rw[Nat.zero_add,<-Array.getElem?_toList,e];simp[hj]
theorem y2t{w:World}{vs:List Value}{us:List (List Int)}(h:Uw w ub n vs us W)(hn:vs.length=n)(hl:∀u∈us,u.length<=1048576)(hn2:n<=1048576):UsM W W.heap.size (.slice (some ⟨ub,0,none⟩) n n) us:=by
 have hu:us.length=n:=by rw[<-h.len];exact hn
 refine⟨_,n,by rw[hu],by omega,fun i hi=>⟨ub,0,vs[i]'(by rw[h.len];exact hi),rfl,Qz h.blk,?_,y2s (h.row i (by rw[h.len];exact hi) hi) (hl _ (List.getElem_mem hi))⟩⟩;refine(Qf h.blk (0+i) _ ?_).1;have hv:i<vs.length:=by rw[h.len];exact hi
 rw[Nat.zero_add,List.getElem?_toArray,List.getElem?_append_left hv,List.getElem?_eq_getElem hv]
theorem z0x(h:x∈Lib.compact zs):x∈zs:=by
 unfold Lib.compact Lib.compactUpTo at h;obtain⟨i,hi,rfl⟩:=List.mem_map.1 h;have hi2:i<zs.length:=List.mem_range.1 (List.mem_filter.1 hi).1;rw[getElem!_pos _ i (by simpa using hi2)];simp
theorem y2u{l:List ByteArray}{y:Rr}(hl:1<=l.length)(h:x∈usR l y):∃m:Nat,m<l.length/\x=(m:Int):=by
 have h1:x∈ixL l (rfT y.2.1):=(Ew _).mem_iff.1 (z0x h);obtain⟨q,_,rfl⟩:=List.mem_map.1 h1;refine⟨ixV l q.1,?_,rfl⟩;unfold ixV;cases hin:inN q.1 l with
 |true=>exact z0q _ _ hin
 |false=>exact hl
theorem Ff{rs:List Rr}(h:okG rs=true):1<=rs.length/\rs.length<=64:=by
 unfold okG at h;simp only[Bool.and_eq_true,decide_eq_true_eq]at h;exact⟨h.1,h.2.1⟩
@[reducible] def CkC (so:Option Addr) (n cap:Nat) (rs:List Rr) (X:Option (Int ⊕ (Int×Int))) (W:World):Prop:=∀W':World,Below W.heap.size W W'->Calls prog 56 #[.agg #[.slice so n cap]] W' fun e w'=>∃m v,e=.returned (.tuple #[m,v])/\Zw X W'.heap.size w' v/\(X=none->∃M,m=.map (some M)/\W'.heap.size<=M/\Pm w' M (nmL rs))/\(X≠none->m=.map none)/\Below W'.heap.size W' w'
theorem CkC.from{so:Option Addr}{cap:Nat}{rs:List Rr}{X:Option (Int ⊕ (Int×Int))}(h:CkC so n cap rs X W)(hW:Below W.heap.size W W'):CkC so n cap rs X W':=fun W2 h2=>h W2 (hW.trans (h2.mono hW.size))
open Go.Extern.Stop Go.Stop Go.Extern
def xOf(rs:List Rr):Option (Int ⊕ (Int×Int)):=(ckR rs).map .inr
theorem z0y(so:Option Addr)(n cap:Nat)(rs:List Rr)(B:Nat)(w:World)(hz:RgZ rs)(h:Qg w B so n rs)(hB:B<=w.heap.size)(hTg:3<w.heap.size)(hok:okG rs=true)(hl:∀x∈rs,(rfT x.2.1).length<=8192)
  (hR:∀W:World,Below w.heap.size w W->Calls prog 82 #[.agg #[.slice so n cap]] W fun e w'=>e=.returned .nilIface/\Below W.heap.size W w'):CkX rs (xOf rs)/\CkC so n cap rs (xOf rs) w:=by
 have hC:∀W:World,Below w.heap.size w W->Calls prog 56 #[.agg #[.slice so n cap]] W (CkP W rs):=fun W hW=>callsIn_wide.1 (y2e so n cap rs W ((h.below (hW.mono hB)).upto (Nat.le_trans hB hW.size)) (by have:=hW.size;omega) (hid hz) (hid fun W' hW'=>hR W' (hW.trans (hW'.mono hW.size))) 0)
 unfold xOf;cases hk:ckR rs with
 |none=>
  refine⟨⟨hok,hk,hl⟩,fun W hW=>(hC W hW).mono fun e w' he=> ?_⟩;obtain⟨hb,⟨c,p,g,h1,_⟩|⟨M,_,h2,h3,h4⟩⟩:=he
  ·rw[hk]at h1;cases h1
  ·exact⟨_,_,h2,rfl,fun _=>⟨M,rfl,h3,h4⟩,fun h=>absurd rfl h,hb⟩
 |some q=>
  refine⟨⟨hok,hk⟩,fun W hW=>(hC W hW).mono fun e w' he=> ?_⟩;obtain⟨hb,⟨c,p,g,h1,h2,h3,h4⟩|⟨M,h1,_⟩⟩:=he
  ·rw[hk]at h1
   cases h1;exact⟨_,_,h2,⟨g,rfl,h3,h4⟩,(fun h=>by cases h),fun _=>rfl,hb⟩
  ·rw[hk]at h1;cases h1
theorem y2v{S:ByteArray}{rs:List Rl}(hS:S.size<=8192)(hp:Uq S=.inr rs)(h1:sz (pR qT cT rs)<=8192)(h2:dR rs<=24)(B g n cap:Nat)(W:World)(hr:RoR B (.slice (some ⟨g,0,none⟩) n cap) rs W)(hT:TabIs W):
  Qg W W.heap.size (some ⟨g,0,none⟩) n (toG rs)/\RgZ (toG rs)/\CkX (toG rs) (xOf (toG rs))/\CkC (some ⟨g,0,none⟩) n cap (toG rs) (xOf (toG rs)) W:=by
 have hx:∀x∈rs,Ruk Nmq x:=fun x hx=>(Wg hp x hx).1
 have hl:=z0h hp;have hi:=z4g hr (z0i (z4f hS hp)) hl.1;have hz:=(Lv (Dj rs) hx).2;have hT':=hT.lt;refine⟨hi,hz,z0y _ n cap (toG rs) W.heap.size W hz hi L0q hT' (z0j (Dj rs) hx hl.2 hl.1) (fun x hx'=>Nat.le_trans (Lm (Dj rs) hx x hx') h1) fun W' hW'=>Lp _ n cap (.string (cat (pR qT cT rs))) _ W' (hid fun W2 hW2=> ?_)⟩;have hb:Below W.heap.size W W2:=hW'.trans (hW2.mono hW'.size);have:=y1f hS hp B g n cap W2 (hr.below hb) (hT.below hb hT.lt);rw[Cw h1 h2]at this;exact this
theorem z4K(zs:List Int):∀(i:Nat) (hi:i<zs.length),zs[i]∈Lib.compact zs
 |0,hi=>by
  unfold Lib.compact Lib.compactUpTo;refine List.mem_map.2 ⟨0,List.mem_filter.2 ⟨List.mem_range.2 hi,Lib.keeps_lt_one _ 0 (by omega)⟩,?_⟩;rw[getElem!_pos _ 0 (by simpa using hi)];simp
 |i+1,hi=>by
  by_cases hk:Lib.keeps zs.toArray (i+1)=true
  ·unfold Lib.compact Lib.compactUpTo
   refine List.mem_map.2 ⟨i+1,List.mem_filter.2 ⟨List.mem_range.2 hi,hk⟩,?_⟩;rw[getElem!_pos _ (i+1) (by simpa using hi)];simp
  ·have e:zs.toArray[i+1]! =zs.toArray[i]! :=Classical.byContradiction fun hne=>hk (Lib.keeps_pos (by simpa using hne))
   rw[getElem!_pos _ (i+1) (by simpa using hi),getElem!_pos _ i (by simp;omega)]at e;have e':zs[i+1]=zs[i]:=by simpa using e
   rw[e'];exact z4K zs i (by omega)
theorem z4L(h:x∈zs):x∈Lib.compact zs:=by
 obtain⟨i,hi,rfl⟩:=List.getElem_of_mem h;exact z4K zs i hi
theorem y2w{l:List ByteArray}{y:Rr}:x∈usR l y↔x∈ixL l (rfT y.2.1):=⟨fun h=>(Ew _).mem_iff.1 (z0x h),fun h=>z4L ((Ew _).mem_iff.2 h)⟩
end Go.Proofs.YtgmcjddjdidpjaaGreatDoor
