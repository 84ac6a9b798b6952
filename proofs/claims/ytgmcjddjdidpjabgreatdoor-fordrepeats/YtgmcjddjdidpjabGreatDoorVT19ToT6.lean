/- Lemmas for the last text. Conditions: those that each names. -/
import Derived.Test.YtgmcjddjdidpjabGreatDoorVT13ToT15
import Derived.Test.YtgmcjddjdidpjabGreatDoorVO2ToRL
import Derived.Test.YtgmcjddjdidpjabGreatDoorVO6ToS4
set_option linter.unusedVariables false
set_option maxRecDepth 100000
set_option maxHeartbeats 8000000
namespace Go.Proofs.YtgmcjddjdidpjabGreatDoor
open Go.Proofs.Tryz
open Go.RowKit Go.Shelf Go.Maps
variable {W W':World} {bB to:Nat}
theorem z5i{gB nB:Nat}{v0 v1 v2:Value}(h:W.cell? ⟨bB,0,none⟩=some v0/\W.cell? ⟨gB,0,none⟩=some v1/\W.cell? ⟨nB,1,none⟩=some v2)(hb:Below W.heap.size W W'):W'.cell? ⟨bB,0,none⟩=some v0/\W'.cell? ⟨gB,0,none⟩=some v1/\W'.cell? ⟨nB,1,none⟩=some v2:=by
 obtain⟨h0,h1,h2⟩:=h;have e:∀{a:Addr} {u:Value},W.cell? a=some u->W'.cell? a=some u:=fun{a u} h=>(hb.cell (p:=a) (World.block_lt_of_cell? W _ h)).trans h
 exact⟨e h0,e h1,e h2⟩
theorem y4l{gB nB:Nat}{v0 v1 v2:Value}{row:Option Nat}(h:W.cell? ⟨bB,0,none⟩=some v0/\W.cell? ⟨gB,0,none⟩=some v1/\W.cell? ⟨nB,1,none⟩=some v2)(n0:some bB≠row)(n1:some gB≠row)(n2:some nB≠row)(hg:W.grownBy W' row):W'.cell? ⟨bB,0,none⟩=some v0/\W'.cell? ⟨gB,0,none⟩=some v1/\W'.cell? ⟨nB,1,none⟩=some v2:=by
 obtain⟨h0,h1,h2⟩:=h;have e:∀{a:Addr} {u:Value},some a.block≠row->W.cell? a=some u->W'.cell? a=some u:=fun{a u} hne h=>(hg.cell_far a (World.block_lt_of_cell? W _ h) hne).trans h
 exact⟨e n0 h0,e n1 h1,e n2 h2⟩
theorem y4m(a b c:Bool)(w:World):(Instr.field 123 (.agg #[.bool a,.bool b,.bool c]) 0).run prog w=.ok (.bool a) w:=by kernel_rfl
def Fv(bB:Nat)(W W':World):Prop:=W.heap.size<=W'.heap.size/\∀b cur t,b≠bB->t≠3->W.heap[b]? =some (.cells cur t)->W'.heap[b]? =some (.cells cur t)
theorem Fv.refl(bB:Nat)(W:World):Fv bB W W:=⟨Nat.le_refl _,fun _ _ _ _ _ h=>h⟩
theorem Fv.trans{a b c:World}(h:Fv bB a b)(k:Fv bB b c):Fv bB a c:=⟨Nat.le_trans h.1 k.1,fun i cur t h1 h2 h3=>k.2 i cur t h1 h2 (h.2 i cur t h1 h2 h3)⟩
theorem Fv.below(h:Below W.heap.size W W'):Fv bB W W':=⟨h.size,fun b cur t _ _ hb=>(h.block b (Qz hb)).trans hb⟩
structure Bv (w0:World) (bB:Nat) (zs:List Int) (W:World):Prop where
 be:Below w0.heap.size w0 W
 bx:∃v,W.heap[bB]? =some (.cells #[v] 128)/\W.ownsRow w0.heap.size 3 1 v zs.length (zs.map (Value.int .i64))
theorem Bv.below{w0:World}{zs:List Int}(h:Bv w0 bB zs W)(hb:Below W.heap.size W W'):Bv w0 bB zs W':=by
 obtain⟨h1,v,h2,h3⟩:=h;exact⟨h1.trans (hb.mono h1.size),v,(hb.block _ (Qz h2)).trans h2,Yg h3 hb⟩
def VsQ(w0:World)(bB:Nat)(zs:List Int)(W:World)(e:Ending)(w':World):Prop:=e=.returned (.tuple #[])/\Bv w0 bB zs w'/\Fv bB W w'
theorem y4n(base bB gB:Nat)(so:Option Addr)(n cap:Nat)(k:Int)(T:ByteArray)(a b c d p:Int)(so1:Option Addr)(n1 cap1:Nat)(j:Nat)(xs:List Value)(sa:Option Addr)(sca:Nat)(fd:Int)(W:World)(hb:W.heap[bB]? =some (.cells #[.slice sa j sca] 128))(ho:W.ownsRow base 3 1 (.slice sa j sca) j xs)(hg:W.heap[gB]? =some (.cells #[.slice so n cap] 24))(hj:j<=1048576)(hbs:base<=W.heap.size)
  (HF:Hid (∀W',Below W.heap.size W W'->Calls prog 66 #[.agg #[.slice so n cap],.string T] W' fun e w'=>e=.returned (.int .i64 fd)/\Below W'.heap.size W' w')):
  Calls prog 65 #[.agg #[.int .i64 k,.string T,.int .u64 a,.int .u64 b,.int .u64 c,.int .u64 d,.slice so1 n1 cap1,.int .i64 p],.pointer (some ⟨bB,0,none⟩),.pointer (some ⟨gB,0,none⟩)] W fun e w'=>e=.returned (.tuple #[])/\∃W4 w6 g6 cap6,Below W.heap.size W W4/\W4.grownBy w6 (Value.slice sa j sca).ownBlock/\w'=w6.setCell ⟨bB,0,none⟩ (.slice (some ⟨g6,0,none⟩) (j+1) cap6)/\w6.ownsRow base 3 1 (.slice (some ⟨g6,0,none⟩) (j+1) cap6) (j+1) (xs++[.int .i64 fd])/\w6.heap[bB]? =some (.cells #[.slice sa j sca] 128):=by
 obtain⟨i0,hi0,hz0,hz1,hz2⟩:=info_parts Tryz.infoInt;obtain⟨W1,hW1⟩:∃W1,W1=W.alloc (.cells #[.int .i64 k,.string T,.int .u64 a,.int .u64 b,.int .u64 c,.int .u64 d,.slice so1 n1 cap1,.int .i64 p] 30):=⟨_,rfl⟩;have HB1:Hid (Below W.heap.size W W1.drew):=by rw[hW1];exact((Below.refl _ W).alloc L0q _).drew
 have hs1:W1.drew.heap.size=W.heap.size+1:=by rw[hW1];exact World.size_alloc _ _
 have hN1:W1.drew.heap[W.heap.size]? =some (.cells #[.int .i64 k,.string T,.int .u64 a,.int .u64 b,.int .u64 c,.int .u64 d,.slice so1 n1 cap1,.int .i64 p] 30):=by rw[hW1];exact Qx W _ rfl
 obtain⟨nB,hnB⟩:∃nB,nB=W.heap.size:=⟨_,rfl⟩;rw[<-hnB]at hN1;have lb:=Qz hb;have HS0:Hid (W1.drew.cell? ⟨bB,0,none⟩=some (.slice sa j sca)/\W1.drew.cell? ⟨gB,0,none⟩=some (.slice so n cap)/\W1.drew.cell? ⟨nB,1,none⟩=some (.string T)):=⟨(Qj ((HB1.out.block _ lb).trans hb)).1,(Qj ((HB1.out.block _ (Qz hg)).trans hg)).1,(Qv hN1).1.2.1⟩;have HSz:Hid (∀w3,Below W1.drew.heap.size W1.drew w3->base<=w3.heap.size/\bB<w3.heap.size):=fun w3 h=>by
  have:=h.size;constructor<;>omega
 have HSb3:Hid (∀w3,Below W1.drew.heap.size W1.drew w3->w3.heap[bB]? =some (.cells #[.slice sa j sca] 128)):=fun w3 h=>(h.block _ (by omega)).trans ((HB1.out.block _ lb).trans hb)
 have HOw:Hid (∀w3,Below W1.drew.heap.size W1.drew w3->w3.ownsRow base 3 1 (.slice sa j sca) j xs):=fun w3 h=>Yg (Yg ho HB1.out) h
 have HNe:Hid (some bB≠(Value.slice sa j sca).ownBlock):=fun e=>Dz ho hb (fun cur e=>by cases e) e.symm
 have HNg:Hid (some gB≠(Value.slice sa j sca).ownBlock):=fun e=>Dz ho hg (fun cur e=>by cases e) e.symm
 have HNn:Hid (some nB≠(Value.slice sa j sca).ownBlock):=fun e=>by have:=(ho.lt _ e.symm).2;omega
 have m1:j+1<=maxLen:=by unfold maxLen;omega
 have m2:(j+1)*8<=140737488355328:=by omega
 have HHs1:Hid (W.heap.size<=W1.drew.heap.size):=HB1.out.size;clear hb ho hg hN1 lb hbs hs1;go_enter func65,ntmps65
 go_wp2_with fail
 rw[<-hW1,<-hnB];clear hW1 hnB;refine Vq 7 (fun W:World=>W.cell? ⟨bB,0,none⟩=some (.slice sa j sca)/\W.cell? ⟨gB,0,none⟩=some (.slice so n cap)/\W.cell? ⟨nB,1,none⟩=some (.string T)) (by kernel_rfl) HS0.out (fun hHeld=> ?_)
 (refine Qq (i:=0) (oi:=({dst:=some 4,op:=Op.load 128 (Operand.tmp 1),type:=128,pos:="sound.go:98",after:=#[],guard:=none}:Oper)) (v:= ?_) rfl (by kernel_rfl) (by kernel_rfl) (by kernel_rfl) (fun _ _ _ h=>h) (Or.inl ⟨by rfl,?_⟩) hHeld ?_;rotate_left;(intro w hSw;(try dsimp only at hSw);go_simp;(try with_reducible rfl));skip)
 (try simp only[Act.put,List.setIfInBounds_toArray,List.set_cons_zero,List.set_cons_succ])
 (refine Qq (i:=1) (oi:=({dst:=some 5,op:=Op.load 24 (Operand.tmp 2),type:=24,pos:="sound.go:98",after:=#[],guard:=none}:Oper)) (v:= ?_) rfl (by kernel_rfl) (by kernel_rfl) (by kernel_rfl) (fun _ _ _ h=>h) (Or.inl ⟨by rfl,?_⟩) hHeld ?_;rotate_left;(intro w hSw;(try dsimp only at hSw);go_simp;(try with_reducible rfl));skip)
 (try simp only[Act.put,List.setIfInBounds_toArray,List.set_cons_zero,List.set_cons_succ])
 (refine Qq (i:=2) (oi:=({dst:=some 6,op:=Op.fieldAddr 30 (Operand.tmp 3) 1,type:=0,pos:="sound.go:98",after:=#[],guard:=none}:Oper)) (v:= ?_) rfl (by kernel_rfl) (by kernel_rfl) (by kernel_rfl) (fun _ _ _ h=>h) (Or.inl ⟨by rfl,?_⟩) hHeld ?_;rotate_left;(intro w hSw;(try dsimp only at hSw);go_simp;(try with_reducible rfl));skip)
 (try simp only[Act.put,List.setIfInBounds_toArray,List.set_cons_zero,List.set_cons_succ])
 (refine Qq (i:=3) (oi:=({dst:=some 7,op:=Op.load 9 (Operand.tmp 6),type:=9,pos:="sound.go:98",after:=#[{on:=2,ground:=Ground.data}],guard:=none}:Oper)) (v:= ?_) rfl (by kernel_rfl) (by kernel_rfl) (by kernel_rfl) (fun _ _ _ h=>h) (Or.inl ⟨by rfl,?_⟩) hHeld ?_;rotate_left;(intro w hSw;(try dsimp only at hSw);go_simp;(try with_reducible rfl));skip)
 (try simp only[Act.put,List.setIfInBounds_toArray,List.set_cons_zero,List.set_cons_succ])
 (refine Zf (i:=4) (o:=({dst:=some 8,op:=Op.call {callee:=Callee.value (Operand.func 66),args:=#[Operand.tmp 5,Operand.tmp 7],argTypes:=#[24,9]},type:=3,pos:="sound.go:98",after:=#[{on:=1,ground:=Ground.data},{on:=3,ground:=Ground.data}],guard:=none}:Oper)) (by kernel_rfl) rfl (fun K hK=> ?_);go_simp;refine(HF.out _ HB1.out).mono ?_;rintro e w3 ⟨rfl,HB3⟩;go_simp;replace hHeld:=z5i hHeld HB3;refine hK.out _ _ hHeld ?_;clear hK K)
 (try simp only[Act.put,List.setIfInBounds_toArray,List.set_cons_zero,List.set_cons_succ])
 (refine Zf (i:=5) (o:=({dst:=some 9,op:=Op.buildSlice 128 1 #[(0,Operand.tmp 8)],type:=128,pos:="sound.go:98",after:=#[{on:=4,ground:=Ground.data}],guard:=none}:Oper)) (by kernel_rfl) rfl (fun K hK=> ?_);go_simp;replace hHeld:=z5i hHeld ((Below.refl _ w3).alloc L0q (.cells #[.int .i64 fd] 3));refine hK.out _ _ hHeld ?_;clear hK K)
 (try simp only[Act.put,List.setIfInBounds_toArray,List.set_cons_zero,List.set_cons_succ])
 (refine Zf (i:=6) (o:=({dst:=some 10,op:=Op.call {callee:=Callee.builtin Builtin.append,args:=#[Operand.tmp 4,Operand.tmp 9],argTypes:=#[128,128]},type:=128,pos:="sound.go:98",after:=#[{on:=0,ground:=Ground.data},{on:=5,ground:=Ground.data},{on:=4,ground:=Ground.chain}],guard:=none}:Oper)) (by kernel_rfl) rfl (fun K hK=> ?_);refine step_append_lies _ rfl (.tmp 4) (.tmp 9) 128 rfl base 3 i0 (.int .i64 0) 1 8 Tryz.underlying128 hi0 hz0 hz1 hz2 rfl (by decide) (.slice sa j sca) j xs (by rfl) ((HOw.out w3 HB3).alloc _) ⟨w3.heap.size,0,none⟩ 1 1 [.int .i64 fd] (by rfl) rfl (cell_one_new _ _ _) (by simp[Value.oneCell']) (by decide) m1 m2 (by rw[World.size_alloc];have:=HSz.out w3 HB3;omega) _ rfl ?_;intro g6 cap6 w6 hown6 hgr6 hat6 hlt6;have hS6:=((hgr6.block bB (by rw[World.size_alloc];have:=HSz.out w3 HB3;omega) HNe.out).trans (Below.heap_alloc _ _ _ (HSz.out w3 HB3).2)).trans (HSb3.out w3 HB3);replace hHeld:=y4l hHeld HNe.out HNg.out HNn.out hgr6;refine hK.out _ _ hHeld ?_;clear hK K)
 (try simp only[Act.put,List.setIfInBounds_toArray,List.set_cons_zero,List.set_cons_succ])
 refine Nc (o:=({dst:=none,op:=Op.store 128 (Operand.tmp 1) (Operand.tmp 10),type:=0,pos:="sound.go:98",after:=#[{on:=6,ground:=Ground.data},{on:=6,ground:=Ground.chain},{on:=0,ground:=Ground.phase},{on:=1,ground:=Ground.phase},{on:=2,ground:=Ground.phase},{on:=3,ground:=Ground.phase},{on:=4,ground:=Ground.phase},{on:=5,ground:=Ground.phase},{on:=6,ground:=Ground.phase}],guard:=none}:Oper)) (by kernel_rfl) (by kernel_rfl) rfl (fun K hK=> ?_);obtain⟨s0,s1⟩:=Qj hS6;have ls:=Qz hS6;clear hHeld
 go_simp
 refine hK.out _ _ ?_;clear hK K;have HEnd:Hid (∃W4 w6' g6' cap6',Below W.heap.size W W4/\W4.grownBy w6' (Value.slice sa j sca).ownBlock/\w6.setCell ⟨bB,0,none⟩ (.slice (some ⟨g6,0,none⟩) (j+1) cap6)=w6'.setCell ⟨bB,0,none⟩ (.slice (some ⟨g6',0,none⟩) (j+1) cap6')/\w6'.ownsRow base 3 1 (.slice (some ⟨g6',0,none⟩) (j+1) cap6') (j+1) (xs++[.int .i64 fd])/\w6'.heap[bB]? =some (.cells #[.slice sa j sca] 128)):=by
  have h1:=HB1.out.trans (HB3.mono HHs1.out);exact⟨_,w6,g6,cap6,h1.alloc h1.size _,hgr6,rfl,hown6,hS6⟩
 clear hgr6 hown6 hat6 hlt6 hS6 HB3 s0 s1
 go_wp2_with fail
 first|refine bodyPost_end (results_none rfl _ _ _) rfl ?_ |refine bodyPost_ret (results_none rfl _ _ _) rfl ?_
 exact⟨rfl,HEnd.out⟩
theorem y4o(w0:World)(bB gB:Nat)(so:Option Addr)(n cap:Nat)(rs:List Rr)(B:Nat)(hB:B<=w0.heap.size)(hg:w0.heap[gB]? =some (.cells #[.slice so n cap] 24))(hr:Qy w0 B so n rs)(hbB:w0.heap.size<=bB)(k:Int)(T:ByteArray)(a b c d p:Int)(so1:Option Addr)(n1 cap1:Nat)(zs:List Int)(W:World)(hV:Bv w0 bB zs W)(hz:zs.length<=1048576):
  Calls prog 65 #[.agg #[.int .i64 k,.string T,.int .u64 a,.int .u64 b,.int .u64 c,.int .u64 d,.slice so1 n1 cap1,.int .i64 p],.pointer (some ⟨bB,0,none⟩),.pointer (some ⟨gB,0,none⟩)] W (VsQ w0 bB (zs++[fdI T (nmL rs)]) W):=by
 obtain⟨hbe,v,h1,h2⟩:=hV;obtain⟨sa,sca,rfl⟩:=Hj h2;refine(y4n w0.heap.size bB gB so n cap k T a b c d p so1 n1 cap1 zs.length _ sa sca (fdI T (nmL rs)) W h1 h2 ((hbe.block _ (Qz hg)).trans hg) hz hbe.size (hid fun W' hW'=> ?_)).mono fun e w' he=> ?_
 ·have hb:=hbe.trans (hW'.mono hbe.size)
  exact z3Y T so n cap rs B W' (hr.below (hb.mono hB)) (Nat.le_trans hB hb.size)
 ·obtain⟨rfl,W4,w6,g6,cap6,q1,q2,rfl,q4,q5⟩:=he
  have hlo:∀g,(Value.slice sa zs.length sca).ownBlock=some g->w0.heap.size<=g/\g<W.heap.size:=fun g e=>h2.lt g e
  have hb4:=hbe.trans (q1.mono hbe.size);have hb6:Below w0.heap.size w0 w6:=hb4.grown q2 hb4.size (fun g e=>(hlo g e).1);refine⟨rfl,⟨hb6.setCell (p:=⟨bB,0,none⟩) hbB _,_,Zz q5 0 _,?_⟩,?_,fun b cur t hb ht hc=> ?_⟩
  ·have:=q4.kept (grownBy_setCell' w6 bB (.slice (some ⟨g6,0,none⟩) (zs.length+1) cap6)) (.inr (Dz q4 q5 (fun cur e=>by cases e)))
   rw[List.length_append,List.map_append];exact this
  ·rw[World.size_setCell]
   exact Nat.le_trans q1.size q2.size
  ·have hne:some b≠(Value.slice sa zs.length sca).ownBlock:=fun e=>by
    refine Dz h2 hc (fun cur' e2=> ?_) e.symm;injection e2 with _ e3 _
    exact ht e3
   exact(Below.heap_setCell _ _ _ _ hb).trans ((q2.block b (Nat.lt_of_lt_of_le (Qz hc) q1.size) hne).trans ((q1.block b (Qz hc)).trans hc))
theorem y4p{K:ByteArray->Ot}{sq:Bool}{s:List RT}{j:Nat}(hj:j<s.length):fbL K sq (s.drop j)=fbT K s[j]++(if sq&& !(ofT K s[j]).1 then []else fbL K sq (s.drop (j+1))):=by
 rw[List.drop_eq_getElem_cons hj,fbL]
theorem y4q(w0:World)(bB gB:Nat)(so0:Option Addr)(n0 cap0:Nat)(rs:List Rr)(K:ByteArray->Ot)(HbB:Hid (w0.heap.size<=bB))(T:ByteArray)(a b c d p:Int)(so1:Option Addr)(cap1:Nat)(zs:List Int)(W:World)(HV:Hid (Bv w0 bB zs W))
  (HVis:Hid (∀W',Bv w0 bB zs W'->Calls prog 65 #[.agg #[.int .i64 5,.string T,.int .u64 a,.int .u64 b,.int .u64 c,.int .u64 d,.slice so1 0 cap1,.int .i64 p],.pointer (some ⟨bB,0,none⟩),.pointer (some ⟨gB,0,none⟩)] W' (VsQ w0 bB (zs++[fdI T (nmL rs)]) W'))):
  Calls prog 64 #[.agg #[.slice so0 n0 cap0],.agg #[.int .i64 5,.string T,.int .u64 a,.int .u64 b,.int .u64 c,.int .u64 d,.slice so1 0 cap1,.int .i64 p],.func (.func 65) #[] #[.pointer (some ⟨bB,0,none⟩),.pointer (some ⟨gB,0,none⟩)]] W (VsQ w0 bB (zs++[fdI T (nmL rs)]) W):=by
 obtain⟨W1,hW1⟩:∃W1,W1=(W.alloc (.cells #[.slice so0 n0 cap0] 24)).alloc (.cells #[.int .i64 5,.string T,.int .u64 a,.int .u64 b,.int .u64 c,.int .u64 d,.slice so1 0 cap1,.int .i64 p] 30):=⟨_,rfl⟩;have hB1:Below W.heap.size W W1:=by rw[hW1];exact((Below.refl _ W).alloc L0q _).alloc (by simp) _
 obtain⟨sB,hsB⟩:∃sB,sB=W.heap.size:=⟨_,rfl⟩;obtain⟨nB,hnB⟩:∃nB,nB=W.heap.size+1:=⟨_,rfl⟩;have HS1:Hid (W1.heap[sB]? =some (.cells #[.slice so0 n0 cap0] 24)):=by rw[hW1,hsB];exact(Below.heap_alloc _ _ _ (by simp)).trans (Qx _ _ (by simp))
 have HN1:Hid (W1.heap[nB]? =some (.cells #[.int .i64 5,.string T,.int .u64 a,.int .u64 b,.int .u64 c,.int .u64 d,.slice so1 0 cap1,.int .i64 p] 30)):=by rw[hW1,hnB];exact Qx _ _ (by simp)
 have hlb:bB<W.heap.size:=by obtain⟨v,h1,_⟩:=HV.out.bx;exact Qz h1
 have hsb:sB≠bB:=by omega
 have hnb:nB≠bB:=by omega
 have HV1:=hid (HV.out.below hB1);have HF1:Hid (Fv bB W W1):=Fv.below hB1;clear hB1 hlb;have HS:=hid (HVis.out W1 HV1.out);clear HVis;go_enter func64,ntmps64
 go_wp2_with fail
 rw[<-hW1];refine HS.out.mono ?_;clear HS hW1;rintro e w2 ⟨rfl,HVx,HFx⟩;have HN2:=hid (HFx.2 _ _ _ hnb (by decide) HN1.out);have HV2:=hid HVx;have HF2:=hid (HF1.out.trans HFx);obtain⟨⟨y0,y1,y2,y3,y4,y5,y6,y7⟩,_⟩:=Qv HN2.out;have ln:=Qz HN2.out;rw[<-hnB];clear HVx HFx HN1 HS1 HV1 HF1 hsB hnB
 go_wp2_with fail
 go_loopw [17] (fun i wr=>i=.int .i64 0/\Hid (Bv w0 bB (zs++[fdI T (nmL rs)]) wr)/\Hid (Fv bB W wr)) (fun i _=>0)
 case atStart=>exact⟨rfl,HV2,HF2⟩
 case round=>
  obtain⟨rfl,HVj,HFj⟩:=hrel;clear HV2 HF2 y0 y1 y2 y3 y4 y5 y6 y7 ln HN2
  go_wp2_with fail
  first|refine bodyPost_end (results_none rfl _ _ _) rfl ?_ |refine bodyPost_ret (results_none rfl _ _ _) rfl ?_
  exact⟨rfl,HVj.out,HFj.out⟩
theorem y4r(w0:World)(bB gB:Nat)(so0:Option Addr)(n0 cap0:Nat)(rs:List Rr)(K:ByteArray->Ot)(HbB:Hid (w0.heap.size<=bB))(k:Int)(hk:k≠5)(T:ByteArray)(a b c d p:Int)(so1:Option Addr)(n1 cap1:Nat)(s:List RT)(zs:List Int)(W:World)(HV:Hid (Bv w0 bB zs W))(hn:n1<=9223372036854775807)(HN:Hid (n1=s.length))
  (HL:Hid (zs.length+(fbL K (decide (k=6)) s).length<=1048576))
  (HO:Hid (∀j (hj:j<s.length),∃g o,so1=some ⟨g,o,none⟩/\g<w0.heap.size/\∃k1 T1 a1 b1 c1 d1 so2 n2 cap2 p1,Rc w0 g (o+j*8) k1 T1 a1 b1 c1 d1 (.slice so2 n2 cap2) p1/\
    (∀(ys:List Int) (W':World),Bv w0 bB ys W'->ys.length+(fbT K s[j]).length<=1048576->Calls prog 64 #[.agg #[.slice so0 n0 cap0],.agg #[.int .i64 k1,.string T1,.int .u64 a1,.int .u64 b1,.int .u64 c1,.int .u64 d1,.slice so2 n2 cap2,.int .i64 p1],.func (.func 65) #[] #[.pointer (some ⟨bB,0,none⟩),.pointer (some ⟨gB,0,none⟩)]] W' (VsQ w0 bB (ys++(fbT K s[j]).map fun x=>fdI x (nmL rs)) W'))/\
    ∀W':World,Below w0.heap.size w0 W'->Calls prog 61 #[.agg #[.slice so0 n0 cap0],.agg #[.int .i64 k1,.string T1,.int .u64 a1,.int .u64 b1,.int .u64 c1,.int .u64 d1,.slice so2 n2 cap2,.int .i64 p1]] W' fun e w'=>e=.returned (ov (ofT K s[j]))/\Below W'.heap.size W' w')):
  Calls prog 64 #[.agg #[.slice so0 n0 cap0],.agg #[.int .i64 k,.string T,.int .u64 a,.int .u64 b,.int .u64 c,.int .u64 d,.slice so1 n1 cap1,.int .i64 p],.func (.func 65) #[] #[.pointer (some ⟨bB,0,none⟩),.pointer (some ⟨gB,0,none⟩)]] W (VsQ w0 bB (zs++(fbL K (decide (k=6)) s).map fun x=>fdI x (nmL rs)) W):=by
 have hfld:=y4m;have hk5:(k == 5)=false:=by simp[hk]
 have hk5d:decide (k=5)=false:=by simp[hk]
 obtain⟨W1,hW1⟩:∃W1,W1=(W.alloc (.cells #[.slice so0 n0 cap0] 24)).alloc (.cells #[.int .i64 k,.string T,.int .u64 a,.int .u64 b,.int .u64 c,.int .u64 d,.slice so1 n1 cap1,.int .i64 p] 30):=⟨_,rfl⟩;have hB1:Below W.heap.size W W1:=by rw[hW1];exact((Below.refl _ W).alloc L0q _).alloc (by simp) _
 obtain⟨sB,hsB⟩:∃sB,sB=W.heap.size:=⟨_,rfl⟩;have HS1:Hid (W1.heap[sB]? =some (.cells #[.slice so0 n0 cap0] 24)):=by rw[hW1,hsB];exact(Below.heap_alloc _ _ _ (by simp)).trans (Qx _ _ (by simp))
 have HN1:Hid (W1.heap[sB+1]? =some (.cells #[.int .i64 k,.string T,.int .u64 a,.int .u64 b,.int .u64 c,.int .u64 d,.slice so1 n1 cap1,.int .i64 p] 30)):=by rw[hW1,hsB];exact Qx _ _ (by simp)
 have hlb:bB<W.heap.size:=by obtain⟨v,h1,_⟩:=HV.out.bx;exact Qz h1
 have hsb:sB≠bB:=by omega
 have hnb:sB+1≠bB:=by omega
 have HV1:=hid (HV.out.below hB1);have HF1:Hid (Fv bB W W1):=Fv.below hB1;clear hB1 hlb;go_enter func64,ntmps64
 go_wp2_with fail
 rw[<-hW1,<-hsB];clear hW1 hsB
 go_loopw [17] (fun i wr=>∃(j:Nat) (acc:List ByteArray),i=.int .i64 j/\j<=n1/\Hid (Bv w0 bB (zs++acc.map fun x=>fdI x (nmL rs)) wr)/\Hid (Fv bB W1 wr)/\Hid (fbL K (decide (k=6)) s=acc++fbL K (decide (k=6)) (s.drop j))) (fun i _=>n1-(intOf i).toNat)
 case atStart=>exact⟨0,[],rfl,Nat.zero_le _,by rw[List.map_nil,List.append_nil];exact HV1,Fv.refl _ _,by rw[List.drop_zero,List.nil_append];rfl⟩
 case round=>
  obtain⟨j,acc,rfl,hj,HVj,HFj,HAj⟩:=hrel;by_cases hjn:j<n1
  ·have hjI:(j:Int)<(n1:Int):=by omega
   have a0:decide ((j:Int)<(n1:Int))=true:=by simp;omega
   have hjs:j<s.length:=by rw[<-HN.out];exact hjn
   obtain⟨g,o,rfl,hg,k1,T1,a1,b1,c1,d1,so2,n2,cap2,p1,hrc,hvis,hout⟩:=HO.out j hjs;obtain⟨z0,z1,z2,z3,z4,z5,z6,z7⟩:=hrc.below HVj.out.be hg;have hgl:g<wr.heap.size:=World.block_lt_of_cell? wr _ z0;have hbq:=(Below.refl _ wr).alloc L0q (.cells #[.int .i64 k1,.string T1,.int .u64 a1,.int .u64 b1,.int .u64 c1,.int .u64 d1,.slice so2 n2 cap2,.int .i64 p1] 30);have HVa:=hid (HVj.out.below hbq);have HFa:=hid (HFj.out.trans (Fv.below hbq));have hSa:=HFa.out.2 _ _ _ hsb (by decide) HS1.out;have hNa:=HFa.out.2 _ _ _ hnb (by decide) HN1.out;obtain⟨g0,_⟩:=Qj hSa;have lg:=Qz hSa;have HSa:=hid hSa;have HNa:=hid hNa;have hAl:=HAj.out;rw[y4p hjs]at hAl;have hlen:(zs++acc.map fun x=>fdI x (nmL rs)).length+(fbT K s[j]).length<=1048576:=by
    have h1:=congrArg List.length hAl;have h2:=HL.out;simp only[List.length_append,List.length_map]at h1 ⊢;omega
   have HS:=hid (hvis _ _ HVa.out hlen);have HOut:=hid hout;have HAl:=hid hAl;have hnw:∀W',Fv bB wr W'->True:=fun _ _=>trivial
   have HXb:Hid ((wr.alloc (.cells #[.int .i64 k1,.string T1,.int .u64 a1,.int .u64 b1,.int .u64 c1,.int .u64 d1,.slice so2 n2 cap2,.int .i64 p1] 30)).heap[wr.heap.size]? =some (.cells #[.int .i64 k1,.string T1,.int .u64 a1,.int .u64 b1,.int .u64 c1,.int .u64 d1,.slice so2 n2 cap2,.int .i64 p1] 30)):=hid (Qx wr _ rfl);have hxb:wr.heap.size≠bB:=by obtain⟨v,h1,_⟩:=HVj.out.bx;have:=Qz h1;omega
   clear hvis hout hrc hSa hNa hAl hlen hbq hnw
   go_wp2_with fail
   refine HS.out.mono ?_;clear HS;rintro e w3 ⟨rfl,HVx,HFx⟩;have hS3:=HFx.2 _ _ _ hsb (by decide) HSa.out;have hN3:=HFx.2 _ _ _ hnb (by decide) HNa.out;have hX3:=HFx.2 _ _ _ hxb (by decide) HXb.out;have HV3:=hid HVx;have HF3:=hid (HFa.out.trans HFx);obtain⟨t0,_⟩:=Qj hS3;obtain⟨⟨y0,y1,y2,y3,y4,y5,y6,y7⟩,_⟩:=Qv hN3;obtain⟨⟨x0,x1,x2,x3,x4,x5,x6,x7⟩,_⟩:=Qv hX3;have ls:=Qz hS3;have ln:=Qz hN3;have lx:=Qz hX3;have HO3:=hid (HOut.out w3 HVx.be);have ez:∀A:List ByteArray,zs++acc.map (fun x=>fdI x (nmL rs))++A.map (fun x=>fdI x (nmL rs))=zs++(acc++A).map fun x=>fdI x (nmL rs):=fun A=>by rw[List.map_append,List.append_assoc]
   rw[ez]at HV3;have HEz:=hid ez;clear HVx HFx hS3 hN3 hX3 HOut ez;by_cases hk6:k=6
   ·have q6:(k == 6)=true:=by simp[hk6]
    have q6d:decide (k=6)=true:=by simp[hk6]
    obtain⟨⟨r1,r2,r3⟩,hr⟩:∃r,r=ofT K s[j]:=⟨_,rfl⟩;rw[<-hr]at HO3;have HR:=hid hr;clear hr;dsimp only[ov]at HO3;have HQ6:Hid (decide (k=6)=true):=q6d;have HK6:Hid (k=6):=hk6;clear hk6;cases r1 with
    |false=>
     go_wp2_with(first
      |(go_at_call 61;refine HO3.out.mono ?_;clear HO3;rintro e w4 ⟨rfl,hb4⟩;have HV4:=hid (HV3.out.below hb4);have HF4:=hid (HF3.out.trans (Fv.below hb4));clear hb4))
     first|refine bodyPost_end (results_none rfl _ _ _) rfl ?_ |refine bodyPost_ret (results_none rfl _ _ _) rfl ?_
     have hAl:=HAl.out;rw[<-HR.out]at hAl;rw[HQ6.out]at hAl ⊢;have e:fbL K true s=acc++fbT K s[j]:=by simpa using hAl
     rw[e];exact⟨rfl,HV4.out,HF1.out.trans HF4.out⟩
    |true=>
     go_wp2_with(first
      |(go_at_call 61;refine HO3.out.mono ?_;clear HO3;rintro e w4 ⟨rfl,hb4⟩;have HV4:=hid (HV3.out.below hb4);have HF4:=hid (HF3.out.trans (Fv.below hb4));clear hb4))
     refine⟨⟨j+1,acc++fbT K s[j],by go_num,by omega,HV4,HF4,?_⟩,by simp[intOf];omega⟩;have hAl:=HAl.out;rw[<-HR.out]at hAl;show _=_;rw[List.append_assoc];simpa using hAl
   ·have q6:(k == 6)=false:=by simp[hk6]
    have q6d:decide (k=6)=false:=by simp[hk6]
    have HQ6:Hid (decide (k=6)=false):=q6d;clear hk6
    go_wp2_with fail
    refine⟨⟨j+1,acc++fbT K s[j],by go_num,by omega,HV3,HF3,?_⟩,by simp[intOf];omega⟩;have hAl:=HAl.out;show _=_;rw[List.append_assoc];rw[HQ6.out]at hAl ⊢;simpa using hAl
  ·have a0:decide ((j:Int)<(n1:Int))=false:=by simp;omega
   clear HO
   go_wp2_with fail
   first|refine bodyPost_end (results_none rfl _ _ _) rfl ?_ |refine bodyPost_ret (results_none rfl _ _ _) rfl ?_
   have hA:=HAj.out;rw[List.drop_eq_nil_of_le (by have:=HN.out;omega),fbL,List.append_nil]at hA;rw[hA];exact⟨rfl,HVj.out,HF1.out.trans HFj.out⟩
theorem z5j(w0:World)(bB gB:Nat)(so:Option Addr)(n cap:Nat)(so0:Option Addr)(n0 cap0:Nat)(rs:List Rr)(K:ByteArray->Ot)(B:Nat)(hB:B<=w0.heap.size)(hg:w0.heap[gB]? =some (.cells #[.slice so n cap] 24))(hr:Qy w0 B so n rs)(hs:Qy w0 B so0 n0 (bG rs K))(hok:okG rs=true)(hck:ckR rs=none)(hz:RgZ rs)(hT:TabIs w0)(hbB:w0.heap.size<=bB):
  ∀(N:Nat) (t:RT) (cs:List Value) (zs:List Int) (W:World),SizeOf.sizeOf t<N->Bv w0 bB zs W->Qk w0 B t cs->Fit (nmL rs) t->zs.length+(fbT K t).length<=1048576->Calls prog 64 #[.agg #[.slice so0 n0 cap0],.agg cs.toArray,.func (.func 65) #[] #[.pointer (some ⟨bB,0,none⟩),.pointer (some ⟨gB,0,none⟩)]] W (VsQ w0 bB (zs++(fbT K t).map fun x=>fdI x (nmL rs)) W)
 |0,t,_,_,_,h,_,_,_,_=>by omega
 |N+1,.mk k T a b c d s p,cs,zs,W,hN,hV,ht,hf,hl=>by
  have ht0:=ht;rw[Qk]at ht;obtain⟨so1,cap1,rfl,hso⟩:=ht;by_cases hk:k=5
  ·subst hk
   have hs0:=Wm hf.ok;subst hs0;have e:fbT K (.mk 5 T a b c d [] p)=[T]:=by rw[fbT,if_pos rfl,fbL];rfl
   rw[e];exact y4q w0 bB gB so0 n0 cap0 rs K hbB T a b c d p so1 cap1 zs W (hid hV) (hid fun W' hV'=>y4o w0 bB gB so n cap rs B hB hg hr hbB 5 T a b c d p so1 0 cap1 zs W' hV' (by omega))
  ·have e:fbT K (.mk k T a b c d s p)=fbL K (decide (k=6)) s:=by rw[fbT,if_neg hk,List.nil_append]
   rw[e]at hl ⊢;refine y4r w0 bB gB so0 n0 cap0 rs K hbB k hk T a b c d p so1 _ cap1 s zs W (hid hV) (Ix hso) (Xk s) (hid hl) (hid fun j hj=> ?_);obtain⟨g,o,h1,h2,k1,T1,a1,b1,c1,d1,so2,n2,cap2,p1,h3,h4⟩:=Mq hB hso j hj;have hfj:=hf.sub j hj;refine⟨g,o,h1,h2,k1,T1,a1,b1,c1,d1,so2,n2,cap2,p1,h3,fun ys W' hV' hl'=> ?_,fun W' hW'=> ?_⟩
   ·have hsz:=List.sizeOf_lt_of_mem (List.getElem_mem hj)
    simp only[RT.mk.sizeOf_spec]at hN;exact z5j w0 bB gB so n cap so0 n0 cap0 rs K B hB hg hr hs hok hck hz hT hbB N s[j] _ ys W' (by omega) hV' h4 hfj hl'
   ·exact z4Y so0 n0 cap0 rs K k1 T1 a1 b1 c1 d1 p1 so2 n2 cap2 _ B B W' (hs.below (hW'.mono hB)) (Nat.le_trans hB hW'.size) hok hck hz (hT.below hW' hT.lt) (h4.below (hW'.mono hB)) (Nat.le_trans hB hW'.size) hfj
mutual
theorem Wl{K:ByteArray->Ot}:∀t:RT,okT t=true->(fbT K t).length<=(rfT t).length
 | .mk k T a b c d s p,h=>by
   rw[fbT,rfT];by_cases h5:k=5
   ·subst h5
    have:=Wm h;subst this;rw[if_pos rfl,if_pos rfl,fbL];simp
   ·rw[if_neg h5,if_neg h5,List.nil_append]
    rw[okT,Bool.and_eq_true]at h;exact z5k (decide (k=6)) s h.2
theorem z5k{K:ByteArray->Ot}(sq:Bool):∀s:List RT,okL s=true->(fbL K sq s).length<=(rfL s).length
 |[],_=>by rw[fbL,rfL];simp
 |t::r,h=>by
  rw[okL,Bool.and_eq_true]at h;have h1:=Wl (K:=K) t h.1;have h2:=z5k (K:=K) sq r h.2;rw[fbL,rfL,List.length_append,List.length_append];split
  ·simp;omega
  ·omega
end
theorem y4s(so:Option Addr)(n cap:Nat)(so0:Option Addr)(n0 cap0:Nat)(rs:List Rr)(K:ByteArray->Ot)(w:World)(h:Qy w w.heap.size so n rs)(hn:n<=1048576)(hs:Qy w w.heap.size so0 n0 (bG rs K))(hok:okG rs=true)(hck:ckR rs=none)(hz:RgZ rs)(hP:PrG rs)(hT:TabIs w)(hl:∀x∈rs,(rfT x.2.1).length<=8192):
  Calls prog 40 #[.agg #[.slice so n cap],.agg #[.slice so0 n0 cap0]] w fun e w'=>∃ub vs,e=.returned (.slice (some ⟨ub,0,none⟩) n n)/\vs.length=n/\Uw w ub n vs (rs.map (bgR rs K)) w':=by
 have hmk:=y0W n hn;obtain⟨W2,hW2⟩:∃W2,W2=(w.alloc (.cells #[.slice so n cap] 24)).alloc (.cells #[.slice so0 n0 cap0] 24):=⟨_,rfl⟩;have hB2:Below w.heap.size w W2:=by rw[hW2];exact((Below.refl _ w).alloc L0q _).alloc (by simp) _
 have hs2:W2.heap.size=w.heap.size+1+1:=by rw[hW2];simp
 obtain⟨ub,hub⟩:∃ub,ub=w.heap.size+1+1:=⟨_,rfl⟩;obtain⟨W3,hW3⟩:∃W3,W3=W2.alloc (.cells (Array.replicate n (Value.slice none 0 0)) 128):=⟨_,rfl⟩;have HU3:Hid (Uw w ub n [] [] W3):=by
  refine⟨?_,rfl,fun i h1=>by simp at h1,by rw[hW3];exact hB2.alloc hB2.size _,by omega⟩;rw[hW3,hub,Qx _ _ hs2.symm];simp
 have HG3:Hid (W3.heap[w.heap.size]? =some (.cells #[.slice so n cap] 24)):=by rw[hW3,hW2];exact(Below.heap_alloc _ _ _ (by simp;omega)).trans ((Below.heap_alloc _ _ _ (by simp)).trans (Qx w _ rfl))
 have HS3:Hid (W3.heap[w.heap.size+1]? =some (.cells #[.slice so0 n0 cap0] 24)):=by rw[hW3,hW2];exact(Below.heap_alloc _ _ _ (by simp)).trans (Qx _ _ (by simp))
 have HR:=hid h;have HNl:Hid (n=rs.length):=h.1;have HVf:=hid (fun(w0:World) (hb:Below w.heap.size w w0) (bB:Nat) (hbB:w0.heap.size<=bB) (hg:w0.heap[w.heap.size]? =some (.cells #[.slice so n cap] 24)) (t:RT) (cs:List Value) (W:World) (hV:Bv w0 bB [] W) (ht:Qk w w.heap.size t cs) (hf:Fit (nmL rs) t) (hlt:(fbT K t).length<=8192)=>z5j w0 bB w.heap.size so n cap so0 n0 cap0 rs K w.heap.size hb.size hg (h.below hb) (hs.below hb) hok hck hz (hT.below hb hT.lt) hbB _ t cs [] W (Nat.lt_succ_self _) hV (ht.below hb) hf (by simp;omega));have HFt:=hid (fun(x:Rr) (hx:x∈rs)=>Wp hP hck hz hx);have HLn:=hid (fun(x:Rr) (hx:x∈rs)=>Nat.le_trans (Wl (K:=K) x.2.1 (Kk hok x hx).2) (hl x hx));clear h hs hok hck hz hP hT hl hB2 hs2;go_enter func40,ntmps40
 go_wp2_with fail
 rw[<-hW2,<-hW3,<-hub];obtain⟨sB,hsB⟩:∃sB,sB=w.heap.size+1:=⟨_,rfl⟩;rw[<-hsB]at HS3 ⊢;have HUb:Hid (ub=w.heap.size+1+1):=hub;have HsB:Hid (sB=w.heap.size+1):=hsB;clear hW2 hW3 hub hmk hsB
 go_loopw [16] (fun i wr=>∃j:Nat,i=.int .i64 j/\j<=n/\Hid (∃vs,vs.length=j/\Uw w ub n vs ((rs.take j).map (bgR rs K)) wr)/\Hid (wr.heap[w.heap.size]? =some (.cells #[.slice so n cap] 24))/\Hid (wr.heap[sB]? =some (.cells #[.slice so0 n0 cap0] 24))) (fun i _=>n-(intOf i).toNat)
 case atStart=>exact⟨0,rfl,Nat.zero_le _,⟨[],rfl,by rw[List.take_zero];exact HU3.out⟩,HG3,HS3⟩
 case round=>
  obtain⟨j,rfl,hj,HUj,HGj,HSj⟩:=hrel;clear HU3 HG3 HS3;by_cases hjn:j<n
  ·have hjI:(j:Int)<(n:Int):=by omega
   have a0:decide ((j:Int)<(n:Int))=true:=by simp;omega
   have hjs:j<rs.length:=by rw[<-HNl.out];exact hjn
   obtain⟨g,o,rfl,hg,k1,T1,a1,b1,c1,d1,so1,n1,cap1,p1,hrt,r0⟩:=HR.out.2.2 j hjs;obtain⟨vs,hvl,hU⟩:=HUj.out;have hce:∀q,wr.cell? ⟨g,q,none⟩=w.cell? ⟨g,q,none⟩:=fun q=>hU.be.cell (p:=⟨g,q,none⟩) hg
   simp only[<-hce]at r0;obtain⟨z0,z1,z2,z3,z4,z5,z6,z7,z8,z9⟩:=r0;have hgl:g<wr.heap.size:=World.block_lt_of_cell? wr _ z0;obtain⟨N0,hN0⟩:∃N0,N0=rs[j].1:=⟨_,rfl⟩;obtain⟨q1,hq1⟩:∃q1,q1=rs[j].2.2:=⟨_,rfl⟩;rw[<-hN0]at z0;rw[<-hq1]at z9;obtain⟨W4,hW4⟩:∃W4,W4=wr.alloc (.cells #[.string N0,.int .i64 k1,.string T1,.int .u64 a1,.int .u64 b1,.int .u64 c1,.int .u64 d1,.slice so1 n1 cap1,.int .i64 p1,.int .i64 q1] 46):=⟨_,rfl⟩;have hB4:Below wr.heap.size wr W4:=by rw[hW4];exact(Below.refl _ wr).alloc L0q _
   have hs4:W4.heap.size=wr.heap.size+1:=by rw[hW4];simp
   obtain⟨W5,hW5⟩:∃W5,W5=W4.alloc (.cells #[.slice none 0 0] 128):=⟨_,rfl⟩;obtain⟨bB,hbB⟩:∃bB,bB=wr.heap.size+1:=⟨_,rfl⟩;have hV5:Bv W4 bB [] W5:=by
    rw[hW5];exact⟨B0q.alloc L0q _,_,Qx _ _ (by omega),World.ownsRow_nil _ _ _ _⟩
   have hbw:=hU.be.trans (hB4.mono hU.be.size);have hx:=List.getElem_mem hjs;have HC:=hid (HVf.out W4 hbw bB (by omega) ((hB4.block _ (Qz HGj.out)).trans HGj.out) rs[j].2.1 _ W5 hV5 hrt (HFt.out _ hx) (HLn.out _ hx));dsimp only[r8]at HC;rw[List.nil_append]at HC;obtain⟨sb,sg⟩:=Qj HSj.out;have ls:=Qz HSj.out;have ls1:sB<wr.heap.size+1:=by omega
   obtain⟨zs,hzs⟩:∃zs,zs=(fbT K rs[j].2.1).map fun x=>fdI x (nmL rs):=⟨_,rfl⟩
   rw[<-hzs]at HC;have hzl:zs.length<=8192:=by rw[hzs,List.length_map];exact HLn.out _ hx
   have HZs:Hid (bgR rs K rs[j]=Lib.compact (srt zs)):=by show _=_;unfold bgR;rw[hzs]
   have HUw:=hid hU;have HV:Hid (vs.length=j):=hvl;have HB4:=hid hB4;have HW5:=hid hW5;have HW4:=hid hW4;have lu:ub<wr.heap.size:=Qz hU.blk;have HHs4:Hid (W4.heap.size=wr.heap.size+1):=hs4;clear hN0 hq1 hce hrt hU hvl HUj hbw hV5 hB4 hW4 hW5 hzs hx hs4
   go_wp2_with fail
   rw[<-hbB]
   first|rw[<-HW4.out,<-HW5.out]|rw[<-HW4.out]|skip
   refine HC.out.mono ?_;clear HC sb sg ls ls1 hbB;rintro e w6 ⟨rfl,⟨hbe6,v6,hb6,hr6⟩,hf6⟩;obtain⟨so6,sc6,rfl⟩:=Hj hr6;have HSo:=hid (y0R hr6 (by omega));obtain⟨c6,_⟩:=Qj hb6;have l6:=Qz hb6;have HB6:=hid hb6;have HR6:=hid hr6;have HBe6:=hid hbe6;clear hbe6 hb6 hr6 hf6;obtain⟨kz,hkz⟩:∃kz,kz=zs.length:=⟨_,rfl⟩;rw[<-hkz]at HSo HR6 HB6 c6 hzl;have HKz:Hid (kz=zs.length):=hkz;clear hkz
   go_wp2_with fail
   refine HSo.out.mono ?_;clear HSo c6;rintro e w7 ⟨rfl,hr7,hg7⟩;have hne7:some bB≠(Value.slice so6 kz sc6).ownBlock:=fun e=>Dz HR6.out HB6.out (fun cur e=>by cases e) e.symm
   have hb7:=(hg7.block _ l6 hne7).trans HB6.out;have HCo:=hid (y0S (zs:=srt zs) (by rw[Ap,<-HKz.out];exact hr7) (by rw[Ap,<-HKz.out];omega));obtain⟨c7,_⟩:=Qj hb7;have l7:=Qz hb7;have hlo:∀g,(Value.slice so6 kz sc6).ownBlock=some g->W4.heap.size<=g/\g<w6.heap.size:=fun g e=>HR6.out.lt g e
   have HBe7:=hid (HBe6.out.grown hg7 HBe6.out.size (fun g e=>(hlo g e).1));have HLo:=hid hlo;clear hr7 hg7 hb7 hlo
   go_wp2_with fail
   refine HCo.out.mono ?_;clear HCo c7;rintro e w8 ⟨v8,rfl,hr8,hg8⟩;have hbe8:=HBe7.out.grown hg8 HBe7.out.size (fun g e=>(HLo.out g e).1);have hU8:=HUw.out.below (HB4.out.trans (hbe8.mono (by rw[HHs4.out];omega)));obtain⟨k8,hk8⟩:∃k8,k8=(Lib.compact (srt zs)).length:=⟨_,rfl⟩;have hr8':=hr8;rw[<-hk8]at hr8';obtain⟨so8,sc8,rfl⟩:=Hj hr8';have lu8:ub<w8.heap.size:=Qz hU8.blk;obtain⟨x8,f8⟩:=Ql hU8.blk j (.slice none 0 0) (by have:=y0T vs n (Value.slice none 0 0) (by rw[HV.out];exact hjn);rw[HV.out]at this;rw[HV.out];exact this);have hG8:=hid ((hbe8.block _ (Nat.lt_of_lt_of_le (Qz HGj.out) HB4.out.size)).trans ((HB4.out.block _ (Qz HGj.out)).trans HGj.out));have hS8:=hid ((hbe8.block _ (Nat.lt_of_lt_of_le (Qz HSj.out) HB4.out.size)).trans ((HB4.out.block _ (Qz HSj.out)).trans HSj.out));have HU8:=hid hU8;have HR8:=hid hr8;have HBs:=hid (Nat.le_trans HUw.out.be.size HB4.out.size);clear hr8 hr8' hg8 hbe8 hU8 hk8
   go_wp2_with fail
   refine⟨⟨j+1,by go_num,by omega,hid ⟨vs++[.slice so8 k8 sc8],by rw[List.length_append,HV.out];rfl,?_⟩,hid ((Below.heap_setCell _ _ _ _ (by have:=HUb.out;show w.heap.size≠ub;omega)).trans hG8.out),hid ((Below.heap_setCell _ _ _ _ (by have:=HUb.out;have:=HsB.out;show sB≠ub;omega)).trans hS8.out)⟩,by simp[intOf];omega⟩;have hst:=HU8.out.step (u:=bgR rs K rs[j]) (by rw[HV.out];exact hjn) (by rw[HZs.out];exact z3n HR8.out HBs.out);rw[HV.out]at hst;rw[show(rs.take (j+1)).map (bgR rs K)=(rs.take j).map (bgR rs K)++[bgR rs K rs[j]] by rw[show rs.take (j+1)=rs.take j++[rs[j]] by simp,List.map_append];rfl];exact hst
  ·have a0:decide ((j:Int)<(n:Int))=false:=by simp;omega
   have hjn':rs.take j=rs:=List.take_of_length_le (by rw[<-HNl.out];omega);rw[hjn']at HUj;clear hjn' HVf
   go_wp2_with fail
   go_ret;obtain⟨vs,hvl,hU⟩:=HUj.out;exact⟨ub,vs,rfl,by omega,hU⟩
def Cb(us:List (List Int))(to:Nat)(sn sn':List Bool):Prop:=sn'.length=sn.length/\(∀i:Nat,sn[i]? =some true->sn'[i]? =some true)/\∀i:Nat,sn[i]? =some false->sn'[i]? =some true->∀k∈us.getD i [],∃m:Nat,k=(m:Int)/\m≠to/\sn'[m]? =some true
theorem Cb.refl(us:List (List Int))(to:Nat)(sn:List Bool):Cb us to sn sn:=⟨rfl,fun _ h=>h,fun i h1 h2=>by rw[h1]at h2;cases h2⟩
theorem Cb.trans{us:List (List Int)}{to:Nat}{s1 s2 s3:List Bool}(h:Cb us to s1 s2)(k:Cb us to s2 s3):Cb us to s1 s3:=by
 obtain⟨h1,h2,h3⟩:=h;obtain⟨k1,k2,k3⟩:=k;refine⟨k1.trans h1,fun i hi=>k2 i (h2 i hi),fun i a b x hx=> ?_⟩;have hl:i<s2.length:=by rw[h1];exact(List.getElem?_eq_some_iff.1 a).1
 cases e:s2[i]with
 |true=>
  obtain⟨m,e1,e2,e3⟩:=h3 i a (by rw[List.getElem?_eq_getElem hl,e]) x hx;exact⟨m,e1,e2,k2 m e3⟩
 |false=>exact k3 i (by rw[List.getElem?_eq_getElem hl,e]) b x hx
theorem Cb.mark{us:List (List Int)}{p:Nat}{sn sn':List Bool}(h:Cb us to (sn.set p true) sn')(hp:sn[p]? =some false)(ha:∀k∈us.getD p [],∃m:Nat,k=(m:Int)/\m≠to/\sn'[m]? =some true):Cb us to sn sn'/\sn'[p]? =some true:=by
 obtain⟨h1,h2,h3⟩:=h;have hpl:p<sn.length:=(List.getElem?_eq_some_iff.1 hp).1;refine⟨⟨by rw[h1,List.length_set],fun i hi=>h2 i ?_,fun i a b=> ?_⟩,h2 p (List.getElem?_set_self hpl)⟩
 ·by_cases e:p=i
  ·subst e;exact List.getElem?_set_self hpl
  ·rw[List.getElem?_set_ne e];exact hi
 ·by_cases e:p=i
  ·subst e;exact ha
  ·exact h3 i (by rw[List.getElem?_set_ne e];exact a) b
def Bck(us:List (List Int))(to:Nat):Prop:=∃x:Nat,(x:Int)∈us.getD to []/\Rch us x to
theorem y4t{us:List (List Int)}{n:Nat}{sn:List Bool}(h:Cb us to (List.replicate n false) sn)(ha:∀k∈us.getD to [],∃m:Nat,k=(m:Int)/\m≠to/\sn[m]? =some true):¬Bck us to:=fun⟨x,hx,hr⟩=>by
 obtain⟨h1,_,h3⟩:=h;have hall:∀b,Rch us x b->b≠to/\sn[b]? =some true:=fun b hb=>by
  induction hb with
  |refl=>
   obtain⟨m,e1,e2,e3⟩:=ha _ hx;obtain rfl:x=m:=by omega
   exact⟨e2,e3⟩
  | @step b c _ hm ih=>
    have hl:b<n:=by
     have:=(List.getElem?_eq_some_iff.1 ih.2).1;rw[h1,List.length_replicate]at this;exact this
    obtain⟨m,e1,e2,e3⟩:=h3 b (by rw[List.getElem?_replicate,if_pos hl]) ih.2 _ hm;obtain rfl:c=m:=by omega
    exact⟨e2,e3⟩
 exact(hall to hr).1 rfl
structure Bs (base n to bB tB sB lB sb:Nat) (uv:Value) (w0:World) (sn:List Bool) (W:World):Prop where
 bbx:Boxed W bB 71 uv
 tbx:Boxed W tB 3 (.int .i64 to)
 sbx:Boxed W sB 134 (.slice (some ⟨sb,0,none⟩) n n)
 sbl:W.heap[sb]? =some (.cells (sn.map Value.bool).toArray 4)
 lbx:Boxed W lB 135 (.func (.func 69) #[] #[.pointer (some ⟨bB,0,none⟩),.pointer (some ⟨tB,0,none⟩),.pointer (some ⟨sB,0,none⟩),.pointer (some ⟨lB,0,none⟩)])
 be:Below base w0 W
 len:sn.length=n
theorem Bs.mark{base n tB sB lB sb:Nat}{uv:Value}{w0:World}{sn:List Bool}(h:Bs base n to bB tB sB lB sb uv w0 sn W)(hsb:base<=sb)(p:Nat):Bs base n to bB tB sB lB sb uv w0 (sn.set p true) (W.setCell ⟨sb,p,none⟩ (.bool true)):=by
 have keep:∀{b:Nat} {y:Array Value} {u:TypeId},W.heap[b]? =some (.cells y u)->u≠4->(W.setCell ⟨sb,p,none⟩ (.bool true)).heap[b]? =some (.cells y u):=fun hb hu=>(Below.heap_setCell _ _ _ _ (fun e=>y0X hb h.sbl hu e)).trans hb
 refine⟨keep h.bbx (by decide),keep h.tbx (by decide),keep h.sbx (by decide),?_,keep h.lbx (by decide),h.be.setCell (p:=⟨sb,p,none⟩) hsb _,by rw[List.length_set,h.len]⟩;rw[Zz h.sbl];congr 2;apply Array.ext';simp[List.map_set]
theorem y4u(to tB sB lB:Nat)(W:World)(h:Boxed W tB 3 (.int .i64 to)):
  Calls prog 71 #[.int .i64 to,.pointer (some ⟨tB,0,none⟩),.pointer (some ⟨sB,0,none⟩),.pointer (some ⟨lB,0,none⟩)] W fun e w'=>e=.returned (.bool true)/\w'=W:=by
 have c1:=h.cell;have a0:((to:Int) == (to:Int))=true:=by simp
 go_enter func71,ntmps71
 go_wp2_with fail
 go_ret;exact⟨rfl,rfl⟩
theorem y4v(nx to n tB sB lB sb:Nat)(W:World)(h:Boxed W tB 3 (.int .i64 to))(h1:Boxed W sB 134 (.slice (some ⟨sb,0,none⟩) n n))(hc:W.cell? ⟨sb,nx,none⟩=some (.bool true))(hne:nx≠to)(hp:nx<n)(hn:n<=1048576):
  Calls prog 71 #[.int .i64 nx,.pointer (some ⟨tB,0,none⟩),.pointer (some ⟨sB,0,none⟩),.pointer (some ⟨lB,0,none⟩)] W fun e w'=>e=.returned (.bool false)/\w'=W:=by
 have c1:=h.cell;have c2:=h1.cell;have a0:((nx:Int) == (to:Int))=false:=by rw[beq_eq_false_iff_ne];omega
 go_enter func71,ntmps71
 go_wp2_with fail
 go_ret;exact⟨rfl,rfl⟩
def NxP(base n to bB tB sB lB sb:Nat)(uv:Value)(us:List (List Int))(w0:World)(sn:List Bool)(nx:Nat)(e:Ending)(w':World):Prop:=∃sn',Bs base n to bB tB sB lB sb uv w0 sn' w'/\((e=.returned (.bool true)/\Rch us nx to)∨(e=.returned (.bool false)/\Cb us to sn sn'/\nx≠to/\sn'[nx]? =some true))
def LeP(base n to bB tB sB lB sb:Nat)(uv:Value)(us:List (List Int))(w0:World)(sn:List Bool)(fr:Nat)(e:Ending)(w':World):Prop:=∃sn',Bs base n to bB tB sB lB sb uv w0 sn' w'/\((e=.returned (.bool true)/\∃x:Nat,(x:Int)∈us.getD fr []/\Rch us x to)∨(e=.returned (.bool false)/\Cb us to sn sn'/\∀k∈us.getD fr [],∃m:Nat,k=(m:Int)/\m≠to/\sn'[m]? =some true))
theorem y4w{us:List (List Int)}{sn sn':List Bool}(h:Cb us to sn sn'):unm sn'<=unm sn:=z3q sn sn' h.1 h.2.1
theorem y4x(base n to bB tB sB lB sb:Nat)(uv:Value)(us:List (List Int))(w0:World)(hn:n<=1048576)(N:Nat)(HN:Hid (∀(sn:List Bool) (W:World) (nx:Nat),unm sn<N->Bs base n to bB tB sB lB sb uv w0 sn W->nx<n->Calls prog 71 #[.int .i64 nx,.pointer (some ⟨tB,0,none⟩),.pointer (some ⟨sB,0,none⟩),.pointer (some ⟨lB,0,none⟩)] W (NxP base n to bB tB sB lB sb uv us w0 sn nx)))
  (u:List Int)(rso:Option Addr)(k cap:Nat)(hk:k=u.length)(hrl:k<=1048576)(HR:Hid (∀j (hj:j<u.length),∃g o,rso=some ⟨g,o,none⟩/\g<base/\w0.cell? ⟨g,o+j,none⟩=some (.int .i64 u[j])))(HX:Hid (∀x∈u,∃m:Nat,m<n/\x=(m:Int)))
  (sn:List Bool)(W:World)(hsn:unm sn<N)(hB:Bs base n to bB tB sB lB sb uv w0 sn W):
  Calls prog 109 #[.slice rso k cap,.func (.func 71) #[] #[.pointer (some ⟨tB,0,none⟩),.pointer (some ⟨sB,0,none⟩),.pointer (some ⟨lB,0,none⟩)]] W fun e w'=>∃sn',Bs base n to bB tB sB lB sb uv w0 sn' w'/\((∃j:Nat,e=.returned (.int .i64 j)/\∃x:Nat,(x:Int)∈u/\Rch us x to)∨(e=.returned (.int .i64 (-1))/\Cb us to sn sn'/\∀x∈u,∃m:Nat,x=(m:Int)/\m≠to/\sn'[m]? =some true)):=by
 have HB:=hid hB;have HK:Hid (k=u.length):=hk;have HSn:Hid (unm sn<N):=hsn;clear hB hk hsn;go_enter func109,ntmps109
 go_wp2_with fail
 go_loopw [8] (fun i wr=>∃j:Nat,i=.int .i64 j/\j<=k/\Hid (∃snj,Bs base n to bB tB sB lB sb uv w0 snj wr/\Cb us to sn snj/\∀i (hi:i<u.length),i<j->∃m:Nat,u[i]=(m:Int)/\m≠to/\snj[m]? =some true)) (fun i _=>k-(intOf i).toNat)
 case atStart=>exact⟨0,rfl,Nat.zero_le _,sn,HB.out,Cb.refl _ _ _,fun i hi h0=>by omega⟩
 case round=>
  obtain⟨j,rfl,hj,HJ⟩:=hrel;by_cases hjn:j<k
  ·have hjI:(j:Int)<(k:Int):=by omega
   have a0:decide ((j:Int)<(k:Int))=true:=by simp;omega
   have hju:j<u.length:=by rw[<-HK.out];exact hjn
   obtain⟨snj,vj,cj,aj⟩:=HJ.out;obtain⟨rg,ro,rfl,hrg,hrcell⟩:=HR.out j hju;have cr:=(vj.be.cell (p:=⟨rg,ro+j,none⟩) hrg).trans hrcell;obtain⟨nx,hnx,enx⟩:=HX.out u[j] (List.getElem_mem hju);rw[enx]at cr;have HC:=hid (HN.out snj wr nx (by have:=y4w cj;have:=HSn.out;omega) vj hnx);have HCj:=hid cj;have HA:=hid aj;have HE:Hid (u[j]=(nx:Int)):=enx;clear vj cj aj hrcell enx HJ
   go_wp2_with(first
    |(go_at_call 71;refine HC.out.mono ?_;clear HC;rintro e w5 ⟨sn5,v5,⟨rfl,r5⟩|⟨rfl,c5,n5,m5⟩⟩))
   ·go_ret
    exact⟨sn5,v5,.inl ⟨j,rfl,nx,by rw[<-HE.out];exact List.getElem_mem hju,r5⟩⟩
   ·refine⟨⟨j+1,by go_num,by omega,hid ⟨sn5,v5,HCj.out.trans c5,fun i hi hij=> ?_⟩⟩,by simp[intOf];omega⟩
    by_cases e:i=j
    ·subst e
     exact⟨nx,HE.out,n5,m5⟩
    ·obtain⟨m,h1,h2,h3⟩:=HA.out i hi (by omega)
     exact⟨m,h1,h2,c5.2.1 m h3⟩
  ·have a0:decide ((j:Int)<(k:Int))=false:=by simp;omega
   go_wp2_with fail
   go_ret;obtain⟨snj,vj,cj,aj⟩:=HJ.out;refine⟨snj,vj,.inr ⟨rfl,cj,fun x hx=> ?_⟩⟩;obtain⟨q,hq,rfl⟩:=List.getElem_of_mem hx;exact aj q hq (by have:=HK.out;omega)
theorem y4y(base n to bB tB sB lB sb:Nat)(uv:Value)(us:List (List Int))(w0:World)(hn:n<=1048576)(N:Nat)(HN:Hid (∀(sn:List Bool) (W:World) (nx:Nat),unm sn<N->Bs base n to bB tB sB lB sb uv w0 sn W->nx<n->Calls prog 71 #[.int .i64 nx,.pointer (some ⟨tB,0,none⟩),.pointer (some ⟨sB,0,none⟩),.pointer (some ⟨lB,0,none⟩)] W (NxP base n to bB tB sB lB sb uv us w0 sn nx)))
  (u:List Int)(rso:Option Addr)(k cap:Nat)(hk:k=u.length)(hrl:k<=1048576)(HR:Hid (∀j (hj:j<u.length),∃g o,rso=some ⟨g,o,none⟩/\g<base/\w0.cell? ⟨g,o+j,none⟩=some (.int .i64 u[j])))(HX:Hid (∀x∈u,∃m:Nat,m<n/\x=(m:Int)))
  (sn:List Bool)(W:World)(hsn:unm sn<N)(hB:Bs base n to bB tB sB lB sb uv w0 sn W):
  Calls prog 70 #[.slice rso k cap,.func (.func 71) #[] #[.pointer (some ⟨tB,0,none⟩),.pointer (some ⟨sB,0,none⟩),.pointer (some ⟨lB,0,none⟩)]] W fun e w'=>∃sn',Bs base n to bB tB sB lB sb uv w0 sn' w'/\((e=.returned (.bool true)/\∃x:Nat,(x:Int)∈u/\Rch us x to)∨(e=.returned (.bool false)/\Cb us to sn sn'/\∀x∈u,∃m:Nat,x=(m:Int)/\m≠to/\sn'[m]? =some true)):=by
 have HC:=hid (y4x base n to bB tB sB lB sb uv us w0 hn N HN u rso k cap hk hrl HR HX sn W hsn hB);clear HN hk hrl HR HX hsn hB;go_enter func70,ntmps70
 go_wp2_with fail
 refine HC.out.mono ?_;clear HC;rintro e w5 ⟨sn5,v5,⟨j,rfl,hx⟩|⟨rfl,c5,a5⟩⟩
 ·have a0:decide ((0:Int)<=(j:Int))=true:=by simp
  go_wp2_with fail
  go_ret;exact⟨sn5,v5,.inl ⟨by simp,hx⟩⟩
 ·go_wp2_with fail
  go_ret;exact⟨sn5,v5,.inr ⟨rfl,c5,a5⟩⟩
theorem z5l(base n to bB tB sB lB sb:Nat)(uv:Value)(us:List (List Int))(w0:World)(HU:Hid (UsM w0 base uv us))(HNn:Hid (us.length=n))(HXs:Hid (∀u∈us,∀x∈u,∃m:Nat,m<n/\x=(m:Int)))(hn:n<=1048576)(N:Nat)(HN:Hid (∀(sn:List Bool) (W:World) (nx:Nat),unm sn<N->Bs base n to bB tB sB lB sb uv w0 sn W->nx<n->Calls prog 71 #[.int .i64 nx,.pointer (some ⟨tB,0,none⟩),.pointer (some ⟨sB,0,none⟩),.pointer (some ⟨lB,0,none⟩)] W (NxP base n to bB tB sB lB sb uv us w0 sn nx)))
  (sn:List Bool)(W:World)(fr:Nat)(hsn:unm sn<N)(hB:Bs base n to bB tB sB lB sb uv w0 sn W)(hfr:fr<n):
  Calls prog 69 #[.int .i64 fr,.pointer (some ⟨bB,0,none⟩),.pointer (some ⟨tB,0,none⟩),.pointer (some ⟨sB,0,none⟩),.pointer (some ⟨lB,0,none⟩)] W (LeP base n to bB tB sB lB sb uv us w0 sn fr):=by
 obtain⟨uso,ucap,rfl,hul,hur⟩:=HU.out;have hpu:fr<us.length:=by rw[HNn.out];exact hfr
 obtain⟨ug,uo,rv,rfl,hug,huc,rso,rcap,rfl,hrl,hrc⟩:=hur fr hpu;have cb:=hB.bbx.cell;have cr:=(hB.be.cell (p:=⟨ug,uo+fr,none⟩) hug).trans huc;have HUu:Hid (us.getD fr []=us[fr]):=by
  show _=_;rw[List.getD_eq_getElem?_getD,List.getElem?_eq_getElem hpu];rfl
 have HC:=hid (y4y base n to bB tB sB lB sb _ us w0 hn N HN us[fr] rso us[fr].length rcap rfl hrl hrc (hid (HXs.out us[fr] (List.getElem_mem hpu))) sn W hsn hB);obtain⟨u,hu⟩:∃u,u=us[fr]:=⟨_,rfl⟩;rw[<-hu]at HC HUu cr hrl;obtain⟨k,hk⟩:∃k,k=u.length:=⟨_,rfl⟩;rw[<-hk]at HC cr hrl;clear HN hur hrc huc hB hsn hu hk HXs;go_enter func69,ntmps69
 go_wp2_with fail
 refine HC.out.mono ?_;clear HC;rintro e w5 ⟨sn5,v5,⟨rfl,x,hx,hr⟩|⟨rfl,c5,a5⟩⟩
 ·go_wp2_with fail
  go_ret;exact⟨sn5,v5,.inl ⟨rfl,x,by rw[HUu.out];exact hx,hr⟩⟩
 ·go_wp2_with fail
  go_ret;exact⟨sn5,v5,.inr ⟨rfl,c5,by rw[HUu.out];exact a5⟩⟩
theorem z5m(base n to bB tB sB lB sb:Nat)(uv:Value)(us:List (List Int))(w0:World)(HU:Hid (UsM w0 base uv us))(HNn:Hid (us.length=n))(HXs:Hid (∀u∈us,∀x∈u,∃m:Nat,m<n/\x=(m:Int)))(hsb:base<=sb)(hn:n<=1048576):
  ∀(N:Nat) (sn:List Bool) (W:World) (nx:Nat),unm sn<N->Bs base n to bB tB sB lB sb uv w0 sn W->nx<n->Calls prog 71 #[.int .i64 nx,.pointer (some ⟨tB,0,none⟩),.pointer (some ⟨sB,0,none⟩),.pointer (some ⟨lB,0,none⟩)] W (NxP base n to bB tB sB lB sb uv us w0 sn nx)
 |0,sn,W,nx,hN,_,_=>by omega
 |N+1,sn,W,nx,hN,hB,hp=>by
  by_cases e:nx=to
  ·subst e
   refine(y4u nx tB sB lB W hB.tbx).mono fun e w' he=> ?_
   rw[he.2];exact⟨sn,hB,.inl ⟨he.1,.refl⟩⟩
  have hpl:nx<sn.length:=by rw[hB.len];exact hp
  cases hb:sn[nx]with
  |true=>
   have hs:sn[nx]? =some true:=by rw[List.getElem?_eq_getElem hpl,hb]
   refine(y4v nx to n tB sB lB sb W hB.tbx hB.sbx (z3s hB.sbl hs).1 e hp hn).mono fun e' w' he=> ?_
   rw[he.2];exact⟨sn,hB,.inr ⟨he.1,Cb.refl _ _ _,e,hs⟩⟩
  |false=>
   have hs:sn[nx]? =some false:=by rw[List.getElem?_eq_getElem hpl,hb]
   have hum:=z3p sn nx hs;have HC:=hid (z5l base n to bB tB sB lB sb uv us w0 HU HNn HXs hn N (hid (z5m base n to bB tB sB lB sb uv us w0 HU HNn HXs hsb hn N)) (sn.set nx true) (W.setCell ⟨sb,nx,none⟩ (.bool true)) nx (by omega) (hB.mark hsb nx) hp);have c1:=hB.tbx.cell;have c2:=hB.sbx.cell;obtain⟨x1,f1⟩:=z3s hB.sbl hs;have cl:=(hB.mark hsb nx).lbx.cell;have a0:((nx:Int) == (to:Int))=false:=by rw[beq_eq_false_iff_ne];omega
   have HS:=hid hs;have HE:Hid (nx≠to):=e;clear hs hum hB hb e HU HNn HXs;go_enter func71,ntmps71
   go_wp2_with(first
    |(go_at_call 69;refine HC.out.mono ?_;clear HC;rintro e w5 ⟨sn5,v5,⟨rfl,x,hx,hr⟩|⟨rfl,c5,a5⟩⟩))
   ·go_ret
    exact⟨sn5,v5,.inl ⟨rfl,(Rch.refl.step hx).trans hr⟩⟩
   ·go_ret
    obtain⟨q1,q2⟩:=c5.mark HS.out a5;exact⟨sn5,v5,.inr ⟨rfl,q1,HE.out,q2⟩⟩
theorem y4z(uv:Value)(us:List (List Int))(n to:Nat)(w:World)(hU:UsM w w.heap.size uv us)(hN:us.length=n)(hX:∀u∈us,∀x∈u,∃m:Nat,m<n/\x=(m:Int))(hn:n<=1048576)(ha:to<n):
  Calls prog 41 #[uv,.int .i64 to] w fun e w'=>((e=.returned (.bool true)/\Bck us to)∨(e=.returned (.bool false)/\¬Bck us to))/\Below w.heap.size w w':=by
 have hmk:=y0Y n hn;have HU:=hid hU;obtain⟨uso,ucap,rfl,hul,hur⟩:=hU;rw[hN]at HU ⊢;clear hur;go_enter func41,ntmps41;obtain⟨W5,hW5⟩:∃W5,W5=((((w.alloc (.cells #[.slice uso n ucap] 71)).alloc (.cells #[.int .i64 to] 3)).alloc (.cells (Array.replicate n (Value.bool false)) 4)).alloc (.cells #[.slice (some ⟨w.heap.size+1+1,0,none⟩) n n] 134)).alloc (.cells #[.func (.func 69) #[] #[.pointer (some ⟨w.heap.size,0,none⟩),.pointer (some ⟨w.heap.size+1,0,none⟩),.pointer (some ⟨w.heap.size+1+1+1,0,none⟩),.pointer (some ⟨w.heap.size+1+1+1+1,0,none⟩)]] 135):=⟨_,rfl⟩;have hV:Bs w.heap.size n to w.heap.size (w.heap.size+1) (w.heap.size+1+1+1) (w.heap.size+1+1+1+1) (w.heap.size+1+1) (.slice uso n ucap) w (List.replicate n false) W5:=by
  rw[hW5];refine⟨?_,?_,?_,?_,?_,?_,List.length_replicate⟩
  ·exact((((Boxed.new w 71 (.slice uso n ucap)).alloc _).alloc _).alloc _).alloc _
  ·have:=(((Boxed.new (w.alloc (.cells #[.slice uso n ucap] 71)) 3 (.int .i64 to)).alloc (.cells (Array.replicate n (Value.bool false)) 4)).alloc (.cells #[.slice (some ⟨w.heap.size+1+1,0,none⟩) n n] 134)).alloc (.cells #[.func (.func 69) #[] #[.pointer (some ⟨w.heap.size,0,none⟩),.pointer (some ⟨w.heap.size+1,0,none⟩),.pointer (some ⟨w.heap.size+1+1+1,0,none⟩),.pointer (some ⟨w.heap.size+1+1+1+1,0,none⟩)]] 135)
   simpa only[World.size_alloc]using this
  ·have:=(Boxed.new (((w.alloc (.cells #[.slice uso n ucap] 71)).alloc (.cells #[.int .i64 to] 3)).alloc (.cells (Array.replicate n (Value.bool false)) 4)) 134 (.slice (some ⟨w.heap.size+1+1,0,none⟩) n n)).alloc (.cells #[.func (.func 69) #[] #[.pointer (some ⟨w.heap.size,0,none⟩),.pointer (some ⟨w.heap.size+1,0,none⟩),.pointer (some ⟨w.heap.size+1+1+1,0,none⟩),.pointer (some ⟨w.heap.size+1+1+1+1,0,none⟩)]] 135)
   simpa only[World.size_alloc]using this
  ·refine(Below.heap_alloc _ _ _ (by simp)).trans ((Below.heap_alloc _ _ _ (by simp)).trans ?_)
   rw[Qx _ _ (by simp)];simp
  ·have:=Boxed.new ((((w.alloc (.cells #[.slice uso n ucap] 71)).alloc (.cells #[.int .i64 to] 3)).alloc (.cells (Array.replicate n (Value.bool false)) 4)).alloc (.cells #[.slice (some ⟨w.heap.size+1+1,0,none⟩) n n] 134)) 135 (.func (.func 69) #[] #[.pointer (some ⟨w.heap.size,0,none⟩),.pointer (some ⟨w.heap.size+1,0,none⟩),.pointer (some ⟨w.heap.size+1+1+1,0,none⟩),.pointer (some ⟨w.heap.size+1+1+1+1,0,none⟩)])
   simpa only[World.size_alloc]using this
  ·exact(((((Below.refl _ w).alloc L0q _).alloc (by simp) _).alloc (by simp;omega) _).alloc (by simp;omega) _).alloc (by simp;omega) _
 have hun:unm (List.replicate n false)=n:=by simp[unm]
 have HC:=hid (z5l w.heap.size n to _ _ _ _ _ _ us w HU hN hX hn (n+1) (hid (z5m w.heap.size n to _ _ _ _ _ _ us w HU hN hX (by omega) hn (n+1))) (List.replicate n false) W5 to (by omega) hV ha);clear hV hun HU hX hN
 go_wp2_with fail
 rw[<-hW5];refine HC.out.mono ?_;clear HC hW5;rintro e w6 ⟨sn6,v6,⟨rfl,hb⟩|⟨rfl,c6,a6⟩⟩
 ·go_wp2_with fail
  go_ret;exact⟨.inl ⟨rfl,hb⟩,v6.be⟩
 ·go_wp2_with fail
  go_ret;exact⟨.inr ⟨rfl,y4t c6 a6⟩,v6.be⟩
end Go.Proofs.YtgmcjddjdidpjabGreatDoor
