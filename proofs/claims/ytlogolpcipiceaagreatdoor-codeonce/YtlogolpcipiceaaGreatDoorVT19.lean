/- Lemmas for the last text. Conditions: those that each names. -/
import Derived.Test.YtlogolpcipiceaaGreatDoorVT3ToT14
import Derived.Test.YtlogolpcipiceaaGreatDoorVU3ToU7
set_option linter.unusedVariables false
set_option maxRecDepth 100000
set_option maxHeartbeats 8000000
namespace Go.Proofs.YtlogolpcipiceaaGreatDoor
open Go.Proofs.Tryz
open Go.RowKit Go.Shelf Go.Maps
variable {W W':World} {bB:Nat}
theorem z4o{gB nB:Nat}{v0 v1 v2:Value}(h:W.cell? ⟨bB,0,none⟩=some v0/\W.cell? ⟨gB,0,none⟩=some v1/\W.cell? ⟨nB,1,none⟩=some v2)(hb:Below W.heap.size W W'):W'.cell? ⟨bB,0,none⟩=some v0/\W'.cell? ⟨gB,0,none⟩=some v1/\W'.cell? ⟨nB,1,none⟩=some v2:=by
 obtain⟨h0,h1,h2⟩:=h;have e:∀{a:Addr} {u:Value},W.cell? a=some u->W'.cell? a=some u:=fun{a u} h=>(hb.cell (p:=a) (World.block_lt_of_cell? W _ h)).trans h
 exact⟨e h0,e h1,e h2⟩
theorem y2k{gB nB:Nat}{v0 v1 v2:Value}{row:Option Nat}(h:W.cell? ⟨bB,0,none⟩=some v0/\W.cell? ⟨gB,0,none⟩=some v1/\W.cell? ⟨nB,1,none⟩=some v2)(n0:some bB≠row)(n1:some gB≠row)(n2:some nB≠row)(hg:W.grownBy W' row):W'.cell? ⟨bB,0,none⟩=some v0/\W'.cell? ⟨gB,0,none⟩=some v1/\W'.cell? ⟨nB,1,none⟩=some v2:=by
 obtain⟨h0,h1,h2⟩:=h;have e:∀{a:Addr} {u:Value},some a.block≠row->W.cell? a=some u->W'.cell? a=some u:=fun{a u} hne h=>(hg.cell_far a (World.block_lt_of_cell? W _ h) hne).trans h
 exact⟨e n0 h0,e n1 h1,e n2 h2⟩
theorem y2l(a b c:Bool)(w:World):(Instr.field 199 (.agg #[.bool a,.bool b,.bool c]) 0).run prog w=.ok (.bool a) w:=by kernel_rfl
def Fv(bB:Nat)(W W':World):Prop:=W.heap.size<=W'.heap.size/\∀b cur t,b≠bB->t≠3->W.heap[b]? =some (.cells cur t)->W'.heap[b]? =some (.cells cur t)
theorem Fv.refl(bB:Nat)(W:World):Fv bB W W:=⟨Nat.le_refl _,fun _ _ _ _ _ h=>h⟩
theorem Fv.trans{a b c:World}(h:Fv bB a b)(k:Fv bB b c):Fv bB a c:=⟨Nat.le_trans h.1 k.1,fun i cur t h1 h2 h3=>k.2 i cur t h1 h2 (h.2 i cur t h1 h2 h3)⟩
theorem Fv.below(h:Below W.heap.size W W'):Fv bB W W':=⟨h.size,fun b cur t _ _ hb=>(h.block b (Qz hb)).trans hb⟩
structure Bv (w0:World) (bB:Nat) (zs:List Int) (W:World):Prop where
 be:Below w0.heap.size w0 W
 bx:∃v,W.heap[bB]? =some (.cells #[v] 29)/\W.ownsRow w0.heap.size 3 1 v zs.length (zs.map (Value.int .i64))
theorem Bv.below{w0:World}{zs:List Int}(h:Bv w0 bB zs W)(hb:Below W.heap.size W W'):Bv w0 bB zs W':=by
 obtain⟨h1,v,h2,h3⟩:=h;exact⟨h1.trans (hb.mono h1.size),v,(hb.block _ (Qz h2)).trans h2,Ux h3 hb⟩
def VsQ(w0:World)(bB:Nat)(zs:List Int)(W:World)(e:Ending)(w':World):Prop:=e=.returned (.tuple #[])/\Bv w0 bB zs w'/\Fv bB W w'
theorem y2m(base bB gB:Nat)(so:Option Addr)(n cap:Nat)(k:Int)(T:ByteArray)(a b c d p:Int)(so1:Option Addr)(n1 cap1:Nat)(j:Nat)(xs:List Value)(sa:Option Addr)(sca:Nat)(fd:Int)(W:World)(hb:W.heap[bB]? =some (.cells #[.slice sa j sca] 29))(ho:W.ownsRow base 3 1 (.slice sa j sca) j xs)(hg:W.heap[gB]? =some (.cells #[.slice so n cap] 24))(hj:j<=1048576)(hbs:base<=W.heap.size)
  (HF:Hid (∀W',Below W.heap.size W W'->Calls prog 104 #[.agg #[.slice so n cap],.string T] W' fun e w'=>e=.returned (.int .i64 fd)/\Below W'.heap.size W' w')):
  Calls prog 141 #[.agg #[.int .i64 k,.string T,.int .u64 a,.int .u64 b,.int .u64 c,.int .u64 d,.slice so1 n1 cap1,.int .i64 p],.pointer (some ⟨bB,0,none⟩),.pointer (some ⟨gB,0,none⟩)] W fun e w'=>e=.returned (.tuple #[])/\∃W4 w6 g6 cap6,Below W.heap.size W W4/\W4.grownBy w6 (Value.slice sa j sca).ownBlock/\w'=w6.setCell ⟨bB,0,none⟩ (.slice (some ⟨g6,0,none⟩) (j+1) cap6)/\w6.ownsRow base 3 1 (.slice (some ⟨g6,0,none⟩) (j+1) cap6) (j+1) (xs++[.int .i64 fd])/\w6.heap[bB]? =some (.cells #[.slice sa j sca] 29):=by
 obtain⟨i0,hi0,hz0,hz1,hz2⟩:=info_parts Tryz.infoInt;obtain⟨W1,hW1⟩:∃W1,W1=W.alloc (.cells #[.int .i64 k,.string T,.int .u64 a,.int .u64 b,.int .u64 c,.int .u64 d,.slice so1 n1 cap1,.int .i64 p] 71):=⟨_,rfl⟩;have HB1:Hid (Below W.heap.size W W1.drew):=by rw[hW1];exact((Below.refl _ W).alloc L0q _).drew
 have hs1:W1.drew.heap.size=W.heap.size+1:=by rw[hW1];exact World.size_alloc _ _
 have hN1:W1.drew.heap[W.heap.size]? =some (.cells #[.int .i64 k,.string T,.int .u64 a,.int .u64 b,.int .u64 c,.int .u64 d,.slice so1 n1 cap1,.int .i64 p] 71):=by rw[hW1];exact Qx W _ rfl
 obtain⟨nB,hnB⟩:∃nB,nB=W.heap.size:=⟨_,rfl⟩;rw[<-hnB]at hN1;have lb:=Qz hb;have HS0:Hid (W1.drew.cell? ⟨bB,0,none⟩=some (.slice sa j sca)/\W1.drew.cell? ⟨gB,0,none⟩=some (.slice so n cap)/\W1.drew.cell? ⟨nB,1,none⟩=some (.string T)):=⟨(Qk ((HB1.out.block _ lb).trans hb)).1,(Qk ((HB1.out.block _ (Qz hg)).trans hg)).1,(Qw hN1).1.2.1⟩;have HSz:Hid (∀w3,Below W1.drew.heap.size W1.drew w3->base<=w3.heap.size/\bB<w3.heap.size):=fun w3 h=>by
  have:=h.size;constructor<;>omega
 have HSb3:Hid (∀w3,Below W1.drew.heap.size W1.drew w3->w3.heap[bB]? =some (.cells #[.slice sa j sca] 29)):=fun w3 h=>(h.block _ (by omega)).trans ((HB1.out.block _ lb).trans hb)
 have HOw:Hid (∀w3,Below W1.drew.heap.size W1.drew w3->w3.ownsRow base 3 1 (.slice sa j sca) j xs):=fun w3 h=>Ux (Ux ho HB1.out) h
 have HNe:Hid (some bB≠(Value.slice sa j sca).ownBlock):=fun e=>Gp ho hb (fun cur e=>by cases e) e.symm
 have HNg:Hid (some gB≠(Value.slice sa j sca).ownBlock):=fun e=>Gp ho hg (fun cur e=>by cases e) e.symm
 have HNn:Hid (some nB≠(Value.slice sa j sca).ownBlock):=fun e=>by have:=(ho.lt _ e.symm).2;omega
 have m1:j+1<=maxLen:=by unfold maxLen;omega
 have m2:(j+1)*8<=140737488355328:=by omega
 have HHs1:Hid (W.heap.size<=W1.drew.heap.size):=HB1.out.size;clear hb ho hg hN1 lb hbs hs1;go_enter func141,ntmps141
 go_wp2_with fail
 rw[<-hW1,<-hnB];clear hW1 hnB;refine Zl 7 (fun W:World=>W.cell? ⟨bB,0,none⟩=some (.slice sa j sca)/\W.cell? ⟨gB,0,none⟩=some (.slice so n cap)/\W.cell? ⟨nB,1,none⟩=some (.string T)) (by kernel_rfl) HS0.out (fun hHeld=> ?_);refine Qq 0 hHeld ?_;refine Qq 1 hHeld ?_;refine Qq 2 hHeld ?_;refine Qq 3 hHeld ?_
 (refine Qd 4 (fun K hK=> ?_);go_simp;refine(HF.out _ HB1.out).mono ?_;rintro e w3 ⟨rfl,HB3⟩;go_simp;replace hHeld:=z4o hHeld HB3;refine hK.out _ _ hHeld ?_;clear hK K)
 (try simp only[Act.put,List.setIfInBounds_toArray,List.set_cons_zero,List.set_cons_succ])
 (refine Qd 5 (fun K hK=> ?_);go_simp;replace hHeld:=z4o hHeld ((Below.refl _ w3).alloc L0q (.cells #[.int .i64 fd] 3));refine hK.out _ _ hHeld ?_;clear hK K)
 (try simp only[Act.put,List.setIfInBounds_toArray,List.set_cons_zero,List.set_cons_succ])
 (refine Qd 6 (fun K hK=> ?_);refine step_append_lies _ rfl (.tmp 4) (.tmp 9) 29 rfl base 3 i0 (.int .i64 0) 1 8 Tryz.underlying29 hi0 hz0 hz1 hz2 rfl (by decide) (.slice sa j sca) j xs (by rfl) ((HOw.out w3 HB3).alloc _) ⟨w3.heap.size,0,none⟩ 1 1 [.int .i64 fd] (by rfl) rfl (cell_one_new _ _ _) (by simp[Value.oneCell']) (by decide) m1 m2 (by rw[World.size_alloc];have:=HSz.out w3 HB3;omega) _ rfl ?_;intro g6 cap6 w6 hown6 hgr6 hat6 hlt6;have hS6:=((hgr6.block bB (by rw[World.size_alloc];have:=HSz.out w3 HB3;omega) HNe.out).trans (Below.heap_alloc _ _ _ (HSz.out w3 HB3).2)).trans (HSb3.out w3 HB3);replace hHeld:=y2k hHeld HNe.out HNg.out HNn.out hgr6;refine hK.out _ _ hHeld ?_;clear hK K)
 (try simp only[Act.put,List.setIfInBounds_toArray,List.set_cons_zero,List.set_cons_succ])
 refine Jh (fun K hK=> ?_);obtain⟨s0,s1⟩:=Qk hS6;have ls:=Qz hS6;clear hHeld
 go_simp
 refine hK.out _ _ ?_;clear hK K;have HEnd:Hid (∃W4 w6' g6' cap6',Below W.heap.size W W4/\W4.grownBy w6' (Value.slice sa j sca).ownBlock/\w6.setCell ⟨bB,0,none⟩ (.slice (some ⟨g6,0,none⟩) (j+1) cap6)=w6'.setCell ⟨bB,0,none⟩ (.slice (some ⟨g6',0,none⟩) (j+1) cap6')/\w6'.ownsRow base 3 1 (.slice (some ⟨g6',0,none⟩) (j+1) cap6') (j+1) (xs++[.int .i64 fd])/\w6'.heap[bB]? =some (.cells #[.slice sa j sca] 29)):=by
  have h1:=HB1.out.trans (HB3.mono HHs1.out);exact⟨_,w6,g6,cap6,h1.alloc h1.size _,hgr6,rfl,hown6,hS6⟩
 clear hgr6 hown6 hat6 hlt6 hS6 HB3 s0 s1
 go_wp2_with fail
 first|refine bodyPost_end (results_none rfl _ _ _) rfl ?_ |refine bodyPost_ret (results_none rfl _ _ _) rfl ?_
 exact⟨rfl,HEnd.out⟩
theorem y2n(w0:World)(bB gB:Nat)(so:Option Addr)(n cap:Nat)(rs:List Rr)(B:Nat)(hB:B<=w0.heap.size)(hg:w0.heap[gB]? =some (.cells #[.slice so n cap] 24))(hr:Qv w0 B so n rs)(hbB:w0.heap.size<=bB)(k:Int)(T:ByteArray)(a b c d p:Int)(so1:Option Addr)(n1 cap1:Nat)(zs:List Int)(W:World)(hV:Bv w0 bB zs W)(hz:zs.length<=1048576):
  Calls prog 141 #[.agg #[.int .i64 k,.string T,.int .u64 a,.int .u64 b,.int .u64 c,.int .u64 d,.slice so1 n1 cap1,.int .i64 p],.pointer (some ⟨bB,0,none⟩),.pointer (some ⟨gB,0,none⟩)] W (VsQ w0 bB (zs++[fdI T (nmL rs)]) W):=by
 obtain⟨hbe,v,h1,h2⟩:=hV;obtain⟨sa,sca,rfl⟩:=Yh h2;refine(y2m w0.heap.size bB gB so n cap k T a b c d p so1 n1 cap1 zs.length _ sa sca (fdI T (nmL rs)) W h1 h2 ((hbe.block _ (Qz hg)).trans hg) hz hbe.size (hid fun W' hW'=> ?_)).mono fun e w' he=> ?_
 ·have hb:=hbe.trans (hW'.mono hbe.size)
  exact Sw T so n cap rs B W' (hr.below (hb.mono hB)) (Nat.le_trans hB hb.size)
 ·obtain⟨rfl,W4,w6,g6,cap6,q1,q2,rfl,q4,q5⟩:=he
  have hlo:∀g,(Value.slice sa zs.length sca).ownBlock=some g->w0.heap.size<=g/\g<W.heap.size:=fun g e=>h2.lt g e
  have hb4:=hbe.trans (q1.mono hbe.size);have hb6:Below w0.heap.size w0 w6:=hb4.grown q2 hb4.size (fun g e=>(hlo g e).1);refine⟨rfl,⟨hb6.setCell (p:=⟨bB,0,none⟩) hbB _,_,Qb q5 0 _,?_⟩,?_,fun b cur t hb ht hc=> ?_⟩
  ·have:=q4.kept (grownBy_setCell' w6 bB (.slice (some ⟨g6,0,none⟩) (zs.length+1) cap6)) (.inr (Gp q4 q5 (fun cur e=>by cases e)))
   rw[List.length_append,List.map_append];exact this
  ·rw[World.size_setCell]
   exact Nat.le_trans q1.size q2.size
  ·have hne:some b≠(Value.slice sa zs.length sca).ownBlock:=fun e=>by
    refine Gp h2 hc (fun cur' e2=> ?_) e.symm;injection e2 with _ e3 _
    exact ht e3
   exact(Below.heap_setCell _ _ _ _ hb).trans ((q2.block b (Nat.lt_of_lt_of_le (Qz hc) q1.size) hne).trans ((q1.block b (Qz hc)).trans hc))
theorem y2o{K:ByteArray->Ot}{sq:Bool}{s:List RT}{j:Nat}(hj:j<s.length):fbL K sq (s.drop j)=fbT K s[j]++(if sq&& !(ofT K s[j]).1 then []else fbL K sq (s.drop (j+1))):=by
 rw[List.drop_eq_getElem_cons hj,fbL]
theorem y2p(w0:World)(bB gB:Nat)(so0:Option Addr)(n0 cap0:Nat)(rs:List Rr)(K:ByteArray->Ot)(HbB:Hid (w0.heap.size<=bB))(T:ByteArray)(a b c d p:Int)(so1:Option Addr)(cap1:Nat)(zs:List Int)(W:World)(HV:Hid (Bv w0 bB zs W))
  (HVis:Hid (∀W',Bv w0 bB zs W'->Calls prog 141 #[.agg #[.int .i64 5,.string T,.int .u64 a,.int .u64 b,.int .u64 c,.int .u64 d,.slice so1 0 cap1,.int .i64 p],.pointer (some ⟨bB,0,none⟩),.pointer (some ⟨gB,0,none⟩)] W' (VsQ w0 bB (zs++[fdI T (nmL rs)]) W'))):
  Calls prog 140 #[.agg #[.slice so0 n0 cap0],.agg #[.int .i64 5,.string T,.int .u64 a,.int .u64 b,.int .u64 c,.int .u64 d,.slice so1 0 cap1,.int .i64 p],.func (.func 141) #[] #[.pointer (some ⟨bB,0,none⟩),.pointer (some ⟨gB,0,none⟩)]] W (VsQ w0 bB (zs++[fdI T (nmL rs)]) W):=by
 obtain⟨W1,hW1⟩:∃W1,W1=(W.alloc (.cells #[.slice so0 n0 cap0] 24)).alloc (.cells #[.int .i64 5,.string T,.int .u64 a,.int .u64 b,.int .u64 c,.int .u64 d,.slice so1 0 cap1,.int .i64 p] 71):=⟨_,rfl⟩;have hB1:Below W.heap.size W W1:=by rw[hW1];exact((Below.refl _ W).alloc L0q _).alloc (by simp) _
 obtain⟨sB,hsB⟩:∃sB,sB=W.heap.size:=⟨_,rfl⟩;obtain⟨nB,hnB⟩:∃nB,nB=W.heap.size+1:=⟨_,rfl⟩;have HS1:Hid (W1.heap[sB]? =some (.cells #[.slice so0 n0 cap0] 24)):=by rw[hW1,hsB];exact(Below.heap_alloc _ _ _ (by simp)).trans (Qx _ _ (by simp))
 have HN1:Hid (W1.heap[nB]? =some (.cells #[.int .i64 5,.string T,.int .u64 a,.int .u64 b,.int .u64 c,.int .u64 d,.slice so1 0 cap1,.int .i64 p] 71)):=by rw[hW1,hnB];exact Qx _ _ (by simp)
 have hlb:bB<W.heap.size:=by obtain⟨v,h1,_⟩:=HV.out.bx;exact Qz h1
 have hsb:sB≠bB:=by omega
 have hnb:nB≠bB:=by omega
 have HV1:=hid (HV.out.below hB1);have HF1:Hid (Fv bB W W1):=Fv.below hB1;clear hB1 hlb;have HS:=hid (HVis.out W1 HV1.out);clear HVis;go_enter func140,ntmps140
 go_wp2_with fail
 rw[<-hW1];refine HS.out.mono ?_;clear HS hW1;rintro e w2 ⟨rfl,HVx,HFx⟩;have HN2:=hid (HFx.2 _ _ _ hnb (by decide) HN1.out);have HV2:=hid HVx;have HF2:=hid (HF1.out.trans HFx);obtain⟨⟨y0,y1,y2,y3,y4,y5,y6,y7⟩,_⟩:=Qw HN2.out;have ln:=Qz HN2.out;rw[<-hnB];clear HVx HFx HN1 HS1 HV1 HF1 hsB hnB
 go_wp2_with fail
 go_loopw [17] (fun i wr=>i=.int .i64 0/\Hid (Bv w0 bB (zs++[fdI T (nmL rs)]) wr)/\Hid (Fv bB W wr)) (fun i _=>0)
 case atStart=>exact⟨rfl,HV2,HF2⟩
 case round=>
  obtain⟨rfl,HVj,HFj⟩:=hrel;clear HV2 HF2 y0 y1 y2 y3 y4 y5 y6 y7 ln HN2
  go_wp2_with fail
  first|refine bodyPost_end (results_none rfl _ _ _) rfl ?_ |refine bodyPost_ret (results_none rfl _ _ _) rfl ?_
  exact⟨rfl,HVj.out,HFj.out⟩
theorem y2q(w0:World)(bB gB:Nat)(so0:Option Addr)(n0 cap0:Nat)(rs:List Rr)(K:ByteArray->Ot)(HbB:Hid (w0.heap.size<=bB))(k:Int)(hk:k≠5)(T:ByteArray)(a b c d p:Int)(so1:Option Addr)(n1 cap1:Nat)(s:List RT)(zs:List Int)(W:World)(HV:Hid (Bv w0 bB zs W))(hn:n1<=9223372036854775807)(HN:Hid (n1=s.length))
  (HL:Hid (zs.length+(fbL K (decide (k=6)) s).length<=1048576))
  (HO:Hid (∀j (hj:j<s.length),∃g o,so1=some ⟨g,o,none⟩/\g<w0.heap.size/\∃k1 T1 a1 b1 c1 d1 so2 n2 cap2 p1,Rc w0 g (o+j*8) k1 T1 a1 b1 c1 d1 (.slice so2 n2 cap2) p1/\
    (∀(ys:List Int) (W':World),Bv w0 bB ys W'->ys.length+(fbT K s[j]).length<=1048576->Calls prog 140 #[.agg #[.slice so0 n0 cap0],.agg #[.int .i64 k1,.string T1,.int .u64 a1,.int .u64 b1,.int .u64 c1,.int .u64 d1,.slice so2 n2 cap2,.int .i64 p1],.func (.func 141) #[] #[.pointer (some ⟨bB,0,none⟩),.pointer (some ⟨gB,0,none⟩)]] W' (VsQ w0 bB (ys++(fbT K s[j]).map fun x=>fdI x (nmL rs)) W'))/\
    ∀W':World,Below w0.heap.size w0 W'->Calls prog 137 #[.agg #[.slice so0 n0 cap0],.agg #[.int .i64 k1,.string T1,.int .u64 a1,.int .u64 b1,.int .u64 c1,.int .u64 d1,.slice so2 n2 cap2,.int .i64 p1]] W' fun e w'=>e=.returned (ov (ofT K s[j]))/\Below W'.heap.size W' w')):
  Calls prog 140 #[.agg #[.slice so0 n0 cap0],.agg #[.int .i64 k,.string T,.int .u64 a,.int .u64 b,.int .u64 c,.int .u64 d,.slice so1 n1 cap1,.int .i64 p],.func (.func 141) #[] #[.pointer (some ⟨bB,0,none⟩),.pointer (some ⟨gB,0,none⟩)]] W (VsQ w0 bB (zs++(fbL K (decide (k=6)) s).map fun x=>fdI x (nmL rs)) W):=by
 have hfld:=y2l;have hk5:(k == 5)=false:=by simp[hk]
 have hk5d:decide (k=5)=false:=by simp[hk]
 obtain⟨W1,hW1⟩:∃W1,W1=(W.alloc (.cells #[.slice so0 n0 cap0] 24)).alloc (.cells #[.int .i64 k,.string T,.int .u64 a,.int .u64 b,.int .u64 c,.int .u64 d,.slice so1 n1 cap1,.int .i64 p] 71):=⟨_,rfl⟩;have hB1:Below W.heap.size W W1:=by rw[hW1];exact((Below.refl _ W).alloc L0q _).alloc (by simp) _
 obtain⟨sB,hsB⟩:∃sB,sB=W.heap.size:=⟨_,rfl⟩;have HS1:Hid (W1.heap[sB]? =some (.cells #[.slice so0 n0 cap0] 24)):=by rw[hW1,hsB];exact(Below.heap_alloc _ _ _ (by simp)).trans (Qx _ _ (by simp))
 have HN1:Hid (W1.heap[sB+1]? =some (.cells #[.int .i64 k,.string T,.int .u64 a,.int .u64 b,.int .u64 c,.int .u64 d,.slice so1 n1 cap1,.int .i64 p] 71)):=by rw[hW1,hsB];exact Qx _ _ (by simp)
 have hlb:bB<W.heap.size:=by obtain⟨v,h1,_⟩:=HV.out.bx;exact Qz h1
 have hsb:sB≠bB:=by omega
 have hnb:sB+1≠bB:=by omega
 have HV1:=hid (HV.out.below hB1);have HF1:Hid (Fv bB W W1):=Fv.below hB1;clear hB1 hlb;go_enter func140,ntmps140
 go_wp2_with fail
 rw[<-hW1,<-hsB];clear hW1 hsB
 go_loopw [17] (fun i wr=>∃(j:Nat) (acc:List ByteArray),i=.int .i64 j/\j<=n1/\Hid (Bv w0 bB (zs++acc.map fun x=>fdI x (nmL rs)) wr)/\Hid (Fv bB W1 wr)/\Hid (fbL K (decide (k=6)) s=acc++fbL K (decide (k=6)) (s.drop j))) (fun i _=>n1-(intOf i).toNat)
 case atStart=>exact⟨0,[],rfl,Nat.zero_le _,by rw[List.map_nil,List.append_nil];exact HV1,Fv.refl _ _,by rw[List.drop_zero,List.nil_append];rfl⟩
 case round=>
  obtain⟨j,acc,rfl,hj,HVj,HFj,HAj⟩:=hrel;by_cases hjn:j<n1
  ·have hjI:(j:Int)<(n1:Int):=by omega
   have a0:decide ((j:Int)<(n1:Int))=true:=by simp;omega
   have hjs:j<s.length:=by rw[<-HN.out];exact hjn
   obtain⟨g,o,rfl,hg,k1,T1,a1,b1,c1,d1,so2,n2,cap2,p1,hrc,hvis,hout⟩:=HO.out j hjs;obtain⟨z0,z1,z2,z3,z4,z5,z6,z7⟩:=hrc.below HVj.out.be hg;have hgl:g<wr.heap.size:=World.block_lt_of_cell? wr _ z0;have hbq:=(Below.refl _ wr).alloc L0q (.cells #[.int .i64 k1,.string T1,.int .u64 a1,.int .u64 b1,.int .u64 c1,.int .u64 d1,.slice so2 n2 cap2,.int .i64 p1] 71);have HVa:=hid (HVj.out.below hbq);have HFa:=hid (HFj.out.trans (Fv.below hbq));have hSa:=HFa.out.2 _ _ _ hsb (by decide) HS1.out;have hNa:=HFa.out.2 _ _ _ hnb (by decide) HN1.out;obtain⟨g0,_⟩:=Qk hSa;have lg:=Qz hSa;have HSa:=hid hSa;have HNa:=hid hNa;have hAl:=HAj.out;rw[y2o hjs]at hAl;have hlen:(zs++acc.map fun x=>fdI x (nmL rs)).length+(fbT K s[j]).length<=1048576:=by
    have h1:=congrArg List.length hAl;have h2:=HL.out;simp only[List.length_append,List.length_map]at h1 ⊢;omega
   have HS:=hid (hvis _ _ HVa.out hlen);have HOut:=hid hout;have HAl:=hid hAl;have hnw:∀W',Fv bB wr W'->True:=fun _ _=>trivial
   have HXb:Hid ((wr.alloc (.cells #[.int .i64 k1,.string T1,.int .u64 a1,.int .u64 b1,.int .u64 c1,.int .u64 d1,.slice so2 n2 cap2,.int .i64 p1] 71)).heap[wr.heap.size]? =some (.cells #[.int .i64 k1,.string T1,.int .u64 a1,.int .u64 b1,.int .u64 c1,.int .u64 d1,.slice so2 n2 cap2,.int .i64 p1] 71)):=hid (Qx wr _ rfl);have hxb:wr.heap.size≠bB:=by obtain⟨v,h1,_⟩:=HVj.out.bx;have:=Qz h1;omega
   clear hvis hout hrc hSa hNa hAl hlen hbq hnw
   go_wp2_with fail
   refine HS.out.mono ?_;clear HS;rintro e w3 ⟨rfl,HVx,HFx⟩;have hS3:=HFx.2 _ _ _ hsb (by decide) HSa.out;have hN3:=HFx.2 _ _ _ hnb (by decide) HNa.out;have hX3:=HFx.2 _ _ _ hxb (by decide) HXb.out;have HV3:=hid HVx;have HF3:=hid (HFa.out.trans HFx);obtain⟨t0,_⟩:=Qk hS3;obtain⟨⟨y0,y1,y2,y3,y4,y5,y6,y7⟩,_⟩:=Qw hN3;obtain⟨⟨x0,x1,x2,x3,x4,x5,x6,x7⟩,_⟩:=Qw hX3;have ls:=Qz hS3;have ln:=Qz hN3;have lx:=Qz hX3;have HO3:=hid (HOut.out w3 HVx.be);have ez:∀A:List ByteArray,zs++acc.map (fun x=>fdI x (nmL rs))++A.map (fun x=>fdI x (nmL rs))=zs++(acc++A).map fun x=>fdI x (nmL rs):=fun A=>by rw[List.map_append,List.append_assoc]
   rw[ez]at HV3;have HEz:=hid ez;clear HVx HFx hS3 hN3 hX3 HOut ez;by_cases hk6:k=6
   ·have q6:(k == 6)=true:=by simp[hk6]
    have q6d:decide (k=6)=true:=by simp[hk6]
    obtain⟨⟨r1,r2,r3⟩,hr⟩:∃r,r=ofT K s[j]:=⟨_,rfl⟩;rw[<-hr]at HO3;have HR:=hid hr;clear hr;dsimp only[ov]at HO3;have HQ6:Hid (decide (k=6)=true):=q6d;have HK6:Hid (k=6):=hk6;clear hk6;cases r1 with
    |false=>
     go_wp2_with(first
      |(go_at_call 137;refine HO3.out.mono ?_;clear HO3;rintro e w4 ⟨rfl,hb4⟩;have HV4:=hid (HV3.out.below hb4);have HF4:=hid (HF3.out.trans (Fv.below hb4));clear hb4))
     first|refine bodyPost_end (results_none rfl _ _ _) rfl ?_ |refine bodyPost_ret (results_none rfl _ _ _) rfl ?_
     have hAl:=HAl.out;rw[<-HR.out]at hAl;rw[HQ6.out]at hAl ⊢;have e:fbL K true s=acc++fbT K s[j]:=by simpa using hAl
     rw[e];exact⟨rfl,HV4.out,HF1.out.trans HF4.out⟩
    |true=>
     go_wp2_with(first
      |(go_at_call 137;refine HO3.out.mono ?_;clear HO3;rintro e w4 ⟨rfl,hb4⟩;have HV4:=hid (HV3.out.below hb4);have HF4:=hid (HF3.out.trans (Fv.below hb4));clear hb4))
     refine⟨⟨j+1,acc++fbT K s[j],by go_num,by omega,HV4,HF4,?_⟩,by simp[intOf];omega⟩;have hAl:=HAl.out;rw[<-HR.out]at hAl;show _=_;rw[List.append_assoc];simpa using hAl
   ·have q6:(k == 6)=false:=by simp[hk6]
    have q6d:decide (k=6)=false:=by simp[hk6]
    have HQ6:Hid (decide (k=6)=false):=q6d;clear hk6
    go_wp2_with fail
    refine⟨⟨j+1,acc++fbT K s[j],by go_num,by omega,HV3,HF3,?_⟩,by simp[intOf];omega⟩;have hAl:=HAl.out;show _=_;rw[List.append_assoc];rw[HQ6.out]at hAl ⊢;simpa using hAl
  ·have a0:decide ((j:Int)<(n1:Int))=false:=by simp;omega
   clear HO
   go_wp2_with fail
   first|refine bodyPost_end (results_none rfl _ _ _) rfl ?_ |refine bodyPost_ret (results_none rfl _ _ _) rfl ?_
   have hA:=HAj.out;rw[List.drop_eq_nil_of_le (by have:=HN.out;omega),fbL,List.append_nil]at hA;rw[hA];exact⟨rfl,HVj.out,HF1.out.trans HFj.out⟩
theorem z4p(w0:World)(bB gB:Nat)(so:Option Addr)(n cap:Nat)(so0:Option Addr)(n0 cap0:Nat)(rs:List Rr)(K:ByteArray->Ot)(B:Nat)(hB:B<=w0.heap.size)(hg:w0.heap[gB]? =some (.cells #[.slice so n cap] 24))(hr:Qv w0 B so n rs)(hs:Qv w0 B so0 n0 (bG rs K))(hok:okG rs=true)(hck:ckR rs=none)(hz:RgZ rs)(hT:TabIs w0)(hbB:w0.heap.size<=bB):
  ∀(N:Nat) (t:RT) (cs:List Value) (zs:List Int) (W:World),SizeOf.sizeOf t<N->Bv w0 bB zs W->Qj w0 B t cs->Fit (nmL rs) t->zs.length+(fbT K t).length<=1048576->Calls prog 140 #[.agg #[.slice so0 n0 cap0],.agg cs.toArray,.func (.func 141) #[] #[.pointer (some ⟨bB,0,none⟩),.pointer (some ⟨gB,0,none⟩)]] W (VsQ w0 bB (zs++(fbT K t).map fun x=>fdI x (nmL rs)) W)
 |0,t,_,_,_,h,_,_,_,_=>by omega
 |N+1,.mk k T a b c d s p,cs,zs,W,hN,hV,ht,hf,hl=>by
  have ht0:=ht;rw[Qj]at ht;obtain⟨so1,cap1,rfl,hso⟩:=ht;by_cases hk:k=5
  ·subst hk
   have hs0:=Sl hf.ok;subst hs0;have e:fbT K (.mk 5 T a b c d [] p)=[T]:=by rw[fbT,if_pos rfl,fbL];rfl
   rw[e];exact y2p w0 bB gB so0 n0 cap0 rs K hbB T a b c d p so1 cap1 zs W (hid hV) (hid fun W' hV'=>y2n w0 bB gB so n cap rs B hB hg hr hbB 5 T a b c d p so1 0 cap1 zs W' hV' (by omega))
  ·have e:fbT K (.mk k T a b c d s p)=fbL K (decide (k=6)) s:=by rw[fbT,if_neg hk,List.nil_append]
   rw[e]at hl ⊢;refine y2q w0 bB gB so0 n0 cap0 rs K hbB k hk T a b c d p so1 _ cap1 s zs W (hid hV) (Eh hso) (Xd s) (hid hl) (hid fun j hj=> ?_);obtain⟨g,o,h1,h2,k1,T1,a1,b1,c1,d1,so2,n2,cap2,p1,h3,h4⟩:=Ml hB hso j hj;have hfj:=hf.sub j hj;refine⟨g,o,h1,h2,k1,T1,a1,b1,c1,d1,so2,n2,cap2,p1,h3,fun ys W' hV' hl'=> ?_,fun W' hW'=> ?_⟩
   ·have hsz:=List.sizeOf_lt_of_mem (List.getElem_mem hj)
    simp only[RT.mk.sizeOf_spec]at hN;exact z4p w0 bB gB so n cap so0 n0 cap0 rs K B hB hg hr hs hok hck hz hT hbB N s[j] _ ys W' (by omega) hV' h4 hfj hl'
   ·exact z4e so0 n0 cap0 rs K k1 T1 a1 b1 c1 d1 p1 so2 n2 cap2 _ B B W' (hs.below (hW'.mono hB)) (Nat.le_trans hB hW'.size) hok hck hz (hT.below hW' hT.lt) (h4.below (hW'.mono hB)) (Nat.le_trans hB hW'.size) hfj
end Go.Proofs.YtlogolpcipiceaaGreatDoor
