/-
  muntinlaw07.NullableRows answers true at any grammar and any two trees. Conditions: those that each theorem names.
-/
import Derived.Test.YtgoogfbphilpmaaGreatDoorVU14ToNBase
namespace Go.Proofs.YtgoogfbphilpmaaGreatDoor
open Go.RowKit Go.Shelf Go.Maps
set_option linter.unusedVariables false
/-- The arguments as the law's variables hold them. -/
structure Rw2 (w : World) (G N M : Array Value) (W : World) : Prop where
  be : Below w.heap.size w W
  g : W.heap[w.heap.size]? = some (.cells G 24)
  n : W.heap[w.heap.size + 1]? = some (.cells N 30)
  m : W.heap[w.heap.size + 1 + 1]? = some (.cells M 30)
theorem Rw2.below {w W W' : World} {G N M : Array Value} (h : Rw2 w G N M W) (hb : Below W.heap.size W W') : Rw2 w G N M W' :=
  ⟨h.be.trans (hb.mono h.be.size), (hb.block _ (node_lt h.g)).trans h.g, (hb.block _ (node_lt h.n)).trans h.n, (hb.block _ (node_lt h.m)).trans h.m⟩
/-- Two trees as a row's parts, in sixteen cells. -/
theorem two_is {W : World} {B : Nat} {t u : RT} (kx : Int) (Tx : ByteArray) (ax bx cx dx : Int) (sox : Option Addr) (nx capx : Nat) (px : Int) (ky : Int) (Ty : ByteArray) (ay by' cy dy : Int) (soy : Option Addr) (ny capy : Nat) (py : Int) (ht : RtIs W B t (r8 kx Tx ax bx cx dx sox nx capx px)) (hu : RtIs W B u (r8 ky Ty ay by' cy dy soy ny capy py)) (hB : B ≤ W.heap.size) (k : Int) :
    RtIs (W.alloc (.cells #[.int .i64 kx, .string Tx, .int .u64 ax, .int .u64 bx, .int .u64 cx, .int .u64 dx, .slice sox nx capx, .int .i64 px, .int .i64 ky, .string Ty, .int .u64 ay, .int .u64 by', .int .u64 cy, .int .u64 dy, .slice soy ny capy, .int .i64 py] 30)) (W.alloc (.cells #[.int .i64 kx, .string Tx, .int .u64 ax, .int .u64 bx, .int .u64 cx, .int .u64 dx, .slice sox nx capx, .int .i64 px, .int .i64 ky, .string Ty, .int .u64 ay, .int .u64 by', .int .u64 cy, .int .u64 dy, .slice soy ny capy, .int .i64 py] 30)).heap.size (.mk k { data := #[] } 0 0 0 0 [t, u] 0) (r8 k { data := #[] } 0 0 0 0 (some ⟨W.heap.size, 0, none⟩) 2 2 0) := by
  have hb := (Below.refl _ W).alloc (Nat.le_refl _) (.cells #[.int .i64 kx, .string Tx, .int .u64 ax, .int .u64 bx, .int .u64 cx, .int .u64 dx, .slice sox nx capx, .int .i64 px, .int .i64 ky, .string Ty, .int .u64 ay, .int .u64 by', .int .u64 cy, .int .u64 dy, .slice soy ny capy, .int .i64 py] 30)
  have hn := new_block_at W (.cells #[.int .i64 kx, .string Tx, .int .u64 ax, .int .u64 bx, .int .u64 cx, .int .u64 dx, .slice sox nx capx, .int .i64 px, .int .i64 ky, .string Ty, .int .u64 ay, .int .u64 by', .int .u64 cy, .int .u64 dy, .slice soy ny capy, .int .i64 py] 30) rfl
  have hs : W.heap.size ≤ (W.alloc (.cells #[.int .i64 kx, .string Tx, .int .u64 ax, .int .u64 bx, .int .u64 cx, .int .u64 dx, .slice sox nx capx, .int .i64 px, .int .i64 ky, .string Ty, .int .u64 ay, .int .u64 by', .int .u64 cy, .int .u64 dy, .slice soy ny capy, .int .i64 py] 30)).heap.size := hb.size
  have e : #[.int .i64 kx, .string Tx, .int .u64 ax, .int .u64 bx, .int .u64 cx, .int .u64 dx, .slice sox nx capx, .int .i64 px, .int .i64 ky, .string Ty, .int .u64 ay, .int .u64 by', .int .u64 cy, .int .u64 dy, .slice soy ny capy, .int .i64 py] = ((r8 kx Tx ax bx cx dx sox nx capx px) ++ (r8 ky Ty ay by' cy dy soy ny capy py)).toArray := rfl
  rw [RtIs]
  refine ⟨_, 2, rfl, .inr ⟨rfl, W.heap.size, 0, rfl, by simp, by rw [rtLen_eq]; unfold maxLen; simp, ?_⟩⟩
  rw [RtsIs, RtsIs, RtsIs]
  refine ⟨⟨_, RtIs.upto (Nat.le_trans hB hs) _ _ (ht.below (hb.mono hB)), fun j v hj => ?_⟩, ⟨_, RtIs.upto (Nat.le_trans hB hs) _ _ (hu.below (hb.mono hB)), fun j v hj => ?_⟩, trivial⟩
  · refine (cell_in hn (0 + j) v ?_).1
    rw [e, List.getElem?_toArray, Nat.zero_add, List.getElem?_append_left (List.getElem?_eq_some_iff.1 hj).1]
    exact hj
  · refine (cell_in hn (0 + 8 + j) v ?_).1
    rw [e, List.getElem?_toArray, List.getElem?_append_right (by simp)]
    simpa using hj
set_option maxRecDepth 100000 in
set_option maxHeartbeats 16000000 in
theorem nrows_any (so : Option Addr) (n cap : Nat) (rs : List Rr) (kx : Int) (Tx : ByteArray) (ax bx cx dx : Int) (sox : Option Addr) (nx capx : Nat) (px : Int) (t : RT) (ky : Int) (Ty : ByteArray) (ay by' cy dy : Int) (soy : Option Addr) (ny capy : Nat) (py : Int) (u : RT) (w : World) (hE : ErrIs w) (hT : TabIs w) (hz : RgZ rs) (hu : RgU rs) (h : RgIs w w.heap.size so n rs) (ht : RtIs w w.heap.size t (r8 kx Tx ax bx cx dx sox nx capx px)) (htz : RtZ t) (htu : RtU t) (hs : RtIs w w.heap.size u (r8 ky Ty ay by' cy dy soy ny capy py)) (hsz : RtZ u) (hsu : RtU u) :
    Calls Tryz.prog 6 #[.agg #[.slice so n cap], .agg #[.int .i64 kx, .string Tx, .int .u64 ax, .int .u64 bx, .int .u64 cx, .int .u64 dx, .slice sox nx capx, .int .i64 px], .agg #[.int .i64 ky, .string Ty, .int .u64 ay, .int .u64 by', .int .u64 cy, .int .u64 dy, .slice soy ny capy, .int .i64 py]] w fun e w' => e = .returned (.bool true) ∧ Below w.heap.size w w' := by
  obtain ⟨X, hX, hC⟩ := checked_all so n cap rs w.heap.size w hz hu h (Nat.le_refl _) hT
  have hq := eq_same
  obtain ⟨u1, hu1⟩ : ∃ u1, u1 = ((w.alloc (.cells #[.slice so n cap] 24)).alloc (.cells #[.int .i64 kx, .string Tx, .int .u64 ax, .int .u64 bx, .int .u64 cx, .int .u64 dx, .slice sox nx capx, .int .i64 px] 30)).alloc (.cells #[.int .i64 ky, .string Ty, .int .u64 ay, .int .u64 by', .int .u64 cy, .int .u64 dy, .slice soy ny capy, .int .i64 py] 30) := ⟨_, rfl⟩
  have hR1 : Rw2 w #[.slice so n cap] #[.int .i64 kx, .string Tx, .int .u64 ax, .int .u64 bx, .int .u64 cx, .int .u64 dx, .slice sox nx capx, .int .i64 px] #[.int .i64 ky, .string Ty, .int .u64 ay, .int .u64 by', .int .u64 cy, .int .u64 dy, .slice soy ny capy, .int .i64 py] u1 := by
    rw [hu1]
    refine ⟨(((Below.refl _ w).alloc (Nat.le_refl _) _).alloc (by simp) _).alloc (by simp; omega) _, ?_, ?_, ?_⟩
    · exact (Below.heap_alloc _ _ _ (by simp; omega)).trans ((Below.heap_alloc _ _ _ (by simp)).trans (new_block_at w _ rfl))
    · exact (Below.heap_alloc _ _ _ (by simp)).trans (new_block_at _ _ (by simp))
    · exact new_block_at _ _ (by simp)
  have HS := hid (usmall_ok u1 (hE.below hR1.be hE.lt) (hT.below hR1.be hT.lt))
  obtain ⟨V1, _, hX1⟩ := uexpr_any so n cap rs X kx Tx ax bx cx dx px sox nx capx t w.heap.size w hX hC hT hz h (Nat.le_refl _) ht htz htu
  obtain ⟨V2, _, hX2⟩ := uexpr_any so n cap rs X ky Ty ay by' cy dy py soy ny capy u w.heap.size w hX hC hT hz h (Nat.le_refl _) hs hsz hsu
  have HX1 := hid (fun (W : World) (hb : Below w.heap.size w W) => (hX1 W hb).mono fun e w' he => he.short)
  have HX2 := hid (fun (W : World) (hb : Below w.heap.size w W) => (hX2 W hb).mono fun e w' he => he.short)
  have HX3 := hid (fun (k : Int) (W : World) (hb : Below w.heap.size w W) => (uexpr_any so n cap rs X k { data := #[] } 0 0 0 0 0 (some ⟨W.heap.size, 0, none⟩) 2 2 (.mk k { data := #[] } 0 0 0 0 [t, u] 0) w.heap.size (W.alloc (.cells #[.int .i64 kx, .string Tx, .int .u64 ax, .int .u64 bx, .int .u64 cx, .int .u64 dx, .slice sox nx capx, .int .i64 px, .int .i64 ky, .string Ty, .int .u64 ay, .int .u64 by', .int .u64 cy, .int .u64 dy, .slice soy ny capy, .int .i64 py] 30)) hX (CkC.from hC (hb.alloc hb.size _)) (hT.below (hb.alloc hb.size _) hT.lt) hz (h.below (hb.alloc hb.size _)) (hb.alloc hb.size _).size (two_is kx Tx ax bx cx dx sox nx capx px ky Ty ay by' cy dy soy ny capy py (ht.below hb) (hs.below hb) hb.size k) (by rw [RtZ, RtsZ, RtsZ, RtsZ]; exact ⟨by decide, htz, hsz, trivial⟩) (by rw [RtU, RtsU, RtsU, RtsU]; exact ⟨by decide, by decide, by decide, by decide, htu, hsu, trivial⟩)).elim fun V hV => (hV.2 _ (Below.refl _ _)).mono fun e w' he => he.short)
  have HR1 := hid hR1
  have HU1 := hid hu1
  clear hR1 hu1 hX1 hX2 hE hT hz hu h ht hs htz htu hsz hsu hC hX
  dsimp only [r8] at HX1 HX2 HX3
  go_enter Tryz.func6, Tryz.ntmps6
  go_wp2_with fail
  rw [← HU1.out]
  clear HU1
  refine HS.out.mono ?_
  rintro e w1 ⟨rfl, HB1⟩
  have HRa := hid (HR1.out.below HB1.out)
  obtain ⟨g1, _⟩ := one_cell HRa.out.g
  obtain ⟨⟨x0, x1, x2, x3, x4, x5, x6, x7⟩, _⟩ := eight_cells HRa.out.n
  have lg1 := node_lt HRa.out.g
  have ln1 := node_lt HRa.out.n
  clear HS HB1 HR1
  go_wp2_with fail
  refine (HX1.out _ HRa.out.be).mono ?_
  rintro e w2 ⟨p1, p2, p3, v1, rfl, HB2, hv1⟩
  clear g1 x0 x1 x2 x3 x4 x5 x6 x7 lg1 ln1
  have HRb := hid ((HRa.out.below HB2.out).below ((Below.refl _ w2).alloc (Nat.le_refl _) (.cells #[.bool p1, .bool p2, .bool p3] 39)))
  have HPa := hid (new_block_at w2 (.cells #[.bool p1, .bool p2, .bool p3] 39) rfl)
  obtain ⟨g1, _⟩ := one_cell HRb.out.g
  obtain ⟨⟨x0, x1, x2, x3, x4, x5, x6, x7⟩, _⟩ := eight_cells HRb.out.m
  have lg1 := node_lt HRb.out.g
  have ln1 := node_lt HRb.out.m
  clear HB2 HRa HX1
  go_wp2_with fail
  refine (HX2.out _ HRb.out.be).mono ?_
  rintro e w3 ⟨q1, q2, q3, v2, rfl, HB3, hv2⟩
  clear g1 x0 x1 x2 x3 x4 x5 x6 x7 lg1 ln1
  have hb3 := (Below.refl _ w3).alloc (Nat.le_refl _) (.cells #[.bool q1, .bool q2, .bool q3] 39)
  have HRc := hid ((HRb.out.below HB3.out).below hb3)
  have HPa3 := blk_keep (blk_keep HPa HB3.out) hb3
  have HPb3 := hid (new_block_at w3 (.cells #[.bool q1, .bool q2, .bool q3] 39) rfl)
  obtain ⟨g1, _⟩ := one_cell HRc.out.g
  obtain ⟨⟨x0, x1, x2, x3, x4, x5, x6, x7⟩, _⟩ := eight_cells HRc.out.n
  obtain ⟨⟨y0, y1, y2, y3, y4, y5, y6, y7⟩, _⟩ := eight_cells HRc.out.m
  have lg1 := node_lt HRc.out.g
  have ln1 := node_lt HRc.out.n
  have lm1 := node_lt HRc.out.m
  have hbp := (Below.refl _ (w3.alloc (.cells #[.bool q1, .bool q2, .bool q3] 39))).alloc (Nat.le_refl _) (.cells #[.int .i64 kx, .string Tx, .int .u64 ax, .int .u64 bx, .int .u64 cx, .int .u64 dx, .slice sox nx capx, .int .i64 px, .int .i64 ky, .string Ty, .int .u64 ay, .int .u64 by', .int .u64 cy, .int .u64 dy, .slice soy ny capy, .int .i64 py] 30)
  have HRc' := hid (HRc.out.below hbp)
  have HPa3' := blk_keep HPa3 hbp
  have HPb3' := blk_keep HPb3 hbp
  have HS3 := hid (HX3.out 6 _ HRc.out.be)
  rw [World.size_alloc w3] at HS3
  clear HB3 HRb HX2 hb3 hbp HPa HPa3 HPb3
  go_wp2_with fail
  refine HS3.out.mono ?_
  rintro e w4 ⟨s1, s2, s3, v3, rfl, HB4, hv3⟩
  clear HS3 HRc g1 x0 x1 x2 x3 x4 x5 x6 x7 y0 y1 y2 y3 y4 y5 y6 y7 lg1 ln1 lm1
  have hb4 := (Below.refl _ w4).alloc (Nat.le_refl _) (.cells #[.bool s1, .bool s2, .bool s3] 39)
  have HRd := hid ((HRc'.out.below HB4.out).below hb4)
  have HPa4 := blk_keep (blk_keep HPa3' HB4.out) hb4
  have HPb4 := blk_keep (blk_keep HPb3' HB4.out) hb4
  have HPc4 := hid (new_block_at w4 (.cells #[.bool s1, .bool s2, .bool s3] 39) rfl)
  obtain ⟨g1, _⟩ := one_cell HRd.out.g
  obtain ⟨⟨x0, x1, x2, x3, x4, x5, x6, x7⟩, _⟩ := eight_cells HRd.out.n
  obtain ⟨⟨y0, y1, y2, y3, y4, y5, y6, y7⟩, _⟩ := eight_cells HRd.out.m
  have lg1 := node_lt HRd.out.g
  have ln1 := node_lt HRd.out.n
  have lm1 := node_lt HRd.out.m
  have hbp := (Below.refl _ (w4.alloc (.cells #[.bool s1, .bool s2, .bool s3] 39))).alloc (Nat.le_refl _) (.cells #[.int .i64 kx, .string Tx, .int .u64 ax, .int .u64 bx, .int .u64 cx, .int .u64 dx, .slice sox nx capx, .int .i64 px, .int .i64 ky, .string Ty, .int .u64 ay, .int .u64 by', .int .u64 cy, .int .u64 dy, .slice soy ny capy, .int .i64 py] 30)
  have HRd' := hid (HRd.out.below hbp)
  have HPa4' := blk_keep HPa4 hbp
  have HPb4' := blk_keep HPb4 hbp
  have HPc4' := blk_keep HPc4 hbp
  have HS4 := hid (HX3.out 7 _ HRd.out.be)
  rw [World.size_alloc w4] at HS4
  clear HB4 HRc' HX3 hb4 hbp HPa3' HPb3' HPa4 HPb4 HPc4
  go_wp2_with fail
  refine HS4.out.mono ?_
  rintro e w5 ⟨r1, r2, r3, v4, rfl, HB5, hv4⟩
  clear HS4 HRd g1 x0 x1 x2 x3 x4 x5 x6 x7 y0 y1 y2 y3 y4 y5 y6 y7 lg1 ln1 lm1
  have hb5 := (Below.refl _ w5).alloc (Nat.le_refl _) (.cells #[.bool r1, .bool r2, .bool r3] 39)
  have HRe := hid ((HRd'.out.below HB5.out).below hb5)
  have HPa5 := blk_keep (blk_keep HPa4' HB5.out) hb5
  have HPb5 := blk_keep (blk_keep HPb4' HB5.out) hb5
  have HPc5 := blk_keep (blk_keep HPc4' HB5.out) hb5
  have HPd5 := hid (new_block_at w5 (.cells #[.bool r1, .bool r2, .bool r3] 39) rfl)
  clear HB5 HRd' hb5 HPa4' HPb4' HPc4'
  rcases hv1 with ⟨tt, uu, rfl⟩ | ⟨rfl, H1⟩
  · go_wp2_with fail
    go_ret
    exact ⟨rfl, HRe.out.be⟩
  rcases hv2 with ⟨tt, uu, rfl⟩ | ⟨rfl, H2⟩
  · go_wp2_with fail
    go_ret
    exact ⟨rfl, HRe.out.be⟩
  rcases hv3 with ⟨tt, uu, rfl⟩ | ⟨rfl, H3⟩
  · go_wp2_with fail
    go_ret
    exact ⟨rfl, HRe.out.be⟩
  rcases hv4 with ⟨tt, uu, rfl⟩ | ⟨rfl, H4⟩
  · go_wp2_with fail
    go_ret
    exact ⟨rfl, HRe.out.be⟩
  obtain ⟨m1, f1, e1⟩ := H1.out
  obtain ⟨m2, f2, e2⟩ := H2.out
  obtain ⟨m3, f3, e3⟩ := H3.out
  obtain ⟨m4, f4, e4⟩ := H4.out
  rw [itr_one f2 f1] at e2
  rw [itr_one f3 f1, ofT] at e3
  rw [itr_one f4 f1, ofT] at e4
  simp only [Int.reduceEq, if_false, if_true, ofS, ofA, ← e1, ← e2] at e3 e4
  clear f1 f2 f3 f4 e1 e2 H1 H2 H3 H4
  obtain ⟨⟨a0, a1, a2⟩, _⟩ := three_cells HPa5.out
  obtain ⟨⟨b0, b1, b2⟩, _⟩ := three_cells HPb5.out
  obtain ⟨⟨c0, c1, c2⟩, _⟩ := three_cells HPc5.out
  obtain ⟨⟨d0, d1, d2⟩, _⟩ := three_cells HPd5.out
  have la := node_lt HPa5.out
  rw [World.size_alloc] at la
  have lb := node_lt HPb5.out
  rw [World.size_alloc] at lb
  have lc := node_lt HPc5.out
  rw [World.size_alloc] at lc
  have ld := node_lt HPd5.out
  rw [World.size_alloc] at ld
  clear HPa5 HPb5 HPc5 HPd5
  have HFin : Hid (∀ o1 o2 : Obj, Below w.heap.size w (((w5.alloc (.cells #[.bool r1, .bool r2, .bool r3] 39)).alloc o1).alloc o2)) := fun o1 o2 => (HRe.out.be.alloc HRe.out.be.size o1).alloc (by have := HRe.out.be.size; simp only [World.size_alloc] at this ⊢; omega) o2
  cases p1 <;> cases p2 <;> cases p3 <;> cases q1 <;> (
    simp [seqO, altO, suc] at e3 e4
    obtain ⟨rfl, rfl, rfl⟩ := e3
    obtain ⟨rfl, rfl, rfl⟩ := e4
    go_wp2_with fail
    all_goals (
      go_ret
      exact ⟨rfl, HFin.out _ _⟩))
end Go.Proofs.YtgoogfbphilpmaaGreatDoor
