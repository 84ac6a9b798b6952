/-
  What nullable.Expr answers. Conditions: those that each theorem names.
-/
import Derived.Test.YtgoogfbphilpmaaGreatDoorVO15ToSC
namespace Go.Proofs.YtgoogfbphilpmaaGreatDoor
open Go.RowKit Go.Shelf Go.Maps
set_option linter.unusedVariables false
theorem keep_x {w W W' : World} {y y0 y1 y2 y3 y4 y5 y6 y7 : Value} (h : Hid (Below w.heap.size w W) ∧ Hid (∃ v0 v1 v2 : Value, W.heap[w.heap.size + 1 + 1]? = some (.cells #[v0, v1, v2] 39)) ∧ W.cell? ⟨w.heap.size, 0, none⟩ = some y ∧ W.cell? ⟨w.heap.size + 1, 0, none⟩ = some y0 ∧ W.cell? ⟨w.heap.size + 1, 1, none⟩ = some y1 ∧ W.cell? ⟨w.heap.size + 1, 2, none⟩ = some y2 ∧ W.cell? ⟨w.heap.size + 1, 3, none⟩ = some y3 ∧ W.cell? ⟨w.heap.size + 1, 4, none⟩ = some y4 ∧ W.cell? ⟨w.heap.size + 1, 5, none⟩ = some y5 ∧ W.cell? ⟨w.heap.size + 1, 6, none⟩ = some y6 ∧ W.cell? ⟨w.heap.size + 1, 7, none⟩ = some y7) (hb : Below W.heap.size W W') : Hid (Below w.heap.size w W') ∧ Hid (∃ v0 v1 v2 : Value, W'.heap[w.heap.size + 1 + 1]? = some (.cells #[v0, v1, v2] 39)) ∧ W'.cell? ⟨w.heap.size, 0, none⟩ = some y ∧ W'.cell? ⟨w.heap.size + 1, 0, none⟩ = some y0 ∧ W'.cell? ⟨w.heap.size + 1, 1, none⟩ = some y1 ∧ W'.cell? ⟨w.heap.size + 1, 2, none⟩ = some y2 ∧ W'.cell? ⟨w.heap.size + 1, 3, none⟩ = some y3 ∧ W'.cell? ⟨w.heap.size + 1, 4, none⟩ = some y4 ∧ W'.cell? ⟨w.heap.size + 1, 5, none⟩ = some y5 ∧ W'.cell? ⟨w.heap.size + 1, 6, none⟩ = some y6 ∧ W'.cell? ⟨w.heap.size + 1, 7, none⟩ = some y7 := by
  obtain ⟨h1, h2, z, z0, z1, z2, z3, z4, z5, z6, z7⟩ := h
  have e : ∀ {a : Addr} {u : Value}, W.cell? a = some u → W'.cell? a = some u := fun {a u} h => (hb.cell (p := a) (World.block_lt_of_cell? W _ h)).trans h
  obtain ⟨r0, r1, r2, hr⟩ := h2.out
  exact ⟨hid (h1.out.trans (hb.mono h1.out.size)), hid ⟨r0, r1, r2, (hb.block _ (node_lt hr)).trans hr⟩, e z, e z0, e z1, e z2, e z3, e z4, e z5, e z6, e z7⟩
theorem keep_xS {w W : World} {y y0 y1 y2 y3 y4 y5 y6 y7 x1 x2 x3 : Value} (h : Hid (Below w.heap.size w W) ∧ Hid (∃ v0 v1 v2 : Value, W.heap[w.heap.size + 1 + 1]? = some (.cells #[v0, v1, v2] 39)) ∧ W.cell? ⟨w.heap.size, 0, none⟩ = some y ∧ W.cell? ⟨w.heap.size + 1, 0, none⟩ = some y0 ∧ W.cell? ⟨w.heap.size + 1, 1, none⟩ = some y1 ∧ W.cell? ⟨w.heap.size + 1, 2, none⟩ = some y2 ∧ W.cell? ⟨w.heap.size + 1, 3, none⟩ = some y3 ∧ W.cell? ⟨w.heap.size + 1, 4, none⟩ = some y4 ∧ W.cell? ⟨w.heap.size + 1, 5, none⟩ = some y5 ∧ W.cell? ⟨w.heap.size + 1, 6, none⟩ = some y6 ∧ W.cell? ⟨w.heap.size + 1, 7, none⟩ = some y7) (W' : World) (e : W' = ((W.setCell ⟨w.heap.size + 1 + 1, 0, none⟩ x1).setCell ⟨w.heap.size + 1 + 1, 1, none⟩ x2).setCell ⟨w.heap.size + 1 + 1, 2, none⟩ x3) : Hid (Below w.heap.size w W') ∧ Hid (∃ v0 v1 v2 : Value, W'.heap[w.heap.size + 1 + 1]? = some (.cells #[v0, v1, v2] 39)) ∧ W'.cell? ⟨w.heap.size, 0, none⟩ = some y ∧ W'.cell? ⟨w.heap.size + 1, 0, none⟩ = some y0 ∧ W'.cell? ⟨w.heap.size + 1, 1, none⟩ = some y1 ∧ W'.cell? ⟨w.heap.size + 1, 2, none⟩ = some y2 ∧ W'.cell? ⟨w.heap.size + 1, 3, none⟩ = some y3 ∧ W'.cell? ⟨w.heap.size + 1, 4, none⟩ = some y4 ∧ W'.cell? ⟨w.heap.size + 1, 5, none⟩ = some y5 ∧ W'.cell? ⟨w.heap.size + 1, 6, none⟩ = some y6 ∧ W'.cell? ⟨w.heap.size + 1, 7, none⟩ = some y7 := by
  obtain ⟨h1, h2, z, z0, z1, z2, z3, z4, z5, z6, z7⟩ := h
  have hs : W.grownBy W' (some (w.heap.size + 1 + 1)) := by rw [e]; exact three_set _ _ _ _ _
  have k : ∀ {a : Addr} {u : Value}, a.block ≠ w.heap.size + 1 + 1 → W.cell? a = some u → W'.cell? a = some u := fun {a u} hne h => (World.cell?_of_block (hs.block a.block (World.block_lt_of_cell? W _ h) (fun e => hne (Option.some.inj e)))).trans h
  obtain ⟨r0, r1, r2, hr⟩ := h2.out
  have hl : ∀ j, (⟨w.heap.size, j, none⟩ : Addr).block ≠ w.heap.size + 1 + 1 := fun j => by show w.heap.size ≠ _; omega
  have hl2 : ∀ j, (⟨w.heap.size + 1, j, none⟩ : Addr).block ≠ w.heap.size + 1 + 1 := fun j => by show w.heap.size + 1 ≠ _; omega
  exact ⟨hid (h1.out.grown hs h1.out.size (fun g e => by have := Option.some.inj e; omega)), hid ⟨x1, x2, x3, by rw [e]; exact three_put hr⟩, k (hl _) z, k (hl2 _) z0, k (hl2 _) z1, k (hl2 _) z2, k (hl2 _) z3, k (hl2 _) z4, k (hl2 _) z5, k (hl2 _) z6, k (hl2 _) z7⟩
theorem right_x {w W W' : World} {p : Prop} (h : Hid (Below w.heap.size w W) ∧ Hid (∃ v0 v1 v2 : Value, W.heap[w.heap.size + 1 + 1]? = some (.cells #[v0, v1, v2] 39)) ∧ p) (hb : Below W.heap.size W W') : Hid (Below w.heap.size w W') ∧ Hid (∃ v0 v1 v2 : Value, W'.heap[w.heap.size + 1 + 1]? = some (.cells #[v0, v1, v2] 39)) := by
  obtain ⟨r0, r1, r2, hr⟩ := h.2.1.out
  exact ⟨hid (h.1.out.trans (hb.mono h.1.out.size)), hid ⟨r0, r1, r2, (hb.block _ (node_lt hr)).trans hr⟩⟩
theorem errV.kept {X : Option (Int ⊕ (Int × Int))} {S R : Nat} {w w' : World} {v : Value} (h : errV X S w v) (hg : w.grownBy w' (some R)) (hR : R < S) : errV X S w' v := by
  unfold errV at h ⊢
  match X, h with
  | none, h => exact h
  | some (.inl c), h => exact h
  | some (.inr q), h =>
    obtain ⟨g, h1, h2, h3⟩ := h
    exact ⟨g, h1, h2, (hg.block g (node_lt h3) (fun e => by have := Option.some.inj e; omega)).trans h3⟩
set_option maxRecDepth 100000 in
set_option maxHeartbeats 8000000 in
theorem uexpr_err (so : Option Addr) (n cap : Nat) (X : Option (Int ⊕ (Int × Int))) (k : Int) (T : ByteArray) (a b c d : Int) (so1 : Option Addr) (n1 cap1 : Nat) (p : Int) (w : World) (hX : X ≠ none)
    (HC : Hid (∀ W : World, Below w.heap.size w W → Calls Tryz.prog 23 #[.agg #[.slice so n cap]] W fun e w' => ∃ v, e = .returned v ∧ errV X W.heap.size w' v ∧ Below W.heap.size W w')) :
    Calls Tryz.prog 11 #[.agg #[.slice so n cap], .agg #[.int .i64 k, .string T, .int .u64 a, .int .u64 b, .int .u64 c, .int .u64 d, .slice so1 n1 cap1, .int .i64 p]] w fun e w' => ∃ v, e = .returned (.tuple #[ov (false, false, false), v]) ∧ errV X w.heap.size w' v ∧ Below w.heap.size w w' := by
  obtain ⟨W1, hW1⟩ : ∃ W1, W1 = ((w.alloc (.cells #[.slice so n cap] 24)).alloc (.cells #[.int .i64 k, .string T, .int .u64 a, .int .u64 b, .int .u64 c, .int .u64 d, .slice so1 n1 cap1, .int .i64 p] 30)).alloc (.cells #[.bool false, .bool false, .bool false] 39) := ⟨_, rfl⟩
  have hB1 : Below w.heap.size w W1 := by rw [hW1]; exact (((Below.refl _ w).alloc (Nat.le_refl _) _).alloc (by simp) _).alloc (by simp; omega) _
  have HR1 : Hid (W1.heap[w.heap.size + 1 + 1]? = some (.cells #[.bool false, .bool false, .bool false] 39)) := by rw [hW1]; exact new_block_at _ _ (by simp)
  have HS := hid (HC.out W1 hB1)
  have HB1 := hid hB1
  have hs1 := node_lt HR1.out
  have HW1 := hid hW1
  clear hW1 hB1 HC
  go_enter Tryz.func11, Tryz.ntmps11
  go_wp2_with fail
  rw [← HW1.out]
  refine HS.out.mono ?_
  rintro e w2 ⟨v, rfl, hv, hb2⟩
  obtain ⟨tt, uu, rfl⟩ := hv.shape hX
  have hr2 := (hb2.block _ (node_lt HR1.out)).trans HR1.out
  obtain ⟨⟨u0, u1, u2⟩, f0, f1, f2⟩ := three_cells hr2
  have lr := node_lt hr2
  have HR2 := hid hr2
  have HV := hid hv
  have HB2 := hid (HB1.out.trans (hb2.mono HB1.out.size))
  have HSz := hid HB1.out.size
  clear hv hb2 hr2 HS HW1 HR1 HB1
  go_wp2_with fail
  obtain ⟨⟨r0, r1, r2⟩, _⟩ := three_cells (three_put (v0 := .bool false) (v1 := .bool false) (v2 := .bool false) HR2.out)
  refine bodyPost_ret (v := .tuple #[.agg #[.bool false, .bool false, .bool false], .iface tt uu]) (by simp [results, Tryz.results11, go_sem, r0, r1, r2]) rfl ?_
  exact ⟨_, rfl, (HV.out.kept (three_set _ _ _ _ _) hs1).lo HSz.out, HB2.out.grown (three_set _ _ _ _ _) HB2.out.size (fun g e => by have := Option.some.inj e; omega)⟩
set_option maxRecDepth 100000 in
set_option maxHeartbeats 8000000 in
theorem uexpr_arg (so : Option Addr) (n cap : Nat) (k : Int) (T : ByteArray) (a b c d : Int) (so1 : Option Addr) (n1 cap1 : Nat) (p : Int) (w : World) (V : ByteArray) (q : Bool) (hV : V = { data := #[] } ∨ (V.toList.isEmpty = false ∧ q = false))
    (HC : Hid (∀ W : World, Below w.heap.size w W → Calls Tryz.prog 23 #[.agg #[.slice so n cap]] W fun e w' => e = .returned .nilIface ∧ Below W.heap.size W w'))
    (HE : Hid (∀ W : World, Below w.heap.size w W → Calls Tryz.prog 25 #[.agg #[.int .i64 k, .string T, .int .u64 a, .int .u64 b, .int .u64 c, .int .u64 d, .slice so1 n1 cap1, .int .i64 p]] W fun e w' => e = .returned (.string V) ∧ Below W.heap.size W w'))
    (HH : Hid (∀ W : World, Below w.heap.size w W → Calls Tryz.prog 26 #[.agg #[.slice so n cap], .agg #[.int .i64 k, .string T, .int .u64 a, .int .u64 b, .int .u64 c, .int .u64 d, .slice so1 n1 cap1, .int .i64 p]] W fun e w' => e = .returned (.bool q) ∧ Below W.heap.size W w')) :
    Calls Tryz.prog 11 #[.agg #[.slice so n cap], .agg #[.int .i64 k, .string T, .int .u64 a, .int .u64 b, .int .u64 c, .int .u64 d, .slice so1 n1 cap1, .int .i64 p]] w fun e w' => e = .returned (.tuple #[ov (false, false, false), .iface 43 (.int .i64 1)]) ∧ Below w.heap.size w w' := by
  obtain ⟨W1, hW1⟩ : ∃ W1, W1 = ((w.alloc (.cells #[.slice so n cap] 24)).alloc (.cells #[.int .i64 k, .string T, .int .u64 a, .int .u64 b, .int .u64 c, .int .u64 d, .slice so1 n1 cap1, .int .i64 p] 30)).alloc (.cells #[.bool false, .bool false, .bool false] 39) := ⟨_, rfl⟩
  have hB1 : Below w.heap.size w W1 := by rw [hW1]; exact (((Below.refl _ w).alloc (Nat.le_refl _) _).alloc (by simp) _).alloc (by simp; omega) _
  have hR1 : W1.heap[w.heap.size + 1 + 1]? = some (.cells #[.bool false, .bool false, .bool false] 39) := by rw [hW1]; exact new_block_at _ _ (by simp)
  have hG1 : W1.heap[w.heap.size]? = some (.cells #[.slice so n cap] 24) := by rw [hW1]; exact (Below.heap_alloc _ _ _ (by simp; omega)).trans ((Below.heap_alloc _ _ _ (by simp)).trans (new_block_at w _ rfl))
  have hN1 : W1.heap[w.heap.size + 1]? = some (.cells #[.int .i64 k, .string T, .int .u64 a, .int .u64 b, .int .u64 c, .int .u64 d, .slice so1 n1 cap1, .int .i64 p] 30) := by rw [hW1]; exact (Below.heap_alloc _ _ _ (by simp)).trans (new_block_at _ _ (by simp))
  have HS := hid (HC.out W1 hB1)
  have HB1 := hid hB1
  have HW1 := hid hW1
  have HR1 := hid hR1
  have HG1 := hid hG1
  have HN1 := hid hN1
  clear hW1 hB1 HC hR1 hG1 hN1
  go_enter Tryz.func11, Tryz.ntmps11
  go_wp2_with fail
  rw [← HW1.out]
  refine HS.out.mono ?_
  rintro e w2 ⟨rfl, hb2⟩
  have HB2 := hid (HB1.out.trans (hb2.mono HB1.out.size))
  have HR2 := hid ((hb2.block _ (node_lt HR1.out)).trans HR1.out)
  have HG2 := hid ((hb2.block _ (node_lt HG1.out)).trans HG1.out)
  have HN2 := hid ((hb2.block _ (node_lt HN1.out)).trans HN1.out)
  obtain ⟨g0, _⟩ := one_cell HG2.out
  obtain ⟨⟨n0, nn1, n2, n3, n4, n5, n6, n7⟩, _⟩ := eight_cells HN2.out
  have lg := node_lt HG2.out
  have ln := node_lt HN2.out
  have S2 : Hid ((fun W : World => Hid (Below w.heap.size w W) ∧ Hid (∃ v0 v1 v2 : Value, W.heap[w.heap.size + 1 + 1]? = some (.cells #[v0, v1, v2] 39)) ∧ W.cell? ⟨w.heap.size, 0, none⟩ = some (.slice so n cap) ∧ W.cell? ⟨w.heap.size + 1, 0, none⟩ = some (.int .i64 k) ∧ W.cell? ⟨w.heap.size + 1, 1, none⟩ = some (.string T) ∧ W.cell? ⟨w.heap.size + 1, 2, none⟩ = some (.int .u64 a) ∧ W.cell? ⟨w.heap.size + 1, 3, none⟩ = some (.int .u64 b) ∧ W.cell? ⟨w.heap.size + 1, 4, none⟩ = some (.int .u64 c) ∧ W.cell? ⟨w.heap.size + 1, 5, none⟩ = some (.int .u64 d) ∧ W.cell? ⟨w.heap.size + 1, 6, none⟩ = some (.slice so1 n1 cap1) ∧ W.cell? ⟨w.heap.size + 1, 7, none⟩ = some (.int .i64 p)) w2) := ⟨HB2, hid ⟨_, _, _, HR2.out⟩, g0, n0, nn1, n2, n3, n4, n5, n6, n7⟩
  clear hb2 HS HW1 HR1 HB1 HG1 HN1
  rcases hV with rfl | ⟨hV, rfl⟩
  · go_wp2_with (first
      | (go_at_call 25; refine (HE.out _ HB2.out).mono ?_; rintro e w3 ⟨rfl, hb3⟩; have HB3 := hid (HB2.out.trans (hb3.mono HB2.out.size)); have hr3 := (hb3.block _ (node_lt HR2.out)).trans HR2.out; obtain ⟨⟨u0, u1, u2⟩, f0, f1, f2⟩ := three_cells hr3; have lr := node_lt hr3; have HR3 := hid hr3; clear hr3))
    obtain ⟨⟨r0, r1, r2⟩, _⟩ := three_cells (three_put (v0 := .bool false) (v1 := .bool false) (v2 := .bool false) HR3.out)
    refine bodyPost_ret (v := .tuple #[.agg #[.bool false, .bool false, .bool false], .iface 43 (.int .i64 1)]) (by simp [results, Tryz.results11, go_sem, r0, r1, r2]) rfl ?_
    exact ⟨rfl, HB3.out.grown (three_set _ _ _ _ _) HB3.out.size (fun g e => by have := Option.some.inj e; omega)⟩
  · go_wp2_with (first
      | (go_at_call 25; refine (HE.out _ HB2.out).mono ?_; rintro e w3 ⟨rfl, hb3⟩; have HB3 := hid (HB2.out.trans (hb3.mono HB2.out.size)); have HR3 := hid ((hb3.block _ (node_lt HR2.out)).trans HR2.out); have S3 := hid (keep_x S2.out hb3); obtain ⟨-, -, g3, m0, m1, m2, m3, m4, m5, m6, m7⟩ := S3.out)
      | (go_at_call 26; refine (HH.out _ HB3.out).mono ?_; rintro e w4 ⟨rfl, hb4⟩; have HB4 := hid (HB3.out.trans (hb4.mono HB3.out.size)); have hr4 := (hb4.block _ (node_lt HR3.out)).trans HR3.out; obtain ⟨⟨u0, u1, u2⟩, f0, f1, f2⟩ := three_cells hr4; have lr := node_lt hr4; have HR4 := hid hr4; clear hr4))
    obtain ⟨⟨r0, r1, r2⟩, _⟩ := three_cells (three_put (v0 := .bool false) (v1 := .bool false) (v2 := .bool false) HR4.out)
    refine bodyPost_ret (v := .tuple #[.agg #[.bool false, .bool false, .bool false], .iface 43 (.int .i64 1)]) (by simp [results, Tryz.results11, go_sem, r0, r1, r2]) rfl ?_
    exact ⟨rfl, HB4.out.grown (three_set _ _ _ _ _) HB4.out.size (fun g e => by have := Option.some.inj e; omega)⟩
set_option maxRecDepth 100000 in
set_option maxHeartbeats 8000000 in
theorem uexpr_ok (so : Option Addr) (n cap : Nat) (rs : List Rr) (k : Int) (T : ByteArray) (a b c d : Int) (so1 : Option Addr) (n1 cap1 : Nat) (p : Int) (t : RT) (w : World) (V : ByteArray) (hV : V.toList.isEmpty = false)
    (HC : Hid (∀ W : World, Below w.heap.size w W → Calls Tryz.prog 23 #[.agg #[.slice so n cap]] W fun e w' => e = .returned .nilIface ∧ Below W.heap.size W w'))
    (HE : Hid (∀ W : World, Below w.heap.size w W → Calls Tryz.prog 25 #[.agg #[.int .i64 k, .string T, .int .u64 a, .int .u64 b, .int .u64 c, .int .u64 d, .slice so1 n1 cap1, .int .i64 p]] W fun e w' => e = .returned (.string V) ∧ Below W.heap.size W w'))
    (HH : Hid (∀ W : World, Below w.heap.size w W → Calls Tryz.prog 26 #[.agg #[.slice so n cap], .agg #[.int .i64 k, .string T, .int .u64 a, .int .u64 b, .int .u64 c, .int .u64 d, .slice so1 n1 cap1, .int .i64 p]] W fun e w' => e = .returned (.bool true) ∧ Below W.heap.size W w'))
    (HL : Hid (∀ W : World, Below w.heap.size w W → Calls Tryz.prog 24 #[.agg #[.slice so n cap]] W (LsP rs W)))
    (HU : Hid (∀ (W : World) (M nn m : Nat), Below w.heap.size w W → Nm W M nn (itr rs m) → Calls Tryz.prog 27 #[.map (some M), .agg #[.int .i64 k, .string T, .int .u64 a, .int .u64 b, .int .u64 c, .int .u64 d, .slice so1 n1 cap1, .int .i64 p]] W fun e w' => e = .returned (ov (ofT (itr rs m) t)) ∧ Hid (Below W.heap.size W w'))) :
    Calls Tryz.prog 11 #[.agg #[.slice so n cap], .agg #[.int .i64 k, .string T, .int .u64 a, .int .u64 b, .int .u64 c, .int .u64 d, .slice so1 n1 cap1, .int .i64 p]] w fun e w' => ∃ m, FixO (itr rs m) rs ∧ e = .returned (.tuple #[ov (ofT (itr rs m) t), .nilIface]) ∧ Below w.heap.size w w' := by
  obtain ⟨W1, hW1⟩ : ∃ W1, W1 = ((w.alloc (.cells #[.slice so n cap] 24)).alloc (.cells #[.int .i64 k, .string T, .int .u64 a, .int .u64 b, .int .u64 c, .int .u64 d, .slice so1 n1 cap1, .int .i64 p] 30)).alloc (.cells #[.bool false, .bool false, .bool false] 39) := ⟨_, rfl⟩
  have hB1 : Below w.heap.size w W1 := by rw [hW1]; exact (((Below.refl _ w).alloc (Nat.le_refl _) _).alloc (by simp) _).alloc (by simp; omega) _
  have hR1 : W1.heap[w.heap.size + 1 + 1]? = some (.cells #[.bool false, .bool false, .bool false] 39) := by rw [hW1]; exact new_block_at _ _ (by simp)
  have hG1 : W1.heap[w.heap.size]? = some (.cells #[.slice so n cap] 24) := by rw [hW1]; exact (Below.heap_alloc _ _ _ (by simp; omega)).trans ((Below.heap_alloc _ _ _ (by simp)).trans (new_block_at w _ rfl))
  have hN1 : W1.heap[w.heap.size + 1]? = some (.cells #[.int .i64 k, .string T, .int .u64 a, .int .u64 b, .int .u64 c, .int .u64 d, .slice so1 n1 cap1, .int .i64 p] 30) := by rw [hW1]; exact (Below.heap_alloc _ _ _ (by simp)).trans (new_block_at _ _ (by simp))
  have HS := hid (HC.out W1 hB1)
  have HB1 := hid hB1
  have HW1 := hid hW1
  have HR1 := hid hR1
  have HG1 := hid hG1
  have HN1 := hid hN1
  clear hW1 hB1 HC hR1 hG1 hN1
  go_enter Tryz.func11, Tryz.ntmps11
  go_wp2_with fail
  rw [← HW1.out]
  refine HS.out.mono ?_
  rintro e w2 ⟨rfl, hb2⟩
  have HB2 := hid (HB1.out.trans (hb2.mono HB1.out.size))
  have HR2 := hid ((hb2.block _ (node_lt HR1.out)).trans HR1.out)
  have HG2 := hid ((hb2.block _ (node_lt HG1.out)).trans HG1.out)
  have HN2 := hid ((hb2.block _ (node_lt HN1.out)).trans HN1.out)
  obtain ⟨g0, _⟩ := one_cell HG2.out
  obtain ⟨⟨n0, nn1, n2, n3, n4, n5, n6, n7⟩, _⟩ := eight_cells HN2.out
  have lg := node_lt HG2.out
  have ln := node_lt HN2.out
  have S2 : Hid ((fun W : World => Hid (Below w.heap.size w W) ∧ Hid (∃ v0 v1 v2 : Value, W.heap[w.heap.size + 1 + 1]? = some (.cells #[v0, v1, v2] 39)) ∧ W.cell? ⟨w.heap.size, 0, none⟩ = some (.slice so n cap) ∧ W.cell? ⟨w.heap.size + 1, 0, none⟩ = some (.int .i64 k) ∧ W.cell? ⟨w.heap.size + 1, 1, none⟩ = some (.string T) ∧ W.cell? ⟨w.heap.size + 1, 2, none⟩ = some (.int .u64 a) ∧ W.cell? ⟨w.heap.size + 1, 3, none⟩ = some (.int .u64 b) ∧ W.cell? ⟨w.heap.size + 1, 4, none⟩ = some (.int .u64 c) ∧ W.cell? ⟨w.heap.size + 1, 5, none⟩ = some (.int .u64 d) ∧ W.cell? ⟨w.heap.size + 1, 6, none⟩ = some (.slice so1 n1 cap1) ∧ W.cell? ⟨w.heap.size + 1, 7, none⟩ = some (.int .i64 p)) w2) := ⟨HB2, hid ⟨_, _, _, HR2.out⟩, g0, n0, nn1, n2, n3, n4, n5, n6, n7⟩
  clear hb2 HS HW1 HR1 HB1 HG1 HN1
  go_wp2_with (first
    | (go_at_call 25; refine (HE.out _ HB2.out).mono ?_; rintro e w3 ⟨rfl, hb3⟩; have HB3 := hid (HB2.out.trans (hb3.mono HB2.out.size)); have HR3 := hid ((hb3.block _ (node_lt HR2.out)).trans HR2.out); have S3 := hid (keep_x S2.out hb3); obtain ⟨-, -, g3, m0, m1, m2, m3, m4, m5, m6, m7⟩ := S3.out)
    | (go_at_call 26; refine (HH.out _ HB3.out).mono ?_; rintro e w4 ⟨rfl, hb4⟩; have HB4 := hid (HB3.out.trans (hb4.mono HB3.out.size)); have hr4 := (hb4.block _ (node_lt HR3.out)).trans HR3.out; obtain ⟨⟨u0, u1, u2⟩, f0, f1, f2⟩ := three_cells hr4; have lr := node_lt hr4; have HR4 := hid hr4; clear hr4))
  have S4 := keep_x (keep_x S3.out hb4) (show Below w4.heap.size w4 w4.drew from (Below.refl _ _).drew)
  clear HE HH HB2 HR2 HG2 HN2 S2 S3 g0 n0 nn1 n2 n3 n4 n5 n6 n7 g3 m0 m1 m2 m3 m4 m5 m6 m7 hb3 hb4 HB3 HR3 HB4 HR4 u0 u1 u2 f0 f1 f2 lr lg ln
  go_region_held3 (fun W : World => Hid (Below w.heap.size w W) ∧ Hid (∃ v0 v1 v2 : Value, W.heap[w.heap.size + 1 + 1]? = some (.cells #[v0, v1, v2] 39)) ∧ W.cell? ⟨w.heap.size, 0, none⟩ = some (.slice so n cap) ∧ W.cell? ⟨w.heap.size + 1, 0, none⟩ = some (.int .i64 k) ∧ W.cell? ⟨w.heap.size + 1, 1, none⟩ = some (.string T) ∧ W.cell? ⟨w.heap.size + 1, 2, none⟩ = some (.int .u64 a) ∧ W.cell? ⟨w.heap.size + 1, 3, none⟩ = some (.int .u64 b) ∧ W.cell? ⟨w.heap.size + 1, 4, none⟩ = some (.int .u64 c) ∧ W.cell? ⟨w.heap.size + 1, 5, none⟩ = some (.int .u64 d) ∧ W.cell? ⟨w.heap.size + 1, 6, none⟩ = some (.slice so1 n1 cap1) ∧ W.cell? ⟨w.heap.size + 1, 7, none⟩ = some (.int .i64 p)) (first | (with_reducible assumption) | (with_reducible exact keep_x (by assumption) (by assumption)) | (with_reducible exact keep_xS (by assumption) _ rfl)) (first
    | (go_at_call 24; refine (HL.out _ (left_below (by assumption))).mono ?_; rintro e w5 ⟨M, nn, m, rfl, hM, hNm, hFx, hb5⟩; have HB5 := hid (Below.trans (left_below (by assumption)) (hb5.mono (Below.size (left_below (by assumption))))); obtain ⟨⟨y1, y2, y3⟩, hy⟩ : ∃ y, y = ofT (itr rs m) t := ⟨_, rfl⟩; have HS5 := hid (HU.out w5 M nn m HB5.out hNm); rw [← hy] at HS5; dsimp only [ov] at HS5; have HFx := hid hFx; have HY := hid hy; clear hNm hFx hy)
    | (go_at_call 27; refine HS5.out.mono ?_; rintro e w6 ⟨rfl, HB6⟩; have hb6 := HB6.out; obtain ⟨HB7, HR7⟩ := right_x (by assumption) hb6; obtain ⟨q0, q1, q2, hq⟩ := HR7.out; obtain ⟨⟨u0, u1, u2⟩, f0, f1, f2⟩ := three_cells hq; have lr := node_lt hq; have HQ7 := hid hq; clear hq))
  obtain ⟨⟨r0, r1, r2⟩, _⟩ := three_cells (three_put (v0 := .bool y1) (v1 := .bool y2) (v2 := .bool y3) HQ7.out)
  go_wp2_with fail
  refine bodyPost_ret (v := .tuple #[.agg #[.bool y1, .bool y2, .bool y3], .nilIface]) (by simp [results, Tryz.results11, go_sem, r0, r1, r2]) rfl ?_
  exact ⟨m, HFx.out, by rw [← HY.out], HB7.out.grown (three_set _ _ _ _ _) HB7.out.size (fun g e => by have := Option.some.inj e; omega)⟩
end Go.Proofs.YtgoogfbphilpmaaGreatDoor
