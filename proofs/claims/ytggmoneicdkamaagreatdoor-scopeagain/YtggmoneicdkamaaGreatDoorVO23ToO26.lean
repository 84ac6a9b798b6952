/-
  scope.copiedNode at any tree whose rows and texts are not too long. Conditions: those that each theorem names.
  scope.copiedRule at any rule whose texts and rows are not too long. Conditions: those that each theorem names.
-/
import Derived.Test.YtggmoneicdkamaaGreatDoorVS5ToO22
import Derived.Deep.RegionHeld3
namespace Go.Proofs.YtggmoneicdkamaaGreatDoor
open Go.RowKit Go.Shelf
set_option linter.unusedVariables false
mutual
/-- Its rows and its texts are not too long. -/
def RtB : RT → Prop
  | .mk k T a b c d s p => T.size ≤ 281474976710656 ∧ rtLen s * 88 ≤ 140737488351232 ∧ RtsB s
def RtsB : List RT → Prop
  | [] => True
  | t :: r => RtB t ∧ RtsB r
end
theorem RtsB.at : ∀ {s : List RT}, RtsB s → ∀ (j : Nat) (h : j < s.length), RtB s[j]
  | [], _, j, h => by simp at h
  | t :: r, hv, 0, _ => by rw [RtsB] at hv; exact hv.1
  | t :: r, hv, j + 1, h => by rw [RtsB] at hv; exact hv.2.at j (by simpa using h)
/-- copiedNode at any tree. -/
theorem ocopied_all : ∀ (N : Nat) (k : Int) (T : ByteArray) (a b c d : Int) (s : List RT) (p : Int) (so : Option Addr) (cap B : Nat) (w : World), SizeOf.sizeOf s < N → RtB (.mk k T a b c d s p) → (s.isEmpty = true ∨ (s.isEmpty = false ∧ ∃ g o, so = some ⟨g, o, none⟩ ∧ g < B ∧ rtLen s ≤ maxLen ∧ RtsIs w B g o s)) → B ≤ w.heap.size →
    Calls Tryz.prog 58 #[.agg #[.int .i64 k, .string T, .int .u64 a, .int .u64 b, .int .u64 c, .int .u64 d, .slice so (rtLen s) cap, .int .i64 p]] w (CnA (.mk k T a b c d s p) w)
  | 0, _, _, _, _, _, _, s, _, _, _, _, _, h, _, _, _ => by omega
  | N + 1, k, T, a, b, c, d, s, p, so, cap, B, w, hN, hS, ht, hB => by
    rw [RtB] at hS
    refine ocopied_walk k T a b c d p so (rtLen s) cap s w hS.1 (hid (rtLen_eq s)) hS.2.1 (hid fun j hj => ?_)
    rcases ht with h1 | ⟨h1, g, o, rfl, hg, hm, hs⟩
    · have hs0 : s = [] := by simpa using h1
      subst hs0
      simp at hj
    · obtain ⟨k1, T1, a1, b1, c1, d1, so1, n1, cap1, p1, r1, r2⟩ := rts_at hs j hj
      have hsj := hS.2.2.at j hj
      have hsz := List.sizeOf_lt_of_mem (List.getElem_mem hj)
      refine ⟨g, o, rfl, by omega, k1, T1, a1, b1, c1, d1, so1, n1, cap1, p1, r2, fun W hb => ?_⟩
      obtain ⟨t, ht⟩ : ∃ t, t = s[j] := ⟨_, rfl⟩
      rw [← ht] at r1 hsj hsz ⊢
      obtain ⟨k', T', a', b', c', d', s1, p'⟩ := t
      rw [RtIs] at r1
      obtain ⟨so', cap', e, hr⟩ := r1
      simp only [List.cons.injEq, Value.int.injEq, Value.string.injEq, Value.slice.injEq, true_and, and_true] at e
      obtain ⟨rfl, rfl, rfl, rfl, rfl, rfl, ⟨rfl, rfl, rfl⟩, rfl⟩ := e
      simp only [RT.mk.sizeOf_spec] at hsz
      refine ocopied_all N _ _ _ _ _ _ s1 _ _ _ B W (by omega) hsj ?_ (Nat.le_trans hB hb.size)
      rcases hr with h2 | ⟨h2, g1, o1, h3, h4, h5, h6⟩
      · exact .inl h2
      · exact .inr ⟨h2, g1, o1, h3, h4, h5, h6.below h4 (hb.mono hB)⟩
end Go.Proofs.YtggmoneicdkamaaGreatDoor
namespace Go.Proofs.YtggmoneicdkamaaGreatDoor
open Go.RowKit Go.Shelf
set_option linter.unusedVariables false
theorem keep_ten {w W W' : World} {y0 y1 y2 y3 y4 y5 y6 y7 y8 y9 : Value} (h : Hid (Below w.heap.size w W) ∧ W.cell? ⟨w.heap.size, 0, none⟩ = some (y0) ∧ W.cell? ⟨w.heap.size, 1, none⟩ = some (y1) ∧ W.cell? ⟨w.heap.size, 2, none⟩ = some (y2) ∧ W.cell? ⟨w.heap.size, 3, none⟩ = some (y3) ∧ W.cell? ⟨w.heap.size, 4, none⟩ = some (y4) ∧ W.cell? ⟨w.heap.size, 5, none⟩ = some (y5) ∧ W.cell? ⟨w.heap.size, 6, none⟩ = some (y6) ∧ W.cell? ⟨w.heap.size, 7, none⟩ = some (y7) ∧ W.cell? ⟨w.heap.size, 8, none⟩ = some (y8) ∧ W.cell? ⟨w.heap.size, 9, none⟩ = some (y9)) (hb : Below W.heap.size W W') : Hid (Below w.heap.size w W') ∧ W'.cell? ⟨w.heap.size, 0, none⟩ = some (y0) ∧ W'.cell? ⟨w.heap.size, 1, none⟩ = some (y1) ∧ W'.cell? ⟨w.heap.size, 2, none⟩ = some (y2) ∧ W'.cell? ⟨w.heap.size, 3, none⟩ = some (y3) ∧ W'.cell? ⟨w.heap.size, 4, none⟩ = some (y4) ∧ W'.cell? ⟨w.heap.size, 5, none⟩ = some (y5) ∧ W'.cell? ⟨w.heap.size, 6, none⟩ = some (y6) ∧ W'.cell? ⟨w.heap.size, 7, none⟩ = some (y7) ∧ W'.cell? ⟨w.heap.size, 8, none⟩ = some (y8) ∧ W'.cell? ⟨w.heap.size, 9, none⟩ = some (y9) := by
  obtain ⟨z, z0, z1, z2, z3, z4, z5, z6, z7, z8, z9⟩ := h
  have hl : w.heap.size < W.heap.size := World.block_lt_of_cell? W ⟨w.heap.size, 0, none⟩ z0
  have e : ∀ j, W'.cell? ⟨w.heap.size, j, none⟩ = W.cell? ⟨w.heap.size, j, none⟩ := fun j => hb.cell (p := ⟨w.heap.size, j, none⟩) hl
  exact ⟨hid (z.out.trans (hb.mono z.out.size)), (e _).trans z0, (e _).trans z1, (e _).trans z2, (e _).trans z3, (e _).trans z4, (e _).trans z5, (e _).trans z6, (e _).trans z7, (e _).trans z8, (e _).trans z9⟩
theorem keep_tenS {w W W' : World} {y0 y1 y2 y3 y4 y5 y6 y7 y8 y9 : Value} (h : Hid (Below w.heap.size w W) ∧ W.cell? ⟨w.heap.size, 0, none⟩ = some (y0) ∧ W.cell? ⟨w.heap.size, 1, none⟩ = some (y1) ∧ W.cell? ⟨w.heap.size, 2, none⟩ = some (y2) ∧ W.cell? ⟨w.heap.size, 3, none⟩ = some (y3) ∧ W.cell? ⟨w.heap.size, 4, none⟩ = some (y4) ∧ W.cell? ⟨w.heap.size, 5, none⟩ = some (y5) ∧ W.cell? ⟨w.heap.size, 6, none⟩ = some (y6) ∧ W.cell? ⟨w.heap.size, 7, none⟩ = some (y7) ∧ W.cell? ⟨w.heap.size, 8, none⟩ = some (y8) ∧ W.cell? ⟨w.heap.size, 9, none⟩ = some (y9)) (hb : W.grownBy W' (some (w.heap.size + 1))) : Hid (Below w.heap.size w W') ∧ W'.cell? ⟨w.heap.size, 0, none⟩ = some (y0) ∧ W'.cell? ⟨w.heap.size, 1, none⟩ = some (y1) ∧ W'.cell? ⟨w.heap.size, 2, none⟩ = some (y2) ∧ W'.cell? ⟨w.heap.size, 3, none⟩ = some (y3) ∧ W'.cell? ⟨w.heap.size, 4, none⟩ = some (y4) ∧ W'.cell? ⟨w.heap.size, 5, none⟩ = some (y5) ∧ W'.cell? ⟨w.heap.size, 6, none⟩ = some (y6) ∧ W'.cell? ⟨w.heap.size, 7, none⟩ = some (y7) ∧ W'.cell? ⟨w.heap.size, 8, none⟩ = some (y8) ∧ W'.cell? ⟨w.heap.size, 9, none⟩ = some (y9) := by
  obtain ⟨z, z0, z1, z2, z3, z4, z5, z6, z7, z8, z9⟩ := h
  have e : ∀ j, W'.cell? ⟨w.heap.size, j, none⟩ = W.cell? ⟨w.heap.size, j, none⟩ := fun j => World.cell?_of_block (hb.block w.heap.size (World.block_lt_of_cell? W ⟨w.heap.size, 0, none⟩ z0) (fun e => by have := Option.some.inj e; omega))
  exact ⟨hid (z.out.grown hb z.out.size (fun g e => by have := Option.some.inj e; omega)), (e _).trans z0, (e _).trans z1, (e _).trans z2, (e _).trans z3, (e _).trans z4, (e _).trans z5, (e _).trans z6, (e _).trans z7, (e _).trans z8, (e _).trans z9⟩
theorem ten_set (W : World) (R : Nat) (v0 v1 v2 v3 v4 v5 v6 v7 v8 v9 : Value) : W.grownBy ((((((((((W.setCell ⟨R, 0, none⟩ v0).setCell ⟨R, 1, none⟩ v1).setCell ⟨R, 2, none⟩ v2).setCell ⟨R, 3, none⟩ v3).setCell ⟨R, 4, none⟩ v4).setCell ⟨R, 5, none⟩ v5).setCell ⟨R, 6, none⟩ v6).setCell ⟨R, 7, none⟩ v7).setCell ⟨R, 8, none⟩ v8).setCell ⟨R, 9, none⟩ v9) (some R) := (G.setR (G.setR (G.setR (G.setR (G.setR (G.setR (G.setR (G.setR (G.setR (G.setR (G.refl _ _)))))))))))
/-- What copiedRule hands back of a rule. -/
def CrA (x : Rr) (w : World) (e : Ending) (w' : World) : Prop := ∃ k T a b c d so n cap p, e = .returned (.agg #[.string x.1, .int .i64 k, .string T, .int .u64 a, .int .u64 b, .int .u64 c, .int .u64 d, .slice so n cap, .int .i64 p, .int .i64 x.2.2]) ∧ Hid (RqIs w' (fun g => w.heap.size ≤ g) x.2.1 (r8 k T a b c d so n cap p)) ∧ Hid (Below w.heap.size w w')
set_option maxRecDepth 100000 in
set_option maxHeartbeats 8000000 in
theorem ocrule_walk (nm : ByteArray) (k : Int) (T : ByteArray) (a b c d : Int) (so : Option Addr) (n cap : Nat) (p q : Int) (t : RT) (w : World) (hS : nm.size ≤ 281474976710656)
    (HC : Hid (∀ W, Below w.heap.size w W → Calls Tryz.prog 58 #[.agg #[.int .i64 k, .string T, .int .u64 a, .int .u64 b, .int .u64 c, .int .u64 d, .slice so n cap, .int .i64 p]] W (CnA t W))) :
    Calls Tryz.prog 40 #[.agg #[.string nm, .int .i64 k, .string T, .int .u64 a, .int .u64 b, .int .u64 c, .int .u64 d, .slice so n cap, .int .i64 p, .int .i64 q]] w (CrA (nm, t, q) w) := by
  obtain ⟨W0, hW0⟩ : ∃ W0, W0 = (w.alloc (.cells #[.string nm, .int .i64 k, .string T, .int .u64 a, .int .u64 b, .int .u64 c, .int .u64 d, .slice so n cap, .int .i64 p, .int .i64 q] 60)).alloc (.cells #[.string { data := #[] }, .int .i64 0, .string { data := #[] }, .int .u64 0, .int .u64 0, .int .u64 0, .int .u64 0, .slice none 0 0, .int .i64 0, .int .i64 0] 60) := ⟨_, rfl⟩
  have HB0 : Hid (Below w.heap.size w W0) := by rw [hW0]; exact ((Below.refl _ w).alloc (Nat.le_refl _) _).alloc (by simp) _
  have hT0 : W0.heap[w.heap.size]? = some (.cells #[.string nm, .int .i64 k, .string T, .int .u64 a, .int .u64 b, .int .u64 c, .int .u64 d, .slice so n cap, .int .i64 p, .int .i64 q] 60) := by rw [hW0]; exact (Below.heap_alloc _ _ _ (by simp)).trans (new_block_at w _ rfl)
  have HZ0 : Hid (W0.heap[w.heap.size + 1]? = some (.cells #[.string { data := #[] }, .int .i64 0, .string { data := #[] }, .int .u64 0, .int .u64 0, .int .u64 0, .int .u64 0, .slice none 0 0, .int .i64 0, .int .i64 0] 60)) := by rw [hW0]; exact new_block_at _ _ (by simp)
  obtain ⟨⟨t0, t1, t2, t3, t4, t5, t6, t7, t8, t9⟩, _⟩ := ten_cells hT0
  have S2 : (fun W : World => Hid (Below w.heap.size w W) ∧ W.cell? ⟨w.heap.size, 0, none⟩ = some (.string nm) ∧ W.cell? ⟨w.heap.size, 1, none⟩ = some (.int .i64 k) ∧ W.cell? ⟨w.heap.size, 2, none⟩ = some (.string T) ∧ W.cell? ⟨w.heap.size, 3, none⟩ = some (.int .u64 a) ∧ W.cell? ⟨w.heap.size, 4, none⟩ = some (.int .u64 b) ∧ W.cell? ⟨w.heap.size, 5, none⟩ = some (.int .u64 c) ∧ W.cell? ⟨w.heap.size, 6, none⟩ = some (.int .u64 d) ∧ W.cell? ⟨w.heap.size, 7, none⟩ = some (.slice so n cap) ∧ W.cell? ⟨w.heap.size, 8, none⟩ = some (.int .i64 p) ∧ W.cell? ⟨w.heap.size, 9, none⟩ = some (.int .i64 q)) W0.drew := ⟨hid HB0.out.drew, t0, t1, t2, t3, t4, t5, t6, t7, t8, t9⟩
  have lt0 := node_lt hT0
  have lz0 := node_lt HZ0.out
  have HCl := hid (fun W : World => clone_any nm W hS)
  clear hS hT0
  go_enter Tryz.func40, Tryz.ntmps40
  go_wp2_with fail
  rw [← hW0]
  clear hW0
  go_region_held3 (fun W : World => Hid (Below w.heap.size w W) ∧ W.cell? ⟨w.heap.size, 0, none⟩ = some (.string nm) ∧ W.cell? ⟨w.heap.size, 1, none⟩ = some (.int .i64 k) ∧ W.cell? ⟨w.heap.size, 2, none⟩ = some (.string T) ∧ W.cell? ⟨w.heap.size, 3, none⟩ = some (.int .u64 a) ∧ W.cell? ⟨w.heap.size, 4, none⟩ = some (.int .u64 b) ∧ W.cell? ⟨w.heap.size, 5, none⟩ = some (.int .u64 c) ∧ W.cell? ⟨w.heap.size, 6, none⟩ = some (.int .u64 d) ∧ W.cell? ⟨w.heap.size, 7, none⟩ = some (.slice so n cap) ∧ W.cell? ⟨w.heap.size, 8, none⟩ = some (.int .i64 p) ∧ W.cell? ⟨w.heap.size, 9, none⟩ = some (.int .i64 q)) (first | (with_reducible assumption) | (with_reducible exact keep_ten (by assumption) (by assumption)) | (with_reducible exact keep_tenS (by assumption) (ten_set _ _ _ _ _ _ _ _ _ _ _ _))) (first
    | (go_at_call 57; refine (HCl.out _).mono ?_; rintro e w4 ⟨rfl, hb4⟩; have HZ4 := hid ((hb4.block (w.heap.size + 1) lz0).trans HZ0.out))
    | (go_at_call 58; refine (HC.out _ ?hh).mono ?_; (case hh => exact Hid.out (And.left (by assumption))); rintro e w5 ⟨k', T', a', b', c', d', so', n', cap', p', rfl, HQ5, HB5⟩; have hb5 := HB5.out; have HZ5 := hid ((hb5.block (w.heap.size + 1) (node_lt HZ4.out)).trans HZ4.out); obtain ⟨⟨z0, z1, z2, z3, z4, z5, z6, z7, z8, z9⟩, f0, f1, f2, f3, f4, f5, f6, f7, f8, f9⟩ := ten_cells HZ5.out; have lz := node_lt HZ5.out))
  obtain ⟨X1, hX1⟩ : ∃ X1, X1 = w5.setCell ⟨w.heap.size + 1, 0, none⟩ (.string nm) := ⟨_, rfl⟩
  have bX1 : X1.heap[w.heap.size + 1]? = some (.cells #[.string nm, .int .i64 0, .string { data := #[] }, .int .u64 0, .int .u64 0, .int .u64 0, .int .u64 0, .slice none 0 0, .int .i64 0, .int .i64 0] 60) := by rw [hX1]; exact set_in HZ5.out 0 _
  have gX1 : w5.grownBy X1 (some (w.heap.size + 1)) := by rw [hX1]; exact G.setR (G.refl _ _)
  obtain ⟨X2, hX2⟩ : ∃ X2, X2 = X1.setCell ⟨w.heap.size + 1, 1, none⟩ (.int .i64 k') := ⟨_, rfl⟩
  have bX2 : X2.heap[w.heap.size + 1]? = some (.cells #[.string nm, .int .i64 k', .string { data := #[] }, .int .u64 0, .int .u64 0, .int .u64 0, .int .u64 0, .slice none 0 0, .int .i64 0, .int .i64 0] 60) := by rw [hX2]; exact set_in bX1 1 _
  have gX2 : w5.grownBy X2 (some (w.heap.size + 1)) := by rw [hX2]; exact G.setR gX1
  obtain ⟨X3, hX3⟩ : ∃ X3, X3 = X2.setCell ⟨w.heap.size + 1, 2, none⟩ (.string T') := ⟨_, rfl⟩
  have bX3 : X3.heap[w.heap.size + 1]? = some (.cells #[.string nm, .int .i64 k', .string T', .int .u64 0, .int .u64 0, .int .u64 0, .int .u64 0, .slice none 0 0, .int .i64 0, .int .i64 0] 60) := by rw [hX3]; exact set_in bX2 2 _
  have gX3 : w5.grownBy X3 (some (w.heap.size + 1)) := by rw [hX3]; exact G.setR gX2
  obtain ⟨X4, hX4⟩ : ∃ X4, X4 = X3.setCell ⟨w.heap.size + 1, 3, none⟩ (.int .u64 a') := ⟨_, rfl⟩
  have bX4 : X4.heap[w.heap.size + 1]? = some (.cells #[.string nm, .int .i64 k', .string T', .int .u64 a', .int .u64 0, .int .u64 0, .int .u64 0, .slice none 0 0, .int .i64 0, .int .i64 0] 60) := by rw [hX4]; exact set_in bX3 3 _
  have gX4 : w5.grownBy X4 (some (w.heap.size + 1)) := by rw [hX4]; exact G.setR gX3
  obtain ⟨X5, hX5⟩ : ∃ X5, X5 = X4.setCell ⟨w.heap.size + 1, 4, none⟩ (.int .u64 b') := ⟨_, rfl⟩
  have bX5 : X5.heap[w.heap.size + 1]? = some (.cells #[.string nm, .int .i64 k', .string T', .int .u64 a', .int .u64 b', .int .u64 0, .int .u64 0, .slice none 0 0, .int .i64 0, .int .i64 0] 60) := by rw [hX5]; exact set_in bX4 4 _
  have gX5 : w5.grownBy X5 (some (w.heap.size + 1)) := by rw [hX5]; exact G.setR gX4
  obtain ⟨X6, hX6⟩ : ∃ X6, X6 = X5.setCell ⟨w.heap.size + 1, 5, none⟩ (.int .u64 c') := ⟨_, rfl⟩
  have bX6 : X6.heap[w.heap.size + 1]? = some (.cells #[.string nm, .int .i64 k', .string T', .int .u64 a', .int .u64 b', .int .u64 c', .int .u64 0, .slice none 0 0, .int .i64 0, .int .i64 0] 60) := by rw [hX6]; exact set_in bX5 5 _
  have gX6 : w5.grownBy X6 (some (w.heap.size + 1)) := by rw [hX6]; exact G.setR gX5
  obtain ⟨X7, hX7⟩ : ∃ X7, X7 = X6.setCell ⟨w.heap.size + 1, 6, none⟩ (.int .u64 d') := ⟨_, rfl⟩
  have bX7 : X7.heap[w.heap.size + 1]? = some (.cells #[.string nm, .int .i64 k', .string T', .int .u64 a', .int .u64 b', .int .u64 c', .int .u64 d', .slice none 0 0, .int .i64 0, .int .i64 0] 60) := by rw [hX7]; exact set_in bX6 6 _
  have gX7 : w5.grownBy X7 (some (w.heap.size + 1)) := by rw [hX7]; exact G.setR gX6
  obtain ⟨X8, hX8⟩ : ∃ X8, X8 = X7.setCell ⟨w.heap.size + 1, 7, none⟩ (.slice so' n' cap') := ⟨_, rfl⟩
  have bX8 : X8.heap[w.heap.size + 1]? = some (.cells #[.string nm, .int .i64 k', .string T', .int .u64 a', .int .u64 b', .int .u64 c', .int .u64 d', .slice so' n' cap', .int .i64 0, .int .i64 0] 60) := by rw [hX8]; exact set_in bX7 7 _
  have gX8 : w5.grownBy X8 (some (w.heap.size + 1)) := by rw [hX8]; exact G.setR gX7
  obtain ⟨X9, hX9⟩ : ∃ X9, X9 = X8.setCell ⟨w.heap.size + 1, 8, none⟩ (.int .i64 p') := ⟨_, rfl⟩
  have bX9 : X9.heap[w.heap.size + 1]? = some (.cells #[.string nm, .int .i64 k', .string T', .int .u64 a', .int .u64 b', .int .u64 c', .int .u64 d', .slice so' n' cap', .int .i64 p', .int .i64 0] 60) := by rw [hX9]; exact set_in bX8 8 _
  have gX9 : w5.grownBy X9 (some (w.heap.size + 1)) := by rw [hX9]; exact G.setR gX8
  obtain ⟨W10, hW10⟩ : ∃ W10, W10 = X9.setCell ⟨w.heap.size + 1, 9, none⟩ (.int .i64 q) := ⟨_, rfl⟩
  have bW10 : W10.heap[w.heap.size + 1]? = some (.cells #[.string nm, .int .i64 k', .string T', .int .u64 a', .int .u64 b', .int .u64 c', .int .u64 d', .slice so' n' cap', .int .i64 p', .int .i64 q] 60) := by rw [hW10]; exact set_in bX9 9 _
  have gW10 : w5.grownBy W10 (some (w.heap.size + 1)) := by rw [hW10]; exact G.setR gX9
  rw [← hX1, ← hX2, ← hX3, ← hX4, ← hX5, ← hX6, ← hX7, ← hX8, ← hX9, ← hW10]
  have h10 := bW10
  have hg10 := gW10
  clear hW10 hX9 hX8 hX7 hX6 hX5 hX4 hX3 hX2 hX1 bX1 bX2 bX3 bX4 bX5 bX6 bX7 bX8 bX9 bW10 gX1 gX2 gX3 gX4 gX5 gX6 gX7 gX8 gX9 gW10
  have hB4 : Below w.heap.size w w4 := HB0.out.drew.trans (hb4.mono HB0.out.drew.size)
  have hB5 : Below w.heap.size w w5 := hB4.trans (hb5.mono hB4.size)
  have HF := hid (show CrA (nm, t, q) w (.returned (.agg #[.string nm, .int .i64 k', .string T', .int .u64 a', .int .u64 b', .int .u64 c', .int .u64 d', .slice so' n' cap', .int .i64 p', .int .i64 q])) W10 from ⟨k', T', a', b', c', d', so', n', cap', p', rfl, hid (RqIs.kept (w' := W10) (Q := fun g => w.heap.size ≤ g) (fun g cur hp hq => ⟨hg10.block g (node_lt hq) (fun e => by have e2 : g = w.heap.size + 1 := Option.some.inj e; have h4 := node_lt HZ4.out; have hp' : w4.heap.size ≤ g := hp; omega), Nat.le_trans hB4.size hp⟩) _ _ HQ5.out), hid (hB5.grown hg10 hB5.size (fun g e => by have := Option.some.inj e; omega))⟩)
  obtain ⟨⟨e0, e1, e2, e3, e4, e5, e6, e7, e8, e9⟩, _⟩ := ten_cells h10
  clear hg10 hB4 hB5 HQ5 HB5 hb5 hb4 HZ5 HZ4 h10 z0 z1 z2 z3 z4 z5 z6 z7 z8 z9 f0 f1 f2 f3 f4 f5 f6 f7 f8 f9 S2 t0 t1 t2 t3 t4 t5 t6 t7 t8 t9 HC HCl
  go_wp2_with fail
  refine bodyPost_ret (v := .agg #[.string nm, .int .i64 k', .string T', .int .u64 a', .int .u64 b', .int .u64 c', .int .u64 d', .slice so' n' cap', .int .i64 p', .int .i64 q]) (by simp [results, Tryz.results40, go_sem, e0, e1, e2, e3, e4, e5, e6, e7, e8, e9]) rfl ?_
  exact HF.out
end Go.Proofs.YtggmoneicdkamaaGreatDoor
