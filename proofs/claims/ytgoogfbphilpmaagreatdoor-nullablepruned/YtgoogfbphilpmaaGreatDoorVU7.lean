/-
  What nullable's answers.ofAlt answers. Conditions: those that each theorem names.
-/
import Derived.Test.YtgoogfbphilpmaaGreatDoorVU3ToU5
namespace Go.Proofs.YtgoogfbphilpmaaGreatDoor
open Go.RowKit Go.Shelf Go.Maps
set_option linter.unusedVariables false
theorem alt_facts {w w4 : World} {x1 x2 x3 y1 y2 y3 : Bool} (HB : Hid (Below w.heap.size w w4)) (HR : Hid (w4.heap[w.heap.size]? = some (.cells #[.bool false, .bool false, .bool false] 39))) (HA : Hid (w4.heap[w.heap.size + 1]? = some (.cells #[.bool x1, .bool x2, .bool x3] 39))) :
    (Hid (Below w.heap.size w (w4.alloc (.cells #[.bool y1, .bool y2, .bool y3] 39))) ∧ Hid ((w4.alloc (.cells #[.bool y1, .bool y2, .bool y3] 39)).heap[w.heap.size]? = some (.cells #[.bool false, .bool false, .bool false] 39)) ∧ Hid ((w4.alloc (.cells #[.bool y1, .bool y2, .bool y3] 39)).heap[w.heap.size + 1]? = some (.cells #[.bool x1, .bool x2, .bool x3] 39))) ∧
    w.heap.size + 1 < (w4.alloc (.cells #[.bool y1, .bool y2, .bool y3] 39)).heap.size ∧ w4.heap.size < (w4.alloc (.cells #[.bool y1, .bool y2, .bool y3] 39)).heap.size ∧
    ((w4.alloc (.cells #[.bool y1, .bool y2, .bool y3] 39)).cell? ⟨w.heap.size + 1, 0, none⟩ = some (.bool x1) ∧ (w4.alloc (.cells #[.bool y1, .bool y2, .bool y3] 39)).cell? ⟨w.heap.size + 1, 1, none⟩ = some (.bool x2) ∧ (w4.alloc (.cells #[.bool y1, .bool y2, .bool y3] 39)).cell? ⟨w.heap.size + 1, 2, none⟩ = some (.bool x3)) ∧
    ((w4.alloc (.cells #[.bool y1, .bool y2, .bool y3] 39)).frozen? ⟨w.heap.size + 1, 0, none⟩ = false ∧ (w4.alloc (.cells #[.bool y1, .bool y2, .bool y3] 39)).frozen? ⟨w.heap.size + 1, 1, none⟩ = false ∧ (w4.alloc (.cells #[.bool y1, .bool y2, .bool y3] 39)).frozen? ⟨w.heap.size + 1, 2, none⟩ = false) ∧
    (w4.alloc (.cells #[.bool y1, .bool y2, .bool y3] 39)).cell? ⟨w4.heap.size, 0, none⟩ = some (.bool y1) ∧ (w4.alloc (.cells #[.bool y1, .bool y2, .bool y3] 39)).cell? ⟨w4.heap.size, 1, none⟩ = some (.bool y2) ∧ (w4.alloc (.cells #[.bool y1, .bool y2, .bool y3] 39)).cell? ⟨w4.heap.size, 2, none⟩ = some (.bool y3) := by
  have hb := (Below.refl _ w4).alloc (Nat.le_refl _) (.cells #[.bool y1, .bool y2, .bool y3] 39)
  have h1 := (hb.block _ (node_lt HA.out)).trans HA.out
  obtain ⟨t, f⟩ := three_cells h1
  obtain ⟨u, _⟩ := three_cells (new_block_at w4 (.cells #[.bool y1, .bool y2, .bool y3] 39) rfl)
  exact ⟨⟨hid (HB.out.trans (hb.mono HB.out.size)), hid ((hb.block _ (node_lt HR.out)).trans HR.out), hid h1⟩, node_lt h1, by simp, t, f, u⟩
set_option maxRecDepth 100000 in
set_option maxHeartbeats 16000000 in
theorem ualt_any (B : Nat) (K : ByteArray → Ot) (so : Option Addr) (n cap : Nat) (s : List RT) (w : World) (hn : n ≤ 9223372036854775807) (HN : Hid (n = s.length))
    (HC : Hid (∀ j (hj : j < s.length), ∃ g o, so = some ⟨g, o, none⟩ ∧ g < w.heap.size ∧ ∃ k1 T1 a1 b1 c1 d1 so1 n1 cap1 p1, Rc w g (o + j * 8) k1 T1 a1 b1 c1 d1 (.slice so1 n1 cap1) p1 ∧
      ∀ W : World, Below w.heap.size w W → Calls Tryz.prog 27 #[.map (some B), .agg (r8 k1 T1 a1 b1 c1 d1 so1 n1 cap1 p1).toArray] W fun e w' => e = .returned (ov (ofT K s[j])) ∧ Hid (Below W.heap.size W w'))) :
    Calls Tryz.prog 48 #[.map (some B), .slice so n cap] w fun e w' => e = .returned (ov (ofA K (false, false, true) s)) ∧ Hid (Below w.heap.size w w') := by
  obtain ⟨W1, hW1⟩ : ∃ W1, W1 = (w.alloc (.cells #[.bool false, .bool false, .bool false] 39)).alloc (.cells #[.bool false, .bool false, .bool true] 39) := ⟨_, rfl⟩
  have HB1 : Hid (Below w.heap.size w W1) := by rw [hW1]; exact ((Below.refl _ w).alloc (Nat.le_refl _) _).alloc (by simp) _
  have HR1 : Hid (W1.heap[w.heap.size]? = some (.cells #[.bool false, .bool false, .bool false] 39)) := by rw [hW1]; exact (Below.heap_alloc _ _ _ (by simp)).trans (new_block_at w _ rfl)
  have HA1 : Hid (W1.heap[w.heap.size + 1]? = some (.cells #[.bool false, .bool false, .bool true] 39)) := by rw [hW1]; exact new_block_at _ _ (by simp)
  have HW1 := hid hW1
  clear hW1
  go_enter Tryz.func48, Tryz.ntmps48
  go_wp2_with fail
  rw [← HW1.out]
  clear HW1
  go_loopw [12] (fun i wr => ∃ j : Nat, i = .int .i64 (j : Int) ∧ j ≤ n ∧ Hid (Below w.heap.size w wr) ∧ Hid (wr.heap[w.heap.size]? = some (.cells #[.bool false, .bool false, .bool false] 39)) ∧ ∃ x1 x2 x3 : Bool, Hid ((x1, x2, x3) = ofA K (false, false, true) (s.take j)) ∧ Hid (wr.heap[w.heap.size + 1]? = some (.cells #[.bool x1, .bool x2, .bool x3] 39))) (fun i _ => n - (intOf i).toNat)
  case atStart => exact ⟨0, rfl, Nat.zero_le _, HB1, HR1, _, _, _, hid (by rw [List.take_zero, ofA]), HA1⟩
  case round =>
    obtain ⟨j, rfl, hj, HBr, HRr, x1, x2, x3, HX, HAr⟩ := hrel
    by_cases hjn : j < n
    · have hjI : (j : Int) < (n : Int) := by omega
      have a0 : decide ((j : Int) < (n : Int)) = true := by simp; omega
      have hjs : j < s.length := by rw [← HN.out]; exact hjn
      obtain ⟨g, o, rfl, hg, k1, T1, a1, b1, c1, d1, so1, n1, cap1, p1, hrc, hcall⟩ := HC.out j hjs
      obtain ⟨z0, z1, z2, z3, z4, z5, z6, z7⟩ := hrc.below HBr.out hg
      have hgl : g < wr.heap.size := World.block_lt_of_cell? wr _ z0
      obtain ⟨⟨y1, y2, y3⟩, hy⟩ : ∃ y, y = ofT K s[j] := ⟨_, rfl⟩
      have hbp : Below w.heap.size w (wr.alloc (.cells #[.int .i64 k1, .string T1, .int .u64 a1, .int .u64 b1, .int .u64 c1, .int .u64 d1, .slice so1 n1 cap1, .int .i64 p1] 30)) := HBr.out.alloc HBr.out.size _
      have hbq := (Below.refl _ wr).alloc (Nat.le_refl _) (.cells #[.int .i64 k1, .string T1, .int .u64 a1, .int .u64 b1, .int .u64 c1, .int .u64 d1, .slice so1 n1 cap1, .int .i64 p1] 30)
      have HRp := hid ((hbq.block _ (node_lt HRr.out)).trans HRr.out)
      have HAp := hid ((hbq.block _ (node_lt HAr.out)).trans HAr.out)
      have HBp := hid hbp
      have HS := hid (hcall _ hbp)
      rw [← hy] at HS
      have HY := hid hy
      clear hcall hrc hy hbp hbq
      dsimp only [r8, ov] at HS
      cases x1 <;> cases x2 <;> cases x3 <;> (
          go_wp2_with (first
            | (go_at_call 27; refine HS.out.mono ?_; rintro e w4 ⟨rfl, HB4⟩; have HBw4 := hid (HBp.out.trans (HB4.out.mono HBp.out.size)); have HR4 := hid ((HB4.out.block _ (node_lt HRp.out)).trans HRp.out); have HA4 := hid ((HB4.out.block _ (node_lt HAp.out)).trans HAp.out); obtain ⟨⟨HBq, HRq, HAq⟩, la, ln, ⟨t0, t1, t2⟩, ⟨f0, f1, f2⟩, u0, u1, u2⟩ := alt_facts (y1 := y1) (y2 := y2) (y3 := y3) HBw4 HR4 HA4; clear HS HB4 HRr HAr HBr HBp HRp HAp HBw4 HR4 HA4))
          go_roundw
          case rel => exact ⟨j + 1, by go_num, by omega, hid (HBq.out.grown (three_set _ _ _ _ _) HBq.out.size (fun g e => by have := Option.some.inj e; omega)), hid (((three_set _ _ _ _ _).block _ (node_lt HRq.out) (fun e => by have := Option.some.inj e; omega)).trans HRq.out), _, _, _, hid (by rw [ofA_next K _ s j hjs, ← HX.out, ← HY.out]; simp [altO]), hid (three_put HAq.out)⟩
          case measure => simp [intOf]; omega)

    · have a0 : decide ((j : Int) < (n : Int)) = false := by simp; omega
      have hjn' : s.take j = s := List.take_of_length_le (by rw [← HN.out]; omega)
      rw [hjn'] at HX
      obtain ⟨⟨t0, t1, t2⟩, _⟩ := three_cells HAr.out
      obtain ⟨⟨u0, u1, u2⟩, f0, f1, f2⟩ := three_cells HRr.out
      have la := node_lt HAr.out
      have lr := node_lt HRr.out
      have HBl := hid (HBr.out.grown (three_set wr w.heap.size (.bool x1) (.bool x2) (.bool x3)) HBr.out.size (fun g e => by have := Option.some.inj e; omega))
      obtain ⟨⟨r0, r1, r2⟩, _⟩ := three_cells (three_put (v0 := .bool x1) (v1 := .bool x2) (v2 := .bool x3) HRr.out)
      clear hjn' HAr HRr HBr
      go_wp2_with fail
      refine bodyPost_ret (v := .agg #[.bool x1, .bool x2, .bool x3]) (by simp [results, Tryz.results48, go_sem, r0, r1, r2]) rfl ?_
      exact ⟨by rw [← HX.out], HBl⟩
end Go.Proofs.YtgoogfbphilpmaaGreatDoor
