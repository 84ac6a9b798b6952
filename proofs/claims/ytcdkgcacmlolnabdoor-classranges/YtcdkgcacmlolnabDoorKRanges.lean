/-
  For any two ints and any byte: muntinlaw02.ClassRanges answers true. Conditions: those that each theorem names.
-/
import Derived.Test.YtcdkgcacmlolnabDoorK3
import Derived.Test.YtcdkgcacmlolnabDoorKEq
import Derived.Test.YtcdkgcacmlolnabDoorKCode
import Derived.Deep.DeepCutAuto
import Derived.Deep.RegionWith
namespace Go.Proofs.YtcdkgcacmlolnabDoor
open Go.RowKit
set_option linter.unusedVariables false
theorem eq_zero (w : World) : (Op.equalIn 10000 24 (.agg #[.int .u64 0, .int .u64 0, .int .u64 0, .int .u64 0]) (.agg #[.int .u64 0, .int .u64 0, .int .u64 0, .int .u64 0])).run Tryd.prog w = .ok true w := by rw [eq_words]; rfl
theorem Cl.zero {w : World} {g : Nat} (h : Cl w g 0) : w.cell? ⟨g, 0, none⟩ = some (.int .u64 0) ∧ w.cell? ⟨g, 1, none⟩ = some (.int .u64 0) ∧ w.cell? ⟨g, 2, none⟩ = some (.int .u64 0) ∧ w.cell? ⟨g, 3, none⟩ = some (.int .u64 0) := by
  unfold Cl at h
  simpa [wd_zero] using h
theorem Cl.new0 (w : World) : Cl (w.alloc (.cells #[.int .u64 0, .int .u64 0, .int .u64 0, .int .u64 0] 24)) w.heap.size 0 := (Blk.new0 w).cells
set_option maxRecDepth 100000 in
set_option maxHeartbeats 4000000 in
theorem ranges_bad (lo hi : Int) (b : Nat) (w : World) (h : lo < 0 ∨ hi < lo ∨ 256 ≤ hi) (hE : ErrIs w) :
    Calls Tryd.prog 3 #[.int .i64 lo, .int .i64 hi, .int .u8 (b : Int)] w fun e w' => e = .returned (.bool true) ∧ Below w.heap.size w w' := by
  have HE : Hid (ErrIs w) := hE
  have H : Hid (lo < 0 ∨ hi < lo ∨ 256 ≤ hi) := h
  have h3 : decide (lo < 0) = true ∨ (decide (lo < 0) = false ∧ decide (255 < hi) = true) ∨ (decide (lo < 0) = false ∧ decide (255 < hi) = false ∧ decide (hi < lo) = true) := by
    simp only [decide_eq_true_eq, decide_eq_false_iff_not]
    omega
  clear hE h
  have q1 := eq_zero
  rcases h3 with a1 | ⟨a1, a2⟩ | ⟨a1, a2, a3⟩
  all_goals
    go_enter Tryd.func3, Tryd.ntmps3
    go_wp2_with fail
    refine (range_bad lo hi _ H.out).mono ?_
    rintro e w1 ⟨rfl, hb1⟩
    have HB1 : Hid (Below w.heap.size w w1) := hb1
    clear hb1
    rw [cv_zero]
    go_wp2_with fail
    refine (code_errno 1 _ ((HE.out.below HB1.out HE.out.lt).below ((Below.refl _ _).alloc (Nat.le_refl _) _) (HE.out.below HB1.out HE.out.lt).lt)).mono ?_
    rintro e w2 ⟨rfl, hb2⟩
    have HB2 : Hid (Below w.heap.size w w2) := (HB1.out.alloc HB1.out.size _).trans (hb2.mono (by have := HB1.out.size; simp; omega))
    obtain ⟨c0, c1, c2, c3⟩ := ((Cl.new0 w1).below hb2).zero
    clear hb2
    go_wp2_with fail
    go_ret
    exact ⟨rfl, HB2.out⟩
set_option maxRecDepth 100000 in
set_option maxHeartbeats 4000000 in
theorem ranges_ok (lo hi b : Nat) (w : World) (h1 : lo ≤ hi) (h2 : hi < 256) (hb : b < 256) :
    Calls Tryd.prog 3 #[.int .i64 (lo : Int), .int .i64 (hi : Int), .int .u8 (b : Int)] w fun e w' => e = .returned (.bool true) ∧ Below w.heap.size w w' := by
  have a1 : decide ((lo : Int) < 0) = false := by simp
  have a2 : decide ((hi : Int) < (lo : Int)) = false := by simp; omega
  have a2' : decide (hi < lo) = false := by simp; omega
  have a3 : decide (255 < (hi : Int)) = false := by simp; omega
  have hp : (pc 256 (seg lo (hi + 1)) : Int) = (hi : Int) - (lo : Int) + 1 := by
    unfold seg
    rw [pc_spn, if_neg (by omega)]
    split <;> omega
  have hh := seg_bit lo (hi + 1) b
  obtain ⟨S, hS⟩ : ∃ S, S = seg lo (hi + 1) := ⟨_, rfl⟩
  rw [← hS] at hp hh
  have HR : Hid (∀ w : World, Calls Tryd.prog 6 #[.int .i64 (lo : Int), .int .i64 (hi : Int)] w fun e w' => e = .returned (.tuple #[cv S, .nilIface]) ∧ Below w.heap.size w w') := by rw [hS]; exact fun w => range_ok lo hi w h1 h2
  clear hS
  cases hx : decide ((lo : Int) ≤ (b : Int))
  · have hx' : decide (lo ≤ b) = false := by simp at hx ⊢; omega
    have hv : S.testBit b = false := by rw [hh]; simp at hx; simp; omega
    clear hh
    go_enter Tryd.func3, Tryd.ntmps3
    go_wp2_with fail
    refine (HR.out _).mono ?_
    rintro e w1 ⟨rfl, hb1⟩
    have HB1 : Hid (Below w.heap.size w w1) := hb1
    clear hb1
    dsimp only [cv]
    go_wp2_with fail
    refine (has_val _ _ _ _ hv hb).mono ?_
    rintro e w2 ⟨rfl, hb2⟩
    have HB2 : Hid (Below w.heap.size w w2) := (HB1.out.alloc HB1.out.size _).trans (hb2.mono (by have := HB1.out.size; simp; omega))
    obtain ⟨c0, c1, c2, c3⟩ := (Cl.new w1 S rfl).below hb2
    clear hb2
    go_wp2_with fail
    refine (count_any _ _).mono ?_
    rintro e w3 ⟨rfl, hb3⟩
    have HB3 : Hid (Below w.heap.size w w3) := HB2.out.trans (hb3.mono HB2.out.size)
    clear hb3 c0 c1 c2 c3
    go_wp2_with fail
    go_ret
    exact ⟨rfl, HB3.out⟩
  · have hx' : decide (lo ≤ b) = true := by simp at hx ⊢; omega
    cases hy : decide ((b : Int) ≤ (hi : Int))
    · have hy' : decide (b ≤ hi) = false := by simp at hy ⊢; omega
      have hv : S.testBit b = false := by rw [hh]; simp at hx hy; simp; omega
      clear hh
      go_enter Tryd.func3, Tryd.ntmps3
      go_wp2_with fail
      refine (HR.out _).mono ?_
      rintro e w1 ⟨rfl, hb1⟩
      have HB1 : Hid (Below w.heap.size w w1) := hb1
      clear hb1
      dsimp only [cv]
      go_wp2_with fail
      refine (has_val _ _ _ _ hv hb).mono ?_
      rintro e w2 ⟨rfl, hb2⟩
      have HB2 : Hid (Below w.heap.size w w2) := (HB1.out.alloc HB1.out.size _).trans (hb2.mono (by have := HB1.out.size; simp; omega))
      obtain ⟨c0, c1, c2, c3⟩ := (Cl.new w1 S rfl).below hb2
      clear hb2
      go_wp2_with fail
      refine (count_any _ _).mono ?_
      rintro e w3 ⟨rfl, hb3⟩
      have HB3 : Hid (Below w.heap.size w w3) := HB2.out.trans (hb3.mono HB2.out.size)
      clear hb3 c0 c1 c2 c3
      go_wp2_with fail
      go_ret
      exact ⟨rfl, HB3.out⟩
    · have hy' : decide (b ≤ hi) = true := by simp at hy ⊢; omega
      have hv : S.testBit b = true := by rw [hh]; simp at hx hy; simp; omega
      clear hh
      go_enter Tryd.func3, Tryd.ntmps3
      go_wp2_with fail
      refine (HR.out _).mono ?_
      rintro e w1 ⟨rfl, hb1⟩
      have HB1 : Hid (Below w.heap.size w w1) := hb1
      clear hb1
      dsimp only [cv]
      go_wp2_with fail
      refine (has_val _ _ _ _ hv hb).mono ?_
      rintro e w2 ⟨rfl, hb2⟩
      have HB2 : Hid (Below w.heap.size w w2) := (HB1.out.alloc HB1.out.size _).trans (hb2.mono (by have := HB1.out.size; simp; omega))
      obtain ⟨c0, c1, c2, c3⟩ := (Cl.new w1 S rfl).below hb2
      clear hb2
      go_wp2_with fail
      refine (count_any _ _).mono ?_
      rintro e w3 ⟨rfl, hb3⟩
      have HB3 : Hid (Below w.heap.size w w3) := HB2.out.trans (hb3.mono HB2.out.size)
      clear hb3 c0 c1 c2 c3
      go_wp2_with fail
      go_ret
      exact ⟨rfl, HB3.out⟩
end Go.Proofs.YtcdkgcacmlolnabDoor
