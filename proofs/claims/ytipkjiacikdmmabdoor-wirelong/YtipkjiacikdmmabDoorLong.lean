/-
  For every int: muntinlaw01.WireLong answers true. Conditions: those that each theorem names.
-/
import Derived.Test.YtipkjiacikdmmabDoorNum
import Derived.Test.YtipkjiacikdmmabDoorCode
namespace Go.Proofs.YtipkjiacikdmmabDoor
open Go.RowKit
set_option linter.unusedVariables false

theorem valJ {k : IntKind} {a b : Int} (h : a = b) : Value.int k a = .int k b := by rw [h]
set_option maxHeartbeats 1000000 in
theorem long_neg (n : Int) (w : World) (hn : n < 0) (hE : ErrIs w) : Calls Tryd.prog 4 #[.int .i64 n] w fun e w' => e = .returned (.bool true) ∧ Below w.heap.size w w' := by
  have hc := code_errno 1 w hE
  clear hE
  go_enter Tryd.func4, Tryd.ntmps4
  go_wp2_with fail
  refine (num_neg n _ hn).mono ?_
  rintro e w1 ⟨rfl, rfl⟩
  go_wp2_with fail
  refine hc.mono ?_
  rintro e w2 ⟨rfl, hb⟩
  go_wp2
  go_ret
  exact ⟨rfl, hb⟩

theorem div_pos (n j : Nat) (h : n < 18446744073709551616) : 0 < n / 256 ^ j ↔ j < wid n := by
  have hp : 0 < 256 ^ j := Nat.pow_pos (by omega)
  constructor
  · intro h0
    rcases Nat.lt_or_ge j (wid n) with h1 | h1
    · exact h1
    · have h2 := wid_hi n h
      have h3 : 256 ^ wid n ≤ 256 ^ j := Nat.pow_le_pow_right (by omega) h1
      rw [Nat.div_eq_of_lt (by omega)] at h0
      omega
  · intro h1
    rcases wid_lo n with h2 | h2
    · omega
    · have h3 : 256 ^ j ≤ 256 ^ (wid n - 1) := Nat.pow_le_pow_right (by omega) (by omega)
      exact Nat.div_pos (by omega) hp

set_option maxRecDepth 100000 in
set_option maxHeartbeats 1000000 in
theorem long_pos (n : Nat) (w : World) (hn : n ≤ 9223372036854775807) : Calls Tryd.prog 4 #[.int .i64 (n : Int)] w fun e w' => e = .returned (.bool true) ∧ Below w.heap.size w w' := by
  have hn' : ¬ (n : Int) < 0 := by omega
  have hwl := wid_le n
  go_enter Tryd.func4, Tryd.ntmps4
  go_wp2_with fail
  refine (num_pos n _ hn).mono ?_
  rintro e w1 ⟨rfl, hown, hb⟩
  have hc0 : w1.cell? ⟨w.heap.size, 0, none⟩ = some (.int .u8 (wid n : Int)) := by
    rw [hown.cellAt 0 (by omega)]
    have : numB n = UInt8.ofNat (wid n) :: dig n (wid n) := rfl
    rw [this]
    simp [bv]
    omega
  have HB : Hid (Below w.heap.size w w1) := hb
  clear hown hb
  go_wp2_with fail
  go_loop [5, 6] (fun k r => ∃ j : Nat, j ≤ wid n ∧ k = .int .i64 ((j : Int) + 1) ∧ r = .int .i64 ((n / 256 ^ j : Nat) : Int)) (fun k _ => 9 - (intOf k).toNat)
  case atStart => exact ⟨0, Nat.zero_le _, rfl, by simp⟩
  case round =>
    obtain ⟨j, hj, rfl, rfl⟩ := hrel
    have HD : Hid (0 < n / 256 ^ j ↔ j < wid n) := div_pos n j (by omega)
    have HS : Hid (n / 256 ^ (j + 1) = n / 256 ^ j / 256) := by
      show n / 256 ^ (j + 1) = n / 256 ^ j / 256
      rw [Nat.pow_succ, Nat.div_div_eq_div_mul]
    have hlen : n / 256 ^ j ≤ n := Nat.div_le_self _ _
    generalize n / 256 ^ j = q at *
    by_cases h : (0 : Int) < (q : Int)
    · go_wp2
      go_round
      case rel => exact ⟨j + 1, (by have := HD.out; omega), by go_num, valJ (by rw [HS.out]; omega)⟩
      case measure => have := HD.out; simp [intOf]; omega
    · have hjw : j = wid n := by have := HD.out; omega
      have HJ : Hid (j = wid n) := hjw
      clear hjw
      have q1 : (((1 + wid n : Nat) : Int) == (j : Int) + 1) = true := by rw [beq_iff_eq]; have := HJ.out; omega
      have q2 : ((wid n : Int) == (j : Int)) = true := by rw [beq_iff_eq]; have := HJ.out; omega
      go_wp2
      go_ret
      refine ⟨?_, HB.out⟩
      simp
      have := HJ.out
      omega
end Go.Proofs.YtipkjiacikdmmabDoor
