/-
  What class.Not answers. Condition: the class is below 2^256.
-/
import Derived.Test.YtkofhmmnlapnnaaGreatDoorJ1
namespace Go.Proofs.YtkofhmmnlapnnaaGreatDoor
open Go.RowKit
set_option linter.unusedVariables false
theorem xor_max (x : Nat) (h : x < 18446744073709551616) : 18446744073709551615 ^^^ x = 18446744073709551615 - x := by
  apply Nat.eq_of_testBit_eq
  intro j
  rw [show 18446744073709551615 - x = 2 ^ 64 - (x + 1) by omega, Nat.testBit_two_pow_sub_succ (by omega), Nat.testBit_xor, show (18446744073709551615 : Nat) = 2 ^ 64 - 1 from rfl, Nat.testBit_two_pow_sub_one]
  by_cases hj : j < 64
  · simp [hj]
  · rw [Nat.testBit_lt_two_pow (Nat.lt_of_lt_of_le h (show 2 ^ 64 ≤ 2 ^ j from Nat.pow_le_pow_right (by decide) (by omega)))]
    simp [hj]
theorem not_word (C : Nat) (hC : C < 2 ^ 256) (i : Nat) (hi : i < 4) : bits BinOp.xor IntKind.u64 IntKind.u64.max (wd C i : Nat) = (wd (cnot C) i : Nat) := by
  rw [wd_not C hC i hi, ← xor_max _ (wd_lt C i)]
  exact Go.bits_xor_u64_nat 18446744073709551615 _ (by omega) (wd_lt C i)
set_option maxRecDepth 100000 in
set_option maxHeartbeats 1000000 in
theorem not_any (C : Nat) (hC : C < 2 ^ 256) (w : World) :
    Calls Tryz.prog 69 #[cv C] w fun e w' => e = .returned (cv (cnot C)) ∧ Below w.heap.size w w' := by
  have b0 : bits BinOp.xor IntKind.u64 IntKind.u64.max (wd C 0 : Nat) = (wd (cnot C) 0 : Nat) := not_word C hC 0 (by omega)
  have b1 : bits BinOp.xor IntKind.u64 IntKind.u64.max (wd C 1 : Nat) = (wd (cnot C) 1 : Nat) := not_word C hC 1 (by omega)
  have b2 : bits BinOp.xor IntKind.u64 IntKind.u64.max (wd C 2 : Nat) = (wd (cnot C) 2 : Nat) := not_word C hC 2 (by omega)
  have b3 : bits BinOp.xor IntKind.u64 IntKind.u64.max (wd C 3 : Nat) = (wd (cnot C) 3 : Nat) := not_word C hC 3 (by omega)
  unfold cv
  go_enter Tryz.func69, Tryz.ntmps69
  go_wp2
  refine wp_loop_rounds 5 ?_
  rw [rounds_succ]
  go_wp2
  rw [rounds_succ]
  go_wp2
  rw [rounds_succ]
  go_wp2
  rw [rounds_succ]
  go_wp2
  rw [rounds_succ]
  go_wp2
  refine bodyPost_ret (v := .agg #[.int .u64 (wd (cnot C) 0 : Nat), .int .u64 (wd (cnot C) 1 : Nat), .int .u64 (wd (cnot C) 2 : Nat), .int .u64 (wd (cnot C) 3 : Nat)]) (by simp [results, Tryz.results69, go_sem]) rfl ⟨rfl, ?_⟩
  exact (((Below.refl _ _).alloc (Nat.le_refl _) _).alloc (by simp) _)
end Go.Proofs.YtkofhmmnlapnnaaGreatDoor
