/-
  What class.Either answers. Conditions: none.
-/
import Derived.Test.YtkofhmmnlapnnaaGreatDoorKPlain
import Derived.Test.YtkofhmmnlapnnaaGreatDoorProg
import Derived.WalkKit
import Derived.WalkLawsBesides
import Derived.Deep.QuietTactic
import Derived.BigQuiet
import Derived.BigRegion
namespace Go.Proofs.YtkofhmmnlapnnaaGreatDoor
open Go.RowKit
set_option linter.unusedVariables false
/-- A class as a value. -/
@[reducible] def cv (C : Nat) : Value := .agg #[.int .u64 (wd C 0 : Nat), .int .u64 (wd C 1 : Nat), .int .u64 (wd C 2 : Nat), .int .u64 (wd C 3 : Nat)]
set_option maxRecDepth 100000 in
set_option maxHeartbeats 1000000 in
theorem either_any (C D : Nat) (w : World) :
    Calls Tryz.prog 68 #[cv C, cv D] w fun e w' => e = .returned (cv (C ||| D)) ∧ Below w.heap.size w w' := by
  have b0 : bits BinOp.or IntKind.u64 (wd C 0 : Nat) (wd D 0 : Nat) = (wd (C ||| D) 0 : Nat) := by rw [wd_or]; exact Go.bits_or_u64_nat _ _ (wd_lt _ _) (wd_lt _ _)
  have b1 : bits BinOp.or IntKind.u64 (wd C 1 : Nat) (wd D 1 : Nat) = (wd (C ||| D) 1 : Nat) := by rw [wd_or]; exact Go.bits_or_u64_nat _ _ (wd_lt _ _) (wd_lt _ _)
  have b2 : bits BinOp.or IntKind.u64 (wd C 2 : Nat) (wd D 2 : Nat) = (wd (C ||| D) 2 : Nat) := by rw [wd_or]; exact Go.bits_or_u64_nat _ _ (wd_lt _ _) (wd_lt _ _)
  have b3 : bits BinOp.or IntKind.u64 (wd C 3 : Nat) (wd D 3 : Nat) = (wd (C ||| D) 3 : Nat) := by rw [wd_or]; exact Go.bits_or_u64_nat _ _ (wd_lt _ _) (wd_lt _ _)
  unfold cv
  go_enter Tryz.func68, Tryz.ntmps68
  go_wp2
  refine wp_loop_rounds 5 ?_
  rw [rounds_succ]
  go_wp2
  go_region
  go_wp2
  rw [rounds_succ]
  go_wp2
  go_region
  go_wp2
  rw [rounds_succ]
  go_wp2
  go_region
  go_wp2
  rw [rounds_succ]
  go_wp2
  go_region
  go_wp2
  rw [rounds_succ]
  go_wp2
  refine bodyPost_ret (v := .agg #[.int .u64 (wd (C ||| D) 0 : Nat), .int .u64 (wd (C ||| D) 1 : Nat), .int .u64 (wd (C ||| D) 2 : Nat), .int .u64 (wd (C ||| D) 3 : Nat)]) (by simp [results, Tryz.results68, go_sem]) rfl ⟨rfl, ?_⟩
  exact ((((Below.refl _ _).alloc (Nat.le_refl _) _).alloc (by simp) _).alloc (by simp; omega) _).drew.drew.drew.drew
end Go.Proofs.YtkofhmmnlapnnaaGreatDoor
