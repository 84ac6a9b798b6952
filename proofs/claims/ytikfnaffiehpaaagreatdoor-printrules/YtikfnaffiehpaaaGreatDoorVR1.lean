/-
  What printer.isWrapped and printer.sign answer. Conditions: those that each theorem names.
-/
import Derived.Test.YtikfnaffiehpaaaGreatDoorVP1
namespace Go.Proofs.YtikfnaffiehpaaaGreatDoor
open Go.RowKit
set_option linter.unusedVariables false
set_option maxRecDepth 100000 in
set_option maxHeartbeats 4000000 in
theorem niswr_any (over kd : Nat) (w : World) (h1 : 6 ≤ over) (h2 : over ≤ 12) (h3 : 1 ≤ kd) (h4 : kd ≤ 12) :
    Calls Tryz.prog 130 #[.int .i64 (over : Int), .int .i64 (kd : Int)] w fun e w' => e = .returned (.bool (wr over kd)) ∧ w' = w := by
  have ho : over = 6 ∨ over = 7 ∨ over = 8 ∨ over = 9 ∨ over = 10 ∨ over = 11 ∨ over = 12 := by omega
  have hk : kd = 1 ∨ kd = 2 ∨ kd = 3 ∨ kd = 4 ∨ kd = 5 ∨ kd = 6 ∨ kd = 7 ∨ kd = 8 ∨ kd = 9 ∨ kd = 10 ∨ kd = 11 ∨ kd = 12 := by omega
  clear h1 h2 h3 h4
  rcases ho with rfl | rfl | rfl | rfl | rfl | rfl | rfl <;> rcases hk with rfl | rfl | rfl | rfl | rfl | rfl | rfl | rfl | rfl | rfl | rfl | rfl <;>
    (go_enter Tryz.func130, Tryz.ntmps130
     go_wp2_with fail
     go_ret
     exact ⟨rfl, rfl⟩)
end Go.Proofs.YtikfnaffiehpaaaGreatDoor
