/-
  What api.Code answers: 0 of nil, the number of an Errno. Condition: package errors' own variable holds the handle of the type error.
-/
import Derived.Test.YtjhclpionimjbaaDoorZAs
namespace Go.Proofs.YtjhclpionimjbaaDoor
open Go.RowKit
set_option linter.unusedVariables false

theorem ErrIs.below {w w' : World} {B : Nat} (h : ErrIs w) (hb : Below B w w') (hB : 0 < B) : ErrIs w' := (hb.cell (p := ⟨0, 0, none⟩) hB).trans h
theorem ErrIs.lt {w : World} (h : ErrIs w) : 0 < w.heap.size := by
  unfold ErrIs at h
  rcases Nat.lt_or_ge 0 w.heap.size with h1 | h1
  · exact h1
  · simp [World.cell?, Array.getElem?_eq_none h1] at h

theorem code_nil (w : World) : Calls Tryd.prog 11 #[.nilIface] w fun e w' => e = .returned (.int .i64 0) ∧ w' = w := by
  go_enter Tryd.func11, Tryd.ntmps11
  go_wp2
  go_ret
  exact ⟨rfl, rfl⟩

set_option maxHeartbeats 1000000 in
theorem code_errno (c : Int) (w : World) (h : ErrIs w) : Calls Tryd.prog 11 #[.iface 31 (.int .i64 c)] w fun e w' => e = .returned (.int .i64 c) ∧ Below w.heap.size w w' := by
  have hlt := h.lt
  have hA := as_hit c ⟨w.heap.size, 0, none⟩ (.int .i64 0) (w.alloc (.cells #[.int .i64 0] 31)) (by rw [World.cell?_alloc_lt _ _ ⟨0, 0, none⟩ hlt]; exact h) (by simp) (by simp)
  clear h
  go_enter Tryd.func11, Tryd.ntmps11
  go_wp2_with fail
  refine hA.mono ?_
  rintro e w1 ⟨rfl, hw⟩
  have hc : w1.cell? ⟨w.heap.size, 0, none⟩ = some (.int .i64 c) := by
    rw [hw]
    exact World.cell?_setCell_same' _ _ _ (by rw [World.cell?_alloc_lt _ _ ⟨w.heap.size, 0, none⟩ (by simp <;> omega), World.cell?_alloc_lt _ _ ⟨w.heap.size, 0, none⟩ (by simp <;> omega), World.cell?_alloc_lt _ _ ⟨w.heap.size, 0, none⟩ (by simp <;> omega), World.cell?_alloc_lt _ _ ⟨w.heap.size, 0, none⟩ (by simp)]; simp)
  have HB : Hid (Below w.heap.size w w1) := by
    show Below w.heap.size w w1
    rw [hw]
    exact ((((((Below.refl _ _).alloc (Nat.le_refl _) _).alloc (by simp) _).alloc (by simp <;> omega) _).alloc (by simp <;> omega) _).alloc (by simp <;> omega) _).setCell (Nat.le_refl _) _
  clear hw hA
  go_wp2
  go_ret
  exact ⟨rfl, HB.out⟩
end Go.Proofs.YtjhclpionimjbaaDoor
