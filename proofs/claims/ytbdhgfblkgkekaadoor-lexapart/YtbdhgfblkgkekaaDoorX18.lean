/-
  The law's small case comes out right. Condition: package errors' own variable holds the handle of the type error.
-/
import Derived.Test.YtbdhgfblkgkekaaDoorX16
namespace Go.Proofs.YtbdhgfblkgkekaaDoor
open Go.RowKit
set_option linter.unusedVariables false
theorem tkS_small : tkS { data := #[97, 32, 60, 45, 32, 39, 120, 39] } = .inr [(1, { data := #[97] }, 0, 0), (2, { data := #[] }, 0, 2), (3, { data := #[120] }, 0, 5), (6, { data := #[] }, 0, 8)] := by kernel_rfl
set_option maxRecDepth 100000 in
set_option maxHeartbeats 4000000 in
theorem small_ok (w : World) (h : ErrIs w) : Calls Tryd.prog 9 #[] w fun e w' => e = .returned (.bool true) ∧ Below w.heap.size w w' := by
  have HT : Hid (Calls Tryd.prog 10 #[.string { data := #[97, 32, 60, 45, 32, 39, 120, 39] }] w fun e w' => AnsT (.inr [(1, { data := #[97] }, 0, 0), (2, { data := #[] }, 0, 2), (3, { data := #[120] }, 0, 5), (6, { data := #[] }, 0, 8)]) w e w') := by
    have := xtokens_any { data := #[97, 32, 60, 45, 32, 39, 120, 39] } w h (by decide)
    rw [tkS_small] at this
    exact this
  clear h
  go_enter Tryd.func9, Tryd.ntmps9
  go_wp2_with fail
  refine HT.out.mono ?_
  rintro e w1 ⟨v, rfl, HO, HB⟩
  obtain ⟨g, cap, rfl⟩ := own_shape HO.out (by simp)
  have c1 := HO.out.cellAt 1 (by simp)
  have c2 := HO.out.cellAt 15 (by simp)
  have c3 := HO.out.cellAt 21 (by simp)
  simp [tvs] at c1 c2 c3
  clear HT HO
  go_wp2_with fail
  go_ret
  exact ⟨rfl, HB.out⟩
end Go.Proofs.YtbdhgfblkgkekaaDoor
