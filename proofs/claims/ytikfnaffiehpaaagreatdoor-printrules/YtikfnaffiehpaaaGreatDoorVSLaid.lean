/-
  What the given list of variables gives a walk: the table of package bits and the variable of package errors, in their places. Condition: the list is met.
-/
import Derived.Test.YtikfnaffiehpaaaGreatDoorVXLaid
import Derived.Test.YtikfnaffiehpaaaGreatDoorVQ1
namespace Go.Proofs.YtikfnaffiehpaaaGreatDoor
open Go.ChangeShapes Go.WideShapes Go.RowKit
set_option linter.unusedVariables false
theorem Tryz.laidOutW : laidOutB Tryz.prog = true := by kernel_rfl
theorem Tryz.gT : Tryz.prog.globalNamed "math/bits.deBruijn64tab" = some 2 := by kernel_rfl
theorem Tryz.gTType : (Tryz.prog.globals[2]?).map (·.type) = some 176 := by kernel_rfl
theorem Tryz.cellsTab : Tryz.prog.cellsOf 176 = 64 := by kernel_rfl
theorem Tryz.cellsU8 : Tryz.prog.cellsOf 5 = 1 := by kernel_rfl
theorem tab_laid {W : World} {rest : List (String × DataW Unit)} (h : laidMet Tryz.prog (("math/bits.deBruijn64tab", Rows.laid_math_bits_deBruijn64tab) :: rest) W) : TabIs W := by
  have hT : Lib.TabIs Tryz.prog W "math/bits.deBruijn64tab" .u8 (Lib.deBruijn64tab.map fun n : Nat => (n : Int)) := Lib.tabIs_of_head (rest := rest) Tryz.gT Tryz.gTType Tryz.underlying176 Tryz.underlying5 Tryz.cellsU8 Tryz.cellsTab h
  intro i hi
  have := hT.cell Tryz.gT i (by simp [Lib.deBruijn64tab]; omega)
  rw [this]
  congr 2
  simp only [List.getD, List.getElem?_map]
  cases Lib.deBruijn64tab[i]? <;> rfl
theorem two_laid {W : World} (h : laidMetH Tryz.prog [("math/bits.deBruijn64tab", Rows.laid_math_bits_deBruijn64tab), ("errors.errorType", Rows.laid_errors_errorType)] W) : ErrIs W ∧ TabIs W := by
  have h' : laidMet Tryz.prog [("math/bits.deBruijn64tab", Rows.laid_math_bits_deBruijn64tab)] W ∧ handlesMet Tryz.prog [("errors.errorType", Rows.laid_errors_errorType)] W := h
  exact ⟨err_laid h'.2 (List.mem_singleton.2 rfl), tab_laid (rest := []) h'.1⟩
end Go.Proofs.YtikfnaffiehpaaaGreatDoor
