/-
  What the given list of variables gives a walk: the table of package bits, in its place. Condition: the list is met.
-/
import Derived.Test.YtcdkgcacmlolnaaDoorKArgs
import Derived.Test.YtcdkgcacmlolnaaDoorKLow
import Derived.Test.YtcdkgcacmlolnaaDoorCards
import Derived.Test.YtcdkgcacmlolnaaDoorTie
import Derived.LaidMore
import Derived.LaidHandle
import Derived.Stop.Joined
import Derived.SizedLaws
import Derived.Lib.LaidTab
namespace Go.Proofs.YtcdkgcacmlolnaaDoor
open Go.ChangeShapes Go.WideShapes Go.ChangeAt Go.RowKit
set_option linter.unusedVariables false
theorem Tryd.gT : Tryd.prog.globalNamed "math/bits.deBruijn64tab" = some 1 := by kernel_rfl
theorem Tryd.gTType : (Tryd.prog.globals[1]?).map (·.type) = some 103 := by kernel_rfl
theorem Tryd.cellsTab : Tryd.prog.cellsOf 103 = 64 := by kernel_rfl
theorem Tryd.cellsU8 : Tryd.prog.cellsOf 5 = 1 := by kernel_rfl
theorem tab_laid {W : World} {rest : List (String × DataW Unit)} (h : laidMet Tryd.prog (("math/bits.deBruijn64tab", Rows.laid_math_bits_deBruijn64tab) :: rest) W) : TabIs W := by
  have hT : Lib.TabIs Tryd.prog W "math/bits.deBruijn64tab" .u8 (Lib.deBruijn64tab.map fun n : Nat => (n : Int)) := Lib.tabIs_of_head (rest := rest) Tryd.gT Tryd.gTType Tryd.underlying103 Tryd.underlying5 Tryd.cellsU8 Tryd.cellsTab h
  intro i hi
  have := hT.cell Tryd.gT i (by simp [Lib.deBruijn64tab]; omega)
  rw [this]
  congr 2
  simp only [List.getD, List.getElem?_map]
  cases Lib.deBruijn64tab[i]? <;> rfl
theorem tab_only {W : World} (h : laidMetH Tryd.prog [("math/bits.deBruijn64tab", Rows.laid_math_bits_deBruijn64tab)] W) : TabIs W := tab_laid (rest := []) h
end Go.Proofs.YtcdkgcacmlolnaaDoor
