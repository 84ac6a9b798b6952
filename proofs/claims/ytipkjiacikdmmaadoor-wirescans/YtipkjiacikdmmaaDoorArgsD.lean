/-
  What the given list of variables gives a walk (the table of the sum, in its place); a world that meets it; how long an argument may be. Conditions: those that each theorem names.
-/
import Derived.Test.YtipkjiacikdmmaaDoorCards
import Derived.Test.YtipkjiacikdmmaaDoorTie
import Derived.Test.YtipkjiacikdmmaaDoorArgs
import Derived.Test.YtipkjiacikdmmaaDoorSum
import Derived.LaidMore
import Derived.LaidHandle
import Derived.Stop.Joined
import Derived.SizedLaws
import Derived.Lib.LaidTab
namespace Go.Proofs.YtipkjiacikdmmaaDoor
open Go.ChangeShapes Go.WideShapes Go.ChangeAt Go.RowKit
set_option linter.unusedVariables false

theorem Tryd.bytes5 : Tryd.prog.bytesOf 5 = 1 := by kernel_rfl
theorem has_arg2 {H : Type} {enc : TypeId × Value → H} {W : World} {a : Option Addr} {len cap : Nat} {d : DataW H} {ps : List MemPlace}
    {fuel : Nat} (hf : DataW.trod enc Tryd.prog W 0 (fun _ => true) true fuel 22 (Value.slice a len cap).cells.toList = some (d, ps)) : (∃ l, Has W a len cap l) ∧ (cap = 0 ∨ ∃ es sp, d = .slice es sp ∧ es.length + sp.length = cap) := by
  refine ⟨has_arg hf, ?_⟩
  rcases open_ints Tryd.underlying22 Tryd.underlying5 Tryd.cells5 hf with ⟨hcs, _⟩ | ⟨x, l, c, zs, hcs, _, hl, hm, hz, hd, hcell, hwz⟩
  · simp [Value.cells] at hcs
    exact .inl hcs.2.2
  · simp [Value.cells] at hcs
    obtain ⟨rfl, rfl, rfl⟩ := hcs
    have hz' : zs.length = cap := by simpa using hz
    simp only [Prod.mk.injEq] at hd
    exact .inr ⟨_, _, hd.1, by simp [lits]; omega⟩
theorem cap_of {H : Type} {ts : List TypeId} {ds : List (DataW H)} (h : (DataW.weightsEach Tryd.prog ts ds).all (· ≤ reachBytes) = true) {j cap : Nat} {d : DataW H} (ht : ts[j]? = some 22) (hd : ds[j]? = some d)
    (hc : cap = 0 ∨ ∃ es sp, d = .slice es sp ∧ es.length + sp.length = cap) : cap ≤ 140737488351232 := by
  rcases hc with rfl | ⟨es, sp, rfl, rfl⟩
  · omega
  · have := sized_slice h ht hd Tryd.underlying22
    rw [Tryd.bytes5] at this
    simp only [reachBytes] at this
    omega

theorem Tryd.gT : Tryd.prog.globalNamed "muntin/wire.sumSteps" = some 0 := by kernel_rfl
theorem Tryd.gTType : (Tryd.prog.globals[0]?).map (·.type) = some 60 := by kernel_rfl
theorem Tryd.cellsTab : Tryd.prog.cellsOf 60 = 16 := by kernel_rfl
theorem Tryd.cellsU32 : Tryd.prog.cellsOf 58 = 1 := by kernel_rfl

theorem tab_laid {W : World} {rest : List (String × DataW Unit)} (h : laidMet Tryd.prog (("muntin/wire.sumSteps", Rows.laid_muntin_wire_sumSteps) :: rest) W) : TabIs W := by
  have hT : Lib.TabIs Tryd.prog W "muntin/wire.sumSteps" .u32 (tab.map fun n : Nat => (n : Int)) := Lib.tabIs_of_head (rest := rest) Tryd.gT Tryd.gTType Tryd.underlying60 Tryd.underlying58 Tryd.cellsU32 Tryd.cellsTab h
  intro i hi
  have := hT.cell Tryd.gT i (by simp [tab]; omega)
  rw [this]
  congr 2
  simp [List.getD, List.getElem?_map]
  cases tab[i]? <;> rfl
end Go.Proofs.YtipkjiacikdmmaaDoor
