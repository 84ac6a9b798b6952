/-
  DERIVED. GIVEN WITH THE SEED: THE PROGRAM's TIES (one call each: nine closed facts by the kernel) AND EACH ROW's TIE, after the 31st guide's Derived/Test/Toyas{Tie, Card}.lean. No idea stands in it: it is a product of the set-up. Laid BY PROGRAM, IN A SANDBOX (cutbox-door.mjs). By AI agents, Wed Nov 11 2026. No macro, syntax, notation, axiom, sorry.
-/
import Derived.Test.YthmgblmoobkliaaGreatDoorRows
import Derived.LaidByTextLater
import Derived.SevenTiedAt
import Derived.LaidSub
import Derived.LaidOnce
namespace Go.Proofs.YthmgblmoobkliaaGreatDoor
open Go
set_option maxRecDepth 100000
theorem seatTie1 : Tryz.prog.laidByTextLater [("math/bits.deBruijn64tab", Rows.laid_math_bits_deBruijn64tab), ("errors.errorType", Rows.laid_errors_errorType), ("muntin/sound.errFound", Rows.laid_muntin_sound_errFound)] [.data, .handle, .sentinel] true :=
  Program.laidByTextLater_by_one 40 8 65 (by kernel_rfl) (by kernel_rfl) (by kernel_rfl) (by kernel_rfl) (by kernel_rfl) (by kernel_rfl) (fun _ _ => by kernel_rfl)
theorem noOwnUnsafe : Tryz.pinned.checked.prog.headLifts.contains "ownunsafe" = false := by kernel_rfl
theorem tie : Tryz.prog.laidByTextLater [("math/bits.deBruijn64tab", Rows.laid_math_bits_deBruijn64tab), ("errors.errorType", Rows.laid_errors_errorType), ("muntin/sound.errFound", Rows.laid_muntin_sound_errFound)] [.data, .handle, .sentinel] true :=
  Program.laidByTextLater.sub seatTie1 ["math/bits.deBruijn64tab", "errors.errorType", "muntin/sound.errFound"] (by kernel_rfl) (by kernel_rfl)
theorem soundTells_row_tie : Rows.soundTellsRow.laidByTextAt .later Tryz.pinned [.data, .handle, .sentinel] true :=
  OpenClaim.laidByTextAt_later rfl rfl tie noOwnUnsafe
theorem soundRanks_row_tie : Rows.soundRanksRow.laidByTextAt .later Tryz.pinned [.data, .handle, .sentinel] true :=
  OpenClaim.laidByTextAt_later rfl rfl tie noOwnUnsafe
theorem soundPruned_row_tie : Rows.soundPrunedRow.laidByTextAt .later Tryz.pinned [.data, .handle, .sentinel] true :=
  OpenClaim.laidByTextAt_later rfl rfl tie noOwnUnsafe
theorem soundLeft_row_tie : Rows.soundLeftRow.laidByTextAt .later Tryz.pinned [.data, .handle, .sentinel] true :=
  OpenClaim.laidByTextAt_later rfl rfl tie noOwnUnsafe
theorem soundFew_row_tie : Rows.soundFewRow.laidByTextAt .later Tryz.pinned [.data, .handle, .sentinel] true :=
  OpenClaim.laidByTextAt_later rfl rfl tie noOwnUnsafe
theorem soundUses_row_tie : Rows.soundUsesRow.laidByTextAt .later Tryz.pinned [.data, .handle, .sentinel] true :=
  OpenClaim.laidByTextAt_later rfl rfl tie noOwnUnsafe
theorem soundTellsUpto_row_tie : Rows.soundTellsUptoRow.laidByTextAt .later Tryz.pinned [.data, .handle, .sentinel] true :=
  OpenClaim.laidByTextAt_later rfl rfl tie noOwnUnsafe
theorem soundRanksUpto_row_tie : Rows.soundRanksUptoRow.laidByTextAt .later Tryz.pinned [.data, .handle, .sentinel] true :=
  OpenClaim.laidByTextAt_later rfl rfl tie noOwnUnsafe
theorem soundPrunedUpto_row_tie : Rows.soundPrunedUptoRow.laidByTextAt .later Tryz.pinned [.data, .handle, .sentinel] true :=
  OpenClaim.laidByTextAt_later rfl rfl tie noOwnUnsafe
theorem soundLeftUpto_row_tie : Rows.soundLeftUptoRow.laidByTextAt .later Tryz.pinned [.data, .handle, .sentinel] true :=
  OpenClaim.laidByTextAt_later rfl rfl tie noOwnUnsafe
theorem soundFewUpto_row_tie : Rows.soundFewUptoRow.laidByTextAt .later Tryz.pinned [.data, .handle, .sentinel] true :=
  OpenClaim.laidByTextAt_later rfl rfl tie noOwnUnsafe
theorem soundUsesUpto_row_tie : Rows.soundUsesUptoRow.laidByTextAt .later Tryz.pinned [.data, .handle, .sentinel] true :=
  OpenClaim.laidByTextAt_later rfl rfl tie noOwnUnsafe
end Go.Proofs.YthmgblmoobkliaaGreatDoor
