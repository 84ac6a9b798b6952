/-
  DERIVED. GIVEN WITH THE SEED: THE CARDS: each row of YtbdhgfblkgkekabDoorRows.lean that lists a variable, with what it lists TIED to the program's text (the seventh form; the later family's looks); each row that meets fmt, with fmt's text TOLD by the authors' own Lean function (tested against real Go, not proved from fmt's source: count such statements apart). THE CARD IS WHAT COUNTS. Prove the row's statement (the work); the ties are given (YtbdhgfblkgkekabDoorTie.lean); close each card by the builder's one call (the guide's Derived/Test/ToyasCard.lean, 'card_holds'). Laid BY PROGRAM, IN A SANDBOX (cutbox-door.mjs). By AI agents, Wed Nov 11 2026. No macro, syntax, notation, axiom, sorry.
-/
import Derived.Test.YtbdhgfblkgkekabDoorRows
import GoSem.ClaimSeven
namespace Go.Proofs.YtbdhgfblkgkekabDoor
namespace Rows

/-- THE TIED CARD OF 'muntinlaw03.LexNamed'. -/
def lexNamedCard : Claim7 := { stood := { row := lexNamedRow, standIns := [], harness := (true, "34b7f85ae2b1a7b5c8ad4a7cdc6b07d6e109d07da1ea0170891868d44901afd1"), looks := true }, kinds := [], alts := [], laidByText := true, laidKinds := [.handle], laidTests := true, laidLooks := .later }
def LexNamedCardSaid : Prop := Claim7.holds Tryd.pinned (.plain (OpenSpec.ofChange lexNamedSpec)) lexNamedCard

/-- THE SECOND FORM's CARD OF 'muntinlaw03.LexNamed'. -/
def lexNamedUptoCard : Claim7 := { stood := { row := lexNamedUptoRow, standIns := [], harness := (true, "34b7f85ae2b1a7b5c8ad4a7cdc6b07d6e109d07da1ea0170891868d44901afd1"), looks := true }, kinds := [], alts := [], laidByText := true, laidKinds := [.handle], laidTests := true, laidLooks := .later }
def LexNamedUptoCardSaid : Prop := Claim7.holds Tryd.pinned (.plain (OpenSpec.upto lexNamedSpec)) lexNamedUptoCard
end Rows
end Go.Proofs.YtbdhgfblkgkekabDoor
