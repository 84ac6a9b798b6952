/-
  DERIVED. GIVEN WITH THE SEED: THE CARDS: each row of YtjodljnddflgfaaGreatDoorRows.lean that lists a variable, with what it lists TIED to the program's text (the seventh form; the later family's looks); each row that meets fmt, with fmt's text TOLD by the authors' own Lean function (tested against real Go, not proved from fmt's source: count such statements apart). THE CARD IS WHAT COUNTS. Prove the row's statement (the work); the ties are given (YtjodljnddflgfaaGreatDoorTie.lean); close each card by the builder's one call (the guide's Derived/Test/ToyasCard.lean, 'card_holds'). Laid BY PROGRAM, IN A SANDBOX (cutbox-door.mjs). By AI agents, Wed Nov 11 2026. No macro, syntax, notation, axiom, sorry.
-/
import Derived.Test.YtjodljnddflgfaaGreatDoorRows
import GoSem.ClaimSeven
namespace Go.Proofs.YtjodljnddflgfaaGreatDoor
namespace Rows

/-- THE TIED CARD OF 'muntinlaw09.FirstTells'. -/
def firstTellsCard : Claim7 := { stood := { row := firstTellsRow, standIns := [], harness := (true, "207e4e378a24c213c01e7159df8c4ffcc7d9c4897cd012accd46828d5554f962"), looks := true }, kinds := [], alts := [], laidByText := true, laidKinds := [.data, .handle], laidTests := true, laidLooks := .later }
def FirstTellsCardSaid : Prop := Claim7.holds Tryz.pinned (.plain (OpenSpec.ofChange firstTellsSpec)) firstTellsCard

/-- THE TIED CARD OF 'muntinlaw09.FirstParts'. -/
def firstPartsCard : Claim7 := { stood := { row := firstPartsRow, standIns := [], harness := (true, "207e4e378a24c213c01e7159df8c4ffcc7d9c4897cd012accd46828d5554f962"), looks := true }, kinds := [], alts := [], laidByText := true, laidKinds := [.data, .handle], laidTests := true, laidLooks := .later }
def FirstPartsCardSaid : Prop := Claim7.holds Tryz.pinned (.plain (OpenSpec.ofChange firstPartsSpec)) firstPartsCard

/-- THE TIED CARD OF 'muntinlaw09.FirstPruned'. -/
def firstPrunedCard : Claim7 := { stood := { row := firstPrunedRow, standIns := [], harness := (true, "207e4e378a24c213c01e7159df8c4ffcc7d9c4897cd012accd46828d5554f962"), looks := true }, kinds := [], alts := [], laidByText := true, laidKinds := [.data, .handle], laidTests := true, laidLooks := .later }
def FirstPrunedCardSaid : Prop := Claim7.holds Tryz.pinned (.plain (OpenSpec.ofChange firstPrunedSpec)) firstPrunedCard

/-- THE TIED CARD OF 'muntinlaw09.FirstRows'. -/
def firstRowsCard : Claim7 := { stood := { row := firstRowsRow, standIns := [], harness := (true, "207e4e378a24c213c01e7159df8c4ffcc7d9c4897cd012accd46828d5554f962"), looks := true }, kinds := [], alts := [], laidByText := true, laidKinds := [.data, .handle], laidTests := true, laidLooks := .later }
def FirstRowsCardSaid : Prop := Claim7.holds Tryz.pinned (.plain (OpenSpec.ofChange firstRowsSpec)) firstRowsCard

/-- THE SECOND FORM's CARD OF 'muntinlaw09.FirstTells'. -/
def firstTellsUptoCard : Claim7 := { stood := { row := firstTellsUptoRow, standIns := [], harness := (true, "207e4e378a24c213c01e7159df8c4ffcc7d9c4897cd012accd46828d5554f962"), looks := true }, kinds := [], alts := [], laidByText := true, laidKinds := [.data, .handle], laidTests := true, laidLooks := .later }
def FirstTellsUptoCardSaid : Prop := Claim7.holds Tryz.pinned (.plain (OpenSpec.upto firstTellsSpec)) firstTellsUptoCard

/-- THE SECOND FORM's CARD OF 'muntinlaw09.FirstParts'. -/
def firstPartsUptoCard : Claim7 := { stood := { row := firstPartsUptoRow, standIns := [], harness := (true, "207e4e378a24c213c01e7159df8c4ffcc7d9c4897cd012accd46828d5554f962"), looks := true }, kinds := [], alts := [], laidByText := true, laidKinds := [.data, .handle], laidTests := true, laidLooks := .later }
def FirstPartsUptoCardSaid : Prop := Claim7.holds Tryz.pinned (.plain (OpenSpec.upto firstPartsSpec)) firstPartsUptoCard

/-- THE SECOND FORM's CARD OF 'muntinlaw09.FirstPruned'. -/
def firstPrunedUptoCard : Claim7 := { stood := { row := firstPrunedUptoRow, standIns := [], harness := (true, "207e4e378a24c213c01e7159df8c4ffcc7d9c4897cd012accd46828d5554f962"), looks := true }, kinds := [], alts := [], laidByText := true, laidKinds := [.data, .handle], laidTests := true, laidLooks := .later }
def FirstPrunedUptoCardSaid : Prop := Claim7.holds Tryz.pinned (.plain (OpenSpec.upto firstPrunedSpec)) firstPrunedUptoCard

/-- THE SECOND FORM's CARD OF 'muntinlaw09.FirstRows'. -/
def firstRowsUptoCard : Claim7 := { stood := { row := firstRowsUptoRow, standIns := [], harness := (true, "207e4e378a24c213c01e7159df8c4ffcc7d9c4897cd012accd46828d5554f962"), looks := true }, kinds := [], alts := [], laidByText := true, laidKinds := [.data, .handle], laidTests := true, laidLooks := .later }
def FirstRowsUptoCardSaid : Prop := Claim7.holds Tryz.pinned (.plain (OpenSpec.upto firstRowsSpec)) firstRowsUptoCard
end Rows
end Go.Proofs.YtjodljnddflgfaaGreatDoor
