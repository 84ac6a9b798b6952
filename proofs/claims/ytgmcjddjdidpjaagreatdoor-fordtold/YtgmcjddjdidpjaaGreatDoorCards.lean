/-
  DERIVED. GIVEN WITH THE SEED: THE CARDS: each row of YtgmcjddjdidpjaaGreatDoorRows.lean that lists a variable, with what it lists TIED to the program's text (the seventh form; the later family's looks); each row that meets fmt, with fmt's text TOLD by the authors' own Lean function (tested against real Go, not proved from fmt's source: count such statements apart). THE CARD IS WHAT COUNTS. Prove the row's statement (the work); the ties are given (YtgmcjddjdidpjaaGreatDoorTie.lean); close each card by the builder's one call (the guide's Derived/Test/ToyasCard.lean, 'card_holds'). Laid BY PROGRAM, IN A SANDBOX (cutbox-door.mjs). By AI agents, Wed Nov 11 2026. No macro, syntax, notation, axiom, sorry.
-/
import Derived.Test.YtgmcjddjdidpjaaGreatDoorRows
import GoSem.ClaimSeven
namespace Go.Proofs.YtgmcjddjdidpjaaGreatDoor
namespace Rows

/-- THE TIED CARD OF 'muntinlaw10.FordMatches'. -/
def fordMatchesCard : Claim7 := { stood := { row := fordMatchesRow, standIns := [], harness := (true, "a493225f8db3946e66b2465e52d1de6c2db89d8e961ed68c183847e45e9023c9"), looks := true }, kinds := [], alts := [], laidByText := true, laidKinds := [.data, .handle, .sentinel], laidTests := true, laidLooks := .later }
def FordMatchesCardSaid : Prop := Claim7.holds Tryz.pinned (.plain (OpenSpec.ofChange fordMatchesSpec)) fordMatchesCard

/-- THE TIED CARD OF 'muntinlaw10.FordTold'. -/
def fordToldCard : Claim7 := { stood := { row := fordToldRow, standIns := [], harness := (true, "a493225f8db3946e66b2465e52d1de6c2db89d8e961ed68c183847e45e9023c9"), looks := true }, kinds := [], alts := [], laidByText := true, laidKinds := [.data, .handle, .sentinel], laidTests := true, laidLooks := .later }
def FordToldCardSaid : Prop := Claim7.holds Tryz.pinned (.plain (OpenSpec.ofChange fordToldSpec)) fordToldCard

/-- THE TIED CARD OF 'muntinlaw10.FordSteps'. -/
def fordStepsCard : Claim7 := { stood := { row := fordStepsRow, standIns := [], harness := (true, "a493225f8db3946e66b2465e52d1de6c2db89d8e961ed68c183847e45e9023c9"), looks := true }, kinds := [], alts := [], laidByText := true, laidKinds := [.data, .handle, .sentinel], laidTests := true, laidLooks := .later }
def FordStepsCardSaid : Prop := Claim7.holds Tryz.pinned (.plain (OpenSpec.ofChange fordStepsSpec)) fordStepsCard

/-- THE TIED CARD OF 'muntinlaw10.FordAhead'. -/
def fordAheadCard : Claim7 := { stood := { row := fordAheadRow, standIns := [], harness := (true, "a493225f8db3946e66b2465e52d1de6c2db89d8e961ed68c183847e45e9023c9"), looks := true }, kinds := [], alts := [], laidByText := true, laidKinds := [.data, .handle, .sentinel], laidTests := true, laidLooks := .later }
def FordAheadCardSaid : Prop := Claim7.holds Tryz.pinned (.plain (OpenSpec.ofChange fordAheadSpec)) fordAheadCard

/-- THE TIED CARD OF 'muntinlaw10.FordRows'. -/
def fordRowsCard : Claim7 := { stood := { row := fordRowsRow, standIns := [], harness := (true, "a493225f8db3946e66b2465e52d1de6c2db89d8e961ed68c183847e45e9023c9"), looks := true }, kinds := [], alts := [], laidByText := true, laidKinds := [.data, .handle, .sentinel], laidTests := true, laidLooks := .later }
def FordRowsCardSaid : Prop := Claim7.holds Tryz.pinned (.plain (OpenSpec.ofChange fordRowsSpec)) fordRowsCard

/-- THE TIED CARD OF 'muntinlaw10.FordChoices'. -/
def fordChoicesCard : Claim7 := { stood := { row := fordChoicesRow, standIns := [], harness := (true, "a493225f8db3946e66b2465e52d1de6c2db89d8e961ed68c183847e45e9023c9"), looks := true }, kinds := [], alts := [], laidByText := true, laidKinds := [.data, .handle, .sentinel], laidTests := true, laidLooks := .later }
def FordChoicesCardSaid : Prop := Claim7.holds Tryz.pinned (.plain (OpenSpec.ofChange fordChoicesSpec)) fordChoicesCard

/-- THE SECOND FORM's CARD OF 'muntinlaw10.FordMatches'. -/
def fordMatchesUptoCard : Claim7 := { stood := { row := fordMatchesUptoRow, standIns := [], harness := (true, "a493225f8db3946e66b2465e52d1de6c2db89d8e961ed68c183847e45e9023c9"), looks := true }, kinds := [], alts := [], laidByText := true, laidKinds := [.data, .handle, .sentinel], laidTests := true, laidLooks := .later }
def FordMatchesUptoCardSaid : Prop := Claim7.holds Tryz.pinned (.plain (OpenSpec.upto fordMatchesSpec)) fordMatchesUptoCard

/-- THE SECOND FORM's CARD OF 'muntinlaw10.FordTold'. -/
def fordToldUptoCard : Claim7 := { stood := { row := fordToldUptoRow, standIns := [], harness := (true, "a493225f8db3946e66b2465e52d1de6c2db89d8e961ed68c183847e45e9023c9"), looks := true }, kinds := [], alts := [], laidByText := true, laidKinds := [.data, .handle, .sentinel], laidTests := true, laidLooks := .later }
def FordToldUptoCardSaid : Prop := Claim7.holds Tryz.pinned (.plain (OpenSpec.upto fordToldSpec)) fordToldUptoCard

/-- THE SECOND FORM's CARD OF 'muntinlaw10.FordSteps'. -/
def fordStepsUptoCard : Claim7 := { stood := { row := fordStepsUptoRow, standIns := [], harness := (true, "a493225f8db3946e66b2465e52d1de6c2db89d8e961ed68c183847e45e9023c9"), looks := true }, kinds := [], alts := [], laidByText := true, laidKinds := [.data, .handle, .sentinel], laidTests := true, laidLooks := .later }
def FordStepsUptoCardSaid : Prop := Claim7.holds Tryz.pinned (.plain (OpenSpec.upto fordStepsSpec)) fordStepsUptoCard

/-- THE SECOND FORM's CARD OF 'muntinlaw10.FordAhead'. -/
def fordAheadUptoCard : Claim7 := { stood := { row := fordAheadUptoRow, standIns := [], harness := (true, "a493225f8db3946e66b2465e52d1de6c2db89d8e961ed68c183847e45e9023c9"), looks := true }, kinds := [], alts := [], laidByText := true, laidKinds := [.data, .handle, .sentinel], laidTests := true, laidLooks := .later }
def FordAheadUptoCardSaid : Prop := Claim7.holds Tryz.pinned (.plain (OpenSpec.upto fordAheadSpec)) fordAheadUptoCard

/-- THE SECOND FORM's CARD OF 'muntinlaw10.FordRows'. -/
def fordRowsUptoCard : Claim7 := { stood := { row := fordRowsUptoRow, standIns := [], harness := (true, "a493225f8db3946e66b2465e52d1de6c2db89d8e961ed68c183847e45e9023c9"), looks := true }, kinds := [], alts := [], laidByText := true, laidKinds := [.data, .handle, .sentinel], laidTests := true, laidLooks := .later }
def FordRowsUptoCardSaid : Prop := Claim7.holds Tryz.pinned (.plain (OpenSpec.upto fordRowsSpec)) fordRowsUptoCard

/-- THE SECOND FORM's CARD OF 'muntinlaw10.FordChoices'. -/
def fordChoicesUptoCard : Claim7 := { stood := { row := fordChoicesUptoRow, standIns := [], harness := (true, "a493225f8db3946e66b2465e52d1de6c2db89d8e961ed68c183847e45e9023c9"), looks := true }, kinds := [], alts := [], laidByText := true, laidKinds := [.data, .handle, .sentinel], laidTests := true, laidLooks := .later }
def FordChoicesUptoCardSaid : Prop := Claim7.holds Tryz.pinned (.plain (OpenSpec.upto fordChoicesSpec)) fordChoicesUptoCard
end Rows
end Go.Proofs.YtgmcjddjdidpjaaGreatDoor
