/-
  DERIVED. GIVEN WITH THE SEED: THE CARDS: each row of YtgmcjddjdidpjabGreatDoorRows.lean that lists a variable, with what it lists TIED to the program's text (the seventh form; the later family's looks); each row that meets fmt, with fmt's text TOLD by the authors' own Lean function (tested against real Go, not proved from fmt's source: count such statements apart). THE CARD IS WHAT COUNTS. Prove the row's statement (the work); the ties are given (YtgmcjddjdidpjabGreatDoorTie.lean); close each card by the builder's one call (the guide's Derived/Test/ToyasCard.lean, 'card_holds'). Laid BY PROGRAM, IN A SANDBOX (cutbox-door.mjs). By AI agents, Wed Nov 11 2026. No macro, syntax, notation, axiom, sorry.
-/
import Derived.Test.YtgmcjddjdidpjabGreatDoorRows
import GoSem.ClaimSeven
namespace Go.Proofs.YtgmcjddjdidpjabGreatDoor
namespace Rows

/-- THE TIED CARD OF 'muntinlaw10.FordLooks'. -/
def fordLooksCard : Claim7 := { stood := { row := fordLooksRow, standIns := [], harness := (true, "9152d31b54b01c914718e46731db3bc0449d1dda1d4cc42ef121832ba174fd62"), looks := true }, kinds := [], alts := [], laidByText := true, laidKinds := [.data, .handle, .sentinel], laidTests := true, laidLooks := .later }
def FordLooksCardSaid : Prop := Claim7.holds Tryz.pinned (.plain (OpenSpec.ofChange fordLooksSpec)) fordLooksCard

/-- THE TIED CARD OF 'muntinlaw10.FordRepeats'. -/
def fordRepeatsCard : Claim7 := { stood := { row := fordRepeatsRow, standIns := [], harness := (true, "9152d31b54b01c914718e46731db3bc0449d1dda1d4cc42ef121832ba174fd62"), looks := true }, kinds := [], alts := [], laidByText := true, laidKinds := [.data, .handle, .sentinel], laidTests := true, laidLooks := .later }
def FordRepeatsCardSaid : Prop := Claim7.holds Tryz.pinned (.plain (OpenSpec.ofChange fordRepeatsSpec)) fordRepeatsCard

/-- THE SECOND FORM's CARD OF 'muntinlaw10.FordLooks'. -/
def fordLooksUptoCard : Claim7 := { stood := { row := fordLooksUptoRow, standIns := [], harness := (true, "9152d31b54b01c914718e46731db3bc0449d1dda1d4cc42ef121832ba174fd62"), looks := true }, kinds := [], alts := [], laidByText := true, laidKinds := [.data, .handle, .sentinel], laidTests := true, laidLooks := .later }
def FordLooksUptoCardSaid : Prop := Claim7.holds Tryz.pinned (.plain (OpenSpec.upto fordLooksSpec)) fordLooksUptoCard

/-- THE SECOND FORM's CARD OF 'muntinlaw10.FordRepeats'. -/
def fordRepeatsUptoCard : Claim7 := { stood := { row := fordRepeatsUptoRow, standIns := [], harness := (true, "9152d31b54b01c914718e46731db3bc0449d1dda1d4cc42ef121832ba174fd62"), looks := true }, kinds := [], alts := [], laidByText := true, laidKinds := [.data, .handle, .sentinel], laidTests := true, laidLooks := .later }
def FordRepeatsUptoCardSaid : Prop := Claim7.holds Tryz.pinned (.plain (OpenSpec.upto fordRepeatsSpec)) fordRepeatsUptoCard
end Rows
end Go.Proofs.YtgmcjddjdidpjabGreatDoor
