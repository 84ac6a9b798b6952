/-
  DERIVED. GIVEN WITH THE SEED: THE CARDS: each row of YthmgblmoobkliaaGreatDoorRows.lean that lists a variable, with what it lists TIED to the program's text (the seventh form; the later family's looks); each row that meets fmt, with fmt's text TOLD by the authors' own Lean function (tested against real Go, not proved from fmt's source: count such statements apart). THE CARD IS WHAT COUNTS. Prove the row's statement (the work); the ties are given (YthmgblmoobkliaaGreatDoorTie.lean); close each card by the builder's one call (the guide's Derived/Test/ToyasCard.lean, 'card_holds'). Laid BY PROGRAM, IN A SANDBOX (cutbox-door.mjs). By AI agents, Wed Nov 11 2026. No macro, syntax, notation, axiom, sorry.
-/
import Derived.Test.YthmgblmoobkliaaGreatDoorRows
import GoSem.ClaimSeven
namespace Go.Proofs.YthmgblmoobkliaaGreatDoor
namespace Rows

/-- THE TIED CARD OF 'muntinlaw08.SoundTells'. -/
def soundTellsCard : Claim7 := { stood := { row := soundTellsRow, standIns := [], harness := (true, "f617bb0832cadaeb2317e2b3bba53b380995005a2251f34b5e80a7755d3386f5"), looks := true }, kinds := [], alts := [], laidByText := true, laidKinds := [.data, .handle, .sentinel], laidTests := true, laidLooks := .later }
def SoundTellsCardSaid : Prop := Claim7.holds Tryz.pinned (.plain (OpenSpec.ofChange soundTellsSpec)) soundTellsCard

/-- THE TIED CARD OF 'muntinlaw08.SoundRanks'. -/
def soundRanksCard : Claim7 := { stood := { row := soundRanksRow, standIns := [], harness := (true, "f617bb0832cadaeb2317e2b3bba53b380995005a2251f34b5e80a7755d3386f5"), looks := true }, kinds := [], alts := [], laidByText := true, laidKinds := [.data, .handle, .sentinel], laidTests := true, laidLooks := .later }
def SoundRanksCardSaid : Prop := Claim7.holds Tryz.pinned (.plain (OpenSpec.ofChange soundRanksSpec)) soundRanksCard

/-- THE TIED CARD OF 'muntinlaw08.SoundPruned'. -/
def soundPrunedCard : Claim7 := { stood := { row := soundPrunedRow, standIns := [], harness := (true, "f617bb0832cadaeb2317e2b3bba53b380995005a2251f34b5e80a7755d3386f5"), looks := true }, kinds := [], alts := [], laidByText := true, laidKinds := [.data, .handle, .sentinel], laidTests := true, laidLooks := .later }
def SoundPrunedCardSaid : Prop := Claim7.holds Tryz.pinned (.plain (OpenSpec.ofChange soundPrunedSpec)) soundPrunedCard

/-- THE TIED CARD OF 'muntinlaw08.SoundLeft'. -/
def soundLeftCard : Claim7 := { stood := { row := soundLeftRow, standIns := [], harness := (true, "f617bb0832cadaeb2317e2b3bba53b380995005a2251f34b5e80a7755d3386f5"), looks := true }, kinds := [], alts := [], laidByText := true, laidKinds := [.data, .handle, .sentinel], laidTests := true, laidLooks := .later }
def SoundLeftCardSaid : Prop := Claim7.holds Tryz.pinned (.plain (OpenSpec.ofChange soundLeftSpec)) soundLeftCard

/-- THE TIED CARD OF 'muntinlaw08.SoundFew'. -/
def soundFewCard : Claim7 := { stood := { row := soundFewRow, standIns := [], harness := (true, "f617bb0832cadaeb2317e2b3bba53b380995005a2251f34b5e80a7755d3386f5"), looks := true }, kinds := [], alts := [], laidByText := true, laidKinds := [.data, .handle, .sentinel], laidTests := true, laidLooks := .later }
def SoundFewCardSaid : Prop := Claim7.holds Tryz.pinned (.plain (OpenSpec.ofChange soundFewSpec)) soundFewCard

/-- THE TIED CARD OF 'muntinlaw08.SoundUses'. -/
def soundUsesCard : Claim7 := { stood := { row := soundUsesRow, standIns := [], harness := (true, "f617bb0832cadaeb2317e2b3bba53b380995005a2251f34b5e80a7755d3386f5"), looks := true }, kinds := [], alts := [], laidByText := true, laidKinds := [.data, .handle, .sentinel], laidTests := true, laidLooks := .later }
def SoundUsesCardSaid : Prop := Claim7.holds Tryz.pinned (.plain (OpenSpec.ofChange soundUsesSpec)) soundUsesCard

/-- THE SECOND FORM's CARD OF 'muntinlaw08.SoundTells'. -/
def soundTellsUptoCard : Claim7 := { stood := { row := soundTellsUptoRow, standIns := [], harness := (true, "f617bb0832cadaeb2317e2b3bba53b380995005a2251f34b5e80a7755d3386f5"), looks := true }, kinds := [], alts := [], laidByText := true, laidKinds := [.data, .handle, .sentinel], laidTests := true, laidLooks := .later }
def SoundTellsUptoCardSaid : Prop := Claim7.holds Tryz.pinned (.plain (OpenSpec.upto soundTellsSpec)) soundTellsUptoCard

/-- THE SECOND FORM's CARD OF 'muntinlaw08.SoundRanks'. -/
def soundRanksUptoCard : Claim7 := { stood := { row := soundRanksUptoRow, standIns := [], harness := (true, "f617bb0832cadaeb2317e2b3bba53b380995005a2251f34b5e80a7755d3386f5"), looks := true }, kinds := [], alts := [], laidByText := true, laidKinds := [.data, .handle, .sentinel], laidTests := true, laidLooks := .later }
def SoundRanksUptoCardSaid : Prop := Claim7.holds Tryz.pinned (.plain (OpenSpec.upto soundRanksSpec)) soundRanksUptoCard

/-- THE SECOND FORM's CARD OF 'muntinlaw08.SoundPruned'. -/
def soundPrunedUptoCard : Claim7 := { stood := { row := soundPrunedUptoRow, standIns := [], harness := (true, "f617bb0832cadaeb2317e2b3bba53b380995005a2251f34b5e80a7755d3386f5"), looks := true }, kinds := [], alts := [], laidByText := true, laidKinds := [.data, .handle, .sentinel], laidTests := true, laidLooks := .later }
def SoundPrunedUptoCardSaid : Prop := Claim7.holds Tryz.pinned (.plain (OpenSpec.upto soundPrunedSpec)) soundPrunedUptoCard

/-- THE SECOND FORM's CARD OF 'muntinlaw08.SoundLeft'. -/
def soundLeftUptoCard : Claim7 := { stood := { row := soundLeftUptoRow, standIns := [], harness := (true, "f617bb0832cadaeb2317e2b3bba53b380995005a2251f34b5e80a7755d3386f5"), looks := true }, kinds := [], alts := [], laidByText := true, laidKinds := [.data, .handle, .sentinel], laidTests := true, laidLooks := .later }
def SoundLeftUptoCardSaid : Prop := Claim7.holds Tryz.pinned (.plain (OpenSpec.upto soundLeftSpec)) soundLeftUptoCard

/-- THE SECOND FORM's CARD OF 'muntinlaw08.SoundFew'. -/
def soundFewUptoCard : Claim7 := { stood := { row := soundFewUptoRow, standIns := [], harness := (true, "f617bb0832cadaeb2317e2b3bba53b380995005a2251f34b5e80a7755d3386f5"), looks := true }, kinds := [], alts := [], laidByText := true, laidKinds := [.data, .handle, .sentinel], laidTests := true, laidLooks := .later }
def SoundFewUptoCardSaid : Prop := Claim7.holds Tryz.pinned (.plain (OpenSpec.upto soundFewSpec)) soundFewUptoCard

/-- THE SECOND FORM's CARD OF 'muntinlaw08.SoundUses'. -/
def soundUsesUptoCard : Claim7 := { stood := { row := soundUsesUptoRow, standIns := [], harness := (true, "f617bb0832cadaeb2317e2b3bba53b380995005a2251f34b5e80a7755d3386f5"), looks := true }, kinds := [], alts := [], laidByText := true, laidKinds := [.data, .handle, .sentinel], laidTests := true, laidLooks := .later }
def SoundUsesUptoCardSaid : Prop := Claim7.holds Tryz.pinned (.plain (OpenSpec.upto soundUsesSpec)) soundUsesUptoCard
end Rows
end Go.Proofs.YthmgblmoobkliaaGreatDoor
