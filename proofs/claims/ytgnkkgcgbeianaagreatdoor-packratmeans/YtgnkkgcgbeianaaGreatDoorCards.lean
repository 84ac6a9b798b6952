/-
  DERIVED. GIVEN WITH THE SEED: THE CARDS: each row of YtgnkkgcgbeianaaGreatDoorRows.lean that lists a variable, with what it lists TIED to the program's text (the seventh form; the later family's looks); each row that meets fmt, with fmt's text TOLD by the authors' own Lean function (tested against real Go, not proved from fmt's source: count such statements apart). THE CARD IS WHAT COUNTS. Prove the row's statement (the work); the ties are given (YtgnkkgcgbeianaaGreatDoorTie.lean); close each card by the builder's one call (the guide's Derived/Test/ToyasCard.lean, 'card_holds'). Laid BY PROGRAM, IN A SANDBOX (cutbox-door.mjs). By AI agents, Wed Nov 11 2026. No macro, syntax, notation, axiom, sorry.
-/
import Derived.Test.YtgnkkgcgbeianaaGreatDoorRows
import GoSem.ClaimSeven
namespace Go.Proofs.YtgnkkgcgbeianaaGreatDoor
namespace Rows

/-- THE TIED CARD OF 'muntinlaw12.PackratMatches'. -/
def packratMatchesCard : Claim7 := { stood := { row := packratMatchesRow, standIns := [], harness := (true, "a07fae1bc98a3bec9996a096799ab0cee3a8484c995186dba9c23c9d733467e0"), looks := true }, kinds := [], alts := [], laidByText := true, laidKinds := [.data, .data, .data, .handle, .sentinel], laidTests := true, laidLooks := .later }
def PackratMatchesCardSaid : Prop := Claim7.holds Tryz.pinned (.plain (OpenSpec.ofChange packratMatchesSpec)) packratMatchesCard

/-- THE TIED CARD OF 'muntinlaw12.PackratMeans'. -/
def packratMeansCard : Claim7 := { stood := { row := packratMeansRow, standIns := [], harness := (true, "a07fae1bc98a3bec9996a096799ab0cee3a8484c995186dba9c23c9d733467e0"), looks := true }, kinds := [], alts := [], laidByText := true, laidKinds := [.data, .data, .data, .handle, .sentinel], laidTests := true, laidLooks := .later }
def PackratMeansCardSaid : Prop := Claim7.holds Tryz.pinned (.plain (OpenSpec.ofChange packratMeansSpec)) packratMeansCard

/-- THE TIED CARD OF 'muntinlaw12.PackratFew'. -/
def packratFewCard : Claim7 := { stood := { row := packratFewRow, standIns := [], harness := (true, "a07fae1bc98a3bec9996a096799ab0cee3a8484c995186dba9c23c9d733467e0"), looks := true }, kinds := [], alts := [], laidByText := true, laidKinds := [.data, .data, .data, .handle, .sentinel], laidTests := true, laidLooks := .later }
def PackratFewCardSaid : Prop := Claim7.holds Tryz.pinned (.plain (OpenSpec.ofChange packratFewSpec)) packratFewCard

/-- THE TIED CARD OF 'muntinlaw12.PackratNotes'. -/
def packratNotesCard : Claim7 := { stood := { row := packratNotesRow, standIns := [], harness := (true, "a07fae1bc98a3bec9996a096799ab0cee3a8484c995186dba9c23c9d733467e0"), looks := true }, kinds := [], alts := [], laidByText := true, laidKinds := [.data, .data, .data, .handle, .sentinel], laidTests := true, laidLooks := .later }
def PackratNotesCardSaid : Prop := Claim7.holds Tryz.pinned (.plain (OpenSpec.ofChange packratNotesSpec)) packratNotesCard

/-- THE TIED CARD OF 'muntinlaw12.PackratAhead'. -/
def packratAheadCard : Claim7 := { stood := { row := packratAheadRow, standIns := [], harness := (true, "a07fae1bc98a3bec9996a096799ab0cee3a8484c995186dba9c23c9d733467e0"), looks := true }, kinds := [], alts := [], laidByText := true, laidKinds := [.data, .data, .data, .handle, .sentinel], laidTests := true, laidLooks := .later }
def PackratAheadCardSaid : Prop := Claim7.holds Tryz.pinned (.plain (OpenSpec.ofChange packratAheadSpec)) packratAheadCard

/-- THE SECOND FORM's CARD OF 'muntinlaw12.PackratMatches'. -/
def packratMatchesUptoCard : Claim7 := { stood := { row := packratMatchesUptoRow, standIns := [], harness := (true, "a07fae1bc98a3bec9996a096799ab0cee3a8484c995186dba9c23c9d733467e0"), looks := true }, kinds := [], alts := [], laidByText := true, laidKinds := [.data, .data, .data, .handle, .sentinel], laidTests := true, laidLooks := .later }
def PackratMatchesUptoCardSaid : Prop := Claim7.holds Tryz.pinned (.plain (OpenSpec.upto packratMatchesSpec)) packratMatchesUptoCard

/-- THE SECOND FORM's CARD OF 'muntinlaw12.PackratMeans'. -/
def packratMeansUptoCard : Claim7 := { stood := { row := packratMeansUptoRow, standIns := [], harness := (true, "a07fae1bc98a3bec9996a096799ab0cee3a8484c995186dba9c23c9d733467e0"), looks := true }, kinds := [], alts := [], laidByText := true, laidKinds := [.data, .data, .data, .handle, .sentinel], laidTests := true, laidLooks := .later }
def PackratMeansUptoCardSaid : Prop := Claim7.holds Tryz.pinned (.plain (OpenSpec.upto packratMeansSpec)) packratMeansUptoCard

/-- THE SECOND FORM's CARD OF 'muntinlaw12.PackratFew'. -/
def packratFewUptoCard : Claim7 := { stood := { row := packratFewUptoRow, standIns := [], harness := (true, "a07fae1bc98a3bec9996a096799ab0cee3a8484c995186dba9c23c9d733467e0"), looks := true }, kinds := [], alts := [], laidByText := true, laidKinds := [.data, .data, .data, .handle, .sentinel], laidTests := true, laidLooks := .later }
def PackratFewUptoCardSaid : Prop := Claim7.holds Tryz.pinned (.plain (OpenSpec.upto packratFewSpec)) packratFewUptoCard

/-- THE SECOND FORM's CARD OF 'muntinlaw12.PackratNotes'. -/
def packratNotesUptoCard : Claim7 := { stood := { row := packratNotesUptoRow, standIns := [], harness := (true, "a07fae1bc98a3bec9996a096799ab0cee3a8484c995186dba9c23c9d733467e0"), looks := true }, kinds := [], alts := [], laidByText := true, laidKinds := [.data, .data, .data, .handle, .sentinel], laidTests := true, laidLooks := .later }
def PackratNotesUptoCardSaid : Prop := Claim7.holds Tryz.pinned (.plain (OpenSpec.upto packratNotesSpec)) packratNotesUptoCard

/-- THE SECOND FORM's CARD OF 'muntinlaw12.PackratAhead'. -/
def packratAheadUptoCard : Claim7 := { stood := { row := packratAheadUptoRow, standIns := [], harness := (true, "a07fae1bc98a3bec9996a096799ab0cee3a8484c995186dba9c23c9d733467e0"), looks := true }, kinds := [], alts := [], laidByText := true, laidKinds := [.data, .data, .data, .handle, .sentinel], laidTests := true, laidLooks := .later }
def PackratAheadUptoCardSaid : Prop := Claim7.holds Tryz.pinned (.plain (OpenSpec.upto packratAheadSpec)) packratAheadUptoCard
end Rows
end Go.Proofs.YtgnkkgcgbeianaaGreatDoor
