/-
  DERIVED. GIVEN WITH THE SEED: THE CARDS: each row of YtcdkgcacmlolnabDoorRows.lean that lists a variable, with what it lists TIED to the program's text (the seventh form; the later family's looks); each row that meets fmt, with fmt's text TOLD by the authors' own Lean function (tested against real Go, not proved from fmt's source: count such statements apart). THE CARD IS WHAT COUNTS. Prove the row's statement (the work); the ties are given (YtcdkgcacmlolnabDoorTie.lean); close each card by the builder's one call (the guide's Derived/Test/ToyasCard.lean, 'card_holds'). Laid BY PROGRAM, IN A SANDBOX (cutbox-door.mjs). By AI agents, Wed Nov 11 2026. No macro, syntax, notation, axiom, sorry.
-/
import Derived.Test.YtcdkgcacmlolnabDoorRows
import GoSem.ClaimSeven
namespace Go.Proofs.YtcdkgcacmlolnabDoor
namespace Rows

/-- THE TIED CARD OF 'muntinlaw02.ClassRanges'. -/
def classRangesCard : Claim7 := { stood := { row := classRangesRow, standIns := [], harness := (true, "75fb472999934d85f5928e3af826947fffc7ffe84cae56fe14fa46ae0dc449c8"), looks := true }, kinds := [], alts := [], laidByText := true, laidKinds := [.handle], laidTests := true, laidLooks := .later }
def ClassRangesCardSaid : Prop := Claim7.holds Tryd.pinned (.plain (OpenSpec.ofChange classRangesSpec)) classRangesCard

/-- THE TIED CARD OF 'muntinlaw02.ClassNegs'. -/
def classNegsCard : Claim7 := { stood := { row := classNegsRow, standIns := [], harness := (true, "75fb472999934d85f5928e3af826947fffc7ffe84cae56fe14fa46ae0dc449c8"), looks := true }, kinds := [], alts := [], laidByText := true, laidKinds := [.data], laidTests := true, laidLooks := .later }
def ClassNegsCardSaid : Prop := Claim7.holds Tryd.pinned (.plain (OpenSpec.ofChange classNegsSpec)) classNegsCard

/-- THE TIED CARD OF 'muntinlaw02.ClassCut'. -/
def classCutCard : Claim7 := { stood := { row := classCutRow, standIns := [], harness := (true, "75fb472999934d85f5928e3af826947fffc7ffe84cae56fe14fa46ae0dc449c8"), looks := true }, kinds := [], alts := [], laidByText := true, laidKinds := [.data, .handle], laidTests := true, laidLooks := .later }
def ClassCutCardSaid : Prop := Claim7.holds Tryd.pinned (.plain (OpenSpec.ofChange classCutSpec)) classCutCard

/-- THE SECOND FORM's CARD OF 'muntinlaw02.ClassRanges'. -/
def classRangesUptoCard : Claim7 := { stood := { row := classRangesUptoRow, standIns := [], harness := (true, "75fb472999934d85f5928e3af826947fffc7ffe84cae56fe14fa46ae0dc449c8"), looks := true }, kinds := [], alts := [], laidByText := true, laidKinds := [.handle], laidTests := true, laidLooks := .later }
def ClassRangesUptoCardSaid : Prop := Claim7.holds Tryd.pinned (.plain (OpenSpec.upto classRangesSpec)) classRangesUptoCard

/-- THE SECOND FORM's CARD OF 'muntinlaw02.ClassNegs'. -/
def classNegsUptoCard : Claim7 := { stood := { row := classNegsUptoRow, standIns := [], harness := (true, "75fb472999934d85f5928e3af826947fffc7ffe84cae56fe14fa46ae0dc449c8"), looks := true }, kinds := [], alts := [], laidByText := true, laidKinds := [.data], laidTests := true, laidLooks := .later }
def ClassNegsUptoCardSaid : Prop := Claim7.holds Tryd.pinned (.plain (OpenSpec.upto classNegsSpec)) classNegsUptoCard

/-- THE SECOND FORM's CARD OF 'muntinlaw02.ClassCut'. -/
def classCutUptoCard : Claim7 := { stood := { row := classCutUptoRow, standIns := [], harness := (true, "75fb472999934d85f5928e3af826947fffc7ffe84cae56fe14fa46ae0dc449c8"), looks := true }, kinds := [], alts := [], laidByText := true, laidKinds := [.data, .handle], laidTests := true, laidLooks := .later }
def ClassCutUptoCardSaid : Prop := Claim7.holds Tryd.pinned (.plain (OpenSpec.upto classCutSpec)) classCutUptoCard
end Rows
end Go.Proofs.YtcdkgcacmlolnabDoor
