/-
  DERIVED. GIVEN WITH THE SEED: THE CARDS: each row of YtmelafeingcgnaaGreatDoorRows.lean that lists a variable, with what it lists TIED to the program's text (the seventh form; the later family's looks); each row that meets fmt, with fmt's text TOLD by the authors' own Lean function (tested against real Go, not proved from fmt's source: count such statements apart). THE CARD IS WHAT COUNTS. Prove the row's statement (the work); the ties are given (YtmelafeingcgnaaGreatDoorTie.lean); close each card by the builder's one call (the guide's Derived/Test/ToyasCard.lean, 'card_holds'). Laid BY PROGRAM, IN A SANDBOX (cutbox-door.mjs). By AI agents, Wed Nov 11 2026. No macro, syntax, notation, axiom, sorry.
-/
import Derived.Test.YtmelafeingcgnaaGreatDoorRows
import GoSem.ClaimSeven
namespace Go.Proofs.YtmelafeingcgnaaGreatDoor
namespace Rows

/-- THE TIED CARD OF 'muntinlaw13.SpansTells'. -/
def spansTellsCard : Claim7 := { stood := { row := spansTellsRow, standIns := [], harness := (true, "f5204517a7a2c8af030706d5031876e57af1643d8a8f3701a1cc8b2b9d2b003d"), looks := true }, kinds := [], alts := [], laidByText := true, laidKinds := [.data, .data, .data, .handle, .sentinel], laidTests := true, laidLooks := .later }
def SpansTellsCardSaid : Prop := Claim7.holds Tryz.pinned (.plain (OpenSpec.ofChange spansTellsSpec)) spansTellsCard

/-- THE TIED CARD OF 'muntinlaw13.SpansWrites'. -/
def spansWritesCard : Claim7 := { stood := { row := spansWritesRow, standIns := [], harness := (true, "f5204517a7a2c8af030706d5031876e57af1643d8a8f3701a1cc8b2b9d2b003d"), looks := true }, kinds := [], alts := [], laidByText := true, laidKinds := [.data, .data, .data, .handle, .sentinel], laidTests := true, laidLooks := .later }
def SpansWritesCardSaid : Prop := Claim7.holds Tryz.pinned (.plain (OpenSpec.ofChange spansWritesSpec)) spansWritesCard

/-- THE TIED CARD OF 'muntinlaw13.SpansFit'. -/
def spansFitCard : Claim7 := { stood := { row := spansFitRow, standIns := [], harness := (true, "f5204517a7a2c8af030706d5031876e57af1643d8a8f3701a1cc8b2b9d2b003d"), looks := true }, kinds := [], alts := [], laidByText := true, laidKinds := [.data, .data, .data, .handle, .sentinel], laidTests := true, laidLooks := .later }
def SpansFitCardSaid : Prop := Claim7.holds Tryz.pinned (.plain (OpenSpec.ofChange spansFitSpec)) spansFitCard

/-- THE TIED CARD OF 'muntinlaw13.SpansJust'. -/
def spansJustCard : Claim7 := { stood := { row := spansJustRow, standIns := [], harness := (true, "f5204517a7a2c8af030706d5031876e57af1643d8a8f3701a1cc8b2b9d2b003d"), looks := true }, kinds := [], alts := [], laidByText := true, laidKinds := [.data, .data, .data, .handle, .sentinel], laidTests := true, laidLooks := .later }
def SpansJustCardSaid : Prop := Claim7.holds Tryz.pinned (.plain (OpenSpec.ofChange spansJustSpec)) spansJustCard

/-- THE TIED CARD OF 'muntinlaw13.SpansLines'. -/
def spansLinesCard : Claim7 := { stood := { row := spansLinesRow, standIns := [], harness := (true, "f5204517a7a2c8af030706d5031876e57af1643d8a8f3701a1cc8b2b9d2b003d"), looks := true }, kinds := [], alts := [], laidByText := true, laidKinds := [.data, .data, .data, .handle, .sentinel], laidTests := true, laidLooks := .later }
def SpansLinesCardSaid : Prop := Claim7.holds Tryz.pinned (.plain (OpenSpec.ofChange spansLinesSpec)) spansLinesCard

/-- THE SECOND FORM's CARD OF 'muntinlaw13.SpansTells'. -/
def spansTellsUptoCard : Claim7 := { stood := { row := spansTellsUptoRow, standIns := [], harness := (true, "f5204517a7a2c8af030706d5031876e57af1643d8a8f3701a1cc8b2b9d2b003d"), looks := true }, kinds := [], alts := [], laidByText := true, laidKinds := [.data, .data, .data, .handle, .sentinel], laidTests := true, laidLooks := .later }
def SpansTellsUptoCardSaid : Prop := Claim7.holds Tryz.pinned (.plain (OpenSpec.upto spansTellsSpec)) spansTellsUptoCard

/-- THE SECOND FORM's CARD OF 'muntinlaw13.SpansWrites'. -/
def spansWritesUptoCard : Claim7 := { stood := { row := spansWritesUptoRow, standIns := [], harness := (true, "f5204517a7a2c8af030706d5031876e57af1643d8a8f3701a1cc8b2b9d2b003d"), looks := true }, kinds := [], alts := [], laidByText := true, laidKinds := [.data, .data, .data, .handle, .sentinel], laidTests := true, laidLooks := .later }
def SpansWritesUptoCardSaid : Prop := Claim7.holds Tryz.pinned (.plain (OpenSpec.upto spansWritesSpec)) spansWritesUptoCard

/-- THE SECOND FORM's CARD OF 'muntinlaw13.SpansFit'. -/
def spansFitUptoCard : Claim7 := { stood := { row := spansFitUptoRow, standIns := [], harness := (true, "f5204517a7a2c8af030706d5031876e57af1643d8a8f3701a1cc8b2b9d2b003d"), looks := true }, kinds := [], alts := [], laidByText := true, laidKinds := [.data, .data, .data, .handle, .sentinel], laidTests := true, laidLooks := .later }
def SpansFitUptoCardSaid : Prop := Claim7.holds Tryz.pinned (.plain (OpenSpec.upto spansFitSpec)) spansFitUptoCard

/-- THE SECOND FORM's CARD OF 'muntinlaw13.SpansJust'. -/
def spansJustUptoCard : Claim7 := { stood := { row := spansJustUptoRow, standIns := [], harness := (true, "f5204517a7a2c8af030706d5031876e57af1643d8a8f3701a1cc8b2b9d2b003d"), looks := true }, kinds := [], alts := [], laidByText := true, laidKinds := [.data, .data, .data, .handle, .sentinel], laidTests := true, laidLooks := .later }
def SpansJustUptoCardSaid : Prop := Claim7.holds Tryz.pinned (.plain (OpenSpec.upto spansJustSpec)) spansJustUptoCard

/-- THE SECOND FORM's CARD OF 'muntinlaw13.SpansLines'. -/
def spansLinesUptoCard : Claim7 := { stood := { row := spansLinesUptoRow, standIns := [], harness := (true, "f5204517a7a2c8af030706d5031876e57af1643d8a8f3701a1cc8b2b9d2b003d"), looks := true }, kinds := [], alts := [], laidByText := true, laidKinds := [.data, .data, .data, .handle, .sentinel], laidTests := true, laidLooks := .later }
def SpansLinesUptoCardSaid : Prop := Claim7.holds Tryz.pinned (.plain (OpenSpec.upto spansLinesSpec)) spansLinesUptoCard
end Rows
end Go.Proofs.YtmelafeingcgnaaGreatDoor
