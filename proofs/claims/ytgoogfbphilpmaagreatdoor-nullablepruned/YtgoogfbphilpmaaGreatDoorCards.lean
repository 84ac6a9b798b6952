/-
  DERIVED. GIVEN WITH THE SEED: THE CARDS: each row of YtgoogfbphilpmaaGreatDoorRows.lean that lists a variable, with what it lists TIED to the program's text (the seventh form; the later family's looks); each row that meets fmt, with fmt's text TOLD by the authors' own Lean function (tested against real Go, not proved from fmt's source: count such statements apart). THE CARD IS WHAT COUNTS. Prove the row's statement (the work); the ties are given (YtgoogfbphilpmaaGreatDoorTie.lean); close each card by the builder's one call (the guide's Derived/Test/ToyasCard.lean, 'card_holds'). Laid BY PROGRAM, IN A SANDBOX (cutbox-door.mjs). By AI agents, Wed Nov 11 2026. No macro, syntax, notation, axiom, sorry.
-/
import Derived.Test.YtgoogfbphilpmaaGreatDoorRows
import GoSem.ClaimSeven
namespace Go.Proofs.YtgoogfbphilpmaaGreatDoor
namespace Rows

/-- THE TIED CARD OF 'muntinlaw07.NullableTells'. -/
def nullableTellsCard : Claim7 := { stood := { row := nullableTellsRow, standIns := [], harness := (true, "49573bc56d38d6abc1932815bb9462f23510db25496929817b524a02bcf9c5ab"), looks := true }, kinds := [], alts := [], laidByText := true, laidKinds := [.data, .handle], laidTests := true, laidLooks := .later }
def NullableTellsCardSaid : Prop := Claim7.holds Tryz.pinned (.plain (OpenSpec.ofChange nullableTellsSpec)) nullableTellsCard

/-- THE TIED CARD OF 'muntinlaw07.NullableRefs'. -/
def nullableRefsCard : Claim7 := { stood := { row := nullableRefsRow, standIns := [], harness := (true, "49573bc56d38d6abc1932815bb9462f23510db25496929817b524a02bcf9c5ab"), looks := true }, kinds := [], alts := [], laidByText := true, laidKinds := [.data, .handle], laidTests := true, laidLooks := .later }
def NullableRefsCardSaid : Prop := Claim7.holds Tryz.pinned (.plain (OpenSpec.ofChange nullableRefsSpec)) nullableRefsCard

/-- THE TIED CARD OF 'muntinlaw07.NullablePruned'. -/
def nullablePrunedCard : Claim7 := { stood := { row := nullablePrunedRow, standIns := [], harness := (true, "49573bc56d38d6abc1932815bb9462f23510db25496929817b524a02bcf9c5ab"), looks := true }, kinds := [], alts := [], laidByText := true, laidKinds := [.data, .handle], laidTests := true, laidLooks := .later }
def NullablePrunedCardSaid : Prop := Claim7.holds Tryz.pinned (.plain (OpenSpec.ofChange nullablePrunedSpec)) nullablePrunedCard

/-- THE TIED CARD OF 'muntinlaw07.NullableRows'. -/
def nullableRowsCard : Claim7 := { stood := { row := nullableRowsRow, standIns := [], harness := (true, "49573bc56d38d6abc1932815bb9462f23510db25496929817b524a02bcf9c5ab"), looks := true }, kinds := [], alts := [], laidByText := true, laidKinds := [.data, .handle], laidTests := true, laidLooks := .later }
def NullableRowsCardSaid : Prop := Claim7.holds Tryz.pinned (.plain (OpenSpec.ofChange nullableRowsSpec)) nullableRowsCard

/-- THE TIED CARD OF 'muntinlaw07.NullableLooks'. -/
def nullableLooksCard : Claim7 := { stood := { row := nullableLooksRow, standIns := [], harness := (true, "49573bc56d38d6abc1932815bb9462f23510db25496929817b524a02bcf9c5ab"), looks := true }, kinds := [], alts := [], laidByText := true, laidKinds := [.data, .handle], laidTests := true, laidLooks := .later }
def NullableLooksCardSaid : Prop := Claim7.holds Tryz.pinned (.plain (OpenSpec.ofChange nullableLooksSpec)) nullableLooksCard

/-- THE SECOND FORM's CARD OF 'muntinlaw07.NullableTells'. -/
def nullableTellsUptoCard : Claim7 := { stood := { row := nullableTellsUptoRow, standIns := [], harness := (true, "49573bc56d38d6abc1932815bb9462f23510db25496929817b524a02bcf9c5ab"), looks := true }, kinds := [], alts := [], laidByText := true, laidKinds := [.data, .handle], laidTests := true, laidLooks := .later }
def NullableTellsUptoCardSaid : Prop := Claim7.holds Tryz.pinned (.plain (OpenSpec.upto nullableTellsSpec)) nullableTellsUptoCard

/-- THE SECOND FORM's CARD OF 'muntinlaw07.NullableRefs'. -/
def nullableRefsUptoCard : Claim7 := { stood := { row := nullableRefsUptoRow, standIns := [], harness := (true, "49573bc56d38d6abc1932815bb9462f23510db25496929817b524a02bcf9c5ab"), looks := true }, kinds := [], alts := [], laidByText := true, laidKinds := [.data, .handle], laidTests := true, laidLooks := .later }
def NullableRefsUptoCardSaid : Prop := Claim7.holds Tryz.pinned (.plain (OpenSpec.upto nullableRefsSpec)) nullableRefsUptoCard

/-- THE SECOND FORM's CARD OF 'muntinlaw07.NullablePruned'. -/
def nullablePrunedUptoCard : Claim7 := { stood := { row := nullablePrunedUptoRow, standIns := [], harness := (true, "49573bc56d38d6abc1932815bb9462f23510db25496929817b524a02bcf9c5ab"), looks := true }, kinds := [], alts := [], laidByText := true, laidKinds := [.data, .handle], laidTests := true, laidLooks := .later }
def NullablePrunedUptoCardSaid : Prop := Claim7.holds Tryz.pinned (.plain (OpenSpec.upto nullablePrunedSpec)) nullablePrunedUptoCard

/-- THE SECOND FORM's CARD OF 'muntinlaw07.NullableRows'. -/
def nullableRowsUptoCard : Claim7 := { stood := { row := nullableRowsUptoRow, standIns := [], harness := (true, "49573bc56d38d6abc1932815bb9462f23510db25496929817b524a02bcf9c5ab"), looks := true }, kinds := [], alts := [], laidByText := true, laidKinds := [.data, .handle], laidTests := true, laidLooks := .later }
def NullableRowsUptoCardSaid : Prop := Claim7.holds Tryz.pinned (.plain (OpenSpec.upto nullableRowsSpec)) nullableRowsUptoCard

/-- THE SECOND FORM's CARD OF 'muntinlaw07.NullableLooks'. -/
def nullableLooksUptoCard : Claim7 := { stood := { row := nullableLooksUptoRow, standIns := [], harness := (true, "49573bc56d38d6abc1932815bb9462f23510db25496929817b524a02bcf9c5ab"), looks := true }, kinds := [], alts := [], laidByText := true, laidKinds := [.data, .handle], laidTests := true, laidLooks := .later }
def NullableLooksUptoCardSaid : Prop := Claim7.holds Tryz.pinned (.plain (OpenSpec.upto nullableLooksSpec)) nullableLooksUptoCard
end Rows
end Go.Proofs.YtgoogfbphilpmaaGreatDoor
