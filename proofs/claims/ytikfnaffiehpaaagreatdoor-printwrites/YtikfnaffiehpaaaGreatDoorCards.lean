/-
  DERIVED. GIVEN WITH THE SEED: THE CARDS: each row of YtikfnaffiehpaaaGreatDoorRows.lean that lists a variable, with what it lists TIED to the program's text (the seventh form; the later family's looks); each row that meets fmt, with fmt's text TOLD by the authors' own Lean function (tested against real Go, not proved from fmt's source: count such statements apart). THE CARD IS WHAT COUNTS. Prove the row's statement (the work); the ties are given (YtikfnaffiehpaaaGreatDoorTie.lean); close each card by the builder's one call (the guide's Derived/Test/ToyasCard.lean, 'card_holds'). Laid BY PROGRAM, IN A SANDBOX (cutbox-door.mjs). By AI agents, Wed Nov 11 2026. No macro, syntax, notation, axiom, sorry.
-/
import Derived.Test.YtikfnaffiehpaaaGreatDoorRows
import GoSem.ClaimSeven
namespace Go.Proofs.YtikfnaffiehpaaaGreatDoor
namespace Rows

/-- THE TIED CARD OF 'muntinlaw05.PrintWrites'. -/
def printWritesCard : Claim7 := { stood := { row := printWritesRow, standIns := [], harness := (true, "dcc54bf01cd6e601853c1f2c7ba2784b6d7e1d47adc11edccc5f9132d004202f"), looks := true }, kinds := [], alts := [], laidByText := true, laidKinds := [.data, .handle], laidTests := true, laidLooks := .later }
def PrintWritesCardSaid : Prop := Claim7.holds Tryz.pinned (.plain (OpenSpec.ofChange printWritesSpec)) printWritesCard

/-- THE TIED CARD OF 'muntinlaw05.PrintBack'. -/
def printBackCard : Claim7 := { stood := { row := printBackRow, standIns := [], harness := (true, "dcc54bf01cd6e601853c1f2c7ba2784b6d7e1d47adc11edccc5f9132d004202f"), looks := true }, kinds := [], alts := [], laidByText := true, laidKinds := [.data, .handle], laidTests := true, laidLooks := .later }
def PrintBackCardSaid : Prop := Claim7.holds Tryz.pinned (.plain (OpenSpec.ofChange printBackSpec)) printBackCard

/-- THE TIED CARD OF 'muntinlaw05.PrintForm'. -/
def printFormCard : Claim7 := { stood := { row := printFormRow, standIns := [], harness := (true, "dcc54bf01cd6e601853c1f2c7ba2784b6d7e1d47adc11edccc5f9132d004202f"), looks := true }, kinds := [], alts := [], laidByText := true, laidKinds := [.data, .handle], laidTests := true, laidLooks := .later }
def PrintFormCardSaid : Prop := Claim7.holds Tryz.pinned (.plain (OpenSpec.ofChange printFormSpec)) printFormCard

/-- THE TIED CARD OF 'muntinlaw05.PrintRules'. -/
def printRulesCard : Claim7 := { stood := { row := printRulesRow, standIns := [], harness := (true, "dcc54bf01cd6e601853c1f2c7ba2784b6d7e1d47adc11edccc5f9132d004202f"), looks := true }, kinds := [], alts := [], laidByText := true, laidKinds := [.data, .handle], laidTests := true, laidLooks := .later }
def PrintRulesCardSaid : Prop := Claim7.holds Tryz.pinned (.plain (OpenSpec.ofChange printRulesSpec)) printRulesCard

/-- THE TIED CARD OF 'muntinlaw05.PrintExprs'. -/
def printExprsCard : Claim7 := { stood := { row := printExprsRow, standIns := [], harness := (true, "dcc54bf01cd6e601853c1f2c7ba2784b6d7e1d47adc11edccc5f9132d004202f"), looks := true }, kinds := [], alts := [], laidByText := true, laidKinds := [.data, .handle], laidTests := true, laidLooks := .later }
def PrintExprsCardSaid : Prop := Claim7.holds Tryz.pinned (.plain (OpenSpec.ofChange printExprsSpec)) printExprsCard

/-- THE SECOND FORM's CARD OF 'muntinlaw05.PrintWrites'. -/
def printWritesUptoCard : Claim7 := { stood := { row := printWritesUptoRow, standIns := [], harness := (true, "dcc54bf01cd6e601853c1f2c7ba2784b6d7e1d47adc11edccc5f9132d004202f"), looks := true }, kinds := [], alts := [], laidByText := true, laidKinds := [.data, .handle], laidTests := true, laidLooks := .later }
def PrintWritesUptoCardSaid : Prop := Claim7.holds Tryz.pinned (.plain (OpenSpec.upto printWritesSpec)) printWritesUptoCard

/-- THE SECOND FORM's CARD OF 'muntinlaw05.PrintBack'. -/
def printBackUptoCard : Claim7 := { stood := { row := printBackUptoRow, standIns := [], harness := (true, "dcc54bf01cd6e601853c1f2c7ba2784b6d7e1d47adc11edccc5f9132d004202f"), looks := true }, kinds := [], alts := [], laidByText := true, laidKinds := [.data, .handle], laidTests := true, laidLooks := .later }
def PrintBackUptoCardSaid : Prop := Claim7.holds Tryz.pinned (.plain (OpenSpec.upto printBackSpec)) printBackUptoCard

/-- THE SECOND FORM's CARD OF 'muntinlaw05.PrintForm'. -/
def printFormUptoCard : Claim7 := { stood := { row := printFormUptoRow, standIns := [], harness := (true, "dcc54bf01cd6e601853c1f2c7ba2784b6d7e1d47adc11edccc5f9132d004202f"), looks := true }, kinds := [], alts := [], laidByText := true, laidKinds := [.data, .handle], laidTests := true, laidLooks := .later }
def PrintFormUptoCardSaid : Prop := Claim7.holds Tryz.pinned (.plain (OpenSpec.upto printFormSpec)) printFormUptoCard

/-- THE SECOND FORM's CARD OF 'muntinlaw05.PrintRules'. -/
def printRulesUptoCard : Claim7 := { stood := { row := printRulesUptoRow, standIns := [], harness := (true, "dcc54bf01cd6e601853c1f2c7ba2784b6d7e1d47adc11edccc5f9132d004202f"), looks := true }, kinds := [], alts := [], laidByText := true, laidKinds := [.data, .handle], laidTests := true, laidLooks := .later }
def PrintRulesUptoCardSaid : Prop := Claim7.holds Tryz.pinned (.plain (OpenSpec.upto printRulesSpec)) printRulesUptoCard

/-- THE SECOND FORM's CARD OF 'muntinlaw05.PrintExprs'. -/
def printExprsUptoCard : Claim7 := { stood := { row := printExprsUptoRow, standIns := [], harness := (true, "dcc54bf01cd6e601853c1f2c7ba2784b6d7e1d47adc11edccc5f9132d004202f"), looks := true }, kinds := [], alts := [], laidByText := true, laidKinds := [.data, .handle], laidTests := true, laidLooks := .later }
def PrintExprsUptoCardSaid : Prop := Claim7.holds Tryz.pinned (.plain (OpenSpec.upto printExprsSpec)) printExprsUptoCard
end Rows
end Go.Proofs.YtikfnaffiehpaaaGreatDoor
