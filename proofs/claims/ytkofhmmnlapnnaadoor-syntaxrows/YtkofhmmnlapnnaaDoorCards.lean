/-
  DERIVED. GIVEN WITH THE SEED: THE CARDS: each row of YtkofhmmnlapnnaaDoorRows.lean that lists a variable, with what it lists TIED to the program's text (the seventh form; the later family's looks); each row that meets fmt, with fmt's text TOLD by the authors' own Lean function (tested against real Go, not proved from fmt's source: count such statements apart). THE CARD IS WHAT COUNTS. Prove the row's statement (the work); the ties are given (YtkofhmmnlapnnaaDoorTie.lean); close each card by the builder's one call (the guide's Derived/Test/ToyasCard.lean, 'card_holds'). Laid BY PROGRAM, IN A SANDBOX (cutbox-door.mjs). By AI agents, Wed Nov 11 2026. No macro, syntax, notation, axiom, sorry.
-/
import Derived.Test.YtkofhmmnlapnnaaDoorRows
import GoSem.ClaimSeven
namespace Go.Proofs.YtkofhmmnlapnnaaDoor
namespace Rows

/-- THE TIED CARD OF 'muntinlaw04.SyntaxBrackets'. -/
def syntaxBracketsCard : Claim7 := { stood := { row := syntaxBracketsRow, standIns := [], harness := (true, "b2b283e67c780b9848fa3cab15ad5414ac1bbb80b0f6b3c72c04ed8ae5b359d3"), looks := true }, kinds := [], alts := [], laidByText := true, laidKinds := [.handle], laidTests := true, laidLooks := .later }
def SyntaxBracketsCardSaid : Prop := Claim7.holds Tryd.pinned (.plain (OpenSpec.ofChange syntaxBracketsSpec)) syntaxBracketsCard

/-- THE TIED CARD OF 'muntinlaw04.SyntaxRows'. -/
def syntaxRowsCard : Claim7 := { stood := { row := syntaxRowsRow, standIns := [], harness := (true, "b2b283e67c780b9848fa3cab15ad5414ac1bbb80b0f6b3c72c04ed8ae5b359d3"), looks := true }, kinds := [], alts := [], laidByText := true, laidKinds := [.handle], laidTests := true, laidLooks := .later }
def SyntaxRowsCardSaid : Prop := Claim7.holds Tryd.pinned (.plain (OpenSpec.ofChange syntaxRowsSpec)) syntaxRowsCard

/-- THE TIED CARD OF 'muntinlaw04.SyntaxNests'. -/
def syntaxNestsCard : Claim7 := { stood := { row := syntaxNestsRow, standIns := [], harness := (true, "b2b283e67c780b9848fa3cab15ad5414ac1bbb80b0f6b3c72c04ed8ae5b359d3"), looks := true }, kinds := [], alts := [], laidByText := true, laidKinds := [.handle], laidTests := true, laidLooks := .later }
def SyntaxNestsCardSaid : Prop := Claim7.holds Tryd.pinned (.plain (OpenSpec.ofChange syntaxNestsSpec)) syntaxNestsCard

/-- THE TIED CARD OF 'muntinlaw04.SyntaxSigns'. -/
def syntaxSignsCard : Claim7 := { stood := { row := syntaxSignsRow, standIns := [], harness := (true, "b2b283e67c780b9848fa3cab15ad5414ac1bbb80b0f6b3c72c04ed8ae5b359d3"), looks := true }, kinds := [], alts := [], laidByText := true, laidKinds := [.handle], laidTests := true, laidLooks := .later }
def SyntaxSignsCardSaid : Prop := Claim7.holds Tryd.pinned (.plain (OpenSpec.ofChange syntaxSignsSpec)) syntaxSignsCard

/-- THE SECOND FORM's CARD OF 'muntinlaw04.SyntaxBrackets'. -/
def syntaxBracketsUptoCard : Claim7 := { stood := { row := syntaxBracketsUptoRow, standIns := [], harness := (true, "b2b283e67c780b9848fa3cab15ad5414ac1bbb80b0f6b3c72c04ed8ae5b359d3"), looks := true }, kinds := [], alts := [], laidByText := true, laidKinds := [.handle], laidTests := true, laidLooks := .later }
def SyntaxBracketsUptoCardSaid : Prop := Claim7.holds Tryd.pinned (.plain (OpenSpec.upto syntaxBracketsSpec)) syntaxBracketsUptoCard

/-- THE SECOND FORM's CARD OF 'muntinlaw04.SyntaxRows'. -/
def syntaxRowsUptoCard : Claim7 := { stood := { row := syntaxRowsUptoRow, standIns := [], harness := (true, "b2b283e67c780b9848fa3cab15ad5414ac1bbb80b0f6b3c72c04ed8ae5b359d3"), looks := true }, kinds := [], alts := [], laidByText := true, laidKinds := [.handle], laidTests := true, laidLooks := .later }
def SyntaxRowsUptoCardSaid : Prop := Claim7.holds Tryd.pinned (.plain (OpenSpec.upto syntaxRowsSpec)) syntaxRowsUptoCard

/-- THE SECOND FORM's CARD OF 'muntinlaw04.SyntaxNests'. -/
def syntaxNestsUptoCard : Claim7 := { stood := { row := syntaxNestsUptoRow, standIns := [], harness := (true, "b2b283e67c780b9848fa3cab15ad5414ac1bbb80b0f6b3c72c04ed8ae5b359d3"), looks := true }, kinds := [], alts := [], laidByText := true, laidKinds := [.handle], laidTests := true, laidLooks := .later }
def SyntaxNestsUptoCardSaid : Prop := Claim7.holds Tryd.pinned (.plain (OpenSpec.upto syntaxNestsSpec)) syntaxNestsUptoCard

/-- THE SECOND FORM's CARD OF 'muntinlaw04.SyntaxSigns'. -/
def syntaxSignsUptoCard : Claim7 := { stood := { row := syntaxSignsUptoRow, standIns := [], harness := (true, "b2b283e67c780b9848fa3cab15ad5414ac1bbb80b0f6b3c72c04ed8ae5b359d3"), looks := true }, kinds := [], alts := [], laidByText := true, laidKinds := [.handle], laidTests := true, laidLooks := .later }
def SyntaxSignsUptoCardSaid : Prop := Claim7.holds Tryd.pinned (.plain (OpenSpec.upto syntaxSignsSpec)) syntaxSignsUptoCard
end Rows
end Go.Proofs.YtkofhmmnlapnnaaDoor
