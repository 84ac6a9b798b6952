/-
  DERIVED. GIVEN WITH THE SEED: THE CARDS: each row of YtggmoneicdkamaaGreatDoorRows.lean that lists a variable, with what it lists TIED to the program's text (the seventh form; the later family's looks); each row that meets fmt, with fmt's text TOLD by the authors' own Lean function (tested against real Go, not proved from fmt's source: count such statements apart). THE CARD IS WHAT COUNTS. Prove the row's statement (the work); the ties are given (YtggmoneicdkamaaGreatDoorTie.lean); close each card by the builder's one call (the guide's Derived/Test/ToyasCard.lean, 'card_holds'). Laid BY PROGRAM, IN A SANDBOX (cutbox-door.mjs). By AI agents, Wed Nov 11 2026. No macro, syntax, notation, axiom, sorry.
-/
import Derived.Test.YtggmoneicdkamaaGreatDoorRows
import GoSem.ClaimSeven
namespace Go.Proofs.YtggmoneicdkamaaGreatDoor
namespace Rows

/-- THE TIED CARD OF 'muntinlaw06.ScopeTells'. -/
def scopeTellsCard : Claim7 := { stood := { row := scopeTellsRow, standIns := [], harness := (true, "cdb603c871628dbcf76b6720f35c84aaa13640e26317420b42540bcd2850ab51"), looks := true }, kinds := [], alts := [], laidByText := true, laidKinds := [.data, .handle], laidTests := true, laidLooks := .later }
def ScopeTellsCardSaid : Prop := Claim7.holds Tryz.pinned (.plain (OpenSpec.ofChange scopeTellsSpec)) scopeTellsCard

/-- THE TIED CARD OF 'muntinlaw06.ScopePrunes'. -/
def scopePrunesCard : Claim7 := { stood := { row := scopePrunesRow, standIns := [], harness := (true, "cdb603c871628dbcf76b6720f35c84aaa13640e26317420b42540bcd2850ab51"), looks := true }, kinds := [], alts := [], laidByText := true, laidKinds := [.data, .handle], laidTests := true, laidLooks := .later }
def ScopePrunesCardSaid : Prop := Claim7.holds Tryz.pinned (.plain (OpenSpec.ofChange scopePrunesSpec)) scopePrunesCard

/-- THE TIED CARD OF 'muntinlaw06.ScopeClosed'. -/
def scopeClosedCard : Claim7 := { stood := { row := scopeClosedRow, standIns := [], harness := (true, "cdb603c871628dbcf76b6720f35c84aaa13640e26317420b42540bcd2850ab51"), looks := true }, kinds := [], alts := [], laidByText := true, laidKinds := [.data, .handle], laidTests := true, laidLooks := .later }
def ScopeClosedCardSaid : Prop := Claim7.holds Tryz.pinned (.plain (OpenSpec.ofChange scopeClosedSpec)) scopeClosedCard

/-- THE TIED CARD OF 'muntinlaw06.ScopeAgain'. -/
def scopeAgainCard : Claim7 := { stood := { row := scopeAgainRow, standIns := [], harness := (true, "cdb603c871628dbcf76b6720f35c84aaa13640e26317420b42540bcd2850ab51"), looks := true }, kinds := [], alts := [], laidByText := true, laidKinds := [.data, .handle], laidTests := true, laidLooks := .later }
def ScopeAgainCardSaid : Prop := Claim7.holds Tryz.pinned (.plain (OpenSpec.ofChange scopeAgainSpec)) scopeAgainCard

/-- THE TIED CARD OF 'muntinlaw06.ScopeMore'. -/
def scopeMoreCard : Claim7 := { stood := { row := scopeMoreRow, standIns := [], harness := (true, "cdb603c871628dbcf76b6720f35c84aaa13640e26317420b42540bcd2850ab51"), looks := true }, kinds := [], alts := [], laidByText := true, laidKinds := [.data, .handle], laidTests := true, laidLooks := .later }
def ScopeMoreCardSaid : Prop := Claim7.holds Tryz.pinned (.plain (OpenSpec.ofChange scopeMoreSpec)) scopeMoreCard

/-- THE TIED CARD OF 'muntinlaw06.ScopeFinds'. -/
def scopeFindsCard : Claim7 := { stood := { row := scopeFindsRow, standIns := [], harness := (true, "cdb603c871628dbcf76b6720f35c84aaa13640e26317420b42540bcd2850ab51"), looks := true }, kinds := [], alts := [], laidByText := true, laidKinds := [.data, .handle], laidTests := true, laidLooks := .later }
def ScopeFindsCardSaid : Prop := Claim7.holds Tryz.pinned (.plain (OpenSpec.ofChange scopeFindsSpec)) scopeFindsCard

/-- THE SECOND FORM's CARD OF 'muntinlaw06.ScopeTells'. -/
def scopeTellsUptoCard : Claim7 := { stood := { row := scopeTellsUptoRow, standIns := [], harness := (true, "cdb603c871628dbcf76b6720f35c84aaa13640e26317420b42540bcd2850ab51"), looks := true }, kinds := [], alts := [], laidByText := true, laidKinds := [.data, .handle], laidTests := true, laidLooks := .later }
def ScopeTellsUptoCardSaid : Prop := Claim7.holds Tryz.pinned (.plain (OpenSpec.upto scopeTellsSpec)) scopeTellsUptoCard

/-- THE SECOND FORM's CARD OF 'muntinlaw06.ScopePrunes'. -/
def scopePrunesUptoCard : Claim7 := { stood := { row := scopePrunesUptoRow, standIns := [], harness := (true, "cdb603c871628dbcf76b6720f35c84aaa13640e26317420b42540bcd2850ab51"), looks := true }, kinds := [], alts := [], laidByText := true, laidKinds := [.data, .handle], laidTests := true, laidLooks := .later }
def ScopePrunesUptoCardSaid : Prop := Claim7.holds Tryz.pinned (.plain (OpenSpec.upto scopePrunesSpec)) scopePrunesUptoCard

/-- THE SECOND FORM's CARD OF 'muntinlaw06.ScopeClosed'. -/
def scopeClosedUptoCard : Claim7 := { stood := { row := scopeClosedUptoRow, standIns := [], harness := (true, "cdb603c871628dbcf76b6720f35c84aaa13640e26317420b42540bcd2850ab51"), looks := true }, kinds := [], alts := [], laidByText := true, laidKinds := [.data, .handle], laidTests := true, laidLooks := .later }
def ScopeClosedUptoCardSaid : Prop := Claim7.holds Tryz.pinned (.plain (OpenSpec.upto scopeClosedSpec)) scopeClosedUptoCard

/-- THE SECOND FORM's CARD OF 'muntinlaw06.ScopeAgain'. -/
def scopeAgainUptoCard : Claim7 := { stood := { row := scopeAgainUptoRow, standIns := [], harness := (true, "cdb603c871628dbcf76b6720f35c84aaa13640e26317420b42540bcd2850ab51"), looks := true }, kinds := [], alts := [], laidByText := true, laidKinds := [.data, .handle], laidTests := true, laidLooks := .later }
def ScopeAgainUptoCardSaid : Prop := Claim7.holds Tryz.pinned (.plain (OpenSpec.upto scopeAgainSpec)) scopeAgainUptoCard

/-- THE SECOND FORM's CARD OF 'muntinlaw06.ScopeMore'. -/
def scopeMoreUptoCard : Claim7 := { stood := { row := scopeMoreUptoRow, standIns := [], harness := (true, "cdb603c871628dbcf76b6720f35c84aaa13640e26317420b42540bcd2850ab51"), looks := true }, kinds := [], alts := [], laidByText := true, laidKinds := [.data, .handle], laidTests := true, laidLooks := .later }
def ScopeMoreUptoCardSaid : Prop := Claim7.holds Tryz.pinned (.plain (OpenSpec.upto scopeMoreSpec)) scopeMoreUptoCard

/-- THE SECOND FORM's CARD OF 'muntinlaw06.ScopeFinds'. -/
def scopeFindsUptoCard : Claim7 := { stood := { row := scopeFindsUptoRow, standIns := [], harness := (true, "cdb603c871628dbcf76b6720f35c84aaa13640e26317420b42540bcd2850ab51"), looks := true }, kinds := [], alts := [], laidByText := true, laidKinds := [.data, .handle], laidTests := true, laidLooks := .later }
def ScopeFindsUptoCardSaid : Prop := Claim7.holds Tryz.pinned (.plain (OpenSpec.upto scopeFindsSpec)) scopeFindsUptoCard
end Rows
end Go.Proofs.YtggmoneicdkamaaGreatDoor
