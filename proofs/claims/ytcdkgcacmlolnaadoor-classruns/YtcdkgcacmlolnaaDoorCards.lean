/-
  DERIVED. GIVEN WITH THE SEED: THE CARDS: each row of YtcdkgcacmlolnaaDoorRows.lean that lists a variable, with what it lists TIED to the program's text (the seventh form; the later family's looks); each row that meets fmt, with fmt's text TOLD by the authors' own Lean function (tested against real Go, not proved from fmt's source: count such statements apart). THE CARD IS WHAT COUNTS. Prove the row's statement (the work); the ties are given (YtcdkgcacmlolnaaDoorTie.lean); close each card by the builder's one call (the guide's Derived/Test/ToyasCard.lean, 'card_holds'). Laid BY PROGRAM, IN A SANDBOX (cutbox-door.mjs). By AI agents, Wed Nov 11 2026. No macro, syntax, notation, axiom, sorry.
-/
import Derived.Test.YtcdkgcacmlolnaaDoorRows
import GoSem.ClaimSeven
namespace Go.Proofs.YtcdkgcacmlolnaaDoor
namespace Rows

/-- THE TIED CARD OF 'muntinlaw02.ClassWorks'. -/
def classWorksCard : Claim7 := { stood := { row := classWorksRow, standIns := [], harness := (true, "d651c80d122994fb387bdcffa02ea72768a89841fabd8798b3a5e3d89f2f6d85"), looks := true }, kinds := [], alts := [], laidByText := true, laidKinds := [.handle], laidTests := true, laidLooks := .later }
def ClassWorksCardSaid : Prop := Claim7.holds Tryd.pinned (.plain (OpenSpec.ofChange classWorksSpec)) classWorksCard

/-- THE TIED CARD OF 'muntinlaw02.ClassRuns'. -/
def classRunsCard : Claim7 := { stood := { row := classRunsRow, standIns := [], harness := (true, "d651c80d122994fb387bdcffa02ea72768a89841fabd8798b3a5e3d89f2f6d85"), looks := true }, kinds := [], alts := [], laidByText := true, laidKinds := [.data], laidTests := true, laidLooks := .later }
def ClassRunsCardSaid : Prop := Claim7.holds Tryd.pinned (.plain (OpenSpec.ofChange classRunsSpec)) classRunsCard

/-- THE TIED CARD OF 'muntinlaw02.ClassReads'. -/
def classReadsCard : Claim7 := { stood := { row := classReadsRow, standIns := [], harness := (true, "d651c80d122994fb387bdcffa02ea72768a89841fabd8798b3a5e3d89f2f6d85"), looks := true }, kinds := [], alts := [], laidByText := true, laidKinds := [.handle], laidTests := true, laidLooks := .later }
def ClassReadsCardSaid : Prop := Claim7.holds Tryd.pinned (.plain (OpenSpec.ofChange classReadsSpec)) classReadsCard

/-- THE TIED CARD OF 'muntinlaw02.ClassBack'. -/
def classBackCard : Claim7 := { stood := { row := classBackRow, standIns := [], harness := (true, "d651c80d122994fb387bdcffa02ea72768a89841fabd8798b3a5e3d89f2f6d85"), looks := true }, kinds := [], alts := [], laidByText := true, laidKinds := [.data], laidTests := true, laidLooks := .later }
def ClassBackCardSaid : Prop := Claim7.holds Tryd.pinned (.plain (OpenSpec.ofChange classBackSpec)) classBackCard

/-- THE TIED CARD OF 'muntinlaw02.ClassSpans'. -/
def classSpansCard : Claim7 := { stood := { row := classSpansRow, standIns := [], harness := (true, "d651c80d122994fb387bdcffa02ea72768a89841fabd8798b3a5e3d89f2f6d85"), looks := true }, kinds := [], alts := [], laidByText := true, laidKinds := [.data], laidTests := true, laidLooks := .later }
def ClassSpansCardSaid : Prop := Claim7.holds Tryd.pinned (.plain (OpenSpec.ofChange classSpansSpec)) classSpansCard

/-- THE SECOND FORM's CARD OF 'muntinlaw02.ClassWorks'. -/
def classWorksUptoCard : Claim7 := { stood := { row := classWorksUptoRow, standIns := [], harness := (true, "d651c80d122994fb387bdcffa02ea72768a89841fabd8798b3a5e3d89f2f6d85"), looks := true }, kinds := [], alts := [], laidByText := true, laidKinds := [.handle], laidTests := true, laidLooks := .later }
def ClassWorksUptoCardSaid : Prop := Claim7.holds Tryd.pinned (.plain (OpenSpec.upto classWorksSpec)) classWorksUptoCard

/-- THE SECOND FORM's CARD OF 'muntinlaw02.ClassRuns'. -/
def classRunsUptoCard : Claim7 := { stood := { row := classRunsUptoRow, standIns := [], harness := (true, "d651c80d122994fb387bdcffa02ea72768a89841fabd8798b3a5e3d89f2f6d85"), looks := true }, kinds := [], alts := [], laidByText := true, laidKinds := [.data], laidTests := true, laidLooks := .later }
def ClassRunsUptoCardSaid : Prop := Claim7.holds Tryd.pinned (.plain (OpenSpec.upto classRunsSpec)) classRunsUptoCard

/-- THE SECOND FORM's CARD OF 'muntinlaw02.ClassReads'. -/
def classReadsUptoCard : Claim7 := { stood := { row := classReadsUptoRow, standIns := [], harness := (true, "d651c80d122994fb387bdcffa02ea72768a89841fabd8798b3a5e3d89f2f6d85"), looks := true }, kinds := [], alts := [], laidByText := true, laidKinds := [.handle], laidTests := true, laidLooks := .later }
def ClassReadsUptoCardSaid : Prop := Claim7.holds Tryd.pinned (.plain (OpenSpec.upto classReadsSpec)) classReadsUptoCard

/-- THE SECOND FORM's CARD OF 'muntinlaw02.ClassBack'. -/
def classBackUptoCard : Claim7 := { stood := { row := classBackUptoRow, standIns := [], harness := (true, "d651c80d122994fb387bdcffa02ea72768a89841fabd8798b3a5e3d89f2f6d85"), looks := true }, kinds := [], alts := [], laidByText := true, laidKinds := [.data], laidTests := true, laidLooks := .later }
def ClassBackUptoCardSaid : Prop := Claim7.holds Tryd.pinned (.plain (OpenSpec.upto classBackSpec)) classBackUptoCard

/-- THE SECOND FORM's CARD OF 'muntinlaw02.ClassSpans'. -/
def classSpansUptoCard : Claim7 := { stood := { row := classSpansUptoRow, standIns := [], harness := (true, "d651c80d122994fb387bdcffa02ea72768a89841fabd8798b3a5e3d89f2f6d85"), looks := true }, kinds := [], alts := [], laidByText := true, laidKinds := [.data], laidTests := true, laidLooks := .later }
def ClassSpansUptoCardSaid : Prop := Claim7.holds Tryd.pinned (.plain (OpenSpec.upto classSpansSpec)) classSpansUptoCard
end Rows
end Go.Proofs.YtcdkgcacmlolnaaDoor
