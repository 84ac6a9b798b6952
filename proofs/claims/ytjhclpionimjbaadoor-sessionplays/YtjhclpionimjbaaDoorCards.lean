/-
  DERIVED. GIVEN WITH THE SEED: THE CARDS: each row of YtjhclpionimjbaaDoorRows.lean that lists a variable, with what it lists TIED to the program's text (the seventh form; the later family's looks); each row that meets fmt, with fmt's text TOLD by the authors' own Lean function (tested against real Go, not proved from fmt's source: count such statements apart). THE CARD IS WHAT COUNTS. Prove the row's statement (the work); the ties are given (YtjhclpionimjbaaDoorTie.lean); close each card by the builder's one call (the guide's Derived/Test/ToyasCard.lean, 'card_holds'). Laid BY PROGRAM, IN A SANDBOX (cutbox-door.mjs). By AI agents, Wed Nov 11 2026. No macro, syntax, notation, axiom, sorry.
-/
import Derived.Test.YtjhclpionimjbaaDoorRows
import GoSem.ClaimSeven
namespace Go.Proofs.YtjhclpionimjbaaDoor
namespace Rows

/-- THE TIED CARD OF 'muntinlaw16.SessionPlays'. -/
def sessionPlaysCard : Claim7 := { stood := { row := sessionPlaysRow, standIns := [], harness := (true, "7dd85dc4121d401ceaaae2438fe32f853eef69e13527636e6612a92fa203f52b"), looks := true }, kinds := [], alts := [], laidByText := true, laidKinds := [.handle], laidTests := true, laidLooks := .later }
def SessionPlaysCardSaid : Prop := Claim7.holds Tryd.pinned (.plain (OpenSpec.ofChange sessionPlaysSpec)) sessionPlaysCard

/-- THE TIED CARD OF 'muntinlaw16.SessionOnce'. -/
def sessionOnceCard : Claim7 := { stood := { row := sessionOnceRow, standIns := [], harness := (true, "7dd85dc4121d401ceaaae2438fe32f853eef69e13527636e6612a92fa203f52b"), looks := true }, kinds := [], alts := [], laidByText := true, laidKinds := [.handle], laidTests := true, laidLooks := .later }
def SessionOnceCardSaid : Prop := Claim7.holds Tryd.pinned (.plain (OpenSpec.ofChange sessionOnceSpec)) sessionOnceCard

/-- THE TIED CARD OF 'muntinlaw16.SessionAgain'. -/
def sessionAgainCard : Claim7 := { stood := { row := sessionAgainRow, standIns := [], harness := (true, "7dd85dc4121d401ceaaae2438fe32f853eef69e13527636e6612a92fa203f52b"), looks := true }, kinds := [], alts := [], laidByText := true, laidKinds := [.handle], laidTests := true, laidLooks := .later }
def SessionAgainCardSaid : Prop := Claim7.holds Tryd.pinned (.plain (OpenSpec.ofChange sessionAgainSpec)) sessionAgainCard

/-- THE TIED CARD OF 'muntinlaw16.SessionFew'. -/
def sessionFewCard : Claim7 := { stood := { row := sessionFewRow, standIns := [], harness := (true, "7dd85dc4121d401ceaaae2438fe32f853eef69e13527636e6612a92fa203f52b"), looks := true }, kinds := [], alts := [], laidByText := true, laidKinds := [.handle], laidTests := true, laidLooks := .later }
def SessionFewCardSaid : Prop := Claim7.holds Tryd.pinned (.plain (OpenSpec.ofChange sessionFewSpec)) sessionFewCard

/-- THE SECOND FORM's CARD OF 'muntinlaw16.SessionPlays'. -/
def sessionPlaysUptoCard : Claim7 := { stood := { row := sessionPlaysUptoRow, standIns := [], harness := (true, "7dd85dc4121d401ceaaae2438fe32f853eef69e13527636e6612a92fa203f52b"), looks := true }, kinds := [], alts := [], laidByText := true, laidKinds := [.handle], laidTests := true, laidLooks := .later }
def SessionPlaysUptoCardSaid : Prop := Claim7.holds Tryd.pinned (.plain (OpenSpec.upto sessionPlaysSpec)) sessionPlaysUptoCard

/-- THE SECOND FORM's CARD OF 'muntinlaw16.SessionOnce'. -/
def sessionOnceUptoCard : Claim7 := { stood := { row := sessionOnceUptoRow, standIns := [], harness := (true, "7dd85dc4121d401ceaaae2438fe32f853eef69e13527636e6612a92fa203f52b"), looks := true }, kinds := [], alts := [], laidByText := true, laidKinds := [.handle], laidTests := true, laidLooks := .later }
def SessionOnceUptoCardSaid : Prop := Claim7.holds Tryd.pinned (.plain (OpenSpec.upto sessionOnceSpec)) sessionOnceUptoCard

/-- THE SECOND FORM's CARD OF 'muntinlaw16.SessionAgain'. -/
def sessionAgainUptoCard : Claim7 := { stood := { row := sessionAgainUptoRow, standIns := [], harness := (true, "7dd85dc4121d401ceaaae2438fe32f853eef69e13527636e6612a92fa203f52b"), looks := true }, kinds := [], alts := [], laidByText := true, laidKinds := [.handle], laidTests := true, laidLooks := .later }
def SessionAgainUptoCardSaid : Prop := Claim7.holds Tryd.pinned (.plain (OpenSpec.upto sessionAgainSpec)) sessionAgainUptoCard

/-- THE SECOND FORM's CARD OF 'muntinlaw16.SessionFew'. -/
def sessionFewUptoCard : Claim7 := { stood := { row := sessionFewUptoRow, standIns := [], harness := (true, "7dd85dc4121d401ceaaae2438fe32f853eef69e13527636e6612a92fa203f52b"), looks := true }, kinds := [], alts := [], laidByText := true, laidKinds := [.handle], laidTests := true, laidLooks := .later }
def SessionFewUptoCardSaid : Prop := Claim7.holds Tryd.pinned (.plain (OpenSpec.upto sessionFewSpec)) sessionFewUptoCard
end Rows
end Go.Proofs.YtjhclpionimjbaaDoor
