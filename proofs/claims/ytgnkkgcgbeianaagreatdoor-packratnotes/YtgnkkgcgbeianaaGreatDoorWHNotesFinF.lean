/- Lemmas for the last text. Conditions: those that each names. -/
import Derived.Test.YtgnkkgcgbeianaaGreatDoorRows
import Derived.JoinedOf
set_option linter.unusedVariables false
set_option maxRecDepth 100000
namespace Go.Proofs.YtgnkkgcgbeianaaGreatDoor
open Go.Proofs.Tryz
theorem y9k:(Rows.packratNotesRow.inPlace == Tryz.prog.inPlace 6)=true:=by kernel_rfl
theorem y9l:(Rows.packratNotesRow.unfollowed == Tryz.prog.unfollowed 6)=true:=by kernel_rfl
theorem y9m:(Rows.packratNotesRow.recurses == Tryz.prog.recurses 6)=true:=by kernel_rfl
theorem y9n:(Rows.packratNotesRow.named == Tryz.prog.varsNamed 6)=true:=by kernel_rfl
theorem y9o:joinedFacts prog 6 Tryz.f6 Rows.packratNotesSpec Rows.packratNotesRow=true:=by
 unfold joinedFacts;rw[y9k,y9l,y9m,y9n];kernel_rfl
end Go.Proofs.YtgnkkgcgbeianaaGreatDoor
