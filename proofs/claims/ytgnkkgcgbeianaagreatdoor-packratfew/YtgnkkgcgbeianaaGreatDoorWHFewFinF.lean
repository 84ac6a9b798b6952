/- Lemmas for the last text. Conditions: those that each names. -/
import Derived.Test.YtgnkkgcgbeianaaGreatDoorRows
import Derived.JoinedOf
set_option linter.unusedVariables false
set_option maxRecDepth 100000
namespace Go.Proofs.YtgnkkgcgbeianaaGreatDoor
open Go.Proofs.Tryz
theorem y9c:(Rows.packratFewRow.inPlace == Tryz.prog.inPlace 5)=true:=by kernel_rfl
theorem y9d:(Rows.packratFewRow.unfollowed == Tryz.prog.unfollowed 5)=true:=by kernel_rfl
theorem y9e:(Rows.packratFewRow.recurses == Tryz.prog.recurses 5)=true:=by kernel_rfl
theorem y9f:(Rows.packratFewRow.named == Tryz.prog.varsNamed 5)=true:=by kernel_rfl
theorem y9g:joinedFacts prog 5 Tryz.f5 Rows.packratFewSpec Rows.packratFewRow=true:=by
 unfold joinedFacts;rw[y9c,y9d,y9e,y9f];kernel_rfl
end Go.Proofs.YtgnkkgcgbeianaaGreatDoor
