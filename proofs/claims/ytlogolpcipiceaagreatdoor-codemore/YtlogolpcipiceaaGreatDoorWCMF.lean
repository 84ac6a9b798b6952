/- Lemmas for the last text. Conditions: those that each names. -/
import Derived.Test.YtlogolpcipiceaaGreatDoorRows
import Derived.JoinedOf
set_option linter.unusedVariables false
set_option maxRecDepth 100000
namespace Go.Proofs.YtlogolpcipiceaaGreatDoor
open Go.Proofs.Tryz
theorem y4b:(Rows.codeMoreRow.inPlace == Tryz.prog.inPlace 8)=true:=by kernel_rfl
theorem y4c:(Rows.codeMoreRow.unfollowed == Tryz.prog.unfollowed 8)=true:=by kernel_rfl
theorem y4d:(Rows.codeMoreRow.recurses == Tryz.prog.recurses 8)=true:=by kernel_rfl
theorem y4e:(Rows.codeMoreRow.named == Tryz.prog.varsNamed 8)=true:=by kernel_rfl
theorem y4f:joinedFacts prog 8 Tryz.f8 Rows.codeMoreSpec Rows.codeMoreRow=true:=by
 unfold joinedFacts;rw[y4b,y4c,y4d,y4e];kernel_rfl
end Go.Proofs.YtlogolpcipiceaaGreatDoor
