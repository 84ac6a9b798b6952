/- Lemmas for the last text. Conditions: those that each names. -/
import Derived.Test.YtlogolpcipiceaaGreatDoorRows
import Derived.JoinedOf
set_option linter.unusedVariables false
set_option maxRecDepth 100000
namespace Go.Proofs.YtlogolpcipiceaaGreatDoor
open Go.Proofs.Tryz
theorem y4f:(Rows.codeOnceRow.inPlace == Tryz.prog.inPlace 7)=true:=by kernel_rfl
theorem y4g:(Rows.codeOnceRow.unfollowed == Tryz.prog.unfollowed 7)=true:=by kernel_rfl
theorem y4h:(Rows.codeOnceRow.recurses == Tryz.prog.recurses 7)=true:=by kernel_rfl
theorem y4i:(Rows.codeOnceRow.named == Tryz.prog.varsNamed 7)=true:=by kernel_rfl
theorem y4j:joinedFacts prog 7 Tryz.f7 Rows.codeOnceSpec Rows.codeOnceRow=true:=by
 unfold joinedFacts;rw[y4f,y4g,y4h,y4i];kernel_rfl
end Go.Proofs.YtlogolpcipiceaaGreatDoor
