/- Lemmas for the last text. Conditions: those that each names. -/
import Derived.Test.YtlogolpcipiceaaGreatDoorRows
import Derived.JoinedOf
set_option linter.unusedVariables false
set_option maxRecDepth 100000
namespace Go.Proofs.YtlogolpcipiceaaGreatDoor
open Go.Proofs.Tryz
theorem y4k:(Rows.codeOnceRow.inPlace == Tryz.prog.inPlace 7)=true:=by kernel_rfl
theorem y4l:(Rows.codeOnceRow.unfollowed == Tryz.prog.unfollowed 7)=true:=by kernel_rfl
theorem y4m:(Rows.codeOnceRow.recurses == Tryz.prog.recurses 7)=true:=by kernel_rfl
theorem y4n:(Rows.codeOnceRow.named == Tryz.prog.varsNamed 7)=true:=by kernel_rfl
theorem y4o:joinedFacts prog 7 Tryz.f7 Rows.codeOnceSpec Rows.codeOnceRow=true:=by
 unfold joinedFacts;rw[y4k,y4l,y4m,y4n];kernel_rfl
end Go.Proofs.YtlogolpcipiceaaGreatDoor
