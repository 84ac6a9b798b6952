/- Lemmas for the last text. Conditions: those that each names. -/
import Derived.Test.YtmelafeingcgnaaGreatDoorRows
import Derived.JoinedOf
set_option linter.unusedVariables false
set_option maxRecDepth 100000
namespace Go.Proofs.YtmelafeingcgnaaGreatDoor
open Go.Proofs.Tryz
theorem y7e:(Rows.spansJustRow.inPlace == Tryz.prog.inPlace 6)=true:=by kernel_rfl
theorem y7f:(Rows.spansJustRow.unfollowed == Tryz.prog.unfollowed 6)=true:=by kernel_rfl
theorem y7g:(Rows.spansJustRow.recurses == Tryz.prog.recurses 6)=true:=by kernel_rfl
theorem y7h:(Rows.spansJustRow.named == Tryz.prog.varsNamed 6)=true:=by kernel_rfl
theorem y7i:joinedFacts prog 6 Tryz.f6 Rows.spansJustSpec Rows.spansJustRow=true:=by
 unfold joinedFacts;rw[y7e,y7f,y7g,y7h];kernel_rfl
end Go.Proofs.YtmelafeingcgnaaGreatDoor
