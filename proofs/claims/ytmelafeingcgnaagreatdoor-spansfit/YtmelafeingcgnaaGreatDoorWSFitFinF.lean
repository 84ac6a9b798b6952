/- Lemmas for the last text. Conditions: those that each names. -/
import Derived.Test.YtmelafeingcgnaaGreatDoorRows
import Derived.JoinedOf
set_option linter.unusedVariables false
set_option maxRecDepth 100000
namespace Go.Proofs.YtmelafeingcgnaaGreatDoor
open Go.Proofs.Tryz
theorem y7N:(Rows.spansFitRow.inPlace == Tryz.prog.inPlace 5)=true:=by kernel_rfl
theorem y7O:(Rows.spansFitRow.unfollowed == Tryz.prog.unfollowed 5)=true:=by kernel_rfl
theorem y7P:(Rows.spansFitRow.recurses == Tryz.prog.recurses 5)=true:=by kernel_rfl
theorem y7Q:(Rows.spansFitRow.named == Tryz.prog.varsNamed 5)=true:=by kernel_rfl
theorem y7R:joinedFacts prog 5 Tryz.f5 Rows.spansFitSpec Rows.spansFitRow=true:=by
 unfold joinedFacts;rw[y7N,y7O,y7P,y7Q];kernel_rfl
end Go.Proofs.YtmelafeingcgnaaGreatDoor
