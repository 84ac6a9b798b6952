/- Lemmas for the last text. Conditions: those that each names. -/
import Derived.Test.YtgnkkgcgbeianaaGreatDoorRows
import Derived.JoinedOf
set_option linter.unusedVariables false
set_option maxRecDepth 100000
namespace Go.Proofs.YtgnkkgcgbeianaaGreatDoor
open Go.Proofs.Tryz
theorem y7N:(Rows.packratMeansRow.inPlace == Tryz.prog.inPlace 4)=true:=by kernel_rfl
theorem y7O:(Rows.packratMeansRow.unfollowed == Tryz.prog.unfollowed 4)=true:=by kernel_rfl
theorem y7P:(Rows.packratMeansRow.recurses == Tryz.prog.recurses 4)=true:=by kernel_rfl
theorem y7Q:(Rows.packratMeansRow.named == Tryz.prog.varsNamed 4)=true:=by kernel_rfl
theorem y7R:joinedFacts prog 4 Tryz.f4 Rows.packratMeansSpec Rows.packratMeansRow=true:=by
 unfold joinedFacts;rw[y7N,y7O,y7P,y7Q];kernel_rfl
end Go.Proofs.YtgnkkgcgbeianaaGreatDoor
