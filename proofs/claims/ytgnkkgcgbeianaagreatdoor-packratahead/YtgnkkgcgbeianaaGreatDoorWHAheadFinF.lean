/- Lemmas for the last text. Conditions: those that each names. -/
import Derived.Test.YtgnkkgcgbeianaaGreatDoorRows
import Derived.JoinedOf
set_option linter.unusedVariables false
set_option maxRecDepth 100000
namespace Go.Proofs.YtgnkkgcgbeianaaGreatDoor
open Go.Proofs.Tryz
theorem y9s:(Rows.packratAheadRow.inPlace == Tryz.prog.inPlace 7)=true:=by kernel_rfl
theorem y9t:(Rows.packratAheadRow.unfollowed == Tryz.prog.unfollowed 7)=true:=by kernel_rfl
theorem y9u:(Rows.packratAheadRow.recurses == Tryz.prog.recurses 7)=true:=by kernel_rfl
theorem y9v:(Rows.packratAheadRow.named == Tryz.prog.varsNamed 7)=true:=by kernel_rfl
theorem y9w:joinedFacts prog 7 Tryz.f7 Rows.packratAheadSpec Rows.packratAheadRow=true:=by
 unfold joinedFacts;rw[y9s,y9t,y9u,y9v];kernel_rfl
end Go.Proofs.YtgnkkgcgbeianaaGreatDoor
