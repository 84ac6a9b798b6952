/-
  A slice at the operation, where its run is known. Conditions: those that each theorem names.
-/
import Derived.Test.YtjhclpionimjbaaDoorZXd
namespace Go.Proofs.YtjhclpionimjbaaDoor
open Go.RowKit Go.Maps
set_option linter.unusedVariables false
theorem Tryd.elemSesss : Tryd.prog.underlying 22 = some (.slice (Tryd.prog.elem 22)) := by kernel_rfl
theorem wpList_slice_hi {w : World} {ops : Array Oper} {rest : List Oper} {o : Oper} {a : Act} {Q : Exit → Act → World → Prop} (hgd : o.guard = none) (s x : Operand)
    (ho : o.op = .slice 22 s none (some x) none) {so : Option Addr} {n cp k : Nat} {v : Value} (hs : a.eval s = .slice so n cp) (hx : a.eval x = .int .i64 (k : Int))
    (hr : (Instr.slice 22 (.slice so n cp) none (some (.int .i64 (k : Int))) none).run Tryd.prog w = .ok v w) (h : wpList Tryd.prog ops Q rest (a.put o.dst v) w) : wpList Tryd.prog ops Q (o :: rest) a w := by
  refine wpList_plain hgd fun K hK => ?_
  unfold Oper.wp execOp
  simp only [ho, Sem.run_bind, Sem.run_pure, Result.andThen_ok, Option.map_some, Option.map_none, hs, hx, run_sliceAt_slice (h := Tryd.elemSesss), hr]
  exact hK _ _ h
theorem wpList_slice_lo {w : World} {ops : Array Oper} {rest : List Oper} {o : Oper} {a : Act} {Q : Exit → Act → World → Prop} (hgd : o.guard = none) (s x : Operand)
    (ho : o.op = .slice 22 s (some x) none none) {so : Option Addr} {n cp k : Nat} {v : Value} (hs : a.eval s = .slice so n cp) (hx : a.eval x = .int .i64 (k : Int))
    (hr : (Instr.slice 22 (.slice so n cp) (some (.int .i64 (k : Int))) none none).run Tryd.prog w = .ok v w) (h : wpList Tryd.prog ops Q rest (a.put o.dst v) w) : wpList Tryd.prog ops Q (o :: rest) a w := by
  refine wpList_plain hgd fun K hK => ?_
  unfold Oper.wp execOp
  simp only [ho, Sem.run_bind, Sem.run_pure, Result.andThen_ok, Option.map_some, Option.map_none, hs, hx, run_sliceAt_slice (h := Tryd.elemSesss), hr]
  exact hK _ _ h
end Go.Proofs.YtjhclpionimjbaaDoor
