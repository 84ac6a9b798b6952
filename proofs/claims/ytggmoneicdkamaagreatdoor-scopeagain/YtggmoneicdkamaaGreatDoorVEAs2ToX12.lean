/-
  What errors.As answers at a Fault that does not fit, and what api.Code and api.At answer at one. Condition: package errors' own variable holds the handle of the type error.
  What errors.As answers at a classError, for a target of that type. Condition: package errors' own variable holds the handle of the type error.
  What lex.told answers at a classError. Condition: package errors' own variable holds the handle of the type error.
-/
import Derived.Test.YtggmoneicdkamaaGreatDoorVEAs
import Derived.Test.YtggmoneicdkamaaGreatDoorVX9ToX10
import Derived.LaidEql
import Derived.Stop.Asserts
import Derived.RowKitTokens
namespace Go.Proofs.YtggmoneicdkamaaGreatDoor
open Go.RowKit Go.Extern.Stop Go.Stop Go.Extern
set_option linter.unusedVariables false
theorem Tryz.noAsF (v : Value) (xT : TypeId) (w : World) : (Instr.typeAssert (.iface 77 v) xT 155 true).run Tryz.prog w = .ok (.tuple #[.nilIface, .bool false]) w := run_typeAssert_lacksB Tryz.underlying155 (by kernel_rfl) (by kernel_rfl) v xT w
theorem Tryz.unwF (v : Value) (xT : TypeId) (w : World) : (Instr.typeAssert (.iface 77 v) xT 158 true).run Tryz.prog w = .ok (.tuple #[.iface 77 v, .bool true]) w := run_typeAssert_hasB Tryz.underlying158 (by kernel_rfl) v xT w
theorem Tryz.methodUnwF (v : Addr) (w : World) : (Go.method 370 77 (.pointer (some v)) "Unwrap").run Tryz.prog w = .ok (224, .pointer (some v)) w := by kernel_rfl
theorem Tryz.typeOfPF (v : Value) (w : World) : (ReflectliteType.typeOf #[.iface 77 v]).run Tryz.prog w = .ok (.iface 150 (.agg #[.pointer (some ⟨3, 77, none⟩)])) w := by kernel_rfl
theorem Tryz.typeOfErr (v : Value) (w : World) : (ReflectliteType.typeOf #[.iface 36 v]).run Tryz.prog w = .ok (.iface 150 (.agg #[.pointer (some ⟨3, 36, none⟩)])) w := by kernel_rfl
theorem Tryz.assignFE (w : World) : (ReflectliteType.relation "AssignableTo" ReflectliteType.assignableTo #[.agg #[.pointer (some ⟨3, 77, none⟩)], .iface 150 (.agg #[.pointer (some ⟨3, 36, none⟩)])]).run Tryz.prog w = .ok (.bool false) w := by kernel_rfl
set_option maxRecDepth 100000 in
set_option maxHeartbeats 4000000 in
theorem as_faultE (p : Nat) (c b : Int) (t : Addr) (old : Value) (w : World) (hg0 : ErrIs w) (hp : w.heap[p]? = some (.cells #[.int .i64 c, .int .i64 b] 80)) (ht0 : w.cell? t = some old) (hf0 : w.frozen? t = false) :
    Calls Tryz.prog 35 #[.iface 77 (.pointer (some ⟨p, 0, none⟩)), .iface 76 (.pointer (some t))] w fun ev w' => ev = .returned (.bool true) ∧ w' = ((((w.alloc (.cells #[.pointer (some t)] 76)).alloc (.cells #[.pointer (some ⟨3, 76, none⟩), .pointer (some ⟨w.heap.size, 0, none⟩), .int .u64 150] 109)).alloc (.cells #[.pointer (some ⟨3, 76, none⟩), .pointer (some ⟨w.heap.size, 0, none⟩), .int .u64 150] 109)).alloc (.cells #[.int .i64 c] 36)).setCell t (.int .i64 c) := by
  have hVO := @run_callFunc_extern Tryz.prog 53 _ (fun args => ReflectliteValue.unpack (args.getD 0 (.tuple #[]))) Tryz.func53 (by kernel_rfl) (by kernel_rfl) (by kernel_rfl) (by kernel_rfl)
  have hTy := @run_callFunc_extern Tryz.prog 54 _ (ReflectliteValue.methodAny (ReflectliteValue.valueError "reflectlite.Value.Type" 0) (fun t _ _ _ => ReflectliteType.toType t)) Tryz.func54 (by kernel_rfl) (by kernel_rfl) (by kernel_rfl) (by kernel_rfl)
  have hNi := @run_callFunc_extern Tryz.prog 55 _ (ReflectliteValue.method (ReflectliteValue.valueError "reflectlite.Value.IsNil" 0) ReflectliteValue.isNil) Tryz.func55 (by kernel_rfl) (by kernel_rfl) (by kernel_rfl) (by kernel_rfl)
  have hKi := @run_callFunc_extern Tryz.prog 219 _ (ReflectliteType.abiMethod fun t => do pure (.int .u8 (← Rtype.kind t))) Tryz.func219 (by kernel_rfl) (by kernel_rfl) (by kernel_rfl) (by kernel_rfl)
  have hEl := @run_callFunc_extern Tryz.prog 231 _ (ReflectliteType.method ReflectliteType.elem) Tryz.func231 (by kernel_rfl) (by kernel_rfl) (by kernel_rfl) (by kernel_rfl)
  have hIm := @run_callFunc_extern Tryz.prog 232 _ (ReflectliteType.relation "Implements" ReflectliteType.implements_) Tryz.func232 (by kernel_rfl) (by kernel_rfl) (by kernel_rfl) (by kernel_rfl)
  have hTO := @run_callFunc_extern Tryz.prog 79 _ ReflectliteType.typeOf Tryz.func79 (by kernel_rfl) (by kernel_rfl) (by kernel_rfl) (by kernel_rfl)
  have hAs := @run_callFunc_extern Tryz.prog 229 _ (ReflectliteType.relation "AssignableTo" ReflectliteType.assignableTo) Tryz.func229 (by kernel_rfl) (by kernel_rfl) (by kernel_rfl) (by kernel_rfl)
  have hVE := @run_callFunc_extern Tryz.prog 80 _ (ReflectliteValue.method (ReflectliteValue.valueError "reflectlite.Value.Elem" 0) ReflectliteValue.elem) Tryz.func80 (by kernel_rfl) (by kernel_rfl) (by kernel_rfl) (by kernel_rfl)
  have hSe := @run_callFunc_extern Tryz.prog 81 _ ReflectliteValue.set Tryz.func81 (by kernel_rfl) (by kernel_rfl) (by kernel_rfl) (by kernel_rfl)
  have mA := Tryz.methodAssignableTo
  have mK := Tryz.methodKind
  have mE := Tryz.methodElem
  have mI := Tryz.methodImplements
  have vP := Tryz.valueOfPE
  have tP := Tryz.typePE
  have kP := Tryz.kindPE
  have kE := Tryz.kindEE
  have eP := Tryz.elemPE
  have iE := Tryz.implementsEE
  have nP := Tryz.isNilPE ⟨w.heap.size, 0, none⟩ t ((w.alloc (.cells #[.pointer (some t)] 76)).alloc (.cells #[.pointer (some ⟨3, 76, none⟩), .pointer (some ⟨w.heap.size, 0, none⟩), .int .u64 150] 109)) (by simp)
  have hlt := ErrIs.lt hg0
  have hg : w.cell? ⟨0, 0, none⟩ = some (.iface 150 (.agg #[.pointer (some ⟨3, 28, none⟩)])) := hg0
  have hg2 : ((w.alloc (.cells #[.pointer (some t)] 76)).alloc (.cells #[.pointer (some ⟨3, 76, none⟩), .pointer (some ⟨w.heap.size, 0, none⟩), .int .u64 150] 109)).cell? ⟨0, 0, none⟩ = some (.iface 150 (.agg #[.pointer (some ⟨3, 28, none⟩)])) := by
    rw [World.cell?_alloc_lt _ _ ⟨0, 0, none⟩ (by simp <;> omega), World.cell?_alloc_lt _ _ ⟨0, 0, none⟩ hlt]; exact hg
  have tO := Tryz.typeOfEE
  have aE := Tryz.assignableEE
  have vE := Tryz.valueOfEE
  have htl : t.block < w.heap.size := by
    rcases Nat.lt_or_ge t.block w.heap.size with h | h
    · exact h
    · simp [World.cell?, Array.getElem?_eq_none h] at ht0
  have el := Tryz.elemVE ⟨w.heap.size, 0, none⟩ t (((w.alloc (.cells #[.pointer (some t)] 76)).alloc (.cells #[.pointer (some ⟨3, 76, none⟩), .pointer (some ⟨w.heap.size, 0, none⟩), .int .u64 150] 109)).alloc (.cells #[.pointer (some ⟨3, 76, none⟩), .pointer (some ⟨w.heap.size, 0, none⟩), .int .u64 150] 109)) (by rw [World.cell?_alloc_lt _ _ ⟨w.heap.size, 0, none⟩ (by simp <;> omega)]; simp)
  have st := Tryz.setEE t ⟨w.heap.size + 1 + 1 + 1, 0, none⟩ c old ((((w.alloc (.cells #[.pointer (some t)] 76)).alloc (.cells #[.pointer (some ⟨3, 76, none⟩), .pointer (some ⟨w.heap.size, 0, none⟩), .int .u64 150] 109)).alloc (.cells #[.pointer (some ⟨3, 76, none⟩), .pointer (some ⟨w.heap.size, 0, none⟩), .int .u64 150] 109)).alloc (.cells #[.int .i64 c] 36))
    (by rw [World.cell?_alloc_at _ _ _ _ (by simp)]; rfl)
    (by rw [World.cell?_alloc_lt _ _ t (by simp <;> omega), World.cell?_alloc_lt _ _ t (by simp <;> omega), World.cell?_alloc_lt _ _ t (by simp <;> omega), World.cell?_alloc_lt _ _ t htl]; exact ht0)
    (by rw [World.frozen?_alloc_old _ _ t (by simp <;> omega), World.frozen?_alloc_old _ _ t (by simp <;> omega), World.frozen?_alloc_old _ _ t (by simp <;> omega), World.frozen?_alloc_old _ _ t (Nat.ne_of_lt htl)]; exact hf0)
  have hpl : p < w.heap.size := by
    rcases Nat.lt_or_ge p w.heap.size with h2 | h2
    · exact h2
    · rw [Array.getElem?_eq_none h2] at hp; cases hp
  have hpc : w.cell? ⟨p, 0, none⟩ = some (.int .i64 c) := by simp [World.cell?, hp]
  have hp3 : (((w.alloc (.cells #[.pointer (some t)] 76)).alloc (.cells #[.pointer (some ⟨3, 76, none⟩), .pointer (some ⟨w.heap.size, 0, none⟩), .int .u64 150] 109)).alloc (.cells #[.pointer (some ⟨3, 76, none⟩), .pointer (some ⟨w.heap.size, 0, none⟩), .int .u64 150] 109)).cell? ⟨p, 0, none⟩ = some (.int .i64 c) := by
    rw [World.cell?_alloc_lt _ _ ⟨p, 0, none⟩ (by simp <;> omega), World.cell?_alloc_lt _ _ ⟨p, 0, none⟩ (by simp <;> omega), World.cell?_alloc_lt _ _ ⟨p, 0, none⟩ hpl]; exact hpc
  have n1 := Tryz.noAsF
  have n2 := Tryz.unwF
  have n3 := Tryz.methodUnwF
  have n4 := Tryz.typeOfPF
  have n5 := Tryz.assignFE
  clear hg0 hp
  go_enter Tryz.func35, Tryz.ntmps35
  go_wp2
  refine wp_loop_rounds 2 ?_
  rw [rounds_succ]
  go_wp2
  rw [rounds_succ]
  go_wp2
  go_ret
  exact ⟨rfl, rfl⟩
set_option maxHeartbeats 1000000 in
theorem code_fault (p : Nat) (c b : Int) (w : World) (h : ErrIs w) (hp : w.heap[p]? = some (.cells #[.int .i64 c, .int .i64 b] 80)) : Calls Tryz.prog 16 #[.iface 77 (.pointer (some ⟨p, 0, none⟩))] w fun e w' => e = .returned (.int .i64 c) ∧ Below w.heap.size w w' := by
  have hlt := h.lt
  have hpl : p < w.heap.size := by
    rcases Nat.lt_or_ge p w.heap.size with h2 | h2
    · exact h2
    · rw [Array.getElem?_eq_none h2] at hp; cases hp
  have hA := as_faultE p c b ⟨w.heap.size, 0, none⟩ (.int .i64 0) (w.alloc (.cells #[.int .i64 0] 36)) (h.alloc _) ((Below.heap_alloc w _ p hpl).trans hp) (by simp) (by simp)
  clear h hp
  go_enter Tryz.func16, Tryz.ntmps16
  go_wp2_with fail
  refine hA.mono ?_
  rintro e w1 ⟨rfl, hw⟩
  have hc : w1.cell? ⟨w.heap.size, 0, none⟩ = some (.int .i64 c) := by
    rw [hw]
    exact World.cell?_setCell_same' _ _ _ (by rw [World.cell?_alloc_lt _ _ ⟨w.heap.size, 0, none⟩ (by simp <;> omega), World.cell?_alloc_lt _ _ ⟨w.heap.size, 0, none⟩ (by simp <;> omega), World.cell?_alloc_lt _ _ ⟨w.heap.size, 0, none⟩ (by simp <;> omega), World.cell?_alloc_lt _ _ ⟨w.heap.size, 0, none⟩ (by simp)]; simp)
  have HB : Hid (Below w.heap.size w w1) := by
    show Below w.heap.size w w1
    rw [hw]
    exact ((((((Below.refl _ _).alloc (Nat.le_refl _) _).alloc (by simp) _).alloc (by simp <;> omega) _).alloc (by simp <;> omega) _).alloc (by simp <;> omega) _).setCell (Nat.le_refl _) _
  clear hw hA
  go_wp2
  go_ret
  exact ⟨rfl, HB.out⟩
set_option maxHeartbeats 1000000 in
theorem at_fault (p : Nat) (c b : Int) (w : World) (h : ErrIs w) (hp : w.heap[p]? = some (.cells #[.int .i64 c, .int .i64 b] 80)) : Calls Tryz.prog 17 #[.iface 77 (.pointer (some ⟨p, 0, none⟩))] w fun e w' => e = .returned (.int .i64 b) ∧ Below w.heap.size w w' := by
  have hlt := h.lt
  have hpl : p < w.heap.size := by
    rcases Nat.lt_or_ge p w.heap.size with h2 | h2
    · exact h2
    · rw [Array.getElem?_eq_none h2] at hp; cases hp
  have hA := as_hitF ⟨p, 0, none⟩ ⟨w.heap.size, 0, none⟩ (.pointer none) (w.alloc (.cells #[.pointer none] 77)) (h.alloc _) (by simp) (by simp)
  clear h
  go_enter Tryz.func17, Tryz.ntmps17
  go_wp2_with fail
  refine hA.mono ?_
  rintro e w1 ⟨rfl, hw⟩
  have hc : w1.cell? ⟨w.heap.size, 0, none⟩ = some (.pointer (some ⟨p, 0, none⟩)) := by
    rw [hw]
    exact World.cell?_setCell_same' _ _ _ (by rw [World.cell?_alloc_lt _ _ ⟨w.heap.size, 0, none⟩ (by simp <;> omega), World.cell?_alloc_lt _ _ ⟨w.heap.size, 0, none⟩ (by simp <;> omega), World.cell?_alloc_lt _ _ ⟨w.heap.size, 0, none⟩ (by simp <;> omega), World.cell?_alloc_lt _ _ ⟨w.heap.size, 0, none⟩ (by simp)]; simp)
  have HB : Hid (Below w.heap.size w w1) := by
    show Below w.heap.size w w1
    rw [hw]
    exact ((((((Below.refl _ _).alloc (Nat.le_refl _) _).alloc (by simp) _).alloc (by simp <;> omega) _).alloc (by simp <;> omega) _).alloc (by simp <;> omega) _).setCell (Nat.le_refl _) _
  have hpb : w1.cell? ⟨p, 1, none⟩ = some (.int .i64 b) := by
    rw [HB.out.cell (p := ⟨p, 1, none⟩) hpl]
    simp [World.cell?, hp]
  clear hw hA hp
  go_wp2
  go_ret
  exact ⟨rfl, HB.out⟩
end Go.Proofs.YtggmoneicdkamaaGreatDoor
namespace Go.Proofs.YtggmoneicdkamaaGreatDoor
open Go.RowKit Go.Extern.Stop Go.Stop Go.Extern
set_option linter.unusedVariables false
theorem Tryz.valueOfPC (t : Addr) (w : World) : (ReflectliteValue.unpack (.iface 168 (.pointer (some t)))).run Tryz.prog w
    = .ok (.agg #[.pointer (some ⟨3, 168, none⟩), .pointer (some ⟨w.heap.size, 0, none⟩), .int .u64 150]) (w.alloc (.cells #[.pointer (some t)] 168)) := by kernel_rfl
theorem Tryz.typePC (a : Addr) (w : World) : (ReflectliteValue.methodAny (ReflectliteValue.valueError "reflectlite.Value.Type" 0) (fun t _ _ _ => ReflectliteType.toType t) #[.agg #[.pointer (some ⟨3, 168, none⟩), .pointer (some a), .int .u64 150]]).run Tryz.prog w
    = .ok (.iface 150 (.agg #[.pointer (some ⟨3, 168, none⟩)])) w := by kernel_rfl
theorem Tryz.kindPC (w : World) : ((ReflectliteType.abiMethod fun t => (fun a : Nat => Value.int IntKind.u8 (a : Int)) <$> Rtype.kind t) #[.pointer (some ⟨3, 168, none⟩)]).run Tryz.prog w = .ok (.int .u8 22) w := by kernel_rfl
theorem Tryz.partsPC (a : Addr) (w : World) : (ReflectliteValue.parts (.agg #[.pointer (some ⟨3, 168, none⟩), .pointer (some a), .int .u64 150])).run Tryz.prog w = .ok (some (168, a, 150)) w := by kernel_rfl
theorem Tryz.isNilPC (a p : Addr) (W : World) (ha : W.cell? a = some (.pointer (some p))) :
    (ReflectliteValue.method (ReflectliteValue.valueError "reflectlite.Value.IsNil" 0) ReflectliteValue.isNil #[.agg #[.pointer (some ⟨3, 168, none⟩), .pointer (some a), .int .u64 150]]).run Tryz.prog W = .ok (.bool false) W := by
  rw [rlm]
  simp only [Sem.run_bind, Tryz.partsPC, Result.andThen]
  simp [ReflectliteValue.isNil, loadVar, isAgg, underlying, Tryz.underlying168, ha, Result.andThen]
theorem Tryz.elemPC (w : World) : (ReflectliteType.method ReflectliteType.elem #[.agg #[.pointer (some ⟨3, 168, none⟩)]]).run Tryz.prog w = .ok (.iface 150 (.agg #[.pointer (some ⟨3, 167, none⟩)])) w := by kernel_rfl
theorem Tryz.kindEC (w : World) : ((ReflectliteType.abiMethod fun t => (fun a : Nat => Value.int IntKind.u8 (a : Int)) <$> Rtype.kind t) #[.pointer (some ⟨3, 167, none⟩)]).run Tryz.prog w = .ok (.int .u8 22) w := by kernel_rfl
theorem Tryz.implementsEC (w : World) : (ReflectliteType.relation "Implements" ReflectliteType.implements_ #[.agg #[.pointer (some ⟨3, 167, none⟩)], .iface 150 (.agg #[.pointer (some ⟨3, 28, none⟩)])]).run Tryz.prog w = .ok (.bool true) w := by kernel_rfl
theorem Tryz.typeOfEC (v : Value) (w : World) : (ReflectliteType.typeOf #[.iface 167 v]).run Tryz.prog w = .ok (.iface 150 (.agg #[.pointer (some ⟨3, 167, none⟩)])) w := by kernel_rfl
theorem Tryz.assignableEC (w : World) : (ReflectliteType.relation "AssignableTo" ReflectliteType.assignableTo #[.agg #[.pointer (some ⟨3, 167, none⟩)], .iface 150 (.agg #[.pointer (some ⟨3, 167, none⟩)])]).run Tryz.prog w = .ok (.bool true) w := by kernel_rfl
theorem Tryz.valueOfEC (c : Addr) (w : World) : (ReflectliteValue.unpack (.iface 167 (.pointer (some c)))).run Tryz.prog w
    = .ok (.agg #[.pointer (some ⟨3, 167, none⟩), .pointer (some ⟨w.heap.size, 0, none⟩), .int .u64 150]) (w.alloc (.cells #[.pointer (some c)] 167)) := by kernel_rfl
theorem Tryz.elemOfPC (w : World) : (Rtype.elem? 168).run Tryz.prog w = .ok (some 167) w := by kernel_rfl
theorem Tryz.mkEC (p : Addr) (w : World) : (ReflectliteValue.mk 167 p ReflectliteValue.flagAddr).run Tryz.prog w = .ok (.agg #[.pointer (some ⟨3, 167, none⟩), .pointer (some p), .int .u64 406]) w := by kernel_rfl
theorem Tryz.elemVC (a p : Addr) (W : World) (ha : W.cell? a = some (.pointer (some p))) :
    (ReflectliteValue.method (ReflectliteValue.valueError "reflectlite.Value.Elem" 0) ReflectliteValue.elem #[.agg #[.pointer (some ⟨3, 168, none⟩), .pointer (some a), .int .u64 150]]).run Tryz.prog W
      = .ok (.agg #[.pointer (some ⟨3, 167, none⟩), .pointer (some p), .int .u64 406]) W := by
  rw [rlm]
  simp only [Sem.run_bind, Tryz.partsPC, Result.andThen]
  simp [ReflectliteValue.elem, loadVar, isAgg, underlying, Tryz.underlying168, ha, Result.andThen, Tryz.elemOfPC, Tryz.mkEC]
theorem Tryz.partsEaC (a : Addr) (w : World) : (ReflectliteValue.parts (.agg #[.pointer (some ⟨3, 167, none⟩), .pointer (some a), .int .u64 406])).run Tryz.prog w = .ok (some (167, a, 406)) w := by kernel_rfl
theorem Tryz.partsEC (a : Addr) (w : World) : (ReflectliteValue.parts (.agg #[.pointer (some ⟨3, 167, none⟩), .pointer (some a), .int .u64 150])).run Tryz.prog w = .ok (some (167, a, 150)) w := by kernel_rfl
theorem Tryz.directEC (w : World) : (Rtype.directlyAssignable 167 167).run Tryz.prog w = .ok true w := by kernel_rfl
theorem Tryz.setEC (ta b : Addr) (c : Addr) (old : Value) (W : World) (hb : W.cell? b = some (.pointer (some c))) (ht : W.cell? ta = some old) (hf : W.frozen? ta = false) :
    (ReflectliteValue.set #[.agg #[.pointer (some ⟨3, 167, none⟩), .pointer (some ta), .int .u64 406], .agg #[.pointer (some ⟨3, 167, none⟩), .pointer (some b), .int .u64 150]]).run Tryz.prog W
      = .ok (.tuple #[]) (W.setCell ta (.pointer (some c))) := by
  rw [rls]
  simp only [Sem.run_bind, Tryz.partsEaC, Tryz.partsEC, Result.andThen]
  simp [ReflectliteValue.flagAddr, loadVar, isAgg, underlying, Tryz.underlying167, hb, Result.andThen, Tryz.directEC, storeVar, Value.cells, storeCells, Addr.add]
  rw [run_store Tryz.prog W ta _ _ (by rfl)]
  simp [ht, hf]
set_option maxHeartbeats 4000000 in
theorem as_hitC (c t : Addr) (old : Value) (w : World) (hg0 : ErrIs w) (ht0 : w.cell? t = some old) (hf0 : w.frozen? t = false) :
    Calls Tryz.prog 35 #[.iface 167 (.pointer (some c)), .iface 168 (.pointer (some t))] w fun ev w' => ev = .returned (.bool true) ∧ w' = ((((w.alloc (.cells #[.pointer (some t)] 168)).alloc (.cells #[.pointer (some ⟨3, 168, none⟩), .pointer (some ⟨w.heap.size, 0, none⟩), .int .u64 150] 109)).alloc (.cells #[.pointer (some ⟨3, 168, none⟩), .pointer (some ⟨w.heap.size, 0, none⟩), .int .u64 150] 109)).alloc (.cells #[.pointer (some c)] 167)).setCell t (.pointer (some c)) := by
  have hVO := @run_callFunc_extern Tryz.prog 53 _ (fun args => ReflectliteValue.unpack (args.getD 0 (.tuple #[]))) Tryz.func53 (by kernel_rfl) (by kernel_rfl) (by kernel_rfl) (by kernel_rfl)
  have hTy := @run_callFunc_extern Tryz.prog 54 _ (ReflectliteValue.methodAny (ReflectliteValue.valueError "reflectlite.Value.Type" 0) (fun t _ _ _ => ReflectliteType.toType t)) Tryz.func54 (by kernel_rfl) (by kernel_rfl) (by kernel_rfl) (by kernel_rfl)
  have hNi := @run_callFunc_extern Tryz.prog 55 _ (ReflectliteValue.method (ReflectliteValue.valueError "reflectlite.Value.IsNil" 0) ReflectliteValue.isNil) Tryz.func55 (by kernel_rfl) (by kernel_rfl) (by kernel_rfl) (by kernel_rfl)
  have hKi := @run_callFunc_extern Tryz.prog 219 _ (ReflectliteType.abiMethod fun t => do pure (.int .u8 (← Rtype.kind t))) Tryz.func219 (by kernel_rfl) (by kernel_rfl) (by kernel_rfl) (by kernel_rfl)
  have hEl := @run_callFunc_extern Tryz.prog 231 _ (ReflectliteType.method ReflectliteType.elem) Tryz.func231 (by kernel_rfl) (by kernel_rfl) (by kernel_rfl) (by kernel_rfl)
  have hIm := @run_callFunc_extern Tryz.prog 232 _ (ReflectliteType.relation "Implements" ReflectliteType.implements_) Tryz.func232 (by kernel_rfl) (by kernel_rfl) (by kernel_rfl) (by kernel_rfl)
  have hTO := @run_callFunc_extern Tryz.prog 79 _ ReflectliteType.typeOf Tryz.func79 (by kernel_rfl) (by kernel_rfl) (by kernel_rfl) (by kernel_rfl)
  have hAs := @run_callFunc_extern Tryz.prog 229 _ (ReflectliteType.relation "AssignableTo" ReflectliteType.assignableTo) Tryz.func229 (by kernel_rfl) (by kernel_rfl) (by kernel_rfl) (by kernel_rfl)
  have hVE := @run_callFunc_extern Tryz.prog 80 _ (ReflectliteValue.method (ReflectliteValue.valueError "reflectlite.Value.Elem" 0) ReflectliteValue.elem) Tryz.func80 (by kernel_rfl) (by kernel_rfl) (by kernel_rfl) (by kernel_rfl)
  have hSe := @run_callFunc_extern Tryz.prog 81 _ ReflectliteValue.set Tryz.func81 (by kernel_rfl) (by kernel_rfl) (by kernel_rfl) (by kernel_rfl)
  have mA := Tryz.methodAssignableTo
  have mK := Tryz.methodKind
  have mE := Tryz.methodElem
  have mI := Tryz.methodImplements
  have vP := Tryz.valueOfPC
  have tP := Tryz.typePC
  have kP := Tryz.kindPC
  have kE := Tryz.kindEC
  have eP := Tryz.elemPC
  have iE := Tryz.implementsEC
  have nP := Tryz.isNilPC ⟨w.heap.size, 0, none⟩ t ((w.alloc (.cells #[.pointer (some t)] 168)).alloc (.cells #[.pointer (some ⟨3, 168, none⟩), .pointer (some ⟨w.heap.size, 0, none⟩), .int .u64 150] 109)) (by simp)
  have hlt := ErrIs.lt hg0
  have hg : w.cell? ⟨0, 0, none⟩ = some (.iface 150 (.agg #[.pointer (some ⟨3, 28, none⟩)])) := hg0
  have hg2 : ((w.alloc (.cells #[.pointer (some t)] 168)).alloc (.cells #[.pointer (some ⟨3, 168, none⟩), .pointer (some ⟨w.heap.size, 0, none⟩), .int .u64 150] 109)).cell? ⟨0, 0, none⟩ = some (.iface 150 (.agg #[.pointer (some ⟨3, 28, none⟩)])) := by
    rw [World.cell?_alloc_lt _ _ ⟨0, 0, none⟩ (by simp <;> omega), World.cell?_alloc_lt _ _ ⟨0, 0, none⟩ hlt]; exact hg
  have tO := Tryz.typeOfEC
  have aE := Tryz.assignableEC
  have vE := Tryz.valueOfEC
  have htl : t.block < w.heap.size := by
    rcases Nat.lt_or_ge t.block w.heap.size with h | h
    · exact h
    · simp [World.cell?, Array.getElem?_eq_none h] at ht0
  have el := Tryz.elemVC ⟨w.heap.size, 0, none⟩ t (((w.alloc (.cells #[.pointer (some t)] 168)).alloc (.cells #[.pointer (some ⟨3, 168, none⟩), .pointer (some ⟨w.heap.size, 0, none⟩), .int .u64 150] 109)).alloc (.cells #[.pointer (some ⟨3, 168, none⟩), .pointer (some ⟨w.heap.size, 0, none⟩), .int .u64 150] 109)) (by rw [World.cell?_alloc_lt _ _ ⟨w.heap.size, 0, none⟩ (by simp <;> omega)]; simp)
  have st := Tryz.setEC t ⟨w.heap.size + 1 + 1 + 1, 0, none⟩ c old ((((w.alloc (.cells #[.pointer (some t)] 168)).alloc (.cells #[.pointer (some ⟨3, 168, none⟩), .pointer (some ⟨w.heap.size, 0, none⟩), .int .u64 150] 109)).alloc (.cells #[.pointer (some ⟨3, 168, none⟩), .pointer (some ⟨w.heap.size, 0, none⟩), .int .u64 150] 109)).alloc (.cells #[.pointer (some c)] 167))
    (by rw [World.cell?_alloc_at _ _ _ _ (by simp)]; rfl)
    (by rw [World.cell?_alloc_lt _ _ t (by simp <;> omega), World.cell?_alloc_lt _ _ t (by simp <;> omega), World.cell?_alloc_lt _ _ t (by simp <;> omega), World.cell?_alloc_lt _ _ t htl]; exact ht0)
    (by rw [World.frozen?_alloc_old _ _ t (by simp <;> omega), World.frozen?_alloc_old _ _ t (by simp <;> omega), World.frozen?_alloc_old _ _ t (by simp <;> omega), World.frozen?_alloc_old _ _ t (Nat.ne_of_lt htl)]; exact hf0)
  clear hg0
  go_enter Tryz.func35, Tryz.ntmps35
  go_wp2
  refine wp_loop_rounds 1 ?_
  rw [rounds_succ]
  go_wp2
  go_ret
  exact ⟨rfl, rfl⟩
end Go.Proofs.YtggmoneicdkamaaGreatDoor
namespace Go.Proofs.YtggmoneicdkamaaGreatDoor
open Go.RowKit
set_option linter.unusedVariables false
/-- What stays and what is new where a target was set. -/
theorem set_use {w w1 W4 : World} {tb : Nat} {v old : Value} (hW : Below w.heap.size w W4) (hw : w1 = W4.setCell ⟨tb, 0, none⟩ v) (hc : w.cell? ⟨tb, 0, none⟩ = some old) (hf : w.frozen? ⟨tb, 0, none⟩ = false) (htb : tb < w.heap.size) :
    w1.cell? ⟨tb, 0, none⟩ = some v ∧ (∀ b, b < w.heap.size → b ≠ tb → w1.heap[b]? = w.heap[b]?) ∧ (∀ B w0, Below B w0 w → B ≤ tb → B ≤ w.heap.size → Below B w0 w1) ∧ w.heap.size ≤ w1.heap.size := by
  refine ⟨?_, ?_, ?_, ?_⟩
  · rw [hw]
    exact World.cell?_setCell_same' _ _ _ (by rw [hW.cell (p := ⟨tb, 0, none⟩) htb, hc]; rfl)
  · intro b hb hne
    rw [hw, Below.heap_setCell _ _ _ _ hne, hW.block b hb]
  · intro B w0 h hB hBs
    rw [hw]
    exact (h.trans (hW.mono hBs)).setCell hB _
  · rw [hw]; have := hW.size; simpa using this
theorem cell_of {w w1 : World} {b k : Nat} (h : w1.heap[b]? = w.heap[b]?) : w1.cell? ⟨b, k, none⟩ = w.cell? ⟨b, k, none⟩ := by simp [World.cell?, h]
theorem froz_of {w w1 : World} {b k : Nat} (h : w1.heap[b]? = w.heap[b]?) : w1.frozen? ⟨b, k, none⟩ = w.frozen? ⟨b, k, none⟩ := by simp [World.frozen?, h]
set_option maxRecDepth 100000 in
set_option maxHeartbeats 4000000 in
theorem told_class (g f p : Nat) (c : Nat × Nat) (w : World) (h : ErrIs w) (hce : CE w g f p c) (hb : p + c.2 ≤ 9007199254740999) :
    Calls Tryz.prog 61 #[.iface 167 (.pointer (some ⟨g, 0, none⟩))] w fun e w' => ∃ q, e = .returned (flv q) ∧ Hid (w.heap.size ≤ q ∧ Flt w' q (c.1, p + c.2) ∧ Below w.heap.size w w') := by
  have hlt := h.lt
  have hgl := hce.lt
  have hfl := hce.2.lt
  obtain ⟨W, hW⟩ : ∃ W, W = (w.alloc (.cells #[.pointer none] 167)).alloc (.cells #[.pointer none] 77) := ⟨_, rfl⟩
  have hWs : W.heap.size = w.heap.size + 2 := by rw [hW]; simp
  have hWB : Below w.heap.size w W := by rw [hW]; exact ((Below.refl _ _).alloc (Nat.le_refl _) _).alloc (by simp) _
  have t1 : W.cell? ⟨w.heap.size, 0, none⟩ = some (.pointer none) := by rw [hW]; simp
  have t1f : W.frozen? ⟨w.heap.size, 0, none⟩ = false := by rw [hW]; simp
  have t2 : W.cell? ⟨w.heap.size + 1, 0, none⟩ = some (.pointer none) := by rw [hW]; simp
  have t2f : W.frozen? ⟨w.heap.size + 1, 0, none⟩ = false := by rw [hW]; simp
  have hA := as_hitC ⟨g, 0, none⟩ ⟨w.heap.size, 0, none⟩ (.pointer none) W (h.below hWB hlt) t1 t1f
  go_enter Tryz.func61, Tryz.ntmps61
  go_wp2_with fail
  rw [← hW]
  refine hA.mono ?_
  rintro e w1 ⟨rfl, hw⟩
  obtain ⟨u1, u2, u3, u4⟩ := set_use ((((((Below.refl _ W).alloc (Nat.le_refl _) _).alloc (by simp) _).alloc (by simp <;> omega) _).alloc (by simp <;> omega) _)) hw t1 t1f (by omega)
  have hB1 : Below w.heap.size w w1 := u3 _ _ hWB (Nat.le_refl _) (by omega)
  have g1 : w1.heap[g]? = w.heap[g]? := hB1.block g hgl
  have k0 : w1.cell? ⟨g, 0, none⟩ = some (.iface 77 (.pointer (some ⟨f, 0, none⟩))) := by rw [cell_of g1]; simp [World.cell?, hce.1]
  have s2 : w1.cell? ⟨w.heap.size + 1, 0, none⟩ = some (.pointer none) := by rw [cell_of (u2 _ (by omega) (by omega)), t2]
  have s2f : w1.frozen? ⟨w.heap.size + 1, 0, none⟩ = false := by rw [froz_of (u2 _ (by omega) (by omega)), t2f]
  have hA2 := as_hitF ⟨f, 0, none⟩ ⟨w.heap.size + 1, 0, none⟩ (.pointer none) w1 (h.below hB1 hlt) s2 s2f
  have HB1 : Hid (Below w.heap.size w w1) := hB1
  have HS1 : Hid (w.heap.size + 2 ≤ w1.heap.size) := by show _ ≤ _; omega
  have HA2 := hid hA2
  have HS2 : Hid (w1.cell? ⟨w.heap.size + 1, 0, none⟩ = some (.pointer none) ∧ w1.frozen? ⟨w.heap.size + 1, 0, none⟩ = false) := ⟨s2, s2f⟩
  have HCE := hid hce
  clear hw hA hA2 u2 u3 u4 t1 t1f t2 t2f hW hWB hWs hB1 g1 s2 s2f h hce
  go_wp2_with fail
  refine HA2.out.mono ?_
  rintro e w2 ⟨rfl, hw2⟩
  have hS1 := HS1.out
  obtain ⟨v1, v2, v3, v4⟩ := set_use ((((((Below.refl _ w1).alloc (Nat.le_refl _) _).alloc (by simp) _).alloc (by simp <;> omega) _).alloc (by simp <;> omega) _)) hw2 HS2.out.1 HS2.out.2 (by omega)
  have hB2 : Below w.heap.size w w2 := v3 _ _ HB1.out (by omega) (by omega)
  have m1 : w2.cell? ⟨w.heap.size, 0, none⟩ = some (.pointer (some ⟨g, 0, none⟩)) := by rw [cell_of (v2 _ (by omega) (by omega)), u1]
  have m2 : w2.cell? ⟨g, 1, none⟩ = some (.int .i64 (p : Int)) := by rw [cell_of (hB2.block g hgl)]; simp [World.cell?, HCE.out.1]
  have m3 : w2.cell? ⟨f, 0, none⟩ = some (.int .i64 (c.1 : Int)) := by rw [cell_of (hB2.block f hfl)]; have := HCE.out.2; unfold Flt at this; simp [World.cell?, this]
  have m4 : w2.cell? ⟨f, 1, none⟩ = some (.int .i64 (c.2 : Int)) := by rw [cell_of (hB2.block f hfl)]; have := HCE.out.2; unfold Flt at this; simp [World.cell?, this]
  have HB2 : Hid (Below w.heap.size w w2) := hB2
  have HN : Hid (((p + c.2 : Nat) : Int) = (p : Int) + (c.2 : Int)) := by show _ = _; omega
  have b1 : (p : Int) + (c.2 : Int) < 9223372036854775808 := by omega
  clear hw2 HA2 v2 v3 v4 hB2 HS2 HCE u1 k0
  go_wp2
  go_region
  go_wp2
  go_ret
  refine ⟨w2.heap.size, rfl, HB2.out.size, ?_, (HB2.out.alloc HB2.out.size _).drew⟩
  have hn := Flt.new w2 (c.1, p + c.2)
  simp only [HN.out] at hn
  exact hn
end Go.Proofs.YtggmoneicdkamaaGreatDoor
