/-
  What lex.told answers at a classError. Condition: package errors' own variable holds the handle of the type error.
  What errors.As answers at a Fault, for a target of the type of classError: it misses. Condition: package errors' own variable holds the handle of the type error.
  What lex.told answers at a Fault; a token's kind, text, class and place as one number of things, and what lex.takeToken answers, as one. Conditions: those that each theorem names.
-/
import Derived.Test.YtgoogfbphilpmaaGreatDoorVEAsToX11
import Derived.LaidEql
import Derived.Stop.Asserts
import Derived.RowKitTokens
namespace Go.Proofs.YtgoogfbphilpmaaGreatDoor
open Go.RowKit
set_option linter.unusedVariables false
/-- What stays and what is new where a target was set. -/
theorem set_use {w w1 W4 : World} {tb : Nat} {v old : Value} (hW : Below w.heap.size w W4) (hw : w1 = W4.setCell ⟨tb, 0, none⟩ v) (hc : w.cell? ⟨tb, 0, none⟩ = some old) (hf : w.frozen? ⟨tb, 0, none⟩ = false) (htb : tb < w.heap.size) :
    w1.cell? ⟨tb, 0, none⟩ = some v ∧ (∀ b, b < w.heap.size → b ≠ tb → w1.heap[b]? = w.heap[b]?) ∧ (∀ B w0, Below B w0 w → B ≤ tb → B ≤ w.heap.size → Below B w0 w1) ∧ w.heap.size ≤ w1.heap.size := by
  refine ⟨?_, ?_, ?_, ?_⟩
  · rw [hw]
    exact World.cell?_setCell_same' _ _ _ (by rw [hW.cell (p := ⟨tb, 0, none⟩) htb, hc]; rfl)
  · intro b hb hne
    rw [hw, Below.heap_setCell _ _ _ _ hne, hW.block b hb]
  · intro B w0 h hB hBs
    rw [hw]
    exact (h.trans (hW.mono hBs)).setCell hB _
  · rw [hw]; have := hW.size; simpa using this
theorem cell_of {w w1 : World} {b k : Nat} (h : w1.heap[b]? = w.heap[b]?) : w1.cell? ⟨b, k, none⟩ = w.cell? ⟨b, k, none⟩ := by simp [World.cell?, h]
theorem froz_of {w w1 : World} {b k : Nat} (h : w1.heap[b]? = w.heap[b]?) : w1.frozen? ⟨b, k, none⟩ = w.frozen? ⟨b, k, none⟩ := by simp [World.frozen?, h]
set_option maxRecDepth 100000 in
set_option maxHeartbeats 4000000 in
theorem told_class (g f p : Nat) (c : Nat × Nat) (w : World) (h : ErrIs w) (hce : CE w g f p c) (hb : p + c.2 ≤ 9007199254740999) :
    Calls Tryz.prog 64 #[.iface 175 (.pointer (some ⟨g, 0, none⟩))] w fun e w' => ∃ q, e = .returned (flv q) ∧ Hid (w.heap.size ≤ q ∧ Flt w' q (c.1, p + c.2) ∧ Below w.heap.size w w') := by
  have hlt := h.lt
  have hgl := hce.lt
  have hfl := hce.2.lt
  obtain ⟨W, hW⟩ : ∃ W, W = (w.alloc (.cells #[.pointer none] 175)).alloc (.cells #[.pointer none] 73) := ⟨_, rfl⟩
  have hWs : W.heap.size = w.heap.size + 2 := by rw [hW]; simp
  have hWB : Below w.heap.size w W := by rw [hW]; exact ((Below.refl _ _).alloc (Nat.le_refl _) _).alloc (by simp) _
  have t1 : W.cell? ⟨w.heap.size, 0, none⟩ = some (.pointer none) := by rw [hW]; simp
  have t1f : W.frozen? ⟨w.heap.size, 0, none⟩ = false := by rw [hW]; simp
  have t2 : W.cell? ⟨w.heap.size + 1, 0, none⟩ = some (.pointer none) := by rw [hW]; simp
  have t2f : W.frozen? ⟨w.heap.size + 1, 0, none⟩ = false := by rw [hW]; simp
  have hA := as_hitC ⟨g, 0, none⟩ ⟨w.heap.size, 0, none⟩ (.pointer none) W (h.below hWB hlt) t1 t1f
  go_enter Tryz.func64, Tryz.ntmps64
  go_wp2_with fail
  rw [← hW]
  refine hA.mono ?_
  rintro e w1 ⟨rfl, hw⟩
  obtain ⟨u1, u2, u3, u4⟩ := set_use ((((((Below.refl _ W).alloc (Nat.le_refl _) _).alloc (by simp) _).alloc (by simp <;> omega) _).alloc (by simp <;> omega) _)) hw t1 t1f (by omega)
  have hB1 : Below w.heap.size w w1 := u3 _ _ hWB (Nat.le_refl _) (by omega)
  have g1 : w1.heap[g]? = w.heap[g]? := hB1.block g hgl
  have k0 : w1.cell? ⟨g, 0, none⟩ = some (.iface 73 (.pointer (some ⟨f, 0, none⟩))) := by rw [cell_of g1]; simp [World.cell?, hce.1]
  have s2 : w1.cell? ⟨w.heap.size + 1, 0, none⟩ = some (.pointer none) := by rw [cell_of (u2 _ (by omega) (by omega)), t2]
  have s2f : w1.frozen? ⟨w.heap.size + 1, 0, none⟩ = false := by rw [froz_of (u2 _ (by omega) (by omega)), t2f]
  have hA2 := as_hitF ⟨f, 0, none⟩ ⟨w.heap.size + 1, 0, none⟩ (.pointer none) w1 (h.below hB1 hlt) s2 s2f
  have HB1 : Hid (Below w.heap.size w w1) := hB1
  have HS1 : Hid (w.heap.size + 2 ≤ w1.heap.size) := by show _ ≤ _; omega
  have HA2 := hid hA2
  have HS2 : Hid (w1.cell? ⟨w.heap.size + 1, 0, none⟩ = some (.pointer none) ∧ w1.frozen? ⟨w.heap.size + 1, 0, none⟩ = false) := ⟨s2, s2f⟩
  have HCE := hid hce
  clear hw hA hA2 u2 u3 u4 t1 t1f t2 t2f hW hWB hWs hB1 g1 s2 s2f h hce
  go_wp2_with fail
  refine HA2.out.mono ?_
  rintro e w2 ⟨rfl, hw2⟩
  have hS1 := HS1.out
  obtain ⟨v1, v2, v3, v4⟩ := set_use ((((((Below.refl _ w1).alloc (Nat.le_refl _) _).alloc (by simp) _).alloc (by simp <;> omega) _).alloc (by simp <;> omega) _)) hw2 HS2.out.1 HS2.out.2 (by omega)
  have hB2 : Below w.heap.size w w2 := v3 _ _ HB1.out (by omega) (by omega)
  have m1 : w2.cell? ⟨w.heap.size, 0, none⟩ = some (.pointer (some ⟨g, 0, none⟩)) := by rw [cell_of (v2 _ (by omega) (by omega)), u1]
  have m2 : w2.cell? ⟨g, 1, none⟩ = some (.int .i64 (p : Int)) := by rw [cell_of (hB2.block g hgl)]; simp [World.cell?, HCE.out.1]
  have m3 : w2.cell? ⟨f, 0, none⟩ = some (.int .i64 (c.1 : Int)) := by rw [cell_of (hB2.block f hfl)]; have := HCE.out.2; unfold Flt at this; simp [World.cell?, this]
  have m4 : w2.cell? ⟨f, 1, none⟩ = some (.int .i64 (c.2 : Int)) := by rw [cell_of (hB2.block f hfl)]; have := HCE.out.2; unfold Flt at this; simp [World.cell?, this]
  have HB2 : Hid (Below w.heap.size w w2) := hB2
  have HN : Hid (((p + c.2 : Nat) : Int) = (p : Int) + (c.2 : Int)) := by show _ = _; omega
  have b1 : (p : Int) + (c.2 : Int) < 9223372036854775808 := by omega
  clear hw2 HA2 v2 v3 v4 hB2 HS2 HCE u1 k0
  go_wp2
  go_region
  go_wp2
  go_ret
  refine ⟨w2.heap.size, rfl, HB2.out.size, ?_, (HB2.out.alloc HB2.out.size _).drew⟩
  have hn := Flt.new w2 (c.1, p + c.2)
  simp only [HN.out] at hn
  exact hn
end Go.Proofs.YtgoogfbphilpmaaGreatDoor
namespace Go.Proofs.YtgoogfbphilpmaaGreatDoor
open Go.RowKit Go.Extern.Stop Go.Stop Go.Extern
set_option linter.unusedVariables false
theorem Tryz.noAsE (v : Value) (xT : TypeId) (w : World) : (Instr.typeAssert (.iface 43 v) xT 159 true).run Tryz.prog w = .ok (.tuple #[.nilIface, .bool false]) w := run_typeAssert_lacksB Tryz.underlying159 (by kernel_rfl) (by kernel_rfl) v xT w
theorem Tryz.noUnwE (v : Value) (xT : TypeId) (w : World) : (Instr.typeAssert (.iface 43 v) xT 162 true).run Tryz.prog w = .ok (.tuple #[.nilIface, .bool false]) w := run_typeAssert_lacksB Tryz.underlying162 (by kernel_rfl) (by kernel_rfl) v xT w
theorem Tryz.noUnwsE (v : Value) (xT : TypeId) (w : World) : (Instr.typeAssert (.iface 43 v) xT 164 true).run Tryz.prog w = .ok (.tuple #[.nilIface, .bool false]) w := run_typeAssert_lacksB Tryz.underlying164 (by kernel_rfl) (by kernel_rfl) v xT w
theorem Tryz.assignFC (w : World) : (ReflectliteType.relation "AssignableTo" ReflectliteType.assignableTo #[.agg #[.pointer (some ⟨3, 73, none⟩)], .iface 154 (.agg #[.pointer (some ⟨3, 175, none⟩)])]).run Tryz.prog w = .ok (.bool false) w := by kernel_rfl
theorem Tryz.assignErrC (w : World) : (ReflectliteType.relation "AssignableTo" ReflectliteType.assignableTo #[.agg #[.pointer (some ⟨3, 43, none⟩)], .iface 154 (.agg #[.pointer (some ⟨3, 175, none⟩)])]).run Tryz.prog w = .ok (.bool false) w := by kernel_rfl
set_option maxRecDepth 100000 in
set_option maxHeartbeats 4000000 in
theorem as_missC (p : Nat) (c b : Int) (t : Addr) (w : World) (hg0 : ErrIs w) (hp : w.heap[p]? = some (.cells #[.int .i64 c, .int .i64 b] 76)) :
    Calls Tryz.prog 32 #[.iface 73 (.pointer (some ⟨p, 0, none⟩)), .iface 176 (.pointer (some t))] w fun ev w' => ev = .returned (.bool false) ∧ Below w.heap.size w w' := by
  have hVO := @run_callFunc_extern Tryz.prog 54 _ (fun args => ReflectliteValue.unpack (args.getD 0 (.tuple #[]))) Tryz.func54 (by kernel_rfl) (by kernel_rfl) (by kernel_rfl) (by kernel_rfl)
  have hTy := @run_callFunc_extern Tryz.prog 55 _ (ReflectliteValue.methodAny (ReflectliteValue.valueError "reflectlite.Value.Type" 0) (fun t _ _ _ => ReflectliteType.toType t)) Tryz.func55 (by kernel_rfl) (by kernel_rfl) (by kernel_rfl) (by kernel_rfl)
  have hNi := @run_callFunc_extern Tryz.prog 56 _ (ReflectliteValue.method (ReflectliteValue.valueError "reflectlite.Value.IsNil" 0) ReflectliteValue.isNil) Tryz.func56 (by kernel_rfl) (by kernel_rfl) (by kernel_rfl) (by kernel_rfl)
  have hKi := @run_callFunc_extern Tryz.prog 229 _ (ReflectliteType.abiMethod fun t => do pure (.int .u8 (← Rtype.kind t))) Tryz.func229 (by kernel_rfl) (by kernel_rfl) (by kernel_rfl) (by kernel_rfl)
  have hEl := @run_callFunc_extern Tryz.prog 241 _ (ReflectliteType.method ReflectliteType.elem) Tryz.func241 (by kernel_rfl) (by kernel_rfl) (by kernel_rfl) (by kernel_rfl)
  have hIm := @run_callFunc_extern Tryz.prog 242 _ (ReflectliteType.relation "Implements" ReflectliteType.implements_) Tryz.func242 (by kernel_rfl) (by kernel_rfl) (by kernel_rfl) (by kernel_rfl)
  have hTO := @run_callFunc_extern Tryz.prog 83 _ ReflectliteType.typeOf Tryz.func83 (by kernel_rfl) (by kernel_rfl) (by kernel_rfl) (by kernel_rfl)
  have hAs := @run_callFunc_extern Tryz.prog 239 _ (ReflectliteType.relation "AssignableTo" ReflectliteType.assignableTo) Tryz.func239 (by kernel_rfl) (by kernel_rfl) (by kernel_rfl) (by kernel_rfl)
  have hVE := @run_callFunc_extern Tryz.prog 84 _ (ReflectliteValue.method (ReflectliteValue.valueError "reflectlite.Value.Elem" 0) ReflectliteValue.elem) Tryz.func84 (by kernel_rfl) (by kernel_rfl) (by kernel_rfl) (by kernel_rfl)
  have hSe := @run_callFunc_extern Tryz.prog 85 _ ReflectliteValue.set Tryz.func85 (by kernel_rfl) (by kernel_rfl) (by kernel_rfl) (by kernel_rfl)
  have mA := Tryz.methodAssignableTo
  have mK := Tryz.methodKind
  have mE := Tryz.methodElem
  have mI := Tryz.methodImplements
  have vP := Tryz.valueOfPC
  have tP := Tryz.typePC
  have kP := Tryz.kindPC
  have kE := Tryz.kindEC
  have eP := Tryz.elemPC
  have iE := Tryz.implementsEC
  have nP := Tryz.isNilPC ⟨w.heap.size, 0, none⟩ t ((w.alloc (.cells #[.pointer (some t)] 176)).alloc (.cells #[.pointer (some ⟨3, 176, none⟩), .pointer (some ⟨w.heap.size, 0, none⟩), .int .u64 150] 110)) (by simp)
  have hlt := ErrIs.lt hg0
  have hg : w.cell? ⟨0, 0, none⟩ = some (.iface 154 (.agg #[.pointer (some ⟨3, 35, none⟩)])) := hg0
  have hg2 : ((w.alloc (.cells #[.pointer (some t)] 176)).alloc (.cells #[.pointer (some ⟨3, 176, none⟩), .pointer (some ⟨w.heap.size, 0, none⟩), .int .u64 150] 110)).cell? ⟨0, 0, none⟩ = some (.iface 154 (.agg #[.pointer (some ⟨3, 35, none⟩)])) := by
    rw [World.cell?_alloc_lt _ _ ⟨0, 0, none⟩ (by simp <;> omega), World.cell?_alloc_lt _ _ ⟨0, 0, none⟩ hlt]; exact hg
  have hpl : p < w.heap.size := by
    rcases Nat.lt_or_ge p w.heap.size with h2 | h2
    · exact h2
    · rw [Array.getElem?_eq_none h2] at hp; cases hp
  have hpc : w.cell? ⟨p, 0, none⟩ = some (.int .i64 c) := by simp [World.cell?, hp]
  have hp3 : (((w.alloc (.cells #[.pointer (some t)] 176)).alloc (.cells #[.pointer (some ⟨3, 176, none⟩), .pointer (some ⟨w.heap.size, 0, none⟩), .int .u64 150] 110)).alloc (.cells #[.pointer (some ⟨3, 176, none⟩), .pointer (some ⟨w.heap.size, 0, none⟩), .int .u64 150] 110)).cell? ⟨p, 0, none⟩ = some (.int .i64 c) := by
    rw [World.cell?_alloc_lt _ _ ⟨p, 0, none⟩ (by simp <;> omega), World.cell?_alloc_lt _ _ ⟨p, 0, none⟩ (by simp <;> omega), World.cell?_alloc_lt _ _ ⟨p, 0, none⟩ hpl]; exact hpc
  have n1 := Tryz.noAsF
  have n2 := Tryz.unwF
  have n3 := Tryz.methodUnwF
  have n4 := Tryz.typeOfPF
  have n5 := Tryz.assignFC
  have n6 := Tryz.noAsE
  have n7 := Tryz.noUnwE
  have n8 := Tryz.noUnwsE
  have n9 := Tryz.typeOfErr
  have na := Tryz.assignErrC
  have HB : Hid (Below w.heap.size w (((w.alloc (.cells #[.pointer (some t)] 176)).alloc (.cells #[.pointer (some ⟨3, 176, none⟩), .pointer (some ⟨w.heap.size, 0, none⟩), .int .u64 150] 110)).alloc (.cells #[.pointer (some ⟨3, 176, none⟩), .pointer (some ⟨w.heap.size, 0, none⟩), .int .u64 150] 110))) := (((Below.refl _ _).alloc (Nat.le_refl _) _).alloc (by simp) _).alloc (by simp <;> omega) _
  clear hg0 hp
  go_enter Tryz.func32, Tryz.ntmps32
  go_wp2
  refine wp_loop_rounds 2 ?_
  rw [rounds_succ]
  go_wp2
  rw [rounds_succ]
  go_wp2
  go_ret
  exact ⟨rfl, HB.out⟩
end Go.Proofs.YtgoogfbphilpmaaGreatDoor
namespace Go.Proofs.YtgoogfbphilpmaaGreatDoor
open Go.RowKit
set_option linter.unusedVariables false
set_option maxRecDepth 100000 in
set_option maxHeartbeats 4000000 in
theorem told_fault (f : Nat) (c : Nat × Nat) (w : World) (h : ErrIs w) (hf : Flt w f c) :
    Calls Tryz.prog 64 #[flv f] w fun e w' => e = .returned (flv f) ∧ Below w.heap.size w w' := by
  have hlt := h.lt
  have hfl := hf.lt
  obtain ⟨W, hW⟩ : ∃ W, W = (w.alloc (.cells #[.pointer none] 175)).alloc (.cells #[.pointer none] 73) := ⟨_, rfl⟩
  have hWB : Below w.heap.size w W := by rw [hW]; exact ((Below.refl _ _).alloc (Nat.le_refl _) _).alloc (by simp) _
  have hA := as_missC f c.1 c.2 ⟨w.heap.size, 0, none⟩ W (h.below hWB hlt) ((hWB.block f hfl).trans hf)
  have HW : Hid (Below w.heap.size w W) := hWB
  have HA := hid hA
  clear hA hWB
  unfold flv
  go_enter Tryz.func64, Tryz.ntmps64
  go_wp2_with fail
  rw [← hW]
  clear hW
  refine HA.out.mono ?_
  rintro e w1 ⟨rfl, hb⟩
  have HB : Hid (Below w.heap.size w w1) := HW.out.trans (hb.mono HW.out.size)
  clear hb HA
  go_wp2_with fail
  go_ret
  exact ⟨rfl, HB.out⟩
/-- A token: its kind, text, class, place. -/
abbrev Tok := Nat × ByteArray × Nat × Nat
@[reducible] def tkv (t : Tok) : Value := .agg #[.int .i64 (t.1 : Int), .string t.2.1, .int .u64 (wd t.2.2.1 0 : Nat), .int .u64 (wd t.2.2.1 1 : Nat), .int .u64 (wd t.2.2.1 2 : Nat), .int .u64 (wd t.2.2.1 3 : Nat), .int .i64 (t.2.2.2 : Int)]
/-- The token at a byte of a text, and where it ends; or what is wrong, and whether it is counted from there. -/
def tokAt (S : ByteArray) (p x : Nat) : (Bool × (Nat × Nat)) ⊕ (Tok × Nat) :=
  if letB x then (if 32 < ne S p - p then .inl (false, (2, p)) else .inr ((1, S.extract p (ne S p), 0, p), ne S p))
  else if x = 39 ∨ x = 34 then (match ll S x p (p + 1) [] with
    | .inl c => .inl (false, c)
    | .inr (l, n) => .inr ((3, nb l, 0, p), n))
  else if x = 91 then (match clsP (S.extract p S.size) with
    | .inl c => .inl (true, c)
    | .inr (C, n) => .inr ((4, { data := #[] }, C, p), p + n))
  else if arB S p then .inr ((2, { data := #[] }, 0, p), p + 2)
  else if mkB x then .inr ((5, nb [x], 0, p), p + 1)
  else .inl (false, (4, p))
def AnsK (r : (Bool × (Nat × Nat)) ⊕ (Tok × Nat)) (p : Nat) (w : World) (e : Ending) (w' : World) : Prop :=
  match r with
  | .inr (t, n) => e = .returned (.tuple #[tkv t, .int .i64 (n : Int), .nilIface]) ∧ Below w.heap.size w w'
  | .inl (false, c) => BadT c w e w'
  | .inl (true, c) => BadC p c w e w'
theorem xtoken_any (S : ByteArray) (p x : Nat) (w : World) (hb : bt S p = some x) (hS : S.size ≤ 9007199254740992) :
    Calls Tryz.prog 63 #[.string S, .int .i64 (p : Int)] w fun e w' => AnsK (tokAt S p x) p w e w' := by
  unfold tokAt
  cases hl : letB x with
  | true =>
    refine (xtoken_name S p x w hb hl hS).mono fun e w' h => ?_
    unfold AnsN at h
    by_cases h3 : 32 < ne S p - p
    · rw [if_pos h3] at h; simp only [if_pos h3]; exact h
    · rw [if_neg h3] at h; simp only [if_neg h3]; simpa [AnsK, tkv, wd_zero] using h
  | false =>
    simp only [Bool.false_eq_true, if_false]
    by_cases hq : x = 39 ∨ x = 34
    · simp only [if_pos hq]
      refine (xtoken_lit S p x w hb hq hS).mono fun e w' h => ?_
      cases hm : ll S x p (p + 1) [] with
      | inl c => rw [hm] at h; exact h
      | inr r => rw [hm] at h; simpa [AnsK, AnsL, tkv, wd_zero] using h
    · simp only [if_neg hq]
      by_cases hc : x = 91
      · simp only [if_pos hc]
        refine (xtoken_cls S p x w hb hc hS).mono fun e w' h => ?_
        cases hm : clsP (S.extract p S.size) with
        | inl c => rw [hm] at h; exact h
        | inr r => rw [hm] at h; exact h
      · simp only [if_neg hc]
        cases ha : arB S p with
        | true =>
          have hx : x = 60 := by unfold arB at ha; rw [hb] at ha; simp at ha; exact ha.1
          exact (xtoken_arrow S p x w hb ha hx hS).mono fun e w' h => by simpa [AnsK, tkv, tk7, wd_zero] using h
        | false =>
          have hq2 : x ≠ 39 ∧ x ≠ 34 ∧ x ≠ 91 := by omega
          cases hm : mkB x with
          | true => exact (xtoken_sign S p x w hb hl hq2 ha hm hS).mono fun e w' h => by simpa [AnsK, tkv, tk7, wd_zero] using h
          | false => exact xtoken_bad S p x w hb hl hq2 ha hm hS
end Go.Proofs.YtgoogfbphilpmaaGreatDoor
