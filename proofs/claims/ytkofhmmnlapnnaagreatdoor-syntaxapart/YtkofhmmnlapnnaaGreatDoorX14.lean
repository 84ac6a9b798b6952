/-
  What lex.told answers at a Fault; a token's kind, text, class and place as one number of things, and what lex.takeToken answers, as one. Conditions: those that each theorem names.
-/
import Derived.Test.YtkofhmmnlapnnaaGreatDoorX13
namespace Go.Proofs.YtkofhmmnlapnnaaGreatDoor
open Go.RowKit
set_option linter.unusedVariables false
set_option maxRecDepth 100000 in
set_option maxHeartbeats 4000000 in
theorem told_fault (f : Nat) (c : Nat × Nat) (w : World) (h : ErrIs w) (hf : Flt w f c) :
    Calls Tryz.prog 22 #[flv f] w fun e w' => e = .returned (flv f) ∧ Below w.heap.size w w' := by
  have hlt := h.lt
  have hfl := hf.lt
  obtain ⟨W, hW⟩ : ∃ W, W = (w.alloc (.cells #[.pointer none] 96)).alloc (.cells #[.pointer none] 64) := ⟨_, rfl⟩
  have hWB : Below w.heap.size w W := by rw [hW]; exact ((Below.refl _ _).alloc (Nat.le_refl _) _).alloc (by simp) _
  have hA := as_missC f c.1 c.2 ⟨w.heap.size, 0, none⟩ W (h.below hWB hlt) ((hWB.block f hfl).trans hf)
  have HW : Hid (Below w.heap.size w W) := hWB
  have HA := hid hA
  clear hA hWB
  unfold flv
  go_enter Tryz.func22, Tryz.ntmps22
  go_wp2_with fail
  rw [← hW]
  clear hW
  refine HA.out.mono ?_
  rintro e w1 ⟨rfl, hb⟩
  have HB : Hid (Below w.heap.size w w1) := HW.out.trans (hb.mono HW.out.size)
  clear hb HA
  go_wp2_with fail
  go_ret
  exact ⟨rfl, HB.out⟩
/-- A token: its kind, text, class, place. -/
abbrev Tok := Nat × ByteArray × Nat × Nat
@[reducible] def tkv (t : Tok) : Value := .agg #[.int .i64 (t.1 : Int), .string t.2.1, .int .u64 (wd t.2.2.1 0 : Nat), .int .u64 (wd t.2.2.1 1 : Nat), .int .u64 (wd t.2.2.1 2 : Nat), .int .u64 (wd t.2.2.1 3 : Nat), .int .i64 (t.2.2.2 : Int)]
/-- The token at a byte of a text, and where it ends; or what is wrong, and whether it is counted from there. -/
def tokAt (S : ByteArray) (p x : Nat) : (Bool × (Nat × Nat)) ⊕ (Tok × Nat) :=
  if letB x then (if 32 < ne S p - p then .inl (false, (2, p)) else .inr ((1, S.extract p (ne S p), 0, p), ne S p))
  else if x = 39 ∨ x = 34 then (match ll S x p (p + 1) [] with
    | .inl c => .inl (false, c)
    | .inr (l, n) => .inr ((3, nb l, 0, p), n))
  else if x = 91 then (match clsP (S.extract p S.size) with
    | .inl c => .inl (true, c)
    | .inr (C, n) => .inr ((4, { data := #[] }, C, p), p + n))
  else if arB S p then .inr ((2, { data := #[] }, 0, p), p + 2)
  else if mkB x then .inr ((5, nb [x], 0, p), p + 1)
  else .inl (false, (4, p))
def AnsK (r : (Bool × (Nat × Nat)) ⊕ (Tok × Nat)) (p : Nat) (w : World) (e : Ending) (w' : World) : Prop :=
  match r with
  | .inr (t, n) => e = .returned (.tuple #[tkv t, .int .i64 (n : Int), .nilIface]) ∧ Below w.heap.size w w'
  | .inl (false, c) => BadT c w e w'
  | .inl (true, c) => BadC p c w e w'
theorem xtoken_any (S : ByteArray) (p x : Nat) (w : World) (hb : bt S p = some x) (hS : S.size ≤ 9007199254740992) :
    Calls Tryz.prog 21 #[.string S, .int .i64 (p : Int)] w fun e w' => AnsK (tokAt S p x) p w e w' := by
  unfold tokAt
  cases hl : letB x with
  | true =>
    refine (xtoken_name S p x w hb hl hS).mono fun e w' h => ?_
    unfold AnsN at h
    by_cases h3 : 32 < ne S p - p
    · rw [if_pos h3] at h; simp only [if_pos h3]; exact h
    · rw [if_neg h3] at h; simp only [if_neg h3]; simpa [AnsK, tkv, wd_zero] using h
  | false =>
    simp only [Bool.false_eq_true, if_false]
    by_cases hq : x = 39 ∨ x = 34
    · simp only [if_pos hq]
      refine (xtoken_lit S p x w hb hq hS).mono fun e w' h => ?_
      cases hm : ll S x p (p + 1) [] with
      | inl c => rw [hm] at h; exact h
      | inr r => rw [hm] at h; simpa [AnsK, AnsL, tkv, wd_zero] using h
    · simp only [if_neg hq]
      by_cases hc : x = 91
      · simp only [if_pos hc]
        refine (xtoken_cls S p x w hb hc hS).mono fun e w' h => ?_
        cases hm : clsP (S.extract p S.size) with
        | inl c => rw [hm] at h; exact h
        | inr r => rw [hm] at h; exact h
      · simp only [if_neg hc]
        cases ha : arB S p with
        | true =>
          have hx : x = 60 := by unfold arB at ha; rw [hb] at ha; simp at ha; exact ha.1
          exact (xtoken_arrow S p x w hb ha hx hS).mono fun e w' h => by simpa [AnsK, tkv, tk7, wd_zero] using h
        | false =>
          have hq2 : x ≠ 39 ∧ x ≠ 34 ∧ x ≠ 91 := by omega
          cases hm : mkB x with
          | true => exact (xtoken_sign S p x w hb hl hq2 ha hm hS).mono fun e w' h => by simpa [AnsK, tkv, tk7, wd_zero] using h
          | false => exact xtoken_bad S p x w hb hl hq2 ha hm hS
end Go.Proofs.YtkofhmmnlapnnaaGreatDoor
