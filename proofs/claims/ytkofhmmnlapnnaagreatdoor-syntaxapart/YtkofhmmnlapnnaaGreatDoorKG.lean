/-
  What the document says of a class's text, as functions on any bytes: a sign, a member, the members up to the end, the class; or what is wrong, and where. Nothing of the program stands here.
-/
import Derived.Test.YtkofhmmnlapnnaaGreatDoorJ3
namespace Go.Proofs.YtkofhmmnlapnnaaGreatDoor
open Go.RowKit
set_option linter.unusedVariables false
/-- The byte at k. -/
def bt (S : ByteArray) (k : Nat) : Option Nat := if h : k < S.size then some (S[k]).toNat else none
theorem bt_at {S : ByteArray} {k x : Nat} (h : bt S k = some x) : At S k x := by
  unfold bt at h
  split at h
  · rename_i hk; exact ⟨hk, by simpa using h⟩
  · cases h
theorem bt_of {S : ByteArray} {k x : Nat} (h : At S k x) : bt S k = some x := by
  obtain ⟨hk, hx⟩ := h
  unfold bt
  rw [dif_pos hk, hx]
theorem bt_none {S : ByteArray} {k : Nat} (h : bt S k = none) : S.size ≤ k := by
  unfold bt at h
  split at h
  · cases h
  · omega
theorem bt_ge {S : ByteArray} {k : Nat} (h : S.size ≤ k) : bt S k = none := by
  unfold bt
  rw [dif_neg (by omega)]
theorem bt_lt {S : ByteArray} {k x : Nat} (h : bt S k = some x) : k < S.size ∧ x < 256 := ⟨(bt_at h).lt, (bt_at h).u8⟩
/-- What is wrong at k: the end, or the byte. -/
def flt (S : ByteArray) (k : Nat) : Nat × Nat := if S.size ≤ k then (3, S.size) else (4, k)
def dgv (x : Nat) : Option Nat := if 48 ≤ x ∧ x ≤ 57 then some (x - 48) else if 97 ≤ x ∧ x ≤ 102 then some (x - 87) else none
theorem dgv_lt {x d : Nat} (h : dgv x = some d) : d < 16 ∧ x = hexd d := by
  unfold dgv at h
  unfold hexd
  split at h
  · simp at h; subst h; refine ⟨by omega, ?_⟩; rw [if_pos (by omega)]; omega
  · split at h
    · simp at h; subst h; refine ⟨by omega, ?_⟩; rw [if_neg (by omega)]; omega
    · cases h
def dg (S : ByteArray) (k : Nat) : Option Nat := (bt S k).bind dgv
abbrev Rs := (Nat × Nat) ⊕ (Nat × Nat)
def digs (S : ByteArray) (k : Nat) : Rs :=
  match dg S k with
  | none => .inl (flt S k)
  | some q => match dg S (k + 1) with
    | none => .inl (flt S (k + 1))
    | some r => .inr (16 * q + r, k + 2)
def escv (x : Nat) : Option Nat := if x = 110 then some 10 else if x = 114 then some 13 else if x = 116 then some 9 else if mark x then some x else none
def esc (S : ByteArray) (k : Nat) : Rs :=
  match bt S k with
  | none => .inl (flt S k)
  | some x => match escv x with
    | some b => .inr (b, k + 1)
    | none => if x = 120 then digs S (k + 1) else .inl (flt S k)
def plain (x : Nat) : Bool := !mark x && (decide (32 ≤ x) && decide (x ≤ 126))
def sg (S : ByteArray) (k : Nat) : Rs :=
  match bt S k with
  | none => .inl (flt S k)
  | some x => if x = 92 then esc S (k + 1) else if plain x = true then .inr (x, k + 1) else .inl (flt S k)
def mbr (S : ByteArray) (k : Nat) : Rs :=
  match sg S k with
  | .inl e => .inl e
  | .inr (lo, n) =>
    if bt S n = some 45 then
      match sg S (n + 1) with
      | .inl e => .inl e
      | .inr (hi, m) => if hi < lo then .inl (flt S k) else .inr (seg lo (hi + 1), m)
    else .inr (seg lo (lo + 1), n)
def mems (S : ByteArray) : Nat → Nat → Nat → Rs
  | 0, k, _ => .inl (flt S k)
  | f + 1, k, acc =>
    if bt S k = some 93 then .inr (acc, k + 1) else
    match mbr S k with
    | .inl e => .inl e
    | .inr (X, n) => mems S f n (acc ||| X)
def mm (S : ByteArray) (k acc : Nat) : Rs := mems S (S.size + 1 - k) k acc
def clsP (S : ByteArray) : Rs :=
  if bt S 0 = some 91 then
    if bt S 1 = some 94 then
      match mm S 2 0 with
      | .inl e => .inl e
      | .inr (C, n) => .inr (cnot C, n)
    else mm S 1 0
  else .inl (flt S 0)

theorem digs_ok {S : ByteArray} {k b n : Nat} (h : digs S k = .inr (b, n)) : ∃ q r, dg S k = some q ∧ dg S (k + 1) = some r ∧ b = 16 * q + r ∧ n = k + 2 := by
  unfold digs at h
  split at h
  · cases h
  · rename_i q hq
    split at h
    · cases h
    · rename_i r hr
      simp at h
      exact ⟨q, r, hq, hr, h.1.symm, h.2.symm⟩
theorem dg_some {S : ByteArray} {k d : Nat} (h : dg S k = some d) : d < 16 ∧ At S k (hexd d) := by
  unfold dg at h
  cases hb : bt S k with
  | none => rw [hb] at h; cases h
  | some x =>
    rw [hb] at h
    obtain ⟨h1, h2⟩ := dgv_lt (show dgv x = some d from h)
    exact ⟨h1, h2 ▸ bt_at hb⟩
theorem escv_lt {x b : Nat} (h : escv x = some b) (hx : x < 256) : b < 256 := by
  unfold escv at h
  repeat (split at h; (simp at h; omega))
  cases h
theorem esc_ok {S : ByteArray} {k b n : Nat} (h : esc S k = .inr (b, n)) : b < 256 ∧ k < n ∧ n ≤ S.size := by
  unfold esc at h
  split at h
  · cases h
  · rename_i x hx
    have h1 := bt_lt hx
    split at h
    · rename_i b' hb'
      simp at h
      have := escv_lt hb' h1.2
      omega
    · split at h
      · obtain ⟨q, r, hq, hr, rfl, rfl⟩ := digs_ok h
        have a1 := dg_some hq
        have a2 := dg_some hr
        have := a2.2.lt
        omega
      · cases h
theorem sg_ok {S : ByteArray} {k b n : Nat} (h : sg S k = .inr (b, n)) : b < 256 ∧ k < n ∧ n ≤ S.size := by
  unfold sg at h
  split at h
  · cases h
  · rename_i x hx
    have h1 := bt_lt hx
    split at h
    · have := esc_ok h; omega
    · split at h
      · simp at h; omega
      · cases h
theorem mbr_ok {S : ByteArray} {k X n : Nat} (h : mbr S k = .inr (X, n)) : X < 2 ^ 256 ∧ k < n ∧ n ≤ S.size := by
  unfold mbr at h
  split at h
  · cases h
  · rename_i lo m hs
    have h1 := sg_ok hs
    split at h
    · split at h
      · cases h
      · rename_i hi m2 hs2
        have h2 := sg_ok hs2
        split at h
        · cases h
        · simp at h
          exact ⟨h.1 ▸ seg_lt _ _ (by omega), by omega, by omega⟩
    · simp at h
      exact ⟨h.1 ▸ seg_lt _ _ (by omega), by omega, by omega⟩
theorem mems_fuel (S : ByteArray) : ∀ (f g k acc : Nat), S.size + 1 - k ≤ f → S.size + 1 - k ≤ g → mems S f k acc = mems S g k acc
  | 0, 0, _, _, _, _ => rfl
  | 0, g + 1, k, acc, hf, _ => by
    have hb := bt_ge (S := S) (k := k) (by omega)
    have hm : mbr S k = .inl (flt S k) := by unfold mbr sg; rw [hb]
    rw [mems, mems, hb, hm]; simp
  | f + 1, 0, k, acc, _, hg => by
    have hb := bt_ge (S := S) (k := k) (by omega)
    have hm : mbr S k = .inl (flt S k) := by unfold mbr sg; rw [hb]
    rw [mems, mems, hb, hm]; simp
  | f + 1, g + 1, k, acc, hf, hg => by
    rw [mems, mems]
    split
    · rfl
    · cases hm : mbr S k with
      | inl e => rfl
      | inr p =>
        obtain ⟨X, n⟩ := p
        have := mbr_ok hm
        exact mems_fuel S f g n _ (by omega) (by omega)
theorem mm_eq (S : ByteArray) (k acc : Nat) : mm S k acc = (if bt S k = some 93 then .inr (acc, k + 1) else
    match mbr S k with
    | .inl e => .inl e
    | .inr (X, n) => mm S n (acc ||| X)) := by
  unfold mm
  rw [mems_fuel S (S.size + 1 - k) (S.size + 1 - k + 1) k acc (by omega) (by omega), mems]
  split
  · rfl
  · cases hm : mbr S k with
    | inl e => rfl
    | inr p =>
      obtain ⟨X, n⟩ := p
      have := mbr_ok hm
      exact mems_fuel S _ _ n _ (by omega) (by omega)
theorem mm_end {S : ByteArray} {k acc : Nat} (h : bt S k = some 93) : mm S k acc = .inr (acc, k + 1) := by rw [mm_eq, if_pos h]
theorem mm_bad {S : ByteArray} {k acc : Nat} {e : Nat × Nat} (h : ¬ bt S k = some 93) (hm : mbr S k = .inl e) : mm S k acc = .inl e := by rw [mm_eq, if_neg h, hm]
theorem mm_on {S : ByteArray} {k acc X n : Nat} (h : ¬ bt S k = some 93) (hm : mbr S k = .inr (X, n)) : mm S k acc = mm S n (acc ||| X) := by rw [mm_eq, if_neg h, hm]
theorem mems_ok (S : ByteArray) : ∀ (f k acc C n : Nat), acc < 2 ^ 256 → mems S f k acc = .inr (C, n) → C < 2 ^ 256 ∧ k < n ∧ n ≤ S.size
  | 0, k, acc, C, n, _, h => by cases h
  | f + 1, k, acc, C, n, ha, h => by
    rw [mems] at h
    split at h
    · rename_i hb
      have := (bt_lt hb).1
      simp at h
      omega
    · cases hm : mbr S k with
      | inl e => rw [hm] at h; cases h
      | inr p =>
        obtain ⟨X, m⟩ := p
        rw [hm] at h
        have h1 := mbr_ok hm
        have h2 := mems_ok S f m _ C n (Nat.or_lt_two_pow ha h1.1) h
        omega
theorem mm_ok {S : ByteArray} {k acc C n : Nat} (ha : acc < 2 ^ 256) (h : mm S k acc = .inr (C, n)) : C < 2 ^ 256 ∧ k < n ∧ n ≤ S.size := mems_ok S _ k acc C n ha h
end Go.Proofs.YtkofhmmnlapnnaaGreatDoor
