/-
  What the document says of a class's text, as functions on any bytes: a sign, a member, the members up to the end, the class; or what is wrong, and where. Nothing of the program stands here.
  What class.fault, begins, digit, takeDigits, takeEscape and takeSign answer at any text. Conditions: those that each theorem names.
  What class.takeEscape and takeSign answer at any text. Conditions: those that each theorem names.
  What class.takeMember answers at any text. Conditions: those that each theorem names.
  What class.Parse answers at any text. Conditions: the text is not longer than 2^53 bytes.
-/
import Derived.Test.YtikfnaffiehpaaaGreatDoorVJ
namespace Go.Proofs.YtikfnaffiehpaaaGreatDoor
open Go.RowKit
set_option linter.unusedVariables false
/-- The byte at k. -/
def bt (S : ByteArray) (k : Nat) : Option Nat := if h : k < S.size then some (S[k]).toNat else none
theorem bt_at {S : ByteArray} {k x : Nat} (h : bt S k = some x) : At S k x := by
  unfold bt at h
  split at h
  · rename_i hk; exact ⟨hk, by simpa using h⟩
  · cases h
theorem bt_of {S : ByteArray} {k x : Nat} (h : At S k x) : bt S k = some x := by
  obtain ⟨hk, hx⟩ := h
  unfold bt
  rw [dif_pos hk, hx]
theorem bt_none {S : ByteArray} {k : Nat} (h : bt S k = none) : S.size ≤ k := by
  unfold bt at h
  split at h
  · cases h
  · omega
theorem bt_ge {S : ByteArray} {k : Nat} (h : S.size ≤ k) : bt S k = none := by
  unfold bt
  rw [dif_neg (by omega)]
theorem bt_lt {S : ByteArray} {k x : Nat} (h : bt S k = some x) : k < S.size ∧ x < 256 := ⟨(bt_at h).lt, (bt_at h).u8⟩
/-- What is wrong at k: the end, or the byte. -/
def flt (S : ByteArray) (k : Nat) : Nat × Nat := if S.size ≤ k then (3, S.size) else (4, k)
def dgv (x : Nat) : Option Nat := if 48 ≤ x ∧ x ≤ 57 then some (x - 48) else if 97 ≤ x ∧ x ≤ 102 then some (x - 87) else none
theorem dgv_lt {x d : Nat} (h : dgv x = some d) : d < 16 ∧ x = hexd d := by
  unfold dgv at h
  unfold hexd
  split at h
  · simp at h; subst h; refine ⟨by omega, ?_⟩; rw [if_pos (by omega)]; omega
  · split at h
    · simp at h; subst h; refine ⟨by omega, ?_⟩; rw [if_neg (by omega)]; omega
    · cases h
def dg (S : ByteArray) (k : Nat) : Option Nat := (bt S k).bind dgv
abbrev Rs := (Nat × Nat) ⊕ (Nat × Nat)
def digs (S : ByteArray) (k : Nat) : Rs :=
  match dg S k with
  | none => .inl (flt S k)
  | some q => match dg S (k + 1) with
    | none => .inl (flt S (k + 1))
    | some r => .inr (16 * q + r, k + 2)
def escv (x : Nat) : Option Nat := if x = 110 then some 10 else if x = 114 then some 13 else if x = 116 then some 9 else if mark x then some x else none
def esc (S : ByteArray) (k : Nat) : Rs :=
  match bt S k with
  | none => .inl (flt S k)
  | some x => match escv x with
    | some b => .inr (b, k + 1)
    | none => if x = 120 then digs S (k + 1) else .inl (flt S k)
def plain (x : Nat) : Bool := !mark x && (decide (32 ≤ x) && decide (x ≤ 126))
def sg (S : ByteArray) (k : Nat) : Rs :=
  match bt S k with
  | none => .inl (flt S k)
  | some x => if x = 92 then esc S (k + 1) else if plain x = true then .inr (x, k + 1) else .inl (flt S k)
def mbr (S : ByteArray) (k : Nat) : Rs :=
  match sg S k with
  | .inl e => .inl e
  | .inr (lo, n) =>
    if bt S n = some 45 then
      match sg S (n + 1) with
      | .inl e => .inl e
      | .inr (hi, m) => if hi < lo then .inl (flt S k) else .inr (seg lo (hi + 1), m)
    else .inr (seg lo (lo + 1), n)
def mems (S : ByteArray) : Nat → Nat → Nat → Rs
  | 0, k, _ => .inl (flt S k)
  | f + 1, k, acc =>
    if bt S k = some 93 then .inr (acc, k + 1) else
    match mbr S k with
    | .inl e => .inl e
    | .inr (X, n) => mems S f n (acc ||| X)
def mm (S : ByteArray) (k acc : Nat) : Rs := mems S (S.size + 1 - k) k acc
def clsP (S : ByteArray) : Rs :=
  if bt S 0 = some 91 then
    if bt S 1 = some 94 then
      match mm S 2 0 with
      | .inl e => .inl e
      | .inr (C, n) => .inr (cnot C, n)
    else mm S 1 0
  else .inl (flt S 0)

theorem digs_ok {S : ByteArray} {k b n : Nat} (h : digs S k = .inr (b, n)) : ∃ q r, dg S k = some q ∧ dg S (k + 1) = some r ∧ b = 16 * q + r ∧ n = k + 2 := by
  unfold digs at h
  split at h
  · cases h
  · rename_i q hq
    split at h
    · cases h
    · rename_i r hr
      simp at h
      exact ⟨q, r, hq, hr, h.1.symm, h.2.symm⟩
theorem dg_some {S : ByteArray} {k d : Nat} (h : dg S k = some d) : d < 16 ∧ At S k (hexd d) := by
  unfold dg at h
  cases hb : bt S k with
  | none => rw [hb] at h; cases h
  | some x =>
    rw [hb] at h
    obtain ⟨h1, h2⟩ := dgv_lt (show dgv x = some d from h)
    exact ⟨h1, h2 ▸ bt_at hb⟩
theorem escv_lt {x b : Nat} (h : escv x = some b) (hx : x < 256) : b < 256 := by
  unfold escv at h
  repeat (split at h; (simp at h; omega))
  cases h
theorem esc_ok {S : ByteArray} {k b n : Nat} (h : esc S k = .inr (b, n)) : b < 256 ∧ k < n ∧ n ≤ S.size := by
  unfold esc at h
  split at h
  · cases h
  · rename_i x hx
    have h1 := bt_lt hx
    split at h
    · rename_i b' hb'
      simp at h
      have := escv_lt hb' h1.2
      omega
    · split at h
      · obtain ⟨q, r, hq, hr, rfl, rfl⟩ := digs_ok h
        have a1 := dg_some hq
        have a2 := dg_some hr
        have := a2.2.lt
        omega
      · cases h
theorem sg_ok {S : ByteArray} {k b n : Nat} (h : sg S k = .inr (b, n)) : b < 256 ∧ k < n ∧ n ≤ S.size := by
  unfold sg at h
  split at h
  · cases h
  · rename_i x hx
    have h1 := bt_lt hx
    split at h
    · have := esc_ok h; omega
    · split at h
      · simp at h; omega
      · cases h
theorem mbr_ok {S : ByteArray} {k X n : Nat} (h : mbr S k = .inr (X, n)) : X < 2 ^ 256 ∧ k < n ∧ n ≤ S.size := by
  unfold mbr at h
  split at h
  · cases h
  · rename_i lo m hs
    have h1 := sg_ok hs
    split at h
    · split at h
      · cases h
      · rename_i hi m2 hs2
        have h2 := sg_ok hs2
        split at h
        · cases h
        · simp at h
          exact ⟨h.1 ▸ seg_lt _ _ (by omega), by omega, by omega⟩
    · simp at h
      exact ⟨h.1 ▸ seg_lt _ _ (by omega), by omega, by omega⟩
theorem mems_fuel (S : ByteArray) : ∀ (f g k acc : Nat), S.size + 1 - k ≤ f → S.size + 1 - k ≤ g → mems S f k acc = mems S g k acc
  | 0, 0, _, _, _, _ => rfl
  | 0, g + 1, k, acc, hf, _ => by
    have hb := bt_ge (S := S) (k := k) (by omega)
    have hm : mbr S k = .inl (flt S k) := by unfold mbr sg; rw [hb]
    rw [mems, mems, hb, hm]; simp
  | f + 1, 0, k, acc, _, hg => by
    have hb := bt_ge (S := S) (k := k) (by omega)
    have hm : mbr S k = .inl (flt S k) := by unfold mbr sg; rw [hb]
    rw [mems, mems, hb, hm]; simp
  | f + 1, g + 1, k, acc, hf, hg => by
    rw [mems, mems]
    split
    · rfl
    · cases hm : mbr S k with
      | inl e => rfl
      | inr p =>
        obtain ⟨X, n⟩ := p
        have := mbr_ok hm
        exact mems_fuel S f g n _ (by omega) (by omega)
theorem mm_eq (S : ByteArray) (k acc : Nat) : mm S k acc = (if bt S k = some 93 then .inr (acc, k + 1) else
    match mbr S k with
    | .inl e => .inl e
    | .inr (X, n) => mm S n (acc ||| X)) := by
  unfold mm
  rw [mems_fuel S (S.size + 1 - k) (S.size + 1 - k + 1) k acc (by omega) (by omega), mems]
  split
  · rfl
  · cases hm : mbr S k with
    | inl e => rfl
    | inr p =>
      obtain ⟨X, n⟩ := p
      have := mbr_ok hm
      exact mems_fuel S _ _ n _ (by omega) (by omega)
theorem mm_end {S : ByteArray} {k acc : Nat} (h : bt S k = some 93) : mm S k acc = .inr (acc, k + 1) := by rw [mm_eq, if_pos h]
theorem mm_bad {S : ByteArray} {k acc : Nat} {e : Nat × Nat} (h : ¬ bt S k = some 93) (hm : mbr S k = .inl e) : mm S k acc = .inl e := by rw [mm_eq, if_neg h, hm]
theorem mm_on {S : ByteArray} {k acc X n : Nat} (h : ¬ bt S k = some 93) (hm : mbr S k = .inr (X, n)) : mm S k acc = mm S n (acc ||| X) := by rw [mm_eq, if_neg h, hm]
theorem mems_ok (S : ByteArray) : ∀ (f k acc C n : Nat), acc < 2 ^ 256 → mems S f k acc = .inr (C, n) → C < 2 ^ 256 ∧ k < n ∧ n ≤ S.size
  | 0, k, acc, C, n, _, h => by cases h
  | f + 1, k, acc, C, n, ha, h => by
    rw [mems] at h
    split at h
    · rename_i hb
      have := (bt_lt hb).1
      simp at h
      omega
    · cases hm : mbr S k with
      | inl e => rw [hm] at h; cases h
      | inr p =>
        obtain ⟨X, m⟩ := p
        rw [hm] at h
        have h1 := mbr_ok hm
        have h2 := mems_ok S f m _ C n (Nat.or_lt_two_pow ha h1.1) h
        omega
theorem mm_ok {S : ByteArray} {k acc C n : Nat} (ha : acc < 2 ^ 256) (h : mm S k acc = .inr (C, n)) : C < 2 ^ 256 ∧ k < n ∧ n ≤ S.size := mems_ok S _ k acc C n ha h
end Go.Proofs.YtikfnaffiehpaaaGreatDoor
namespace Go.Proofs.YtikfnaffiehpaaaGreatDoor
open Go.RowKit
set_option linter.unusedVariables false
/-- An error: the Fault in block p. -/
def flv (p : Nat) : Value := .iface 98 (.pointer (some ⟨p, 0, none⟩))
/-- Block p holds a Fault: its number, its place. -/
def Flt (w : World) (p : Nat) (c : Nat × Nat) : Prop := w.heap[p]? = some (.cells #[.int .i64 (c.1 : Int), .int .i64 (c.2 : Int)] 100)
theorem Flt.lt {w : World} {p : Nat} {c : Nat × Nat} (h : Flt w p c) : p < w.heap.size := by
  unfold Flt at h
  rcases Nat.lt_or_ge p w.heap.size with h2 | h2
  · exact h2
  · rw [Array.getElem?_eq_none h2] at h; cases h
theorem Flt.below {w w' : World} {p B : Nat} {c : Nat × Nat} (h : Flt w p c) (hb : Below B w w') (hp : p < B) : Flt w' p c := (hb.block p hp).trans h
theorem Flt.alloc {w : World} {p : Nat} {c : Nat × Nat} (h : Flt w p c) (o : Obj) : Flt (w.alloc o) p c := (Below.heap_alloc w o p h.lt).trans h
theorem Flt.new (w : World) (c : Nat × Nat) : Flt (w.alloc (.cells #[.int .i64 (c.1 : Int), .int .i64 (c.2 : Int)] 100)) w.heap.size c := by
  show (w.heap.push _)[w.heap.size]? = _
  simp
/-- A call that ends in a Fault: three answers, the first one zero. -/
def Bad (z : Value) (c : Nat × Nat) (w : World) (e : Ending) (w' : World) : Prop := ∃ p, e = .returned (.tuple #[z, .int .i64 0, flv p]) ∧ Hid (w.heap.size ≤ p ∧ Flt w' p c ∧ Below w.heap.size w w')
set_option maxRecDepth 100000 in
set_option maxHeartbeats 1000000 in
theorem fault_any (S : ByteArray) (k : Nat) (w : World) (hS : S.size ≤ 9007199254740992) (hk : k ≤ 9007199254740999) :
    Calls Tryz.prog 117 #[.string S, .int .i64 (k : Int)] w fun e w' => e = .returned (flv w.heap.size) ∧ Flt w' w.heap.size (flt S k) ∧ Below w.heap.size w w' := by
  by_cases h : S.size ≤ k
  · have a0 : decide ((S.size : Int) ≤ (k : Int)) = true := by simp; omega
    have HF : Hid (flt S k = (3, S.size)) := by show _ = _; unfold flt; rw [if_pos h]
    go_enter Tryz.func117, Tryz.ntmps117
    go_wp2_with fail
    go_ret
    rw [HF.out]
    exact ⟨rfl, Flt.new w (3, S.size), (Below.refl _ _).alloc (Nat.le_refl _) _⟩
  · have a0 : decide ((S.size : Int) ≤ (k : Int)) = false := by simp; omega
    have HF : Hid (flt S k = (4, k)) := by show _ = _; unfold flt; rw [if_neg h]
    go_enter Tryz.func117, Tryz.ntmps117
    go_wp2_with fail
    go_ret
    rw [HF.out]
    exact ⟨rfl, Flt.new w (4, k), (Below.refl _ _).alloc (Nat.le_refl _) _⟩
set_option maxRecDepth 100000 in
set_option maxHeartbeats 1000000 in
theorem begins_end (S : ByteArray) (k b : Nat) (w : World) (h : S.size ≤ k) (hS : S.size ≤ 9007199254740992) :
    Calls Tryz.prog 116 #[.string S, .int .i64 (k : Int), .int .u8 (b : Int)] w fun e w' => e = .returned (.bool false) ∧ Below w.heap.size w w' := by
  have a0 : decide ((k : Int) < (S.size : Int)) = false := by simp; omega
  go_enter Tryz.func116, Tryz.ntmps116
  go_wp2_with fail
  go_ret
  exact ⟨rfl, Below.refl _ _⟩
theorem begins_yes (S : ByteArray) (k b : Nat) (w : World) (h : bt S k = some b) (hS : S.size ≤ 9007199254740992) :
    Calls Tryz.prog 116 #[.string S, .int .i64 (k : Int), .int .u8 (b : Int)] w fun e w' => e = .returned (.bool true) ∧ Below w.heap.size w w' :=
  begins_at S k b b true w (bt_lt h).2 (bt_at h) (by simp) hS
theorem begins_no (S : ByteArray) (k b : Nat) (w : World) (hb : b < 256) (h : ¬ bt S k = some b) (hS : S.size ≤ 9007199254740992) :
    Calls Tryz.prog 116 #[.string S, .int .i64 (k : Int), .int .u8 (b : Int)] w fun e w' => e = .returned (.bool false) ∧ Below w.heap.size w w' := by
  cases hx : bt S k with
  | none => exact begins_end S k b w (bt_none hx) hS
  | some x => exact begins_at S k x b false w hb (bt_at hx) (beq_false_of_ne (fun e => h (by rw [hx, e]))) hS
set_option maxRecDepth 100000 in
set_option maxHeartbeats 1000000 in
theorem digit_no (S : ByteArray) (k : Nat) (w : World) (h : dg S k = none) (hS : S.size ≤ 9007199254740992) :
    Calls Tryz.prog 150 #[.string S, .int .i64 (k : Int)] w fun e w' => e = .returned (.tuple #[.int .u8 0, .bool false]) ∧ Below w.heap.size w w' := by
  cases hx : bt S k with
  | none =>
    have := bt_none hx
    have a0 : decide ((S.size : Int) ≤ (k : Int)) = true := by simp; omega
    clear h hx
    go_enter Tryz.func150, Tryz.ntmps150
    go_wp2_with fail
    go_ret2
    exact ⟨rfl, Below.refl _ _⟩
  | some x =>
    have hd : dgv x = none := by unfold dg at h; rw [hx] at h; exact h
    obtain ⟨hk, hxx⟩ := bt_at hx
    have hkI : (k : Int) < (S.size : Int) := by omega
    have a0 : decide ((S.size : Int) ≤ (k : Int)) = false := by simp; omega
    have hc : x < 48 ∨ (57 < x ∧ x < 97) ∨ 102 < x := by
      unfold dgv at hd
      split at hd
      · cases hd
      · split at hd
        · cases hd
        · omega
    clear h hx hd
    rcases hc with h1 | h1 | h1
    · have a1 : decide (48 ≤ (x : Int)) = false := by simp; omega
      have a2 : decide (97 ≤ (x : Int)) = false := by simp; omega
      clear h1
      go_enter Tryz.func150, Tryz.ntmps150
      go_wp2_with fail
      go_ret2
      exact ⟨rfl, Below.refl _ _⟩
    · have a1 : decide (48 ≤ (x : Int)) = true := by simp; omega
      have a3 : decide ((x : Int) ≤ 57) = false := by simp; omega
      have a2 : decide (97 ≤ (x : Int)) = false := by simp; omega
      clear h1
      go_enter Tryz.func150, Tryz.ntmps150
      go_wp2_with fail
      go_ret2
      exact ⟨rfl, Below.refl _ _⟩
    · have a1 : decide (48 ≤ (x : Int)) = true := by simp; omega
      have a3 : decide ((x : Int) ≤ 57) = false := by simp; omega
      have a2 : decide (97 ≤ (x : Int)) = true := by simp; omega
      have a4 : decide ((x : Int) ≤ 102) = false := by simp; omega
      clear h1
      go_enter Tryz.func150, Tryz.ntmps150
      go_wp2_with fail
      go_ret2
      exact ⟨rfl, Below.refl _ _⟩
theorem fault_at (S : ByteArray) (k : Nat) (c : Nat × Nat) (w0 w : World) (h : flt S k = c) (hS : S.size ≤ 9007199254740992) (hk : k ≤ 9007199254740999) (hb : Below w0.heap.size w0 w) :
    Calls Tryz.prog 117 #[.string S, .int .i64 (k : Int)] w fun e w' => ∃ p, e = .returned (flv p) ∧ Hid (w0.heap.size ≤ p ∧ Flt w' p c ∧ Below w0.heap.size w0 w') :=
  (fault_any S k w hS hk).mono fun e w' ⟨h1, h2, h3⟩ => ⟨_, h1, hb.size, h ▸ h2, hb.trans (h3.mono hb.size)⟩
set_option maxRecDepth 100000 in
set_option maxHeartbeats 1000000 in
theorem digits_bad (S : ByteArray) (k : Nat) (c : Nat × Nat) (w : World) (h : digs S k = .inl c) (hS : S.size ≤ 9007199254740992) (hk : k ≤ 9007199254740998) :
    Calls Tryz.prog 146 #[.string S, .int .i64 (k : Int)] w fun e w' => Bad (.int .u8 0) c w e w' := by
  unfold digs at h
  cases hq : dg S k with
  | none =>
    rw [hq] at h
    simp at h
    have H1 : Hid (∀ w : World, Calls Tryz.prog 150 #[.string S, .int .i64 (k : Int)] w fun e w' => e = .returned (.tuple #[.int .u8 0, .bool false]) ∧ Below w.heap.size w w') := fun w => digit_no S k w hq hS
    have HF : Hid (flt S k = c) := h
    clear h hq
    go_enter Tryz.func146, Tryz.ntmps146
    go_wp2_with fail
    refine (H1.out _).mono ?_
    rintro e w1 ⟨rfl, hb1⟩
    have HB1 : Hid (Below w.heap.size w w1) := hb1
    clear hb1
    go_wp2_with fail
    refine (fault_at S k c w _ HF.out hS (by omega) HB1.out).mono ?_
    rintro e w2 ⟨p, rfl, HP⟩
    unfold flv
    go_wp2_with fail
    go_ret3
    exact ⟨p, rfl, HP⟩
  | some q =>
    rw [hq] at h
    simp only at h
    obtain ⟨hq1, hq2⟩ := dg_some hq
    cases hr : dg S (k + 1) with
    | some r => rw [hr] at h; cases h
    | none =>
      rw [hr] at h
      simp at h
      have H1 : Hid (∀ w : World, Calls Tryz.prog 150 #[.string S, .int .i64 (k : Int)] w fun e w' => e = .returned (.tuple #[.int .u8 (q : Int), .bool true]) ∧ Below w.heap.size w w') := fun w => digit_at S k q w hq1 hq2 hS
      have H2 : Hid (∀ w : World, Calls Tryz.prog 150 #[.string S, .int .i64 ((k : Int) + 1)] w fun e w' => e = .returned (.tuple #[.int .u8 0, .bool false]) ∧ Below w.heap.size w w') := fun w => by
        have h := digit_no S (k + 1) w hr hS
        rw [show ((k + 1 : Nat) : Int) = (k : Int) + 1 by omega] at h
        exact h
      have H3 : Hid (∀ w' : World, Below w.heap.size w w' → Calls Tryz.prog 117 #[.string S, .int .i64 ((k : Int) + 1)] w' fun e w' => ∃ p, e = .returned (flv p) ∧ Hid (w.heap.size ≤ p ∧ Flt w' p c ∧ Below w.heap.size w w')) := fun w' hb => by
        have h := fault_at S (k + 1) c w w' h hS (by omega) hb
        rw [show ((k + 1 : Nat) : Int) = (k : Int) + 1 by omega] at h
        exact h
      have hkk := hq2.lt
      have hki : (k : Int) + 1 ≤ 9007199254740994 := by omega
      clear h hr hq hq2
      go_enter Tryz.func146, Tryz.ntmps146
      go_wp2_with fail
      refine (H1.out _).mono ?_
      rintro e w1 ⟨rfl, hb1⟩
      have HB1 : Hid (Below w.heap.size w w1) := hb1
      clear hb1
      go_wp2_with fail
      refine (H2.out _).mono ?_
      rintro e w2 ⟨rfl, hb2⟩
      have HB2 : Hid (Below w.heap.size w w2) := HB1.out.trans (hb2.mono HB1.out.size)
      clear hb2
      go_wp2_with fail
      refine (H3.out _ HB2.out).mono ?_
      rintro e w3 ⟨p, rfl, HP⟩
      unfold flv
      go_wp2_with fail
      go_ret3
      exact ⟨p, rfl, HP⟩
theorem digits_ok (S : ByteArray) (k b n : Nat) (w : World) (h : digs S k = .inr (b, n)) (hS : S.size ≤ 9007199254740992) :
    Calls Tryz.prog 146 #[.string S, .int .i64 (k : Int)] w fun e w' => e = .returned (.tuple #[.int .u8 (b : Int), .int .i64 (n : Int), .nilIface]) ∧ Below w.heap.size w w' := by
  obtain ⟨q, r, hq, hr, hb, hn⟩ := digs_ok h
  have h2 := digits_at S k q r b w hb.symm (dg_some hq).1 (dg_some hr).1 (dg_some hq).2 (dg_some hr).2 hS
  rw [show (k : Int) + 2 = (n : Int) by omega] at h2
  exact h2
end Go.Proofs.YtikfnaffiehpaaaGreatDoor
namespace Go.Proofs.YtikfnaffiehpaaaGreatDoor
open Go.RowKit
set_option linter.unusedVariables false
theorem mark_calls (b : Nat) (v : Bool) (hb : b < 256) (h : mark b = v) : Hid (∀ w : World, Calls Tryz.prog 128 #[.int .u8 (b : Int)] w fun e w' => e = .returned (.bool v) ∧ w' = w) := fun w => h ▸ mark_any b w hb
theorem print_calls (b : Nat) (v : Bool) (hb : b < 256) (h : (decide (32 ≤ b) && decide (b ≤ 126)) = v) : Hid (∀ w : World, Calls Tryz.prog 129 #[.int .u8 (b : Int)] w fun e w' => e = .returned (.bool v) ∧ w' = w) := fun w => h ▸ print_any b w hb
set_option maxRecDepth 100000 in
set_option maxHeartbeats 2000000 in
theorem escape_ok (S : ByteArray) (m b n : Nat) (w : World) (h : esc S m = .inr (b, n)) (hS : S.size ≤ 9007199254740992) :
    Calls Tryz.prog 141 #[.string S, .int .i64 (m : Int)] w fun e w' => e = .returned (.tuple #[.int .u8 (b : Int), .int .i64 (n : Int), .nilIface]) ∧ Below w.heap.size w w' := by
  unfold esc at h
  cases hx0 : bt S m with
  | none => rw [hx0] at h; cases h
  | some x =>
    rw [hx0] at h
    simp only at h
    have hxl := (bt_lt hx0).2
    obtain ⟨hk, hx⟩ := bt_at hx0
    have hkI : (m : Int) < (S.size : Int) := by omega
    have a0 : decide ((S.size : Int) ≤ (m : Int)) = false := by simp; omega
    clear hx0
    cases hv : escv x with
    | some b' =>
      rw [hv] at h
      simp only [Sum.inr.injEq, Prod.mk.injEq] at h
      obtain ⟨rfl, rfl⟩ := h
      have hn : ((m + 1 : Nat) : Int) = (m : Int) + 1 := by omega
      rw [hn]
      clear hn
      unfold escv at hv
      by_cases h1 : x = 110
      · rw [if_pos h1] at hv
        obtain rfl : b' = 10 := by simpa using hv.symm
        have t110 : ((x : Int) == 110) = true := by simp; omega
        clear h1 hv
        go_enter Tryz.func141, Tryz.ntmps141
        go_wp2_with fail
        go_ret3
        exact ⟨rfl, Below.refl _ _⟩
      · rw [if_neg h1] at hv
        have t110 : ((x : Int) == 110) = false := by simp; omega
        by_cases h2 : x = 114
        · rw [if_pos h2] at hv
          obtain rfl : b' = 13 := by simpa using hv.symm
          have t114 : ((x : Int) == 114) = true := by simp; omega
          clear h1 h2 hv
          go_enter Tryz.func141, Tryz.ntmps141
          go_wp2_with fail
          go_ret3
          exact ⟨rfl, Below.refl _ _⟩
        · rw [if_neg h2] at hv
          have t114 : ((x : Int) == 114) = false := by simp; omega
          by_cases h3 : x = 116
          · rw [if_pos h3] at hv
            obtain rfl : b' = 9 := by simpa using hv.symm
            have t116 : ((x : Int) == 116) = true := by simp; omega
            clear h1 h2 h3 hv
            go_enter Tryz.func141, Tryz.ntmps141
            go_wp2_with fail
            go_ret3
            exact ⟨rfl, Below.refl _ _⟩
          · rw [if_neg h3] at hv
            have t116 : ((x : Int) == 116) = false := by simp; omega
            cases hm : mark x with
            | false => rw [hm] at hv; simp at hv
            | true =>
              rw [hm] at hv
              obtain rfl : x = b' := by simpa using hv
              have HMk := mark_calls x true hxl hm
              clear h1 h2 h3 hv hm
              go_enter Tryz.func141, Tryz.ntmps141
              go_wp2_with fail
              refine (HMk.out _).mono ?_
              rintro e w1 ⟨rfl, rfl⟩
              go_wp2_with fail
              go_ret3
              exact ⟨rfl, Below.refl _ _⟩
    | none =>
      rw [hv] at h
      simp only at h
      unfold escv at hv
      have h1 : x ≠ 110 := fun e => by rw [if_pos e] at hv; cases hv
      rw [if_neg h1] at hv
      have h2 : x ≠ 114 := fun e => by rw [if_pos e] at hv; cases hv
      rw [if_neg h2] at hv
      have h3 : x ≠ 116 := fun e => by rw [if_pos e] at hv; cases hv
      rw [if_neg h3] at hv
      have hm : mark x = false := by cases hm : mark x with | false => rfl | true => rw [hm] at hv; simp at hv
      by_cases h4 : x = 120
      · rw [if_pos h4] at h
        have t110 : ((x : Int) == 110) = false := by simp; omega
        have t114 : ((x : Int) == 114) = false := by simp; omega
        have t116 : ((x : Int) == 116) = false := by simp; omega
        have t120 : ((x : Int) == 120) = true := by simp; omega
        have HMk := mark_calls x false hxl hm
        have HD : Hid (∀ w : World, Calls Tryz.prog 146 #[.string S, .int .i64 ((m : Int) + 1)] w fun e w' => e = .returned (.tuple #[.int .u8 (b : Int), .int .i64 (n : Int), .nilIface]) ∧ Below w.heap.size w w') := fun w => by
          have h := digits_ok S (m + 1) b n w h hS
          rw [show ((m + 1 : Nat) : Int) = (m : Int) + 1 by omega] at h
          exact h
        clear h h1 h2 h3 h4 hv hm
        go_enter Tryz.func141, Tryz.ntmps141
        go_wp2_with fail
        refine (HMk.out _).mono ?_
        rintro e w1 ⟨rfl, rfl⟩
        go_wp2_with fail
        refine (HD.out _).mono ?_
        rintro e w2 ⟨rfl, hb2⟩
        have HB2 : Hid (Below w1.heap.size w1 w2) := hb2
        clear hb2
        go_wp2_with fail
        go_ret3
        exact ⟨rfl, HB2.out⟩
      · rw [if_neg h4] at h
        cases h
set_option maxRecDepth 100000 in
set_option maxHeartbeats 2000000 in
theorem escape_bad (S : ByteArray) (m : Nat) (c : Nat × Nat) (w : World) (h : esc S m = .inl c) (hS : S.size ≤ 9007199254740992) (hm : m ≤ 9007199254740996) :
    Calls Tryz.prog 141 #[.string S, .int .i64 (m : Int)] w fun e w' => Bad (.int .u8 0) c w e w' := by
  unfold esc at h
  cases hx0 : bt S m with
  | none =>
    rw [hx0] at h
    simp only [Sum.inl.injEq] at h
    have := bt_none hx0
    have a0 : decide ((S.size : Int) ≤ (m : Int)) = true := by simp; omega
    have HF : Hid (flt S m = c) := h
    clear h hx0
    go_enter Tryz.func141, Tryz.ntmps141
    go_wp2_with fail
    refine (fault_at S m c w _ HF.out hS (by omega) (Below.refl _ _)).mono ?_
    rintro e w2 ⟨p, rfl, HP⟩
    unfold flv
    go_wp2_with fail
    go_ret3
    exact ⟨p, rfl, HP⟩
  | some x =>
    rw [hx0] at h
    simp only at h
    have hxl := (bt_lt hx0).2
    obtain ⟨hk, hx⟩ := bt_at hx0
    have hkI : (m : Int) < (S.size : Int) := by omega
    have a0 : decide ((S.size : Int) ≤ (m : Int)) = false := by simp; omega
    clear hx0
    cases hv : escv x with
    | some b' => rw [hv] at h; cases h
    | none =>
      rw [hv] at h
      simp only at h
      unfold escv at hv
      have h1 : x ≠ 110 := fun e => by rw [if_pos e] at hv; cases hv
      rw [if_neg h1] at hv
      have h2 : x ≠ 114 := fun e => by rw [if_pos e] at hv; cases hv
      rw [if_neg h2] at hv
      have h3 : x ≠ 116 := fun e => by rw [if_pos e] at hv; cases hv
      rw [if_neg h3] at hv
      have hmk : mark x = false := by cases hm : mark x with | false => rfl | true => rw [hm] at hv; simp at hv
      have t110 : ((x : Int) == 110) = false := by simp; omega
      have t114 : ((x : Int) == 114) = false := by simp; omega
      have t116 : ((x : Int) == 116) = false := by simp; omega
      have HMk := mark_calls x false hxl hmk
      by_cases h4 : x = 120
      · rw [if_pos h4] at h
        have t120 : ((x : Int) == 120) = true := by simp; omega
        have HD : Hid (∀ w : World, Calls Tryz.prog 146 #[.string S, .int .i64 ((m : Int) + 1)] w fun e w' => Bad (.int .u8 0) c w e w') := fun w => by
          have h := digits_bad S (m + 1) c w h hS (by omega)
          rw [show ((m + 1 : Nat) : Int) = (m : Int) + 1 by omega] at h
          exact h
        clear h h1 h2 h3 h4 hv hmk
        go_enter Tryz.func141, Tryz.ntmps141
        go_wp2_with fail
        refine (HMk.out _).mono ?_
        rintro e w1 ⟨rfl, rfl⟩
        go_wp2_with fail
        refine (HD.out _).mono ?_
        rintro e w2 ⟨p, rfl, HP⟩
        unfold flv
        go_wp2_with fail
        go_ret3
        exact ⟨p, rfl, HP⟩
      · rw [if_neg h4] at h
        simp only [Sum.inl.injEq] at h
        have t120 : ((x : Int) == 120) = false := by simp; omega
        have HF : Hid (flt S m = c) := h
        clear h h1 h2 h3 h4 hv hmk
        go_enter Tryz.func141, Tryz.ntmps141
        go_wp2_with fail
        refine (HMk.out _).mono ?_
        rintro e w1 ⟨rfl, rfl⟩
        go_wp2_with fail
        refine (fault_at S m c w1 _ HF.out hS (by omega) (Below.refl _ _)).mono ?_
        rintro e w2 ⟨p, rfl, HP⟩
        unfold flv
        go_wp2_with fail
        go_ret3
        exact ⟨p, rfl, HP⟩
set_option maxRecDepth 100000 in
set_option maxHeartbeats 2000000 in
theorem tsign_ok (S : ByteArray) (k b n : Nat) (w : World) (h : sg S k = .inr (b, n)) (hS : S.size ≤ 9007199254740992) :
    Calls Tryz.prog 135 #[.string S, .int .i64 (k : Int)] w fun e w' => e = .returned (.tuple #[.int .u8 (b : Int), .int .i64 (n : Int), .nilIface]) ∧ Below w.heap.size w w' := by
  unfold sg at h
  cases hx0 : bt S k with
  | none => rw [hx0] at h; cases h
  | some x =>
    rw [hx0] at h
    simp only at h
    have hxl := (bt_lt hx0).2
    obtain ⟨hk, hx⟩ := bt_at hx0
    have hkI : (k : Int) < (S.size : Int) := by omega
    by_cases h1 : x = 92
    · rw [if_pos h1] at h
      subst h1
      have HB : Hid (∀ w : World, Calls Tryz.prog 116 #[.string S, .int .i64 (k : Int), .int .u8 92] w fun e w' => e = .returned (.bool true) ∧ Below w.heap.size w w') := fun w => begins_yes S k 92 w hx0 hS
      have HE : Hid (∀ w : World, Calls Tryz.prog 141 #[.string S, .int .i64 ((k : Int) + 1)] w fun e w' => e = .returned (.tuple #[.int .u8 (b : Int), .int .i64 (n : Int), .nilIface]) ∧ Below w.heap.size w w') := fun w => by
        have he := escape_ok S (k + 1) b n w h hS
        rw [show ((k + 1 : Nat) : Int) = (k : Int) + 1 by omega] at he
        exact he
      clear h hx0 hx
      go_enter Tryz.func135, Tryz.ntmps135
      go_wp2_with fail
      refine (HB.out _).mono ?_
      rintro e w1 ⟨rfl, hb1⟩
      have HB1 : Hid (Below w.heap.size w w1) := hb1
      clear hb1
      go_wp2_with fail
      refine (HE.out _).mono ?_
      rintro e w2 ⟨rfl, hb2⟩
      have HB2 : Hid (Below w.heap.size w w2) := HB1.out.trans (hb2.mono HB1.out.size)
      clear hb2
      go_wp2_with fail
      go_ret3
      exact ⟨rfl, HB2.out⟩
    · rw [if_neg h1] at h
      cases hp : plain x with
      | false => rw [hp] at h; simp at h
      | true =>
        rw [hp, if_pos rfl] at h
        simp only [Sum.inr.injEq, Prod.mk.injEq] at h
        obtain ⟨rfl, rfl⟩ := h
        unfold plain at hp
        simp only [Bool.and_eq_true, Bool.not_eq_true'] at hp
        have HB : Hid (∀ w : World, Calls Tryz.prog 116 #[.string S, .int .i64 (k : Int), .int .u8 92] w fun e w' => e = .returned (.bool false) ∧ Below w.heap.size w w') := fun w => begins_no S k 92 w (by omega) (by rw [hx0]; simpa using h1) hS
        have HM := mark_calls x false hxl hp.1
        have HP := print_calls x true hxl (by rw [Bool.and_eq_true]; exact hp.2)
        have a0 : decide ((S.size : Int) ≤ (k : Int)) = false := by simp; omega
        have hNI : ((k + 1 : Nat) : Int) = (k : Int) + 1 := by omega
        rw [hNI]
        clear hp h1 hx0 hNI
        go_enter Tryz.func135, Tryz.ntmps135
        go_wp2_with fail
        refine (HB.out _).mono ?_
        rintro e w1 ⟨rfl, hb1⟩
        have HB1 : Hid (Below w.heap.size w w1) := hb1
        clear hb1
        go_wp2_with fail
        refine (HM.out _).mono ?_
        rintro e w2 ⟨rfl, rfl⟩
        go_wp2_with fail
        refine (HP.out _).mono ?_
        rintro e w3 ⟨rfl, rfl⟩
        go_wp2_with fail
        go_ret3
        exact ⟨rfl, HB1.out⟩
theorem Bad.step {z : Value} {c : Nat × Nat} {w w1 w' : World} {e : Ending} (h : Bad z c w1 e w') (hb : Below w.heap.size w w1) : Bad z c w e w' := by
  obtain ⟨p, he, hp⟩ := h
  exact ⟨p, he, Nat.le_trans hb.size hp.out.1, hp.out.2.1, hb.trans (hp.out.2.2.mono hb.size)⟩
set_option maxRecDepth 100000 in
set_option maxHeartbeats 2000000 in
theorem tsign_bad (S : ByteArray) (k : Nat) (c : Nat × Nat) (w : World) (h : sg S k = .inl c) (hS : S.size ≤ 9007199254740992) (hk : k ≤ 9007199254740995) :
    Calls Tryz.prog 135 #[.string S, .int .i64 (k : Int)] w fun e w' => Bad (.int .u8 0) c w e w' := by
  unfold sg at h
  cases hx0 : bt S k with
  | none =>
    rw [hx0] at h
    simp only [Sum.inl.injEq] at h
    have hge := bt_none hx0
    have a0 : decide ((S.size : Int) ≤ (k : Int)) = true := by simp; omega
    have HB : Hid (∀ w : World, Calls Tryz.prog 116 #[.string S, .int .i64 (k : Int), .int .u8 92] w fun e w' => e = .returned (.bool false) ∧ Below w.heap.size w w') := fun w => begins_end S k 92 w hge hS
    have HF : Hid (flt S k = c) := h
    clear h hx0
    go_enter Tryz.func135, Tryz.ntmps135
    go_wp2_with fail
    refine (HB.out _).mono ?_
    rintro e w1 ⟨rfl, hb1⟩
    have HB1 : Hid (Below w.heap.size w w1) := hb1
    clear hb1
    go_wp2_with fail
    refine (fault_at S k c w _ HF.out hS (by omega) HB1.out).mono ?_
    rintro e w2 ⟨p, rfl, HP⟩
    unfold flv
    go_wp2_with fail
    go_ret3
    exact ⟨p, rfl, HP⟩
  | some x =>
    rw [hx0] at h
    simp only at h
    have hxl := (bt_lt hx0).2
    obtain ⟨hkk, hx⟩ := bt_at hx0
    have hkI : (k : Int) < (S.size : Int) := by omega
    by_cases h1 : x = 92
    · rw [if_pos h1] at h
      subst h1
      have HB : Hid (∀ w : World, Calls Tryz.prog 116 #[.string S, .int .i64 (k : Int), .int .u8 92] w fun e w' => e = .returned (.bool true) ∧ Below w.heap.size w w') := fun w => begins_yes S k 92 w hx0 hS
      have HE : Hid (∀ w : World, Calls Tryz.prog 141 #[.string S, .int .i64 ((k : Int) + 1)] w fun e w' => Bad (.int .u8 0) c w e w') := fun w => by
        have he := escape_bad S (k + 1) c w h hS (by omega)
        rw [show ((k + 1 : Nat) : Int) = (k : Int) + 1 by omega] at he
        exact he
      clear h hx0 hx
      go_enter Tryz.func135, Tryz.ntmps135
      go_wp2_with fail
      refine (HB.out _).mono ?_
      rintro e w1 ⟨rfl, hb1⟩
      have HB1 : Hid (Below w.heap.size w w1) := hb1
      clear hb1
      go_wp2_with fail
      refine (HE.out _).mono ?_
      intro e w2 hbad
      obtain ⟨p, rfl, HP⟩ := hbad.step HB1.out
      unfold flv
      go_wp2_with fail
      go_ret3
      exact ⟨p, rfl, HP⟩
    · rw [if_neg h1] at h
      cases hp : plain x with
      | true => rw [hp, if_pos rfl] at h; cases h
      | false =>
        rw [hp] at h
        simp at h
        have HF : Hid (flt S k = c) := h
        have HB : Hid (∀ w : World, Calls Tryz.prog 116 #[.string S, .int .i64 (k : Int), .int .u8 92] w fun e w' => e = .returned (.bool false) ∧ Below w.heap.size w w') := fun w => begins_no S k 92 w (by omega) (by rw [hx0]; simpa using h1) hS
        have a0 : decide ((S.size : Int) ≤ (k : Int)) = false := by simp; omega
        unfold plain at hp
        cases hm : mark x with
        | true =>
          have HM := mark_calls x true hxl hm
          clear hp h1 hx0 h hm
          go_enter Tryz.func135, Tryz.ntmps135
          go_wp2_with fail
          refine (HB.out _).mono ?_
          rintro e w1 ⟨rfl, hb1⟩
          have HB1 : Hid (Below w.heap.size w w1) := hb1
          clear hb1
          go_wp2_with fail
          refine (HM.out _).mono ?_
          rintro e w2 ⟨rfl, rfl⟩
          go_wp2_with fail
          refine (fault_at S k c w _ HF.out hS (by omega) HB1.out).mono ?_
          rintro e w3 ⟨p, rfl, HP⟩
          unfold flv
          go_wp2_with fail
          go_ret3
          exact ⟨p, rfl, HP⟩
        | false =>
          have HM := mark_calls x false hxl hm
          have HQ := print_calls x false hxl (by rw [hm] at hp; simpa using hp)
          clear hp h1 hx0 h hm
          go_enter Tryz.func135, Tryz.ntmps135
          go_wp2_with fail
          refine (HB.out _).mono ?_
          rintro e w1 ⟨rfl, hb1⟩
          have HB1 : Hid (Below w.heap.size w w1) := hb1
          clear hb1
          go_wp2_with fail
          refine (HM.out _).mono ?_
          rintro e w2 ⟨rfl, rfl⟩
          go_wp2_with fail
          refine (HQ.out _).mono ?_
          rintro e w2 ⟨rfl, rfl⟩
          go_wp2_with fail
          refine (fault_at S k c w _ HF.out hS (by omega) HB1.out).mono ?_
          rintro e w3 ⟨p, rfl, HP⟩
          unfold flv
          go_wp2_with fail
          go_ret3
          exact ⟨p, rfl, HP⟩
end Go.Proofs.YtikfnaffiehpaaaGreatDoor
namespace Go.Proofs.YtikfnaffiehpaaaGreatDoor
open Go.RowKit
set_option linter.unusedVariables false
theorem bt_near {S : ByteArray} {k x : Nat} (h : bt S k = some x) : k < S.size := (bt_lt h).1
set_option maxRecDepth 100000 in
set_option maxHeartbeats 2000000 in
theorem tmember_ok (S : ByteArray) (k X N : Nat) (w : World) (h : mbr S k = .inr (X, N)) (hS : S.size ≤ 9007199254740992) :
    Calls Tryz.prog 118 #[.string S, .int .i64 (k : Int)] w fun e w' => e = .returned (.tuple #[cv X, .int .i64 (N : Int), .nilIface]) ∧ Below w.heap.size w w' := by
  unfold mbr at h
  cases hs : sg S k with
  | inl c => rw [hs] at h; cases h
  | inr q =>
    obtain ⟨lo, M⟩ := q
    rw [hs] at h
    simp only at h
    have hlo := sg_ok hs
    have HT1 : Hid (∀ w : World, Calls Tryz.prog 135 #[.string S, .int .i64 (k : Int)] w fun e w' => e = .returned (.tuple #[.int .u8 (lo : Int), .int .i64 (M : Int), .nilIface]) ∧ Below w.heap.size w w') := fun w => tsign_ok S k lo M w hs hS
    by_cases hm : bt S M = some 45
    · rw [if_pos hm] at h
      cases hs2 : sg S (M + 1) with
      | inl c => rw [hs2] at h; cases h
      | inr q2 =>
        obtain ⟨hi, N2⟩ := q2
        rw [hs2] at h
        simp only at h
        have hhi := sg_ok hs2
        by_cases hlt : hi < lo
        · rw [if_pos hlt] at h; cases h
        · rw [if_neg hlt] at h
          simp only [Sum.inr.injEq, Prod.mk.injEq] at h
          obtain ⟨hX, rfl⟩ := h
          have HBg : Hid (∀ w : World, Calls Tryz.prog 116 #[.string S, .int .i64 (M : Int), .int .u8 45] w fun e w' => e = .returned (.bool true) ∧ Below w.heap.size w w') := fun w => begins_yes S M 45 w hm hS
          have HT2 : Hid (∀ w : World, Calls Tryz.prog 135 #[.string S, .int .i64 ((M : Int) + 1)] w fun e w' => e = .returned (.tuple #[.int .u8 (hi : Int), .int .i64 (N2 : Int), .nilIface]) ∧ Below w.heap.size w w') := fun w => by
            have ht := tsign_ok S (M + 1) hi N2 w hs2 hS
            rw [show ((M + 1 : Nat) : Int) = (M : Int) + 1 by omega] at ht
            exact ht
          have HSp : Hid (∀ w : World, Calls Tryz.prog 127 #[.int .i64 (lo : Int), .int .i64 (hi : Int)] w fun e w' => e = .returned (cv X) ∧ Below w.heap.size w w') := by rw [← hX]; exact fun w => span_any lo hi w (by omega) hhi.1
          have hw1 : IntKind.i64.wrap (lo : Int) = (lo : Int) := by rw [IntKind.wrap_i64]; omega
          have hw2 : IntKind.i64.wrap (hi : Int) = (hi : Int) := by rw [IntKind.wrap_i64]; omega
          have d1 : decide ((hi : Int) < (lo : Int)) = false := by simp; omega
          have d2 : decide (hi < lo) = false := by simp; omega
          have hMs : M < S.size := bt_near hm
          clear hm hs hs2 hX hlt hlo hhi
          go_enter Tryz.func118, Tryz.ntmps118
          go_wp2_with fail
          refine (HT1.out _).mono ?_
          rintro e w1 ⟨rfl, hb1⟩
          have HB1 : Hid (Below w.heap.size w w1) := ((Below.refl _ _).alloc (Nat.le_refl _) _).trans (hb1.mono (by simp))
          have HK1 : Hid (Blk w1 w.heap.size 0) := (Blk.new0 w).below hb1 (by simp)
          clear hb1
          go_wp2_with fail
          refine (HBg.out _).mono ?_
          rintro e w2 ⟨rfl, hb2⟩
          have HB2 : Hid (Below w.heap.size w w2) := HB1.out.trans (hb2.mono HB1.out.size)
          have HK2 : Hid (Blk w2 w.heap.size 0) := HK1.out.below hb2 HK1.out.lt
          clear hb2 HK1
          go_wp2_with fail
          refine (HT2.out _).mono ?_
          rintro e w5 ⟨rfl, hb5⟩
          have HB5 : Hid (Below w.heap.size w w5) := HB2.out.trans (hb5.mono HB2.out.size)
          have HK5 : Hid (Blk w5 w.heap.size 0) := HK2.out.below hb5 HK2.out.lt
          clear hb5 HK2
          go_wp2_with fail
          refine (HSp.out _).mono ?_
          rintro e w3 ⟨rfl, hb3⟩
          have HB3 : Hid (Below w.heap.size w w3) := HB5.out.trans (hb3.mono HB5.out.size)
          have HK3 : Hid (Blk w3 w.heap.size 0) := HK5.out.below hb3 HK5.out.lt
          clear hb3 HK5
          obtain ⟨c0, c1, c2, c3⟩ := HK3.out.cells
          obtain ⟨f0, f1, f2, f3⟩ := HK3.out.thaw
          obtain ⟨r0, r1, r2, r3⟩ := (HK3.out.st4 X).cells
          have HB4 : Hid (Below w.heap.size w (st4 w3 w.heap.size X)) := Below.st4 HB3.out (Nat.le_refl _) _
          unfold st4 at r0 r1 r2 r3
          clear HK3
          dsimp only [cv]
          go_wp2_with fail
          refine bodyPost_ret (v := .tuple #[cv X, .int .i64 (N2 : Int), .nilIface]) (by simp [results, Tryz.results118, go_sem, r0, r1, r2, r3]) rfl ⟨rfl, HB4.out⟩
    · rw [if_neg hm] at h
      simp only [Sum.inr.injEq, Prod.mk.injEq] at h
      obtain ⟨hX, rfl⟩ := h
      have HBg : Hid (∀ w : World, Calls Tryz.prog 116 #[.string S, .int .i64 (M : Int), .int .u8 45] w fun e w' => e = .returned (.bool false) ∧ Below w.heap.size w w') := fun w => begins_no S M 45 w (by omega) hm hS
      have HSp : Hid (∀ w : World, Calls Tryz.prog 127 #[.int .i64 (lo : Int), .int .i64 (lo : Int)] w fun e w' => e = .returned (cv X) ∧ Below w.heap.size w w') := by rw [← hX]; exact fun w => span_any lo lo w (Nat.le_refl _) hlo.1
      have hw1 : IntKind.i64.wrap (lo : Int) = (lo : Int) := by rw [IntKind.wrap_i64]; omega
      clear hm hs hX hlo
      go_enter Tryz.func118, Tryz.ntmps118
      go_wp2_with fail
      refine (HT1.out _).mono ?_
      rintro e w1 ⟨rfl, hb1⟩
      have HB1 : Hid (Below w.heap.size w w1) := ((Below.refl _ _).alloc (Nat.le_refl _) _).trans (hb1.mono (by simp))
      have HK1 : Hid (Blk w1 w.heap.size 0) := (Blk.new0 w).below hb1 (by simp)
      clear hb1
      go_wp2_with fail
      refine (HBg.out _).mono ?_
      rintro e w2 ⟨rfl, hb2⟩
      have HB2 : Hid (Below w.heap.size w w2) := HB1.out.trans (hb2.mono HB1.out.size)
      have HK2 : Hid (Blk w2 w.heap.size 0) := HK1.out.below hb2 HK1.out.lt
      clear hb2 HK1
      go_wp2_with fail
      refine (HSp.out _).mono ?_
      rintro e w3 ⟨rfl, hb3⟩
      have HB3 : Hid (Below w.heap.size w w3) := HB2.out.trans (hb3.mono HB2.out.size)
      have HK3 : Hid (Blk w3 w.heap.size 0) := HK2.out.below hb3 HK2.out.lt
      clear hb3 HK2
      obtain ⟨c0, c1, c2, c3⟩ := HK3.out.cells
      obtain ⟨f0, f1, f2, f3⟩ := HK3.out.thaw
      obtain ⟨r0, r1, r2, r3⟩ := (HK3.out.st4 X).cells
      have HB4 : Hid (Below w.heap.size w (st4 w3 w.heap.size X)) := Below.st4 HB3.out (Nat.le_refl _) _
      unfold st4 at r0 r1 r2 r3
      clear HK3
      dsimp only [cv]
      go_wp2_with fail
      refine bodyPost_ret (v := .tuple #[cv X, .int .i64 (M : Int), .nilIface]) (by simp [results, Tryz.results118, go_sem, r0, r1, r2, r3]) rfl ⟨rfl, HB4.out⟩
/-- Four stores of 0. -/
@[reducible] def z4 (w : World) (g : Nat) : World := (((w.setCell ⟨g, 0, none⟩ (.int .u64 0)).setCell ⟨g, 1, none⟩ (.int .u64 0)).setCell ⟨g, 2, none⟩ (.int .u64 0)).setCell ⟨g, 3, none⟩ (.int .u64 0)
theorem z4_eq (w : World) (g : Nat) : z4 w g = st4 w g 0 := by
  have : ∀ i, ((wd 0 i : Nat) : Int) = 0 := fun i => by rw [wd_zero]; rfl
  unfold z4 st4
  rw [this, this, this, this]
theorem Blk.zero {w : World} {g C : Nat} (h : Blk w g C) : (z4 w g).cell? ⟨g, 0, none⟩ = some (.int .u64 0) ∧ (z4 w g).cell? ⟨g, 1, none⟩ = some (.int .u64 0) ∧ (z4 w g).cell? ⟨g, 2, none⟩ = some (.int .u64 0) ∧ (z4 w g).cell? ⟨g, 3, none⟩ = some (.int .u64 0) := by
  have h2 := (h.st4 0).cells
  rw [← z4_eq] at h2
  simp only [wd_zero] at h2
  exact h2
theorem Flt.st4 {w : World} {p g D : Nat} {c : Nat × Nat} (h : Flt w p c) (hne : p ≠ g) : Flt (Proofs.YtikfnaffiehpaaaGreatDoor.st4 w g D) p c := by
  unfold Flt Proofs.YtikfnaffiehpaaaGreatDoor.st4 at *
  rw [Below.heap_setCell _ _ _ _ hne, Below.heap_setCell _ _ _ _ hne, Below.heap_setCell _ _ _ _ hne, Below.heap_setCell _ _ _ _ hne]
  exact h
theorem bad_end {w w1 : World} {g p : Nat} {c : Nat × Nat} (hB : Below w.heap.size w w1) (hg : w.heap.size ≤ g) (hF : Flt w1 p c) (hp : w.heap.size ≤ p) (hne : p ≠ g) : Hid (w.heap.size ≤ p ∧ Flt (z4 w1 g) p c ∧ Below w.heap.size w (z4 w1 g)) := by
  show _ ∧ _ ∧ _
  rw [z4_eq]
  exact ⟨hp, hF.st4 hne, Below.st4 hB hg 0⟩
theorem Blk.zeroA {w : World} {g C : Nat} (h : Blk w g C) (o : Obj) : ((z4 w g).alloc o).cell? ⟨g, 0, none⟩ = some (.int .u64 0) ∧ ((z4 w g).alloc o).cell? ⟨g, 1, none⟩ = some (.int .u64 0) ∧ ((z4 w g).alloc o).cell? ⟨g, 2, none⟩ = some (.int .u64 0) ∧ ((z4 w g).alloc o).cell? ⟨g, 3, none⟩ = some (.int .u64 0) := by
  have h2 := ((h.st4 0).alloc o).cells
  rw [← z4_eq] at h2
  simp only [wd_zero] at h2
  exact h2
theorem bad_endA {w w1 : World} {g p : Nat} {c : Nat × Nat} (hB : Below w.heap.size w w1) (hg : w.heap.size ≤ g) (hF : Flt w1 p c) (hp : w.heap.size ≤ p) (hne : p ≠ g) (o : Obj) : Hid (w.heap.size ≤ p ∧ Flt ((z4 w1 g).alloc o) p c ∧ Below w.heap.size w ((z4 w1 g).alloc o)) := by
  obtain ⟨h1, h2, h3⟩ := bad_end hB hg hF hp hne
  exact ⟨h1, h2.alloc o, h3.alloc h3.size o⟩
theorem cv0 : cv 0 = .agg #[.int .u64 0, .int .u64 0, .int .u64 0, .int .u64 0] := cv_zero
/-- A Fault that lies above the block of the answer. -/
def Up (w w1 : World) (p : Nat) (c : Nat × Nat) : Prop := w.heap.size ≤ p ∧ p ≠ w.heap.size ∧ Flt w1 p c
theorem Up.mk {w w1 : World} {p : Nat} {c : Nat × Nat} {o : Obj} (h : (w.alloc o).heap.size ≤ p ∧ Flt w1 p c ∧ Below (w.alloc o).heap.size (w.alloc o) w1) : Up w w1 p c := by
  have := h.1
  simp at this
  exact ⟨by omega, by omega, h.2.1⟩
set_option maxRecDepth 100000 in
set_option maxHeartbeats 2000000 in
theorem tmember_bad (S : ByteArray) (k : Nat) (c : Nat × Nat) (w : World) (h : mbr S k = .inl c) (hS : S.size ≤ 9007199254740992) (hk : k ≤ 9007199254740993) :
    Calls Tryz.prog 118 #[.string S, .int .i64 (k : Int)] w fun e w' => Bad (cv 0) c w e w' := by
  rw [cv0]
  unfold mbr at h
  cases hs : sg S k with
  | inl c' =>
    rw [hs] at h
    simp only [Sum.inl.injEq] at h
    subst h
    have HT1 : Hid (∀ w : World, Calls Tryz.prog 135 #[.string S, .int .i64 (k : Int)] w fun e w' => Bad (.int .u8 0) c' w e w') := fun w => tsign_bad S k c' w hs hS (by omega)
    clear hs
    go_enter Tryz.func118, Tryz.ntmps118
    go_wp2_with fail
    refine (HT1.out _).mono ?_
    rintro e w1 ⟨p, rfl, HP⟩
    have HB1 : Hid (Below w.heap.size w w1) := ((Below.refl _ _).alloc (Nat.le_refl _) _).trans (HP.out.2.2.mono (by simp))
    have HK1 : Hid (Blk w1 w.heap.size 0) := (Blk.new0 w).below HP.out.2.2 (by simp)
    have HQ : Hid (Up w w1 p c') := Up.mk HP.out
    clear HP
    obtain ⟨c0, c1, c2, c3⟩ := HK1.out.cells
    obtain ⟨f0, f1, f2, f3⟩ := HK1.out.thaw
    obtain ⟨r0, r1, r2, r3⟩ := HK1.out.zero
    unfold z4 at r0 r1 r2 r3
    unfold flv
    go_wp2_with fail
    refine bodyPost_ret (v := .tuple #[.agg #[.int .u64 0, .int .u64 0, .int .u64 0, .int .u64 0], .int .i64 0, .iface 98 (.pointer (some ⟨p, 0, none⟩))]) (by simp [results, Tryz.results118, go_sem, r0, r1, r2, r3]) rfl ⟨p, rfl, bad_end HB1.out (Nat.le_refl _) HQ.out.2.2 HQ.out.1 HQ.out.2.1⟩
  | inr q =>
    obtain ⟨lo, M⟩ := q
    rw [hs] at h
    simp only at h
    have hlo := sg_ok hs
    have HT1 : Hid (∀ w : World, Calls Tryz.prog 135 #[.string S, .int .i64 (k : Int)] w fun e w' => e = .returned (.tuple #[.int .u8 (lo : Int), .int .i64 (M : Int), .nilIface]) ∧ Below w.heap.size w w') := fun w => tsign_ok S k lo M w hs hS
    by_cases hm : bt S M = some 45
    · rw [if_pos hm] at h
      have hMs : M < S.size := bt_near hm
      have HBg : Hid (∀ w : World, Calls Tryz.prog 116 #[.string S, .int .i64 (M : Int), .int .u8 45] w fun e w' => e = .returned (.bool true) ∧ Below w.heap.size w w') := fun w => begins_yes S M 45 w hm hS
      cases hs2 : sg S (M + 1) with
      | inl c' =>
        rw [hs2] at h
        simp only [Sum.inl.injEq] at h
        subst h
        have HT2 : Hid (∀ w : World, Calls Tryz.prog 135 #[.string S, .int .i64 ((M : Int) + 1)] w fun e w' => Bad (.int .u8 0) c' w e w') := fun w => by
          have ht := tsign_bad S (M + 1) c' w hs2 hS (by omega)
          rw [show ((M + 1 : Nat) : Int) = (M : Int) + 1 by omega] at ht
          exact ht
        clear hm hs hs2 hlo
        go_enter Tryz.func118, Tryz.ntmps118
        go_wp2_with fail
        refine (HT1.out _).mono ?_
        rintro e w1 ⟨rfl, hb1⟩
        have HB1 : Hid (Below w.heap.size w w1) := ((Below.refl _ _).alloc (Nat.le_refl _) _).trans (hb1.mono (by simp))
        have HK1 : Hid (Blk w1 w.heap.size 0) := (Blk.new0 w).below hb1 (by simp)
        clear hb1
        go_wp2_with fail
        refine (HBg.out _).mono ?_
        rintro e w2 ⟨rfl, hb2⟩
        have HB2 : Hid (Below w.heap.size w w2) := HB1.out.trans (hb2.mono HB1.out.size)
        have HK2 : Hid (Blk w2 w.heap.size 0) := HK1.out.below hb2 HK1.out.lt
        clear hb2 HK1
        go_wp2_with fail
        refine (HT2.out _).mono ?_
        rintro e w5 ⟨p, rfl, HP⟩
        have HB5 : Hid (Below w.heap.size w w5) := HB2.out.trans (HP.out.2.2.mono HB2.out.size)
        have HK5 : Hid (Blk w5 w.heap.size 0) := HK2.out.below HP.out.2.2 HK2.out.lt
        have HQ : Hid (Up w w5 p c') := ⟨Nat.le_trans HB2.out.size HP.out.1, fun e => by have h1 := HK2.out.lt; have h2 := HP.out.1; omega, HP.out.2.1⟩
        clear HP HK2
        obtain ⟨c0, c1, c2, c3⟩ := HK5.out.cells
        obtain ⟨f0, f1, f2, f3⟩ := HK5.out.thaw
        obtain ⟨r0, r1, r2, r3⟩ := HK5.out.zero
        unfold z4 at r0 r1 r2 r3
        unfold flv
        go_wp2_with fail
        refine bodyPost_ret (v := .tuple #[.agg #[.int .u64 0, .int .u64 0, .int .u64 0, .int .u64 0], .int .i64 0, .iface 98 (.pointer (some ⟨p, 0, none⟩))]) (by simp [results, Tryz.results118, go_sem, r0, r1, r2, r3]) rfl ⟨p, rfl, bad_end HB5.out (Nat.le_refl _) HQ.out.2.2 HQ.out.1 HQ.out.2.1⟩
      | inr q2 =>
        obtain ⟨hi, N2⟩ := q2
        rw [hs2] at h
        simp only at h
        have hhi := sg_ok hs2
        by_cases hlt : hi < lo
        · rw [if_pos hlt] at h
          simp only [Sum.inl.injEq] at h
          have HT2 : Hid (∀ w : World, Calls Tryz.prog 135 #[.string S, .int .i64 ((M : Int) + 1)] w fun e w' => e = .returned (.tuple #[.int .u8 (hi : Int), .int .i64 (N2 : Int), .nilIface]) ∧ Below w.heap.size w w') := fun w => by
            have ht := tsign_ok S (M + 1) hi N2 w hs2 hS
            rw [show ((M + 1 : Nat) : Int) = (M : Int) + 1 by omega] at ht
            exact ht
          have HF : Hid (flt S k = c) := h
          have d1 : decide ((hi : Int) < (lo : Int)) = true := by simp; omega
          have d2 : decide (hi < lo) = true := by simp; omega
          clear hm hs hs2 hlo hhi h
          go_enter Tryz.func118, Tryz.ntmps118
          go_wp2_with fail
          refine (HT1.out _).mono ?_
          rintro e w1 ⟨rfl, hb1⟩
          have HB1 : Hid (Below w.heap.size w w1) := ((Below.refl _ _).alloc (Nat.le_refl _) _).trans (hb1.mono (by simp))
          have HK1 : Hid (Blk w1 w.heap.size 0) := (Blk.new0 w).below hb1 (by simp)
          clear hb1
          go_wp2_with fail
          refine (HBg.out _).mono ?_
          rintro e w2 ⟨rfl, hb2⟩
          have HB2 : Hid (Below w.heap.size w w2) := HB1.out.trans (hb2.mono HB1.out.size)
          have HK2 : Hid (Blk w2 w.heap.size 0) := HK1.out.below hb2 HK1.out.lt
          clear hb2 HK1
          go_wp2_with fail
          refine (HT2.out _).mono ?_
          rintro e w5 ⟨rfl, hb5⟩
          have HB5 : Hid (Below w.heap.size w w5) := HB2.out.trans (hb5.mono HB2.out.size)
          have HK5 : Hid (Blk w5 w.heap.size 0) := HK2.out.below hb5 HK2.out.lt
          clear hb5 HK2
          go_wp2_with fail
          refine (fault_at S k c w5 _ HF.out hS (by omega) (Below.refl _ _)).mono ?_
          rintro e w3 ⟨p, rfl, HP⟩
          have HB3 : Hid (Below w.heap.size w w3) := HB5.out.trans (HP.out.2.2.mono HB5.out.size)
          have HK3 : Hid (Blk w3 w.heap.size 0) := HK5.out.below HP.out.2.2 HK5.out.lt
          have HQ : Hid (Up w w3 p c) := ⟨Nat.le_trans HB5.out.size HP.out.1, fun e => by have h1 := HK5.out.lt; have h2 := HP.out.1; omega, HP.out.2.1⟩
          clear HP HK5
          obtain ⟨c0, c1, c2, c3⟩ := HK3.out.cells
          obtain ⟨f0, f1, f2, f3⟩ := HK3.out.thaw
          obtain ⟨r0, r1, r2, r3⟩ := HK3.out.zero
          unfold z4 at r0 r1 r2 r3
          unfold flv
          go_wp2_with fail
          refine bodyPost_ret (v := .tuple #[.agg #[.int .u64 0, .int .u64 0, .int .u64 0, .int .u64 0], .int .i64 0, .iface 98 (.pointer (some ⟨p, 0, none⟩))]) (by simp [results, Tryz.results118, go_sem, r0, r1, r2, r3]) rfl ⟨p, rfl, bad_end HB3.out (Nat.le_refl _) HQ.out.2.2 HQ.out.1 HQ.out.2.1⟩
        · rw [if_neg hlt] at h; cases h
    · rw [if_neg hm] at h; cases h
end Go.Proofs.YtikfnaffiehpaaaGreatDoor
namespace Go.Proofs.YtikfnaffiehpaaaGreatDoor
open Go.RowKit
set_option linter.unusedVariables false
/-- What a call that reads a class hands back. -/
def Ans (r : Rs) (w : World) (e : Ending) (w' : World) : Prop :=
  match r with
  | .inr (C, n) => e = .returned (.tuple #[cv C, .int .i64 (n : Int), .nilIface]) ∧ Below w.heap.size w w'
  | .inl c => Bad (cv 0) c w e w'
def ng (r : Rs) : Rs :=
  match r with
  | .inl e => .inl e
  | .inr (C, n) => .inr (cnot C, n)
set_option maxRecDepth 100000 in
set_option maxHeartbeats 4000000 in
theorem parse_pos (S : ByteArray) (w : World) (h0 : bt S 0 = some 91) (h1 : ¬ bt S 1 = some 94) (hS : S.size ≤ 9007199254740992) :
    Calls Tryz.prog 97 #[.string S] w fun e w' => Ans (mm S 1 0) w e w' := by
  have H1 : Hid (∀ w : World, Calls Tryz.prog 116 #[.string S, .int .i64 0, .int .u8 91] w fun e w' => e = .returned (.bool true) ∧ Below w.heap.size w w') := fun w => begins_yes S 0 91 w h0 hS
  have H2 : Hid (∀ w : World, Calls Tryz.prog 116 #[.string S, .int .i64 1, .int .u8 94] w fun e w' => e = .returned (.bool false) ∧ Below w.heap.size w w') := fun w => begins_no S 1 94 w (by omega) h1 hS
  have hk0 : 1 ≤ S.size := (bt_lt h0).1
  obtain ⟨R, hR⟩ : ∃ R, R = mm S 1 0 := ⟨_, rfl⟩
  rw [← hR]
  have HR : Hid (mm S 1 0 = R) := hR.symm
  clear h0 h1 hR
  go_enter Tryz.func97, Tryz.ntmps97
  go_wp2_with fail
  refine (H1.out _).mono ?_
  rintro e w1 ⟨rfl, hb1⟩
  have HB1 : Hid (Below w.heap.size w w1) := ((Below.refl _ _).alloc (Nat.le_refl _) _).trans (hb1.mono (by simp))
  have HK1 : Hid (Blk w1 w.heap.size 0) := (Blk.new0 w).below hb1 (by simp)
  clear hb1
  go_wp2_with fail
  refine (H2.out _).mono ?_
  rintro e w2 ⟨rfl, hb2⟩
  have HB2 : Hid (Below w.heap.size w w2) := HB1.out.trans (hb2.mono HB1.out.size)
  have HK2 : Hid (Blk w2 w.heap.size 0) := HK1.out.below hb2 HK1.out.lt
  have hlt2 : w.heap.size < w2.heap.size := HK2.out.lt
  clear hb2 HK1 HB1
  go_wp2_with fail
  go_loopw [5] (fun a wr => ∃ (k acc : Nat), a = .int .i64 (k : Int) ∧ k ≤ S.size ∧ Hid (mm S k acc = R) ∧ Hid (acc < 2 ^ 256) ∧ Hid (Below w.heap.size w wr) ∧ Hid (Blk wr w.heap.size 0) ∧ Hid (Blk wr w2.heap.size acc)) (fun a _ => S.size - (intOf a).toNat)
  case atStart => exact ⟨1, 0, rfl, hk0, HR, hid (by decide +kernel), hid (HB2.out.alloc HB2.out.size _), hid (HK2.out.alloc _), hid (Blk.new0 w2)⟩
  case round =>
    obtain ⟨k, acc, rfl, hks, HM, HA, HB, HRb, HO⟩ := hrel
    by_cases h93 : bt S k = some 93
    · have hkk : k < S.size := (bt_lt h93).1
      have HE : Hid (∀ w : World, Calls Tryz.prog 116 #[.string S, .int .i64 (k : Int), .int .u8 93] w fun e w' => e = .returned (.bool true) ∧ Below w.heap.size w w') := fun w => begins_yes S k 93 w h93 hS
      have HRe : Hid (R = .inr (acc, k + 1)) := by show _ = _; rw [← HM.out, mm_end h93]
      have hn : ((k + 1 : Nat) : Int) = (k : Int) + 1 := by omega
      have HN : Hid (((k + 1 : Nat) : Int) = (k : Int) + 1) := hn
      clear h93 HM hn
      go_wp2_with fail
      refine (HE.out _).mono ?_
      rintro e w3 ⟨rfl, hb3⟩
      have HB3 : Hid (Below w.heap.size w w3) := HB.out.trans (hb3.mono HB.out.size)
      have HR3 : Hid (Blk w3 w.heap.size 0) := HRb.out.below hb3 HRb.out.lt
      have HO3 : Hid (Blk w3 w2.heap.size acc) := HO.out.below hb3 HO.out.lt
      clear hb3 HB HRb HO
      obtain ⟨c0, c1, c2, c3⟩ := HO3.out.cells
      obtain ⟨d0, d1, d2, d3⟩ := HR3.out.cells
      obtain ⟨f0, f1, f2, f3⟩ := HR3.out.thaw
      obtain ⟨r0, r1, r2, r3⟩ := (HR3.out.st4 acc).cells
      have HBe : Hid (Below w.heap.size w (st4 w3 w.heap.size acc)) := Below.st4 HB3.out (Nat.le_refl _) _
      unfold st4 at r0 r1 r2 r3
      clear HR3 HO3
      go_wp2_with fail
      refine bodyPost_ret (v := .tuple #[cv acc, .int .i64 ((k : Int) + 1), .nilIface]) (by simp [results, Tryz.results97, go_sem, r0, r1, r2, r3]) rfl ?_
      rw [HRe.out]
      exact ⟨by rw [HN.out], HBe.out⟩
    · have HE : Hid (∀ w : World, Calls Tryz.prog 116 #[.string S, .int .i64 (k : Int), .int .u8 93] w fun e w' => e = .returned (.bool false) ∧ Below w.heap.size w w') := fun w => begins_no S k 93 w (by omega) h93 hS
      cases hm : mbr S k with
      | inl c =>
        have HRe : Hid (R = .inl c) := by show _ = _; rw [← HM.out, mm_bad h93 hm]
        have HTm : Hid (∀ w : World, Calls Tryz.prog 118 #[.string S, .int .i64 (k : Int)] w fun e w' => Bad (cv 0) c w e w') := fun w => tmember_bad S k c w hm hS (by omega)
        rw [cv0] at HTm
        clear h93 HM hm
        go_wp2_with fail
        refine (HE.out _).mono ?_
        rintro e w3 ⟨rfl, hb3⟩
        have HB3 : Hid (Below w.heap.size w w3) := HB.out.trans (hb3.mono HB.out.size)
        have HR3 : Hid (Blk w3 w.heap.size 0) := HRb.out.below hb3 HRb.out.lt
        clear hb3 HB HRb HO
        go_wp2_with fail
        refine (HTm.out _).mono ?_
        rintro e w4 ⟨p, rfl, HP⟩
        have HB4 : Hid (Below w.heap.size w w4) := HB3.out.trans (HP.out.2.2.mono HB3.out.size)
        have HR4 : Hid (Blk w4 w.heap.size 0) := HR3.out.below HP.out.2.2 HR3.out.lt
        have HQ : Hid (Up w w4 p c) := ⟨Nat.le_trans HB3.out.size HP.out.1, fun e => by have h1 := HR3.out.lt; have h2 := HP.out.1; omega, HP.out.2.1⟩
        clear HP HB3 HR3
        obtain ⟨c0, c1, c2, c3⟩ := HR4.out.cells
        obtain ⟨f0, f1, f2, f3⟩ := HR4.out.thaw
        have hl4 : w.heap.size < w4.heap.size := HR4.out.lt
        obtain ⟨r0, r1, r2, r3⟩ := HR4.out.zeroA (.cells #[.int .u64 0, .int .u64 0, .int .u64 0, .int .u64 0] 27)
        unfold z4 at r0 r1 r2 r3
        unfold flv
        go_wp2_with fail
        (try simp only [Exit.inBlock, Exit.then])
        refine bodyPost_ret (v := .tuple #[.agg #[.int .u64 0, .int .u64 0, .int .u64 0, .int .u64 0], .int .i64 0, .iface 98 (.pointer (some ⟨p, 0, none⟩))]) (by simp [results, Tryz.results97, go_sem, r0, r1, r2, r3]) rfl ?_
        rw [HRe.out]
        exact ⟨p, by rw [cv0]; rfl, bad_endA HB4.out (Nat.le_refl _) HQ.out.2.2 HQ.out.1 HQ.out.2.1 _⟩
      | inr q =>
        obtain ⟨X, M⟩ := q
        have hok := mbr_ok hm
        have hkM : k < M := hok.2.1
        have hMs : M ≤ S.size := hok.2.2
        have HM2 : Hid (mm S M (acc ||| X) = R) := by show _ = _; rw [← HM.out, mm_on h93 hm]
        have HA2 : Hid (acc ||| X < 2 ^ 256) := Nat.or_lt_two_pow HA.out hok.1
        have HTm : Hid (∀ w : World, Calls Tryz.prog 118 #[.string S, .int .i64 (k : Int)] w fun e w' => e = .returned (.tuple #[cv X, .int .i64 (M : Int), .nilIface]) ∧ Below w.heap.size w w') := fun w => tmember_ok S k X M w hm hS
        clear h93 HM hm hok HA
        go_wp2_with fail
        refine (HE.out _).mono ?_
        rintro e w3 ⟨rfl, hb3⟩
        have HB3 : Hid (Below w.heap.size w w3) := HB.out.trans (hb3.mono HB.out.size)
        have HR3 : Hid (Blk w3 w.heap.size 0) := HRb.out.below hb3 HRb.out.lt
        have HO3 : Hid (Blk w3 w2.heap.size acc) := HO.out.below hb3 HO.out.lt
        clear hb3 HB HRb HO
        go_wp2_with fail
        refine (HTm.out _).mono ?_
        rintro e w4 ⟨rfl, hb4⟩
        have HB4 : Hid (Below w.heap.size w w4) := HB3.out.trans (hb4.mono HB3.out.size)
        have HR4 : Hid (Blk w4 w.heap.size 0) := HR3.out.below hb4 HR3.out.lt
        have HO4 : Hid (Blk w4 w2.heap.size acc) := HO3.out.below hb4 HO3.out.lt
        clear hb4 HB3 HR3 HO3
        obtain ⟨c0, c1, c2, c3⟩ := HO4.out.cells
        have hl4 : w2.heap.size < w4.heap.size := HO4.out.lt
        dsimp only [cv]
        go_wp2_with fail
        refine (either_any _ _ _).mono ?_
        rintro e w5 ⟨rfl, hb5⟩
        have hb5' : Below w4.heap.size w4 w5 := ((Below.refl _ _).alloc (Nat.le_refl _) _).trans (hb5.mono (by simp))
        have HB5 : Hid (Below w.heap.size w w5) := HB4.out.trans (hb5'.mono HB4.out.size)
        have HR5 : Hid (Blk w5 w.heap.size 0) := HR4.out.below hb5' HR4.out.lt
        have HO5 : Hid (Blk w5 w2.heap.size acc) := HO4.out.below hb5' HO4.out.lt
        clear hb5 hb5' HB4 HR4 HO4 c0 c1 c2 c3
        obtain ⟨c0, c1, c2, c3⟩ := HO5.out.cells
        obtain ⟨f0, f1, f2, f3⟩ := HO5.out.thaw
        dsimp only [cv]
        go_wp2_with fail
        go_roundw
        case rel => exact ⟨M, acc ||| X, rfl, hMs, HM2, HA2, hid (Below.st4 HB5.out (by omega) (acc ||| X)), hid (HR5.out.other (by omega)), hid (HO5.out.st4 _)⟩
        case measure => simp [intOf]; omega
set_option maxRecDepth 100000 in
set_option maxHeartbeats 4000000 in
theorem parse_neg (S : ByteArray) (w : World) (h0 : bt S 0 = some 91) (h1 :  bt S 1 = some 94) (hS : S.size ≤ 9007199254740992) :
    Calls Tryz.prog 97 #[.string S] w fun e w' => Ans (ng (mm S 2 0)) w e w' := by
  have H1 : Hid (∀ w : World, Calls Tryz.prog 116 #[.string S, .int .i64 0, .int .u8 91] w fun e w' => e = .returned (.bool true) ∧ Below w.heap.size w w') := fun w => begins_yes S 0 91 w h0 hS
  have H2 : Hid (∀ w : World, Calls Tryz.prog 116 #[.string S, .int .i64 1, .int .u8 94] w fun e w' => e = .returned (.bool true) ∧ Below w.heap.size w w') := fun w => begins_yes S 1 94 w h1 hS
  have hk0 : 2 ≤ S.size := (bt_lt h1).1
  obtain ⟨R, hR⟩ : ∃ R, R = mm S 2 0 := ⟨_, rfl⟩
  rw [← hR]
  have HR : Hid (mm S 2 0 = R) := hR.symm
  clear h0 h1 hR
  go_enter Tryz.func97, Tryz.ntmps97
  go_wp2_with fail
  refine (H1.out _).mono ?_
  rintro e w1 ⟨rfl, hb1⟩
  have HB1 : Hid (Below w.heap.size w w1) := ((Below.refl _ _).alloc (Nat.le_refl _) _).trans (hb1.mono (by simp))
  have HK1 : Hid (Blk w1 w.heap.size 0) := (Blk.new0 w).below hb1 (by simp)
  clear hb1
  go_wp2_with fail
  refine (H2.out _).mono ?_
  rintro e w2 ⟨rfl, hb2⟩
  have HB2 : Hid (Below w.heap.size w w2) := HB1.out.trans (hb2.mono HB1.out.size)
  have HK2 : Hid (Blk w2 w.heap.size 0) := HK1.out.below hb2 HK1.out.lt
  have hlt2 : w.heap.size < w2.heap.size := HK2.out.lt
  clear hb2 HK1 HB1
  go_wp2_with fail
  go_loopw [5] (fun a wr => ∃ (k acc : Nat), a = .int .i64 (k : Int) ∧ k ≤ S.size ∧ Hid (mm S k acc = R) ∧ Hid (acc < 2 ^ 256) ∧ Hid (Below w.heap.size w wr) ∧ Hid (Blk wr w.heap.size 0) ∧ Hid (Blk wr w2.heap.size acc)) (fun a _ => S.size - (intOf a).toNat)
  case atStart => exact ⟨2, 0, rfl, hk0, HR, hid (by decide +kernel), hid (HB2.out.alloc HB2.out.size _), hid (HK2.out.alloc _), hid (Blk.new0 w2)⟩
  case round =>
    obtain ⟨k, acc, rfl, hks, HM, HA, HB, HRb, HO⟩ := hrel
    by_cases h93 : bt S k = some 93
    · have hkk : k < S.size := (bt_lt h93).1
      have HE : Hid (∀ w : World, Calls Tryz.prog 116 #[.string S, .int .i64 (k : Int), .int .u8 93] w fun e w' => e = .returned (.bool true) ∧ Below w.heap.size w w') := fun w => begins_yes S k 93 w h93 hS
      have HRe : Hid (R = .inr (acc, k + 1)) := by show _ = _; rw [← HM.out, mm_end h93]
      have hn : ((k + 1 : Nat) : Int) = (k : Int) + 1 := by omega
      have HN : Hid (((k + 1 : Nat) : Int) = (k : Int) + 1) := hn
      clear h93 HM hn
      go_wp2_with fail
      refine (HE.out _).mono ?_
      rintro e w3 ⟨rfl, hb3⟩
      have HB3 : Hid (Below w.heap.size w w3) := HB.out.trans (hb3.mono HB.out.size)
      have HR3 : Hid (Blk w3 w.heap.size 0) := HRb.out.below hb3 HRb.out.lt
      have HO3 : Hid (Blk w3 w2.heap.size acc) := HO.out.below hb3 HO.out.lt
      clear hb3 HB HRb HO
      obtain ⟨c0, c1, c2, c3⟩ := HO3.out.cells
      go_wp2_with fail
      refine (not_any _ HA.out _).mono ?_
      rintro e w4 ⟨rfl, hb4⟩
      have HB4 : Hid (Below w.heap.size w w4) := HB3.out.trans (hb4.mono HB3.out.size)
      have HR4 : Hid (Blk w4 w.heap.size 0) := HR3.out.below hb4 HR3.out.lt
      have HO4 : Hid (Blk w4 w2.heap.size acc) := HO3.out.below hb4 HO3.out.lt
      clear hb4 HB3 HR3 HO3 c0 c1 c2 c3
      obtain ⟨c0, c1, c2, c3⟩ := HO4.out.cells
      obtain ⟨f0, f1, f2, f3⟩ := HO4.out.thaw
      have HR5 : Hid (Blk (st4 w4 w2.heap.size (cnot acc)) w.heap.size 0) := HR4.out.other (by omega)
      obtain ⟨d0, d1, d2, d3⟩ := HR5.out.cells
      obtain ⟨g0, g1, g2, g3⟩ := HR5.out.thaw
      obtain ⟨x0, x1, x2, x3⟩ := (HO4.out.st4 (cnot acc)).cells
      obtain ⟨r0, r1, r2, r3⟩ := (HR5.out.st4 (cnot acc)).cells
      have HBe : Hid (Below w.heap.size w (st4 (st4 w4 w2.heap.size (cnot acc)) w.heap.size (cnot acc))) := Below.st4 (Below.st4 HB4.out (by omega) _) (Nat.le_refl _) _
      unfold st4 at d0 d1 d2 d3 g0 g1 g2 g3 x0 x1 x2 x3 r0 r1 r2 r3
      clear HR4 HR5 HO4
      dsimp only [cv]
      go_wp2_with fail
      refine bodyPost_ret (v := .tuple #[cv (cnot acc), .int .i64 ((k : Int) + 1), .nilIface]) (by simp [results, Tryz.results97, go_sem, r0, r1, r2, r3]) rfl ?_
      rw [HRe.out]
      exact ⟨by rw [HN.out], HBe.out⟩
    · have HE : Hid (∀ w : World, Calls Tryz.prog 116 #[.string S, .int .i64 (k : Int), .int .u8 93] w fun e w' => e = .returned (.bool false) ∧ Below w.heap.size w w') := fun w => begins_no S k 93 w (by omega) h93 hS
      cases hm : mbr S k with
      | inl c =>
        have HRe : Hid (R = .inl c) := by show _ = _; rw [← HM.out, mm_bad h93 hm]
        have HTm : Hid (∀ w : World, Calls Tryz.prog 118 #[.string S, .int .i64 (k : Int)] w fun e w' => Bad (cv 0) c w e w') := fun w => tmember_bad S k c w hm hS (by omega)
        rw [cv0] at HTm
        clear h93 HM hm
        go_wp2_with fail
        refine (HE.out _).mono ?_
        rintro e w3 ⟨rfl, hb3⟩
        have HB3 : Hid (Below w.heap.size w w3) := HB.out.trans (hb3.mono HB.out.size)
        have HR3 : Hid (Blk w3 w.heap.size 0) := HRb.out.below hb3 HRb.out.lt
        clear hb3 HB HRb HO
        go_wp2_with fail
        refine (HTm.out _).mono ?_
        rintro e w4 ⟨p, rfl, HP⟩
        have HB4 : Hid (Below w.heap.size w w4) := HB3.out.trans (HP.out.2.2.mono HB3.out.size)
        have HR4 : Hid (Blk w4 w.heap.size 0) := HR3.out.below HP.out.2.2 HR3.out.lt
        have HQ : Hid (Up w w4 p c) := ⟨Nat.le_trans HB3.out.size HP.out.1, fun e => by have h1 := HR3.out.lt; have h2 := HP.out.1; omega, HP.out.2.1⟩
        clear HP HB3 HR3
        obtain ⟨c0, c1, c2, c3⟩ := HR4.out.cells
        obtain ⟨f0, f1, f2, f3⟩ := HR4.out.thaw
        have hl4 : w.heap.size < w4.heap.size := HR4.out.lt
        obtain ⟨r0, r1, r2, r3⟩ := HR4.out.zeroA (.cells #[.int .u64 0, .int .u64 0, .int .u64 0, .int .u64 0] 27)
        unfold z4 at r0 r1 r2 r3
        unfold flv
        go_wp2_with fail
        (try simp only [Exit.inBlock, Exit.then])
        refine bodyPost_ret (v := .tuple #[.agg #[.int .u64 0, .int .u64 0, .int .u64 0, .int .u64 0], .int .i64 0, .iface 98 (.pointer (some ⟨p, 0, none⟩))]) (by simp [results, Tryz.results97, go_sem, r0, r1, r2, r3]) rfl ?_
        rw [HRe.out]
        exact ⟨p, by rw [cv0]; rfl, bad_endA HB4.out (Nat.le_refl _) HQ.out.2.2 HQ.out.1 HQ.out.2.1 _⟩
      | inr q =>
        obtain ⟨X, M⟩ := q
        have hok := mbr_ok hm
        have hkM : k < M := hok.2.1
        have hMs : M ≤ S.size := hok.2.2
        have HM2 : Hid (mm S M (acc ||| X) = R) := by show _ = _; rw [← HM.out, mm_on h93 hm]
        have HA2 : Hid (acc ||| X < 2 ^ 256) := Nat.or_lt_two_pow HA.out hok.1
        have HTm : Hid (∀ w : World, Calls Tryz.prog 118 #[.string S, .int .i64 (k : Int)] w fun e w' => e = .returned (.tuple #[cv X, .int .i64 (M : Int), .nilIface]) ∧ Below w.heap.size w w') := fun w => tmember_ok S k X M w hm hS
        clear h93 HM hm hok HA
        go_wp2_with fail
        refine (HE.out _).mono ?_
        rintro e w3 ⟨rfl, hb3⟩
        have HB3 : Hid (Below w.heap.size w w3) := HB.out.trans (hb3.mono HB.out.size)
        have HR3 : Hid (Blk w3 w.heap.size 0) := HRb.out.below hb3 HRb.out.lt
        have HO3 : Hid (Blk w3 w2.heap.size acc) := HO.out.below hb3 HO.out.lt
        clear hb3 HB HRb HO
        go_wp2_with fail
        refine (HTm.out _).mono ?_
        rintro e w4 ⟨rfl, hb4⟩
        have HB4 : Hid (Below w.heap.size w w4) := HB3.out.trans (hb4.mono HB3.out.size)
        have HR4 : Hid (Blk w4 w.heap.size 0) := HR3.out.below hb4 HR3.out.lt
        have HO4 : Hid (Blk w4 w2.heap.size acc) := HO3.out.below hb4 HO3.out.lt
        clear hb4 HB3 HR3 HO3
        obtain ⟨c0, c1, c2, c3⟩ := HO4.out.cells
        have hl4 : w2.heap.size < w4.heap.size := HO4.out.lt
        dsimp only [cv]
        go_wp2_with fail
        refine (either_any _ _ _).mono ?_
        rintro e w5 ⟨rfl, hb5⟩
        have hb5' : Below w4.heap.size w4 w5 := ((Below.refl _ _).alloc (Nat.le_refl _) _).trans (hb5.mono (by simp))
        have HB5 : Hid (Below w.heap.size w w5) := HB4.out.trans (hb5'.mono HB4.out.size)
        have HR5 : Hid (Blk w5 w.heap.size 0) := HR4.out.below hb5' HR4.out.lt
        have HO5 : Hid (Blk w5 w2.heap.size acc) := HO4.out.below hb5' HO4.out.lt
        clear hb5 hb5' HB4 HR4 HO4 c0 c1 c2 c3
        obtain ⟨c0, c1, c2, c3⟩ := HO5.out.cells
        obtain ⟨f0, f1, f2, f3⟩ := HO5.out.thaw
        dsimp only [cv]
        go_wp2_with fail
        go_roundw
        case rel => exact ⟨M, acc ||| X, rfl, hMs, HM2, HA2, hid (Below.st4 HB5.out (by omega) (acc ||| X)), hid (HR5.out.other (by omega)), hid (HO5.out.st4 _)⟩
        case measure => simp [intOf]; omega
set_option maxRecDepth 100000 in
set_option maxHeartbeats 2000000 in
theorem parse_none (S : ByteArray) (w : World) (h0 : ¬ bt S 0 = some 91) (hS : S.size ≤ 9007199254740992) :
    Calls Tryz.prog 97 #[.string S] w fun e w' => Bad (cv 0) (flt S 0) w e w' := by
  have H1 : Hid (∀ w : World, Calls Tryz.prog 116 #[.string S, .int .i64 0, .int .u8 91] w fun e w' => e = .returned (.bool false) ∧ Below w.heap.size w w') := fun w => begins_no S 0 91 w (by omega) h0 hS
  obtain ⟨c, hc⟩ : ∃ c, c = flt S 0 := ⟨_, rfl⟩
  rw [← hc]
  have HF : Hid (flt S 0 = c) := hc.symm
  clear h0 hc
  rw [cv0]
  go_enter Tryz.func97, Tryz.ntmps97
  go_wp2_with fail
  refine (H1.out _).mono ?_
  rintro e w1 ⟨rfl, hb1⟩
  have HB1 : Hid (Below w.heap.size w w1) := ((Below.refl _ _).alloc (Nat.le_refl _) _).trans (hb1.mono (by simp))
  have HK1 : Hid (Blk w1 w.heap.size 0) := (Blk.new0 w).below hb1 (by simp)
  clear hb1
  go_wp2_with fail
  refine (fault_at S 0 c w1 _ HF.out hS (by omega) (Below.refl _ _)).mono ?_
  rintro e w3 ⟨p, rfl, HP⟩
  have HB3 : Hid (Below w.heap.size w w3) := HB1.out.trans (HP.out.2.2.mono HB1.out.size)
  have HK3 : Hid (Blk w3 w.heap.size 0) := HK1.out.below HP.out.2.2 HK1.out.lt
  have HQ : Hid (Up w w3 p c) := ⟨Nat.le_trans HB1.out.size HP.out.1, fun e => by have h1 := HK1.out.lt; have h2 := HP.out.1; omega, HP.out.2.1⟩
  clear HP HK1
  obtain ⟨c0, c1, c2, c3⟩ := HK3.out.cells
  obtain ⟨f0, f1, f2, f3⟩ := HK3.out.thaw
  obtain ⟨r0, r1, r2, r3⟩ := HK3.out.zero
  unfold z4 at r0 r1 r2 r3
  unfold flv
  go_wp2_with fail
  refine bodyPost_ret (v := .tuple #[.agg #[.int .u64 0, .int .u64 0, .int .u64 0, .int .u64 0], .int .i64 0, .iface 98 (.pointer (some ⟨p, 0, none⟩))]) (by simp [results, Tryz.results97, go_sem, r0, r1, r2, r3]) rfl ⟨p, rfl, bad_end HB3.out (Nat.le_refl _) HQ.out.2.2 HQ.out.1 HQ.out.2.1⟩
theorem clsP_ng (S : ByteArray) : clsP S = if bt S 0 = some 91 then (if bt S 1 = some 94 then ng (mm S 2 0) else mm S 1 0) else .inl (flt S 0) := rfl
/-- class.Parse at any text. -/
theorem parse_all (S : ByteArray) (w : World) (hS : S.size ≤ 9007199254740992) :
    Calls Tryz.prog 97 #[.string S] w fun e w' => Ans (clsP S) w e w' := by
  rw [clsP_ng]
  by_cases h0 : bt S 0 = some 91
  · rw [if_pos h0]
    by_cases h1 : bt S 1 = some 94
    · rw [if_pos h1]; exact parse_neg S w h0 h1 hS
    · rw [if_neg h1]; exact parse_pos S w h0 h1 hS
  · rw [if_neg h0]; exact parse_none S w h0 hS
theorem clsP_ok {S : ByteArray} {C n : Nat} (h : clsP S = .inr (C, n)) : C < 2 ^ 256 ∧ 0 < n ∧ n ≤ S.size := by
  rw [clsP_ng] at h
  split at h
  · split at h
    · cases hm : mm S 2 0 with
      | inl e => rw [hm] at h; cases h
      | inr q =>
        obtain ⟨D, m⟩ := q
        rw [hm] at h
        have h1 := mm_ok (by decide +kernel) hm
        simp only [ng, Sum.inr.injEq, Prod.mk.injEq] at h
        refine ⟨?_, by omega, by omega⟩
        rw [← h.1]
        unfold cnot all256
        omega
    · have h1 := mm_ok (by decide +kernel) h
      exact ⟨h1.1, by omega, h1.2.2⟩
  · cases h
end Go.Proofs.YtikfnaffiehpaaaGreatDoor
