/-
  What class.isMark, isPrintable, begins, digit and takeDigits answer where what they ask for stands. Conditions: those that each theorem names.
  What the document says of a class's text, as functions on any bytes: a sign, a member, the members up to the end, the class; or what is wrong, and where. Nothing of the program stands here.
  What class.fault, begins, digit, takeDigits, takeEscape and takeSign answer at any text. Conditions: those that each theorem names.
-/
import Derived.Test.YtggmoneicdkamaaGreatDoorVKPlainToJMem
namespace Go.Proofs.YtggmoneicdkamaaGreatDoor
open Go.RowKit
set_option linter.unusedVariables false
theorem hid {p : Prop} (h : p) : Hid p := h
def mark (b : Nat) : Bool := b == 91 || b == 93 || b == 92 || b == 45 || b == 94
def hexd (n : Nat) : Nat := if n < 10 then 48 + n else 87 + n
set_option maxRecDepth 100000 in
set_option maxHeartbeats 1000000 in
theorem mark_any (b : Nat) (w : World) (hb : b < 256) :
    Calls Tryz.prog 179 #[.int .u8 (b : Int)] w fun e w' => e = .returned (.bool (mark b)) ∧ w' = w := by
  have h : ∀ n : Nat, ((b : Int) == (n : Int)) = (b == n) := fun n => by
    by_cases e : b = n
    · subst e; simp
    · rw [beq_false_of_ne e]; simp; omega
  have h1 : ((b : Int) == 91) = (b == 91) := h 91
  have h2 : ((b : Int) == 93) = (b == 93) := h 93
  have h3 : ((b : Int) == 92) = (b == 92) := h 92
  have h4 : ((b : Int) == 45) = (b == 45) := h 45
  have h5 : ((b : Int) == 94) = (b == 94) := h 94
  clear h
  unfold mark
  cases k1 : b == 91 <;> rw [k1] at h1 <;> cases k2 : b == 93 <;> rw [k2] at h2 <;> cases k3 : b == 92 <;> rw [k3] at h3 <;> cases k4 : b == 45 <;> rw [k4] at h4 <;> cases k5 : b == 94 <;> rw [k5] at h5
  all_goals
    go_enter Tryz.func179, Tryz.ntmps179
    go_wp2_with fail
    go_ret
    exact ⟨rfl, rfl⟩
set_option maxRecDepth 100000 in
set_option maxHeartbeats 1000000 in
theorem print_any (b : Nat) (w : World) (hb : b < 256) :
    Calls Tryz.prog 180 #[.int .u8 (b : Int)] w fun e w' => e = .returned (.bool (decide (32 ≤ b) && decide (b ≤ 126))) ∧ w' = w := by
  by_cases h1 : 32 ≤ b
  · have a1 : decide (32 ≤ (b : Int)) = true := by simp; omega
    by_cases h2 : b ≤ 126
    · have a2 : decide ((b : Int) ≤ 126) = true := by simp; omega
      rw [decide_eq_true h1, decide_eq_true h2]
      clear h1 h2
      go_enter Tryz.func180, Tryz.ntmps180
      go_wp2_with fail
      go_ret
      exact ⟨rfl, rfl⟩
    · have a2 : decide ((b : Int) ≤ 126) = false := by simp; omega
      rw [decide_eq_true h1, decide_eq_false h2]
      clear h1 h2
      go_enter Tryz.func180, Tryz.ntmps180
      go_wp2_with fail
      go_ret
      exact ⟨rfl, rfl⟩
  · have a1 : decide (32 ≤ (b : Int)) = false := by simp; omega
    rw [decide_eq_false h1]
    clear h1
    go_enter Tryz.func180, Tryz.ntmps180
    go_wp2_with fail
    go_ret
    exact ⟨rfl, rfl⟩
/-- In the text S there stands the byte x at k. -/
def At (S : ByteArray) (k x : Nat) : Prop := ∃ h : k < S.size, (S[k]).toNat = x
theorem At.lt {S : ByteArray} {k x : Nat} (h : At S k x) : k < S.size := h.1
theorem At.u8 {S : ByteArray} {k x : Nat} (h : At S k x) : x < 256 := by
  obtain ⟨h1, rfl⟩ := h
  exact (S[k]).toNat_lt
theorem beqN (x b : Nat) : ((x : Int) == (b : Int)) = (x == b) := by
  by_cases e : x = b
  · subst e; simp
  · rw [beq_false_of_ne e]; simp; omega
set_option maxRecDepth 100000 in
set_option maxHeartbeats 1000000 in
theorem begins_at (S : ByteArray) (k x b : Nat) (v : Bool) (w : World) (hb : b < 256) (h : At S k x) (hv : (x == b) = v) (hS : S.size ≤ 9007199254740992) :
    Calls Tryz.prog 146 #[.string S, .int .i64 (k : Int), .int .u8 (b : Int)] w fun e w' => e = .returned (.bool v) ∧ Below w.heap.size w w' := by
  obtain ⟨hk, hx⟩ := h
  have hkI : (k : Int) < (S.size : Int) := by omega
  have hq := beqN x b
  rw [hv] at hq
  go_enter Tryz.func146, Tryz.ntmps146
  go_wp2_with fail
  go_ret
  exact ⟨rfl, Below.refl _ _⟩
theorem or_dig : ∀ q : Nat, q < 16 → ∀ r : Nat, r < 16 → bits BinOp.or IntKind.u8 ((q : Int) * 16) (r : Int) = ((16 * q + r : Nat) : Int) := by decide +kernel
set_option maxRecDepth 100000 in
set_option maxHeartbeats 1000000 in
theorem digit_at (S : ByteArray) (k d : Nat) (w : World) (hd : d < 16) (h : At S k (hexd d)) (hS : S.size ≤ 9007199254740992) :
    Calls Tryz.prog 197 #[.string S, .int .i64 (k : Int)] w fun e w' => e = .returned (.tuple #[.int .u8 (d : Int), .bool true]) ∧ Below w.heap.size w w' := by
  obtain ⟨x, hxd⟩ : ∃ x, x = hexd d := ⟨_, rfl⟩
  rw [← hxd] at h
  obtain ⟨hk, hx⟩ := h
  have hkI : (k : Int) < (S.size : Int) := by omega
  have a0 : decide ((S.size : Int) ≤ (k : Int)) = false := by simp; omega
  by_cases h10 : d < 10
  · have hx2 : x = 48 + d := by rw [hxd, hexd, if_pos h10]
    have a1 : decide (48 ≤ (x : Int)) = true := by simp; omega
    have a2 : decide ((x : Int) ≤ 57) = true := by simp; omega
    have a3 : IntKind.u8.wrap ((x : Int) - 48) = (d : Int) := by rw [IntKind.wrap_u8]; omega
    clear hxd hx2
    go_enter Tryz.func197, Tryz.ntmps197
    go_wp2_with fail
    go_ret2
    exact ⟨rfl, Below.refl _ _⟩
  · have hx2 : x = 87 + d := by rw [hxd, hexd, if_neg h10]
    have a1 : decide (48 ≤ (x : Int)) = true := by simp; omega
    have a2 : decide ((x : Int) ≤ 57) = false := by simp; omega
    have a4 : decide (97 ≤ (x : Int)) = true := by simp; omega
    have a5 : decide ((x : Int) ≤ 102) = true := by simp; omega
    have a3 : IntKind.u8.wrap ((x : Int) - 97) = ((d - 10 : Nat) : Int) := by rw [IntKind.wrap_u8]; omega
    have a6 : IntKind.u8.wrap (((d - 10 : Nat) : Int) + 10) = (d : Int) := by rw [IntKind.wrap_u8]; omega
    clear hxd hx2
    go_enter Tryz.func197, Tryz.ntmps197
    go_wp2_with fail
    go_ret2
    exact ⟨rfl, Below.refl _ _⟩
set_option maxRecDepth 100000 in
set_option maxHeartbeats 1000000 in
theorem digits_at (S : ByteArray) (k q r c : Nat) (w : World) (hc : 16 * q + r = c) (hq : q < 16) (hr : r < 16) (h : At S k (hexd q)) (h2 : At S (k + 1) (hexd r)) (hS : S.size ≤ 9007199254740992) :
    Calls Tryz.prog 190 #[.string S, .int .i64 (k : Int)] w fun e w' => e = .returned (.tuple #[.int .u8 (c : Int), .int .i64 ((k : Int) + 2), .nilIface]) ∧ Below w.heap.size w w' := by
  have H1 : Hid (∀ w : World, Calls Tryz.prog 197 #[.string S, .int .i64 (k : Int)] w fun e w' => e = .returned (.tuple #[.int .u8 (q : Int), .bool true]) ∧ Below w.heap.size w w') := fun w => digit_at S k q w hq h hS
  have H2 : Hid (∀ w : World, Calls Tryz.prog 197 #[.string S, .int .i64 ((k : Int) + 1)] w fun e w' => e = .returned (.tuple #[.int .u8 (r : Int), .bool true]) ∧ Below w.heap.size w w') := fun w => by
    have h := digit_at S (k + 1) r w hr h2 hS
    rw [show ((k + 1 : Nat) : Int) = (k : Int) + 1 by omega] at h
    exact h
  have hk := h.lt
  have ho := or_dig q hq r hr
  rw [hc] at ho
  clear hc
  have hks : (k : Int) + 2 ≤ 9007199254740994 := by omega
  clear h h2
  go_enter Tryz.func190, Tryz.ntmps190
  go_wp2_with fail
  refine (H1.out _).mono ?_
  rintro e w1 ⟨rfl, hb1⟩
  have HB1 : Hid (Below w.heap.size w w1) := hb1
  clear hb1
  go_wp2_with fail
  refine (H2.out _).mono ?_
  rintro e w2 ⟨rfl, hb2⟩
  have HB2 : Hid (Below w.heap.size w w2) := HB1.out.trans (hb2.mono HB1.out.size)
  clear hb2
  go_wp2_with fail
  go_ret3
  exact ⟨rfl, HB2.out⟩
end Go.Proofs.YtggmoneicdkamaaGreatDoor
namespace Go.Proofs.YtggmoneicdkamaaGreatDoor
open Go.RowKit
set_option linter.unusedVariables false
/-- The byte at k. -/
def bt (S : ByteArray) (k : Nat) : Option Nat := if h : k < S.size then some (S[k]).toNat else none
theorem bt_at {S : ByteArray} {k x : Nat} (h : bt S k = some x) : At S k x := by
  unfold bt at h
  split at h
  · rename_i hk; exact ⟨hk, by simpa using h⟩
  · cases h
theorem bt_of {S : ByteArray} {k x : Nat} (h : At S k x) : bt S k = some x := by
  obtain ⟨hk, hx⟩ := h
  unfold bt
  rw [dif_pos hk, hx]
theorem bt_none {S : ByteArray} {k : Nat} (h : bt S k = none) : S.size ≤ k := by
  unfold bt at h
  split at h
  · cases h
  · omega
theorem bt_ge {S : ByteArray} {k : Nat} (h : S.size ≤ k) : bt S k = none := by
  unfold bt
  rw [dif_neg (by omega)]
theorem bt_lt {S : ByteArray} {k x : Nat} (h : bt S k = some x) : k < S.size ∧ x < 256 := ⟨(bt_at h).lt, (bt_at h).u8⟩
/-- What is wrong at k: the end, or the byte. -/
def flt (S : ByteArray) (k : Nat) : Nat × Nat := if S.size ≤ k then (3, S.size) else (4, k)
def dgv (x : Nat) : Option Nat := if 48 ≤ x ∧ x ≤ 57 then some (x - 48) else if 97 ≤ x ∧ x ≤ 102 then some (x - 87) else none
theorem dgv_lt {x d : Nat} (h : dgv x = some d) : d < 16 ∧ x = hexd d := by
  unfold dgv at h
  unfold hexd
  split at h
  · simp at h; subst h; refine ⟨by omega, ?_⟩; rw [if_pos (by omega)]; omega
  · split at h
    · simp at h; subst h; refine ⟨by omega, ?_⟩; rw [if_neg (by omega)]; omega
    · cases h
def dg (S : ByteArray) (k : Nat) : Option Nat := (bt S k).bind dgv
abbrev Rs := (Nat × Nat) ⊕ (Nat × Nat)
def digs (S : ByteArray) (k : Nat) : Rs :=
  match dg S k with
  | none => .inl (flt S k)
  | some q => match dg S (k + 1) with
    | none => .inl (flt S (k + 1))
    | some r => .inr (16 * q + r, k + 2)
def escv (x : Nat) : Option Nat := if x = 110 then some 10 else if x = 114 then some 13 else if x = 116 then some 9 else if mark x then some x else none
def esc (S : ByteArray) (k : Nat) : Rs :=
  match bt S k with
  | none => .inl (flt S k)
  | some x => match escv x with
    | some b => .inr (b, k + 1)
    | none => if x = 120 then digs S (k + 1) else .inl (flt S k)
def plain (x : Nat) : Bool := !mark x && (decide (32 ≤ x) && decide (x ≤ 126))
def sg (S : ByteArray) (k : Nat) : Rs :=
  match bt S k with
  | none => .inl (flt S k)
  | some x => if x = 92 then esc S (k + 1) else if plain x = true then .inr (x, k + 1) else .inl (flt S k)
def mbr (S : ByteArray) (k : Nat) : Rs :=
  match sg S k with
  | .inl e => .inl e
  | .inr (lo, n) =>
    if bt S n = some 45 then
      match sg S (n + 1) with
      | .inl e => .inl e
      | .inr (hi, m) => if hi < lo then .inl (flt S k) else .inr (seg lo (hi + 1), m)
    else .inr (seg lo (lo + 1), n)
def mems (S : ByteArray) : Nat → Nat → Nat → Rs
  | 0, k, _ => .inl (flt S k)
  | f + 1, k, acc =>
    if bt S k = some 93 then .inr (acc, k + 1) else
    match mbr S k with
    | .inl e => .inl e
    | .inr (X, n) => mems S f n (acc ||| X)
def mm (S : ByteArray) (k acc : Nat) : Rs := mems S (S.size + 1 - k) k acc
def clsP (S : ByteArray) : Rs :=
  if bt S 0 = some 91 then
    if bt S 1 = some 94 then
      match mm S 2 0 with
      | .inl e => .inl e
      | .inr (C, n) => .inr (cnot C, n)
    else mm S 1 0
  else .inl (flt S 0)
theorem digs_ok {S : ByteArray} {k b n : Nat} (h : digs S k = .inr (b, n)) : ∃ q r, dg S k = some q ∧ dg S (k + 1) = some r ∧ b = 16 * q + r ∧ n = k + 2 := by
  unfold digs at h
  split at h
  · cases h
  · rename_i q hq
    split at h
    · cases h
    · rename_i r hr
      simp at h
      exact ⟨q, r, hq, hr, h.1.symm, h.2.symm⟩
theorem dg_some {S : ByteArray} {k d : Nat} (h : dg S k = some d) : d < 16 ∧ At S k (hexd d) := by
  unfold dg at h
  cases hb : bt S k with
  | none => rw [hb] at h; cases h
  | some x =>
    rw [hb] at h
    obtain ⟨h1, h2⟩ := dgv_lt (show dgv x = some d from h)
    exact ⟨h1, h2 ▸ bt_at hb⟩
theorem escv_lt {x b : Nat} (h : escv x = some b) (hx : x < 256) : b < 256 := by
  unfold escv at h
  repeat (split at h; (simp at h; omega))
  cases h
theorem esc_ok {S : ByteArray} {k b n : Nat} (h : esc S k = .inr (b, n)) : b < 256 ∧ k < n ∧ n ≤ S.size := by
  unfold esc at h
  split at h
  · cases h
  · rename_i x hx
    have h1 := bt_lt hx
    split at h
    · rename_i b' hb'
      simp at h
      have := escv_lt hb' h1.2
      omega
    · split at h
      · obtain ⟨q, r, hq, hr, rfl, rfl⟩ := digs_ok h
        have a1 := dg_some hq
        have a2 := dg_some hr
        have := a2.2.lt
        omega
      · cases h
theorem sg_ok {S : ByteArray} {k b n : Nat} (h : sg S k = .inr (b, n)) : b < 256 ∧ k < n ∧ n ≤ S.size := by
  unfold sg at h
  split at h
  · cases h
  · rename_i x hx
    have h1 := bt_lt hx
    split at h
    · have := esc_ok h; omega
    · split at h
      · simp at h; omega
      · cases h
theorem mbr_ok {S : ByteArray} {k X n : Nat} (h : mbr S k = .inr (X, n)) : X < 2 ^ 256 ∧ k < n ∧ n ≤ S.size := by
  unfold mbr at h
  split at h
  · cases h
  · rename_i lo m hs
    have h1 := sg_ok hs
    split at h
    · split at h
      · cases h
      · rename_i hi m2 hs2
        have h2 := sg_ok hs2
        split at h
        · cases h
        · simp at h
          exact ⟨h.1 ▸ seg_lt _ _ (by omega), by omega, by omega⟩
    · simp at h
      exact ⟨h.1 ▸ seg_lt _ _ (by omega), by omega, by omega⟩
theorem mems_fuel (S : ByteArray) : ∀ (f g k acc : Nat), S.size + 1 - k ≤ f → S.size + 1 - k ≤ g → mems S f k acc = mems S g k acc
  | 0, 0, _, _, _, _ => rfl
  | 0, g + 1, k, acc, hf, _ => by
    have hb := bt_ge (S := S) (k := k) (by omega)
    have hm : mbr S k = .inl (flt S k) := by unfold mbr sg; rw [hb]
    rw [mems, mems, hb, hm]; simp
  | f + 1, 0, k, acc, _, hg => by
    have hb := bt_ge (S := S) (k := k) (by omega)
    have hm : mbr S k = .inl (flt S k) := by unfold mbr sg; rw [hb]
    rw [mems, mems, hb, hm]; simp
  | f + 1, g + 1, k, acc, hf, hg => by
    rw [mems, mems]
    split
    · rfl
    · cases hm : mbr S k with
      | inl e => rfl
      | inr p =>
        obtain ⟨X, n⟩ := p
        have := mbr_ok hm
        exact mems_fuel S f g n _ (by omega) (by omega)
theorem mm_eq (S : ByteArray) (k acc : Nat) : mm S k acc = (if bt S k = some 93 then .inr (acc, k + 1) else
    match mbr S k with
    | .inl e => .inl e
    | .inr (X, n) => mm S n (acc ||| X)) := by
  unfold mm
  rw [mems_fuel S (S.size + 1 - k) (S.size + 1 - k + 1) k acc (by omega) (by omega), mems]
  split
  · rfl
  · cases hm : mbr S k with
    | inl e => rfl
    | inr p =>
      obtain ⟨X, n⟩ := p
      have := mbr_ok hm
      exact mems_fuel S _ _ n _ (by omega) (by omega)
theorem mm_end {S : ByteArray} {k acc : Nat} (h : bt S k = some 93) : mm S k acc = .inr (acc, k + 1) := by rw [mm_eq, if_pos h]
theorem mm_bad {S : ByteArray} {k acc : Nat} {e : Nat × Nat} (h : ¬ bt S k = some 93) (hm : mbr S k = .inl e) : mm S k acc = .inl e := by rw [mm_eq, if_neg h, hm]
theorem mm_on {S : ByteArray} {k acc X n : Nat} (h : ¬ bt S k = some 93) (hm : mbr S k = .inr (X, n)) : mm S k acc = mm S n (acc ||| X) := by rw [mm_eq, if_neg h, hm]
theorem mems_ok (S : ByteArray) : ∀ (f k acc C n : Nat), acc < 2 ^ 256 → mems S f k acc = .inr (C, n) → C < 2 ^ 256 ∧ k < n ∧ n ≤ S.size
  | 0, k, acc, C, n, _, h => by cases h
  | f + 1, k, acc, C, n, ha, h => by
    rw [mems] at h
    split at h
    · rename_i hb
      have := (bt_lt hb).1
      simp at h
      omega
    · cases hm : mbr S k with
      | inl e => rw [hm] at h; cases h
      | inr p =>
        obtain ⟨X, m⟩ := p
        rw [hm] at h
        have h1 := mbr_ok hm
        have h2 := mems_ok S f m _ C n (Nat.or_lt_two_pow ha h1.1) h
        omega
theorem mm_ok {S : ByteArray} {k acc C n : Nat} (ha : acc < 2 ^ 256) (h : mm S k acc = .inr (C, n)) : C < 2 ^ 256 ∧ k < n ∧ n ≤ S.size := mems_ok S _ k acc C n ha h
end Go.Proofs.YtggmoneicdkamaaGreatDoor
namespace Go.Proofs.YtggmoneicdkamaaGreatDoor
open Go.RowKit
set_option linter.unusedVariables false
/-- An error: the Fault in block p. -/
def flv (p : Nat) : Value := .iface 77 (.pointer (some ⟨p, 0, none⟩))
/-- Block p holds a Fault: its number, its place. -/
def Flt (w : World) (p : Nat) (c : Nat × Nat) : Prop := w.heap[p]? = some (.cells #[.int .i64 (c.1 : Int), .int .i64 (c.2 : Int)] 80)
theorem Flt.lt {w : World} {p : Nat} {c : Nat × Nat} (h : Flt w p c) : p < w.heap.size := by
  unfold Flt at h
  rcases Nat.lt_or_ge p w.heap.size with h2 | h2
  · exact h2
  · rw [Array.getElem?_eq_none h2] at h; cases h
theorem Flt.alloc {w : World} {p : Nat} {c : Nat × Nat} (h : Flt w p c) (o : Obj) : Flt (w.alloc o) p c := (Below.heap_alloc w o p h.lt).trans h
theorem Flt.new (w : World) (c : Nat × Nat) : Flt (w.alloc (.cells #[.int .i64 (c.1 : Int), .int .i64 (c.2 : Int)] 80)) w.heap.size c := by
  show (w.heap.push _)[w.heap.size]? = _
  simp
/-- A call that ends in a Fault: three answers, the first one zero. -/
def Bad (z : Value) (c : Nat × Nat) (w : World) (e : Ending) (w' : World) : Prop := ∃ p, e = .returned (.tuple #[z, .int .i64 0, flv p]) ∧ Hid (w.heap.size ≤ p ∧ Flt w' p c ∧ Below w.heap.size w w')
set_option maxRecDepth 100000 in
set_option maxHeartbeats 1000000 in
theorem fault_any (S : ByteArray) (k : Nat) (w : World) (hS : S.size ≤ 9007199254740992) (hk : k ≤ 9007199254740999) :
    Calls Tryz.prog 147 #[.string S, .int .i64 (k : Int)] w fun e w' => e = .returned (flv w.heap.size) ∧ Flt w' w.heap.size (flt S k) ∧ Below w.heap.size w w' := by
  by_cases h : S.size ≤ k
  · have a0 : decide ((S.size : Int) ≤ (k : Int)) = true := by simp; omega
    have HF : Hid (flt S k = (3, S.size)) := by show _ = _; unfold flt; rw [if_pos h]
    go_enter Tryz.func147, Tryz.ntmps147
    go_wp2_with fail
    go_ret
    rw [HF.out]
    exact ⟨rfl, Flt.new w (3, S.size), (Below.refl _ _).alloc (Nat.le_refl _) _⟩
  · have a0 : decide ((S.size : Int) ≤ (k : Int)) = false := by simp; omega
    have HF : Hid (flt S k = (4, k)) := by show _ = _; unfold flt; rw [if_neg h]
    go_enter Tryz.func147, Tryz.ntmps147
    go_wp2_with fail
    go_ret
    rw [HF.out]
    exact ⟨rfl, Flt.new w (4, k), (Below.refl _ _).alloc (Nat.le_refl _) _⟩
set_option maxRecDepth 100000 in
set_option maxHeartbeats 1000000 in
theorem begins_end (S : ByteArray) (k b : Nat) (w : World) (h : S.size ≤ k) (hS : S.size ≤ 9007199254740992) :
    Calls Tryz.prog 146 #[.string S, .int .i64 (k : Int), .int .u8 (b : Int)] w fun e w' => e = .returned (.bool false) ∧ Below w.heap.size w w' := by
  have a0 : decide ((k : Int) < (S.size : Int)) = false := by simp; omega
  go_enter Tryz.func146, Tryz.ntmps146
  go_wp2_with fail
  go_ret
  exact ⟨rfl, Below.refl _ _⟩
theorem begins_yes (S : ByteArray) (k b : Nat) (w : World) (h : bt S k = some b) (hS : S.size ≤ 9007199254740992) :
    Calls Tryz.prog 146 #[.string S, .int .i64 (k : Int), .int .u8 (b : Int)] w fun e w' => e = .returned (.bool true) ∧ Below w.heap.size w w' :=
  begins_at S k b b true w (bt_lt h).2 (bt_at h) (by simp) hS
theorem begins_no (S : ByteArray) (k b : Nat) (w : World) (hb : b < 256) (h : ¬ bt S k = some b) (hS : S.size ≤ 9007199254740992) :
    Calls Tryz.prog 146 #[.string S, .int .i64 (k : Int), .int .u8 (b : Int)] w fun e w' => e = .returned (.bool false) ∧ Below w.heap.size w w' := by
  cases hx : bt S k with
  | none => exact begins_end S k b w (bt_none hx) hS
  | some x => exact begins_at S k x b false w hb (bt_at hx) (beq_false_of_ne (fun e => h (by rw [hx, e]))) hS
set_option maxRecDepth 100000 in
set_option maxHeartbeats 1000000 in
theorem digit_no (S : ByteArray) (k : Nat) (w : World) (h : dg S k = none) (hS : S.size ≤ 9007199254740992) :
    Calls Tryz.prog 197 #[.string S, .int .i64 (k : Int)] w fun e w' => e = .returned (.tuple #[.int .u8 0, .bool false]) ∧ Below w.heap.size w w' := by
  cases hx : bt S k with
  | none =>
    have := bt_none hx
    have a0 : decide ((S.size : Int) ≤ (k : Int)) = true := by simp; omega
    clear h hx
    go_enter Tryz.func197, Tryz.ntmps197
    go_wp2_with fail
    go_ret2
    exact ⟨rfl, Below.refl _ _⟩
  | some x =>
    have hd : dgv x = none := by unfold dg at h; rw [hx] at h; exact h
    obtain ⟨hk, hxx⟩ := bt_at hx
    have hkI : (k : Int) < (S.size : Int) := by omega
    have a0 : decide ((S.size : Int) ≤ (k : Int)) = false := by simp; omega
    have hc : x < 48 ∨ (57 < x ∧ x < 97) ∨ 102 < x := by
      unfold dgv at hd
      split at hd
      · cases hd
      · split at hd
        · cases hd
        · omega
    clear h hx hd
    rcases hc with h1 | h1 | h1
    · have a1 : decide (48 ≤ (x : Int)) = false := by simp; omega
      have a2 : decide (97 ≤ (x : Int)) = false := by simp; omega
      clear h1
      go_enter Tryz.func197, Tryz.ntmps197
      go_wp2_with fail
      go_ret2
      exact ⟨rfl, Below.refl _ _⟩
    · have a1 : decide (48 ≤ (x : Int)) = true := by simp; omega
      have a3 : decide ((x : Int) ≤ 57) = false := by simp; omega
      have a2 : decide (97 ≤ (x : Int)) = false := by simp; omega
      clear h1
      go_enter Tryz.func197, Tryz.ntmps197
      go_wp2_with fail
      go_ret2
      exact ⟨rfl, Below.refl _ _⟩
    · have a1 : decide (48 ≤ (x : Int)) = true := by simp; omega
      have a3 : decide ((x : Int) ≤ 57) = false := by simp; omega
      have a2 : decide (97 ≤ (x : Int)) = true := by simp; omega
      have a4 : decide ((x : Int) ≤ 102) = false := by simp; omega
      clear h1
      go_enter Tryz.func197, Tryz.ntmps197
      go_wp2_with fail
      go_ret2
      exact ⟨rfl, Below.refl _ _⟩
theorem fault_at (S : ByteArray) (k : Nat) (c : Nat × Nat) (w0 w : World) (h : flt S k = c) (hS : S.size ≤ 9007199254740992) (hk : k ≤ 9007199254740999) (hb : Below w0.heap.size w0 w) :
    Calls Tryz.prog 147 #[.string S, .int .i64 (k : Int)] w fun e w' => ∃ p, e = .returned (flv p) ∧ Hid (w0.heap.size ≤ p ∧ Flt w' p c ∧ Below w0.heap.size w0 w') :=
  (fault_any S k w hS hk).mono fun e w' ⟨h1, h2, h3⟩ => ⟨_, h1, hb.size, h ▸ h2, hb.trans (h3.mono hb.size)⟩
set_option maxRecDepth 100000 in
set_option maxHeartbeats 1000000 in
theorem digits_bad (S : ByteArray) (k : Nat) (c : Nat × Nat) (w : World) (h : digs S k = .inl c) (hS : S.size ≤ 9007199254740992) (hk : k ≤ 9007199254740998) :
    Calls Tryz.prog 190 #[.string S, .int .i64 (k : Int)] w fun e w' => Bad (.int .u8 0) c w e w' := by
  unfold digs at h
  cases hq : dg S k with
  | none =>
    rw [hq] at h
    simp at h
    have H1 : Hid (∀ w : World, Calls Tryz.prog 197 #[.string S, .int .i64 (k : Int)] w fun e w' => e = .returned (.tuple #[.int .u8 0, .bool false]) ∧ Below w.heap.size w w') := fun w => digit_no S k w hq hS
    have HF : Hid (flt S k = c) := h
    clear h hq
    go_enter Tryz.func190, Tryz.ntmps190
    go_wp2_with fail
    refine (H1.out _).mono ?_
    rintro e w1 ⟨rfl, hb1⟩
    have HB1 : Hid (Below w.heap.size w w1) := hb1
    clear hb1
    go_wp2_with fail
    refine (fault_at S k c w _ HF.out hS (by omega) HB1.out).mono ?_
    rintro e w2 ⟨p, rfl, HP⟩
    unfold flv
    go_wp2_with fail
    go_ret3
    exact ⟨p, rfl, HP⟩
  | some q =>
    rw [hq] at h
    simp only at h
    obtain ⟨hq1, hq2⟩ := dg_some hq
    cases hr : dg S (k + 1) with
    | some r => rw [hr] at h; cases h
    | none =>
      rw [hr] at h
      simp at h
      have H1 : Hid (∀ w : World, Calls Tryz.prog 197 #[.string S, .int .i64 (k : Int)] w fun e w' => e = .returned (.tuple #[.int .u8 (q : Int), .bool true]) ∧ Below w.heap.size w w') := fun w => digit_at S k q w hq1 hq2 hS
      have H2 : Hid (∀ w : World, Calls Tryz.prog 197 #[.string S, .int .i64 ((k : Int) + 1)] w fun e w' => e = .returned (.tuple #[.int .u8 0, .bool false]) ∧ Below w.heap.size w w') := fun w => by
        have h := digit_no S (k + 1) w hr hS
        rw [show ((k + 1 : Nat) : Int) = (k : Int) + 1 by omega] at h
        exact h
      have H3 : Hid (∀ w' : World, Below w.heap.size w w' → Calls Tryz.prog 147 #[.string S, .int .i64 ((k : Int) + 1)] w' fun e w' => ∃ p, e = .returned (flv p) ∧ Hid (w.heap.size ≤ p ∧ Flt w' p c ∧ Below w.heap.size w w')) := fun w' hb => by
        have h := fault_at S (k + 1) c w w' h hS (by omega) hb
        rw [show ((k + 1 : Nat) : Int) = (k : Int) + 1 by omega] at h
        exact h
      have hkk := hq2.lt
      have hki : (k : Int) + 1 ≤ 9007199254740994 := by omega
      clear h hr hq hq2
      go_enter Tryz.func190, Tryz.ntmps190
      go_wp2_with fail
      refine (H1.out _).mono ?_
      rintro e w1 ⟨rfl, hb1⟩
      have HB1 : Hid (Below w.heap.size w w1) := hb1
      clear hb1
      go_wp2_with fail
      refine (H2.out _).mono ?_
      rintro e w2 ⟨rfl, hb2⟩
      have HB2 : Hid (Below w.heap.size w w2) := HB1.out.trans (hb2.mono HB1.out.size)
      clear hb2
      go_wp2_with fail
      refine (H3.out _ HB2.out).mono ?_
      rintro e w3 ⟨p, rfl, HP⟩
      unfold flv
      go_wp2_with fail
      go_ret3
      exact ⟨p, rfl, HP⟩
theorem digits_ok (S : ByteArray) (k b n : Nat) (w : World) (h : digs S k = .inr (b, n)) (hS : S.size ≤ 9007199254740992) :
    Calls Tryz.prog 190 #[.string S, .int .i64 (k : Int)] w fun e w' => e = .returned (.tuple #[.int .u8 (b : Int), .int .i64 (n : Int), .nilIface]) ∧ Below w.heap.size w w' := by
  obtain ⟨q, r, hq, hr, hb, hn⟩ := digs_ok h
  have h2 := digits_at S k q r b w hb.symm (dg_some hq).1 (dg_some hr).1 (dg_some hq).2 (dg_some hr).2 hS
  rw [show (k : Int) + 2 = (n : Int) by omega] at h2
  exact h2
end Go.Proofs.YtggmoneicdkamaaGreatDoor
