/-
  What class.fault, begins, digit, takeDigits, takeEscape and takeSign answer at any text. Conditions: those that each theorem names.
-/
import Derived.Test.YtkofhmmnlapnnaaGreatDoorKG
namespace Go.Proofs.YtkofhmmnlapnnaaGreatDoor
open Go.RowKit
set_option linter.unusedVariables false
/-- An error: the Fault in block p. -/
def flv (p : Nat) : Value := .iface 64 (.pointer (some ⟨p, 0, none⟩))
/-- Block p holds a Fault: its number, its place. -/
def Flt (w : World) (p : Nat) (c : Nat × Nat) : Prop := w.heap[p]? = some (.cells #[.int .i64 (c.1 : Int), .int .i64 (c.2 : Int)] 66)
theorem Flt.lt {w : World} {p : Nat} {c : Nat × Nat} (h : Flt w p c) : p < w.heap.size := by
  unfold Flt at h
  rcases Nat.lt_or_ge p w.heap.size with h2 | h2
  · exact h2
  · rw [Array.getElem?_eq_none h2] at h; cases h
theorem Flt.below {w w' : World} {p B : Nat} {c : Nat × Nat} (h : Flt w p c) (hb : Below B w w') (hp : p < B) : Flt w' p c := (hb.block p hp).trans h
theorem Flt.alloc {w : World} {p : Nat} {c : Nat × Nat} (h : Flt w p c) (o : Obj) : Flt (w.alloc o) p c := (Below.heap_alloc w o p h.lt).trans h
theorem Flt.new (w : World) (c : Nat × Nat) : Flt (w.alloc (.cells #[.int .i64 (c.1 : Int), .int .i64 (c.2 : Int)] 66)) w.heap.size c := by
  show (w.heap.push _)[w.heap.size]? = _
  simp
/-- A call that ends in a Fault: three answers, the first one zero. -/
def Bad (z : Value) (c : Nat × Nat) (w : World) (e : Ending) (w' : World) : Prop := ∃ p, e = .returned (.tuple #[z, .int .i64 0, flv p]) ∧ Hid (w.heap.size ≤ p ∧ Flt w' p c ∧ Below w.heap.size w w')
set_option maxRecDepth 100000 in
set_option maxHeartbeats 1000000 in
theorem fault_any (S : ByteArray) (k : Nat) (w : World) (hS : S.size ≤ 9007199254740992) (hk : k ≤ 9007199254740999) :
    Calls Tryz.prog 66 #[.string S, .int .i64 (k : Int)] w fun e w' => e = .returned (flv w.heap.size) ∧ Flt w' w.heap.size (flt S k) ∧ Below w.heap.size w w' := by
  by_cases h : S.size ≤ k
  · have a0 : decide ((S.size : Int) ≤ (k : Int)) = true := by simp; omega
    have HF : Hid (flt S k = (3, S.size)) := by show _ = _; unfold flt; rw [if_pos h]
    go_enter Tryz.func66, Tryz.ntmps66
    go_wp2_with fail
    go_ret
    rw [HF.out]
    exact ⟨rfl, Flt.new w (3, S.size), (Below.refl _ _).alloc (Nat.le_refl _) _⟩
  · have a0 : decide ((S.size : Int) ≤ (k : Int)) = false := by simp; omega
    have HF : Hid (flt S k = (4, k)) := by show _ = _; unfold flt; rw [if_neg h]
    go_enter Tryz.func66, Tryz.ntmps66
    go_wp2_with fail
    go_ret
    rw [HF.out]
    exact ⟨rfl, Flt.new w (4, k), (Below.refl _ _).alloc (Nat.le_refl _) _⟩
set_option maxRecDepth 100000 in
set_option maxHeartbeats 1000000 in
theorem begins_end (S : ByteArray) (k b : Nat) (w : World) (h : S.size ≤ k) (hS : S.size ≤ 9007199254740992) :
    Calls Tryz.prog 65 #[.string S, .int .i64 (k : Int), .int .u8 (b : Int)] w fun e w' => e = .returned (.bool false) ∧ Below w.heap.size w w' := by
  have a0 : decide ((k : Int) < (S.size : Int)) = false := by simp; omega
  go_enter Tryz.func65, Tryz.ntmps65
  go_wp2_with fail
  go_ret
  exact ⟨rfl, Below.refl _ _⟩
theorem begins_yes (S : ByteArray) (k b : Nat) (w : World) (h : bt S k = some b) (hS : S.size ≤ 9007199254740992) :
    Calls Tryz.prog 65 #[.string S, .int .i64 (k : Int), .int .u8 (b : Int)] w fun e w' => e = .returned (.bool true) ∧ Below w.heap.size w w' :=
  begins_at S k b b true w (bt_lt h).2 (bt_at h) (by simp) hS
theorem begins_no (S : ByteArray) (k b : Nat) (w : World) (hb : b < 256) (h : ¬ bt S k = some b) (hS : S.size ≤ 9007199254740992) :
    Calls Tryz.prog 65 #[.string S, .int .i64 (k : Int), .int .u8 (b : Int)] w fun e w' => e = .returned (.bool false) ∧ Below w.heap.size w w' := by
  cases hx : bt S k with
  | none => exact begins_end S k b w (bt_none hx) hS
  | some x => exact begins_at S k x b false w hb (bt_at hx) (beq_false_of_ne (fun e => h (by rw [hx, e]))) hS
set_option maxRecDepth 100000 in
set_option maxHeartbeats 1000000 in
theorem digit_no (S : ByteArray) (k : Nat) (w : World) (h : dg S k = none) (hS : S.size ≤ 9007199254740992) :
    Calls Tryz.prog 91 #[.string S, .int .i64 (k : Int)] w fun e w' => e = .returned (.tuple #[.int .u8 0, .bool false]) ∧ Below w.heap.size w w' := by
  cases hx : bt S k with
  | none =>
    have := bt_none hx
    have a0 : decide ((S.size : Int) ≤ (k : Int)) = true := by simp; omega
    clear h hx
    go_enter Tryz.func91, Tryz.ntmps91
    go_wp2_with fail
    go_ret2
    exact ⟨rfl, Below.refl _ _⟩
  | some x =>
    have hd : dgv x = none := by unfold dg at h; rw [hx] at h; exact h
    obtain ⟨hk, hxx⟩ := bt_at hx
    have hkI : (k : Int) < (S.size : Int) := by omega
    have a0 : decide ((S.size : Int) ≤ (k : Int)) = false := by simp; omega
    have hc : x < 48 ∨ (57 < x ∧ x < 97) ∨ 102 < x := by
      unfold dgv at hd
      split at hd
      · cases hd
      · split at hd
        · cases hd
        · omega
    clear h hx hd
    rcases hc with h1 | h1 | h1
    · have a1 : decide (48 ≤ (x : Int)) = false := by simp; omega
      have a2 : decide (97 ≤ (x : Int)) = false := by simp; omega
      clear h1
      go_enter Tryz.func91, Tryz.ntmps91
      go_wp2_with fail
      go_ret2
      exact ⟨rfl, Below.refl _ _⟩
    · have a1 : decide (48 ≤ (x : Int)) = true := by simp; omega
      have a3 : decide ((x : Int) ≤ 57) = false := by simp; omega
      have a2 : decide (97 ≤ (x : Int)) = false := by simp; omega
      clear h1
      go_enter Tryz.func91, Tryz.ntmps91
      go_wp2_with fail
      go_ret2
      exact ⟨rfl, Below.refl _ _⟩
    · have a1 : decide (48 ≤ (x : Int)) = true := by simp; omega
      have a3 : decide ((x : Int) ≤ 57) = false := by simp; omega
      have a2 : decide (97 ≤ (x : Int)) = true := by simp; omega
      have a4 : decide ((x : Int) ≤ 102) = false := by simp; omega
      clear h1
      go_enter Tryz.func91, Tryz.ntmps91
      go_wp2_with fail
      go_ret2
      exact ⟨rfl, Below.refl _ _⟩
theorem fault_at (S : ByteArray) (k : Nat) (c : Nat × Nat) (w0 w : World) (h : flt S k = c) (hS : S.size ≤ 9007199254740992) (hk : k ≤ 9007199254740999) (hb : Below w0.heap.size w0 w) :
    Calls Tryz.prog 66 #[.string S, .int .i64 (k : Int)] w fun e w' => ∃ p, e = .returned (flv p) ∧ Hid (w0.heap.size ≤ p ∧ Flt w' p c ∧ Below w0.heap.size w0 w') :=
  (fault_any S k w hS hk).mono fun e w' ⟨h1, h2, h3⟩ => ⟨_, h1, hb.size, h ▸ h2, hb.trans (h3.mono hb.size)⟩
set_option maxRecDepth 100000 in
set_option maxHeartbeats 1000000 in
theorem digits_bad (S : ByteArray) (k : Nat) (c : Nat × Nat) (w : World) (h : digs S k = .inl c) (hS : S.size ≤ 9007199254740992) (hk : k ≤ 9007199254740998) :
    Calls Tryz.prog 87 #[.string S, .int .i64 (k : Int)] w fun e w' => Bad (.int .u8 0) c w e w' := by
  unfold digs at h
  cases hq : dg S k with
  | none =>
    rw [hq] at h
    simp at h
    have H1 : Hid (∀ w : World, Calls Tryz.prog 91 #[.string S, .int .i64 (k : Int)] w fun e w' => e = .returned (.tuple #[.int .u8 0, .bool false]) ∧ Below w.heap.size w w') := fun w => digit_no S k w hq hS
    have HF : Hid (flt S k = c) := h
    clear h hq
    go_enter Tryz.func87, Tryz.ntmps87
    go_wp2_with fail
    refine (H1.out _).mono ?_
    rintro e w1 ⟨rfl, hb1⟩
    have HB1 : Hid (Below w.heap.size w w1) := hb1
    clear hb1
    go_wp2_with fail
    refine (fault_at S k c w _ HF.out hS (by omega) HB1.out).mono ?_
    rintro e w2 ⟨p, rfl, HP⟩
    unfold flv
    go_wp2_with fail
    go_ret3
    exact ⟨p, rfl, HP⟩
  | some q =>
    rw [hq] at h
    simp only at h
    obtain ⟨hq1, hq2⟩ := dg_some hq
    cases hr : dg S (k + 1) with
    | some r => rw [hr] at h; cases h
    | none =>
      rw [hr] at h
      simp at h
      have H1 : Hid (∀ w : World, Calls Tryz.prog 91 #[.string S, .int .i64 (k : Int)] w fun e w' => e = .returned (.tuple #[.int .u8 (q : Int), .bool true]) ∧ Below w.heap.size w w') := fun w => digit_at S k q w hq1 hq2 hS
      have H2 : Hid (∀ w : World, Calls Tryz.prog 91 #[.string S, .int .i64 ((k : Int) + 1)] w fun e w' => e = .returned (.tuple #[.int .u8 0, .bool false]) ∧ Below w.heap.size w w') := fun w => by
        have h := digit_no S (k + 1) w hr hS
        rw [show ((k + 1 : Nat) : Int) = (k : Int) + 1 by omega] at h
        exact h
      have H3 : Hid (∀ w' : World, Below w.heap.size w w' → Calls Tryz.prog 66 #[.string S, .int .i64 ((k : Int) + 1)] w' fun e w' => ∃ p, e = .returned (flv p) ∧ Hid (w.heap.size ≤ p ∧ Flt w' p c ∧ Below w.heap.size w w')) := fun w' hb => by
        have h := fault_at S (k + 1) c w w' h hS (by omega) hb
        rw [show ((k + 1 : Nat) : Int) = (k : Int) + 1 by omega] at h
        exact h
      have hkk := hq2.lt
      have hki : (k : Int) + 1 ≤ 9007199254740994 := by omega
      clear h hr hq hq2
      go_enter Tryz.func87, Tryz.ntmps87
      go_wp2_with fail
      refine (H1.out _).mono ?_
      rintro e w1 ⟨rfl, hb1⟩
      have HB1 : Hid (Below w.heap.size w w1) := hb1
      clear hb1
      go_wp2_with fail
      refine (H2.out _).mono ?_
      rintro e w2 ⟨rfl, hb2⟩
      have HB2 : Hid (Below w.heap.size w w2) := HB1.out.trans (hb2.mono HB1.out.size)
      clear hb2
      go_wp2_with fail
      refine (H3.out _ HB2.out).mono ?_
      rintro e w3 ⟨p, rfl, HP⟩
      unfold flv
      go_wp2_with fail
      go_ret3
      exact ⟨p, rfl, HP⟩
theorem digits_ok (S : ByteArray) (k b n : Nat) (w : World) (h : digs S k = .inr (b, n)) (hS : S.size ≤ 9007199254740992) :
    Calls Tryz.prog 87 #[.string S, .int .i64 (k : Int)] w fun e w' => e = .returned (.tuple #[.int .u8 (b : Int), .int .i64 (n : Int), .nilIface]) ∧ Below w.heap.size w w' := by
  obtain ⟨q, r, hq, hr, hb, hn⟩ := digs_ok h
  have h2 := digits_at S k q r b w hb.symm (dg_some hq).1 (dg_some hr).1 (dg_some hq).2 (dg_some hr).2 hS
  rw [show (k : Int) + 2 = (n : Int) by omega] at h2
  exact h2
end Go.Proofs.YtkofhmmnlapnnaaGreatDoor
