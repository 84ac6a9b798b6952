/-
  What class.isMark, isPrintable, begins, digit and takeDigits answer where what they ask for stands. Conditions: those that each theorem names.
-/
import Derived.Test.YtkofhmmnlapnnaaGreatDoorJMem
namespace Go.Proofs.YtkofhmmnlapnnaaGreatDoor
open Go.RowKit
set_option linter.unusedVariables false
theorem hid {p : Prop} (h : p) : Hid p := h
def mark (b : Nat) : Bool := b == 91 || b == 93 || b == 92 || b == 45 || b == 94
def hexd (n : Nat) : Nat := if n < 10 then 48 + n else 87 + n
set_option maxRecDepth 100000 in
set_option maxHeartbeats 1000000 in
theorem mark_any (b : Nat) (w : World) (hb : b < 256) :
    Calls Tryz.prog 81 #[.int .u8 (b : Int)] w fun e w' => e = .returned (.bool (mark b)) ∧ w' = w := by
  have h : ∀ n : Nat, ((b : Int) == (n : Int)) = (b == n) := fun n => by
    by_cases e : b = n
    · subst e; simp
    · rw [beq_false_of_ne e]; simp; omega
  have h1 : ((b : Int) == 91) = (b == 91) := h 91
  have h2 : ((b : Int) == 93) = (b == 93) := h 93
  have h3 : ((b : Int) == 92) = (b == 92) := h 92
  have h4 : ((b : Int) == 45) = (b == 45) := h 45
  have h5 : ((b : Int) == 94) = (b == 94) := h 94
  clear h
  unfold mark
  cases k1 : b == 91 <;> rw [k1] at h1 <;> cases k2 : b == 93 <;> rw [k2] at h2 <;> cases k3 : b == 92 <;> rw [k3] at h3 <;> cases k4 : b == 45 <;> rw [k4] at h4 <;> cases k5 : b == 94 <;> rw [k5] at h5
  all_goals
    go_enter Tryz.func81, Tryz.ntmps81
    go_wp2_with fail
    go_ret
    exact ⟨rfl, rfl⟩
set_option maxRecDepth 100000 in
set_option maxHeartbeats 1000000 in
theorem print_any (b : Nat) (w : World) (hb : b < 256) :
    Calls Tryz.prog 82 #[.int .u8 (b : Int)] w fun e w' => e = .returned (.bool (decide (32 ≤ b) && decide (b ≤ 126))) ∧ w' = w := by
  by_cases h1 : 32 ≤ b
  · have a1 : decide (32 ≤ (b : Int)) = true := by simp; omega
    by_cases h2 : b ≤ 126
    · have a2 : decide ((b : Int) ≤ 126) = true := by simp; omega
      rw [decide_eq_true h1, decide_eq_true h2]
      clear h1 h2
      go_enter Tryz.func82, Tryz.ntmps82
      go_wp2_with fail
      go_ret
      exact ⟨rfl, rfl⟩
    · have a2 : decide ((b : Int) ≤ 126) = false := by simp; omega
      rw [decide_eq_true h1, decide_eq_false h2]
      clear h1 h2
      go_enter Tryz.func82, Tryz.ntmps82
      go_wp2_with fail
      go_ret
      exact ⟨rfl, rfl⟩
  · have a1 : decide (32 ≤ (b : Int)) = false := by simp; omega
    rw [decide_eq_false h1]
    clear h1
    go_enter Tryz.func82, Tryz.ntmps82
    go_wp2_with fail
    go_ret
    exact ⟨rfl, rfl⟩
/-- In the text S there stands the byte x at k. -/
def At (S : ByteArray) (k x : Nat) : Prop := ∃ h : k < S.size, (S[k]).toNat = x
theorem At.lt {S : ByteArray} {k x : Nat} (h : At S k x) : k < S.size := h.1
theorem At.u8 {S : ByteArray} {k x : Nat} (h : At S k x) : x < 256 := by
  obtain ⟨h1, rfl⟩ := h
  exact (S[k]).toNat_lt
theorem beqN (x b : Nat) : ((x : Int) == (b : Int)) = (x == b) := by
  by_cases e : x = b
  · subst e; simp
  · rw [beq_false_of_ne e]; simp; omega
set_option maxRecDepth 100000 in
set_option maxHeartbeats 1000000 in
theorem begins_at (S : ByteArray) (k x b : Nat) (v : Bool) (w : World) (hb : b < 256) (h : At S k x) (hv : (x == b) = v) (hS : S.size ≤ 9007199254740992) :
    Calls Tryz.prog 65 #[.string S, .int .i64 (k : Int), .int .u8 (b : Int)] w fun e w' => e = .returned (.bool v) ∧ Below w.heap.size w w' := by
  obtain ⟨hk, hx⟩ := h
  have hkI : (k : Int) < (S.size : Int) := by omega
  have hq := beqN x b
  rw [hv] at hq
  go_enter Tryz.func65, Tryz.ntmps65
  go_wp2_with fail
  go_ret
  exact ⟨rfl, Below.refl _ _⟩
theorem or_dig : ∀ q : Nat, q < 16 → ∀ r : Nat, r < 16 → bits BinOp.or IntKind.u8 ((q : Int) * 16) (r : Int) = ((16 * q + r : Nat) : Int) := by decide +kernel
set_option maxRecDepth 100000 in
set_option maxHeartbeats 1000000 in
theorem digit_at (S : ByteArray) (k d : Nat) (w : World) (hd : d < 16) (h : At S k (hexd d)) (hS : S.size ≤ 9007199254740992) :
    Calls Tryz.prog 91 #[.string S, .int .i64 (k : Int)] w fun e w' => e = .returned (.tuple #[.int .u8 (d : Int), .bool true]) ∧ Below w.heap.size w w' := by
  obtain ⟨x, hxd⟩ : ∃ x, x = hexd d := ⟨_, rfl⟩
  rw [← hxd] at h
  obtain ⟨hk, hx⟩ := h
  have hkI : (k : Int) < (S.size : Int) := by omega
  have a0 : decide ((S.size : Int) ≤ (k : Int)) = false := by simp; omega
  by_cases h10 : d < 10
  · have hx2 : x = 48 + d := by rw [hxd, hexd, if_pos h10]
    have a1 : decide (48 ≤ (x : Int)) = true := by simp; omega
    have a2 : decide ((x : Int) ≤ 57) = true := by simp; omega
    have a3 : IntKind.u8.wrap ((x : Int) - 48) = (d : Int) := by rw [IntKind.wrap_u8]; omega
    clear hxd hx2
    go_enter Tryz.func91, Tryz.ntmps91
    go_wp2_with fail
    go_ret2
    exact ⟨rfl, Below.refl _ _⟩
  · have hx2 : x = 87 + d := by rw [hxd, hexd, if_neg h10]
    have a1 : decide (48 ≤ (x : Int)) = true := by simp; omega
    have a2 : decide ((x : Int) ≤ 57) = false := by simp; omega
    have a4 : decide (97 ≤ (x : Int)) = true := by simp; omega
    have a5 : decide ((x : Int) ≤ 102) = true := by simp; omega
    have a3 : IntKind.u8.wrap ((x : Int) - 97) = ((d - 10 : Nat) : Int) := by rw [IntKind.wrap_u8]; omega
    have a6 : IntKind.u8.wrap (((d - 10 : Nat) : Int) + 10) = (d : Int) := by rw [IntKind.wrap_u8]; omega
    clear hxd hx2
    go_enter Tryz.func91, Tryz.ntmps91
    go_wp2_with fail
    go_ret2
    exact ⟨rfl, Below.refl _ _⟩
set_option maxRecDepth 100000 in
set_option maxHeartbeats 1000000 in
theorem digits_at (S : ByteArray) (k q r c : Nat) (w : World) (hc : 16 * q + r = c) (hq : q < 16) (hr : r < 16) (h : At S k (hexd q)) (h2 : At S (k + 1) (hexd r)) (hS : S.size ≤ 9007199254740992) :
    Calls Tryz.prog 87 #[.string S, .int .i64 (k : Int)] w fun e w' => e = .returned (.tuple #[.int .u8 (c : Int), .int .i64 ((k : Int) + 2), .nilIface]) ∧ Below w.heap.size w w' := by
  have H1 : Hid (∀ w : World, Calls Tryz.prog 91 #[.string S, .int .i64 (k : Int)] w fun e w' => e = .returned (.tuple #[.int .u8 (q : Int), .bool true]) ∧ Below w.heap.size w w') := fun w => digit_at S k q w hq h hS
  have H2 : Hid (∀ w : World, Calls Tryz.prog 91 #[.string S, .int .i64 ((k : Int) + 1)] w fun e w' => e = .returned (.tuple #[.int .u8 (r : Int), .bool true]) ∧ Below w.heap.size w w') := fun w => by
    have h := digit_at S (k + 1) r w hr h2 hS
    rw [show ((k + 1 : Nat) : Int) = (k : Int) + 1 by omega] at h
    exact h
  have hk := h.lt
  have ho := or_dig q hq r hr
  rw [hc] at ho
  clear hc
  have hks : (k : Int) + 2 ≤ 9007199254740994 := by omega
  clear h h2
  go_enter Tryz.func87, Tryz.ntmps87
  go_wp2_with fail
  refine (H1.out _).mono ?_
  rintro e w1 ⟨rfl, hb1⟩
  have HB1 : Hid (Below w.heap.size w w1) := hb1
  clear hb1
  go_wp2_with fail
  refine (H2.out _).mono ?_
  rintro e w2 ⟨rfl, hb2⟩
  have HB2 : Hid (Below w.heap.size w w2) := HB1.out.trans (hb2.mono HB1.out.size)
  clear hb2
  go_wp2_with fail
  go_ret3
  exact ⟨rfl, HB2.out⟩
end Go.Proofs.YtkofhmmnlapnnaaGreatDoor
