/-
  What the document's own five, digit and sign answer at any text. Conditions: those that each theorem names.
-/
import Derived.Test.YtbdhgfblkgkekaaDoorX14
namespace Go.Proofs.YtbdhgfblkgkekaaDoor
open Go.RowKit
set_option linter.unusedVariables false
set_option maxRecDepth 100000 in
set_option maxHeartbeats 1000000 in
theorem rfive_any (b : Nat) (v : Bool) (hv : mark b = v) (w : World) (hb : b < 256) :
    Calls Tryd.prog 70 #[.int .i64 (b : Int)] w fun e w' => e = .returned (.bool v) ∧ w' = w := by
  subst hv
  have h : ∀ n : Nat, ((b : Int) == (n : Int)) = (b == n) := fun n => beqN b n
  have h1 : ((b : Int) == 91) = (b == 91) := h 91
  have h2 : ((b : Int) == 93) = (b == 93) := h 93
  have h3 : ((b : Int) == 92) = (b == 92) := h 92
  have h4 : ((b : Int) == 45) = (b == 45) := h 45
  have h5 : ((b : Int) == 94) = (b == 94) := h 94
  clear h
  unfold mark
  cases k1 : b == 91 <;> rw [k1] at h1 <;> cases k2 : b == 93 <;> rw [k2] at h2 <;> cases k3 : b == 92 <;> rw [k3] at h3 <;> cases k4 : b == 45 <;> rw [k4] at h4 <;> cases k5 : b == 94 <;> rw [k5] at h5
  all_goals
    go_enter Tryd.func70, Tryd.ntmps70
    go_wp2_with fail
    go_ret
    exact ⟨rfl, rfl⟩
set_option maxRecDepth 100000 in
set_option maxHeartbeats 1000000 in
theorem rdigit_any (x : Nat) (hx : x < 256) (w : World) :
    Calls Tryd.prog 71 #[.int .u8 (x : Int)] w fun e w' => e = .returned (.int .i64 (dgi x)) ∧ w' = w := by
  have hc : (48 ≤ x ∧ x ≤ 57) ∨ (97 ≤ x ∧ x ≤ 102) ∨ x < 48 ∨ (57 < x ∧ x < 97) ∨ 102 < x := by omega
  rcases hc with h1 | h1 | h1 | h1 | h1
  · have hd : dgi x = (x : Int) - 48 := by rw [dgi_some (d := x - 48) (by unfold dgv; rw [if_pos h1])]; omega
    rw [hd]
    have a1 : decide (48 ≤ (x : Int)) = true := by simp; omega
    have a2 : decide ((x : Int) ≤ 57) = true := by simp; omega
    have a3 : IntKind.u8.wrap ((x : Int) - 48) = (x : Int) - 48 := by rw [IntKind.wrap_u8]; omega
    have a4 : IntKind.i64.wrap ((x : Int) - 48) = (x : Int) - 48 := by rw [IntKind.wrap_i64]; omega
    have b1 : (48 : Int) ≤ (x : Int) := by omega
    have b2 : (x : Int) ≤ 57 := by omega
    clear hd h1
    go_enter Tryd.func71, Tryd.ntmps71
    go_wp2_with fail
    go_ret
    exact ⟨rfl, rfl⟩
  · have hd : dgi x = (x : Int) - 97 + 10 := by rw [dgi_some (d := x - 87) (by unfold dgv; rw [if_neg (by omega), if_pos h1])]; omega
    rw [hd]
    have a1 : decide (48 ≤ (x : Int)) = true := by simp; omega
    have a2 : decide ((x : Int) ≤ 57) = false := by simp; omega
    have a5 : decide (97 ≤ (x : Int)) = true := by simp; omega
    have a6 : decide ((x : Int) ≤ 102) = true := by simp; omega
    have a3 : IntKind.u8.wrap ((x : Int) - 97) = (x : Int) - 97 := by rw [IntKind.wrap_u8]; omega
    have a4 : IntKind.i64.wrap ((x : Int) - 97) = (x : Int) - 97 := by rw [IntKind.wrap_i64]; omega
    have b1 : (97 : Int) ≤ (x : Int) := by omega
    have b2 : (x : Int) ≤ 102 := by omega
    clear hd h1
    go_enter Tryd.func71, Tryd.ntmps71
    go_wp2_with fail
    go_ret
    exact ⟨rfl, rfl⟩
  · rw [dgi_none (by unfold dgv; rw [if_neg (by omega), if_neg (by omega)])]
    have a1 : decide (48 ≤ (x : Int)) = false := by simp; omega
    have a2 : decide (97 ≤ (x : Int)) = false := by simp; omega
    clear h1
    go_enter Tryd.func71, Tryd.ntmps71
    go_wp2_with fail
    go_ret
    exact ⟨rfl, rfl⟩
  · rw [dgi_none (by unfold dgv; rw [if_neg (by omega), if_neg (by omega)])]
    have a1 : decide (48 ≤ (x : Int)) = true := by simp; omega
    have a3 : decide ((x : Int) ≤ 57) = false := by simp; omega
    have a2 : decide (97 ≤ (x : Int)) = false := by simp; omega
    clear h1
    go_enter Tryd.func71, Tryd.ntmps71
    go_wp2_with fail
    go_ret
    exact ⟨rfl, rfl⟩
  · rw [dgi_none (by unfold dgv; rw [if_neg (by omega), if_neg (by omega)])]
    have a1 : decide (48 ≤ (x : Int)) = true := by simp; omega
    have a3 : decide ((x : Int) ≤ 57) = false := by simp; omega
    have a2 : decide (97 ≤ (x : Int)) = true := by simp; omega
    have a4 : decide ((x : Int) ≤ 102) = false := by simp; omega
    clear h1
    go_enter Tryd.func71, Tryd.ntmps71
    go_wp2_with fail
    go_ret
    exact ⟨rfl, rfl⟩
/-- What a sign is handed back as. -/
def r3 (r : Rs) : Value :=
  match r with
  | .inr (b, n) => .tuple #[.int .i64 (b : Int), .int .i64 (n : Int), .int .i64 0]
  | .inl c => .tuple #[.int .i64 0, .int .i64 (c.2 : Int), .int .i64 (c.1 : Int)]
theorem flt_end {S : ByteArray} {k : Nat} (h : S.size ≤ k) : flt S k = (3, S.size) := by unfold flt; rw [if_pos h]
theorem flt_form {S : ByteArray} {k : Nat} (h : k < S.size) : flt S k = (4, k) := by unfold flt; rw [if_neg (by omega)]
set_option maxRecDepth 100000 in
set_option maxHeartbeats 2000000 in
theorem rsign_plain (S : ByteArray) (k : Nat) (w : World) (h : ¬ bt S k = some 92) (hS : S.size ≤ 9007199254740992) :
    Calls Tryd.prog 55 #[.string S, .int .i64 (k : Int)] w fun e w' => e = .returned (r3 (sg S k)) ∧ w' = w := by
  unfold sg
  cases hx0 : bt S k with
  | none =>
    have hge := bt_none hx0
    have a0 : decide ((S.size : Int) ≤ (k : Int)) = true := by simp; omega
    simp only
    rw [flt_end hge]
    clear h hx0
    go_enter Tryd.func55, Tryd.ntmps55
    go_wp2_with fail
    go_ret3
    exact ⟨rfl, rfl⟩
  | some x =>
    have hxl := (bt_lt hx0).2
    obtain ⟨hk, hx⟩ := bt_at hx0
    have hkI : (k : Int) < (S.size : Int) := by omega
    have a0 : decide ((S.size : Int) ≤ (k : Int)) = false := by simp; omega
    have h92 : x ≠ 92 := fun e => h (by rw [hx0, e])
    have n92 : ((x : Int) != 92) = true := by rw [bne_iff_ne]; omega
    have m92 : ((x : Int) == 92) = false := by rw [beq_eq_false_iff_ne]; omega
    have hwx : IntKind.i64.wrap (x : Int) = (x : Int) := by rw [IntKind.wrap_i64]; omega
    simp only
    rw [if_neg h92, flt_form hk]
    cases hm : mark x with
    | true =>
      have HM : Hid (∀ w : World, Calls Tryd.prog 70 #[.int .i64 (x : Int)] w fun e w' => e = .returned (.bool true) ∧ w' = w) := fun w => rfive_any x true hm w hxl
      rw [if_neg (by unfold plain; rw [hm]; simp)]
      clear h hx0 h92 hm
      go_enter Tryd.func55, Tryd.ntmps55
      go_wp2_with fail
      refine (HM.out _).mono ?_
      rintro e w1 ⟨rfl, rfl⟩
      go_wp2_with fail
      go_ret3
      exact ⟨rfl, rfl⟩
    | false =>
      have HM : Hid (∀ w : World, Calls Tryd.prog 70 #[.int .i64 (x : Int)] w fun e w' => e = .returned (.bool false) ∧ w' = w) := fun w => rfive_any x false hm w hxl
      by_cases h1 : x < 32
      · rw [if_neg (by unfold plain; rw [hm]; simp; omega)]
        have d1 : decide ((x : Int) < 32) = true := by simp; omega
        clear h hx0 h92 hm
        go_enter Tryd.func55, Tryd.ntmps55
        go_wp2_with fail
        refine (HM.out _).mono ?_
        rintro e w1 ⟨rfl, rfl⟩
        go_wp2_with fail
        go_ret3
        exact ⟨rfl, rfl⟩
      · have d1 : decide ((x : Int) < 32) = false := by simp; omega
        by_cases h2 : 126 < x
        · rw [if_neg (by unfold plain; rw [hm]; simp; omega)]
          have d2 : decide (126 < (x : Int)) = true := by simp; omega
          clear h hx0 h92 hm
          go_enter Tryd.func55, Tryd.ntmps55
          go_wp2_with fail
          refine (HM.out _).mono ?_
          rintro e w1 ⟨rfl, rfl⟩
          go_wp2_with fail
          go_ret3
          exact ⟨rfl, rfl⟩
        · rw [if_pos (by unfold plain; rw [hm]; simp; omega)]
          have d2 : decide (126 < (x : Int)) = false := by simp; omega
          have hn : ((k + 1 : Nat) : Int) = (k : Int) + 1 := by omega
          unfold r3
          simp only
          rw [hn]
          clear h hx0 h92 hm hn
          go_enter Tryd.func55, Tryd.ntmps55
          go_wp2_with fail
          refine (HM.out _).mono ?_
          rintro e w1 ⟨rfl, rfl⟩
          go_wp2_with fail
          go_ret3
          exact ⟨rfl, rfl⟩
end Go.Proofs.YtbdhgfblkgkekaaDoor
