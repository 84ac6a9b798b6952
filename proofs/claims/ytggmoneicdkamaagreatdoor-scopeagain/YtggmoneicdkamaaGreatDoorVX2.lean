/-
  What lex.takeDigits, takeEscape and takeSign answer at any text: the signs of a literal. Conditions: those that each theorem names.
-/
import Derived.Test.YtggmoneicdkamaaGreatDoorVKG5ToX1
namespace Go.Proofs.YtggmoneicdkamaaGreatDoor
open Go.RowKit
set_option linter.unusedVariables false
theorem dgk_none {S : ByteArray} {k : Nat} (h : dg S k = none) : dgk S k = -1 := by
  unfold dgk
  unfold dg at h
  cases hx : bt S k with
  | none => rfl
  | some x => rw [hx] at h; exact dgi_none h
theorem dgk_some {S : ByteArray} {k d : Nat} (h : dg S k = some d) : dgk S k = (d : Int) := by
  unfold dgk
  unfold dg at h
  cases hx : bt S k with
  | none => rw [hx] at h; cases h
  | some x => rw [hx] at h; exact dgi_some h
def lescv (x : Nat) : Option Nat := if x = 110 then some 10 else if x = 114 then some 13 else if x = 116 then some 9 else if x = 92 ∨ x = 39 ∨ x = 34 then some x else none
def lesc (S : ByteArray) (k : Nat) : Rs :=
  match bt S k with
  | none => .inl (flt S k)
  | some x => match lescv x with
    | some b => .inr (b, k + 1)
    | none => if x = 120 then digs S (k + 1) else .inl (flt S k)
def lsg (S : ByteArray) (k : Nat) : Rs :=
  match bt S k with
  | none => .inl (flt S k)
  | some x => if plB x = false then .inl (flt S k) else if x = 92 then lesc S (k + 1) else .inr (x, k + 1)
theorem lescv_lt {x b : Nat} (h : lescv x = some b) (hx : x < 256) : b < 256 := by
  unfold lescv at h
  repeat (split at h; (simp at h; omega))
  cases h
theorem lesc_ok {S : ByteArray} {k b n : Nat} (h : lesc S k = .inr (b, n)) : b < 256 ∧ k < n ∧ n ≤ S.size := by
  unfold lesc at h
  split at h
  · cases h
  · rename_i x hx
    have h1 := bt_lt hx
    split at h
    · rename_i b' hb'
      simp at h
      have := lescv_lt hb' h1.2
      omega
    · split at h
      · obtain ⟨q, r, hq, hr, rfl, rfl⟩ := digs_ok h
        have a1 := dg_some hq
        have a2 := dg_some hr
        have := a2.2.lt
        omega
      · cases h
theorem lsg_ok {S : ByteArray} {k b n : Nat} (h : lsg S k = .inr (b, n)) : b < 256 ∧ k < n ∧ n ≤ S.size := by
  unfold lsg at h
  split at h
  · cases h
  · rename_i x hx
    have h1 := bt_lt hx
    split at h
    · cases h
    · split at h
      · have := lesc_ok h; omega
      · simp at h; omega
set_option maxRecDepth 100000 in
set_option maxHeartbeats 2000000 in
theorem xdigits_ok (S : ByteArray) (k b n : Nat) (w : World) (h : digs S k = .inr (b, n)) (hS : S.size ≤ 9007199254740992) :
    Calls Tryz.prog 165 #[.string S, .int .i64 (k : Int)] w fun e w' => e = .returned (.tuple #[.int .u8 (b : Int), .int .i64 (n : Int), .nilIface]) ∧ Below w.heap.size w w' := by
  obtain ⟨q, r, hq, hr, hb, hn⟩ := digs_ok h
  have hq1 := (dg_some hq).1
  have hr1 := (dg_some hr).1
  have hkl := (dg_some hq).2.lt
  obtain ⟨m, hm⟩ : ∃ m, m = k + 1 := ⟨_, rfl⟩
  have HD1 : Hid (∀ w : World, Calls Tryz.prog 177 #[.string S, .int .i64 (k : Int)] w fun e w' => e = .returned (.int .i64 (q : Int)) ∧ w' = w) := fun w => by have h := xdig_any S k w hS; rw [dgk_some hq] at h; exact h
  have HD2 : Hid (∀ w : World, Calls Tryz.prog 177 #[.string S, .int .i64 (m : Int)] w fun e w' => e = .returned (.int .i64 (r : Int)) ∧ w' = w) := fun w => by have h := xdig_any S m w hS; rw [dgk_some (by rw [hm]; exact hr)] at h; exact h
  have i1 : (k : Int) + 1 = (m : Int) := by omega
  have i2 : (m : Int) + 1 = (n : Int) := by omega
  have i3 : (k : Int) + 2 = (n : Int) := by omega
  have l1 : decide ((k : Int) < (n : Int)) = true := by simp; omega
  have l2 : decide ((m : Int) < (n : Int)) = true := by simp; omega
  have l1' : k < n := by omega
  have l2' : m < n := by omega
  have hq0 : decide ((q : Int) < 0) = false := by simp
  have hr0 : decide ((r : Int) < 0) = false := by simp
  have hqI : (q : Int) ≤ 15 := by omega
  have hrI : (r : Int) ≤ 15 := by omega
  have hbI : (b : Int) = (q : Int) * 16 + (r : Int) := by omega
  rw [hbI]
  have hn2 : (n : Int) ≤ 9007199254740994 := by omega
  clear h hq hr hb hn hm hbI
  go_enter Tryz.func165, Tryz.ntmps165
  go_wp2_with fail
  refine wp_loop_rounds 3 ?_
  rw [rounds_succ]
  go_wp2_with fail
  refine (HD1.out _).mono ?_
  rintro e w1 ⟨rfl, rfl⟩
  go_wp2_with fail
  rw [rounds_succ]
  go_wp2_with fail
  refine (HD2.out _).mono ?_
  rintro e w1 ⟨rfl, rfl⟩
  go_wp2_with fail
  rw [rounds_succ]
  go_wp2_with fail
  go_ret3
  exact ⟨rfl, Below.refl _ _⟩
set_option maxRecDepth 100000 in
set_option maxHeartbeats 2000000 in
theorem xdigits_bad (S : ByteArray) (k : Nat) (c : Nat × Nat) (w : World) (h : digs S k = .inl c) (hS : S.size ≤ 9007199254740992) (hk : k ≤ 9007199254740995) :
    Calls Tryz.prog 165 #[.string S, .int .i64 (k : Int)] w fun e w' => Bad (.int .u8 0) c w e w' := by
  unfold digs at h
  cases hq : dg S k with
  | none =>
    rw [hq] at h
    simp at h
    have HF : Hid (flt S k = c) := h
    have HD1 : Hid (∀ w : World, Calls Tryz.prog 177 #[.string S, .int .i64 (k : Int)] w fun e w' => e = .returned (.int .i64 (-1)) ∧ w' = w) := fun w => by have h := xdig_any S k w hS; rw [dgk_none hq] at h; exact h
    have hkI : (k : Int) ≤ 9007199254740995 := by omega
    clear h hq
    go_enter Tryz.func165, Tryz.ntmps165
    go_wp2_with fail
    refine wp_loop_rounds 1 ?_
    rw [rounds_succ]
    go_wp2_with fail
    refine (HD1.out _).mono ?_
    rintro e w1 ⟨rfl, rfl⟩
    go_wp2_with fail
    refine (xfault_at S k c w1 _ HF.out hS (by omega) (Below.refl _ _)).mono ?_
    rintro e w2 ⟨p, rfl, HP⟩
    unfold flv
    go_wp2_with fail
    go_ret3
    exact ⟨p, rfl, HP⟩
  | some q =>
    rw [hq] at h
    simp only at h
    have hq1 := (dg_some hq).1
    cases hr : dg S (k + 1) with
    | some r => rw [hr] at h; cases h
    | none =>
      rw [hr] at h
      simp at h
      obtain ⟨m, hm⟩ : ∃ m, m = k + 1 := ⟨_, rfl⟩
      rw [← hm] at h hr
      have HF : Hid (flt S m = c) := h
      have HD1 : Hid (∀ w : World, Calls Tryz.prog 177 #[.string S, .int .i64 (k : Int)] w fun e w' => e = .returned (.int .i64 (q : Int)) ∧ w' = w) := fun w => by have h := xdig_any S k w hS; rw [dgk_some hq] at h; exact h
      have HD2 : Hid (∀ w : World, Calls Tryz.prog 177 #[.string S, .int .i64 (m : Int)] w fun e w' => e = .returned (.int .i64 (-1)) ∧ w' = w) := fun w => by have h := xdig_any S m w hS; rw [dgk_none hr] at h; exact h
      have i1 : (k : Int) + 1 = (m : Int) := by omega
      have i3 : (k : Int) + 2 = (m : Int) + 1 := by omega
      have l1 : decide ((k : Int) < (m : Int) + 1) = true := by simp; omega
      have l2 : decide ((m : Int) < (m : Int) + 1) = true := by simp; omega
      have hq0 : decide ((q : Int) < 0) = false := by simp
      have hqI : (q : Int) ≤ 15 := by omega
      have hmI : (m : Int) ≤ 9007199254740996 := by omega
      have hmN : m ≤ 9007199254740996 := by omega
      clear h hq hr hm
      go_enter Tryz.func165, Tryz.ntmps165
      go_wp2_with fail
      refine wp_loop_rounds 2 ?_
      rw [rounds_succ]
      go_wp2_with fail
      refine (HD1.out _).mono ?_
      rintro e w1 ⟨rfl, rfl⟩
      go_wp2_with fail
      rw [rounds_succ]
      go_wp2_with fail
      refine (HD2.out _).mono ?_
      rintro e w1 ⟨rfl, rfl⟩
      go_wp2_with fail
      refine (xfault_at S m c w1 _ HF.out hS (by omega) (Below.refl _ _)).mono ?_
      rintro e w2 ⟨p, rfl, HP⟩
      unfold flv
      go_wp2_with fail
      go_ret3
      exact ⟨p, rfl, HP⟩
set_option maxRecDepth 100000 in
set_option maxHeartbeats 2000000 in
theorem xescape_val (S : ByteArray) (m x b : Nat) (w : World) (hx0 : bt S m = some x) (hv : lescv x = some b) (hS : S.size ≤ 9007199254740992) :
    Calls Tryz.prog 145 #[.string S, .int .i64 (m : Int)] w fun e w' => e = .returned (.tuple #[.int .u8 (b : Int), .int .i64 ((m : Int) + 1), .nilIface]) ∧ Below w.heap.size w w' := by
  have hxl := (bt_lt hx0).2
  obtain ⟨hk, hx⟩ := bt_at hx0
  have hkI : (m : Int) < (S.size : Int) := by omega
  have a0 : decide ((S.size : Int) ≤ (m : Int)) = false := by simp; omega
  clear hx0
  unfold lescv at hv
  by_cases h110 : x = 110
  · rw [if_pos h110] at hv
    obtain rfl : b = 10 := by simpa using hv.symm
    have t110 : ((x : Int) == 110) = true := by simp; omega
    clear hv h110
    go_enter Tryz.func145, Tryz.ntmps145
    go_wp2_with fail
    go_ret3
    exact ⟨rfl, Below.refl _ _⟩
  rw [if_neg h110] at hv
  by_cases h114 : x = 114
  · rw [if_pos h114] at hv
    obtain rfl : b = 13 := by simpa using hv.symm
    have t110 : ((x : Int) == 110) = false := by simp; omega
    have t114 : ((x : Int) == 114) = true := by simp; omega
    clear hv h114
    go_enter Tryz.func145, Tryz.ntmps145
    go_wp2_with fail
    go_ret3
    exact ⟨rfl, Below.refl _ _⟩
  rw [if_neg h114] at hv
  by_cases h116 : x = 116
  · rw [if_pos h116] at hv
    obtain rfl : b = 9 := by simpa using hv.symm
    have t110 : ((x : Int) == 110) = false := by simp; omega
    have t114 : ((x : Int) == 114) = false := by simp; omega
    have t116 : ((x : Int) == 116) = true := by simp; omega
    clear hv h116
    go_enter Tryz.func145, Tryz.ntmps145
    go_wp2_with fail
    go_ret3
    exact ⟨rfl, Below.refl _ _⟩
  rw [if_neg h116] at hv
  by_cases hq : x = 92 ∨ x = 39 ∨ x = 34
  · rw [if_pos hq] at hv
    obtain rfl : x = b := by simpa using hv
    have t110 : ((x : Int) == 110) = false := by simp; omega
    have t114 : ((x : Int) == 114) = false := by simp; omega
    have t116 : ((x : Int) == 116) = false := by simp; omega
    have hq2 : ((x : Int) == 92) = true ∨ (((x : Int) == 92) = false ∧ ((x : Int) == 39) = true) ∨ (((x : Int) == 92) = false ∧ ((x : Int) == 39) = false ∧ ((x : Int) == 34) = true) := by simp; omega
    clear hv hq h110 h114 h116
    rcases hq2 with q1 | ⟨q1, q2⟩ | ⟨q1, q2, q3⟩
    all_goals
      go_enter Tryz.func145, Tryz.ntmps145
      go_wp2_with fail
      go_ret3
      exact ⟨rfl, Below.refl _ _⟩
  · rw [if_neg hq] at hv; cases hv
theorem lescv_none {x : Nat} (h : lescv x = none) : x ≠ 110 ∧ x ≠ 114 ∧ x ≠ 116 ∧ x ≠ 92 ∧ x ≠ 39 ∧ x ≠ 34 := by
  unfold lescv at h
  refine ⟨fun e => ?_, fun e => ?_, fun e => ?_, fun e => ?_, fun e => ?_, fun e => ?_⟩ <;> (subst e; simp at h)
set_option maxRecDepth 100000 in
set_option maxHeartbeats 2000000 in
theorem xescape_ok (S : ByteArray) (m b n : Nat) (w : World) (h : lesc S m = .inr (b, n)) (hS : S.size ≤ 9007199254740992) :
    Calls Tryz.prog 145 #[.string S, .int .i64 (m : Int)] w fun e w' => e = .returned (.tuple #[.int .u8 (b : Int), .int .i64 (n : Int), .nilIface]) ∧ Below w.heap.size w w' := by
  unfold lesc at h
  cases hx0 : bt S m with
  | none => rw [hx0] at h; cases h
  | some x =>
    rw [hx0] at h
    simp only at h
    cases hv : lescv x with
    | some b' =>
      rw [hv] at h
      simp only [Sum.inr.injEq, Prod.mk.injEq] at h
      obtain ⟨rfl, rfl⟩ := h
      have h2 := xescape_val S m x b' w hx0 hv hS
      rw [show (m : Int) + 1 = ((m + 1 : Nat) : Int) by omega] at h2
      exact h2
    | none =>
      rw [hv] at h
      simp only at h
      have hne := lescv_none hv
      by_cases h4 : x = 120
      · rw [if_pos h4] at h
        have hxl := (bt_lt hx0).2
        obtain ⟨hk, hx⟩ := bt_at hx0
        have hkI : (m : Int) < (S.size : Int) := by omega
        have a0 : decide ((S.size : Int) ≤ (m : Int)) = false := by simp; omega
        have t110 : ((x : Int) == 110) = false := by simp; omega
        have t114 : ((x : Int) == 114) = false := by simp; omega
        have t116 : ((x : Int) == 116) = false := by simp; omega
        have t92 : ((x : Int) == 92) = false := by simp; omega
        have t39 : ((x : Int) == 39) = false := by simp; omega
        have t34 : ((x : Int) == 34) = false := by simp; omega
        have t120 : ((x : Int) == 120) = true := by simp; omega
        have HD : Hid (∀ w : World, Calls Tryz.prog 165 #[.string S, .int .i64 ((m : Int) + 1)] w fun e w' => e = .returned (.tuple #[.int .u8 (b : Int), .int .i64 (n : Int), .nilIface]) ∧ Below w.heap.size w w') := fun w => by
          have h := xdigits_ok S (m + 1) b n w h hS
          rw [show ((m + 1 : Nat) : Int) = (m : Int) + 1 by omega] at h
          exact h
        clear h h4 hv hne hx0
        go_enter Tryz.func145, Tryz.ntmps145
        go_wp2_with fail
        refine (HD.out _).mono ?_
        rintro e w2 ⟨rfl, hb2⟩
        have HB2 : Hid (Below w.heap.size w w2) := hb2
        clear hb2
        go_wp2_with fail
        go_ret3
        exact ⟨rfl, HB2.out⟩
      · rw [if_neg h4] at h
        cases h
set_option maxRecDepth 100000 in
set_option maxHeartbeats 2000000 in
theorem xescape_bad (S : ByteArray) (m : Nat) (c : Nat × Nat) (w : World) (h : lesc S m = .inl c) (hS : S.size ≤ 9007199254740992) (hm : m ≤ 9007199254740994) :
    Calls Tryz.prog 145 #[.string S, .int .i64 (m : Int)] w fun e w' => Bad (.int .u8 0) c w e w' := by
  unfold lesc at h
  cases hx0 : bt S m with
  | none =>
    rw [hx0] at h
    simp only [Sum.inl.injEq] at h
    have hge := bt_none hx0
    have a0 : decide ((S.size : Int) ≤ (m : Int)) = true := by simp; omega
    have HF : Hid (flt S m = c) := h
    clear h hx0
    go_enter Tryz.func145, Tryz.ntmps145
    go_wp2_with fail
    refine (xfault_at S m c w _ HF.out hS (by omega) (Below.refl _ _)).mono ?_
    rintro e w2 ⟨p, rfl, HP⟩
    unfold flv
    go_wp2_with fail
    go_ret3
    exact ⟨p, rfl, HP⟩
  | some x =>
    rw [hx0] at h
    simp only at h
    have hxl := (bt_lt hx0).2
    obtain ⟨hk, hx⟩ := bt_at hx0
    have hkI : (m : Int) < (S.size : Int) := by omega
    have a0 : decide ((S.size : Int) ≤ (m : Int)) = false := by simp; omega
    clear hx0
    cases hv : lescv x with
    | some b' => rw [hv] at h; cases h
    | none =>
      rw [hv] at h
      simp only at h
      have hne := lescv_none hv
      have t110 : ((x : Int) == 110) = false := by simp; omega
      have t114 : ((x : Int) == 114) = false := by simp; omega
      have t116 : ((x : Int) == 116) = false := by simp; omega
      have t92 : ((x : Int) == 92) = false := by simp; omega
      have t39 : ((x : Int) == 39) = false := by simp; omega
      have t34 : ((x : Int) == 34) = false := by simp; omega
      by_cases h4 : x = 120
      · rw [if_pos h4] at h
        have t120 : ((x : Int) == 120) = true := by simp; omega
        have HD : Hid (∀ w : World, Calls Tryz.prog 165 #[.string S, .int .i64 ((m : Int) + 1)] w fun e w' => Bad (.int .u8 0) c w e w') := fun w => by
          have h := xdigits_bad S (m + 1) c w h hS (by omega)
          rw [show ((m + 1 : Nat) : Int) = (m : Int) + 1 by omega] at h
          exact h
        clear h h4 hv hne
        go_enter Tryz.func145, Tryz.ntmps145
        go_wp2_with fail
        refine (HD.out _).mono ?_
        rintro e w2 ⟨p, rfl, HP⟩
        unfold flv
        go_wp2_with fail
        go_ret3
        exact ⟨p, rfl, HP⟩
      · rw [if_neg h4] at h
        simp only [Sum.inl.injEq] at h
        have t120 : ((x : Int) == 120) = false := by simp; omega
        have HF : Hid (flt S m = c) := h
        clear h h4 hv hne
        go_enter Tryz.func145, Tryz.ntmps145
        go_wp2_with fail
        refine (xfault_at S m c w _ HF.out hS (by omega) (Below.refl _ _)).mono ?_
        rintro e w2 ⟨p, rfl, HP⟩
        unfold flv
        go_wp2_with fail
        go_ret3
        exact ⟨p, rfl, HP⟩
set_option maxRecDepth 100000 in
set_option maxHeartbeats 2000000 in
theorem xsign_ok (S : ByteArray) (k b n : Nat) (w : World) (h : lsg S k = .inr (b, n)) (hS : S.size ≤ 9007199254740992) :
    Calls Tryz.prog 117 #[.string S, .int .i64 (k : Int)] w fun e w' => e = .returned (.tuple #[.int .u8 (b : Int), .int .i64 (n : Int), .nilIface]) ∧ Below w.heap.size w w' := by
  unfold lsg at h
  cases hx0 : bt S k with
  | none => rw [hx0] at h; cases h
  | some x =>
    rw [hx0] at h
    simp only at h
    have hxl := (bt_lt hx0).2
    obtain ⟨hk, hx⟩ := bt_at hx0
    have hkI : (k : Int) < (S.size : Int) := by omega
    have a0 : decide ((S.size : Int) ≤ (k : Int)) = false := by simp; omega
    cases hp : plB x with
    | false => rw [hp, if_pos rfl] at h; cases h
    | true =>
      rw [hp] at h
      simp only [Bool.true_eq_false, if_false] at h
      have HP : Hid (∀ w : World, Calls Tryz.prog 144 #[.int .u8 (x : Int)] w fun e w' => e = .returned (.bool true) ∧ w' = w) := fun w => xplain_any x true hp w hxl
      by_cases h1 : x = 92
      · rw [if_pos h1] at h
        have t92 : ((x : Int) == 92) = true := by simp; omega
        have HE : Hid (∀ w : World, Calls Tryz.prog 145 #[.string S, .int .i64 ((k : Int) + 1)] w fun e w' => e = .returned (.tuple #[.int .u8 (b : Int), .int .i64 (n : Int), .nilIface]) ∧ Below w.heap.size w w') := fun w => by
          have he := xescape_ok S (k + 1) b n w h hS
          rw [show ((k + 1 : Nat) : Int) = (k : Int) + 1 by omega] at he
          exact he
        clear h hx0 h1 hp
        go_enter Tryz.func117, Tryz.ntmps117
        go_wp2_with fail
        refine (HP.out _).mono ?_
        rintro e w1 ⟨rfl, rfl⟩
        go_wp2_with fail
        refine (HE.out _).mono ?_
        rintro e w2 ⟨rfl, hb2⟩
        have HB2 : Hid (Below w1.heap.size w1 w2) := hb2
        clear hb2
        go_wp2_with fail
        go_ret3
        exact ⟨rfl, HB2.out⟩
      · rw [if_neg h1] at h
        simp only [Sum.inr.injEq, Prod.mk.injEq] at h
        obtain ⟨rfl, rfl⟩ := h
        have t92 : ((x : Int) == 92) = false := by simp; omega
        have hNI : ((k + 1 : Nat) : Int) = (k : Int) + 1 := by omega
        rw [hNI]
        clear hx0 h1 hp hNI
        go_enter Tryz.func117, Tryz.ntmps117
        go_wp2_with fail
        refine (HP.out _).mono ?_
        rintro e w1 ⟨rfl, rfl⟩
        go_wp2_with fail
        go_ret3
        exact ⟨rfl, Below.refl _ _⟩
set_option maxRecDepth 100000 in
set_option maxHeartbeats 2000000 in
theorem xsign_bad (S : ByteArray) (k : Nat) (c : Nat × Nat) (w : World) (h : lsg S k = .inl c) (hS : S.size ≤ 9007199254740992) (hk9 : k ≤ 9007199254740993) :
    Calls Tryz.prog 117 #[.string S, .int .i64 (k : Int)] w fun e w' => Bad (.int .u8 0) c w e w' := by
  unfold lsg at h
  cases hx0 : bt S k with
  | none =>
    rw [hx0] at h
    simp only [Sum.inl.injEq] at h
    have hge := bt_none hx0
    have a0 : decide ((S.size : Int) ≤ (k : Int)) = true := by simp; omega
    have HF : Hid (flt S k = c) := h
    clear h hx0
    go_enter Tryz.func117, Tryz.ntmps117
    go_wp2_with fail
    refine (xfault_at S k c w _ HF.out hS (by omega) (Below.refl _ _)).mono ?_
    rintro e w2 ⟨p, rfl, HP⟩
    unfold flv
    go_wp2_with fail
    go_ret3
    exact ⟨p, rfl, HP⟩
  | some x =>
    rw [hx0] at h
    simp only at h
    have hxl := (bt_lt hx0).2
    obtain ⟨hk, hx⟩ := bt_at hx0
    have hkI : (k : Int) < (S.size : Int) := by omega
    have a0 : decide ((S.size : Int) ≤ (k : Int)) = false := by simp; omega
    cases hp : plB x with
    | false =>
      rw [hp, if_pos rfl] at h
      simp only [Sum.inl.injEq] at h
      have HF : Hid (flt S k = c) := h
      have HP : Hid (∀ w : World, Calls Tryz.prog 144 #[.int .u8 (x : Int)] w fun e w' => e = .returned (.bool false) ∧ w' = w) := fun w => xplain_any x false hp w hxl
      clear h hx0 hp
      go_enter Tryz.func117, Tryz.ntmps117
      go_wp2_with fail
      refine (HP.out _).mono ?_
      rintro e w1 ⟨rfl, rfl⟩
      go_wp2_with fail
      refine (xfault_at S k c w1 _ HF.out hS (by omega) (Below.refl _ _)).mono ?_
      rintro e w2 ⟨p, rfl, HQ⟩
      unfold flv
      go_wp2_with fail
      go_ret3
      exact ⟨p, rfl, HQ⟩
    | true =>
      rw [hp] at h
      simp only [Bool.true_eq_false, if_false] at h
      have HP : Hid (∀ w : World, Calls Tryz.prog 144 #[.int .u8 (x : Int)] w fun e w' => e = .returned (.bool true) ∧ w' = w) := fun w => xplain_any x true hp w hxl
      by_cases h1 : x = 92
      · rw [if_pos h1] at h
        have t92 : ((x : Int) == 92) = true := by simp; omega
        have HE : Hid (∀ w : World, Calls Tryz.prog 145 #[.string S, .int .i64 ((k : Int) + 1)] w fun e w' => Bad (.int .u8 0) c w e w') := fun w => by
          have he := xescape_bad S (k + 1) c w h hS (by omega)
          rw [show ((k + 1 : Nat) : Int) = (k : Int) + 1 by omega] at he
          exact he
        clear h hx0 h1 hp
        go_enter Tryz.func117, Tryz.ntmps117
        go_wp2_with fail
        refine (HP.out _).mono ?_
        rintro e w1 ⟨rfl, rfl⟩
        go_wp2_with fail
        refine (HE.out _).mono ?_
        rintro e w2 ⟨p, rfl, HQ⟩
        unfold flv
        go_wp2_with fail
        go_ret3
        exact ⟨p, rfl, HQ⟩
      · rw [if_neg h1] at h; cases h
end Go.Proofs.YtggmoneicdkamaaGreatDoor
