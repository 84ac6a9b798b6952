/-
  What class.takeEscape and takeSign answer at any text. Conditions: those that each theorem names.
-/
import Derived.Test.YtkofhmmnlapnnaaGreatDoorKG2
namespace Go.Proofs.YtkofhmmnlapnnaaGreatDoor
open Go.RowKit
set_option linter.unusedVariables false
theorem mark_calls (b : Nat) (v : Bool) (hb : b < 256) (h : mark b = v) : Hid (∀ w : World, Calls Tryz.prog 81 #[.int .u8 (b : Int)] w fun e w' => e = .returned (.bool v) ∧ w' = w) := fun w => h ▸ mark_any b w hb
theorem print_calls (b : Nat) (v : Bool) (hb : b < 256) (h : (decide (32 ≤ b) && decide (b ≤ 126)) = v) : Hid (∀ w : World, Calls Tryz.prog 82 #[.int .u8 (b : Int)] w fun e w' => e = .returned (.bool v) ∧ w' = w) := fun w => h ▸ print_any b w hb
set_option maxRecDepth 100000 in
set_option maxHeartbeats 2000000 in
theorem escape_ok (S : ByteArray) (m b n : Nat) (w : World) (h : esc S m = .inr (b, n)) (hS : S.size ≤ 9007199254740992) :
    Calls Tryz.prog 80 #[.string S, .int .i64 (m : Int)] w fun e w' => e = .returned (.tuple #[.int .u8 (b : Int), .int .i64 (n : Int), .nilIface]) ∧ Below w.heap.size w w' := by
  unfold esc at h
  cases hx0 : bt S m with
  | none => rw [hx0] at h; cases h
  | some x =>
    rw [hx0] at h
    simp only at h
    have hxl := (bt_lt hx0).2
    obtain ⟨hk, hx⟩ := bt_at hx0
    have hkI : (m : Int) < (S.size : Int) := by omega
    have a0 : decide ((S.size : Int) ≤ (m : Int)) = false := by simp; omega
    clear hx0
    cases hv : escv x with
    | some b' =>
      rw [hv] at h
      simp only [Sum.inr.injEq, Prod.mk.injEq] at h
      obtain ⟨rfl, rfl⟩ := h
      have hn : ((m + 1 : Nat) : Int) = (m : Int) + 1 := by omega
      rw [hn]
      clear hn
      unfold escv at hv
      by_cases h1 : x = 110
      · rw [if_pos h1] at hv
        obtain rfl : b' = 10 := by simpa using hv.symm
        have t110 : ((x : Int) == 110) = true := by simp; omega
        clear h1 hv
        go_enter Tryz.func80, Tryz.ntmps80
        go_wp2_with fail
        go_ret3
        exact ⟨rfl, Below.refl _ _⟩
      · rw [if_neg h1] at hv
        have t110 : ((x : Int) == 110) = false := by simp; omega
        by_cases h2 : x = 114
        · rw [if_pos h2] at hv
          obtain rfl : b' = 13 := by simpa using hv.symm
          have t114 : ((x : Int) == 114) = true := by simp; omega
          clear h1 h2 hv
          go_enter Tryz.func80, Tryz.ntmps80
          go_wp2_with fail
          go_ret3
          exact ⟨rfl, Below.refl _ _⟩
        · rw [if_neg h2] at hv
          have t114 : ((x : Int) == 114) = false := by simp; omega
          by_cases h3 : x = 116
          · rw [if_pos h3] at hv
            obtain rfl : b' = 9 := by simpa using hv.symm
            have t116 : ((x : Int) == 116) = true := by simp; omega
            clear h1 h2 h3 hv
            go_enter Tryz.func80, Tryz.ntmps80
            go_wp2_with fail
            go_ret3
            exact ⟨rfl, Below.refl _ _⟩
          · rw [if_neg h3] at hv
            have t116 : ((x : Int) == 116) = false := by simp; omega
            cases hm : mark x with
            | false => rw [hm] at hv; simp at hv
            | true =>
              rw [hm] at hv
              obtain rfl : x = b' := by simpa using hv
              have HMk := mark_calls x true hxl hm
              clear h1 h2 h3 hv hm
              go_enter Tryz.func80, Tryz.ntmps80
              go_wp2_with fail
              refine (HMk.out _).mono ?_
              rintro e w1 ⟨rfl, rfl⟩
              go_wp2_with fail
              go_ret3
              exact ⟨rfl, Below.refl _ _⟩
    | none =>
      rw [hv] at h
      simp only at h
      unfold escv at hv
      have h1 : x ≠ 110 := fun e => by rw [if_pos e] at hv; cases hv
      rw [if_neg h1] at hv
      have h2 : x ≠ 114 := fun e => by rw [if_pos e] at hv; cases hv
      rw [if_neg h2] at hv
      have h3 : x ≠ 116 := fun e => by rw [if_pos e] at hv; cases hv
      rw [if_neg h3] at hv
      have hm : mark x = false := by cases hm : mark x with | false => rfl | true => rw [hm] at hv; simp at hv
      by_cases h4 : x = 120
      · rw [if_pos h4] at h
        have t110 : ((x : Int) == 110) = false := by simp; omega
        have t114 : ((x : Int) == 114) = false := by simp; omega
        have t116 : ((x : Int) == 116) = false := by simp; omega
        have t120 : ((x : Int) == 120) = true := by simp; omega
        have HMk := mark_calls x false hxl hm
        have HD : Hid (∀ w : World, Calls Tryz.prog 87 #[.string S, .int .i64 ((m : Int) + 1)] w fun e w' => e = .returned (.tuple #[.int .u8 (b : Int), .int .i64 (n : Int), .nilIface]) ∧ Below w.heap.size w w') := fun w => by
          have h := digits_ok S (m + 1) b n w h hS
          rw [show ((m + 1 : Nat) : Int) = (m : Int) + 1 by omega] at h
          exact h
        clear h h1 h2 h3 h4 hv hm
        go_enter Tryz.func80, Tryz.ntmps80
        go_wp2_with fail
        refine (HMk.out _).mono ?_
        rintro e w1 ⟨rfl, rfl⟩
        go_wp2_with fail
        refine (HD.out _).mono ?_
        rintro e w2 ⟨rfl, hb2⟩
        have HB2 : Hid (Below w1.heap.size w1 w2) := hb2
        clear hb2
        go_wp2_with fail
        go_ret3
        exact ⟨rfl, HB2.out⟩
      · rw [if_neg h4] at h
        cases h
set_option maxRecDepth 100000 in
set_option maxHeartbeats 2000000 in
theorem escape_bad (S : ByteArray) (m : Nat) (c : Nat × Nat) (w : World) (h : esc S m = .inl c) (hS : S.size ≤ 9007199254740992) (hm : m ≤ 9007199254740996) :
    Calls Tryz.prog 80 #[.string S, .int .i64 (m : Int)] w fun e w' => Bad (.int .u8 0) c w e w' := by
  unfold esc at h
  cases hx0 : bt S m with
  | none =>
    rw [hx0] at h
    simp only [Sum.inl.injEq] at h
    have := bt_none hx0
    have a0 : decide ((S.size : Int) ≤ (m : Int)) = true := by simp; omega
    have HF : Hid (flt S m = c) := h
    clear h hx0
    go_enter Tryz.func80, Tryz.ntmps80
    go_wp2_with fail
    refine (fault_at S m c w _ HF.out hS (by omega) (Below.refl _ _)).mono ?_
    rintro e w2 ⟨p, rfl, HP⟩
    unfold flv
    go_wp2_with fail
    go_ret3
    exact ⟨p, rfl, HP⟩
  | some x =>
    rw [hx0] at h
    simp only at h
    have hxl := (bt_lt hx0).2
    obtain ⟨hk, hx⟩ := bt_at hx0
    have hkI : (m : Int) < (S.size : Int) := by omega
    have a0 : decide ((S.size : Int) ≤ (m : Int)) = false := by simp; omega
    clear hx0
    cases hv : escv x with
    | some b' => rw [hv] at h; cases h
    | none =>
      rw [hv] at h
      simp only at h
      unfold escv at hv
      have h1 : x ≠ 110 := fun e => by rw [if_pos e] at hv; cases hv
      rw [if_neg h1] at hv
      have h2 : x ≠ 114 := fun e => by rw [if_pos e] at hv; cases hv
      rw [if_neg h2] at hv
      have h3 : x ≠ 116 := fun e => by rw [if_pos e] at hv; cases hv
      rw [if_neg h3] at hv
      have hmk : mark x = false := by cases hm : mark x with | false => rfl | true => rw [hm] at hv; simp at hv
      have t110 : ((x : Int) == 110) = false := by simp; omega
      have t114 : ((x : Int) == 114) = false := by simp; omega
      have t116 : ((x : Int) == 116) = false := by simp; omega
      have HMk := mark_calls x false hxl hmk
      by_cases h4 : x = 120
      · rw [if_pos h4] at h
        have t120 : ((x : Int) == 120) = true := by simp; omega
        have HD : Hid (∀ w : World, Calls Tryz.prog 87 #[.string S, .int .i64 ((m : Int) + 1)] w fun e w' => Bad (.int .u8 0) c w e w') := fun w => by
          have h := digits_bad S (m + 1) c w h hS (by omega)
          rw [show ((m + 1 : Nat) : Int) = (m : Int) + 1 by omega] at h
          exact h
        clear h h1 h2 h3 h4 hv hmk
        go_enter Tryz.func80, Tryz.ntmps80
        go_wp2_with fail
        refine (HMk.out _).mono ?_
        rintro e w1 ⟨rfl, rfl⟩
        go_wp2_with fail
        refine (HD.out _).mono ?_
        rintro e w2 ⟨p, rfl, HP⟩
        unfold flv
        go_wp2_with fail
        go_ret3
        exact ⟨p, rfl, HP⟩
      · rw [if_neg h4] at h
        simp only [Sum.inl.injEq] at h
        have t120 : ((x : Int) == 120) = false := by simp; omega
        have HF : Hid (flt S m = c) := h
        clear h h1 h2 h3 h4 hv hmk
        go_enter Tryz.func80, Tryz.ntmps80
        go_wp2_with fail
        refine (HMk.out _).mono ?_
        rintro e w1 ⟨rfl, rfl⟩
        go_wp2_with fail
        refine (fault_at S m c w1 _ HF.out hS (by omega) (Below.refl _ _)).mono ?_
        rintro e w2 ⟨p, rfl, HP⟩
        unfold flv
        go_wp2_with fail
        go_ret3
        exact ⟨p, rfl, HP⟩
set_option maxRecDepth 100000 in
set_option maxHeartbeats 2000000 in
theorem tsign_ok (S : ByteArray) (k b n : Nat) (w : World) (h : sg S k = .inr (b, n)) (hS : S.size ≤ 9007199254740992) :
    Calls Tryz.prog 75 #[.string S, .int .i64 (k : Int)] w fun e w' => e = .returned (.tuple #[.int .u8 (b : Int), .int .i64 (n : Int), .nilIface]) ∧ Below w.heap.size w w' := by
  unfold sg at h
  cases hx0 : bt S k with
  | none => rw [hx0] at h; cases h
  | some x =>
    rw [hx0] at h
    simp only at h
    have hxl := (bt_lt hx0).2
    obtain ⟨hk, hx⟩ := bt_at hx0
    have hkI : (k : Int) < (S.size : Int) := by omega
    by_cases h1 : x = 92
    · rw [if_pos h1] at h
      subst h1
      have HB : Hid (∀ w : World, Calls Tryz.prog 65 #[.string S, .int .i64 (k : Int), .int .u8 92] w fun e w' => e = .returned (.bool true) ∧ Below w.heap.size w w') := fun w => begins_yes S k 92 w hx0 hS
      have HE : Hid (∀ w : World, Calls Tryz.prog 80 #[.string S, .int .i64 ((k : Int) + 1)] w fun e w' => e = .returned (.tuple #[.int .u8 (b : Int), .int .i64 (n : Int), .nilIface]) ∧ Below w.heap.size w w') := fun w => by
        have he := escape_ok S (k + 1) b n w h hS
        rw [show ((k + 1 : Nat) : Int) = (k : Int) + 1 by omega] at he
        exact he
      clear h hx0 hx
      go_enter Tryz.func75, Tryz.ntmps75
      go_wp2_with fail
      refine (HB.out _).mono ?_
      rintro e w1 ⟨rfl, hb1⟩
      have HB1 : Hid (Below w.heap.size w w1) := hb1
      clear hb1
      go_wp2_with fail
      refine (HE.out _).mono ?_
      rintro e w2 ⟨rfl, hb2⟩
      have HB2 : Hid (Below w.heap.size w w2) := HB1.out.trans (hb2.mono HB1.out.size)
      clear hb2
      go_wp2_with fail
      go_ret3
      exact ⟨rfl, HB2.out⟩
    · rw [if_neg h1] at h
      cases hp : plain x with
      | false => rw [hp] at h; simp at h
      | true =>
        rw [hp, if_pos rfl] at h
        simp only [Sum.inr.injEq, Prod.mk.injEq] at h
        obtain ⟨rfl, rfl⟩ := h
        unfold plain at hp
        simp only [Bool.and_eq_true, Bool.not_eq_true'] at hp
        have HB : Hid (∀ w : World, Calls Tryz.prog 65 #[.string S, .int .i64 (k : Int), .int .u8 92] w fun e w' => e = .returned (.bool false) ∧ Below w.heap.size w w') := fun w => begins_no S k 92 w (by omega) (by rw [hx0]; simpa using h1) hS
        have HM := mark_calls x false hxl hp.1
        have HP := print_calls x true hxl (by rw [Bool.and_eq_true]; exact hp.2)
        have a0 : decide ((S.size : Int) ≤ (k : Int)) = false := by simp; omega
        have hNI : ((k + 1 : Nat) : Int) = (k : Int) + 1 := by omega
        rw [hNI]
        clear hp h1 hx0 hNI
        go_enter Tryz.func75, Tryz.ntmps75
        go_wp2_with fail
        refine (HB.out _).mono ?_
        rintro e w1 ⟨rfl, hb1⟩
        have HB1 : Hid (Below w.heap.size w w1) := hb1
        clear hb1
        go_wp2_with fail
        refine (HM.out _).mono ?_
        rintro e w2 ⟨rfl, rfl⟩
        go_wp2_with fail
        refine (HP.out _).mono ?_
        rintro e w3 ⟨rfl, rfl⟩
        go_wp2_with fail
        go_ret3
        exact ⟨rfl, HB1.out⟩
theorem Bad.step {z : Value} {c : Nat × Nat} {w w1 w' : World} {e : Ending} (h : Bad z c w1 e w') (hb : Below w.heap.size w w1) : Bad z c w e w' := by
  obtain ⟨p, he, hp⟩ := h
  exact ⟨p, he, Nat.le_trans hb.size hp.out.1, hp.out.2.1, hb.trans (hp.out.2.2.mono hb.size)⟩
set_option maxRecDepth 100000 in
set_option maxHeartbeats 2000000 in
theorem tsign_bad (S : ByteArray) (k : Nat) (c : Nat × Nat) (w : World) (h : sg S k = .inl c) (hS : S.size ≤ 9007199254740992) (hk : k ≤ 9007199254740995) :
    Calls Tryz.prog 75 #[.string S, .int .i64 (k : Int)] w fun e w' => Bad (.int .u8 0) c w e w' := by
  unfold sg at h
  cases hx0 : bt S k with
  | none =>
    rw [hx0] at h
    simp only [Sum.inl.injEq] at h
    have hge := bt_none hx0
    have a0 : decide ((S.size : Int) ≤ (k : Int)) = true := by simp; omega
    have HB : Hid (∀ w : World, Calls Tryz.prog 65 #[.string S, .int .i64 (k : Int), .int .u8 92] w fun e w' => e = .returned (.bool false) ∧ Below w.heap.size w w') := fun w => begins_end S k 92 w hge hS
    have HF : Hid (flt S k = c) := h
    clear h hx0
    go_enter Tryz.func75, Tryz.ntmps75
    go_wp2_with fail
    refine (HB.out _).mono ?_
    rintro e w1 ⟨rfl, hb1⟩
    have HB1 : Hid (Below w.heap.size w w1) := hb1
    clear hb1
    go_wp2_with fail
    refine (fault_at S k c w _ HF.out hS (by omega) HB1.out).mono ?_
    rintro e w2 ⟨p, rfl, HP⟩
    unfold flv
    go_wp2_with fail
    go_ret3
    exact ⟨p, rfl, HP⟩
  | some x =>
    rw [hx0] at h
    simp only at h
    have hxl := (bt_lt hx0).2
    obtain ⟨hkk, hx⟩ := bt_at hx0
    have hkI : (k : Int) < (S.size : Int) := by omega
    by_cases h1 : x = 92
    · rw [if_pos h1] at h
      subst h1
      have HB : Hid (∀ w : World, Calls Tryz.prog 65 #[.string S, .int .i64 (k : Int), .int .u8 92] w fun e w' => e = .returned (.bool true) ∧ Below w.heap.size w w') := fun w => begins_yes S k 92 w hx0 hS
      have HE : Hid (∀ w : World, Calls Tryz.prog 80 #[.string S, .int .i64 ((k : Int) + 1)] w fun e w' => Bad (.int .u8 0) c w e w') := fun w => by
        have he := escape_bad S (k + 1) c w h hS (by omega)
        rw [show ((k + 1 : Nat) : Int) = (k : Int) + 1 by omega] at he
        exact he
      clear h hx0 hx
      go_enter Tryz.func75, Tryz.ntmps75
      go_wp2_with fail
      refine (HB.out _).mono ?_
      rintro e w1 ⟨rfl, hb1⟩
      have HB1 : Hid (Below w.heap.size w w1) := hb1
      clear hb1
      go_wp2_with fail
      refine (HE.out _).mono ?_
      intro e w2 hbad
      obtain ⟨p, rfl, HP⟩ := hbad.step HB1.out
      unfold flv
      go_wp2_with fail
      go_ret3
      exact ⟨p, rfl, HP⟩
    · rw [if_neg h1] at h
      cases hp : plain x with
      | true => rw [hp, if_pos rfl] at h; cases h
      | false =>
        rw [hp] at h
        simp at h
        have HF : Hid (flt S k = c) := h
        have HB : Hid (∀ w : World, Calls Tryz.prog 65 #[.string S, .int .i64 (k : Int), .int .u8 92] w fun e w' => e = .returned (.bool false) ∧ Below w.heap.size w w') := fun w => begins_no S k 92 w (by omega) (by rw [hx0]; simpa using h1) hS
        have a0 : decide ((S.size : Int) ≤ (k : Int)) = false := by simp; omega
        unfold plain at hp
        cases hm : mark x with
        | true =>
          have HM := mark_calls x true hxl hm
          clear hp h1 hx0 h hm
          go_enter Tryz.func75, Tryz.ntmps75
          go_wp2_with fail
          refine (HB.out _).mono ?_
          rintro e w1 ⟨rfl, hb1⟩
          have HB1 : Hid (Below w.heap.size w w1) := hb1
          clear hb1
          go_wp2_with fail
          refine (HM.out _).mono ?_
          rintro e w2 ⟨rfl, rfl⟩
          go_wp2_with fail
          refine (fault_at S k c w _ HF.out hS (by omega) HB1.out).mono ?_
          rintro e w3 ⟨p, rfl, HP⟩
          unfold flv
          go_wp2_with fail
          go_ret3
          exact ⟨p, rfl, HP⟩
        | false =>
          have HM := mark_calls x false hxl hm
          have HQ := print_calls x false hxl (by rw [hm] at hp; simpa using hp)
          clear hp h1 hx0 h hm
          go_enter Tryz.func75, Tryz.ntmps75
          go_wp2_with fail
          refine (HB.out _).mono ?_
          rintro e w1 ⟨rfl, hb1⟩
          have HB1 : Hid (Below w.heap.size w w1) := hb1
          clear hb1
          go_wp2_with fail
          refine (HM.out _).mono ?_
          rintro e w2 ⟨rfl, rfl⟩
          go_wp2_with fail
          refine (HQ.out _).mono ?_
          rintro e w2 ⟨rfl, rfl⟩
          go_wp2_with fail
          refine (fault_at S k c w _ HF.out hS (by omega) HB1.out).mono ?_
          rintro e w3 ⟨p, rfl, HP⟩
          unfold flv
          go_wp2_with fail
          go_ret3
          exact ⟨p, rfl, HP⟩
end Go.Proofs.YtkofhmmnlapnnaaGreatDoor
