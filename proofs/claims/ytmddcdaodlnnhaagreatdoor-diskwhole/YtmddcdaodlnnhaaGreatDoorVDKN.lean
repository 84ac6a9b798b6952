/-
  What lex.Name and the document's own Name answer at any text. Conditions: those that each theorem names.
-/
import Derived.Test.YtmddcdaodlnnhaaGreatDoorVFB
namespace Go.Proofs.YtmddcdaodlnnhaaGreatDoor
open Go.RowKit
set_option linter.unusedVariables false
def At (S : ByteArray) (k x : Nat) : Prop := ∃ h : k < S.size, (S[k]).toNat = x
theorem At.lt {S : ByteArray} {k x : Nat} (h : At S k x) : k < S.size := h.1
theorem At.u8 {S : ByteArray} {k x : Nat} (h : At S k x) : x < 256 := by
  obtain ⟨h1, rfl⟩ := h
  exact (S[k]).toNat_lt
/-- The byte at k. -/
def bt (S : ByteArray) (k : Nat) : Option Nat := if h : k < S.size then some (S[k]).toNat else none
theorem bt_at {S : ByteArray} {k x : Nat} (h : bt S k = some x) : At S k x := by
  unfold bt at h
  split at h
  · rename_i hk; exact ⟨hk, by simpa using h⟩
  · cases h
theorem bt_of {S : ByteArray} {k x : Nat} (h : At S k x) : bt S k = some x := by
  obtain ⟨hk, hx⟩ := h
  unfold bt
  rw [dif_pos hk, hx]
theorem bt_none {S : ByteArray} {k : Nat} (h : bt S k = none) : S.size ≤ k := by
  unfold bt at h
  split at h
  · cases h
  · omega
theorem bt_ge {S : ByteArray} {k : Nat} (h : S.size ≤ k) : bt S k = none := by
  unfold bt
  rw [dif_neg (by omega)]
theorem bt_lt {S : ByteArray} {k x : Nat} (h : bt S k = some x) : k < S.size ∧ x < 256 := ⟨(bt_at h).lt, (bt_at h).u8⟩
def letB (x : Nat) : Bool := (decide (65 ≤ x) && decide (x ≤ 90)) || ((decide (97 ≤ x) && decide (x ≤ 122)) || x == 95)
def digB (x : Nat) : Bool := decide (48 ≤ x) && decide (x ≤ 57)
set_option maxRecDepth 100000 in
set_option maxHeartbeats 1000000 in
theorem xletter_any (x : Nat) (v : Bool) (hv : letB x = v) (w : World) (hx : x < 256) :
    Calls Tryz.prog 66 #[.int .u8 (x : Int)] w fun e w' => e = .returned (.bool v) ∧ w' = w := by
  subst hv
  have hc : x < 65 ∨ (65 ≤ x ∧ x ≤ 90) ∨ (90 < x ∧ x < 95) ∨ x = 95 ∨ x = 96 ∨ (97 ≤ x ∧ x ≤ 122) ∨ 122 < x := by omega
  rcases hc with h | h | h | h | h | h | h
  · have hv : letB x = false := by unfold letB; simp; omega
    have a1 : decide (65 ≤ (x : Int)) = false := by simp; omega
    have a3 : decide (97 ≤ (x : Int)) = false := by simp; omega
    have a5 : ((x : Int) == 95) = false := by simp; omega
    rw [hv]; clear h hv
    go_enter Tryz.func66, Tryz.ntmps66
    go_wp2_with fail
    go_ret
    exact ⟨rfl, rfl⟩
  · have hv : letB x = true := by unfold letB; simp; omega
    have a1 : decide (65 ≤ (x : Int)) = true := by simp; omega
    have a2 : decide ((x : Int) ≤ 90) = true := by simp; omega
    rw [hv]; clear h hv
    go_enter Tryz.func66, Tryz.ntmps66
    go_wp2_with fail
    go_ret
    exact ⟨rfl, rfl⟩
  · have hv : letB x = false := by unfold letB; simp; omega
    have a1 : decide (65 ≤ (x : Int)) = true := by simp; omega
    have a2 : decide ((x : Int) ≤ 90) = false := by simp; omega
    have a3 : decide (97 ≤ (x : Int)) = false := by simp; omega
    have a5 : ((x : Int) == 95) = false := by simp; omega
    rw [hv]; clear h hv
    go_enter Tryz.func66, Tryz.ntmps66
    go_wp2_with fail
    go_ret
    exact ⟨rfl, rfl⟩
  · have hv : letB x = true := by unfold letB; simp; omega
    have a1 : decide (65 ≤ (x : Int)) = true := by simp; omega
    have a2 : decide ((x : Int) ≤ 90) = false := by simp; omega
    have a3 : decide (97 ≤ (x : Int)) = false := by simp; omega
    have a5 : ((x : Int) == 95) = true := by simp; omega
    rw [hv]; clear h hv
    go_enter Tryz.func66, Tryz.ntmps66
    go_wp2_with fail
    go_ret
    exact ⟨rfl, rfl⟩
  · have hv : letB x = false := by unfold letB; simp; omega
    have a1 : decide (65 ≤ (x : Int)) = true := by simp; omega
    have a2 : decide ((x : Int) ≤ 90) = false := by simp; omega
    have a3 : decide (97 ≤ (x : Int)) = false := by simp; omega
    have a5 : ((x : Int) == 95) = false := by simp; omega
    rw [hv]; clear h hv
    go_enter Tryz.func66, Tryz.ntmps66
    go_wp2_with fail
    go_ret
    exact ⟨rfl, rfl⟩
  · have hv : letB x = true := by unfold letB; simp; omega
    have a1 : decide (65 ≤ (x : Int)) = true := by simp; omega
    have a2 : decide ((x : Int) ≤ 90) = false := by simp; omega
    have a3 : decide (97 ≤ (x : Int)) = true := by simp; omega
    have a4 : decide ((x : Int) ≤ 122) = true := by simp; omega
    rw [hv]; clear h hv
    go_enter Tryz.func66, Tryz.ntmps66
    go_wp2_with fail
    go_ret
    exact ⟨rfl, rfl⟩
  · have hv : letB x = false := by unfold letB; simp; omega
    have a1 : decide (65 ≤ (x : Int)) = true := by simp; omega
    have a2 : decide ((x : Int) ≤ 90) = false := by simp; omega
    have a3 : decide (97 ≤ (x : Int)) = true := by simp; omega
    have a4 : decide ((x : Int) ≤ 122) = false := by simp; omega
    have a5 : ((x : Int) == 95) = false := by simp; omega
    rw [hv]; clear h hv
    go_enter Tryz.func66, Tryz.ntmps66
    go_wp2_with fail
    go_ret
    exact ⟨rfl, rfl⟩
set_option maxRecDepth 100000 in
set_option maxHeartbeats 1000000 in
theorem xdigitB_any (x : Nat) (v : Bool) (hv : digB x = v) (w : World) (hx : x < 256) :
    Calls Tryz.prog 75 #[.int .u8 (x : Int)] w fun e w' => e = .returned (.bool v) ∧ w' = w := by
  subst hv
  unfold digB
  by_cases h1 : 48 ≤ x
  · have a1 : decide (48 ≤ (x : Int)) = true := by simp; omega
    by_cases h2 : x ≤ 57
    · have a2 : decide ((x : Int) ≤ 57) = true := by simp; omega
      rw [decide_eq_true h1, decide_eq_true h2]
      clear h1 h2
      go_enter Tryz.func75, Tryz.ntmps75
      go_wp2_with fail
      go_ret
      exact ⟨rfl, rfl⟩
    · have a2 : decide ((x : Int) ≤ 57) = false := by simp; omega
      rw [decide_eq_true h1, decide_eq_false h2]
      clear h1 h2
      go_enter Tryz.func75, Tryz.ntmps75
      go_wp2_with fail
      go_ret
      exact ⟨rfl, rfl⟩
  · have a1 : decide (48 ≤ (x : Int)) = false := by simp; omega
    rw [decide_eq_false h1]
    clear h1
    go_enter Tryz.func75, Tryz.ntmps75
    go_wp2_with fail
    go_ret
    exact ⟨rfl, rfl⟩
/-- Where the letters and digits end that begin at k. -/
def nend (S : ByteArray) : Nat → Nat → Nat
  | 0, k => k
  | f + 1, k => match bt S k with
    | some x => if letB x || digB x then nend S f (k + 1) else k
    | none => k
def ne (S : ByteArray) (k : Nat) : Nat := nend S (S.size - k) k
theorem ne_none {S : ByteArray} {k : Nat} (h : bt S k = none) : ne S k = k := by
  have := bt_none h
  unfold ne
  rw [show S.size - k = 0 by omega, nend]
theorem ne_eq {S : ByteArray} {k x : Nat} (h : bt S k = some x) : ne S k = if letB x || digB x then ne S (k + 1) else k := by
  have := (bt_lt h).1
  unfold ne
  rw [show S.size - k = (S.size - (k + 1)) + 1 by omega, nend, h]
theorem nend_le (S : ByteArray) : ∀ f k : Nat, k ≤ nend S f k ∧ (f = S.size - k → k ≤ S.size → nend S f k ≤ S.size)
  | 0, k => ⟨Nat.le_refl _, fun _ h => h⟩
  | f + 1, k => by
    rw [nend]
    cases hb : bt S k with
    | none => exact ⟨Nat.le_refl _, fun _ h => h⟩
    | some x =>
      have := (bt_lt hb).1
      have ih := nend_le S f (k + 1)
      simp only
      split
      · exact ⟨by omega, fun h1 h2 => ih.2 (by omega) (by omega)⟩
      · exact ⟨Nat.le_refl _, fun _ h => h⟩
theorem ne_le {S : ByteArray} {k : Nat} (h : k ≤ S.size) : k ≤ ne S k ∧ ne S k ≤ S.size := ⟨(nend_le S _ k).1, (nend_le S _ k).2 rfl h⟩
set_option maxRecDepth 100000 in
set_option maxHeartbeats 4000000 in
theorem xnameEnd_any (S : ByteArray) (p : Nat) (w : World) (hp : p ≤ S.size) (hS : S.size ≤ 9007199254740992) :
    Calls Tryz.prog 67 #[.string S, .int .i64 (p : Int)] w fun e w' => e = .returned (.int .i64 (ne S p : Int)) ∧ w' = w := by
  obtain ⟨R, hR⟩ : ∃ R, R = ne S p := ⟨_, rfl⟩
  rw [← hR]
  have HR : Hid (ne S p = R) := hR.symm
  clear hR
  go_enter Tryz.func67, Tryz.ntmps67
  go_wp2_with fail
  go_loopw [1] (fun a wr => ∃ k : Nat, a = .int .i64 (k : Int) ∧ k ≤ S.size ∧ Hid (ne S k = R) ∧ wr = w) (fun a _ => S.size - (intOf a).toNat)
  case atStart => exact ⟨p, rfl, hp, HR, rfl⟩
  case round =>
    obtain ⟨k, rfl, hks, HM, rfl⟩ := hrel
    cases hb : bt S k with
    | none =>
      have hge := bt_none hb
      have a0 : decide ((k : Int) < (S.size : Int)) = false := by simp; omega
      have HK : Hid (R = k) := by show _ = _; rw [← HM.out, ne_none hb]
      clear hb
      go_wp2_with fail
      go_ret
      rw [HK.out]
      exact ⟨rfl, rfl⟩
    | some x =>
      have hxl := (bt_lt hb).2
      obtain ⟨hk, hxx⟩ := bt_at hb
      have hkI : (k : Int) < (S.size : Int) := by omega
      have a0 : decide ((k : Int) < (S.size : Int)) = true := by simp; omega
      cases hl : letB x with
      | true =>
        have HM2 : Hid (ne S (k + 1) = R) := by show _ = _; rw [← HM.out, ne_eq hb, hl]; simp
        have HL : Hid (∀ w : World, Calls Tryz.prog 66 #[.int .u8 (x : Int)] w fun e w' => e = .returned (.bool true) ∧ w' = w) := fun w => xletter_any x true hl w hxl
        clear hb hl HM
        go_wp2_with fail
        refine (HL.out _).mono ?_
        rintro e w1 ⟨rfl, rfl⟩
        go_wp2_with fail
        go_roundw
        case rel => exact ⟨k + 1, by go_num, by omega, HM2, trivial⟩
        case measure => simp [intOf]; omega
      | false =>
        have HL : Hid (∀ w : World, Calls Tryz.prog 66 #[.int .u8 (x : Int)] w fun e w' => e = .returned (.bool false) ∧ w' = w) := fun w => xletter_any x false hl w hxl
        cases hd : digB x with
        | true =>
          have HM2 : Hid (ne S (k + 1) = R) := by show _ = _; rw [← HM.out, ne_eq hb, hl, hd]; simp
          have HD : Hid (∀ w : World, Calls Tryz.prog 75 #[.int .u8 (x : Int)] w fun e w' => e = .returned (.bool true) ∧ w' = w) := fun w => xdigitB_any x true hd w hxl
          clear hb hl hd HM
          go_wp2_with fail
          refine (HL.out _).mono ?_
          rintro e w1 ⟨rfl, rfl⟩
          go_wp2_with fail
          refine (HD.out _).mono ?_
          rintro e w2 ⟨rfl, rfl⟩
          go_wp2_with fail
          go_roundw
          case rel => exact ⟨k + 1, by go_num, by omega, HM2, trivial⟩
          case measure => simp [intOf]; omega
        | false =>
          have HK : Hid (R = k) := by show _ = _; rw [← HM.out, ne_eq hb, hl, hd]; simp
          have HD : Hid (∀ w : World, Calls Tryz.prog 75 #[.int .u8 (x : Int)] w fun e w' => e = .returned (.bool false) ∧ w' = w) := fun w => xdigitB_any x false hd w hxl
          clear hb hl hd HM
          go_wp2_with fail
          refine (HL.out _).mono ?_
          rintro e w1 ⟨rfl, rfl⟩
          go_wp2_with fail
          refine (HD.out _).mono ?_
          rintro e w2 ⟨rfl, rfl⟩
          go_wp2_with fail
          go_ret
          rw [HK.out]
          exact ⟨rfl, rfl⟩
/-- Is a text a name? -/
def nmS (S : ByteArray) : Bool := match bt S 0 with
  | none => false
  | some x => decide (S.size ≤ 32) && letB x && decide (ne S 0 = S.size)
set_option maxRecDepth 100000 in
set_option maxHeartbeats 4000000 in
theorem xName_any (S : ByteArray) (w : World) (hS : S.size ≤ 9007199254740992) :
    Calls Tryz.prog 56 #[.string S] w fun e w' => e = .returned (.bool (nmS S)) ∧ w' = w := by
  have HE : Hid (∀ w : World, Calls Tryz.prog 67 #[.string S, .int .i64 0] w fun e w' => e = .returned (.int .i64 (ne S 0 : Int)) ∧ w' = w) := fun w => xnameEnd_any S 0 w (Nat.zero_le _) hS
  obtain ⟨R, hR⟩ : ∃ R, R = nmS S := ⟨_, rfl⟩
  rw [← hR]
  cases hb : bt S 0 with
  | none =>
    have h0 : S.size = 0 := by have := bt_none hb; omega
    have hS0 : S = { data := #[] } := by
      apply ByteArray.ext
      apply Array.eq_empty_of_size_eq_zero
      exact h0
    have HR : Hid (R = false) := by show _ = _; rw [hR]; unfold nmS; rw [hb]
    clear hb hR h0 HE
    subst hS0
    go_enter Tryz.func56, Tryz.ntmps56
    go_wp2_with fail
    go_ret
    rw [HR.out]
    exact ⟨rfl, rfl⟩
  | some x =>
    have hxl := (bt_lt hb).2
    obtain ⟨hk, hxx⟩ := bt_at hb
    have hkI : (0 : Int) < (S.size : Int) := by omega
    have hne : S.toList.isEmpty = false := by
      rw [Go.ByteArray.toList_eq]
      cases h : S.data.toList with
      | nil =>
        have h1 : S.data.toList.length = 0 := by rw [h]; rfl
        have h2 : S.data.size = S.size := rfl
        rw [Array.length_toList] at h1
        omega
      | cons _ _ => rfl
    have hR2 : R = (decide (S.size ≤ 32) && letB x && decide (ne S 0 = S.size)) := by rw [hR]; unfold nmS; rw [hb]
    clear hR hb
    by_cases h32 : S.size ≤ 32
    · have a0 : decide ((S.size : Int) ≤ 32) = true := by simp; omega
      rw [decide_eq_true h32] at hR2
      cases hl : letB x with
      | false =>
        have HL : Hid (∀ w : World, Calls Tryz.prog 66 #[.int .u8 (x : Int)] w fun e w' => e = .returned (.bool false) ∧ w' = w) := fun w => xletter_any x false hl w hxl
        have HR : Hid (R = false) := by show _ = _; rw [hR2, hl]; simp
        clear hl hR2 HE
        go_enter Tryz.func56, Tryz.ntmps56
        go_wp2_with fail
        refine (HL.out _).mono ?_
        rintro e w1 ⟨rfl, rfl⟩
        go_wp2_with fail
        go_ret
        rw [HR.out]
        exact ⟨rfl, rfl⟩
      | true =>
        have HL : Hid (∀ w : World, Calls Tryz.prog 66 #[.int .u8 (x : Int)] w fun e w' => e = .returned (.bool true) ∧ w' = w) := fun w => xletter_any x true hl w hxl
        obtain ⟨N, hN⟩ : ∃ N, N = ne S 0 := ⟨_, rfl⟩
        rw [← hN] at HE hR2
        obtain ⟨v, hv⟩ : ∃ v, v = ((N : Int) == (S.size : Int)) := ⟨_, rfl⟩
        have HR : Hid (R = v) := by
          show _ = _
          rw [hR2, hl, hv]
          by_cases h : N = S.size
          · rw [h]; simp
          · have h2 : ¬ (N : Int) = (S.size : Int) := by omega
            simp [h, h2]
        clear hl hR2 hN
        go_enter Tryz.func56, Tryz.ntmps56
        go_wp2_with fail
        refine (HL.out _).mono ?_
        rintro e w1 ⟨rfl, rfl⟩
        go_wp2_with fail
        refine (HE.out _).mono ?_
        rintro e w2 ⟨rfl, rfl⟩
        go_wp2_with fail
        go_ret
        rw [HR.out, hv]
        exact ⟨by first | rfl | simp, rfl⟩
    · have a0 : decide ((S.size : Int) ≤ 32) = false := by simp; omega
      have HR : Hid (R = false) := by show _ = _; rw [hR2, decide_eq_false h32]; simp
      clear hR2 HE
      go_enter Tryz.func56, Tryz.ntmps56
      go_wp2_with fail
      go_ret
      rw [HR.out]
      exact ⟨rfl, rfl⟩
set_option maxRecDepth 100000 in
set_option maxHeartbeats 1000000 in
theorem qletter_any (x : Nat) (v : Bool) (hv : letB x = v) (w : World) (hx : x < 256) :
    Calls Tryz.prog 76 #[.int .u8 (x : Int)] w fun e w' => e = .returned (.bool v) ∧ w' = w := by
  subst hv
  have hc : x < 65 ∨ (65 ≤ x ∧ x ≤ 90) ∨ (90 < x ∧ x < 95) ∨ x = 95 ∨ x = 96 ∨ (97 ≤ x ∧ x ≤ 122) ∨ 122 < x := by omega
  rcases hc with h | h | h | h | h | h | h
  · have hv : letB x = false := by unfold letB; simp; omega
    have a1 : decide (65 ≤ (x : Int)) = false := by simp; omega
    have a3 : decide (97 ≤ (x : Int)) = false := by simp; omega
    have a5 : ((x : Int) == 95) = false := by simp; omega
    rw [hv]; clear h hv
    go_enter Tryz.func76, Tryz.ntmps76
    go_wp2_with fail
    go_ret
    exact ⟨rfl, rfl⟩
  · have hv : letB x = true := by unfold letB; simp; omega
    have a1 : decide (65 ≤ (x : Int)) = true := by simp; omega
    have a2 : decide ((x : Int) ≤ 90) = true := by simp; omega
    rw [hv]; clear h hv
    go_enter Tryz.func76, Tryz.ntmps76
    go_wp2_with fail
    go_ret
    exact ⟨rfl, rfl⟩
  · have hv : letB x = false := by unfold letB; simp; omega
    have a1 : decide (65 ≤ (x : Int)) = true := by simp; omega
    have a2 : decide ((x : Int) ≤ 90) = false := by simp; omega
    have a3 : decide (97 ≤ (x : Int)) = false := by simp; omega
    have a5 : ((x : Int) == 95) = false := by simp; omega
    rw [hv]; clear h hv
    go_enter Tryz.func76, Tryz.ntmps76
    go_wp2_with fail
    go_ret
    exact ⟨rfl, rfl⟩
  · have hv : letB x = true := by unfold letB; simp; omega
    have a1 : decide (65 ≤ (x : Int)) = true := by simp; omega
    have a2 : decide ((x : Int) ≤ 90) = false := by simp; omega
    have a3 : decide (97 ≤ (x : Int)) = false := by simp; omega
    have a5 : ((x : Int) == 95) = true := by simp; omega
    rw [hv]; clear h hv
    go_enter Tryz.func76, Tryz.ntmps76
    go_wp2_with fail
    go_ret
    exact ⟨rfl, rfl⟩
  · have hv : letB x = false := by unfold letB; simp; omega
    have a1 : decide (65 ≤ (x : Int)) = true := by simp; omega
    have a2 : decide ((x : Int) ≤ 90) = false := by simp; omega
    have a3 : decide (97 ≤ (x : Int)) = false := by simp; omega
    have a5 : ((x : Int) == 95) = false := by simp; omega
    rw [hv]; clear h hv
    go_enter Tryz.func76, Tryz.ntmps76
    go_wp2_with fail
    go_ret
    exact ⟨rfl, rfl⟩
  · have hv : letB x = true := by unfold letB; simp; omega
    have a1 : decide (65 ≤ (x : Int)) = true := by simp; omega
    have a2 : decide ((x : Int) ≤ 90) = false := by simp; omega
    have a3 : decide (97 ≤ (x : Int)) = true := by simp; omega
    have a4 : decide ((x : Int) ≤ 122) = true := by simp; omega
    rw [hv]; clear h hv
    go_enter Tryz.func76, Tryz.ntmps76
    go_wp2_with fail
    go_ret
    exact ⟨rfl, rfl⟩
  · have hv : letB x = false := by unfold letB; simp; omega
    have a1 : decide (65 ≤ (x : Int)) = true := by simp; omega
    have a2 : decide ((x : Int) ≤ 90) = false := by simp; omega
    have a3 : decide (97 ≤ (x : Int)) = true := by simp; omega
    have a4 : decide ((x : Int) ≤ 122) = false := by simp; omega
    have a5 : ((x : Int) == 95) = false := by simp; omega
    rw [hv]; clear h hv
    go_enter Tryz.func76, Tryz.ntmps76
    go_wp2_with fail
    go_ret
    exact ⟨rfl, rfl⟩
set_option maxRecDepth 100000 in
set_option maxHeartbeats 1000000 in
theorem qdigit_any (x : Nat) (v : Bool) (hv : digB x = v) (w : World) (hx : x < 256) :
    Calls Tryz.prog 77 #[.int .u8 (x : Int)] w fun e w' => e = .returned (.bool v) ∧ w' = w := by
  subst hv
  unfold digB
  by_cases h1 : 48 ≤ x
  · have a1 : decide (48 ≤ (x : Int)) = true := by simp; omega
    by_cases h2 : x ≤ 57
    · have a2 : decide ((x : Int) ≤ 57) = true := by simp; omega
      rw [decide_eq_true h1, decide_eq_true h2]
      clear h1 h2
      go_enter Tryz.func77, Tryz.ntmps77
      go_wp2_with fail
      go_ret
      exact ⟨rfl, rfl⟩
    · have a2 : decide ((x : Int) ≤ 57) = false := by simp; omega
      rw [decide_eq_true h1, decide_eq_false h2]
      clear h1 h2
      go_enter Tryz.func77, Tryz.ntmps77
      go_wp2_with fail
      go_ret
      exact ⟨rfl, rfl⟩
  · have a1 : decide (48 ≤ (x : Int)) = false := by simp; omega
    rw [decide_eq_false h1]
    clear h1
    go_enter Tryz.func77, Tryz.ntmps77
    go_wp2_with fail
    go_ret
    exact ⟨rfl, rfl⟩
/-- How many bytes of a name stand at a place. -/
def rl (S : ByteArray) (p : Nat) : Nat := match bt S p with
  | none => 0
  | some x => if letB x then ne S p - p else 0
/-- n bytes of a name stand there. -/
def Rl (S : ByteArray) (p n : Nat) : Prop := p + n ≤ S.size ∧ (n = 0 ∨ (∃ x, bt S p = some x ∧ letB x = true) ∧ ne S (p + n) = ne S p)
theorem Rl.none {S : ByteArray} {p n : Nat} (h : Rl S p n) (hb : bt S (p + n) = none) : rl S p = n := by
  rcases h.2 with rfl | ⟨⟨x, hx, hl⟩, he⟩
  · unfold rl; rw [Nat.add_zero] at hb; rw [hb]
  · rw [ne_none hb] at he
    unfold rl; rw [hx]; simp only; rw [hl, if_pos rfl, ← he]; omega
theorem Rl.on {S : ByteArray} {p n x : Nat} (h : Rl S p n) (hb : bt S (p + n) = some x) (hx : letB x = true ∨ (digB x = true ∧ 0 < n)) : Rl S p (n + 1) := by
  have hk := (bt_lt hb).1
  refine ⟨by omega, .inr ?_⟩
  have hn : ne S (p + n) = ne S (p + (n + 1)) := by
    rw [ne_eq hb, if_pos (by rcases hx with h | ⟨h, _⟩ <;> simp [h])]; rfl
  rcases h.2 with rfl | ⟨h1, he⟩
  · rcases hx with h1 | ⟨_, h1⟩
    · exact ⟨⟨x, by simpa using hb, h1⟩, by rw [← hn]; rfl⟩
    · omega
  · exact ⟨h1, by rw [← hn, he]⟩
theorem Rl.off {S : ByteArray} {p n x : Nat} (h : Rl S p n) (hb : bt S (p + n) = some x) (hx : letB x = false) (hd : digB x = false ∨ n = 0) : rl S p = n := by
  rcases h.2 with rfl | ⟨⟨y, hy, hl⟩, he⟩
  · unfold rl; rw [Nat.add_zero] at hb; rw [hb]; simp [hx]
  · rcases hd with hd | rfl
    · rw [ne_eq hb, hx, hd] at he
      simp at he
      unfold rl; rw [hy]; simp only; rw [hl, if_pos rfl, ← he]; omega
    · rw [Nat.add_zero] at hb
      rw [hb] at hy
      cases hy
      rw [hx] at hl
      cases hl
set_option maxRecDepth 100000 in
set_option maxHeartbeats 4000000 in
theorem qletters_any (S : ByteArray) (p : Nat) (w : World) (hp : p ≤ S.size) (hS : S.size ≤ 9007199254740992) :
    Calls Tryz.prog 71 #[.string S, .int .i64 (p : Int)] w fun e w' => e = .returned (.int .i64 (rl S p : Int)) ∧ w' = w := by
  go_enter Tryz.func71, Tryz.ntmps71
  go_wp2_with fail
  go_loopw [5] (fun a wr => ∃ n : Nat, a = .int .i64 (n : Int) ∧ Hid (Rl S p n) ∧ wr = w) (fun a _ => S.size - p - (intOf a).toNat)
  case atStart => exact ⟨0, rfl, hid ⟨by omega, .inl rfl⟩, rfl⟩
  case round =>
    obtain ⟨n, rfl, HR, rfl⟩ := hrel
    have hpn := HR.out.1
    obtain ⟨K, hK⟩ : ∃ K, K = p + n := ⟨_, rfl⟩
    have hc : (p : Int) + (n : Int) = (K : Int) := by omega
    have hKp : K ≤ S.size := by omega
    have HKn : Hid (K = p + n) := hK
    have hm1 : S.size - p - (n + 1) < S.size - p - n ∨ S.size ≤ K := by omega
    clear hK hpn
    cases hb : bt S K with
    | none =>
      have hge := bt_none hb
      have a0 : decide ((K : Int) < (S.size : Int)) = false := by simp; omega
      have HF : Hid (rl S p = n) := HR.out.none (by rw [← HKn.out]; exact hb)
      clear hb
      go_wp2_with fail
      go_ret
      rw [HF.out]
      exact ⟨rfl, rfl⟩
    | some x =>
      obtain ⟨hkk, hxk⟩ := bt_at hb
      have hx := (bt_lt hb).2
      have a0 : decide ((K : Int) < (S.size : Int)) = true := by simp; omega
      have hkI : (K : Int) < (S.size : Int) := by omega
      have HN : Hid (((n + 1 : Nat) : Int) = (n : Int) + 1) := by show _ = _; omega
      have HLt : Hid (∀ w : World, Calls Tryz.prog 76 #[.int .u8 (x : Int)] w fun e w' => e = .returned (.bool (letB x)) ∧ w' = w) := fun w => qletter_any x _ rfl w hx
      have HDg : Hid (∀ w : World, Calls Tryz.prog 77 #[.int .u8 (x : Int)] w fun e w' => e = .returned (.bool (digB x)) ∧ w' = w) := fun w => qdigit_any x _ rfl w hx
      cases hl : letB x with
      | true =>
        have HR2 : Hid (Rl S p (n + 1)) := HR.out.on (by rw [← HKn.out]; exact hb) (.inl hl)
        rw [hl] at HLt
        clear hb hl
        go_wp2_with fail
        refine (HLt.out _).mono ?_
        rintro e w1 ⟨rfl, rfl⟩
        go_wp2_with fail
        refine (HDg.out _).mono ?_
        rintro e w1 ⟨rfl, rfl⟩
        go_wp2_with fail
        go_roundw
        case rel => exact ⟨n + 1, by rw [HN.out], HR2, trivial⟩
        case measure => simp [intOf]; omega
      | false =>
        rw [hl] at HLt
        by_cases hon : digB x = true ∧ 0 < n
        · have HR2 : Hid (Rl S p (n + 1)) := HR.out.on (by rw [← HKn.out]; exact hb) (.inr hon)
          rw [hon.1] at HDg
          have hn0 : ((n : Int) == 0) = false := by simp; omega
          clear hb hl hon
          go_wp2_with fail
          refine (HLt.out _).mono ?_
          rintro e w1 ⟨rfl, rfl⟩
          go_wp2_with fail
          refine (HDg.out _).mono ?_
          rintro e w1 ⟨rfl, rfl⟩
          go_wp2_with fail
          go_roundw
          case rel => exact ⟨n + 1, by rw [HN.out], HR2, trivial⟩
          case measure => simp [intOf]; omega
        · have HF : Hid (rl S p = n) := HR.out.off (by rw [← HKn.out]; exact hb) hl (by cases hd : digB x; exact .inl rfl; rw [hd] at hon; simp at hon; exact .inr hon)
          have hd2 : digB x = false ∨ (digB x = true ∧ n = 0) := by
            cases hd : digB x with
            | false => exact .inl rfl
            | true => rw [hd] at hon; simp at hon; exact .inr ⟨rfl, hon⟩
          clear hb hl hon
          rcases hd2 with hd | ⟨hd, hn0⟩
          · rw [hd] at HDg
            clear hd
            go_wp2_with fail
            refine (HLt.out _).mono ?_
            rintro e w1 ⟨rfl, rfl⟩
            go_wp2_with fail
            refine (HDg.out _).mono ?_
            rintro e w1 ⟨rfl, rfl⟩
            go_wp2_with fail
            go_ret
            rw [HF.out]
            exact ⟨rfl, rfl⟩
          · rw [hd] at HDg
            have hn1 : ((n : Int) == 0) = true := by simp; omega
            clear hd hn0
            go_wp2_with fail
            refine (HLt.out _).mono ?_
            rintro e w1 ⟨rfl, rfl⟩
            go_wp2_with fail
            refine (HDg.out _).mono ?_
            rintro e w1 ⟨rfl, rfl⟩
            go_wp2_with fail
            go_ret
            rw [HF.out]
            exact ⟨rfl, rfl⟩
theorem nmS_rl (S : ByteArray) : nmS S = (decide (rl S 0 = S.size) && (decide (1 ≤ rl S 0) && decide (rl S 0 ≤ 32))) := by
  cases hb : bt S 0 with
  | none =>
    have e1 : nmS S = false := by unfold nmS; rw [hb]
    have e2 : rl S 0 = 0 := by unfold rl; rw [hb]
    rw [e1, e2]; simp
  | some x =>
    have := (bt_lt hb).1
    have e1 : nmS S = (decide (S.size ≤ 32) && letB x && decide (ne S 0 = S.size)) := by unfold nmS; rw [hb]
    have e2 : rl S 0 = if letB x then ne S 0 - 0 else 0 := by unfold rl; rw [hb]
    rw [e1, e2]
    cases hl : letB x with
    | false => simp
    | true =>
      simp only [if_true, Nat.sub_zero, Bool.and_true]
      by_cases h1 : ne S 0 = S.size
      · rw [h1]; simp; omega
      · simp [h1]
set_option maxRecDepth 100000 in
set_option maxHeartbeats 4000000 in
theorem qName_any (S : ByteArray) (w : World) (hS : S.size ≤ 9007199254740992) :
    Calls Tryz.prog 62 #[.string S] w fun e w' => e = .returned (.bool (nmS S)) ∧ w' = w := by
  have HL : Hid (∀ w : World, Calls Tryz.prog 71 #[.string S, .int .i64 0] w fun e w' => e = .returned (.int .i64 (rl S 0 : Int)) ∧ w' = w) := fun w => qletters_any S 0 w (Nat.zero_le _) hS
  have HF : Hid (nmS S = (decide (rl S 0 = S.size) && (decide (1 ≤ rl S 0) && decide (rl S 0 ≤ 32)))) := nmS_rl S
  obtain ⟨n, hn⟩ : ∃ n, n = rl S 0 := ⟨_, rfl⟩
  rw [← hn] at HL HF
  clear hn
  by_cases h1 : n = S.size
  · have a1 : ((n : Int) == (S.size : Int)) = true := by simp; omega
    rw [decide_eq_true h1] at HF
    by_cases h2 : 1 ≤ n
    · have a2 : decide (1 ≤ (n : Int)) = true := by simp; omega
      rw [decide_eq_true h2] at HF
      by_cases h3 : n ≤ 32
      · have a3 : decide ((n : Int) ≤ 32) = true := by simp; omega
        rw [decide_eq_true h3] at HF
        clear h1 h2 h3
        go_enter Tryz.func62, Tryz.ntmps62
        go_wp2_with fail
        refine (HL.out _).mono ?_
        rintro e w1 ⟨rfl, rfl⟩
        go_wp2_with fail
        go_ret
        rw [HF.out]
        exact ⟨rfl, rfl⟩
      · have a3 : decide ((n : Int) ≤ 32) = false := by simp; omega
        rw [decide_eq_false h3] at HF
        clear h1 h2 h3
        go_enter Tryz.func62, Tryz.ntmps62
        go_wp2_with fail
        refine (HL.out _).mono ?_
        rintro e w1 ⟨rfl, rfl⟩
        go_wp2_with fail
        go_ret
        rw [HF.out]
        exact ⟨rfl, rfl⟩
    · have a2 : decide (1 ≤ (n : Int)) = false := by simp; omega
      rw [decide_eq_false h2] at HF
      clear h1 h2
      go_enter Tryz.func62, Tryz.ntmps62
      go_wp2_with fail
      refine (HL.out _).mono ?_
      rintro e w1 ⟨rfl, rfl⟩
      go_wp2_with fail
      go_ret
      rw [HF.out]
      exact ⟨rfl, rfl⟩
  · have a1 : ((n : Int) == (S.size : Int)) = false := by simp; omega
    rw [decide_eq_false h1] at HF
    go_enter Tryz.func62, Tryz.ntmps62
    go_wp2_with fail
    refine (HL.out _).mono ?_
    rintro e w1 ⟨rfl, rfl⟩
    go_wp2_with fail
    go_ret
    rw [HF.out]
    exact ⟨rfl, rfl⟩
end Go.Proofs.YtmddcdaodlnnhaaGreatDoor
