/-
  What lex.lineEnd and lex.skipBlanks answer at any text. Conditions: those that each theorem names.
-/
import Derived.Test.YtkofhmmnlapnnaaGreatDoorX5
namespace Go.Proofs.YtkofhmmnlapnnaaGreatDoor
open Go.RowKit
set_option linter.unusedVariables false
/-- Where the line of k ends. -/
def lnd (S : ByteArray) : Nat → Nat → Nat
  | 0, k => k
  | f + 1, k => if bt S k = some 10 then k else lnd S f (k + 1)
def le (S : ByteArray) (k : Nat) : Nat := lnd S (S.size - k) k
theorem le_end {S : ByteArray} {k : Nat} (h : k < S.size) : le S k = if bt S k = some 10 then k else le S (k + 1) := by
  unfold le
  rw [show S.size - k = (S.size - (k + 1)) + 1 by omega, lnd]
theorem lnd_le (S : ByteArray) : ∀ f k : Nat, f = S.size - k → k ≤ S.size → k ≤ lnd S f k ∧ lnd S f k ≤ S.size
  | 0, k, _, h => ⟨Nat.le_refl _, h⟩
  | f + 1, k, hf, h => by
    rw [lnd]
    have ih := lnd_le S f (k + 1) (by omega) (by omega)
    split
    · exact ⟨Nat.le_refl _, h⟩
    · omega
theorem le_le {S : ByteArray} {k : Nat} (h : k ≤ S.size) : k ≤ le S k ∧ le S k ≤ S.size := lnd_le S _ k rfl h
theorem le_gt {S : ByteArray} {k x : Nat} (h : bt S k = some x) (hx : x ≠ 10) : k < le S k := by
  have hk := (bt_lt h).1
  rw [le_end hk, if_neg (by rw [h]; simp; exact hx)]
  have := (le_le (S := S) (k := k + 1) (by omega)).1
  omega
theorem drop_bt {S : ByteArray} {k x : Nat} (h : bt S k = some x) : ∃ b : UInt8, S.data.toList.drop k = b :: S.data.toList.drop (k + 1) ∧ b.toNat = x := by
  obtain ⟨hk, hx⟩ := bt_at h
  have hk2 : k < S.data.toList.length := by rw [Array.length_toList]; exact hk
  exact ⟨_, List.drop_eq_getElem_cons hk2, by rw [← hx]; rfl⟩
theorem le_index (S : ByteArray) : ∀ f k : Nat, f = S.size - k → k ≤ S.size →
    (Lib.indexByte (S.data.toList.drop k) 10 = -1 ∧ lnd S f k = S.size) ∨ (0 ≤ Lib.indexByte (S.data.toList.drop k) 10 ∧ (lnd S f k : Int) = (k : Int) + Lib.indexByte (S.data.toList.drop k) 10)
  | 0, k, hf, h => by
    left
    have : k = S.size := by omega
    rw [List.drop_eq_nil_of_le (by rw [Array.length_toList]; exact Nat.le_of_eq this.symm)]
    exact ⟨rfl, by rw [lnd]; exact this⟩
  | f + 1, k, hf, h => by
    cases hb : bt S k with
    | none => have := bt_none hb; omega
    | some x =>
      obtain ⟨b, hd, hbx⟩ := drop_bt hb
      rw [lnd, hb, hd, Lib.indexByte]
      by_cases hx : x = 10
      · have : (b == 10) = true := by rw [beq_iff_eq]; apply UInt8.toNat.inj; rw [hbx, hx]; rfl
        rw [this, hx]
        right
        simp
      · have h1 : (b == 10) = false := by rw [beq_eq_false_iff_ne]; intro e; apply hx; rw [← hbx, e]; rfl
        have h2 : ¬ (some x = some 10) := by simp; exact hx
        rw [h1, if_neg h2]
        rcases le_index S f (k + 1) (by omega) (by omega) with ⟨h3, h4⟩ | ⟨h3, h4⟩
        · left; rw [h3]; exact ⟨rfl, h4⟩
        · right
          have h5 : (Lib.indexByte (S.data.toList.drop (k + 1)) 10 == -1) = false := by rw [beq_eq_false_iff_ne]; omega
          rw [h5]
          simp only [Bool.false_eq_true, if_false]
          omega
theorem piece_list (S : ByteArray) (p : Nat) (hp : p ≤ S.size) : (S.extract p S.size).data.toList = S.data.toList.drop p := by
  simp only [ByteArray.data_extract, Array.toList_extract]
  rw [List.extract_eq_take_drop, List.take_of_length_le]
  rw [List.length_drop, Array.length_toList]
  exact Nat.le_refl _
set_option maxRecDepth 100000 in
set_option maxHeartbeats 4000000 in
theorem xlineEnd_any (S : ByteArray) (p : Nat) (w : World) (hp : p < S.size) (hS : S.size ≤ 9007199254740992) :
    Calls Tryz.prog 35 #[.string S, .int .i64 (p : Int)] w fun e w' => e = .returned (.int .i64 (le S p : Int)) ∧ w' = w := by
  have hpI : (p : Int) < (S.size : Int) := by omega
  have hpI2 : (p : Int) ≤ (S.size : Int) := by omega
  have hle := (le_le (S := S) (k := p) (by omega)).2
  have hcas := le_index S (S.size - p) p rfl (by omega)
  have HI : Hid (∀ w : World, Calls Tryz.prog 41 #[.string (S.extract p S.size), .int .u8 10] w fun e w' => e = .returned (.int .i64 (Lib.indexByte (S.data.toList.drop p) 10)) ∧ w' = w) := fun w => by
    have h := index_any (S.extract p S.size) 10 w
    rw [piece_list S p (by omega)] at h
    exact h
  obtain ⟨i, hi⟩ : ∃ i, i = Lib.indexByte (S.data.toList.drop p) 10 := ⟨_, rfl⟩
  rw [← hi] at HI hcas
  obtain ⟨L, hL⟩ : ∃ L, L = le S p := ⟨_, rfl⟩
  rw [← hL] at hle ⊢
  have hcas2 : (i = -1 ∧ L = S.size) ∨ (0 ≤ i ∧ (L : Int) = (p : Int) + i) := by rw [hL]; exact hcas
  clear hcas hi hL
  rcases hcas2 with ⟨rfl, hL⟩ | ⟨h0, hL⟩
  · have HL : Hid (L = S.size) := hL
    clear hL
    go_enter Tryz.func35, Tryz.ntmps35
    go_wp2_with fail
    refine (HI.out _).mono ?_
    rintro e w1 ⟨rfl, rfl⟩
    go_wp2_with fail
    go_ret
    rw [HL.out]
    exact ⟨rfl, rfl⟩
  · have HL : Hid ((L : Int) = (p : Int) + i) := hL
    have a0 : decide (0 ≤ i) = true := by simp; omega
    have b1 : (p : Int) + i < 9223372036854775808 := by omega
    clear hL
    go_enter Tryz.func35, Tryz.ntmps35
    go_wp2_with fail
    refine (HI.out _).mono ?_
    rintro e w1 ⟨rfl, rfl⟩
    go_wp2_with fail
    go_ret
    rw [HL.out]
    exact ⟨by first | rfl | go_num, rfl⟩
def blB (x : Nat) : Bool := x == 9 || (x == 10 || (x == 13 || x == 32))
/-- Where the blanks end that begin at k. -/
def sbl (S : ByteArray) : Nat → Nat → Nat
  | 0, k => k
  | f + 1, k => match bt S k with
    | none => k
    | some x => if blB x then sbl S f (k + 1) else if x = 35 then sbl S f (le S k) else k
def sb (S : ByteArray) (k : Nat) : Nat := sbl S (S.size - k) k
theorem sbl_fuel (S : ByteArray) : ∀ f g k : Nat, S.size - k ≤ f → S.size - k ≤ g → sbl S f k = sbl S g k
  | 0, 0, _, _, _ => rfl
  | 0, g + 1, k, hf, _ => by rw [sbl, sbl, bt_ge (by omega)]
  | f + 1, 0, k, _, hg => by rw [sbl, sbl, bt_ge (by omega)]
  | f + 1, g + 1, k, hf, hg => by
    rw [sbl, sbl]
    cases hb : bt S k with
    | none => rfl
    | some x =>
      have hk := (bt_lt hb).1
      simp only
      split
      · exact sbl_fuel S f g (k + 1) (by omega) (by omega)
      · split
        · rename_i h
          have := le_gt hb (by omega)
          exact sbl_fuel S f g (le S k) (by omega) (by omega)
        · rfl
theorem sb_none {S : ByteArray} {k : Nat} (h : bt S k = none) : sb S k = k := by
  have := bt_none h
  unfold sb
  rw [show S.size - k = 0 by omega, sbl]
theorem sb_eq {S : ByteArray} {k x : Nat} (h : bt S k = some x) : sb S k = if blB x then sb S (k + 1) else if x = 35 then sb S (le S k) else k := by
  have hk := (bt_lt h).1
  unfold sb
  rw [show S.size - k = (S.size - (k + 1)) + 1 by omega, sbl, h]
  simp only
  split
  · rfl
  · split
    · have := le_gt h (by omega)
      exact sbl_fuel S _ _ (le S k) (by omega) (by omega)
    · rfl
theorem sb_le (S : ByteArray) : ∀ f k : Nat, S.size - k ≤ f → k ≤ S.size → k ≤ sb S k ∧ sb S k ≤ S.size
  | 0, k, hf, h => by rw [sb_none (bt_ge (by omega))]; omega
  | f + 1, k, hf, h => by
    cases hb : bt S k with
    | none => rw [sb_none hb]; omega
    | some x =>
      have hk := (bt_lt hb).1
      rw [sb_eq hb]
      split
      · have := sb_le S f (k + 1) (by omega) (by omega); omega
      · split
        · have h1 := le_gt hb (by omega)
          have h2 := (le_le (S := S) (k := k) h).2
          have := sb_le S f (le S k) (by omega) h2
          omega
        · omega
set_option maxRecDepth 100000 in
set_option maxHeartbeats 4000000 in
theorem xskip_any (S : ByteArray) (p : Nat) (w : World) (hp : p ≤ S.size) (hS : S.size ≤ 9007199254740992) :
    Calls Tryz.prog 20 #[.string S, .int .i64 (p : Int)] w fun e w' => e = .returned (.int .i64 (sb S p : Int)) ∧ w' = w := by
  obtain ⟨R, hR⟩ : ∃ R, R = sb S p := ⟨_, rfl⟩
  rw [← hR]
  have HR : Hid (sb S p = R) := hR.symm
  clear hR
  go_enter Tryz.func20, Tryz.ntmps20
  go_wp2_with fail
  go_loopw [1] (fun a wr => ∃ k : Nat, a = .int .i64 (k : Int) ∧ k ≤ S.size ∧ Hid (sb S k = R) ∧ wr = w) (fun a _ => S.size - (intOf a).toNat)
  case atStart => exact ⟨p, rfl, hp, HR, rfl⟩
  case round =>
    obtain ⟨k, rfl, hks, HM, rfl⟩ := hrel
    cases hb : bt S k with
    | none =>
      have hge := bt_none hb
      have a0 : decide ((k : Int) < (S.size : Int)) = false := by simp; omega
      have HK : Hid (R = k) := by show _ = _; rw [← HM.out, sb_none hb]
      clear hb
      go_wp2_with fail
      go_ret
      rw [HK.out]
      exact ⟨rfl, rfl⟩
    | some x =>
      have hxl := (bt_lt hb).2
      obtain ⟨hk, hxx⟩ := bt_at hb
      have hkI : (k : Int) < (S.size : Int) := by omega
      have a0 : decide ((k : Int) < (S.size : Int)) = true := by simp; omega
      have hc : (x = 9 ∨ x = 10 ∨ x = 13 ∨ x = 32) ∨ x = 35 ∨ (x ≠ 9 ∧ x ≠ 10 ∧ x ≠ 13 ∧ x ≠ 32 ∧ x ≠ 35) := by omega
      rcases hc with h | h | ⟨h1, h2, h3, h4, h5⟩
      · have HM2 : Hid (sb S (k + 1) = R) := by
          show _ = _; rw [← HM.out, sb_eq hb, if_pos (by unfold blB; rcases h with h | h | h | h <;> rw [h] <;> rfl)]
        clear hb HM
        rcases h with h | h | h | h
        all_goals
          subst h
          go_wp2_with fail
          go_roundw
          case rel => exact ⟨k + 1, by go_num, by omega, HM2, trivial⟩
          case measure => simp [intOf]; omega
      · have HM2 : Hid (sb S (le S k) = R) := by
          show _ = _; rw [← HM.out, sb_eq hb, if_neg (by rw [h]; decide), if_pos h]
        have HL : Hid (∀ w : World, Calls Tryz.prog 35 #[.string S, .int .i64 (k : Int)] w fun e w' => e = .returned (.int .i64 (le S k : Int)) ∧ w' = w) := fun w => xlineEnd_any S k w hk hS
        have hl1 : k < le S k := le_gt hb (by omega)
        have hl2 : le S k ≤ S.size := (le_le (S := S) (k := k) hks).2
        obtain ⟨L, hL⟩ : ∃ L, L = le S k := ⟨_, rfl⟩
        rw [← hL] at HM2 HL hl1 hl2
        clear hb HM hL
        subst h
        go_wp2_with fail
        refine (HL.out _).mono ?_
        rintro e w1 ⟨rfl, rfl⟩
        go_wp2_with fail
        go_roundw
        case rel => exact ⟨L, rfl, hl2, HM2, trivial⟩
        case measure => simp [intOf]; omega
      · have HK : Hid (R = k) := by
          show _ = _; rw [← HM.out, sb_eq hb, if_neg (by unfold blB; simp; omega), if_neg h5]
        have b1 : ((x : Int) == 9) = false := by simp; omega
        have b2 : ((x : Int) == 10) = false := by simp; omega
        have b3 : ((x : Int) == 13) = false := by simp; omega
        have b4 : ((x : Int) == 32) = false := by simp; omega
        have b5 : ((x : Int) == 35) = false := by simp; omega
        clear hb HM h1 h2 h3 h4 h5
        go_wp2_with fail
        (try simp only [Exit.inBlock, Exit.then])
        go_ret
        rw [HK.out]
        exact ⟨rfl, rfl⟩
end Go.Proofs.YtkofhmmnlapnnaaGreatDoor
