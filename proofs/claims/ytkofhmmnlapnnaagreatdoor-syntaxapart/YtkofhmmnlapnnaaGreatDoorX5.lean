/-
  What lex.nameEnd and lex.Name answer at any text. Conditions: those that each theorem names.
-/
import Derived.Test.YtkofhmmnlapnnaaGreatDoorX4
namespace Go.Proofs.YtkofhmmnlapnnaaGreatDoor
open Go.RowKit
set_option linter.unusedVariables false
/-- Where the letters and digits end that begin at k. -/
def nend (S : ByteArray) : Nat → Nat → Nat
  | 0, k => k
  | f + 1, k => match bt S k with
    | some x => if letB x || digB x then nend S f (k + 1) else k
    | none => k
def ne (S : ByteArray) (k : Nat) : Nat := nend S (S.size - k) k
theorem ne_none {S : ByteArray} {k : Nat} (h : bt S k = none) : ne S k = k := by
  have := bt_none h
  unfold ne
  rw [show S.size - k = 0 by omega, nend]
theorem ne_eq {S : ByteArray} {k x : Nat} (h : bt S k = some x) : ne S k = if letB x || digB x then ne S (k + 1) else k := by
  have := (bt_lt h).1
  unfold ne
  rw [show S.size - k = (S.size - (k + 1)) + 1 by omega, nend, h]
theorem nend_le (S : ByteArray) : ∀ f k : Nat, k ≤ nend S f k ∧ (f = S.size - k → k ≤ S.size → nend S f k ≤ S.size)
  | 0, k => ⟨Nat.le_refl _, fun _ h => h⟩
  | f + 1, k => by
    rw [nend]
    cases hb : bt S k with
    | none => exact ⟨Nat.le_refl _, fun _ h => h⟩
    | some x =>
      have := (bt_lt hb).1
      have ih := nend_le S f (k + 1)
      simp only
      split
      · exact ⟨by omega, fun h1 h2 => ih.2 (by omega) (by omega)⟩
      · exact ⟨Nat.le_refl _, fun _ h => h⟩
theorem ne_le {S : ByteArray} {k : Nat} (h : k ≤ S.size) : k ≤ ne S k ∧ ne S k ≤ S.size := ⟨(nend_le S _ k).1, (nend_le S _ k).2 rfl h⟩
set_option maxRecDepth 100000 in
set_option maxHeartbeats 4000000 in
theorem xnameEnd_any (S : ByteArray) (p : Nat) (w : World) (hp : p ≤ S.size) (hS : S.size ≤ 9007199254740992) :
    Calls Tryz.prog 52 #[.string S, .int .i64 (p : Int)] w fun e w' => e = .returned (.int .i64 (ne S p : Int)) ∧ w' = w := by
  obtain ⟨R, hR⟩ : ∃ R, R = ne S p := ⟨_, rfl⟩
  rw [← hR]
  have HR : Hid (ne S p = R) := hR.symm
  clear hR
  go_enter Tryz.func52, Tryz.ntmps52
  go_wp2_with fail
  go_loopw [1] (fun a wr => ∃ k : Nat, a = .int .i64 (k : Int) ∧ k ≤ S.size ∧ Hid (ne S k = R) ∧ wr = w) (fun a _ => S.size - (intOf a).toNat)
  case atStart => exact ⟨p, rfl, hp, HR, rfl⟩
  case round =>
    obtain ⟨k, rfl, hks, HM, rfl⟩ := hrel
    cases hb : bt S k with
    | none =>
      have hge := bt_none hb
      have a0 : decide ((k : Int) < (S.size : Int)) = false := by simp; omega
      have HK : Hid (R = k) := by show _ = _; rw [← HM.out, ne_none hb]
      clear hb
      go_wp2_with fail
      go_ret
      rw [HK.out]
      exact ⟨rfl, rfl⟩
    | some x =>
      have hxl := (bt_lt hb).2
      obtain ⟨hk, hxx⟩ := bt_at hb
      have hkI : (k : Int) < (S.size : Int) := by omega
      have a0 : decide ((k : Int) < (S.size : Int)) = true := by simp; omega
      cases hl : letB x with
      | true =>
        have HM2 : Hid (ne S (k + 1) = R) := by show _ = _; rw [← HM.out, ne_eq hb, hl]; simp
        have HL : Hid (∀ w : World, Calls Tryz.prog 36 #[.int .u8 (x : Int)] w fun e w' => e = .returned (.bool true) ∧ w' = w) := fun w => xletter_any x true hl w hxl
        clear hb hl HM
        go_wp2_with fail
        refine (HL.out _).mono ?_
        rintro e w1 ⟨rfl, rfl⟩
        go_wp2_with fail
        go_roundw
        case rel => exact ⟨k + 1, by go_num, by omega, HM2, trivial⟩
        case measure => simp [intOf]; omega
      | false =>
        have HL : Hid (∀ w : World, Calls Tryz.prog 36 #[.int .u8 (x : Int)] w fun e w' => e = .returned (.bool false) ∧ w' = w) := fun w => xletter_any x false hl w hxl
        cases hd : digB x with
        | true =>
          have HM2 : Hid (ne S (k + 1) = R) := by show _ = _; rw [← HM.out, ne_eq hb, hl, hd]; simp
          have HD : Hid (∀ w : World, Calls Tryz.prog 61 #[.int .u8 (x : Int)] w fun e w' => e = .returned (.bool true) ∧ w' = w) := fun w => xdigitB_any x true hd w hxl
          clear hb hl hd HM
          go_wp2_with fail
          refine (HL.out _).mono ?_
          rintro e w1 ⟨rfl, rfl⟩
          go_wp2_with fail
          refine (HD.out _).mono ?_
          rintro e w2 ⟨rfl, rfl⟩
          go_wp2_with fail
          go_roundw
          case rel => exact ⟨k + 1, by go_num, by omega, HM2, trivial⟩
          case measure => simp [intOf]; omega
        | false =>
          have HK : Hid (R = k) := by show _ = _; rw [← HM.out, ne_eq hb, hl, hd]; simp
          have HD : Hid (∀ w : World, Calls Tryz.prog 61 #[.int .u8 (x : Int)] w fun e w' => e = .returned (.bool false) ∧ w' = w) := fun w => xdigitB_any x false hd w hxl
          clear hb hl hd HM
          go_wp2_with fail
          refine (HL.out _).mono ?_
          rintro e w1 ⟨rfl, rfl⟩
          go_wp2_with fail
          refine (HD.out _).mono ?_
          rintro e w2 ⟨rfl, rfl⟩
          go_wp2_with fail
          go_ret
          rw [HK.out]
          exact ⟨rfl, rfl⟩
end Go.Proofs.YtkofhmmnlapnnaaGreatDoor
