/-
  What muntinlaw03.blank answers at any text. Conditions: those that each theorem names.
-/
import Derived.Test.YtbdhgfblkgkekaaDoorXAp
namespace Go.Proofs.YtbdhgfblkgkekaaDoor
open Go.RowKit
set_option linter.unusedVariables false
set_option maxRecDepth 100000 in
set_option maxHeartbeats 8000000 in
theorem lblank_any (P : ByteArray) (w : World) (hS : P.size ≤ 9007199254740992) :
    Calls Tryd.prog 19 #[.string P] w fun e w' => e = .returned (.bool (bkB P 0 false)) ∧ w' = w := by
  obtain ⟨R, hR⟩ : ∃ R, R = bkB P 0 false := ⟨_, rfl⟩
  rw [← hR]
  have HR : Hid (bkB P 0 false = R) := hR.symm
  clear hR
  go_enter Tryd.func19, Tryd.ntmps19
  go_wp2_with fail
  go_loopw [3, 4] (fun b a wr => ∃ (k : Nat) (n : Bool), b = .bool n ∧ a = .int .i64 (k : Int) ∧ k ≤ P.size ∧ Hid (bkB P k n = R) ∧ wr = w) (fun _ a _ => P.size - (intOf a).toNat)
  case atStart => exact ⟨0, false, rfl, rfl, Nat.zero_le _, HR, rfl⟩
  case round =>
    obtain ⟨k, n, rfl, rfl, hk, HK, rfl⟩ := hrel
    clear HR
    cases hb : bt P k with
    | none =>
      have hge := bt_none hb
      have a0 : decide ((k : Int) < (P.size : Int)) = false := by simp; omega
      have HF : Hid (R = true) := by show _ = _; rw [← HK.out, bkB_end hge]
      clear hb
      go_wp2_with fail
      go_ret
      rw [HF.out]
      exact ⟨rfl, rfl⟩
    | some x =>
      obtain ⟨hkk, hxk⟩ := bt_at hb
      have hkI : (k : Int) < (P.size : Int) := by omega
      have hx6 := (bt_lt hb).2
      have a0 : decide ((k : Int) < (P.size : Int)) = true := by simp; omega
      have HN : Hid (((k + 1 : Nat) : Int) = (k : Int) + 1) := by show _ = _; omega
      have HE : Hid (R = if x = 10 then bkB P (k + 1) false else if n then bkB P (k + 1) true else if x = 35 then bkB P (k + 1) true else if x = 9 ∨ x = 13 ∨ x = 32 then bkB P (k + 1) false else false) := by show _ = _; rw [← HK.out, bkB_eq hb]
      clear hb HK
      by_cases h10 : x = 10
      · have t10 : ((x : Int) == 10) = true := by simp; omega
        have HK2 : Hid (bkB P (k + 1) false = R) := by show _ = _; rw [HE.out, if_pos h10]
        clear HE h10
        go_wp2_with fail
        go_roundw
        case rel => exact ⟨k + 1, false, rfl, by rw [HN.out], by omega, HK2, by first | rfl | trivial⟩
        case measure => simp [intOf]; omega
      have t10 : ((x : Int) == 10) = false := by simp; omega
      cases n with
      | true =>
        have HK2 : Hid (bkB P (k + 1) true = R) := by show _ = _; rw [HE.out, if_neg h10, if_pos rfl]
        clear HE h10
        go_wp2_with fail
        go_roundw
        case rel => exact ⟨k + 1, true, rfl, by rw [HN.out], by omega, HK2, by first | rfl | trivial⟩
        case measure => simp [intOf]; omega
      | false =>
        by_cases h35 : x = 35
        · have t35 : ((x : Int) == 35) = true := by simp; omega
          have HK2 : Hid (bkB P (k + 1) true = R) := by show _ = _; rw [HE.out, if_neg h10, if_neg (by simp), if_pos h35]
          clear HE h10 h35
          go_wp2_with fail
          go_roundw
          case rel => exact ⟨k + 1, true, rfl, by rw [HN.out], by omega, HK2, by first | rfl | trivial⟩
          case measure => simp [intOf]; omega
        have t35 : ((x : Int) == 35) = false := by simp; omega
        by_cases h9 : x = 9 ∨ x = 13 ∨ x = 32
        · have HK2 : Hid (bkB P (k + 1) false = R) := by show _ = _; rw [HE.out, if_neg h10, if_neg (by simp), if_neg h35, if_pos h9]
          clear HE h10 h35
          rcases h9 with h | h | h
          · have t9 : ((x : Int) != 9) = false := by simp; omega
            clear h
            go_wp2_with fail
            go_roundw
            case rel => exact ⟨k + 1, false, rfl, by rw [HN.out], by omega, HK2, by first | rfl | trivial⟩
            case measure => simp [intOf]; omega
          · have t9 : ((x : Int) != 9) = true := by rw [bne_iff_ne]; omega
            have t13 : ((x : Int) != 13) = false := by simp; omega
            clear h
            go_wp2_with fail
            go_roundw
            case rel => exact ⟨k + 1, false, rfl, by rw [HN.out], by omega, HK2, by first | rfl | trivial⟩
            case measure => simp [intOf]; omega
          · have t9 : ((x : Int) != 9) = true := by rw [bne_iff_ne]; omega
            have t13 : ((x : Int) != 13) = true := by rw [bne_iff_ne]; omega
            have t32 : ((x : Int) != 32) = false := by simp; omega
            clear h
            go_wp2_with fail
            go_roundw
            case rel => exact ⟨k + 1, false, rfl, by rw [HN.out], by omega, HK2, by first | rfl | trivial⟩
            case measure => simp [intOf]; omega
        · have t9 : ((x : Int) != 9) = true := by rw [bne_iff_ne]; omega
          have t13 : ((x : Int) != 13) = true := by rw [bne_iff_ne]; omega
          have t32 : ((x : Int) != 32) = true := by rw [bne_iff_ne]; omega
          have HF : Hid (R = false) := by show _ = _; rw [HE.out, if_neg h10, if_neg (by simp), if_neg h35, if_neg h9]
          clear HE h10 h35 h9
          go_wp2_with fail
          go_ret
          rw [HF.out]
          exact ⟨rfl, rfl⟩
end Go.Proofs.YtbdhgfblkgkekaaDoor
