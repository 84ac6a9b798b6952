/-
  Plain facts: a frame of which one byte is another one is not opened as it was. No condition beside those that each theorem names.
-/
import Derived.Test.YtipkjiacikdmmabDoorOpen
namespace Go.Proofs.YtipkjiacikdmmabDoor
set_option linter.unusedVariables false

theorem val_inj (l m : List UInt8) (hl : l.length = m.length) (h : valFrom 0 l = valFrom 0 m) : l = m := by
  have h1 := dig_val l
  have h2 := dig_val m
  rw [h, hl] at h1
  exact h1.symm.trans h2
theorem frameB_length (p : List UInt8) : (frameB p).length = p.length + 8 := by simp [frameB, dig_length]; omega
theorem frameB_take4 (p : List UInt8) : (frameB p).take 4 = dig p.length 4 := by
  unfold frameB
  rw [List.append_assoc, List.take_left' (dig_length _ _)]
theorem frameB_takeN (p : List UInt8) : (frameB p).take (4 + p.length) = dig p.length 4 ++ p := by
  unfold frameB
  rw [List.take_left' (by simp [dig_length])]
theorem frameB_sum (p : List UInt8) : (frameB p).drop (4 + p.length) = dig (crc (dig p.length 4 ++ p)) 4 := by
  unfold frameB
  rw [List.drop_left' (by simp [dig_length])]
theorem frameB_part (p : List UInt8) : ((frameB p).drop 4).take p.length = p := by
  unfold frameB
  rw [List.append_assoc, List.drop_left' (dig_length _ _), List.take_left' rfl]
theorem val_len (p : List UInt8) (h : p.length ≤ 1048576) : valFrom 0 (dig p.length 4) = p.length := by
  rw [val_dig]; exact Nat.mod_eq_of_lt (by omega)
theorem val_crc (l : List UInt8) : valFrom 0 (dig (crc l) 4) = crc l := by
  rw [val_dig]; exact Nat.mod_eq_of_lt (by have := crc_lt l; omega)

theorem xor_ne (x y : UInt8) (h : y ≠ 0) : x ^^^ y ≠ x := by
  intro e
  apply h
  have : x ^^^ (x ^^^ y) = x ^^^ x := by rw [e]
  rw [← UInt8.xor_assoc, UInt8.xor_self, UInt8.zero_xor] at this
  exact this

theorem set_ne {l : List UInt8} {k : Nat} {z : UInt8} (hk : k < l.length) (hz : z ≠ l[k]) : l.set k z ≠ l := by
  intro e
  apply hz
  have h1 : (l.set k z)[k]'(by simpa using hk) = z := by simp
  have h2 : (l.set k z)[k]'(by simpa using hk) = l[k] := by simp only [e]
  exact h1.symm.trans h2

theorem crc_set (l : List UInt8) (k : Nat) (z : UInt8) (hk : k < l.length) (hz : z ≠ l[k]) : crc (l.set k z) ≠ crc l := by
  intro e
  have h1 : l = l.take k ++ l[k] :: l.drop (k + 1) := by
    conv => lhs; rw [← List.take_append_drop k l, List.drop_eq_getElem_cons hk]
  have h2 : l.set k z = l.take k ++ z :: l.drop (k + 1) := by
    rw [List.set_eq_take_append_cons_drop, if_pos hk]
  rw [h2] at e
  have e2 : crc (l.take k ++ z :: l.drop (k + 1)) = crc (l.take k ++ l[k] :: l.drop (k + 1)) := by rw [e, ← h1]
  exact hz (crc_turned _ _ _ _ e2)

theorem turned (p : List UInt8) (hp : p.length ≤ 1048576) (k : Nat) (z : UInt8) (hk : k < (frameB p).length) (hz : z ≠ (frameB p)[k]) (h0 : (opn ((frameB p).set k z)).2.2 = 0) :
    k < 4 ∧ (opn ((frameB p).set k z)).2.1 < p.length + 8 := by
  have hl : ((frameB p).set k z).length = p.length + 8 := by rw [List.length_set, frameB_length]
  have hfl := frameB_length p
  generalize hf : (frameB p).set k z = f at *
  unfold opn at h0 ⊢
  have n1 : ¬ f.length < 4 := by omega
  rw [if_neg n1] at h0 ⊢
  by_cases c2 : 1048576 < valFrom 0 (f.take 4)
  · rw [if_pos c2] at h0; simp at h0
  · rw [if_neg c2] at h0 ⊢
    by_cases c3 : f.length < valFrom 0 (f.take 4) + 8
    · rw [if_pos c3] at h0; simp at h0
    · rw [if_neg c3] at h0 ⊢
      by_cases c4 : valFrom 0 ((f.drop (4 + valFrom 0 (f.take 4))).take 4) ≠ crc (f.take (4 + valFrom 0 (f.take 4)))
      · rw [if_pos c4] at h0; simp at h0
      · rw [if_neg c4]
        simp only
        have c4' : valFrom 0 ((f.drop (4 + valFrom 0 (f.take 4))).take 4) = crc (f.take (4 + valFrom 0 (f.take 4))) := by simpa using c4
        by_cases hk4 : k < 4
        · refine ⟨hk4, ?_⟩
          have hne : valFrom 0 (f.take 4) ≠ p.length := by
            intro e
            rw [← val_len p hp, ← frameB_take4] at e
            have e2 := val_inj _ _ (by simp; omega) e
            rw [← hf, List.take_set] at e2
            have hk' : k < ((frameB p).take 4).length := by simp; omega
            exact set_ne hk' (by simpa using hz) e2
          omega
        · exfalso
          have e4 : f.take 4 = dig p.length 4 := by rw [← hf, List.take_set_of_le (by omega), frameB_take4]
          rw [e4, val_len p hp] at c4'
          by_cases hkn : k < 4 + p.length
          · have e5 : f.drop (4 + p.length) = dig (crc (dig p.length 4 ++ p)) 4 := by rw [← hf, List.drop_set_of_lt hkn, frameB_sum]
            have e6 : f.take (4 + p.length) = (dig p.length 4 ++ p).set k z := by rw [← hf, List.take_set, frameB_takeN]
            rw [e5, e6, List.take_of_length_le (by rw [dig_length]; omega), val_crc] at c4'
            have hk2 : k < (dig p.length 4 ++ p).length := by simp [dig_length]; omega
            refine crc_set _ k z hk2 ?_ c4'.symm
            intro e7
            apply hz
            rw [e7]
            have : ((frameB p).take (4 + p.length))[k]'(by rw [frameB_takeN]; exact hk2) = (frameB p)[k] := by simp
            rw [← this]
            simp only [frameB_takeN]
          · have e5 : f.take (4 + p.length) = dig p.length 4 ++ p := by rw [← hf, List.take_set_of_le (by omega), frameB_takeN]
            have e6 : f.drop (4 + p.length) = (dig (crc (dig p.length 4 ++ p)) 4).set (k - (4 + p.length)) z := by rw [← hf, List.drop_set, if_neg (by omega), frameB_sum]
            rw [e5, e6, List.take_of_length_le (by rw [List.length_set, dig_length]; omega)] at c4'
            have e7 : valFrom 0 ((dig (crc (dig p.length 4 ++ p)) 4).set (k - (4 + p.length)) z) = valFrom 0 (dig (crc (dig p.length 4 ++ p)) 4) := by rw [c4', val_crc]
            have e8 := val_inj _ _ (by simp) e7
            have hk2 : k - (4 + p.length) < (dig (crc (dig p.length 4 ++ p)) 4).length := by rw [dig_length]; omega
            refine set_ne hk2 ?_ e8
            intro e9
            apply hz
            rw [e9]
            have : ((frameB p).drop (4 + p.length))[k - (4 + p.length)]'(by rw [frameB_sum]; exact hk2) = (frameB p)[k] := by
              simp only [List.getElem_drop]
              congr 1
              omega
            rw [← this]
            simp only [frameB_sum]
end Go.Proofs.YtipkjiacikdmmabDoor
