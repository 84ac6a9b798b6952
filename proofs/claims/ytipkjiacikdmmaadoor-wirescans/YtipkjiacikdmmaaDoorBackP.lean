/-
  Plain facts: a number's bytes, with whatever stands behind them, begin with that number; what bytes begin with was written so; and the same for blobs.
-/
import Derived.Test.YtipkjiacikdmmaaDoorBlob
namespace Go.Proofs.YtipkjiacikdmmaaDoor
set_option linter.unusedVariables false

theorem dig_good (n : Nat) (h : n ≤ 9223372036854775807) : wid n = 0 ∨ goodD ((dig n (wid n)).headD 0).toNat (wid n) = true := by
  rcases Nat.eq_zero_or_pos (wid n) with h0 | h0
  · exact .inl h0
  · right
    obtain ⟨k, hk⟩ : ∃ k, wid n = k + 1 := ⟨wid n - 1, by omega⟩
    have h1 := wid_hi n (by omega)
    have h2 := wid_lo n
    have h8 := wid_le n
    rw [hk] at h1 h2 h8 ⊢
    simp only [Nat.add_sub_cancel] at h2
    have hp : 0 < 256 ^ k := Nat.pow_pos (by omega)
    have hq : n / 256 ^ k < 256 := Nat.div_lt_of_lt_mul (by rw [Nat.pow_succ] at h1; exact h1)
    have hq1 : 1 ≤ n / 256 ^ k := (Nat.le_div_iff_mul_le hp).2 (by omega)
    have e : ((dig n (k + 1)).headD 0).toNat = n / 256 ^ k := by
      simp only [dig, List.headD_cons, UInt8.toNat_ofNat']
      exact Nat.mod_eq_of_lt (by simpa using hq)
    rw [e]
    unfold goodD
    have e1 : (n / 256 ^ k == 0) = false := by rw [beq_eq_false_iff_ne]; omega
    rw [e1]
    by_cases h7 : k = 7
    · subst h7
      have : n / 256 ^ 7 ≤ 127 := by
        have : n / 256 ^ 7 < 128 := Nat.div_lt_of_lt_mul (by omega)
        omega
      simp
      omega
    · have : (k + 1 == 8) = false := by rw [beq_eq_false_iff_ne]; omega
      rw [this]; simp

theorem tkNum_cons (k : UInt8) (r : List UInt8) : tkNum (k :: r) = if 8 < k.toNat then (0, 0, 4) else if r.length < k.toNat then (0, 0, 3) else
      if k.toNat = 0 ∨ goodD (r.headD 0).toNat k.toNat = true then (valFrom 0 (r.take k.toNat), 1 + k.toNat, 0) else (0, 0, 4) := rfl

theorem tkNum_numB (n : Nat) (h : n ≤ 9223372036854775807) (b : List UInt8) : tkNum (numB n ++ b) = (n, 1 + wid n, 0) := by
  have h8 := wid_le n
  have ek : (UInt8.ofNat (wid n)).toNat = wid n := by simp only [UInt8.toNat_ofNat']; exact Nat.mod_eq_of_lt (by simp; omega)
  unfold numB
  rw [List.cons_append, tkNum_cons, ek, if_neg (by omega), if_neg (by simp [dig_length])]
  rw [List.take_left' (dig_length n _), val_dig, Nat.mod_eq_of_lt (wid_hi n (by omega))]
  rw [if_pos]
  rcases dig_good n h with h0 | h0
  · exact .inl h0
  · right
    rcases Nat.eq_zero_or_pos (wid n) with h1 | h1
    · rw [h1] at h0; simp [dig, goodD] at h0
    · obtain ⟨k, hk⟩ : ∃ k, wid n = k + 1 := ⟨wid n - 1, by omega⟩
      rw [hk] at h0 ⊢
      exact h0

theorem numB_tkNum (b : List UInt8) (h : (tkNum b).2.2 = 0) : numB (tkNum b).1 = b.take (tkNum b).2.1 := by
  cases b with
  | nil => simp [tkNum] at h
  | cons k r =>
    rw [tkNum_cons] at h ⊢
    by_cases h9 : 8 < k.toNat
    · simp [h9] at h
    · by_cases hs : r.length < k.toNat
      · simp [h9, hs] at h
      · rw [if_neg h9, if_neg hs] at h ⊢
        by_cases hg : k.toNat = 0 ∨ goodD (r.headD 0).toNat k.toNat = true
        · rw [if_pos hg]
          simp only
          have hl : (r.take k.toNat).length = k.toNat := by simp; omega
          have hlt := valFrom_lt (r.take k.toNat)
          rw [hl] at hlt
          have hw : wid (valFrom 0 (r.take k.toNat)) = k.toNat := by
            refine wid_of _ _ (by omega) hlt ?_
            rcases hg with h0 | hg
            · exact .inl h0
            · cases r with
              | nil => left; simp at hs; omega
              | cons d r =>
                rcases Nat.eq_zero_or_pos k.toNat with h0 | h0
                · exact .inl h0
                · right
                  obtain ⟨j, hj⟩ : ∃ j, k.toNat = j + 1 := ⟨k.toNat - 1, by omega⟩
                  rw [hj] at hg hl ⊢
                  have hd : d.toNat ≠ 0 := by
                    intro e0
                    simp [goodD, e0] at hg
                  simp only [List.take_succ_cons, Nat.add_sub_cancel, valFrom]
                  rw [valFrom_eq]
                  have hl2 : (List.take j r).length = j := by simpa using hl
                  rw [hl2]
                  have : 1 * 256 ^ j ≤ (0 * 256 + d.toNat) * 256 ^ j := Nat.mul_le_mul_right _ (by omega)
                  omega
          unfold numB
          rw [hw, Nat.add_comm 1, List.take_succ_cons]
          congr 1
          · apply UInt8.toNat_inj.1
            simp
          · have := dig_val (r.take k.toNat)
            rw [hl] at this
            exact this
        · rw [if_neg hg] at h; simp at h

theorem blob_back (p b : List UInt8) (h : p.length ≤ 65536) : tkNum (blobB p ++ b) = (p.length, 1 + wid p.length, 0) := by
  unfold blobB
  rw [List.append_assoc]
  exact tkNum_numB _ (by omega) _

theorem blobB_length (p : List UInt8) : (blobB p).length = 1 + wid p.length + p.length := by simp [blobB, numB_length]; omega

theorem blob_part (p b : List UInt8) : ((blobB p ++ b).drop (1 + wid p.length)).take p.length = p := by
  unfold blobB
  rw [List.append_assoc, List.drop_left' (by rw [numB_length]; omega), List.take_left' rfl]

theorem blobB_tk (b : List UInt8) (h : (tkNum b).2.2 = 0) (hs : ¬ b.length - (tkNum b).2.1 < (tkNum b).1) : blobB ((b.drop (tkNum b).2.1).take (tkNum b).1) = b.take ((tkNum b).2.1 + (tkNum b).1) := by
  have hl : ((b.drop (tkNum b).2.1).take (tkNum b).1).length = (tkNum b).1 := by simp; omega
  unfold blobB
  rw [hl, numB_tkNum b h, List.take_add]
end Go.Proofs.YtipkjiacikdmmaaDoor
