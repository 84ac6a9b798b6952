/-
  What a quote is read as. Plain facts on the functions of X15 and X17. Conditions: those that each theorem names.
-/
import Derived.Test.YtbdhgfblkgkekaaDoorX19
import Derived.Test.YtbdhgfblkgkekaaDoorX17
namespace Go.Proofs.YtbdhgfblkgkekaaDoor
open Go.RowKit
set_option linter.unusedVariables false
theorem dgv_hexd : ∀ d, d < 16 → dgv (hexd d) = some d := by decide +kernel
/-- These bytes stand at k. -/
def Hr (S : ByteArray) (k : Nat) (l : List Nat) : Prop := ∀ j x, l[j]? = some x → bt S (k + j) = some x
theorem lsg_lq {S : ByteArray} {k b : Nat} (hb : b < 256) (h : Hr S k (lq b)) : lsg S k = .inr (b, k + (lq b).length) ∧ ¬ bt S k = some 39 := by
  have p92 : plB 92 = true := rfl
  unfold lq at h ⊢
  split at h
  · rename_i e; subst e
    have a0 := h 0 92 rfl; have a1 := h 1 110 rfl
    simp only [Nat.add_zero] at a0
    refine ⟨?_, by rw [a0]; simp⟩
    unfold lsg lesc; rw [a0]; simp [a1, lescv, p92]
  · rename_i h1
    split at h
    · rename_i e; subst e
      have a0 := h 0 92 rfl; have a1 := h 1 114 rfl
      simp only [Nat.add_zero] at a0
      refine ⟨?_, by rw [a0]; simp⟩
      unfold lsg lesc; rw [a0]; simp [a1, lescv, p92]
    · rename_i h2
      split at h
      · rename_i e; subst e
        have a0 := h 0 92 rfl; have a1 := h 1 116 rfl
        simp only [Nat.add_zero] at a0
        refine ⟨?_, by rw [a0]; simp⟩
        unfold lsg lesc; rw [a0]; simp [a1, lescv, p92]
      · rename_i h3
        split at h
        · rename_i hm
          have a0 := h 0 92 rfl; have a1 := h 1 b rfl
          simp only [Nat.add_zero] at a0
          refine ⟨?_, by rw [a0]; simp⟩
          have hv : lescv b = some b := by
            unfold lescv
            rw [if_neg (by omega), if_neg (by omega), if_neg (by omega), if_pos (by omega)]
          unfold lsg lesc; rw [a0]; simp [a1, hv, p92, hm, h1, h2, h3]
        · rename_i hm
          split at h
          · rename_i hp
            have a0 := h 0 b rfl
            simp only [Nat.add_zero] at a0
            refine ⟨?_, by rw [a0]; simp; omega⟩
            unfold lsg; rw [a0]; simp [hp, h1, h2, h3, hm]; omega
          · rename_i hp
            have a0 := h 0 92 rfl; have a1 := h 1 120 rfl; have a2 := h 2 _ rfl; have a3 := h 3 _ rfl
            simp only [Nat.add_zero] at a0
            refine ⟨?_, by rw [a0]; simp⟩
            have d1 : dg S (k + 2) = some (b / 16) := by unfold dg; rw [a2]; exact dgv_hexd _ (by omega)
            have d2 : dg S (k + 3) = some (b % 16) := by unfold dg; rw [a3]; exact dgv_hexd _ (by omega)
            have hd : digs S (k + 1 + 1) = .inr (b, k + 4) := by
              unfold digs
              rw [show k + 1 + 1 = k + 2 by omega, d1]
              simp only
              rw [show k + 2 + 1 = k + 3 by omega, d2]
              simp only
              rw [show 16 * (b / 16) + b % 16 = b by omega]
            have hv : lescv 120 = none := rfl
            unfold lsg lesc; rw [a0]; simp [a1, hv, p92, hp, h1, h2, h3, hm, hd]
/-- The bytes of a text up to k. -/
def bp (S : ByteArray) : Nat → List Nat
  | 0 => []
  | k + 1 => bp S k ++ (match bt S k with | some x => [x] | none => [])
theorem bp_succ {S : ByteArray} {k x : Nat} (h : bt S k = some x) : bp S (k + 1) = bp S k ++ [x] := by rw [bp, h]
theorem bp_len (S : ByteArray) : ∀ k, k ≤ S.size → (bp S k).length = k
  | 0, _ => rfl
  | k + 1, h => by
    cases hb : bt S k with
    | none => have := bt_none hb; omega
    | some x => rw [bp_succ hb, List.length_append, bp_len S k (by omega)]; rfl
theorem bp_take (S : ByteArray) : ∀ k, k ≤ S.size → (bp S k).map UInt8.ofNat = S.data.toList.take k
  | 0, _ => by simp [bp]
  | k + 1, h => by
    cases hb : bt S k with
    | none => have := bt_none hb; omega
    | some x =>
      obtain ⟨hk, hx⟩ := bt_at hb
      have hk2 : k < S.data.toList.length := by rw [Array.length_toList]; exact hk
      have h1 : UInt8.ofNat x = S.data.toList[k] := by
        rw [← hx]
        apply UInt8.toNat.inj
        have := (bt_lt hb).2
        simp
        rfl
      rw [bp_succ hb, List.map_append, bp_take S k (by omega), List.take_succ_eq_append_getElem hk2]
      simp [h1]
theorem nb_bp (S : ByteArray) : nb (bp S S.size) = S := by
  apply ByteArray.ext
  unfold nb
  simp only
  rw [bp_take S S.size (Nat.le_refl _)]
  apply Array.toList_inj.1
  simp only
  exact List.take_of_length_le (by rw [Array.length_toList]; exact Nat.le_refl _)
theorem bt_nb (l : List Nat) (h : ∀ x ∈ l, x < 256) (i : Nat) : bt (nb l) i = l[i]? := by
  unfold bt
  by_cases hi : i < (nb l).size
  · rw [dif_pos hi]
    rw [nb_size] at hi
    rw [List.getElem?_eq_getElem hi]
    have := h _ (List.getElem_mem hi)
    show some (((nb l).data[i]).toNat) = _
    simp [nb]
    omega
  · rw [dif_neg hi]
    rw [nb_size] at hi
    rw [List.getElem?_eq_none (by omega)]
theorem qp_rest (P : ByteArray) : ∀ f k : Nat, P.size - k = f → k ≤ P.size → ∃ r, qt P = qp P k ++ r
  | 0, k, hf, hk => by
    obtain rfl : k = P.size := by omega
    exact ⟨[39], rfl⟩
  | f + 1, k, hf, hk => by
    obtain ⟨r, hr⟩ := qp_rest P f (k + 1) (by omega) (by omega)
    cases hb : bt P k with
    | none => have := bt_none hb; omega
    | some x => rw [qp_succ hb] at hr; exact ⟨lq x ++ r, by rw [hr, List.append_assoc]⟩
theorem qt_here {P : ByteArray} {k x : Nat} (h : bt P k = some x) : Hr (nb (qt P)) (qp P k).length (lq x) := by
  have hk := (bt_lt h).1
  obtain ⟨r, hr⟩ := qp_rest P _ (k + 1) rfl (by omega)
  rw [qp_succ h, List.append_assoc] at hr
  intro j y hj
  rw [bt_nb _ (qt_lt P), hr, List.getElem?_append_right (by omega), Nat.add_sub_cancel_left]
  have hjl : j < (lq x).length := by
    rcases Nat.lt_or_ge j (lq x).length with h1 | h1
    · exact h1
    · rw [List.getElem?_eq_none h1] at hj; cases hj
  rw [List.getElem?_append_left hjl]
  exact hj
/-- A quote is read back. -/
theorem ll_quote (P : ByteArray) : ∀ f k : Nat, P.size - k = f → k ≤ P.size → k ≤ 255 →
    ll (nb (qt P)) 39 0 (qp P k).length (bp P k) = if P.size ≤ 255 then .inr (bp P P.size, (nb (qt P)).size) else .inl (2, 0)
  | 0, k, hf, hk, h5 => by
    obtain rfl : k = P.size := by omega
    have hb : bt (nb (qt P)) (qp P P.size).length = some 39 := by
      rw [bt_nb _ (qt_lt P)]
      unfold qt
      rw [List.getElem?_append_right (Nat.le_refl _), Nat.sub_self]; rfl
    rw [ll_end hb, if_pos (by omega), nb_size]
    unfold qt
    rw [List.length_append]; rfl
  | f + 1, k, hf, hk, h5 => by
    cases hb : bt P k with
    | none => have := bt_none hb; omega
    | some x =>
      obtain ⟨hs, hq⟩ := lsg_lq (bt_lt hb).2 (qt_here hb)
      have hlen := bp_len P k hk
      by_cases h6 : k = 255
      · rw [ll_long hq hs (by omega), if_neg (by omega)]
      · rw [ll_on hq hs (by omega), ← bp_succ hb, ← List.length_append, ← qp_succ hb]
        exact ll_quote P f (k + 1) (by omega) (by omega) (by omega)
/-- A quote's tokens. -/
theorem tkS_quote (P : ByteArray) : tkS (nb (qt P)) = if P.size ≤ 255 then .inr [(3, P, 0, 0), (6, { data := #[] }, 0, (nb (qt P)).size)] else .inl (2, 0) := by
  have h0 : bt (nb (qt P)) 0 = some 39 := by
    obtain ⟨r, hr⟩ := qp_rest P _ 0 rfl (Nat.zero_le _)
    rw [bt_nb _ (qt_lt P), hr]; rfl
  have s0 : sb (nb (qt P)) 0 = 0 := by rw [sb_eq h0]; rfl
  have hl := ll_quote P _ 0 rfl (Nat.zero_le _) (by omega)
  have hl2 : ll (nb (qt P)) 39 0 (0 + 1) [] = if P.size ≤ 255 then .inr (bp P P.size, (nb (qt P)).size) else .inl (2, 0) := hl
  have hT : tokAt (nb (qt P)) 0 39 = if P.size ≤ 255 then .inr ((3, P, 0, 0), (nb (qt P)).size) else .inl (false, (2, 0)) := by
    unfold tokAt
    rw [if_neg (by decide), if_pos (by omega), hl2]
    by_cases h5 : P.size ≤ 255
    · rw [if_pos h5, if_pos h5]; simp only [nb_bp]
    · rw [if_neg h5, if_neg h5]
  unfold tkS
  rw [s0]
  by_cases h5 : P.size ≤ 255
  · rw [if_pos h5] at hT ⊢
    rw [tks_on h0 hT, sb_none (bt_ge (Nat.le_refl _)), tks_end (Nat.le_refl _)]; rfl
  · rw [if_neg h5] at hT ⊢
    rw [tks_bad h0 hT]; rfl
end Go.Proofs.YtbdhgfblkgkekaaDoor
