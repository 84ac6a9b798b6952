/-
  Tokens with a blank between each two: they are read as they were. Plain facts on the functions of X15. Conditions: those that each theorem names.
-/
import Derived.Test.YtbdhgfblkgkekaaDoorXNt
namespace Go.Proofs.YtbdhgfblkgkekaaDoor
open Go.RowKit
set_option linter.unusedVariables false
/-- A token's place in a row. -/
def pl (L : List Tok) (j : Nat) : Nat := match L[j]? with
  | some t => t.2.2.2
  | none => 0
/-- What a row of tokens was read as: each at its place, the next one behind blanks. -/
def Ch (S : ByteArray) (m : List Tok) (L : List Tok) : Prop := L = m ++ [(6, { data := #[] }, 0, S.size)] ∧ pl L 0 = sb S 0 ∧
  ∀ j (h : j < m.length), ∃ x n, bt S (pl L j) = some x ∧ tokAt S (pl L j) x = .inr (m[j], n) ∧ sb S n = pl L (j + 1) ∧ blB x = false ∧ x ≠ 35
theorem ch_list {S : ByteArray} : ∀ (m : List Tok) (k0 : Nat), k0 ≤ S.size → tks S (sb S k0) [] = .inr m → pl (m ++ [(6, { data := #[] }, 0, S.size)]) 0 = sb S k0 ∧
    ∀ j (h : j < m.length), ∃ x n, bt S (pl (m ++ [(6, { data := #[] }, 0, S.size)]) j) = some x ∧ tokAt S (pl (m ++ [(6, { data := #[] }, 0, S.size)]) j) x = .inr (m[j], n) ∧ sb S n = pl (m ++ [(6, { data := #[] }, 0, S.size)]) (j + 1) ∧ blB x = false ∧ x ≠ 35
  | [], k0, hk, h => by
    refine ⟨?_, fun j hj => by simp at hj⟩
    have hge := sb_ge (S := S) hk
    cases hb : bt S (sb S k0) with
    | none =>
      have := bt_none hb
      show S.size = _
      omega
    | some x =>
      cases ht : tokAt S (sb S k0) x with
      | inl b => rw [tks_bad hb ht] at h; cases h
      | inr r =>
        obtain ⟨t, n⟩ := r
        rw [tks_on hb ht, tks_acc] at h
        cases hm : tks S (sb S n) [] with
        | inl c => rw [hm] at h; cases h
        | inr l => rw [hm] at h; simp [lift] at h
  | t :: r, k0, hk, h => by
    obtain ⟨x, n, hb, ht, hr⟩ := tks_inv h
    have hok := tokAt_ok hb ht
    have hfx := sb_fix (S := S) _ k0 x (Nat.le_refl _) hk hb
    obtain ⟨i1, i2⟩ := ch_list r n hok.2.1 hr
    have hp0 : pl (t :: r ++ [(6, { data := #[] }, 0, S.size)]) 0 = sb S k0 := hok.2.2.2.1
    refine ⟨hp0, fun j hj => ?_⟩
    match j, hj with
    | 0, _ => exact ⟨x, n, by rw [hp0]; exact hb, by rw [hp0]; exact ht, by rw [← i1]; rfl, hfx⟩
    | j + 1, hj =>
      obtain ⟨y, q, k1, k2, k3, k4⟩ := i2 j (by simpa using hj)
      exact ⟨y, q, k1, k2, k3, k4⟩
theorem tkS_ch {S : ByteArray} {L : List Tok} (h : tkS S = .inr L) : ∃ m, Ch S m L := by
  obtain ⟨m, hm, rfl⟩ := tkS_inv h
  obtain ⟨h1, h2⟩ := ch_list m 0 (Nat.zero_le _) hm
  exact ⟨m, rfl, h1, h2⟩
theorem Ch.len {S : ByteArray} {m L : List Tok} (h : Ch S m L) : L.length = m.length + 1 := by rw [h.1]; simp
theorem Ch.last {S : ByteArray} {m L : List Tok} (h : Ch S m L) : pl L m.length = S.size := by
  rw [h.1]
  unfold pl
  rw [List.getElem?_append_right (Nat.le_refl _), Nat.sub_self]
  rfl
theorem Ch.step {S : ByteArray} {m L : List Tok} (h : Ch S m L) (j : Nat) (hj : j < m.length) : pl L j < pl L (j + 1) ∧ pl L (j + 1) ≤ S.size := by
  obtain ⟨x, n, h1, h2, h3, _⟩ := h.2.2 j hj
  have hok := tokAt_ok h1 h2
  have hge := sb_ge (S := S) hok.2.1
  omega
/-- The pieces, with a blank behind each. -/
def tp (S : ByteArray) (L : List Tok) : Nat → ByteArray
  | 0 => { data := #[] }
  | j + 1 => tp S L j ++ S.extract (pl L j) (pl L (j + 1)) ++ { data := #[10, 32] }
theorem tp_size (S : ByteArray) (L : List Tok) (j : Nat) (h : pl L j ≤ pl L (j + 1)) (h2 : pl L (j + 1) ≤ S.size) : (tp S L (j + 1)).size = (tp S L j).size + (pl L (j + 1) - pl L j) + 2 := by
  rw [tp, ByteArray.size_append, ByteArray.size_append, ByteArray.size_extract, show ({ data := #[10, 32] } : ByteArray).size = 2 from rfl]
  omega
theorem tp_le {S : ByteArray} {m L : List Tok} (h : Ch S m L) : ∀ j, j ≤ m.length → (tp S L j).size ≤ pl L j + 2 * j
  | 0, _ => Nat.zero_le _
  | j + 1, hj => by
    have hs := h.step j (by omega)
    have := tp_le h j (by omega)
    rw [tp_size S L j (by omega) hs.2]
    omega
/-- A beginning. -/
theorem tp_pre (S : ByteArray) (L : List Tok) : ∀ d j i : Nat, i < (tp S L j).size → bt (tp S L (j + d)) i = bt (tp S L j) i ∧ i < (tp S L (j + d)).size
  | 0, j, i, h => ⟨rfl, h⟩
  | d + 1, j, i, h => by
    obtain ⟨h1, h2⟩ := tp_pre S L d j i h
    rw [show j + (d + 1) = (j + d) + 1 by omega, tp]
    constructor
    · rw [bt_app, if_pos (by rw [ByteArray.size_append]; omega), bt_app, if_pos h2]
      exact h1
    · rw [ByteArray.size_append, ByteArray.size_append]; omega
theorem tp_at {S : ByteArray} {m L : List Tok} (h : Ch S m L) (j : Nat) (hj : j < m.length) :
    Seg S (tp S L m.length) (pl L j) (tp S L j).size (pl L (j + 1) - pl L j) ∧ bt (tp S L m.length) ((tp S L j).size + (pl L (j + 1) - pl L j)) = some 10 ∧ bt (tp S L m.length) ((tp S L j).size + (pl L (j + 1) - pl L j) + 1) = some 32 ∧ (tp S L (j + 1)).size ≤ (tp S L m.length).size := by
  have hs := h.step j hj
  have hsz := tp_size S L j (by omega) hs.2
  obtain ⟨d, hd⟩ : ∃ d, m.length = (j + 1) + d := ⟨m.length - (j + 1), by omega⟩
  have hpre := tp_pre S L d (j + 1)
  rw [← hd] at hpre
  have hex : (S.extract (pl L j) (pl L (j + 1))).size = pl L (j + 1) - pl L j := by rw [ByteArray.size_extract]; omega
  have hb : ∀ i, bt (tp S L (j + 1)) ((tp S L j).size + i) = if i < pl L (j + 1) - pl L j then bt S (pl L j + i) else bt { data := #[10, 32] } (i - (pl L (j + 1) - pl L j)) := fun i => by
    rw [tp, bt_app, ByteArray.size_append, hex]
    by_cases hi : i < pl L (j + 1) - pl L j
    · rw [if_pos (by omega), if_pos hi, bt_app, if_neg (by omega), Nat.add_sub_cancel_left, bt_ext _ _ _ _ hs.2, if_pos (by omega)]
    · rw [if_neg (by omega), if_neg hi]
      congr 1
      omega
  refine ⟨fun i hi => ?_, ?_, ?_, ?_⟩
  · rw [(hpre _ (by omega)).1, hb, if_pos hi]
  · rw [(hpre _ (by omega)).1, hb, if_neg (by omega), Nat.sub_self]; rfl
  · rw [(hpre _ (by omega)).1, show (tp S L j).size + (pl L (j + 1) - pl L j) + 1 = (tp S L j).size + (pl L (j + 1) - pl L j + 1) by omega, hb, if_neg (by omega), Nat.add_sub_cancel_left]; rfl
  · have := (hpre ((tp S L (j + 1)).size - 1) (by omega)).2
    omega
/-- What is left of a token without its place. -/
def core (t : Tok) : Nat × ByteArray × Nat := (t.1, t.2.1, t.2.2.1)
theorem tp_toks {S : ByteArray} {m L : List Tok} (h : Ch S m L) : ∀ d j : Nat, m.length = j + d → ∃ M, tks (tp S L m.length) (tp S L j).size [] = .inr M ∧ M.map core = (m.drop j).map core
  | 0, j, hj => by
    refine ⟨[], ?_, ?_⟩
    · rw [show j = m.length by omega]; exact tks_end (Nat.le_refl _)
    · rw [List.drop_eq_nil_of_le (by omega)]
  | d + 1, j, hj => by
    obtain ⟨x, n, h1, h2, h3, h4, h5⟩ := h.2.2 j (by omega)
    obtain ⟨hseg, h10, h32, hle⟩ := tp_at h j (by omega)
    have hs := h.step j (by omega)
    have hok := tokAt_ok h1 h2
    have hge := sb_ge (S := S) hok.2.1
    have hsz := tp_size S L j (by omega) hs.2
    obtain ⟨i', hi'⟩ : ∃ i', n = pl L j + i' := ⟨n - pl L j, by omega⟩
    rw [hi'] at h2 h3 hge hok
    have hst : Stop (tp S L m.length) ((tp S L j).size + (pl L (j + 1) - pl L j)) := .inl h10
    obtain ⟨k1, k2⟩ := hseg.tok (i := 0) hst (by omega) h1 h2 (by omega)
    rw [Nat.add_zero] at k1 k2
    have hsb : sb (tp S L m.length) ((tp S L j).size + i') = (tp S L (j + 1)).size := by
      rw [hseg.sb hst (by omega) _ i' (pl L (j + 1) - pl L j) (Nat.le_refl _) (by omega) (Nat.le_refl _) (by rw [h3]; omega)]
      rw [sb_eq h10]
      show sb _ _ = _
      rw [sb_eq h32]
      show sb _ _ = _
      rw [show (tp S L j).size + (pl L (j + 1) - pl L j) + 1 + 1 = (tp S L (j + 1)).size by omega]
      by_cases hlast : j + 1 < m.length
      · obtain ⟨y, _, g1, _, _, g4, g5⟩ := h.2.2 (j + 1) hlast
        obtain ⟨gseg, _, _, _⟩ := tp_at h (j + 1) hlast
        have gs := h.step (j + 1) hlast
        have gb := gseg 0 (by omega)
        rw [Nat.add_zero, Nat.add_zero] at gb
        exact sb_at (by rw [gb]; exact g1) g4 g5
      · have : j + 1 = m.length := by omega
        rw [this]
        exact sb_none (bt_ge (Nat.le_refl _))
    obtain ⟨M, hM, hc⟩ := tp_toks h d (j + 1) (by omega)
    refine ⟨((m[j]'(by omega)).1, (m[j]'(by omega)).2.1, (m[j]'(by omega)).2.2.1, (tp S L j).size) :: M, ?_, ?_⟩
    · rw [tks_on k2 k1, tks_acc, hsb, hM]
      rfl
    · rw [List.map_cons, hc, List.drop_eq_getElem_cons (show j < m.length by omega), List.map_cons]
      rfl
/-- The pieces' tokens. -/
theorem tkS_tp {S : ByteArray} {m L : List Tok} (h : Ch S m L) : ∃ M, tkS (tp S L m.length) = .inr M ∧ M.map core = L.map core := by
  have h0 : sb (tp S L m.length) 0 = (tp S L 0).size := by
    show _ = 0
    by_cases hm : 0 < m.length
    · obtain ⟨y, _, g1, _, _, g4, g5⟩ := h.2.2 0 hm
      obtain ⟨gseg, _, _, _⟩ := tp_at h 0 hm
      have gs := h.step 0 hm
      have gb := gseg 0 (by omega)
      rw [Nat.add_zero, Nat.add_zero] at gb
      exact sb_at (show bt _ 0 = some y from gb.trans g1) g4 g5
    · have : m.length = 0 := by omega
      rw [this]
      rfl
  obtain ⟨M, hM, hc⟩ := tp_toks h m.length 0 (by omega)
  refine ⟨M ++ [(6, { data := #[] }, 0, (tp S L m.length).size)], ?_, ?_⟩
  · unfold tkS
    rw [h0, hM]
    rfl
  · rw [List.map_append, hc, h.1, List.map_append, List.drop_zero]
    rfl
theorem core_at {M L : List Tok} (h : M.map core = L.map core) (i : Nat) (h1 : i < M.length) (h2 : i < L.length) : core M[i] = core L[i] := by
  have e1 : (M.map core)[i]'(by simpa using h1) = core M[i] := by simp
  have e2 : (L.map core)[i]'(by simpa using h2) = core L[i] := by simp
  rw [← e1, ← e2]
  simp only [h]
/-- Are these bytes blanks alone? n: within a note. -/
def bkl (P : ByteArray) : Nat → Nat → Bool → Bool
  | 0, _, _ => true
  | f + 1, k, n => match bt P k with
    | none => true
    | some x => if x = 10 then bkl P f (k + 1) false else if n then bkl P f (k + 1) true else if x = 35 then bkl P f (k + 1) true else if x = 9 ∨ x = 13 ∨ x = 32 then bkl P f (k + 1) false else false
def bkB (P : ByteArray) (k : Nat) (n : Bool) : Bool := bkl P (P.size - k) k n
theorem bkB_end {P : ByteArray} {k : Nat} {n : Bool} (h : P.size ≤ k) : bkB P k n = true := by unfold bkB; rw [show P.size - k = 0 by omega]; rfl
theorem bkB_eq {P : ByteArray} {k x : Nat} {n : Bool} (h : bt P k = some x) : bkB P k n = if x = 10 then bkB P (k + 1) false else if n then bkB P (k + 1) true else if x = 35 then bkB P (k + 1) true else if x = 9 ∨ x = 13 ∨ x = 32 then bkB P (k + 1) false else false := by
  have hk := (bt_lt h).1
  unfold bkB
  rw [show P.size - k = (P.size - (k + 1)) + 1 by omega, bkl, h]
/-- The blanks ahead are blanks. -/
theorem bk_blanks {S : ByteArray} {e : Nat} (he : e ≤ S.size) : ∀ f k : Nat, e - k ≤ f → k ≤ e → (sb S k = e → bkB (S.extract 0 e) k false = true) ∧ (le S k ≤ e → sb S (le S k) = e → bkB (S.extract 0 e) k true = true)
  | 0, k, hf, hk => by
    have hsz : (S.extract 0 e).size = e := by rw [ByteArray.size_extract]; omega
    exact ⟨fun _ => bkB_end (by omega), fun _ _ => bkB_end (by omega)⟩
  | f + 1, k, hf, hk => by
    have hsz : (S.extract 0 e).size = e := by rw [ByteArray.size_extract]; omega
    by_cases hke : k = e
    · exact ⟨fun _ => bkB_end (by omega), fun _ _ => bkB_end (by omega)⟩
    · cases hb : bt S k with
      | none => have := bt_none hb; omega
      | some x =>
        have hbe : bt (S.extract 0 e) k = some x := by rw [bt_ext _ _ _ _ he, Nat.zero_add, if_pos (by omega)]; exact hb
        obtain ⟨i1, i2⟩ := bk_blanks he f (k + 1) (by omega) (by omega)
        rw [bkB_eq hbe, bkB_eq hbe]
        constructor
        · intro hs
          rw [sb_eq hb] at hs
          by_cases h10 : x = 10
          · rw [if_pos h10]
            rw [h10] at hs
            exact i1 hs
          · rw [if_neg h10]
            simp only [Bool.false_eq_true, if_false]
            by_cases h35 : x = 35
            · rw [if_pos h35]
              rw [h35] at hs
              have hs2 : sb S (le S k) = e := hs
              have hle : le S k = le S (k + 1) := by rw [le_eq hb, if_neg h10]
              rw [hle] at hs2
              have hge := sb_ge (S := S) (le_le (S := S) (k := k + 1) (by omega)).2
              exact i2 (by omega) hs2
            · rw [if_neg h35]
              cases hbl : blB x with
              | true =>
                rw [hbl] at hs
                have : x = 9 ∨ x = 13 ∨ x = 32 := by
                  unfold blB at hbl
                  simp at hbl
                  omega
                rw [if_pos this]
                exact i1 hs
              | false =>
                rw [hbl] at hs
                simp only [Bool.false_eq_true, if_false] at hs
                rw [if_neg h35] at hs
                omega
        · intro hle hs
          by_cases h10 : x = 10
          · rw [if_pos h10]
            rw [le_eq hb, if_pos h10, sb_eq hb, h10] at hs
            exact i1 hs
          · rw [if_neg h10]
            simp only [if_true]
            rw [le_eq hb, if_neg h10] at hle hs
            exact i2 hle hs
theorem bk_first {S : ByteArray} : bkB (S.extract 0 (sb S 0)) 0 false = true :=
  (bk_blanks (sb_ge (S := S) (Nat.zero_le _)).2 _ 0 (Nat.le_refl _) (Nat.zero_le _)).1 rfl
end Go.Proofs.YtbdhgfblkgkekaaDoor
