/-
  Names, quotes and class texts, at a place of a text. Plain facts on texts and tokens.
-/
import Derived.Test.YtikfnaffiehpaaaGreatDoorVQ2
import Derived.Test.YtikfnaffiehpaaaGreatDoorVP2
namespace Go.Proofs.YtikfnaffiehpaaaGreatDoor
open Go.RowKit
set_option linter.unusedVariables false
theorem txt_itsQ (C : Nat) : ∃ I : List (Nat × Nat), (∀ p ∈ I, p.1 ≤ p.2 ∧ p.2 < 256) ∧ txt C = ([91] ++ ibody I) ++ [93] ∧ (C < 2 ^ 256 → uo I = C) := by
  have h : ∀ p ∈ (rs C 256).reverse, p.1 ≤ p.2 ∧ p.2 < 256 := fun p hp => rs_lt C 256 p (List.mem_reverse.1 hp)
  refine ⟨its (rs C 256).reverse, its_ok _ h, ?_, fun hC => ?_⟩
  · rw [txt, body_its _ (fun p hp => (h p hp).1)]
  · rw [uo_its, uo_rev, rs_all C hC]
theorem cls_self {C : Nat} (hC : C < 2 ^ 256) : clsP (nb (txt C)) = .inr (C, (nb (txt C)).size) := by
  obtain ⟨I, hI, e1, e2⟩ := txt_itsQ C
  have hh : Here (nb (txt C)) 0 ([91] ++ (ibody I ++ [93])) := fun j x hj => by
    rw [Nat.zero_add]
    exact at_nb _ (txt_lt C) j x (by rw [e1, List.append_assoc]; exact hj)
  rw [clsP_txt hI hh, e2 hC, nb_size, e1]
  simp
  omega
theorem pcs_ok : Pcs (fun T => nmS T = true) (fun T => nb (qt T)) (fun C => nb (txt C)) where
  nm := fun T h => by
    unfold nmS at h
    cases hb : bt T 0 with
    | none => rw [hb] at h; cases h
    | some x =>
      rw [hb] at h
      simp at h
      obtain ⟨⟨h1, h2⟩, h3⟩ := h
      exact ⟨h1, ⟨x, rfl, h2⟩, fun i y hy => (ne_all T _ 0 rfl (Nat.zero_le _)).1 h3 i y (Nat.zero_le _) hy⟩
  qt := fun T X a hT h => by
    have h0 : bt (nb (qt T)) 0 = some 39 := by
      obtain ⟨r, hr⟩ := qp_rest T _ 0 rfl (Nat.zero_le _)
      rw [bt_nb _ (qt_lt T), hr]; rfl
    have hz := (bt_lt h0).1
    have hl := ll_quote T _ 0 rfl (Nat.zero_le _) (by omega)
    rw [if_pos hT] at hl
    have hl2 : ll (nb (qt T)) 39 0 (0 + 1) [] = .inr (bp T T.size, 0 + (nb (qt T)).size) := by rw [show 0 + (nb (qt T)).size = (nb (qt T)).size from Nat.zero_add _]; exact hl
    have hseg : Seg (nb (qt T)) X 0 a (nb (qt T)).size := fun j hj => by rw [Nat.zero_add]; exact h.2 j hj
    have hx := hseg.ll (p := 0) (p' := a) (q := 39) (i := 1) (Nat.le_refl _) hl2
    have hb : bt X a = some 39 := by
      have := h.2 0 hz
      rw [Nat.add_zero] at this
      rw [this]; exact h0
    refine ⟨a, hb, ?_⟩
    unfold tokAt
    rw [if_neg (by decide), if_pos (.inl rfl), hx]
    simp only [nb_bp]
  ct := fun C X a hC h => by
    have hs := cls_self hC
    obtain ⟨I, hI, e1, e2⟩ := txt_itsQ C
    have h0 : bt (nb (txt C)) 0 = some 91 := by rw [bt_nb _ (txt_lt C), e1]; rfl
    have hz := (bt_lt h0).1
    have hb : bt X a = some 91 := by
      have := h.2 0 hz
      rw [Nat.add_zero] at this
      rw [this]; exact h0
    have hg : Agr (nb (txt C)) (X.extract a X.size) (nb (txt C)).size := fun j hj => by
      have := h.1
      rw [bt_ext X _ _ _ (Nat.le_refl _), if_pos (by omega)]
      exact h.2 j hj
    refine ⟨a, hb, ?_⟩
    unfold tokAt
    rw [if_neg (by decide), if_neg (by decide), if_pos rfl, hg.cls hs (Nat.le_refl _)]
theorem nmS_ext {S : ByteArray} {p x : Nat} (hb : bt S p = some x) (hl : letB x = true) (h32 : ne S p - p ≤ 32) : nmS (S.extract p (ne S p)) = true := by
  have hp := (bt_lt hb).1
  have hne := ne_le (S := S) (k := p) (by omega)
  have hgt : p < ne S p := by
    have h2 := ne_le (S := S) (k := p + 1) (by omega)
    rw [ne_eq hb, hl]
    simp only [Bool.true_or, if_true]
    omega
  have hsz : (S.extract p (ne S p)).size = ne S p - p := by rw [ByteArray.size_extract]; omega
  have hb0 : bt (S.extract p (ne S p)) 0 = some x := by rw [bt_ext _ _ _ _ hne.2, if_pos (by omega), Nat.add_zero]; exact hb
  have hall : ∀ f k, ne S p - k = f → p ≤ k → k ≤ ne S p → ne S k = ne S p → ∀ j y, k ≤ j → j < ne S p → bt S j = some y → (letB y || digB y) = true := by
    intro f
    induction f with
    | zero => intro k h1 h2 h3 _ j y h4 h5; omega
    | succ f ih =>
      intro k h1 h2 h3 h6 j y h4 h5 hy
      cases hk : bt S k with
      | none => have := bt_none hk; omega
      | some z =>
        rw [ne_eq hk] at h6
        cases hz : (letB z || digB z) with
        | false => rw [hz] at h6; simp at h6; omega
        | true =>
          rw [hz] at h6
          simp only [if_true] at h6
          rcases Nat.lt_or_ge k j with h7 | h7
          · exact ih (k + 1) (by omega) (by omega) (by omega) h6 j y (by omega) h5 hy
          · obtain rfl : j = k := by omega
            rw [hk] at hy
            cases hy
            exact hz
  unfold nmS
  rw [hb0]
  simp only [Bool.and_eq_true, decide_eq_true_eq]
  refine ⟨⟨by omega, hl⟩, ?_⟩
  refine (ne_all _ _ 0 rfl (Nat.zero_le _)).2 fun i y _ hy => ?_
  have hi := (bt_lt hy).1
  rw [bt_ext _ _ _ _ hne.2, if_pos (by omega)] at hy
  exact hall _ p rfl (Nat.le_refl _) hne.1 rfl (p + i) y (by omega) (by omega) hy
theorem tokAt_g {S : ByteArray} {p x n : Nat} {t : Tok} (hb : bt S p = some x) (h : tokAt S p x = .inr (t, n)) : TokG (fun T => nmS T = true) t := by
  have hc := (tokAt_ok hb h).2.2.1
  unfold tokAt at h
  split at h
  · rename_i hl
    split at h
    · cases h
    · rename_i h32
      simp only [Sum.inr.injEq, Prod.mk.injEq] at h
      obtain ⟨rfl, _⟩ := h
      exact ⟨fun _ => ⟨nmS_ext hb hl (by omega), rfl⟩, (fun e => by cases e), (fun e => by cases e), (fun e => by cases e), hc⟩
  · split at h
    · split at h
      · cases h
      · rename_i l m hm
        simp only [Sum.inr.injEq, Prod.mk.injEq] at h
        obtain ⟨rfl, _⟩ := h
        have := ll_ok hm
        exact ⟨(fun e => by cases e), fun _ => ⟨by show (nb l).size ≤ 255; rw [nb_size]; omega, rfl⟩, (fun e => by cases e), (fun e => by cases e), hc⟩
    · split at h
      · split at h
        · cases h
        · simp only [Sum.inr.injEq, Prod.mk.injEq] at h
          obtain ⟨rfl, _⟩ := h
          exact ⟨(fun e => by cases e), (fun e => by cases e), fun _ => rfl, (fun e => by cases e), hc⟩
      · split at h
        · simp only [Sum.inr.injEq, Prod.mk.injEq] at h
          obtain ⟨rfl, _⟩ := h
          exact ⟨(fun e => by cases e), (fun e => by cases e), (fun e => by cases e), (fun e => by cases e), hc⟩
        · split at h
          · simp only [Sum.inr.injEq, Prod.mk.injEq] at h
            obtain ⟨rfl, _⟩ := h
            exact ⟨(fun e => by cases e), (fun e => by cases e), (fun e => by cases e), fun _ => rfl, hc⟩
          · cases h
theorem tkl_g (S : ByteArray) : ∀ (f k : Nat) (acc L : List Tok), tkl S f k acc = .inr L → (∀ t ∈ acc, TokG (fun T => nmS T = true) t) → ∀ t ∈ L, TokG (fun T => nmS T = true) t
  | 0, k, acc, L, h, ha => by
    rw [tkl] at h
    simp only [Sum.inr.injEq] at h
    subst h
    exact ha
  | f + 1, k, acc, L, h, ha => by
    rw [tkl] at h
    split at h
    · simp only [Sum.inr.injEq] at h
      subst h
      exact ha
    · rename_i x hb
      split at h
      · cases h
      · rename_i t n ht
        exact tkl_g S f _ _ L h (fun u hu => by
          rcases List.mem_append.1 hu with h | h
          · exact ha u h
          · simp at h; rw [h]; exact tokAt_g hb ht)
/-- What is read may be printed. -/
theorem par_ok {S : ByteArray} {rs : List Rl} (h : parS S = .inr rs) : ∀ x ∈ rs, Ruk (fun T => nmS T = true) x ∧ (eN x.2.1 = false → dN x.2.1 ≤ 24) := by
  unfold parS at h
  cases ht : tkS S with
  | inl c => rw [ht] at h; cases h
  | inr L =>
    rw [ht] at h
    obtain ⟨m, hm, rfl⟩ := tkS_inv ht
    have hg := tkl_g S _ _ _ _ hm (fun t ht => by simp at ht)
    have hk : ∀ k, TokG (fun T => nmS T = true) (gL (m ++ [(6, { data := #[] }, 0, S.size)]) k) := fun k => by
      rcases Nat.lt_or_ge k m.length with hl | hl
      · rw [gL_left hl]
        exact hg _ (List.getElem_mem hl)
      · rw [gL_right hl]
        have e6 : ∀ p, TokG (fun T => nmS T = true) (6, { data := #[] }, 0, p) := fun p => ⟨(fun e => by cases e), (fun e => by cases e), (fun e => by cases e), (fun e => by cases e), by show (0 : Nat) < 2 ^ 256; decide⟩
        match k - m.length with
        | 0 => exact e6 _
        | j + 1 => exact e6 _
    exact fun x hx => ⟨gra_v hk h x hx, gra_d h x hx⟩
end Go.Proofs.YtikfnaffiehpaaaGreatDoor
