/-
  What trees are that are read: each may be printed; without an Empty within, no more parentheses are open at once than its source had. Plain facts on tokens and trees.
  Names, quotes and class texts, at a place of a text. Plain facts on texts and tokens.
-/
import Derived.Test.YtggmoneicdkamaaGreatDoorVXMvToP8
import Derived.Test.YtggmoneicdkamaaGreatDoorVX19ToQ4
namespace Go.Proofs.YtggmoneicdkamaaGreatDoor
open Go.RowKit
set_option linter.unusedVariables false
mutual
/-- Is no Empty within? -/
def eN : Nd → Bool
  | .mk kd T C s p => decide (kd = 1) || eL s
def eL : List Nd → Bool
  | [] => false
  | n :: r => eN n || eL r
end
theorem eL_app : ∀ (a b : List Nd), eL (a ++ b) = (eL a || eL b)
  | [], b => by rw [List.nil_append, eL, Bool.false_or]
  | n :: r, b => by rw [List.cons_append, eL, eL, eL_app r b, Bool.or_assoc]
theorem dS_app (over : Nat) : ∀ (a b : List Nd), dS over (a ++ b) = max (dS over a) (dS over b)
  | [], b => by rw [List.nil_append, dS, Nat.zero_max]
  | n :: r, b => by rw [List.cons_append, dS_cons, dS_cons, dS_app over r b, Nat.max_assoc]
theorem dP_le (over : Nat) (n : Nd) : dN n ≤ dP over n ∧ dP over n ≤ dN n + 1 := by
  unfold dP
  split <;> omega
theorem dP_11_8 (n : Nd) : dP 11 n ≤ dP 8 n := by
  unfold dP
  rw [wr11, wr8]
  by_cases h : n.kd = 6 ∨ n.kd = 7 ∨ n.kd = 11 ∨ n.kd = 12
  · rw [decide_eq_true h, decide_eq_true (show 6 ≤ n.kd by omega)]
    exact Nat.le_refl _
  · rw [decide_eq_false h]
    simp only [Bool.false_eq_true, if_false]
    split <;> omega
theorem dP_6_11 (n : Nd) : dP 6 n ≤ dP 11 n := by
  unfold dP
  rw [wr11, wr6]
  by_cases h : n.kd = 6 ∨ n.kd = 7
  · rw [decide_eq_true h, decide_eq_true (show n.kd = 6 ∨ n.kd = 7 ∨ n.kd = 11 ∨ n.kd = 12 by omega)]
    exact Nat.le_refl _
  · rw [decide_eq_false h]
    simp only [Bool.false_eq_true, if_false]
    split <;> omega
theorem dP_7_6 (n : Nd) : dP 7 n ≤ dP 6 n := by
  unfold dP
  rw [wr7, wr6]
  by_cases h : n.kd = 7
  · rw [decide_eq_true h, decide_eq_true (show n.kd = 6 ∨ n.kd = 7 from .inr h)]
    exact Nat.le_refl _
  · rw [decide_eq_false h]
    simp only [Bool.false_eq_true, if_false]
    split <;> omega
def Dq (g : Nd → Nat) (d : Nat) (r : Pr) : Prop := ∀ n k, r = .inr (n, k) → eN n = false → g n ≤ d
section
variable {L : List Tok}
theorem leaf_d {kd : Nat} {T : ByteArray} {C p : Nat} (h : kd = 2 ∨ kd = 3 ∨ kd = 4 ∨ kd = 5) (d : Nat) : dP 8 (.mk kd T C [] p) ≤ d := by
  unfold dP
  rw [wr8]
  show (if decide (6 ≤ kd) = true then _ else _) ≤ d
  rw [decide_eq_false (by omega)]
  simp only [Bool.false_eq_true, if_false]
  rw [dN, if_neg (by omega), dS]
  exact Nat.zero_le _
theorem one_d {inn : Nat → Pr} {d : Nat} (hi : ∀ k, Dq (dP 8) d (inn k)) (k : Nat) : Dq (dP 8) d (oneS L inn k) := by
  intro n k' h he
  unfold oneS at h
  split at h
  · simp only [Sum.inr.injEq, Prod.mk.injEq] at h
    rw [← h.1]; exact leaf_d (by omega) d
  · split at h
    · simp only [Sum.inr.injEq, Prod.mk.injEq] at h
      rw [← h.1]; exact leaf_d (by omega) d
    · split at h
      · simp only [Sum.inr.injEq, Prod.mk.injEq] at h
        rw [← h.1]; exact leaf_d (by omega) d
      · split at h
        · simp only [Sum.inr.injEq, Prod.mk.injEq] at h
          rw [← h.1]; exact leaf_d (by omega) d
        · split at h
          · exact hi k n k' h he
          · cases h
theorem rpK_kd {T : ByteArray} (h : rpK T ≠ 0) : rpK T = 8 ∨ rpK T = 9 ∨ rpK T = 10 := by
  unfold rpK at h ⊢
  split
  · exact .inl rfl
  · split
    · exact .inr (.inl rfl)
    · split
      · exact .inr (.inr rfl)
      · rename_i h1 h2 h3
        rw [if_neg h1, if_neg h2, if_neg h3] at h
        exact absurd rfl h
theorem eN_one {kd : Nat} {T : ByteArray} {C p : Nat} {m : Nd} (h : eN (.mk kd T C [m] p) = false) : eN m = false := by
  rw [eN, eL, eL] at h
  simp at h
  exact h.2
theorem rep_d {d : Nat} {r : Pr} (hr : Dq (dP 8) d r) : Dq (dP 11) d (repE L r) := by
  intro n k' h he
  cases r with
  | inl e => cases h
  | inr q =>
    obtain ⟨m, j⟩ := q
    unfold repE at h
    simp only at h
    split at h
    · simp only [Sum.inr.injEq, Prod.mk.injEq] at h
      obtain ⟨rfl, rfl⟩ := h
      have := hr m j rfl he
      have := dP_11_8 m
      omega
    · rename_i hs
      have hk := rpK_kd hs
      simp only [Sum.inr.injEq, Prod.mk.injEq] at h
      obtain ⟨rfl, _⟩ := h
      have h1 := hr m j rfl (eN_one he)
      unfold dP
      rw [wr11]
      show (if decide (rpK (sgT (gL L j)) = 6 ∨ rpK (sgT (gL L j)) = 7 ∨ rpK (sgT (gL L j)) = 11 ∨ rpK (sgT (gL L j)) = 12) = true then _ else _) ≤ d
      rw [decide_eq_false (by omega)]
      simp only [Bool.false_eq_true, if_false]
      rw [(kN_rep hk).2]
      exact h1
theorem part_d {inn : Nat → Pr} {d : Nat} (hi : ∀ k, Dq (dP 8) d (inn k)) (k : Nat) : Dq (dP 6) d (partS L inn k) := by
  have ov : ∀ (kd p : Nat) (r : Pr), (kd = 11 ∨ kd = 12) → Dq (dP 11) d r → Dq (dP 6) d (ovS kd p r) := fun kd p r hk hr n k' h he => by
    cases r with
    | inl e => cases h
    | inr q =>
      obtain ⟨m, j⟩ := q
      simp only [ovS, Sum.inr.injEq, Prod.mk.injEq] at h
      obtain ⟨rfl, _⟩ := h
      have h1 := hr m j rfl (eN_one he)
      unfold dP
      rw [wr6]
      show (if decide (kd = 6 ∨ kd = 7) = true then _ else _) ≤ d
      rw [decide_eq_false (by omega)]
      simp only [Bool.false_eq_true, if_false]
      rw [(kN_and hk).2]
      exact h1
  unfold partS
  split
  · exact ov 12 _ _ (.inr rfl) (rep_d (one_d hi _))
  · split
    · exact ov 11 _ _ (.inl rfl) (rep_d (one_d hi _))
    · intro n k' h he
      have h1 := rep_d (one_d hi _) n k' h he
      have := dP_6_11 n
      omega
theorem eN_join {kd : Nat} : ∀ {l : List Nd}, l ≠ [] → kd ≠ 1 → eN (joinN kd l) = eL l
  | [], h, _ => absurd rfl h
  | [n], _, _ => by rw [joinN, eL, eL, Bool.or_false]
  | n :: m :: r, _, h => by
    show eN (.mk kd _ 0 (n :: m :: r) n.at') = _
    rw [eN, decide_eq_false h, Bool.false_or]
theorem row_d {inn : Nat → Pr} {d : Nat} (hi : ∀ k, Dq (dP 8) d (inn k)) : ∀ (f k : Nat) (acc : List Nd), (eL acc = false → dS 6 acc ≤ d) → Dq (dP 7) d (rowS L inn f k acc)
  | 0, _, _, _ => fun n k' h _ => by rw [rowS] at h; cases h
  | f + 1, k, acc, ha => fun n k' h he => by
    rw [rowS] at h
    split at h
    · split at h
      · cases h
      · rename_i m j hp
        refine row_d hi f j (acc ++ [m]) (fun hel => ?_) n k' h he
        rw [eL_app, eL, eL, Bool.or_false] at hel
        simp at hel
        have h1 := ha hel.1
        have h2 := part_d hi k m j hp hel.2
        rw [dS_app, dS_cons, dS]
        omega
    · split at h
      · simp only [Sum.inr.injEq, Prod.mk.injEq] at h
        rw [← h.1, eN] at he
        simp at he
      · rename_i hne
        simp only [Sum.inr.injEq, Prod.mk.injEq] at h
        obtain ⟨rfl, _⟩ := h
        have hn : acc ≠ [] := fun e => hne (by rw [e]; rfl)
        rw [eN_join hn (by decide)] at he
        have h1 := ha he
        match acc, hn with
        | [n], _ =>
          rw [dS_cons, dS] at h1
          have := dP_7_6 n
          show dP 7 n ≤ d
          omega
        | n :: m :: r, _ =>
          show dP 7 (.mk 6 _ 0 (n :: m :: r) n.at') ≤ d
          rw [(kP_7 (n := .mk 6 _ 0 (n :: m :: r) n.at') (by show (6 : Nat) ≠ 7; decide)).2, dN, if_neg (by decide)]
          exact h1
theorem alt_d {inn : Nat → Pr} {d : Nat} (hi : ∀ k, Dq (dP 8) d (inn k)) : ∀ (f k : Nat) (acc : List Nd), acc ≠ [] → (eL acc = false → dS 7 acc ≤ d) → Dq dN d (altS L inn f k acc)
  | 0, _, _, _, _ => fun n k' h _ => by rw [altS] at h; cases h
  | f + 1, k, acc, hn, ha => fun n k' h he => by
    rw [altS] at h
    split at h
    · split at h
      · cases h
      · rename_i m j hp
        refine alt_d hi f j (acc ++ [m]) (by simp) (fun hel => ?_) n k' h he
        rw [eL_app, eL, eL, Bool.or_false] at hel
        simp at hel
        have h1 := ha hel.1
        have h2 := row_d hi _ _ [] (fun _ => by rw [dS]; exact Nat.zero_le _) m j hp hel.2
        rw [dS_app, dS_cons, dS]
        omega
    · simp only [Sum.inr.injEq, Prod.mk.injEq] at h
      obtain ⟨rfl, _⟩ := h
      rw [eN_join hn (by decide)] at he
      have h1 := ha he
      match acc, hn with
      | [n], _ =>
        rw [dS_cons, dS] at h1
        have := (dP_le 7 n).1
        show dN n ≤ d
        omega
      | n :: m :: r, _ =>
        show dN (.mk 7 _ 0 (n :: m :: r) n.at') ≤ d
        rw [dN, if_neg (by decide)]
        exact h1
theorem ch_d {inn : Nat → Pr} {d : Nat} (hi : ∀ k, Dq (dP 8) d (inn k)) (k : Nat) : Dq dN d (chS L inn k) := by
  intro n k' h he
  unfold chS at h
  cases hr : rowS L inn L.length k [] with
  | inl e => rw [hr] at h; cases h
  | inr q =>
    obtain ⟨m, j⟩ := q
    rw [hr] at h
    refine alt_d hi _ j [m] (by simp) (fun hel => ?_) n k' h he
    rw [eL, eL, Bool.or_false] at hel
    have h1 := row_d hi _ _ [] (fun _ => by rw [dS]; exact Nat.zero_le _) m j hr hel
    rw [dS_cons, dS]
    omega
theorem inn_d : ∀ (d k : Nat), Dq (dP 8) d (innS L d k)
  | 0, k => fun n k' h _ => by rw [innS] at h; cases h
  | d + 1, k => fun n k' h he => by
    rw [innS] at h
    obtain ⟨j, h1, _⟩ := innE_inv h
    have := ch_d (inn_d d) (k + 1) n j h1 he
    have := (dP_le 8 n).2
    omega
/-- A rule's body without an Empty. -/
theorem ru_d {ru k k' : Nat} {x : Rl} (h : ruS L ru k = .inr (x, k')) (he : eN x.2.1 = false) : dN x.2.1 ≤ 24 :=
  ch_d (inn_d 24) (k + 2) _ _ (ruS_inv h).1 he
theorem rls_d : ∀ (f k : Nat) (acc rs : List Rl), rlsS L f k acc = .inr rs → (∀ x ∈ acc, eN x.2.1 = false → dN x.2.1 ≤ 24) → ∀ x ∈ rs, eN x.2.1 = false → dN x.2.1 ≤ 24
  | 0, _, _, _, h, _ => by rw [rlsS] at h; cases h
  | f + 1, k, acc, rs, h, ha => by
    rw [rlsS] at h
    split at h
    · simp only [Sum.inr.injEq] at h; subst h; exact ha
    · split at h
      · cases h
      · rename_i x k' hr
        refine rls_d f k' (acc ++ [x]) rs h (fun y hy hey => ?_)
        rcases List.mem_append.1 hy with hy | hy
        · exact ha y hy hey
        · simp at hy
          subst hy
          exact ru_d hr hey
theorem gra_d {rs : List Rl} (h : graS L = .inr rs) : ∀ x ∈ rs, eN x.2.1 = false → dN x.2.1 ≤ 24 := by
  unfold graS at h
  cases hr : ruS L 0 0 with
  | inl c => rw [hr] at h; cases h
  | inr q =>
    obtain ⟨x, k'⟩ := q
    rw [hr] at h
    refine rls_d _ _ _ _ h (fun y hy hey => ?_)
    simp at hy
    subst hy
    exact ru_d hr hey
end
end Go.Proofs.YtggmoneicdkamaaGreatDoor
namespace Go.Proofs.YtggmoneicdkamaaGreatDoor
open Go.RowKit
set_option linter.unusedVariables false
theorem txt_itsQ (C : Nat) : ∃ I : List (Nat × Nat), (∀ p ∈ I, p.1 ≤ p.2 ∧ p.2 < 256) ∧ txt C = ([91] ++ ibody I) ++ [93] ∧ (C < 2 ^ 256 → uo I = C) := by
  have h : ∀ p ∈ (rs C 256).reverse, p.1 ≤ p.2 ∧ p.2 < 256 := fun p hp => rs_lt C 256 p (List.mem_reverse.1 hp)
  refine ⟨its (rs C 256).reverse, its_ok _ h, ?_, fun hC => ?_⟩
  · rw [txt, body_its _ (fun p hp => (h p hp).1)]
  · rw [uo_its, uo_rev, rs_all C hC]
theorem cls_self {C : Nat} (hC : C < 2 ^ 256) : clsP (nb (txt C)) = .inr (C, (nb (txt C)).size) := by
  obtain ⟨I, hI, e1, e2⟩ := txt_itsQ C
  have hh : Here (nb (txt C)) 0 ([91] ++ (ibody I ++ [93])) := fun j x hj => by
    rw [Nat.zero_add]
    exact at_nb _ (txt_lt C) j x (by rw [e1, List.append_assoc]; exact hj)
  rw [clsP_txt hI hh, e2 hC, nb_size, e1]
  simp
  omega
theorem pcs_ok : Pcs (fun T => nmS T = true) (fun T => nb (qt T)) (fun C => nb (txt C)) where
  nm := fun T h => by
    unfold nmS at h
    cases hb : bt T 0 with
    | none => rw [hb] at h; cases h
    | some x =>
      rw [hb] at h
      simp at h
      obtain ⟨⟨h1, h2⟩, h3⟩ := h
      exact ⟨h1, ⟨x, rfl, h2⟩, fun i y hy => (ne_all T _ 0 rfl (Nat.zero_le _)).1 h3 i y (Nat.zero_le _) hy⟩
  qt := fun T X a hT h => by
    have h0 : bt (nb (qt T)) 0 = some 39 := by
      obtain ⟨r, hr⟩ := qp_rest T _ 0 rfl (Nat.zero_le _)
      rw [bt_nb _ (qt_lt T), hr]; rfl
    have hz := (bt_lt h0).1
    have hl := ll_quote T _ 0 rfl (Nat.zero_le _) (by omega)
    rw [if_pos hT] at hl
    have hl2 : ll (nb (qt T)) 39 0 (0 + 1) [] = .inr (bp T T.size, 0 + (nb (qt T)).size) := by rw [show 0 + (nb (qt T)).size = (nb (qt T)).size from Nat.zero_add _]; exact hl
    have hseg : Seg (nb (qt T)) X 0 a (nb (qt T)).size := fun j hj => by rw [Nat.zero_add]; exact h.2 j hj
    have hx := hseg.ll (p := 0) (p' := a) (q := 39) (i := 1) (Nat.le_refl _) hl2
    have hb : bt X a = some 39 := by
      have := h.2 0 hz
      rw [Nat.add_zero] at this
      rw [this]; exact h0
    refine ⟨a, hb, ?_⟩
    unfold tokAt
    rw [if_neg (by decide), if_pos (.inl rfl), hx]
    simp only [nb_bp]
  ct := fun C X a hC h => by
    have hs := cls_self hC
    obtain ⟨I, hI, e1, e2⟩ := txt_itsQ C
    have h0 : bt (nb (txt C)) 0 = some 91 := by rw [bt_nb _ (txt_lt C), e1]; rfl
    have hz := (bt_lt h0).1
    have hb : bt X a = some 91 := by
      have := h.2 0 hz
      rw [Nat.add_zero] at this
      rw [this]; exact h0
    have hg : Agr (nb (txt C)) (X.extract a X.size) (nb (txt C)).size := fun j hj => by
      have := h.1
      rw [bt_ext X _ _ _ (Nat.le_refl _), if_pos (by omega)]
      exact h.2 j hj
    refine ⟨a, hb, ?_⟩
    unfold tokAt
    rw [if_neg (by decide), if_neg (by decide), if_pos rfl, hg.cls hs (Nat.le_refl _)]
theorem nmS_ext {S : ByteArray} {p x : Nat} (hb : bt S p = some x) (hl : letB x = true) (h32 : ne S p - p ≤ 32) : nmS (S.extract p (ne S p)) = true := by
  have hp := (bt_lt hb).1
  have hne := ne_le (S := S) (k := p) (by omega)
  have hgt : p < ne S p := by
    have h2 := ne_le (S := S) (k := p + 1) (by omega)
    rw [ne_eq hb, hl]
    simp only [Bool.true_or, if_true]
    omega
  have hsz : (S.extract p (ne S p)).size = ne S p - p := by rw [ByteArray.size_extract]; omega
  have hb0 : bt (S.extract p (ne S p)) 0 = some x := by rw [bt_ext _ _ _ _ hne.2, if_pos (by omega), Nat.add_zero]; exact hb
  have hall : ∀ f k, ne S p - k = f → p ≤ k → k ≤ ne S p → ne S k = ne S p → ∀ j y, k ≤ j → j < ne S p → bt S j = some y → (letB y || digB y) = true := by
    intro f
    induction f with
    | zero => intro k h1 h2 h3 _ j y h4 h5; omega
    | succ f ih =>
      intro k h1 h2 h3 h6 j y h4 h5 hy
      cases hk : bt S k with
      | none => have := bt_none hk; omega
      | some z =>
        rw [ne_eq hk] at h6
        cases hz : (letB z || digB z) with
        | false => rw [hz] at h6; simp at h6; omega
        | true =>
          rw [hz] at h6
          simp only [if_true] at h6
          rcases Nat.lt_or_ge k j with h7 | h7
          · exact ih (k + 1) (by omega) (by omega) (by omega) h6 j y (by omega) h5 hy
          · obtain rfl : j = k := by omega
            rw [hk] at hy
            cases hy
            exact hz
  unfold nmS
  rw [hb0]
  simp only [Bool.and_eq_true, decide_eq_true_eq]
  refine ⟨⟨by omega, hl⟩, ?_⟩
  refine (ne_all _ _ 0 rfl (Nat.zero_le _)).2 fun i y _ hy => ?_
  have hi := (bt_lt hy).1
  rw [bt_ext _ _ _ _ hne.2, if_pos (by omega)] at hy
  exact hall _ p rfl (Nat.le_refl _) hne.1 rfl (p + i) y (by omega) (by omega) hy
theorem tokAt_g {S : ByteArray} {p x n : Nat} {t : Tok} (hb : bt S p = some x) (h : tokAt S p x = .inr (t, n)) : TokG (fun T => nmS T = true) t := by
  have hc := (tokAt_ok hb h).2.2.1
  unfold tokAt at h
  split at h
  · rename_i hl
    split at h
    · cases h
    · rename_i h32
      simp only [Sum.inr.injEq, Prod.mk.injEq] at h
      obtain ⟨rfl, _⟩ := h
      exact ⟨fun _ => ⟨nmS_ext hb hl (by omega), rfl⟩, (fun e => by cases e), (fun e => by cases e), (fun e => by cases e), hc⟩
  · split at h
    · split at h
      · cases h
      · rename_i l m hm
        simp only [Sum.inr.injEq, Prod.mk.injEq] at h
        obtain ⟨rfl, _⟩ := h
        have := ll_ok hm
        exact ⟨(fun e => by cases e), fun _ => ⟨by show (nb l).size ≤ 255; rw [nb_size]; omega, rfl⟩, (fun e => by cases e), (fun e => by cases e), hc⟩
    · split at h
      · split at h
        · cases h
        · simp only [Sum.inr.injEq, Prod.mk.injEq] at h
          obtain ⟨rfl, _⟩ := h
          exact ⟨(fun e => by cases e), (fun e => by cases e), fun _ => rfl, (fun e => by cases e), hc⟩
      · split at h
        · simp only [Sum.inr.injEq, Prod.mk.injEq] at h
          obtain ⟨rfl, _⟩ := h
          exact ⟨(fun e => by cases e), (fun e => by cases e), (fun e => by cases e), (fun e => by cases e), hc⟩
        · split at h
          · simp only [Sum.inr.injEq, Prod.mk.injEq] at h
            obtain ⟨rfl, _⟩ := h
            exact ⟨(fun e => by cases e), (fun e => by cases e), (fun e => by cases e), fun _ => rfl, hc⟩
          · cases h
theorem tkl_g (S : ByteArray) : ∀ (f k : Nat) (acc L : List Tok), tkl S f k acc = .inr L → (∀ t ∈ acc, TokG (fun T => nmS T = true) t) → ∀ t ∈ L, TokG (fun T => nmS T = true) t
  | 0, k, acc, L, h, ha => by
    rw [tkl] at h
    simp only [Sum.inr.injEq] at h
    subst h
    exact ha
  | f + 1, k, acc, L, h, ha => by
    rw [tkl] at h
    split at h
    · simp only [Sum.inr.injEq] at h
      subst h
      exact ha
    · rename_i x hb
      split at h
      · cases h
      · rename_i t n ht
        exact tkl_g S f _ _ L h (fun u hu => by
          rcases List.mem_append.1 hu with h | h
          · exact ha u h
          · simp at h; rw [h]; exact tokAt_g hb ht)
/-- What is read may be printed. -/
theorem par_ok {S : ByteArray} {rs : List Rl} (h : parS S = .inr rs) : ∀ x ∈ rs, Ruk (fun T => nmS T = true) x ∧ (eN x.2.1 = false → dN x.2.1 ≤ 24) := by
  unfold parS at h
  cases ht : tkS S with
  | inl c => rw [ht] at h; cases h
  | inr L =>
    rw [ht] at h
    obtain ⟨m, hm, rfl⟩ := tkS_inv ht
    have hg := tkl_g S _ _ _ _ hm (fun t ht => by simp at ht)
    have hk : ∀ k, TokG (fun T => nmS T = true) (gL (m ++ [(6, { data := #[] }, 0, S.size)]) k) := fun k => by
      rcases Nat.lt_or_ge k m.length with hl | hl
      · rw [gL_left hl]
        exact hg _ (List.getElem_mem hl)
      · rw [gL_right hl]
        have e6 : ∀ p, TokG (fun T => nmS T = true) (6, { data := #[] }, 0, p) := fun p => ⟨(fun e => by cases e), (fun e => by cases e), (fun e => by cases e), (fun e => by cases e), by show (0 : Nat) < 2 ^ 256; decide⟩
        match k - m.length with
        | 0 => exact e6 _
        | j + 1 => exact e6 _
    exact fun x hx => ⟨gra_v hk h x hx, gra_d h x hx⟩
end Go.Proofs.YtggmoneicdkamaaGreatDoor
