/-
  Two texts, one behind the other: their tokens. Plain facts on the functions of X15. Conditions: those that each theorem names.
-/
import Derived.Test.YtbdhgfblkgkekaaDoorXMv
namespace Go.Proofs.YtbdhgfblkgkekaaDoor
open Go.RowKit
set_option linter.unusedVariables false
theorem le_none {S : ByteArray} {k : Nat} (h : bt S k = none) : le S k = k := by
  have := bt_none h
  unfold le
  rw [show S.size - k = 0 by omega, lnd]
theorem le_eq {S : ByteArray} {k x : Nat} (h : bt S k = some x) : le S k = if x = 10 then k else le S (k + 1) := by
  rw [le_end (bt_lt h).1, h]
  simp
theorem Stop.le {X : ByteArray} {k : Nat} (h : Stop X k) : le X k = k := by
  rcases h with h | h
  · rw [le_eq h]; rfl
  · exact le_none h
theorem Seg.le {S X : ByteArray} {a b L : Nat} (h : Seg S X a b L) (hs : Stop X (b + L)) (hL : a + L ≤ S.size) : ∀ (f i i' : Nat), L - i = f → i ≤ L → i' ≤ L → le S (a + i) = a + i' → le X (b + i) = b + i'
  | 0, i, i', hf, hi, hi', hd => by
    obtain rfl : i = L := by omega
    have := (le_le (S := S) (k := a + i) hL).1
    rw [hs.le]; omega
  | f + 1, i, i', hf, hi, hi', hd => by
    have e0 := h i (by omega)
    cases hb : bt S (a + i) with
    | none => have := bt_none hb; omega
    | some x =>
      rw [le_eq hb] at hd
      rw [le_eq (by rw [e0]; exact hb)]
      by_cases hx : x = 10
      · rw [if_pos hx] at hd ⊢; omega
      · rw [if_neg hx] at hd ⊢
        exact Seg.le h hs hL f (i + 1) i' (by omega) (by omega) hi' hd
theorem Seg.sb {S X : ByteArray} {a b L : Nat} (h : Seg S X a b L) (hs : Stop X (b + L)) (hL : a + L ≤ S.size) : ∀ (f i m : Nat), L - i ≤ f → i ≤ L → m ≤ L → sb S (a + i) = a + m → sb X (b + i) = sb X (b + m)
  | 0, i, m, hf, hi, hm, hd => by
    have := (sb_ge (S := S) (n := a + i) (by omega)).1
    obtain rfl : i = m := by omega
    rfl
  | f + 1, i, m, hf, hi, hm, hd => by
    have hge := (sb_ge (S := S) (n := a + i) (by omega)).1
    by_cases hiL : i = L
    · obtain rfl : i = m := by omega
      rfl
    · have e0 := h i (by omega)
      cases hb : bt S (a + i) with
      | none => have := bt_none hb; omega
      | some x =>
        rw [sb_eq hb] at hd
        rw [sb_eq (by rw [e0]; exact hb)]
        cases hx : blB x with
        | true =>
          rw [hx] at hd
          simp only [if_true] at hd ⊢
          exact Seg.sb h hs hL f (i + 1) m (by omega) (by omega) hm hd
        | false =>
          rw [hx] at hd
          simp only [Bool.false_eq_true, if_false] at hd ⊢
          by_cases h35 : x = 35
          · rw [if_pos h35] at hd ⊢
            have hgt := le_gt hb (by omega)
            have hle := (le_le (S := S) (k := a + i) (by omega)).2
            have hge2 := (sb_ge (S := S) hle).1
            obtain ⟨i1, hi1⟩ : ∃ i1, Proofs.YtbdhgfblkgkekaaDoor.le S (a + i) = a + i1 := ⟨Proofs.YtbdhgfblkgkekaaDoor.le S (a + i) - a, by omega⟩
            rw [hi1] at hd hgt hge2
            rw [h.le hs hL _ i i1 rfl hi (by omega) hi1]
            exact Seg.sb h hs hL f i1 m (by omega) (by omega) hm hd
          · rw [if_neg h35] at hd ⊢
            obtain rfl : i = m := by omega
            rw [sb_eq (by rw [e0]; exact hb), hx]
            simp [h35]
theorem sb_fix {S : ByteArray} : ∀ (f k x : Nat), S.size - k ≤ f → k ≤ S.size → bt S (sb S k) = some x → blB x = false ∧ x ≠ 35
  | 0, k, x, hf, hk, hb => by rw [sb_none (bt_ge (by omega)), bt_ge (by omega)] at hb; cases hb
  | f + 1, k, x, hf, hk, hb => by
    cases hy : bt S k with
    | none => rw [sb_none hy, hy] at hb; cases hb
    | some y =>
      have hlt := (bt_lt hy).1
      rw [sb_eq hy] at hb
      cases h1 : blB y with
      | true => rw [h1] at hb; exact sb_fix f (k + 1) x (by omega) (by omega) hb
      | false =>
        rw [h1] at hb
        simp only [Bool.false_eq_true, if_false] at hb
        by_cases h2 : y = 35
        · rw [if_pos h2] at hb
          have hgt := le_gt hy (by omega)
          exact sb_fix f (le S k) x (by omega) (le_le hk).2 hb
        · rw [if_neg h2, hy] at hb
          cases hb
          exact ⟨h1, h2⟩
theorem sb_at {X : ByteArray} {k x : Nat} (hb : bt X k = some x) (h1 : blB x = false) (h2 : x ≠ 35) : sb X k = k := by
  rw [sb_eq hb, h1]
  simp [h2]
/-- A token with its place moved. -/
def sh (a b : Nat) (t : Tok) : Tok := (t.1, t.2.1, t.2.2.1, t.2.2.2 - a + b)
theorem lift_nil (r : Tr) : lift [] r = r := by cases r <;> simp [lift]
/-- All tokens of a text, in another one that goes on behind them with a new line or ends there. -/
theorem seg_toks {S X : ByteArray} {a b L : Nat} (h : Seg S X a b L) (hs : Stop X (b + L)) (hX : b + L ≤ X.size) (hL : a + L = S.size) : ∀ (f i : Nat) (m : List Tok), L - i ≤ f → i ≤ L →
    tks S (sb S (a + i)) [] = .inr m → tks X (sb X (b + i)) [] = lift (m.map (sh a b)) (tks X (sb X (b + L)) []) := by
  intro f
  induction f with
  | zero =>
    intro i m hf hi hd
    obtain rfl : i = L := by omega
    rw [sb_none (bt_ge (by omega)), tks_end (by omega)] at hd
    cases hd
    rw [List.map_nil, lift_nil]
  | succ f ih =>
    intro i m hf hi hd
    have hge := sb_ge (S := S) (n := a + i) (by omega)
    obtain ⟨i1, hi1⟩ : ∃ i1, Proofs.YtbdhgfblkgkekaaDoor.sb S (a + i) = a + i1 := ⟨Proofs.YtbdhgfblkgkekaaDoor.sb S (a + i) - a, by omega⟩
    rw [h.sb hs (by omega) _ i i1 (Nat.le_refl _) hi (by omega) hi1]
    rw [hi1] at hd hge
    cases hb : bt S (a + i1) with
    | none =>
      have hn := bt_none hb
      obtain rfl : i1 = L := by omega
      rw [tks_end (by omega)] at hd
      cases hd
      rw [List.map_nil, lift_nil]
    | some x =>
      have hlt := (bt_lt hb).1
      have hfx := sb_fix (S := S) _ (a + i) x (Nat.le_refl _) (by omega) (by rw [hi1]; exact hb)
      cases ht : tokAt S (a + i1) x with
      | inl c => rw [tks_bad hb ht] at hd; cases hd
      | inr r =>
        obtain ⟨t, n⟩ := r
        have hok := tokAt_ok hb ht
        obtain ⟨i2, rfl⟩ : ∃ i2, n = a + i2 := ⟨n - a, by omega⟩
        rw [tks_on hb ht, tks_acc] at hd
        cases hm : tks S (Proofs.YtbdhgfblkgkekaaDoor.sb S (a + i2)) [] with
        | inl c => rw [hm] at hd; cases hd
        | inr m' =>
          rw [hm] at hd
          simp only [lift, List.nil_append, List.singleton_append, Sum.inr.injEq] at hd
          subst hd
          obtain ⟨k1, k2⟩ := h.tok hs hX hb ht (by omega)
          rw [sb_at k2 hfx.1 hfx.2, tks_on k2 k1, tks_acc, ih i2 m' (by omega) (by omega) hm, lift_lift, List.map_cons, List.nil_append, List.singleton_append]
          congr 2
          unfold sh
          rw [hok.2.2.2.1, show a + i1 - a + b = b + i1 by omega]
theorem map_sh0 (m : List Tok) : m.map (sh 0 0) = m := by
  have : sh 0 0 = id := by funext t; simp [sh]
  rw [this, List.map_id]
/-- What stands behind a new line. -/
theorem toks_front {S X : ByteArray} {m : List Tok} (h : Seg S X 0 0 S.size) (h10 : bt X S.size = some 10) (hm : tks S (sb S 0) [] = .inr m) : tks X (sb X 0) [] = lift m (tks X (sb X (S.size + 1)) []) := by
  have hX := (bt_lt h10).1
  have := seg_toks h (.inl (by rw [Nat.zero_add]; exact h10)) (by omega) (by omega) _ 0 m (Nat.le_refl _) (Nat.zero_le _) hm
  rw [Nat.add_zero, Nat.zero_add, map_sh0, sb_eq h10] at this
  exact this
/-- Two sources, one behind the other in lines of their own. -/
theorem tkS_join {S U X : ByteArray} {m n : List Tok} (h1 : Seg S X 0 0 S.size) (h10 : bt X S.size = some 10) (h2 : Seg U X 0 (S.size + 1) U.size) (hX : X.size = S.size + 1 + U.size) (hm : tks S (sb S 0) [] = .inr m) (hn : tks U (sb U 0) [] = .inr n) :
    tkS X = .inr (m ++ n.map (sh 0 (S.size + 1)) ++ [(6, { data := #[] }, 0, X.size)]) := by
  have e1 := toks_front h1 h10 hm
  have e2 := seg_toks h2 (.inr (bt_ge (by omega))) (by omega) (by omega) _ 0 n (Nat.le_refl _) (Nat.zero_le _) hn
  rw [Nat.add_zero, show S.size + 1 + U.size = X.size by omega, sb_none (bt_ge (Nat.le_refl _)), tks_end (Nat.le_refl _)] at e2
  unfold tkS
  rw [e1, e2]
  simp [lift, tkE]
theorem le_all {X : ByteArray} : ∀ (f k : Nat), X.size - k = f → k ≤ X.size → (∀ i, k ≤ i → ¬ bt X i = some 10) → le X k = X.size
  | 0, k, hf, hk, h => by rw [le_none (bt_ge (by omega))]; omega
  | f + 1, k, hf, hk, h => by
    cases hb : bt X k with
    | none => have := bt_none hb; omega
    | some x =>
      rw [le_eq hb, if_neg (fun e => h k (Nat.le_refl _) (by rw [hb, e]))]
      exact le_all f (k + 1) (by omega) (by omega) (fun i hi => h i (by omega))
/-- A note at the end. -/
theorem tkS_note {S X : ByteArray} {m : List Tok} (h1 : Seg S X 0 0 S.size) (h10 : bt X S.size = some 10) (h35 : bt X (S.size + 1) = some 35) (hno : ∀ i, S.size + 1 ≤ i → ¬ bt X i = some 10) (hm : tks S (sb S 0) [] = .inr m) :
    tkS X = .inr (m ++ [(6, { data := #[] }, 0, X.size)]) := by
  have e1 := toks_front h1 h10 hm
  have hlt := (bt_lt h35).1
  have e2 : sb X (S.size + 1) = X.size := by
    rw [sb_eq h35, le_all _ (S.size + 1) rfl (by omega) hno, sb_none (bt_ge (Nat.le_refl _))]
    rfl
  rw [e2, tks_end (Nat.le_refl _)] at e1
  unfold tkS
  rw [e1]
  simp [lift, tkE]
end Go.Proofs.YtbdhgfblkgkekaaDoor
