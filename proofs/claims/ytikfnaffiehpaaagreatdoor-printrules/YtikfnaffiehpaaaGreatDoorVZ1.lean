/-
  The tokens of a text that ends with a new line, in another one that goes on behind them with a new line. Plain facts on the functions of X15. Conditions: those that each theorem names.
  A rule's source, and the same one with parentheses around its body: their tokens, and what is read of them. Plain facts on texts, tokens and trees.
  The document's Same, at two grammars that are one but for places. Conditions: those that each theorem names.
  The document's Same at two rows of rules; what syntax.Parse answers at any text; muntinlaw04.SyntaxBrackets answers true, whatever its argument. Conditions: those that each theorem names.
-/
import Derived.Test.YtikfnaffiehpaaaGreatDoorVQ2
import Derived.Test.YtikfnaffiehpaaaGreatDoorVP1
import Derived.Test.YtikfnaffiehpaaaGreatDoorVY6
namespace Go.Proofs.YtikfnaffiehpaaaGreatDoor
open Go.RowKit
set_option linter.unusedVariables false
theorem ne_stop {S : ByteArray} : ∀ (f k j : Nat), S.size - k = f → k ≤ j → j < ne S k → ¬ bt S j = some 10
  | f, k, j, hf, hk, hj => by
    cases hb : bt S k with
    | none => rw [ne_none hb] at hj; omega
    | some x =>
      have hlt := (bt_lt hb).1
      rw [ne_eq hb] at hj
      cases hx : (letB x || digB x) with
      | false => rw [hx] at hj; simp at hj; omega
      | true =>
        rw [hx] at hj
        simp only [if_true] at hj
        rcases Nat.lt_or_ge k j with h | h
        · exact ne_stop (f - 1) (k + 1) j (by omega) (by omega) hj
        · obtain rfl : j = k := by omega
          rw [hb]
          intro e
          simp only [Option.some.injEq] at e
          subst e
          exact absurd hx (by decide)
  termination_by f => f
  decreasing_by omega
theorem llit_last (S : ByteArray) (q p : Nat) : ∀ (f k : Nat) (acc l : List Nat) (n : Nat), llit S q p f k acc = .inr (l, n) → bt S (n - 1) = some q
  | 0, k, acc, l, n, h => by rw [llit] at h; cases h
  | f + 1, k, acc, l, n, h => by
    rw [llit] at h
    split at h
    · rename_i hb
      simp only [Sum.inr.injEq, Prod.mk.injEq] at h
      rw [← h.2]
      exact hb
    · split at h
      · cases h
      · split at h
        · cases h
        · exact llit_last S q p f _ _ l n h
theorem mems_last (S : ByteArray) : ∀ (f k acc C n : Nat), mems S f k acc = .inr (C, n) → bt S (n - 1) = some 93 ∧ 0 < n
  | 0, k, acc, C, n, h => by rw [mems] at h; cases h
  | f + 1, k, acc, C, n, h => by
    rw [mems] at h
    split at h
    · rename_i hb
      simp only [Sum.inr.injEq, Prod.mk.injEq] at h
      rw [← h.2]
      exact ⟨hb, by omega⟩
    · split at h
      · cases h
      · exact mems_last S f _ _ C n h
theorem cls_last {S : ByteArray} {C n : Nat} (h : clsP S = .inr (C, n)) : bt S (n - 1) = some 93 ∧ 0 < n := by
  rw [clsP_ng] at h
  split at h
  · split at h
    · cases hm : mm S 2 0 with
      | inl e => rw [hm] at h; cases h
      | inr q =>
        obtain ⟨D, m⟩ := q
        rw [hm] at h
        simp only [ng, Sum.inr.injEq, Prod.mk.injEq] at h
        rw [← h.2]
        exact mems_last S _ _ _ _ _ hm
    · exact mems_last S _ _ _ _ _ h
  · cases h
/-- No token ends with a new line. -/
theorem tok_last {S : ByteArray} {p x n : Nat} {t : Tok} (hb : bt S p = some x) (h : tokAt S p x = .inr (t, n)) : ¬ bt S (n - 1) = some 10 := by
  have hok := tokAt_ok hb h
  unfold tokAt at h
  split at h
  · split at h
    · cases h
    · simp only [Sum.inr.injEq, Prod.mk.injEq] at h
      obtain ⟨_, hn⟩ := h
      exact ne_stop _ p (n - 1) rfl (by omega) (by omega)
  · split at h
    · rename_i hq
      split at h
      · cases h
      · rename_i l m hm
        simp only [Sum.inr.injEq, Prod.mk.injEq] at h
        obtain ⟨_, hn⟩ := h
        subst hn
        rw [llit_last S x p _ _ _ _ _ hm]
        intro e
        simp only [Option.some.injEq] at e
        omega
    · split at h
      · split at h
        · cases h
        · rename_i C m hm
          simp only [Sum.inr.injEq, Prod.mk.injEq] at h
          obtain ⟨_, hn⟩ := h
          obtain ⟨h1, h2⟩ := cls_last hm
          rw [bt_ext S _ _ _ (Nat.le_refl _), if_pos (by omega)] at h1
          rw [show n - 1 = p + (m - 1) by omega, h1]
          intro e
          simp at e
      · split at h
        · rename_i ha
          simp only [Sum.inr.injEq, Prod.mk.injEq] at h
          obtain ⟨_, hn⟩ := h
          unfold arB at ha
          simp at ha
          rw [show n - 1 = p + 1 by omega, ha.2]
          intro e
          simp at e
        · split at h
          · rename_i hmk
            simp only [Sum.inr.injEq, Prod.mk.injEq] at h
            obtain ⟨_, hn⟩ := h
            rw [show n - 1 = p by omega, hb]
            intro e
            simp only [Option.some.injEq] at e
            subst e
            exact absurd hmk (by decide)
          · cases h
theorem le_stop {S : ByteArray} {q : Nat} (hs : Stop S q) : ∀ (f k : Nat), q - k = f → k ≤ q → le S k ≤ q
  | 0, k, hf, hk => by
    obtain rfl : k = q := by omega
    rw [hs.le]
    exact Nat.le_refl _
  | f + 1, k, hf, hk => by
    cases hb : bt S k with
    | none => rw [le_none hb]; exact hk
    | some x =>
      rw [le_eq hb]
      split
      · exact hk
      · exact le_stop hs f (k + 1) (by omega) (by omega)
/-- Blanks and notes up to a new line. -/
theorem seg_sb2 {S X : ByteArray} {a b L : Nat} (h : Seg S X a b L) (hs : Stop X (b + L)) (h10 : Stop S (a + L)) (hL : a + L ≤ S.size) : ∀ (f i : Nat), L - i ≤ f → i ≤ L → a + L ≤ sb S (a + i) → sb X (b + i) = sb X (b + L)
  | 0, i, hf, hi, hd => by
    obtain rfl : i = L := by omega
    rfl
  | f + 1, i, hf, hi, hd => by
    by_cases hiL : i = L
    · rw [hiL]
    · have e0 := h i (by omega)
      cases hb : bt S (a + i) with
      | none => have := bt_none hb; omega
      | some x =>
        rw [sb_eq hb] at hd
        rw [sb_eq (by rw [e0]; exact hb)]
        cases hx : blB x with
        | true =>
          rw [hx] at hd
          simp only [if_true] at hd ⊢
          exact seg_sb2 h hs h10 hL f (i + 1) (by omega) (by omega) hd
        | false =>
          rw [hx] at hd
          simp only [Bool.false_eq_true, if_false] at hd ⊢
          by_cases h35 : x = 35
          · rw [if_pos h35] at hd ⊢
            have hgt := le_gt hb (by omega)
            have hle := le_stop h10 _ (a + i) rfl (by omega)
            obtain ⟨i1, hi1⟩ : ∃ i1, Proofs.YtikfnaffiehpaaaGreatDoor.le S (a + i) = a + i1 := ⟨Proofs.YtikfnaffiehpaaaGreatDoor.le S (a + i) - a, by omega⟩
            rw [hi1] at hd hgt hle
            rw [h.le hs hL _ i i1 rfl hi (by omega) hi1]
            exact seg_sb2 h hs h10 hL f i1 (by omega) (by omega) hd
          · rw [if_neg h35] at hd
            omega
/-- All tokens of a text that ends with a new line, in another one that goes on there with a new line. -/
theorem seg_toks2 {S X : ByteArray} {a b L : Nat} (h : Seg S X a b L) (hs : Stop X (b + L)) (hX : b + L ≤ X.size) (hL : a + L + 1 = S.size) (h10 : bt S (a + L) = some 10) : ∀ (f i : Nat) (m : List Tok), L - i ≤ f → i ≤ L →
    tks S (sb S (a + i)) [] = .inr m → tks X (sb X (b + i)) [] = lift (m.map (sh a b)) (tks X (sb X (b + L)) []) := by
  have hend : ∀ (i : Nat) (m : List Tok), i ≤ L → a + L ≤ Proofs.YtikfnaffiehpaaaGreatDoor.sb S (a + i) → tks S (sb S (a + i)) [] = .inr m → tks X (sb X (b + i)) [] = lift (m.map (sh a b)) (tks X (sb X (b + L)) []) := by
    intro i m hi hge hd
    have hle := (sb_ge (S := S) (n := a + i) (by omega)).2
    have : Proofs.YtikfnaffiehpaaaGreatDoor.sb S (a + i) = S.size := by
      rcases Nat.lt_or_ge (Proofs.YtikfnaffiehpaaaGreatDoor.sb S (a + i)) S.size with h1 | h1
      · have e : Proofs.YtikfnaffiehpaaaGreatDoor.sb S (a + i) = a + L := by omega
        have := sb_fix (S := S) _ (a + i) 10 (Nat.le_refl _) (by omega) (by rw [e]; exact h10)
        exact absurd this.1 (by decide)
      · omega
    rw [this, tks_end (Nat.le_refl _)] at hd
    cases hd
    rw [List.map_nil, lift_nil, seg_sb2 h hs (.inl h10) (by omega) _ i (Nat.le_refl _) hi hge]
  intro f
  induction f with
  | zero =>
    intro i m hf hi hd
    obtain rfl : i = L := by omega
    exact hend i m (Nat.le_refl _) (sb_ge (S := S) (n := a + i) (by omega)).1 hd
  | succ f ih =>
    intro i m hf hi hd
    have hge := sb_ge (S := S) (n := a + i) (by omega)
    rcases Nat.lt_or_ge (Proofs.YtikfnaffiehpaaaGreatDoor.sb S (a + i)) (a + L) with hlt0 | hge0
    · obtain ⟨i1, hi1⟩ : ∃ i1, Proofs.YtikfnaffiehpaaaGreatDoor.sb S (a + i) = a + i1 := ⟨Proofs.YtikfnaffiehpaaaGreatDoor.sb S (a + i) - a, by omega⟩
      rw [h.sb hs (by omega) _ i i1 (Nat.le_refl _) hi (by omega) hi1]
      rw [hi1] at hd hge hlt0
      cases hb : bt S (a + i1) with
      | none => have hn := bt_none hb; omega
      | some x =>
        have hlt := (bt_lt hb).1
        have hfx := sb_fix (S := S) _ (a + i) x (Nat.le_refl _) (by omega) (by rw [hi1]; exact hb)
        cases ht : tokAt S (a + i1) x with
        | inl c => rw [tks_bad hb ht] at hd; cases hd
        | inr r =>
          obtain ⟨t, n⟩ := r
          have hok := tokAt_ok hb ht
          have hlast := tok_last hb ht
          have hnL : n ≤ a + L := by
            rcases Nat.lt_or_ge (a + L) n with h1 | h1
            · have : n - 1 = a + L := by omega
              rw [this] at hlast
              exact absurd h10 hlast
            · exact h1
          obtain ⟨i2, rfl⟩ : ∃ i2, n = a + i2 := ⟨n - a, by omega⟩
          rw [tks_on hb ht, tks_acc] at hd
          cases hm : tks S (Proofs.YtikfnaffiehpaaaGreatDoor.sb S (a + i2)) [] with
          | inl c => rw [hm] at hd; cases hd
          | inr m' =>
            rw [hm] at hd
            simp only [lift, List.nil_append, List.singleton_append, Sum.inr.injEq] at hd
            subst hd
            obtain ⟨k1, k2⟩ := h.tok hs hX hb ht (by omega)
            rw [sb_at k2 hfx.1 hfx.2, tks_on k2 k1, tks_acc, ih i2 m' (by omega) (by omega) hm, lift_lift, List.map_cons, List.nil_append, List.singleton_append]
            congr 2
            unfold sh
            rw [hok.2.2.2.1, show a + i1 - a + b = b + i1 by omega]
    · exact hend i m hi hge0 hd
end Go.Proofs.YtikfnaffiehpaaaGreatDoor
namespace Go.Proofs.YtikfnaffiehpaaaGreatDoor
open Go.RowKit
set_option linter.unusedVariables false
theorem bt_pre {P D Q : ByteArray} {j : Nat} (h : j < P.size) : bt (P ++ D ++ Q) j = bt P j := by
  rw [bt_app, if_pos (by rw [ByteArray.size_append]; omega), bt_app, if_pos h]
theorem bt_mid {P D Q : ByteArray} {j : Nat} (h : j < D.size) : bt (P ++ D ++ Q) (P.size + j) = bt D j := by
  rw [bt_app, if_pos (by rw [ByteArray.size_append]; omega), bt_app, if_neg (by omega), show P.size + j - P.size = j by omega]
theorem bt_suf (P D Q : ByteArray) (j : Nat) : bt (P ++ D ++ Q) (P.size + D.size + j) = bt Q j := by
  rw [bt_app, if_neg (by rw [ByteArray.size_append]; omega), ByteArray.size_append, show P.size + D.size + j - (P.size + D.size) = j by omega]
/-- What stands ahead of the first rule's body. -/
structure Pre (X : ByteArray) : Prop where
  b0 : bt X 0 = some 114
  b1 : bt X 1 = some 117
  b2 : bt X 2 = some 108
  b3 : bt X 3 = some 101
  b4 : bt X 4 = some 32
  b5 : bt X 5 = some 60
  b6 : bt X 6 = some 45
  b7 : bt X 7 = some 32
def rlN : ByteArray := { data := #[114, 117, 108, 101] }
theorem Pre.toks {X : ByteArray} (h : Pre X) : tks X (sb X 0) [] = lift [(1, rlN, 0, 0), (2, { data := #[] }, 0, 5)] (tks X (sb X 8) []) := by
  have s0 : sb X 0 = 0 := sb_at h.b0 (by decide) (by decide)
  have n0 : ne X 0 = 4 := by
    rw [ne_eq h.b0, if_pos (by decide), ne_eq h.b1, if_pos (by decide), ne_eq h.b2, if_pos (by decide), ne_eq h.b3, if_pos (by decide), ne_eq h.b4, if_neg (by decide)]
  have hX := (bt_lt h.b7).1
  have hn : X.extract 0 4 = rlN := by
    apply ext_bt
    intro j
    rw [bt_ext X 0 4 j (by omega), Nat.zero_add]
    match j with
    | 0 => rw [if_pos (by decide), h.b0]; rfl
    | 1 => rw [if_pos (by decide), h.b1]; rfl
    | 2 => rw [if_pos (by decide), h.b2]; rfl
    | 3 => rw [if_pos (by decide), h.b3]; rfl
    | j + 4 => rw [if_neg (by omega), bt_ge (by show 4 ≤ _; omega)]
  have t0 : tokAt X 0 114 = .inr ((1, rlN, 0, 0), 4) := by
    unfold tokAt
    rw [if_pos (by decide), n0, if_neg (by decide), hn]
  have s1 : sb X 4 = 5 := by
    rw [sb_eq h.b4, if_pos (by decide)]
    exact sb_at h.b5 (by decide) (by decide)
  have t1 : tokAt X 5 60 = .inr ((2, { data := #[] }, 0, 5), 7) := by
    unfold tokAt
    rw [if_neg (by decide), if_neg (by decide), if_neg (by decide), if_pos (by unfold arB; rw [h.b5, h.b6]; decide)]
  have s2 : sb X 7 = sb X 8 := by rw [sb_eq h.b7, if_pos (by decide)]
  rw [s0, tks_on h.b0 t0, s1, tks_on h.b5 t1, s2, tks_acc]
  rfl
def brP : ByteArray := { data := #[114, 117, 108, 101, 32, 60, 45, 32] }
def brQ : ByteArray := { data := #[114, 117, 108, 101, 32, 60, 45, 32, 40] }
def brE : ByteArray := { data := #[10] }
def brF : ByteArray := { data := #[10, 41] }
theorem pre_P (D : ByteArray) : Pre (brP ++ D ++ brE) :=
  ⟨(bt_pre (by decide)).trans rfl, (bt_pre (by decide)).trans rfl, (bt_pre (by decide)).trans rfl, (bt_pre (by decide)).trans rfl, (bt_pre (by decide)).trans rfl, (bt_pre (by decide)).trans rfl, (bt_pre (by decide)).trans rfl, (bt_pre (by decide)).trans rfl⟩
theorem pre_Q (D : ByteArray) : Pre (brQ ++ D ++ brF) :=
  ⟨(bt_pre (by decide)).trans rfl, (bt_pre (by decide)).trans rfl, (bt_pre (by decide)).trans rfl, (bt_pre (by decide)).trans rfl, (bt_pre (by decide)).trans rfl, (bt_pre (by decide)).trans rfl, (bt_pre (by decide)).trans rfl, (bt_pre (by decide)).trans rfl⟩
theorem size_P (D : ByteArray) : (brP ++ D ++ brE).size = 9 + D.size := by rw [ByteArray.size_append, ByteArray.size_append, show brP.size = 8 from rfl, show brE.size = 1 from rfl]; omega
theorem size_Q (D : ByteArray) : (brQ ++ D ++ brF).size = 11 + D.size := by rw [ByteArray.size_append, ByteArray.size_append, show brQ.size = 9 from rfl, show brF.size = 2 from rfl]; omega
theorem lift_inr {a : List Tok} {r : Tr} {l : List Tok} (h : lift a r = .inr l) : ∃ m, r = .inr m ∧ l = a ++ m := by
  cases r with
  | inl c => cases h
  | inr m => simp only [lift, Sum.inr.injEq] at h; exact ⟨m, rfl, h.symm⟩
/-- The tokens of both. -/
theorem toks_br (D : ByteArray) {L1 : List Tok} (h : tkS (brP ++ D ++ brE) = .inr L1) : ∃ m : List Tok, L1 = (1, rlN, 0, 0) :: (2, { data := #[] }, 0, 5) :: (m ++ [(6, { data := #[] }, 0, 9 + D.size)]) ∧ (∀ t ∈ m, TokOk t) ∧ m.length ≤ D.size + 1 ∧
    tkS (brQ ++ D ++ brF) = .inr ((1, rlN, 0, 0) :: (2, { data := #[] }, 0, 5) :: (5, nb [40], 0, 8) :: (m.map (sh 8 9) ++ [(5, nb [41], 0, 10 + D.size), (6, { data := #[] }, 0, 11 + D.size)])) := by
  obtain ⟨m0, hm0, rfl⟩ := tkS_inv h
  rw [(pre_P D).toks] at hm0
  obtain ⟨m, hm, rfl⟩ := lift_inr hm0
  have hz1 := size_P D
  have hz2 := size_Q D
  have e10 : bt (brP ++ D ++ brE) (8 + D.size) = some 10 := (bt_suf brP D brE 0).trans rfl
  have f10 : bt (brQ ++ D ++ brF) (9 + D.size) = some 10 := (bt_suf brQ D brF 0).trans rfl
  have f41 : bt (brQ ++ D ++ brF) (10 + D.size) = some 41 := by
    have := (bt_suf brQ D brF 1).trans rfl
    rw [show brQ.size + D.size + 1 = 10 + D.size by show 9 + D.size + 1 = _; omega] at this
    exact this
  have f40 : bt (brQ ++ D ++ brF) 8 = some 40 := (bt_pre (by decide)).trans rfl
  have hseg : Seg (brP ++ D ++ brE) (brQ ++ D ++ brF) 8 9 D.size := fun j hj => (bt_mid (P := brQ) hj).trans (bt_mid (P := brP) hj).symm
  have hgood := tkl_good _ _ _ _ _ hm (fun t ht => by simp at ht)
  have hs8 := (sb_ge (S := brP ++ D ++ brE) (n := 8) (by omega)).1
  refine ⟨m, by rw [hz1]; rfl, hgood.1, by have h2 := hgood.2; rw [hz1, List.length_nil] at h2; omega, ?_⟩
  have key := seg_toks2 hseg (.inl f10) (by omega) (by omega) e10 _ 0 m (Nat.le_refl _) (Nat.zero_le _) hm
  have key' : tks (brQ ++ D ++ brF) (sb (brQ ++ D ++ brF) 9) [] = _ := key
  have t8 : tokAt (brQ ++ D ++ brF) 8 40 = .inr ((5, nb [40], 0, 8), 9) := by
    unfold tokAt
    rw [if_neg (by decide), if_neg (by decide), if_neg (by decide), if_neg (by unfold arB; rw [f40]; simp), if_pos (by decide)]
  have t9 : tokAt (brQ ++ D ++ brF) (10 + D.size) 41 = .inr ((5, nb [41], 0, 10 + D.size), 10 + D.size + 1) := by
    unfold tokAt
    rw [if_neg (by decide), if_neg (by decide), if_neg (by decide), if_neg (by unfold arB; rw [f41]; simp), if_pos (by decide)]
  have s8 : sb (brQ ++ D ++ brF) 8 = 8 := sb_at f40 (by decide) (by decide)
  have s9 : sb (brQ ++ D ++ brF) (9 + D.size) = 10 + D.size := by
    rw [sb_eq f10, if_pos (by decide), show 9 + D.size + 1 = 10 + D.size by omega]
    exact sb_at f41 (by decide) (by decide)
  have last : tks (brQ ++ D ++ brF) (10 + D.size) [] = .inr [(5, nb [41], 0, 10 + D.size)] := by
    rw [tks_on f41 t9, sb_none (bt_ge (by omega)), tks_end (by omega)]
    rfl
  unfold tkS
  rw [(pre_Q D).toks, s8, tks_on f40 t8, tks_acc, key', s9, last]
  simp only [lift, tkE, hz2]
  simp
theorem brackets_text {D : ByteArray} {x : Rl} {rs : List Rl} (hD : D.size ≤ 8192) (h1 : parS (brP ++ D ++ brE) = .inr [x]) (h2 : parS (brQ ++ D ++ brF) = .inr rs) : ∃ y, rs = [y] ∧ Sm x.2.1 y.2.1 ∧ y.1 = x.1 := by
  unfold parS at h1 h2
  cases ht : tkS (brP ++ D ++ brE) with
  | inl c => rw [ht] at h1; cases h1
  | inr L1 =>
    obtain ⟨m, rfl, hok, hlen, ht2⟩ := toks_br D ht
    rw [ht] at h1
    rw [ht2] at h2
    simp only [parE] at h1 h2
    obtain ⟨L1, hL1⟩ : ∃ L1 : List Tok, L1 = (1, rlN, 0, 0) :: (2, { data := #[] }, 0, 5) :: (m ++ [(6, { data := #[] }, 0, 9 + D.size)]) := ⟨_, rfl⟩
    obtain ⟨L2, hL2⟩ : ∃ L2 : List Tok, L2 = (1, rlN, 0, 0) :: (2, { data := #[] }, 0, 5) :: (5, nb [40], 0, 8) :: (m.map (sh 8 9) ++ [(5, nb [41], 0, 10 + D.size), (6, { data := #[] }, 0, 11 + D.size)]) := ⟨_, rfl⟩
    rw [← hL1] at h1
    rw [← hL2] at h2
    have hn1 : L1.length = m.length + 3 := by rw [hL1]; simp
    have hn2 : L2.length = m.length + 5 := by rw [hL2]; simp
    have a1 : ∀ k, k < m.length → ∀ t, m[k]? = some t → gL L1 (k + 2) = t := fun k hk t ht => by
      unfold gL
      rw [hL1]
      simp only [List.getElem?_cons_succ]
      rw [List.getElem?_append_left hk, ht]
      rfl
    have a2 : ∀ k, k < m.length → ∀ t, m[k]? = some t → gL L2 (k + 3) = sh 8 9 t := fun k hk t ht => by
      unfold gL
      rw [hL2]
      simp only [List.getElem?_cons_succ]
      rw [List.getElem?_append_left (by simpa using hk), List.getElem?_map, ht]
      rfl
    have e1 : (gL L1 (m.length + 2)).1 = 6 := by
      unfold gL
      rw [hL1]
      simp only [List.getElem?_cons_succ]
      rw [List.getElem?_append_right (Nat.le_refl _), Nat.sub_self]
      rfl
    have e2 : gL L2 (m.length + 3) = (5, nb [41], 0, 10 + D.size) := by
      unfold gL
      rw [hL2]
      simp only [List.getElem?_cons_succ]
      rw [List.getElem?_append_right (by simp), List.length_map, Nat.sub_self]
      rfl
    have e3 : (gL L2 (m.length + 2 + 2)).1 = 6 := by
      unfold gL
      rw [hL2, show m.length + 2 + 2 = m.length + 1 + 1 + 1 + 1 by omega]
      simp only [List.getElem?_cons_succ]
      rw [List.getElem?_append_right (by simp), List.length_map, show m.length + 1 - m.length = 1 by omega]
      rfl
    have o1 : gL L1 0 = (1, rlN, 0, 0) := by rw [hL1]; rfl
    have o2 : gL L2 0 = (1, rlN, 0, 0) := by rw [hL2]; rfl
    have o3 : gL L2 2 = (5, nb [40], 0, 8) := by rw [hL2]; rfl
    have o4 : (gL L1 1).1 = 2 := by rw [hL1]; rfl
    have get : ∀ k, k < m.length → ∃ t, m[k]? = some t ∧ t ∈ m := fun k hk => ⟨m[k], List.getElem?_eq_getElem hk, List.getElem_mem hk⟩
    have hlk : Lk L1 L2 (m.length + 2) := by
      refine ⟨by omega, by omega, fun k h2 hk => ?_, e1, ?_⟩
      · obtain ⟨j, rfl⟩ : ∃ j, k = j + 2 := ⟨k - 2, by omega⟩
        obtain ⟨t, ht, _⟩ := get j (by omega)
        rw [a1 j (by omega) t ht, show j + 2 + 1 = j + 3 by omega, a2 j (by omega) t ht]
        rfl
      · rw [show m.length + 2 + 1 = m.length + 3 by omega, e2]
        rfl
    have honly : ∀ k, k < m.length + 2 → (gL L1 k).1 ≠ 6 := fun k hk => by
      match k with
      | 0 => rw [o1]; simp
      | 1 => rw [o4]; decide
      | j + 2 =>
        obtain ⟨t, ht, hmem⟩ := get j (by omega)
        rw [a1 j (by omega) t ht]
        have := (hok t hmem).1
        omega
    obtain ⟨y, hy, hs, n1, n2⟩ := brackets_spec hlk (by omega) (by omega) honly (by rw [o3]; rfl) e3 h1 h2
    exact ⟨y, hy, hs, by rw [n1, n2, o1, o2]⟩
end Go.Proofs.YtikfnaffiehpaaaGreatDoor
namespace Go.Proofs.YtikfnaffiehpaaaGreatDoor
open Go.RowKit
set_option linter.unusedVariables false
/-- What stays while two grammars are held against each other. -/
def SG (w : World) (g n cap g' cap' : Nat) (W : World) : Prop := Below w.heap.size w W ∧ W.cell? ⟨w.heap.size, 0, none⟩ = some (.slice (some ⟨g, 0, none⟩) n cap) ∧ W.cell? ⟨w.heap.size + 1, 0, none⟩ = some (.slice (some ⟨g', 0, none⟩) n cap') ∧ w.heap.size + 2 ≤ W.heap.size
theorem SG.below {w W W' : World} {g n cap g' cap' : Nat} (h : SG w g n cap g' cap' W) (hb : Below W.heap.size W W') : SG w g n cap g' cap' W' := by
  obtain ⟨h1, h2, h3, h4⟩ := h
  exact ⟨h1.trans (hb.mono h1.size), (hb.cell (p := ⟨w.heap.size, 0, none⟩) (show w.heap.size < _ by omega)).trans h2, (hb.cell (p := ⟨w.heap.size + 1, 0, none⟩) (show w.heap.size + 1 < _ by omega)).trans h3, Nat.le_trans h4 hb.size⟩
theorem SG.start (w : World) (g cap g' cap' n : Nat) : SG w g n cap g' cap' ((w.alloc (.cells #[.slice (some ⟨g, 0, none⟩) n cap] 24)).alloc (.cells #[.slice (some ⟨g', 0, none⟩) n cap'] 24)) :=
  ⟨((Below.refl _ _).alloc (Nat.le_refl _) _).alloc (by simp) _, (one_cell ((Below.heap_alloc _ _ _ (by simp)).trans (new_block_at w _ rfl))).1, (one_cell (new_block_at _ _ (by simp))).1, by simp⟩
theorem keep_gr {w W W' : World} {g n cap g' cap' j : Nat} {kd1 C1 sl1 sc1 p1 kd2 C2 sl2 sc2 p2 : Nat} {M T1 T2 : ByteArray} {so1 so2 : Option Addr} (hg : g < w.heap.size) (hg' : g' < w.heap.size) (hb : Below W.heap.size W W') (h : Hid (SG w g n cap g' cap' W) ∧ W.cell? ⟨w.heap.size, 0, none⟩ = some (.slice (some ⟨g, 0, none⟩) n cap) ∧ W.cell? ⟨w.heap.size + 1, 0, none⟩ = some (.slice (some ⟨g', 0, none⟩) n cap') ∧ W.cell? ⟨g, j * 10, none⟩ = some (.string M) ∧ W.cell? ⟨g, j * 10 + 1, none⟩ = some (.int .i64 (kd1 : Int)) ∧ W.cell? ⟨g, j * 10 + 2, none⟩ = some (.string T1) ∧ W.cell? ⟨g, j * 10 + 3, none⟩ = some (.int .u64 (wd C1 0 : Nat)) ∧ W.cell? ⟨g, j * 10 + 4, none⟩ = some (.int .u64 (wd C1 1 : Nat)) ∧ W.cell? ⟨g, j * 10 + 5, none⟩ = some (.int .u64 (wd C1 2 : Nat)) ∧ W.cell? ⟨g, j * 10 + 6, none⟩ = some (.int .u64 (wd C1 3 : Nat)) ∧ W.cell? ⟨g, j * 10 + 7, none⟩ = some (.slice so1 sl1 sc1) ∧ W.cell? ⟨g, j * 10 + 8, none⟩ = some (.int .i64 (p1 : Int)) ∧ W.cell? ⟨g', j * 10, none⟩ = some (.string M) ∧ W.cell? ⟨g', j * 10 + 1, none⟩ = some (.int .i64 (kd2 : Int)) ∧ W.cell? ⟨g', j * 10 + 2, none⟩ = some (.string T2) ∧ W.cell? ⟨g', j * 10 + 3, none⟩ = some (.int .u64 (wd C2 0 : Nat)) ∧ W.cell? ⟨g', j * 10 + 4, none⟩ = some (.int .u64 (wd C2 1 : Nat)) ∧ W.cell? ⟨g', j * 10 + 5, none⟩ = some (.int .u64 (wd C2 2 : Nat)) ∧ W.cell? ⟨g', j * 10 + 6, none⟩ = some (.int .u64 (wd C2 3 : Nat)) ∧ W.cell? ⟨g', j * 10 + 7, none⟩ = some (.slice so2 sl2 sc2) ∧ W.cell? ⟨g', j * 10 + 8, none⟩ = some (.int .i64 (p2 : Int))) :
    Hid (SG w g n cap g' cap' W') ∧ W'.cell? ⟨w.heap.size, 0, none⟩ = some (.slice (some ⟨g, 0, none⟩) n cap) ∧ W'.cell? ⟨w.heap.size + 1, 0, none⟩ = some (.slice (some ⟨g', 0, none⟩) n cap') ∧ W'.cell? ⟨g, j * 10, none⟩ = some (.string M) ∧ W'.cell? ⟨g, j * 10 + 1, none⟩ = some (.int .i64 (kd1 : Int)) ∧ W'.cell? ⟨g, j * 10 + 2, none⟩ = some (.string T1) ∧ W'.cell? ⟨g, j * 10 + 3, none⟩ = some (.int .u64 (wd C1 0 : Nat)) ∧ W'.cell? ⟨g, j * 10 + 4, none⟩ = some (.int .u64 (wd C1 1 : Nat)) ∧ W'.cell? ⟨g, j * 10 + 5, none⟩ = some (.int .u64 (wd C1 2 : Nat)) ∧ W'.cell? ⟨g, j * 10 + 6, none⟩ = some (.int .u64 (wd C1 3 : Nat)) ∧ W'.cell? ⟨g, j * 10 + 7, none⟩ = some (.slice so1 sl1 sc1) ∧ W'.cell? ⟨g, j * 10 + 8, none⟩ = some (.int .i64 (p1 : Int)) ∧ W'.cell? ⟨g', j * 10, none⟩ = some (.string M) ∧ W'.cell? ⟨g', j * 10 + 1, none⟩ = some (.int .i64 (kd2 : Int)) ∧ W'.cell? ⟨g', j * 10 + 2, none⟩ = some (.string T2) ∧ W'.cell? ⟨g', j * 10 + 3, none⟩ = some (.int .u64 (wd C2 0 : Nat)) ∧ W'.cell? ⟨g', j * 10 + 4, none⟩ = some (.int .u64 (wd C2 1 : Nat)) ∧ W'.cell? ⟨g', j * 10 + 5, none⟩ = some (.int .u64 (wd C2 2 : Nat)) ∧ W'.cell? ⟨g', j * 10 + 6, none⟩ = some (.int .u64 (wd C2 3 : Nat)) ∧ W'.cell? ⟨g', j * 10 + 7, none⟩ = some (.slice so2 sl2 sc2) ∧ W'.cell? ⟨g', j * 10 + 8, none⟩ = some (.int .i64 (p2 : Int)) := by
  obtain ⟨h0, h1, h2, x, x0, x1, x2, x3, x4, x5, x6, x7, y, y0, y1, y2, y3, y4, y5, y6, y7⟩ := h
  have hs := h0.out.2.2.2
  have eg : ∀ i, W'.cell? ⟨g, i, none⟩ = W.cell? ⟨g, i, none⟩ := fun i => hb.cell (p := ⟨g, i, none⟩) (show g < _ by omega)
  have eg' : ∀ i, W'.cell? ⟨g', i, none⟩ = W.cell? ⟨g', i, none⟩ := fun i => hb.cell (p := ⟨g', i, none⟩) (show g' < _ by omega)
  have h3 := h0.out.below hb
  exact ⟨hid h3, h3.2.1, h3.2.2.1, (eg _).trans x, (eg _).trans x0, (eg _).trans x1, (eg _).trans x2, (eg _).trans x3, (eg _).trans x4, (eg _).trans x5, (eg _).trans x6, (eg _).trans x7, (eg' _).trans y, (eg' _).trans y0, (eg' _).trans y1, (eg' _).trans y2, (eg' _).trans y3, (eg' _).trans y4, (eg' _).trans y5, (eg' _).trans y6, (eg' _).trans y7⟩
set_option maxRecDepth 100000 in
set_option maxHeartbeats 8000000 in
theorem zgram_row (g cap g' cap' n : Nat) (w : World) (hn : n ≤ 1000000) (hg : g < w.heap.size) (hg' : g' < w.heap.size)
    (HC : Hid (∀ j, j < n → ∃ (M : ByteArray) (kd1 : Nat) (T1 : ByteArray) (C1 : Nat) (so1 : Option Addr) (sl1 sc1 p1 kd2 : Nat) (T2 : ByteArray) (C2 : Nat) (so2 : Option Addr) (sl2 sc2 p2 : Nat), (w.cell? ⟨g, j * 10, none⟩ = some (.string M) ∧ w.cell? ⟨g, j * 10 + 1, none⟩ = some (.int .i64 (kd1 : Int)) ∧ w.cell? ⟨g, j * 10 + 2, none⟩ = some (.string T1) ∧ w.cell? ⟨g, j * 10 + 3, none⟩ = some (.int .u64 (wd C1 0 : Nat)) ∧ w.cell? ⟨g, j * 10 + 4, none⟩ = some (.int .u64 (wd C1 1 : Nat)) ∧ w.cell? ⟨g, j * 10 + 5, none⟩ = some (.int .u64 (wd C1 2 : Nat)) ∧ w.cell? ⟨g, j * 10 + 6, none⟩ = some (.int .u64 (wd C1 3 : Nat)) ∧ w.cell? ⟨g, j * 10 + 7, none⟩ = some (.slice so1 sl1 sc1) ∧ w.cell? ⟨g, j * 10 + 8, none⟩ = some (.int .i64 (p1 : Int))) ∧ (w.cell? ⟨g', j * 10, none⟩ = some (.string M) ∧ w.cell? ⟨g', j * 10 + 1, none⟩ = some (.int .i64 (kd2 : Int)) ∧ w.cell? ⟨g', j * 10 + 2, none⟩ = some (.string T2) ∧ w.cell? ⟨g', j * 10 + 3, none⟩ = some (.int .u64 (wd C2 0 : Nat)) ∧ w.cell? ⟨g', j * 10 + 4, none⟩ = some (.int .u64 (wd C2 1 : Nat)) ∧ w.cell? ⟨g', j * 10 + 5, none⟩ = some (.int .u64 (wd C2 2 : Nat)) ∧ w.cell? ⟨g', j * 10 + 6, none⟩ = some (.int .u64 (wd C2 3 : Nat)) ∧ w.cell? ⟨g', j * 10 + 7, none⟩ = some (.slice so2 sl2 sc2) ∧ w.cell? ⟨g', j * 10 + 8, none⟩ = some (.int .i64 (p2 : Int))) ∧
      ∀ W : World, Below w.heap.size w W → Calls Tryz.prog 19 #[.agg (n8 kd1 T1 C1 (.slice so1 sl1 sc1) p1).toArray, .agg (n8 kd2 T2 C2 (.slice so2 sl2 sc2) p2).toArray, .bool false] W fun e w' => e = .returned (.bool true) ∧ Below W.heap.size W w')) :
    Calls Tryz.prog 12 #[.agg #[.slice (some ⟨g, 0, none⟩) n cap], .agg #[.slice (some ⟨g', 0, none⟩) n cap'], .bool false] w fun e w' => e = .returned (.bool true) ∧ Below w.heap.size w w' := by
  have HB0 := hid (SG.start w g cap g' cap' n)
  go_enter Tryz.func12, Tryz.ntmps12
  go_wp2_with fail
  go_loopw [7] (fun i wr => ∃ j : Nat, i = .int .i64 (j : Int) ∧ j ≤ n ∧ Hid (SG w g n cap g' cap' wr)) (fun i _ => n - (intOf i).toNat)
  case atStart => exact ⟨0, rfl, by omega, HB0⟩
  case round =>
    obtain ⟨j, rfl, hj, HW⟩ := hrel
    obtain ⟨_, b1, b2, _⟩ := HW.out
    clear HB0
    by_cases hjn : j < n
    · have hjI : (j : Int) < (n : Int) := by omega
      obtain ⟨M, kd1, T1, C1, so1, sl1, sc1, p1, kd2, T2, C2, so2, sl2, sc2, p2, ⟨x, x0, x1, x2, x3, x4, x5, x6, x7⟩, ⟨y, y0, y1, y2, y3, y4, y5, y6, y7⟩, hc⟩ := HC.out j hjn
      have HK := hid hc
      clear hc
      dsimp only [n8] at HK
      have ew : ∀ q i, q < w.heap.size → wr.cell? ⟨q, i, none⟩ = w.cell? ⟨q, i, none⟩ := fun q i hq => HW.out.1.cell (p := ⟨q, i, none⟩) hq
      have S0 : Hid (SG w g n cap g' cap' wr) ∧ wr.cell? ⟨w.heap.size, 0, none⟩ = some (.slice (some ⟨g, 0, none⟩) n cap) ∧ wr.cell? ⟨w.heap.size + 1, 0, none⟩ = some (.slice (some ⟨g', 0, none⟩) n cap') ∧ wr.cell? ⟨g, j * 10, none⟩ = some (.string M) ∧ wr.cell? ⟨g, j * 10 + 1, none⟩ = some (.int .i64 (kd1 : Int)) ∧ wr.cell? ⟨g, j * 10 + 2, none⟩ = some (.string T1) ∧ wr.cell? ⟨g, j * 10 + 3, none⟩ = some (.int .u64 (wd C1 0 : Nat)) ∧ wr.cell? ⟨g, j * 10 + 4, none⟩ = some (.int .u64 (wd C1 1 : Nat)) ∧ wr.cell? ⟨g, j * 10 + 5, none⟩ = some (.int .u64 (wd C1 2 : Nat)) ∧ wr.cell? ⟨g, j * 10 + 6, none⟩ = some (.int .u64 (wd C1 3 : Nat)) ∧ wr.cell? ⟨g, j * 10 + 7, none⟩ = some (.slice so1 sl1 sc1) ∧ wr.cell? ⟨g, j * 10 + 8, none⟩ = some (.int .i64 (p1 : Int)) ∧ wr.cell? ⟨g', j * 10, none⟩ = some (.string M) ∧ wr.cell? ⟨g', j * 10 + 1, none⟩ = some (.int .i64 (kd2 : Int)) ∧ wr.cell? ⟨g', j * 10 + 2, none⟩ = some (.string T2) ∧ wr.cell? ⟨g', j * 10 + 3, none⟩ = some (.int .u64 (wd C2 0 : Nat)) ∧ wr.cell? ⟨g', j * 10 + 4, none⟩ = some (.int .u64 (wd C2 1 : Nat)) ∧ wr.cell? ⟨g', j * 10 + 5, none⟩ = some (.int .u64 (wd C2 2 : Nat)) ∧ wr.cell? ⟨g', j * 10 + 6, none⟩ = some (.int .u64 (wd C2 3 : Nat)) ∧ wr.cell? ⟨g', j * 10 + 7, none⟩ = some (.slice so2 sl2 sc2) ∧ wr.cell? ⟨g', j * 10 + 8, none⟩ = some (.int .i64 (p2 : Int)) := ⟨HW, b1, b2, (ew _ _ hg).trans x, (ew _ _ hg).trans x0, (ew _ _ hg).trans x1, (ew _ _ hg).trans x2, (ew _ _ hg).trans x3, (ew _ _ hg).trans x4, (ew _ _ hg).trans x5, (ew _ _ hg).trans x6, (ew _ _ hg).trans x7, (ew _ _ hg').trans y, (ew _ _ hg').trans y0, (ew _ _ hg').trans y1, (ew _ _ hg').trans y2, (ew _ _ hg').trans y3, (ew _ _ hg').trans y4, (ew _ _ hg').trans y5, (ew _ _ hg').trans y6, (ew _ _ hg').trans y7⟩
      have S1 : (fun W => Hid (SG w g n cap g' cap' W) ∧ W.cell? ⟨w.heap.size, 0, none⟩ = some (.slice (some ⟨g, 0, none⟩) n cap) ∧ W.cell? ⟨w.heap.size + 1, 0, none⟩ = some (.slice (some ⟨g', 0, none⟩) n cap') ∧ W.cell? ⟨g, j * 10, none⟩ = some (.string M) ∧ W.cell? ⟨g, j * 10 + 1, none⟩ = some (.int .i64 (kd1 : Int)) ∧ W.cell? ⟨g, j * 10 + 2, none⟩ = some (.string T1) ∧ W.cell? ⟨g, j * 10 + 3, none⟩ = some (.int .u64 (wd C1 0 : Nat)) ∧ W.cell? ⟨g, j * 10 + 4, none⟩ = some (.int .u64 (wd C1 1 : Nat)) ∧ W.cell? ⟨g, j * 10 + 5, none⟩ = some (.int .u64 (wd C1 2 : Nat)) ∧ W.cell? ⟨g, j * 10 + 6, none⟩ = some (.int .u64 (wd C1 3 : Nat)) ∧ W.cell? ⟨g, j * 10 + 7, none⟩ = some (.slice so1 sl1 sc1) ∧ W.cell? ⟨g, j * 10 + 8, none⟩ = some (.int .i64 (p1 : Int)) ∧ W.cell? ⟨g', j * 10, none⟩ = some (.string M) ∧ W.cell? ⟨g', j * 10 + 1, none⟩ = some (.int .i64 (kd2 : Int)) ∧ W.cell? ⟨g', j * 10 + 2, none⟩ = some (.string T2) ∧ W.cell? ⟨g', j * 10 + 3, none⟩ = some (.int .u64 (wd C2 0 : Nat)) ∧ W.cell? ⟨g', j * 10 + 4, none⟩ = some (.int .u64 (wd C2 1 : Nat)) ∧ W.cell? ⟨g', j * 10 + 5, none⟩ = some (.int .u64 (wd C2 2 : Nat)) ∧ W.cell? ⟨g', j * 10 + 6, none⟩ = some (.int .u64 (wd C2 3 : Nat)) ∧ W.cell? ⟨g', j * 10 + 7, none⟩ = some (.slice so2 sl2 sc2) ∧ W.cell? ⟨g', j * 10 + 8, none⟩ = some (.int .i64 (p2 : Int))) wr.drew := keep_gr hg hg' (Below.refl _ wr).drew S0
      clear ew S0 x x0 x1 x2 x3 x4 x5 x6 x7 y y0 y1 y2 y3 y4 y5 y6 y7
      go_wp2_with fail
      go_region_held3 (fun W => Hid (SG w g n cap g' cap' W) ∧ W.cell? ⟨w.heap.size, 0, none⟩ = some (.slice (some ⟨g, 0, none⟩) n cap) ∧ W.cell? ⟨w.heap.size + 1, 0, none⟩ = some (.slice (some ⟨g', 0, none⟩) n cap') ∧ W.cell? ⟨g, j * 10, none⟩ = some (.string M) ∧ W.cell? ⟨g, j * 10 + 1, none⟩ = some (.int .i64 (kd1 : Int)) ∧ W.cell? ⟨g, j * 10 + 2, none⟩ = some (.string T1) ∧ W.cell? ⟨g, j * 10 + 3, none⟩ = some (.int .u64 (wd C1 0 : Nat)) ∧ W.cell? ⟨g, j * 10 + 4, none⟩ = some (.int .u64 (wd C1 1 : Nat)) ∧ W.cell? ⟨g, j * 10 + 5, none⟩ = some (.int .u64 (wd C1 2 : Nat)) ∧ W.cell? ⟨g, j * 10 + 6, none⟩ = some (.int .u64 (wd C1 3 : Nat)) ∧ W.cell? ⟨g, j * 10 + 7, none⟩ = some (.slice so1 sl1 sc1) ∧ W.cell? ⟨g, j * 10 + 8, none⟩ = some (.int .i64 (p1 : Int)) ∧ W.cell? ⟨g', j * 10, none⟩ = some (.string M) ∧ W.cell? ⟨g', j * 10 + 1, none⟩ = some (.int .i64 (kd2 : Int)) ∧ W.cell? ⟨g', j * 10 + 2, none⟩ = some (.string T2) ∧ W.cell? ⟨g', j * 10 + 3, none⟩ = some (.int .u64 (wd C2 0 : Nat)) ∧ W.cell? ⟨g', j * 10 + 4, none⟩ = some (.int .u64 (wd C2 1 : Nat)) ∧ W.cell? ⟨g', j * 10 + 5, none⟩ = some (.int .u64 (wd C2 2 : Nat)) ∧ W.cell? ⟨g', j * 10 + 6, none⟩ = some (.int .u64 (wd C2 3 : Nat)) ∧ W.cell? ⟨g', j * 10 + 7, none⟩ = some (.slice so2 sl2 sc2) ∧ W.cell? ⟨g', j * 10 + 8, none⟩ = some (.int .i64 (p2 : Int))) (first | assumption | exact keep_gr hg hg' (by assumption) (by assumption)) (first | (go_at_call 19; refine (HK.out _ ?hh).mono ?_; (case hh => exact S1.1.out.1); rintro e wq ⟨rfl, hbq⟩))
      have S3 : (fun W => Hid (SG w g n cap g' cap' W) ∧ W.cell? ⟨w.heap.size, 0, none⟩ = some (.slice (some ⟨g, 0, none⟩) n cap) ∧ W.cell? ⟨w.heap.size + 1, 0, none⟩ = some (.slice (some ⟨g', 0, none⟩) n cap') ∧ W.cell? ⟨g, j * 10, none⟩ = some (.string M) ∧ W.cell? ⟨g, j * 10 + 1, none⟩ = some (.int .i64 (kd1 : Int)) ∧ W.cell? ⟨g, j * 10 + 2, none⟩ = some (.string T1) ∧ W.cell? ⟨g, j * 10 + 3, none⟩ = some (.int .u64 (wd C1 0 : Nat)) ∧ W.cell? ⟨g, j * 10 + 4, none⟩ = some (.int .u64 (wd C1 1 : Nat)) ∧ W.cell? ⟨g, j * 10 + 5, none⟩ = some (.int .u64 (wd C1 2 : Nat)) ∧ W.cell? ⟨g, j * 10 + 6, none⟩ = some (.int .u64 (wd C1 3 : Nat)) ∧ W.cell? ⟨g, j * 10 + 7, none⟩ = some (.slice so1 sl1 sc1) ∧ W.cell? ⟨g, j * 10 + 8, none⟩ = some (.int .i64 (p1 : Int)) ∧ W.cell? ⟨g', j * 10, none⟩ = some (.string M) ∧ W.cell? ⟨g', j * 10 + 1, none⟩ = some (.int .i64 (kd2 : Int)) ∧ W.cell? ⟨g', j * 10 + 2, none⟩ = some (.string T2) ∧ W.cell? ⟨g', j * 10 + 3, none⟩ = some (.int .u64 (wd C2 0 : Nat)) ∧ W.cell? ⟨g', j * 10 + 4, none⟩ = some (.int .u64 (wd C2 1 : Nat)) ∧ W.cell? ⟨g', j * 10 + 5, none⟩ = some (.int .u64 (wd C2 2 : Nat)) ∧ W.cell? ⟨g', j * 10 + 6, none⟩ = some (.int .u64 (wd C2 3 : Nat)) ∧ W.cell? ⟨g', j * 10 + 7, none⟩ = some (.slice so2 sl2 sc2) ∧ W.cell? ⟨g', j * 10 + 8, none⟩ = some (.int .i64 (p2 : Int))) wq := by assumption
      obtain ⟨HW3, c1, c2, x, x0, x1, x2, x3, x4, x5, x6, x7, y, y0, y1, y2, y3, y4, y5, y6, y7⟩ := S3
      clear S1 hbq b1 b2 HW HK x0 x1 x2 x3 x4 x5 x6 x7 y0 y1 y2 y3 y4 y5 y6 y7
      go_wp2_with fail
      go_quiet (fail)
      go_wp2_with fail
      go_roundw
      case rel => exact ⟨j + 1, by go_num, by omega, hid (HW3.out.below (below_drewN (Below.refl _ _) _))⟩
      case measure => simp [intOf]; omega
    · have hjI : decide ((j : Int) < (n : Int)) = false := by simp; omega
      have HB : Hid (Below w.heap.size w wr) := HW.out.1
      clear HW
      go_wp2_with fail
      go_ret
      exact ⟨rfl, HB.out⟩
end Go.Proofs.YtikfnaffiehpaaaGreatDoor
namespace Go.Proofs.YtikfnaffiehpaaaGreatDoor
open Go.RowKit
set_option linter.unusedVariables false
theorem RoR.len {B n cap : Nat} {so : Option Addr} {rs : List Rl} {W : World} (h : RoR B (.slice so n cap) rs W) : n = rs.length := by
  obtain ⟨xs, h1, _⟩ := h
  obtain ⟨hl, ⟨hq, hx⟩ | ⟨g', cap', cur, hq, _⟩⟩ := h1
  · injection hq with _ h2 _
    rw [hx] at hl
    simp at hl
    omega
  · injection hq
theorem RoR.lt {B g n cap : Nat} {rs : List Rl} {W : World} (h : RoR B (.slice (some ⟨g, 0, none⟩) n cap) rs W) : g < W.heap.size := by
  obtain ⟨xs, h1, _⟩ := h
  exact (h1.lt g rfl).2
/-- Same answers true at two rows of rules that are one but for places. -/
theorem zgram_all {g cap g' cap' B B' n : Nat} {xs ys : List Rl} {w : World} (h1 : RoR B (.slice (some ⟨g, 0, none⟩) n cap) xs w) (h2 : RoR B' (.slice (some ⟨g', 0, none⟩) n cap') ys w) (hn : n ≤ 1000000)
    (hR : ∀ j (hj : j < xs.length) (hj' : j < ys.length), ys[j].1 = xs[j].1 ∧ Sm xs[j].2.1 ys[j].2.1) :
    Calls Tryz.prog 12 #[.agg #[.slice (some ⟨g, 0, none⟩) n cap], .agg #[.slice (some ⟨g', 0, none⟩) n cap'], .bool false] w fun e w' => e = .returned (.bool true) ∧ Below w.heap.size w w' := by
  have l1 := h1.len
  have l2 := h2.len
  refine zgram_row g cap g' cap' n w hn h1.lt h2.lt (fun j hj => ?_)
  obtain ⟨c, a1, a2⟩ := h1.get j (by omega)
  obtain ⟨d, b1, b2⟩ := h2.get j (by omega)
  obtain ⟨hN, hS⟩ := hR j (by omega) (by omega)
  obtain ⟨cs, rfl, na⟩ := a1
  obtain ⟨ds, rfl, nb'⟩ := b1
  have na' := na
  have nb2 := nb'
  obtain ⟨kd1, T1, C1, so1, sl1, sc1, rfl⟩ := na.shape
  obtain ⟨kd2, T2, C2, so2, sl2, sc2, rfl⟩ := nb'.shape
  refine ⟨_, kd1, T1, C1, so1, sl1, sc1, _, kd2, T2, C2, so2, sl2, sc2, _, ⟨a2 0 _ rfl, a2 1 _ rfl, a2 2 _ rfl, a2 3 _ rfl, a2 4 _ rfl, a2 5 _ rfl, a2 6 _ rfl, a2 7 _ rfl, a2 8 _ rfl⟩, ⟨?_, b2 1 _ rfl, b2 2 _ rfl, b2 3 _ rfl, b2 4 _ rfl, b2 5 _ rfl, b2 6 _ rfl, b2 7 _ rfl, b2 8 _ rfl⟩, fun W hW => ?_⟩
  · rw [← hN]
    exact b2 0 _ rfl
  · exact zsame_all _ _ _ _ _ _ _ W (Nat.lt_succ_self _) hS (na'.below hW) (nb2.below hW)
set_option maxRecDepth 100000 in
theorem yparse_long (S : ByteArray) (w : World) (hS : 8192 < S.size) :
    Calls Tryz.prog 17 #[.string S] w fun e w' => ∃ f, e = .returned (.tuple #[.agg #[.slice none 0 0], flv f]) ∧ Hid (Below w.heap.size w w') := by
  have HT := hid (xtokens_long S (w.alloc Zg) hS)
  go_enter Tryz.func17, Tryz.ntmps17
  go_wp2_with fail
  refine HT.out.mono ?_
  rintro e w1 ⟨rfl, hw1⟩
  have HB : Hid (Below (w.heap.size + 1) (w.alloc Zg) w1) := by
    rw [hw1]
    have := (Below.refl (w.alloc Zg).heap.size (w.alloc Zg)).alloc (Nat.le_refl _) (.cells #[.int .i64 2, .int .i64 (-1)] 100)
    simp at this
    exact this
  obtain ⟨q, hq⟩ : ∃ q, q = (w.alloc Zg).heap.size := ⟨_, rfl⟩
  rw [← hq]
  have HA : Hid (Below w.heap.size w (w1.setCell ⟨w.heap.size, 0, none⟩ (.slice none 0 0))) := (setQ HB.out).2.2
  have HQ : Hid (w1.heap[w.heap.size]? = some Zg) := (setQ (x := .nilIface) HB.out).1
  obtain ⟨e0, y0⟩ := one_cell HQ.out
  have hQl := node_lt HQ.out
  clear HT HB hw1 hq
  unfold flv
  go_wp2_with fail
  (try simp only [Exit.inBlock, Exit.then])
  refine bodyPost_ret (v := .tuple #[.agg #[.slice none 0 0], .iface 98 (.pointer (some ⟨q, 0, none⟩))]) (by simp [results, Tryz.results17, go_sem, e0]) rfl ?_
  exact ⟨q, rfl, HA⟩
/-- What Parse hands back at any text: a Fault, or the grammar. -/
def Two (S : ByteArray) (w : World) (e : Ending) (w' : World) : Prop :=
  (∃ f, e = .returned (.tuple #[.agg #[.slice none 0 0], flv f]) ∧ Hid (Below w.heap.size w w')) ∨
  (∃ rs g n cap, Hid (S.size ≤ 8192 ∧ parS S = .inr rs) ∧ e = .returned (.tuple #[.agg #[.slice (some ⟨g, 0, none⟩) n cap], .nilIface]) ∧ Hid (RoR w.heap.size (.slice (some ⟨g, 0, none⟩) n cap) rs w') ∧ Hid (Below w.heap.size w w'))
theorem yparse_two (S : ByteArray) (w : World) (h : ErrIs w) : Calls Tryz.prog 17 #[.string S] w fun e w' => Two S w e w' := by
  rcases Nat.lt_or_ge 8192 S.size with hl | hl
  · exact (yparse_long S w hl).mono fun e w' h => .inl h
  · obtain ⟨X, hX⟩ : ∃ X, X = parS S := ⟨_, rfl⟩
    have hY := hid (yparse_any S w h hl)
    rw [← hX] at hY
    have HX := hid hX.symm
    clear hX
    refine hY.out.mono fun e w' hA => ?_
    cases X with
    | inl c =>
      obtain ⟨f, he, HF⟩ := hA
      exact .inl ⟨f, he, hid HF.out.2.2⟩
    | inr rs =>
      obtain ⟨g, cap, he, HR, HB⟩ := hA
      exact .inr ⟨rs, g, rs.length, cap, hid ⟨hl, HX.out⟩, he, HR, HB⟩
theorem add_str2 {a b c : ByteArray} (h : a ++ b = c) (hl : a.size + b.size ≤ 100000) (w : World) : (Op.stringOp .add a b).run Tryz.prog w = .ok (.string c) w := by
  rw [← h]
  exact run_string_add_sum w a b (by omega)
end Go.Proofs.YtikfnaffiehpaaaGreatDoor
