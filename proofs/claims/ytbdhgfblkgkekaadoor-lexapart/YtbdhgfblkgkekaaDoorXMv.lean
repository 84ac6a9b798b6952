/-
  A token, blanks, a row of tokens that stand in another text too: they are read as they were. Plain facts on the functions of X15. Conditions: those that each theorem names.
-/
import Derived.Test.YtbdhgfblkgkekaaDoorX19
namespace Go.Proofs.YtbdhgfblkgkekaaDoor
open Go.RowKit
set_option linter.unusedVariables false
theorem ext_bt {A B : ByteArray} (h : ∀ j, bt A j = bt B j) : A = B := by
  have hs : A.size = B.size := by
    rcases Nat.lt_trichotomy A.size B.size with h1 | h1 | h1
    · have h2 := h A.size
      rw [bt_ge (Nat.le_refl _)] at h2
      have := bt_none h2.symm
      omega
    · exact h1
    · have h2 := h B.size
      rw [bt_ge (Nat.le_refl _)] at h2
      have := bt_none h2
      omega
  apply ByteArray.ext
  apply Array.ext
  · exact hs
  · intro i h1 h2
    have h3 := h i
    have e1 : bt A i = some (A.data[i].toNat) := by unfold bt; rw [dif_pos (show i < A.size from h1)]; rfl
    have e2 : bt B i = some (B.data[i].toNat) := by unfold bt; rw [dif_pos (show i < B.size from h2)]; rfl
    rw [e1, e2] at h3
    exact UInt8.toNat.inj (Option.some.inj h3)
theorem bt_ext (S : ByteArray) (p e j : Nat) (he : e ≤ S.size) : bt (S.extract p e) j = if p + j < e then bt S (p + j) else none := by
  have hsz : (S.extract p e).size = e - p := by rw [ByteArray.size_extract]; omega
  by_cases h : p + j < e
  · rw [if_pos h]
    unfold bt
    rw [dif_pos (by omega), dif_pos (by omega), ByteArray.getElem_extract]
  · rw [if_neg h, bt_ge (by omega)]
/-- S's bytes from a on stand in X from b on, L of them. -/
def Seg (S X : ByteArray) (a b L : Nat) : Prop := ∀ j, j < L → bt X (b + j) = bt S (a + j)
theorem Seg.dg {S X : ByteArray} {a b L i : Nat} (h : Seg S X a b L) (hi : i < L) : dg X (b + i) = dg S (a + i) := by
  show (bt X (b + i)).bind dgv = (bt S (a + i)).bind dgv
  rw [h i hi]
theorem Seg.digs {S X : ByteArray} {a b L i i' y : Nat} (h : Seg S X a b L) (hd : digs S (a + i) = .inr (y, a + i')) (hi : i' ≤ L) : digs X (b + i) = .inr (y, b + i') := by
  obtain ⟨q, r, h1, h2, h3, h4⟩ := digs_ok hd
  have e1 := h.dg (i := i) (by omega)
  have e2 := h.dg (i := i + 1) (by omega)
  unfold Proofs.YtbdhgfblkgkekaaDoor.digs
  rw [e1, h1]
  simp only
  rw [show b + i + 1 = b + (i + 1) by omega, e2, show a + (i + 1) = a + i + 1 by omega, h2]
  simp only
  rw [h3, show b + i + 2 = b + i' by omega]
theorem Seg.lsg {S X : ByteArray} {a b L i i' y : Nat} (h : Seg S X a b L) (hd : lsg S (a + i) = .inr (y, a + i')) (hi : i' ≤ L) : lsg X (b + i) = .inr (y, b + i') := by
  have hok := lsg_ok hd
  have e0 := h i (by omega)
  unfold Proofs.YtbdhgfblkgkekaaDoor.lsg at hd ⊢
  rw [e0]
  cases hb : bt S (a + i) with
  | none => rw [hb] at hd; cases hd
  | some x =>
    rw [hb] at hd
    simp only at hd ⊢
    split at hd
    · cases hd
    · rename_i hp
      rw [if_neg hp]
      split at hd
      · rename_i hx
        rw [if_pos hx]
        have hok2 := lesc_ok hd
        have e1 := h (i + 1) (by omega)
        unfold lesc at hd ⊢
        rw [show b + i + 1 = b + (i + 1) by omega, e1, show a + (i + 1) = a + i + 1 by omega]
        cases hb2 : bt S (a + i + 1) with
        | none => rw [hb2] at hd; cases hd
        | some z =>
          rw [hb2] at hd
          simp only at hd ⊢
          cases hv : lescv z with
          | some v =>
            rw [hv] at hd
            simp only [Sum.inr.injEq, Prod.mk.injEq] at hd ⊢
            omega
          | none =>
            rw [hv] at hd
            simp only at hd ⊢
            split at hd
            · rename_i hz
              rw [if_pos hz]
              rw [show b + (i + 1) + 1 = b + (i + 2) by omega]
              exact h.digs (by rw [show a + (i + 2) = a + i + 1 + 1 by omega]; exact hd) hi
            · cases hd
      · rename_i hx
        rw [if_neg hx]
        simp only [Sum.inr.injEq, Prod.mk.injEq] at hd ⊢
        omega
theorem Seg.llit {S X : ByteArray} {a b L q p p' i' : Nat} {l : List Nat} (h : Seg S X a b L) (hi : i' ≤ L) : ∀ (f i : Nat) (acc : List Nat), acc.length ≤ 255 → (∀ x ∈ acc, x < 256) →
    llit S q p f (a + i) acc = .inr (l, a + i') → ll X q p' (b + i) acc = .inr (l, b + i')
  | 0, i, acc, _, _, hd => by rw [Proofs.YtbdhgfblkgkekaaDoor.llit] at hd; cases hd
  | f + 1, i, acc, ha, hx, hd => by
    have hok := llit_ok S q p _ _ _ _ _ hd hx ha
    have e0 := h i (by omega)
    rw [Proofs.YtbdhgfblkgkekaaDoor.llit] at hd
    split at hd
    · rename_i hb
      simp only [Sum.inr.injEq, Prod.mk.injEq] at hd
      rw [ll_end (by rw [e0]; exact hb), hd.1, show b + i + 1 = b + i' by omega]
    · rename_i hb
      split at hd
      · cases hd
      · rename_i y n hs
        have hok1 := lsg_ok hs
        obtain ⟨i1, rfl⟩ : ∃ i1, n = a + i1 := ⟨n - a, by omega⟩
        split at hd
        · cases hd
        · rename_i h5
          have hx2 : ∀ x ∈ acc ++ [y], x < 256 := fun x hx' => by
            rcases List.mem_append.1 hx' with h | h
            · exact hx x h
            · simp at h; omega
          have hok2 := llit_ok S q p _ _ _ _ _ hd hx2 (by simp; omega)
          rw [ll_on (by rw [e0]; exact hb) (h.lsg hs (by omega)) h5]
          exact Seg.llit h hi f i1 (acc ++ [y]) (by simp; omega) hx2 hd
theorem Seg.ll {S X : ByteArray} {a b L q p p' i i' : Nat} {l : List Nat} (h : Seg S X a b L) (hi : i' ≤ L) (hd : ll S q p (a + i) [] = .inr (l, a + i')) : ll X q p' (b + i) [] = .inr (l, b + i') :=
  Seg.llit h hi _ i [] (by simp) (fun x hx => by simp at hx) hd
/-- Two texts that begin alike. -/
def Agr (T V : ByteArray) (M : Nat) : Prop := ∀ j, j < M → bt V j = bt T j
theorem Agr.digs {T V : ByteArray} {M k y n : Nat} (h : Agr T V M) (hd : digs T k = .inr (y, n)) (hn : n ≤ M) : digs V k = .inr (y, n) := by
  have := Seg.digs (S := T) (X := V) (a := 0) (b := 0) (L := M) (i := k) (i' := n) (y := y) (fun j hj => by simpa using h j hj) (by simpa using hd) hn
  simpa using this
theorem Agr.sg {T V : ByteArray} {M k y n : Nat} (h : Agr T V M) (hd : sg T k = .inr (y, n)) (hn : n ≤ M) : sg V k = .inr (y, n) := by
  have hok := sg_ok hd
  have e0 := h k (by omega)
  unfold Proofs.YtbdhgfblkgkekaaDoor.sg at hd ⊢
  rw [e0]
  cases hb : bt T k with
  | none => rw [hb] at hd; cases hd
  | some x =>
    rw [hb] at hd
    simp only at hd ⊢
    split at hd
    · rename_i hx
      rw [if_pos hx]
      have hok2 := esc_ok hd
      have e1 := h (k + 1) (by omega)
      unfold esc at hd ⊢
      rw [e1]
      cases hb2 : bt T (k + 1) with
      | none => rw [hb2] at hd; cases hd
      | some z =>
        rw [hb2] at hd
        simp only at hd ⊢
        cases hv : escv z with
        | some v => rw [hv] at hd; exact hd
        | none =>
          rw [hv] at hd
          simp only at hd ⊢
          split at hd
          · rename_i hz
            rw [if_pos hz]
            exact h.digs hd hn
          · cases hd
    · rename_i hx
      rw [if_neg hx]
      split at hd
      · rename_i hp
        rw [if_pos hp]
        exact hd
      · cases hd
theorem Agr.mbr {T V : ByteArray} {M k y n : Nat} (h : Agr T V M) (hd : mbr T k = .inr (y, n)) (hn : n < M) : mbr V k = .inr (y, n) := by
  have hok := mbr_ok hd
  unfold Proofs.YtbdhgfblkgkekaaDoor.mbr at hd ⊢
  cases hs : Proofs.YtbdhgfblkgkekaaDoor.sg T k with
  | inl e => rw [hs] at hd; cases hd
  | inr r =>
    obtain ⟨lo, m⟩ := r
    have hok1 := sg_ok hs
    rw [hs] at hd
    simp only at hd
    split at hd
    · rename_i h45
      have hm : m < n := by
        split at hd
        · cases hd
        · rename_i hi m2 hs2
          have := sg_ok hs2
          split at hd
          · cases hd
          · simp only [Sum.inr.injEq, Prod.mk.injEq] at hd; omega
      rw [h.sg hs (by omega)]
      simp only
      rw [if_pos (by rw [h m (by omega)]; exact h45)]
      cases hs2 : Proofs.YtbdhgfblkgkekaaDoor.sg T (m + 1) with
      | inl e => rw [hs2] at hd; cases hd
      | inr r2 =>
        obtain ⟨hi, m2⟩ := r2
        rw [hs2] at hd
        simp only at hd
        split at hd
        · cases hd
        · rename_i hle
          have hd2 := hd
          simp only [Sum.inr.injEq, Prod.mk.injEq] at hd2
          rw [h.sg hs2 (by omega)]
          simp only
          rw [if_neg hle]
          exact hd
    · rename_i h45
      have hd2 := hd
      simp only [Sum.inr.injEq, Prod.mk.injEq] at hd2
      rw [h.sg hs (by omega)]
      simp only
      rw [if_neg (by rw [h m (by omega)]; exact h45)]
      exact hd
theorem Agr.mems {T V : ByteArray} {M C n : Nat} (h : Agr T V M) (hn : n ≤ M) : ∀ (f k acc : Nat), mems T f k acc = .inr (C, n) → k < n ∧ n ≤ T.size ∧ mm V k acc = .inr (C, n)
  | 0, k, acc, hd => by rw [Proofs.YtbdhgfblkgkekaaDoor.mems] at hd; cases hd
  | f + 1, k, acc, hd => by
    rw [Proofs.YtbdhgfblkgkekaaDoor.mems] at hd
    split at hd
    · rename_i hb
      have h1 := (bt_lt hb).1
      have hd2 := hd
      simp only [Sum.inr.injEq, Prod.mk.injEq] at hd2
      refine ⟨by omega, by omega, ?_⟩
      rw [mm_eq, if_pos (by rw [h k (by omega)]; exact hb)]
      exact hd
    · rename_i hb
      cases hm : Proofs.YtbdhgfblkgkekaaDoor.mbr T k with
      | inl e => rw [hm] at hd; cases hd
      | inr r =>
        obtain ⟨Y, m⟩ := r
        rw [hm] at hd
        have hok := mbr_ok hm
        obtain ⟨h1, h2, h3⟩ := Agr.mems h hn f m _ hd
        refine ⟨by omega, h2, ?_⟩
        rw [mm_eq, if_neg (by rw [h k (by omega)]; exact hb), h.mbr hm (by omega)]
        exact h3
theorem Agr.cls {T V : ByteArray} {M C n : Nat} (h : Agr T V M) (hd : clsP T = .inr (C, n)) (hn : n ≤ M) : clsP V = .inr (C, n) := by
  rw [clsP_ng] at hd ⊢
  split at hd
  · rename_i h0
    split at hd
    · rename_i h1
      cases hm : mm T 2 0 with
      | inl e => rw [hm] at hd; cases hd
      | inr r =>
        obtain ⟨D, m⟩ := r
        rw [hm] at hd
        have hd2 := hd
        simp only [ng, Sum.inr.injEq, Prod.mk.injEq] at hd2
        obtain ⟨a1, a2, a3⟩ := h.mems (n := m) (by omega) _ _ _ hm
        rw [if_pos (by rw [h 0 (by omega)]; exact h0), if_pos (by rw [h 1 (by omega)]; exact h1), a3]
        exact hd
    · rename_i h1
      obtain ⟨a1, a2, a3⟩ := h.mems hn _ _ _ hd
      rw [if_pos (by rw [h 0 (by omega)]; exact h0), if_neg (by rw [h 1 (by omega)]; exact h1), a3]
  · cases hd
/-- No byte of a name. -/
def Stop (X : ByteArray) (k : Nat) : Prop := bt X k = some 10 ∨ bt X k = none
theorem Stop.ne {X : ByteArray} {k : Nat} (h : Stop X k) : ne X k = k := by
  rcases h with h | h
  · rw [ne_eq h]; rfl
  · exact ne_none h
theorem Seg.ne {S X : ByteArray} {a b L : Nat} (h : Seg S X a b L) (hs : Stop X (b + L)) : ∀ (f i i' : Nat), L - i = f → i ≤ L → i' ≤ L → ne S (a + i) = a + i' → ne X (b + i) = b + i'
  | 0, i, i', hf, hi, hi', hd => by
    obtain rfl : i = L := by omega
    have : i' = i := by
      have := (nend_le S (S.size - (a + i)) (a + i)).1
      have h2 : a + i ≤ Proofs.YtbdhgfblkgkekaaDoor.ne S (a + i) := this
      omega
    rw [hs.ne, this]
  | f + 1, i, i', hf, hi, hi', hd => by
    have e0 := h i (by omega)
    cases hb : bt S (a + i) with
    | none =>
      rw [ne_none hb] at hd
      rw [ne_none (by rw [e0]; exact hb)]
      omega
    | some x =>
      rw [ne_eq hb] at hd
      rw [ne_eq (by rw [e0]; exact hb)]
      cases hx : (letB x || digB x) with
      | false => rw [hx] at hd; simp at hd ⊢; omega
      | true =>
        rw [hx] at hd
        simp only [if_true] at hd ⊢
        exact Seg.ne h hs f (i + 1) i' (by omega) (by omega) hi' hd
theorem Seg.text {S X : ByteArray} {a b L i i' : Nat} (h : Seg S X a b L) (hi : i' ≤ L) (h1 : a + i' ≤ S.size) (h2 : b + i' ≤ X.size) : X.extract (b + i) (b + i') = S.extract (a + i) (a + i') := by
  apply ext_bt
  intro j
  rw [bt_ext X _ _ _ h2, bt_ext S _ _ _ h1]
  by_cases hj : i + j < i'
  · rw [if_pos (by omega), if_pos (by omega), show b + i + j = b + (i + j) by omega, h (i + j) (by omega), show a + (i + j) = a + i + j by omega]
  · rw [if_neg (by omega), if_neg (by omega)]
/-- A token that stands in another text too. -/
theorem Seg.tok {S X : ByteArray} {a b L i i' x : Nat} {t : Tok} (h : Seg S X a b L) (hs : Stop X (b + L)) (hX : b + L ≤ X.size) (hb : bt S (a + i) = some x) (ht : tokAt S (a + i) x = .inr (t, a + i')) (hi : i' ≤ L) :
    tokAt X (b + i) x = .inr ((t.1, t.2.1, t.2.2.1, b + i), b + i') ∧ bt X (b + i) = some x := by
  have hok := tokAt_ok hb ht
  have e0 := h i (by omega)
  refine ⟨?_, by rw [e0]; exact hb⟩
  unfold tokAt at ht ⊢
  split at ht
  · rename_i hl
    rw [if_pos hl]
    split at ht
    · cases ht
    · rename_i h32
      simp only [Sum.inr.injEq, Prod.mk.injEq] at ht
      obtain ⟨rfl, hn⟩ := ht
      have hne := h.ne hs _ i i' rfl (by omega) hi hn
      rw [hne, if_neg (by omega), h.text hi (by omega) (by omega), hn]
  · rename_i hl
    rw [if_neg hl]
    split at ht
    · rename_i hq
      rw [if_pos hq]
      cases hm : Proofs.YtbdhgfblkgkekaaDoor.ll S x (a + i) (a + i + 1) [] with
      | inl c => rw [hm] at ht; cases ht
      | inr r =>
        obtain ⟨l, n⟩ := r
        rw [hm] at ht
        simp only [Sum.inr.injEq, Prod.mk.injEq] at ht
        obtain ⟨rfl, rfl⟩ := ht
        have := h.ll (p := a + i) (p' := b + i) (q := x) (i := i + 1) hi hm
        rw [show b + i + 1 = b + (i + 1) by omega, this]
    · rename_i hq
      rw [if_neg hq]
      split at ht
      · rename_i hc
        rw [if_pos hc]
        cases hm : clsP (S.extract (a + i) S.size) with
        | inl c => rw [hm] at ht; cases ht
        | inr r =>
          obtain ⟨C, n⟩ := r
          rw [hm] at ht
          simp only [Sum.inr.injEq, Prod.mk.injEq] at ht
          obtain ⟨rfl, hn⟩ := ht
          have hg : Agr (S.extract (a + i) S.size) (X.extract (b + i) X.size) n := fun j hj => by
            rw [bt_ext X _ _ _ (Nat.le_refl _), bt_ext S _ _ _ (Nat.le_refl _), if_pos (by omega), if_pos (by omega), show b + i + j = b + (i + j) by omega, h (i + j) (by omega), show a + (i + j) = a + i + j by omega]
          rw [hg.cls hm (Nat.le_refl _)]
          simp only [Sum.inr.injEq, Prod.mk.injEq, true_and]
          omega
      · rename_i hc
        rw [if_neg hc]
        split at ht
        · rename_i ha
          simp only [Sum.inr.injEq, Prod.mk.injEq] at ht
          obtain ⟨rfl, hn⟩ := ht
          have e1 := h (i + 1) (by omega)
          have : arB X (b + i) = true := by
            unfold arB at ha ⊢
            rw [e0, show b + i + 1 = b + (i + 1) by omega, e1, show a + (i + 1) = a + i + 1 by omega]
            exact ha
          rw [if_pos this]
          simp only [Sum.inr.injEq, Prod.mk.injEq, true_and]
          omega
        · rename_i ha
          split at ht
          · rename_i hmk
            have : arB X (b + i) = false := by
              unfold arB
              rw [e0, hb]
              have : x ≠ 60 := fun e => by rw [e] at hmk; exact absurd hmk (by decide)
              simp [this]
            rw [if_neg (by rw [this]; simp), if_pos hmk]
            simp only [Sum.inr.injEq, Prod.mk.injEq] at ht
            obtain ⟨rfl, hn⟩ := ht
            simp only [Sum.inr.injEq, Prod.mk.injEq, true_and]
            omega
          · cases ht
end Go.Proofs.YtbdhgfblkgkekaaDoor
