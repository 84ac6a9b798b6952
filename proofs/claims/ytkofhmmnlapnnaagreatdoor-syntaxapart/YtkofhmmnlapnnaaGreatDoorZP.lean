/-
  Plain facts on texts, tokens and trees: a piece of a text that stands in another one; a rule with parentheses around its body; what lex.Tokens answers at a text that is too long. Conditions: those that each theorem names.
-/
import Derived.Test.YtkofhmmnlapnnaaGreatDoorX16
import Derived.Laws.Strings
import Derived.WideShapes
import Derived.Test.YtkofhmmnlapnnaaGreatDoorY20
namespace Go.Proofs.YtkofhmmnlapnnaaGreatDoor
open Go.RowKit
set_option linter.unusedVariables false
set_option maxRecDepth 100000 in
theorem xtokens_long (S : ByteArray) (w : World) (hS : 8192 < S.size) :
    Calls Tryz.prog 12 #[.string S] w fun e w' => e = .returned (.tuple #[.slice none 0 0, flv w.heap.size]) ∧ w' = w.alloc (.cells #[.int .i64 2, .int .i64 (-1)] 66) := by
  have c0 : decide ((8192 : Int) < (S.size : Int)) = true := by simp; omega
  go_enter Tryz.func12, Tryz.ntmps12
  go_wp2_with fail
  (try simp only [Exit.inBlock, Exit.then])
  refine bodyPost_ret (v := .tuple #[.slice none 0 0, .iface 64 (.pointer (some ⟨w.heap.size, 0, none⟩))]) (by simp [results, Tryz.results12, go_sem]) rfl ?_
  exact ⟨rfl, rfl⟩
theorem str_ne {a b : ByteArray} (h : ¬ a = b) : (a.toList == b.toList) = false := by
  rw [ByteArray.toList_eq, ByteArray.toList_eq, beq_eq_false_iff_ne]
  exact fun e => h (WideShapes.bytes_inj e)
theorem str_eq (a : ByteArray) : (a.toList == a.toList) = true := by simp
/-- Tokens ahead of others. -/
def lift (acc : List Tok) (r : Tr) : Tr := match r with
  | .inl c => .inl c
  | .inr l => .inr (acc ++ l)
theorem lift_lift (a b : List Tok) (r : Tr) : lift a (lift b r) = lift (a ++ b) r := by
  cases r <;> simp [lift]
theorem tkl_acc (S : ByteArray) : ∀ (f k : Nat) (acc : List Tok), tkl S f k acc = lift acc (tkl S f k [])
  | 0, k, acc => by simp [tkl, lift]
  | f + 1, k, acc => by
    rw [tkl, tkl]
    cases bt S k with
    | none => simp [lift]
    | some x =>
      simp only
      cases tokAt S k x with
      | inl b => rfl
      | inr r =>
        obtain ⟨t, n⟩ := r
        simp only [List.nil_append]
        rw [tkl_acc S f (sb S n) (acc ++ [t]), tkl_acc S f (sb S n) [t], lift_lift]
theorem tks_acc (S : ByteArray) (k : Nat) (acc : List Tok) : tks S k acc = lift acc (tks S k []) := tkl_acc S _ k acc
theorem ext_all (S : ByteArray) : S.extract 0 S.size = S := by
  apply ByteArray.ext
  rw [ByteArray.data_extract]
  exact Array.extract_size
theorem letB_not {x : Nat} (h : letB x = true) : blB x = false ∧ x ≠ 35 := by
  unfold letB at h
  unfold blB
  simp at h
  refine ⟨?_, by omega⟩
  simp
  omega
theorem tks_inv {S : ByteArray} {k : Nat} {a : Tok} {l : List Tok} (h : tks S k [] = .inr (a :: l)) : ∃ x n, bt S k = some x ∧ tokAt S k x = .inr (a, n) ∧ tks S (sb S n) [] = .inr l := by
  cases hb : bt S k with
  | none => rw [tks_end (bt_none hb)] at h; cases h
  | some x =>
    cases ht : tokAt S k x with
    | inl b => rw [tks_bad hb ht] at h; cases h
    | inr r =>
      obtain ⟨t, n⟩ := r
      rw [tks_on hb ht, tks_acc] at h
      cases hm : tks S (sb S n) [] with
      | inl c => rw [hm] at h; cases h
      | inr m =>
        rw [hm] at h
        simp [lift] at h
        obtain ⟨rfl, rfl⟩ := h
        exact ⟨x, n, rfl, ht, hm⟩
theorem tkS_inv {S : ByteArray} {l : List Tok} (h : tkS S = .inr l) : ∃ m, tks S (sb S 0) [] = .inr m ∧ l = m ++ [(6, { data := #[] }, 0, S.size)] := by
  unfold tkS at h
  cases hm : tks S (sb S 0) [] with
  | inl c => rw [hm] at h; cases h
  | inr m => rw [hm] at h; simp [tkE] at h; exact ⟨m, rfl, h.symm⟩
theorem tokAt_name {S : ByteArray} {p x n : Nat} {t : Tok} (h : tokAt S p x = .inr (t, n)) (h1 : t.1 = 1) : letB x = true ∧ ne S p - p ≤ 32 ∧ t = (1, S.extract p (ne S p), 0, p) := by
  unfold tokAt at h
  split at h
  · rename_i hl
    split at h
    · cases h
    · simp only [Sum.inr.injEq, Prod.mk.injEq] at h
      obtain ⟨rfl, rfl⟩ := h
      exact ⟨hl, by omega, rfl⟩
  · exfalso
    split at h
    · split at h
      · cases h
      · simp only [Sum.inr.injEq, Prod.mk.injEq] at h
        obtain ⟨rfl, rfl⟩ := h
        cases h1
    · split at h
      · split at h
        · cases h
        · simp only [Sum.inr.injEq, Prod.mk.injEq] at h
          obtain ⟨rfl, rfl⟩ := h
          cases h1
      · split at h
        · simp only [Sum.inr.injEq, Prod.mk.injEq] at h
          obtain ⟨rfl, rfl⟩ := h
          cases h1
        · split at h
          · simp only [Sum.inr.injEq, Prod.mk.injEq] at h
            obtain ⟨rfl, rfl⟩ := h
            cases h1
          · cases h
/-- All bytes from k on are of a name. -/
theorem ne_all (S : ByteArray) : ∀ f k : Nat, S.size - k = f → k ≤ S.size → (ne S k = S.size ↔ ∀ i x, k ≤ i → bt S i = some x → (letB x || digB x) = true)
  | 0, k, hf, hk => by
    have : k = S.size := by omega
    rw [ne_none (bt_ge (by omega))]
    refine ⟨fun _ i x hi hx => ?_, fun _ => this⟩
    have := (bt_lt hx).1
    omega
  | f + 1, k, hf, hk => by
    cases hb : bt S k with
    | none => have := bt_none hb; omega
    | some y =>
      rw [ne_eq hb]
      cases hy : (letB y || digB y) with
      | false =>
        simp only [Bool.false_eq_true, if_false]
        refine ⟨fun e => by have := (bt_lt hb).1; omega, fun h => ?_⟩
        have := h k y (Nat.le_refl _) hb
        rw [hy] at this
        cases this
      | true =>
        simp only [if_true]
        rw [ne_all S f (k + 1) (by omega) (by omega)]
        refine ⟨fun h i x hi hx => ?_, fun h i x hi hx => h i x (by omega) hx⟩
        rcases Nat.lt_or_ge k i with h1 | h1
        · exact h i x (by omega) hx
        · obtain rfl : i = k := by omega
          rw [hb] at hx
          cases hx
          exact hy
theorem bt_app (S T : ByteArray) (i : Nat) : bt (S ++ T) i = if i < S.size then bt S i else bt T (i - S.size) := by
  unfold bt
  by_cases h : i < S.size
  · rw [if_pos h, dif_pos h, dif_pos (by rw [ByteArray.size_append]; omega), ByteArray.getElem_append_left h]
  · rw [if_neg h]
    by_cases h2 : i < (S ++ T).size
    · have h3 := h2
      rw [ByteArray.size_append] at h3
      rw [dif_pos h2, dif_pos (by omega), ByteArray.getElem_append_right (by omega)]
    · have h3 := h2
      rw [ByteArray.size_append] at h3
      rw [dif_neg h2, dif_neg (by omega)]
theorem ext_bt {A B : ByteArray} (h : ∀ j, bt A j = bt B j) : A = B := by
  have hs : A.size = B.size := by
    rcases Nat.lt_trichotomy A.size B.size with h1 | h1 | h1
    · have h2 := h A.size
      rw [bt_ge (Nat.le_refl _)] at h2
      have := bt_none h2.symm
      omega
    · exact h1
    · have h2 := h B.size
      rw [bt_ge (Nat.le_refl _)] at h2
      have := bt_none h2
      omega
  apply ByteArray.ext
  apply Array.ext
  · exact hs
  · intro i h1 h2
    have h3 := h i
    have e1 : bt A i = some (A.data[i].toNat) := by unfold bt; rw [dif_pos (show i < A.size from h1)]; rfl
    have e2 : bt B i = some (B.data[i].toNat) := by unfold bt; rw [dif_pos (show i < B.size from h2)]; rfl
    rw [e1, e2] at h3
    exact UInt8.toNat.inj (Option.some.inj h3)
theorem bt_ext (S : ByteArray) (p e j : Nat) (he : e ≤ S.size) : bt (S.extract p e) j = if p + j < e then bt S (p + j) else none := by
  have hsz : (S.extract p e).size = e - p := by rw [ByteArray.size_extract]; omega
  by_cases h : p + j < e
  · rw [if_pos h]
    unfold bt
    rw [dif_pos (by omega), dif_pos (by omega), ByteArray.getElem_extract]
  · rw [if_neg h, bt_ge (by omega)]
/-- S's bytes from a on stand in X from b on, L of them. -/
def Seg (S X : ByteArray) (a b L : Nat) : Prop := ∀ j, j < L → bt X (b + j) = bt S (a + j)
theorem Seg.dg {S X : ByteArray} {a b L i : Nat} (h : Seg S X a b L) (hi : i < L) : dg X (b + i) = dg S (a + i) := by
  show (bt X (b + i)).bind dgv = (bt S (a + i)).bind dgv
  rw [h i hi]
theorem Seg.digs {S X : ByteArray} {a b L i i' y : Nat} (h : Seg S X a b L) (hd : digs S (a + i) = .inr (y, a + i')) (hi : i' ≤ L) : digs X (b + i) = .inr (y, b + i') := by
  obtain ⟨q, r, h1, h2, h3, h4⟩ := digs_ok hd
  have e1 := h.dg (i := i) (by omega)
  have e2 := h.dg (i := i + 1) (by omega)
  unfold Proofs.YtkofhmmnlapnnaaGreatDoor.digs
  rw [e1, h1]
  simp only
  rw [show b + i + 1 = b + (i + 1) by omega, e2, show a + (i + 1) = a + i + 1 by omega, h2]
  simp only
  rw [h3, show b + i + 2 = b + i' by omega]
theorem Seg.lsg {S X : ByteArray} {a b L i i' y : Nat} (h : Seg S X a b L) (hd : lsg S (a + i) = .inr (y, a + i')) (hi : i' ≤ L) : lsg X (b + i) = .inr (y, b + i') := by
  have hok := lsg_ok hd
  have e0 := h i (by omega)
  unfold Proofs.YtkofhmmnlapnnaaGreatDoor.lsg at hd ⊢
  rw [e0]
  cases hb : bt S (a + i) with
  | none => rw [hb] at hd; cases hd
  | some x =>
    rw [hb] at hd
    simp only at hd ⊢
    split at hd
    · cases hd
    · rename_i hp
      rw [if_neg hp]
      split at hd
      · rename_i hx
        rw [if_pos hx]
        have hok2 := lesc_ok hd
        have e1 := h (i + 1) (by omega)
        unfold lesc at hd ⊢
        rw [show b + i + 1 = b + (i + 1) by omega, e1, show a + (i + 1) = a + i + 1 by omega]
        cases hb2 : bt S (a + i + 1) with
        | none => rw [hb2] at hd; cases hd
        | some z =>
          rw [hb2] at hd
          simp only at hd ⊢
          cases hv : lescv z with
          | some v =>
            rw [hv] at hd
            simp only [Sum.inr.injEq, Prod.mk.injEq] at hd ⊢
            omega
          | none =>
            rw [hv] at hd
            simp only at hd ⊢
            split at hd
            · rename_i hz
              rw [if_pos hz]
              rw [show b + (i + 1) + 1 = b + (i + 2) by omega]
              exact h.digs (by rw [show a + (i + 2) = a + i + 1 + 1 by omega]; exact hd) hi
            · cases hd
      · rename_i hx
        rw [if_neg hx]
        simp only [Sum.inr.injEq, Prod.mk.injEq] at hd ⊢
        omega
theorem Seg.llit {S X : ByteArray} {a b L q p p' i' : Nat} {l : List Nat} (h : Seg S X a b L) (hi : i' ≤ L) : ∀ (f i : Nat) (acc : List Nat), acc.length ≤ 255 → (∀ x ∈ acc, x < 256) →
    llit S q p f (a + i) acc = .inr (l, a + i') → ll X q p' (b + i) acc = .inr (l, b + i')
  | 0, i, acc, _, _, hd => by rw [Proofs.YtkofhmmnlapnnaaGreatDoor.llit] at hd; cases hd
  | f + 1, i, acc, ha, hx, hd => by
    have hok := llit_ok S q p _ _ _ _ _ hd hx ha
    have e0 := h i (by omega)
    rw [Proofs.YtkofhmmnlapnnaaGreatDoor.llit] at hd
    split at hd
    · rename_i hb
      simp only [Sum.inr.injEq, Prod.mk.injEq] at hd
      rw [ll_end (by rw [e0]; exact hb), hd.1, show b + i + 1 = b + i' by omega]
    · rename_i hb
      split at hd
      · cases hd
      · rename_i y n hs
        have hok1 := lsg_ok hs
        obtain ⟨i1, rfl⟩ : ∃ i1, n = a + i1 := ⟨n - a, by omega⟩
        split at hd
        · cases hd
        · rename_i h5
          have hx2 : ∀ x ∈ acc ++ [y], x < 256 := fun x hx' => by
            rcases List.mem_append.1 hx' with h | h
            · exact hx x h
            · simp at h; omega
          have hok2 := llit_ok S q p _ _ _ _ _ hd hx2 (by simp; omega)
          rw [ll_on (by rw [e0]; exact hb) (h.lsg hs (by omega)) h5]
          exact Seg.llit h hi f i1 (acc ++ [y]) (by simp; omega) hx2 hd
theorem Seg.ll {S X : ByteArray} {a b L q p p' i i' : Nat} {l : List Nat} (h : Seg S X a b L) (hi : i' ≤ L) (hd : ll S q p (a + i) [] = .inr (l, a + i')) : ll X q p' (b + i) [] = .inr (l, b + i') :=
  Seg.llit h hi _ i [] (by simp) (fun x hx => by simp at hx) hd
/-- Two texts that begin alike. -/
def Agr (T V : ByteArray) (M : Nat) : Prop := ∀ j, j < M → bt V j = bt T j
theorem Agr.digs {T V : ByteArray} {M k y n : Nat} (h : Agr T V M) (hd : digs T k = .inr (y, n)) (hn : n ≤ M) : digs V k = .inr (y, n) := by
  have := Seg.digs (S := T) (X := V) (a := 0) (b := 0) (L := M) (i := k) (i' := n) (y := y) (fun j hj => by simpa using h j hj) (by simpa using hd) hn
  simpa using this
theorem Agr.sg {T V : ByteArray} {M k y n : Nat} (h : Agr T V M) (hd : sg T k = .inr (y, n)) (hn : n ≤ M) : sg V k = .inr (y, n) := by
  have hok := sg_ok hd
  have e0 := h k (by omega)
  unfold Proofs.YtkofhmmnlapnnaaGreatDoor.sg at hd ⊢
  rw [e0]
  cases hb : bt T k with
  | none => rw [hb] at hd; cases hd
  | some x =>
    rw [hb] at hd
    simp only at hd ⊢
    split at hd
    · rename_i hx
      rw [if_pos hx]
      have hok2 := esc_ok hd
      have e1 := h (k + 1) (by omega)
      unfold esc at hd ⊢
      rw [e1]
      cases hb2 : bt T (k + 1) with
      | none => rw [hb2] at hd; cases hd
      | some z =>
        rw [hb2] at hd
        simp only at hd ⊢
        cases hv : escv z with
        | some v => rw [hv] at hd; exact hd
        | none =>
          rw [hv] at hd
          simp only at hd ⊢
          split at hd
          · rename_i hz
            rw [if_pos hz]
            exact h.digs hd hn
          · cases hd
    · rename_i hx
      rw [if_neg hx]
      split at hd
      · rename_i hp
        rw [if_pos hp]
        exact hd
      · cases hd
theorem Agr.mbr {T V : ByteArray} {M k y n : Nat} (h : Agr T V M) (hd : mbr T k = .inr (y, n)) (hn : n < M) : mbr V k = .inr (y, n) := by
  have hok := mbr_ok hd
  unfold Proofs.YtkofhmmnlapnnaaGreatDoor.mbr at hd ⊢
  cases hs : Proofs.YtkofhmmnlapnnaaGreatDoor.sg T k with
  | inl e => rw [hs] at hd; cases hd
  | inr r =>
    obtain ⟨lo, m⟩ := r
    have hok1 := sg_ok hs
    rw [hs] at hd
    simp only at hd
    split at hd
    · rename_i h45
      have hm : m < n := by
        split at hd
        · cases hd
        · rename_i hi m2 hs2
          have := sg_ok hs2
          split at hd
          · cases hd
          · simp only [Sum.inr.injEq, Prod.mk.injEq] at hd; omega
      rw [h.sg hs (by omega)]
      simp only
      rw [if_pos (by rw [h m (by omega)]; exact h45)]
      cases hs2 : Proofs.YtkofhmmnlapnnaaGreatDoor.sg T (m + 1) with
      | inl e => rw [hs2] at hd; cases hd
      | inr r2 =>
        obtain ⟨hi, m2⟩ := r2
        rw [hs2] at hd
        simp only at hd
        split at hd
        · cases hd
        · rename_i hle
          have hd2 := hd
          simp only [Sum.inr.injEq, Prod.mk.injEq] at hd2
          rw [h.sg hs2 (by omega)]
          simp only
          rw [if_neg hle]
          exact hd
    · rename_i h45
      have hd2 := hd
      simp only [Sum.inr.injEq, Prod.mk.injEq] at hd2
      rw [h.sg hs (by omega)]
      simp only
      rw [if_neg (by rw [h m (by omega)]; exact h45)]
      exact hd
theorem Agr.mems {T V : ByteArray} {M C n : Nat} (h : Agr T V M) (hn : n ≤ M) : ∀ (f k acc : Nat), mems T f k acc = .inr (C, n) → k < n ∧ n ≤ T.size ∧ mm V k acc = .inr (C, n)
  | 0, k, acc, hd => by rw [Proofs.YtkofhmmnlapnnaaGreatDoor.mems] at hd; cases hd
  | f + 1, k, acc, hd => by
    rw [Proofs.YtkofhmmnlapnnaaGreatDoor.mems] at hd
    split at hd
    · rename_i hb
      have h1 := (bt_lt hb).1
      have hd2 := hd
      simp only [Sum.inr.injEq, Prod.mk.injEq] at hd2
      refine ⟨by omega, by omega, ?_⟩
      rw [mm_eq, if_pos (by rw [h k (by omega)]; exact hb)]
      exact hd
    · rename_i hb
      cases hm : Proofs.YtkofhmmnlapnnaaGreatDoor.mbr T k with
      | inl e => rw [hm] at hd; cases hd
      | inr r =>
        obtain ⟨Y, m⟩ := r
        rw [hm] at hd
        have hok := mbr_ok hm
        obtain ⟨h1, h2, h3⟩ := Agr.mems h hn f m _ hd
        refine ⟨by omega, h2, ?_⟩
        rw [mm_eq, if_neg (by rw [h k (by omega)]; exact hb), h.mbr hm (by omega)]
        exact h3
theorem Agr.cls {T V : ByteArray} {M C n : Nat} (h : Agr T V M) (hd : clsP T = .inr (C, n)) (hn : n ≤ M) : clsP V = .inr (C, n) := by
  rw [clsP_ng] at hd ⊢
  split at hd
  · rename_i h0
    split at hd
    · rename_i h1
      cases hm : mm T 2 0 with
      | inl e => rw [hm] at hd; cases hd
      | inr r =>
        obtain ⟨D, m⟩ := r
        rw [hm] at hd
        have hd2 := hd
        simp only [ng, Sum.inr.injEq, Prod.mk.injEq] at hd2
        obtain ⟨a1, a2, a3⟩ := h.mems (n := m) (by omega) _ _ _ hm
        rw [if_pos (by rw [h 0 (by omega)]; exact h0), if_pos (by rw [h 1 (by omega)]; exact h1), a3]
        exact hd
    · rename_i h1
      obtain ⟨a1, a2, a3⟩ := h.mems hn _ _ _ hd
      rw [if_pos (by rw [h 0 (by omega)]; exact h0), if_neg (by rw [h 1 (by omega)]; exact h1), a3]
  · cases hd
/-- No byte of a name. -/
def Stop (X : ByteArray) (k : Nat) : Prop := bt X k = some 10 ∨ bt X k = none
theorem Stop.ne {X : ByteArray} {k : Nat} (h : Stop X k) : ne X k = k := by
  rcases h with h | h
  · rw [ne_eq h]; rfl
  · exact ne_none h
theorem Seg.ne {S X : ByteArray} {a b L : Nat} (h : Seg S X a b L) (hs : Stop X (b + L)) : ∀ (f i i' : Nat), L - i = f → i ≤ L → i' ≤ L → ne S (a + i) = a + i' → ne X (b + i) = b + i'
  | 0, i, i', hf, hi, hi', hd => by
    obtain rfl : i = L := by omega
    have : i' = i := by
      have := (nend_le S (S.size - (a + i)) (a + i)).1
      have h2 : a + i ≤ Proofs.YtkofhmmnlapnnaaGreatDoor.ne S (a + i) := this
      omega
    rw [hs.ne, this]
  | f + 1, i, i', hf, hi, hi', hd => by
    have e0 := h i (by omega)
    cases hb : bt S (a + i) with
    | none =>
      rw [ne_none hb] at hd
      rw [ne_none (by rw [e0]; exact hb)]
      omega
    | some x =>
      rw [ne_eq hb] at hd
      rw [ne_eq (by rw [e0]; exact hb)]
      cases hx : (letB x || digB x) with
      | false => rw [hx] at hd; simp at hd ⊢; omega
      | true =>
        rw [hx] at hd
        simp only [if_true] at hd ⊢
        exact Seg.ne h hs f (i + 1) i' (by omega) (by omega) hi' hd
theorem Seg.text {S X : ByteArray} {a b L i i' : Nat} (h : Seg S X a b L) (hi : i' ≤ L) (h1 : a + i' ≤ S.size) (h2 : b + i' ≤ X.size) : X.extract (b + i) (b + i') = S.extract (a + i) (a + i') := by
  apply ext_bt
  intro j
  rw [bt_ext X _ _ _ h2, bt_ext S _ _ _ h1]
  by_cases hj : i + j < i'
  · rw [if_pos (by omega), if_pos (by omega), show b + i + j = b + (i + j) by omega, h (i + j) (by omega), show a + (i + j) = a + i + j by omega]
  · rw [if_neg (by omega), if_neg (by omega)]
/-- A token that stands in another text too. -/
theorem Seg.tok {S X : ByteArray} {a b L i i' x : Nat} {t : Tok} (h : Seg S X a b L) (hs : Stop X (b + L)) (hX : b + L ≤ X.size) (hb : bt S (a + i) = some x) (ht : tokAt S (a + i) x = .inr (t, a + i')) (hi : i' ≤ L) :
    tokAt X (b + i) x = .inr ((t.1, t.2.1, t.2.2.1, b + i), b + i') ∧ bt X (b + i) = some x := by
  have hok := tokAt_ok hb ht
  have e0 := h i (by omega)
  refine ⟨?_, by rw [e0]; exact hb⟩
  unfold tokAt at ht ⊢
  split at ht
  · rename_i hl
    rw [if_pos hl]
    split at ht
    · cases ht
    · rename_i h32
      simp only [Sum.inr.injEq, Prod.mk.injEq] at ht
      obtain ⟨rfl, hn⟩ := ht
      have hne := h.ne hs _ i i' rfl (by omega) hi hn
      rw [hne, if_neg (by omega), h.text hi (by omega) (by omega), hn]
  · rename_i hl
    rw [if_neg hl]
    split at ht
    · rename_i hq
      rw [if_pos hq]
      cases hm : Proofs.YtkofhmmnlapnnaaGreatDoor.ll S x (a + i) (a + i + 1) [] with
      | inl c => rw [hm] at ht; cases ht
      | inr r =>
        obtain ⟨l, n⟩ := r
        rw [hm] at ht
        simp only [Sum.inr.injEq, Prod.mk.injEq] at ht
        obtain ⟨rfl, rfl⟩ := ht
        have := h.ll (p := a + i) (p' := b + i) (q := x) (i := i + 1) hi hm
        rw [show b + i + 1 = b + (i + 1) by omega, this]
    · rename_i hq
      rw [if_neg hq]
      split at ht
      · rename_i hc
        rw [if_pos hc]
        cases hm : clsP (S.extract (a + i) S.size) with
        | inl c => rw [hm] at ht; cases ht
        | inr r =>
          obtain ⟨C, n⟩ := r
          rw [hm] at ht
          simp only [Sum.inr.injEq, Prod.mk.injEq] at ht
          obtain ⟨rfl, hn⟩ := ht
          have hg : Agr (S.extract (a + i) S.size) (X.extract (b + i) X.size) n := fun j hj => by
            rw [bt_ext X _ _ _ (Nat.le_refl _), bt_ext S _ _ _ (Nat.le_refl _), if_pos (by omega), if_pos (by omega), show b + i + j = b + (i + j) by omega, h (i + j) (by omega), show a + (i + j) = a + i + j by omega]
          rw [hg.cls hm (Nat.le_refl _)]
          simp only [Sum.inr.injEq, Prod.mk.injEq, true_and]
          omega
      · rename_i hc
        rw [if_neg hc]
        split at ht
        · rename_i ha
          simp only [Sum.inr.injEq, Prod.mk.injEq] at ht
          obtain ⟨rfl, hn⟩ := ht
          have e1 := h (i + 1) (by omega)
          have : arB X (b + i) = true := by
            unfold arB at ha ⊢
            rw [e0, show b + i + 1 = b + (i + 1) by omega, e1, show a + (i + 1) = a + i + 1 by omega]
            exact ha
          rw [if_pos this]
          simp only [Sum.inr.injEq, Prod.mk.injEq, true_and]
          omega
        · rename_i ha
          split at ht
          · rename_i hmk
            have : arB X (b + i) = false := by
              unfold arB
              rw [e0, hb]
              have : x ≠ 60 := fun e => by rw [e] at hmk; exact absurd hmk (by decide)
              simp [this]
            rw [if_neg (by rw [this]; simp), if_pos hmk]
            simp only [Sum.inr.injEq, Prod.mk.injEq] at ht
            obtain ⟨rfl, hn⟩ := ht
            simp only [Sum.inr.injEq, Prod.mk.injEq, true_and]
            omega
          · cases ht
theorem le_none {S : ByteArray} {k : Nat} (h : bt S k = none) : le S k = k := by
  have := bt_none h
  unfold le
  rw [show S.size - k = 0 by omega, lnd]
theorem le_eq {S : ByteArray} {k x : Nat} (h : bt S k = some x) : le S k = if x = 10 then k else le S (k + 1) := by
  rw [le_end (bt_lt h).1, h]
  simp
theorem Stop.le {X : ByteArray} {k : Nat} (h : Stop X k) : le X k = k := by
  rcases h with h | h
  · rw [le_eq h]; rfl
  · exact le_none h
theorem Seg.le {S X : ByteArray} {a b L : Nat} (h : Seg S X a b L) (hs : Stop X (b + L)) (hL : a + L ≤ S.size) : ∀ (f i i' : Nat), L - i = f → i ≤ L → i' ≤ L → le S (a + i) = a + i' → le X (b + i) = b + i'
  | 0, i, i', hf, hi, hi', hd => by
    obtain rfl : i = L := by omega
    have := (le_le (S := S) (k := a + i) hL).1
    rw [hs.le]; omega
  | f + 1, i, i', hf, hi, hi', hd => by
    have e0 := h i (by omega)
    cases hb : bt S (a + i) with
    | none => have := bt_none hb; omega
    | some x =>
      rw [le_eq hb] at hd
      rw [le_eq (by rw [e0]; exact hb)]
      by_cases hx : x = 10
      · rw [if_pos hx] at hd ⊢; omega
      · rw [if_neg hx] at hd ⊢
        exact Seg.le h hs hL f (i + 1) i' (by omega) (by omega) hi' hd
theorem Seg.sb {S X : ByteArray} {a b L : Nat} (h : Seg S X a b L) (hs : Stop X (b + L)) (hL : a + L ≤ S.size) : ∀ (f i m : Nat), L - i ≤ f → i ≤ L → m ≤ L → sb S (a + i) = a + m → sb X (b + i) = sb X (b + m)
  | 0, i, m, hf, hi, hm, hd => by
    have := (sb_ge (S := S) (n := a + i) (by omega)).1
    obtain rfl : i = m := by omega
    rfl
  | f + 1, i, m, hf, hi, hm, hd => by
    have hge := (sb_ge (S := S) (n := a + i) (by omega)).1
    by_cases hiL : i = L
    · obtain rfl : i = m := by omega
      rfl
    · have e0 := h i (by omega)
      cases hb : bt S (a + i) with
      | none => have := bt_none hb; omega
      | some x =>
        rw [sb_eq hb] at hd
        rw [sb_eq (by rw [e0]; exact hb)]
        cases hx : blB x with
        | true =>
          rw [hx] at hd
          simp only [if_true] at hd ⊢
          exact Seg.sb h hs hL f (i + 1) m (by omega) (by omega) hm hd
        | false =>
          rw [hx] at hd
          simp only [Bool.false_eq_true, if_false] at hd ⊢
          by_cases h35 : x = 35
          · rw [if_pos h35] at hd ⊢
            have hgt := le_gt hb (by omega)
            have hle := (le_le (S := S) (k := a + i) (by omega)).2
            have hge2 := (sb_ge (S := S) hle).1
            obtain ⟨i1, hi1⟩ : ∃ i1, Proofs.YtkofhmmnlapnnaaGreatDoor.le S (a + i) = a + i1 := ⟨Proofs.YtkofhmmnlapnnaaGreatDoor.le S (a + i) - a, by omega⟩
            rw [hi1] at hd hgt hge2
            rw [h.le hs hL _ i i1 rfl hi (by omega) hi1]
            exact Seg.sb h hs hL f i1 m (by omega) (by omega) hm hd
          · rw [if_neg h35] at hd ⊢
            obtain rfl : i = m := by omega
            rw [sb_eq (by rw [e0]; exact hb), hx]
            simp [h35]
theorem sb_fix {S : ByteArray} : ∀ (f k x : Nat), S.size - k ≤ f → k ≤ S.size → bt S (sb S k) = some x → blB x = false ∧ x ≠ 35
  | 0, k, x, hf, hk, hb => by rw [sb_none (bt_ge (by omega)), bt_ge (by omega)] at hb; cases hb
  | f + 1, k, x, hf, hk, hb => by
    cases hy : bt S k with
    | none => rw [sb_none hy, hy] at hb; cases hb
    | some y =>
      have hlt := (bt_lt hy).1
      rw [sb_eq hy] at hb
      cases h1 : blB y with
      | true => rw [h1] at hb; exact sb_fix f (k + 1) x (by omega) (by omega) hb
      | false =>
        rw [h1] at hb
        simp only [Bool.false_eq_true, if_false] at hb
        by_cases h2 : y = 35
        · rw [if_pos h2] at hb
          have hgt := le_gt hy (by omega)
          exact sb_fix f (le S k) x (by omega) (le_le hk).2 hb
        · rw [if_neg h2, hy] at hb
          cases hb
          exact ⟨h1, h2⟩
theorem sb_at {X : ByteArray} {k x : Nat} (hb : bt X k = some x) (h1 : blB x = false) (h2 : x ≠ 35) : sb X k = k := by
  rw [sb_eq hb, h1]
  simp [h2]
/-- A token with its place moved. -/
def sh (a b : Nat) (t : Tok) : Tok := (t.1, t.2.1, t.2.2.1, t.2.2.2 - a + b)
theorem lift_nil (r : Tr) : lift [] r = r := by cases r <;> simp [lift]
/-- All tokens of a text, in another one that goes on behind them with a new line or ends there. -/
theorem seg_toks {S X : ByteArray} {a b L : Nat} (h : Seg S X a b L) (hs : Stop X (b + L)) (hX : b + L ≤ X.size) (hL : a + L = S.size) : ∀ (f i : Nat) (m : List Tok), L - i ≤ f → i ≤ L →
    tks S (sb S (a + i)) [] = .inr m → tks X (sb X (b + i)) [] = lift (m.map (sh a b)) (tks X (sb X (b + L)) []) := by
  intro f
  induction f with
  | zero =>
    intro i m hf hi hd
    obtain rfl : i = L := by omega
    rw [sb_none (bt_ge (by omega)), tks_end (by omega)] at hd
    cases hd
    rw [List.map_nil, lift_nil]
  | succ f ih =>
    intro i m hf hi hd
    have hge := sb_ge (S := S) (n := a + i) (by omega)
    obtain ⟨i1, hi1⟩ : ∃ i1, Proofs.YtkofhmmnlapnnaaGreatDoor.sb S (a + i) = a + i1 := ⟨Proofs.YtkofhmmnlapnnaaGreatDoor.sb S (a + i) - a, by omega⟩
    rw [h.sb hs (by omega) _ i i1 (Nat.le_refl _) hi (by omega) hi1]
    rw [hi1] at hd hge
    cases hb : bt S (a + i1) with
    | none =>
      have hn := bt_none hb
      obtain rfl : i1 = L := by omega
      rw [tks_end (by omega)] at hd
      cases hd
      rw [List.map_nil, lift_nil]
    | some x =>
      have hlt := (bt_lt hb).1
      have hfx := sb_fix (S := S) _ (a + i) x (Nat.le_refl _) (by omega) (by rw [hi1]; exact hb)
      cases ht : tokAt S (a + i1) x with
      | inl c => rw [tks_bad hb ht] at hd; cases hd
      | inr r =>
        obtain ⟨t, n⟩ := r
        have hok := tokAt_ok hb ht
        obtain ⟨i2, rfl⟩ : ∃ i2, n = a + i2 := ⟨n - a, by omega⟩
        rw [tks_on hb ht, tks_acc] at hd
        cases hm : tks S (Proofs.YtkofhmmnlapnnaaGreatDoor.sb S (a + i2)) [] with
        | inl c => rw [hm] at hd; cases hd
        | inr m' =>
          rw [hm] at hd
          simp only [lift, List.nil_append, List.singleton_append, Sum.inr.injEq] at hd
          subst hd
          obtain ⟨k1, k2⟩ := h.tok hs hX hb ht (by omega)
          rw [sb_at k2 hfx.1 hfx.2, tks_on k2 k1, tks_acc, ih i2 m' (by omega) (by omega) hm, lift_lift, List.map_cons, List.nil_append, List.singleton_append]
          congr 2
          unfold sh
          rw [hok.2.2.2.1, show a + i1 - a + b = b + i1 by omega]
theorem map_sh0 (m : List Tok) : m.map (sh 0 0) = m := by
  have : sh 0 0 = id := by funext t; simp [sh]
  rw [this, List.map_id]
/-- What stands behind a new line. -/
theorem toks_front {S X : ByteArray} {m : List Tok} (h : Seg S X 0 0 S.size) (h10 : bt X S.size = some 10) (hm : tks S (sb S 0) [] = .inr m) : tks X (sb X 0) [] = lift m (tks X (sb X (S.size + 1)) []) := by
  have hX := (bt_lt h10).1
  have := seg_toks h (.inl (by rw [Nat.zero_add]; exact h10)) (by omega) (by omega) _ 0 m (Nat.le_refl _) (Nat.zero_le _) hm
  rw [Nat.add_zero, Nat.zero_add, map_sh0, sb_eq h10] at this
  exact this
/-- Two sources, one behind the other in lines of their own. -/
theorem tkS_join {S U X : ByteArray} {m n : List Tok} (h1 : Seg S X 0 0 S.size) (h10 : bt X S.size = some 10) (h2 : Seg U X 0 (S.size + 1) U.size) (hX : X.size = S.size + 1 + U.size) (hm : tks S (sb S 0) [] = .inr m) (hn : tks U (sb U 0) [] = .inr n) :
    tkS X = .inr (m ++ n.map (sh 0 (S.size + 1)) ++ [(6, { data := #[] }, 0, X.size)]) := by
  have e1 := toks_front h1 h10 hm
  have e2 := seg_toks h2 (.inr (bt_ge (by omega))) (by omega) (by omega) _ 0 n (Nat.le_refl _) (Nat.zero_le _) hn
  rw [Nat.add_zero, show S.size + 1 + U.size = X.size by omega, sb_none (bt_ge (Nat.le_refl _)), tks_end (Nat.le_refl _)] at e2
  unfold tkS
  rw [e1, e2]
  simp [lift, tkE]
theorem le_all {X : ByteArray} : ∀ (f k : Nat), X.size - k = f → k ≤ X.size → (∀ i, k ≤ i → ¬ bt X i = some 10) → le X k = X.size
  | 0, k, hf, hk, h => by rw [le_none (bt_ge (by omega))]; omega
  | f + 1, k, hf, hk, h => by
    cases hb : bt X k with
    | none => have := bt_none hb; omega
    | some x =>
      rw [le_eq hb, if_neg (fun e => h k (Nat.le_refl _) (by rw [hb, e]))]
      exact le_all f (k + 1) (by omega) (by omega) (fun i hi => h i (by omega))
/-- A note at the end. -/
theorem tkS_note {S X : ByteArray} {m : List Tok} (h1 : Seg S X 0 0 S.size) (h10 : bt X S.size = some 10) (h35 : bt X (S.size + 1) = some 35) (hno : ∀ i, S.size + 1 ≤ i → ¬ bt X i = some 10) (hm : tks S (sb S 0) [] = .inr m) :
    tkS X = .inr (m ++ [(6, { data := #[] }, 0, X.size)]) := by
  have e1 := toks_front h1 h10 hm
  have hlt := (bt_lt h35).1
  have e2 : sb X (S.size + 1) = X.size := by
    rw [sb_eq h35, le_all _ (S.size + 1) rfl (by omega) hno, sb_none (bt_ge (Nat.le_refl _))]
    rfl
  rw [e2, tks_end (Nat.le_refl _)] at e1
  unfold tkS
  rw [e1]
  simp [lift, tkE]
theorem Sm_mk {kd : Nat} {T : ByteArray} {C p p' : Nat} {s s' : List Nd} (h : SmL s s') (hl : s.length ≤ 1000000) : Sm (.mk kd T C s p) (.mk kd T C s' p') := by
  rw [Sm]
  exact ⟨rfl, rfl, rfl, h, hl⟩
theorem SmL_nil : SmL [] [] := by rw [SmL]; trivial
theorem SmL_one {a b : Nd} (h : Sm a b) : SmL [a] [b] := by rw [SmL]; exact ⟨h, SmL_nil⟩
theorem SmL_snoc : ∀ {s t : List Nd} {a b : Nd}, SmL s t → Sm a b → SmL (s ++ [a]) (t ++ [b])
  | [], [], a, b, _, h => SmL_one h
  | [], _ :: _, _, _, h, _ => by simp [SmL] at h
  | _ :: _, [], _, _, h, _ => by simp [SmL] at h
  | x :: s, y :: t, a, b, h, h2 => by
    rw [SmL] at h
    rw [List.cons_append, List.cons_append, SmL]
    exact ⟨h.1, SmL_snoc h.2 h2⟩
theorem Sm_join (kd : Nat) : ∀ {s t : List Nd}, SmL s t → s.length ≤ 1000000 → s ≠ [] → Sm (joinN kd s) (joinN kd t)
  | [], _, _, _, h => absurd rfl h
  | _ :: _, [], h, _, _ => by simp [SmL] at h
  | [a], [b], h, _, _ => by rw [SmL] at h; exact h.1
  | [a], b :: c :: t, h, _, _ => by simp [SmL] at h
  | a :: x :: s, [b], h, _, _ => by simp [SmL] at h
  | a :: x :: s, b :: y :: t, h, hl, _ => Sm_mk h hl
/-- What of a token is no place. -/
def tk3 (t : Tok) : Nat × ByteArray × Nat := (t.1, t.2.1, t.2.2.1)
/-- The row L2 is L1 with one more token ahead, from the third on; where L1 ends, L2 shuts a parenthesis. -/
structure Lk (L1 L2 : List Tok) (e : Nat) : Prop where
  low : 2 ≤ e
  big : e ≤ 10000
  same : ∀ k, 2 ≤ k → k < e → tk3 (gL L2 (k + 1)) = tk3 (gL L1 k)
  end1 : (gL L1 e).1 = 6
  end2 : tk3 (gL L2 (e + 1)) = (5, { data := #[41] }, 0)
def Rel (e : Nat) (r1 r2 : Pr) : Prop := ∀ n1 k1 n2 k2, r1 = .inr (n1, k1) → r2 = .inr (n2, k2) → k2 = k1 + 1 ∧ 2 ≤ k1 ∧ k1 ≤ e ∧ Sm n1 n2
theorem sgT_eq {t u : Tok} (h : tk3 u = tk3 t) : sgT u = sgT t := by
  unfold tk3 at h
  simp only [Prod.mk.injEq] at h
  unfold sgT
  rw [h.1, h.2.1]
section
variable {L1 L2 : List Tok} {e : Nat}
theorem Lk.kd (h : Lk L1 L2 e) {k : Nat} (h2 : 2 ≤ k) (hk : k < e) : (gL L2 (k + 1)).1 = (gL L1 k).1 ∧ (gL L2 (k + 1)).2.1 = (gL L1 k).2.1 ∧ (gL L2 (k + 1)).2.2.1 = (gL L1 k).2.2.1 := by
  have := h.same k h2 hk
  unfold tk3 at this
  simp only [Prod.mk.injEq] at this
  exact this
theorem Lk.sg1 (h : Lk L1 L2 e) : sgT (gL L1 e) = { data := #[] } := by unfold sgT; rw [h.end1]; rfl
theorem Lk.sg2 (h : Lk L1 L2 e) : sgT (gL L2 (e + 1)) = { data := #[41] } := by
  have := h.end2
  unfold tk3 at this
  simp only [Prod.mk.injEq] at this
  unfold sgT
  rw [if_pos this.1]
  exact this.2.1
/-- A sign that is neither none nor a shut parenthesis stands in both or in none. -/
theorem Lk.sgn (h : Lk L1 L2 e) {k : Nat} (h2 : 2 ≤ k) (hk : k ≤ e) {x : UInt8} (hx : x ≠ 41) : (sgT (gL L2 (k + 1)) = { data := #[x] }) ↔ (sgT (gL L1 k) = { data := #[x] }) := by
  rcases Nat.lt_or_ge k e with hl | hl
  · rw [sgT_eq (h.same k h2 hl)]
  · have : k = e := by omega
    subst this
    rw [h.sg1, h.sg2]
    constructor
    · intro he
      have := congrArg (fun a : ByteArray => a.data.toList) he
      simp at this
      exact absurd this.symm hx
    · intro he
      have := congrArg (fun a : ByteArray => a.data.size) he
      simp at this
theorem Lk.rp (h : Lk L1 L2 e) {k : Nat} (h2 : 2 ≤ k) (hk : k ≤ e) : rpK (sgT (gL L2 (k + 1))) = rpK (sgT (gL L1 k)) := by
  unfold rpK
  simp only [h.sgn h2 hk (x := 63) (by decide), h.sgn h2 hk (x := 42) (by decide), h.sgn h2 hk (x := 43) (by decide)]
theorem hdB_gL (L : List Tok) (k : Nat) (h : k + 1 < L.length) : hdB L k = ((gL L k).1 == 1 && (gL L (k + 1)).1 == 2) := by
  unfold hdB
  rw [gL_eq (show k < L.length by omega), gL_eq h, List.getElem?_eq_getElem (show k < L.length by omega), List.getElem?_eq_getElem h]
theorem Lk.hd (h : Lk L1 L2 e) (g1 : e + 1 = L1.length) (g2 : e + 1 < L2.length) {k : Nat} (h2 : 2 ≤ k) (hk : k < e) : hdB L2 (k + 1) = hdB L1 k := by
  rw [hdB_gL L1 k (by omega), hdB_gL L2 (k + 1) (by omega), (h.kd h2 hk).1]
  congr 1
  rcases Nat.lt_or_ge (k + 1) e with hl | hl
  · rw [(h.kd (k := k + 1) (by omega) hl).1]
  · have hke : k + 1 = e := by omega
    rw [hke, h.end1]
    have := h.end2
    unfold tk3 at this
    simp only [Prod.mk.injEq] at this
    rw [this.1]
    rfl
theorem Lk.pt (h : Lk L1 L2 e) (g1 : e + 1 = L1.length) (g2 : e + 1 < L2.length) {k : Nat} (h2 : 2 ≤ k) (hk : k ≤ e) : ptB L2 (k + 1) (gL L2 (k + 1)) = ptB L1 k (gL L1 k) := by
  rcases Nat.lt_or_ge k e with hl | hl
  · unfold ptB
    rw [(h.kd h2 hl).1, (h.kd h2 hl).2.1, h.hd g1 g2 h2 hl]
  · have : k = e := by omega
    subst this
    have hq := h.end2
    unfold tk3 at hq
    simp only [Prod.mk.injEq] at hq
    unfold ptB
    rw [h.end1, hq.1, hq.2.1]
    rfl
theorem one_rel (h : Lk L1 L2 e) (g1 : e + 1 = L1.length) (g2 : e + 1 < L2.length) {i1 i2 : Nat → Pr} (hi : ∀ k, 2 ≤ k → k < e → Rel e (i1 k) (i2 (k + 1))) {k : Nat} (h2 : 2 ≤ k) (hk : k ≤ e) : Rel e (oneS L1 i1 k) (oneS L2 i2 (k + 1)) := by
  rcases Nat.lt_or_ge k e with hl | hl
  · have q := h.kd h2 hl
    have s46 := h.sgn h2 hk (x := 46) (by decide)
    have s40 := h.sgn h2 hk (x := 40) (by decide)
    unfold oneS
    simp only [q.1, q.2.1, q.2.2, h.hd g1 g2 h2 hl, s46, s40]
    split
    · intro n1 k1 n2 k2 e1 e2
      simp only [Sum.inr.injEq, Prod.mk.injEq] at e1 e2
      refine ⟨by omega, by omega, by omega, ?_⟩
      rw [← e1.1, ← e2.1]
      exact Sm_mk SmL_nil (by simp)
    · split
      · intro n1 k1 n2 k2 e1 e2
        simp only [Sum.inr.injEq, Prod.mk.injEq] at e1 e2
        refine ⟨by omega, by omega, by omega, ?_⟩
        rw [← e1.1, ← e2.1]
        exact Sm_mk SmL_nil (by simp)
      · split
        · intro n1 k1 n2 k2 e1 e2
          simp only [Sum.inr.injEq, Prod.mk.injEq] at e1 e2
          refine ⟨by omega, by omega, by omega, ?_⟩
          rw [← e1.1, ← e2.1]
          exact Sm_mk SmL_nil (by simp)
        · split
          · intro n1 k1 n2 k2 e1 e2
            simp only [Sum.inr.injEq, Prod.mk.injEq] at e1 e2
            refine ⟨by omega, by omega, by omega, ?_⟩
            rw [← e1.1, ← e2.1]
            exact Sm_mk SmL_nil (by simp)
          · split
            · exact hi k h2 hl
            · intro n1 k1 n2 k2 e1 e2
              cases e1
  · have hke : k = e := by omega
    subst hke
    intro n1 k1 n2 k2 e1 e2
    unfold oneS at e1
    rw [h.end1, h.sg1] at e1
    simp at e1
theorem rep_rel (h : Lk L1 L2 e) {r1 r2 : Pr} (hr : Rel e r1 r2) : Rel e (repE L1 r1) (repE L2 r2) := by
  cases r1 with
  | inl c => intro n1 k1 n2 k2 e1 e2; cases e1
  | inr q1 =>
    cases r2 with
    | inl c => intro n1 k1 n2 k2 e1 e2; cases e2
    | inr q2 =>
      obtain ⟨m1, j1⟩ := q1
      obtain ⟨m2, j2⟩ := q2
      obtain ⟨hj, hlo, hhi, hs⟩ := hr m1 j1 m2 j2 rfl rfl
      subst hj
      unfold repE
      simp only [h.rp hlo hhi]
      split
      · exact hr
      · rename_i hne
        have hlt : j1 < e := by
          rcases Nat.lt_or_ge j1 e with hl | hl
          · exact hl
          · have : j1 = e := by omega
            subst this
            rw [h.sg1] at hne
            exact absurd (by decide) hne
        intro n1 k1 n2 k2 e1 e2
        simp only [Sum.inr.injEq, Prod.mk.injEq] at e1 e2
        refine ⟨by omega, by omega, by omega, ?_⟩
        rw [← e1.1, ← e2.1]
        exact Sm_mk (SmL_one hs) (by simp)
theorem ov_rel {kd p p' : Nat} {r1 r2 : Pr} (hr : Rel e r1 r2) : Rel e (ovS kd p r1) (ovS kd p' r2) := by
  cases r1 with
  | inl c => intro n1 k1 n2 k2 e1 e2; cases e1
  | inr q1 =>
    cases r2 with
    | inl c => intro n1 k1 n2 k2 e1 e2; cases e2
    | inr q2 =>
      obtain ⟨m1, j1⟩ := q1
      obtain ⟨m2, j2⟩ := q2
      obtain ⟨hj, hlo, hhi, hs⟩ := hr m1 j1 m2 j2 rfl rfl
      intro n1 k1 n2 k2 e1 e2
      simp only [ovS, Sum.inr.injEq, Prod.mk.injEq] at e1 e2
      refine ⟨by omega, by omega, by omega, ?_⟩
      rw [← e1.1, ← e2.1]
      exact Sm_mk (SmL_one hs) (by simp)
theorem sg_lt (h : Lk L1 L2 e) {k : Nat} (hk : k ≤ e) {x : UInt8} (hs : sgT (gL L1 k) = { data := #[x] }) : k < e := by
  rcases Nat.lt_or_ge k e with hl | hl
  · exact hl
  · have : k = e := by omega
    subst this
    rw [h.sg1] at hs
    have := congrArg (fun a : ByteArray => a.data.size) hs
    simp at this
theorem part_rel (h : Lk L1 L2 e) (g1 : e + 1 = L1.length) (g2 : e + 1 < L2.length) {i1 i2 : Nat → Pr} (hi : ∀ k, 2 ≤ k → k < e → Rel e (i1 k) (i2 (k + 1))) {k : Nat} (h2 : 2 ≤ k) (hk : k ≤ e) : Rel e (partS L1 i1 k) (partS L2 i2 (k + 1)) := by
  unfold partS
  simp only [h.sgn h2 hk (x := 33) (by decide), h.sgn h2 hk (x := 38) (by decide)]
  split
  · rename_i hs
    have := sg_lt h hk hs
    exact ov_rel (rep_rel h (one_rel h g1 g2 hi (k := k + 1) (by omega) (by omega)))
  · split
    · rename_i hs
      have := sg_lt h hk hs
      exact ov_rel (rep_rel h (one_rel h g1 g2 hi (k := k + 1) (by omega) (by omega)))
    · exact rep_rel h (one_rel h g1 g2 hi h2 hk)
end
section
variable {L1 L2 : List Tok} {e : Nat}
theorem row_rel (h : Lk L1 L2 e) (g1 : e + 1 = L1.length) (g2 : e + 1 < L2.length) {i1 i2 : Nat → Pr} (hi : ∀ k, 2 ≤ k → k < e → Rel e (i1 k) (i2 (k + 1))) : ∀ (f1 f2 k : Nat) (a1 a2 : List Nd), 2 ≤ k → k ≤ e → SmL a1 a2 → a1.length + f1 ≤ 1000000 → Rel e (rowS L1 i1 f1 k a1) (rowS L2 i2 f2 (k + 1) a2)
  | 0, f2, k, a1, a2, _, _, _, _ => by intro n1 k1 n2 k2 e1 e2; rw [rowS] at e1; cases e1
  | f1 + 1, 0, k, a1, a2, _, _, _, _ => by intro n1 k1 n2 k2 e1 e2; rw [rowS] at e2; cases e2
  | f1 + 1, f2 + 1, k, a1, a2, h2, hk, ha, hl => by
    have hp := part_rel h g1 g2 hi h2 hk
    rw [rowS, rowS, h.pt g1 g2 h2 hk]
    split
    · cases hq1 : partS L1 i1 k with
      | inl c => intro n1 k1 n2 k2 e1 e2; cases e1
      | inr q1 =>
        cases hq2 : partS L2 i2 (k + 1) with
        | inl c => intro n1 k1 n2 k2 e1 e2; cases e2
        | inr q2 =>
          obtain ⟨m1, j1⟩ := q1
          obtain ⟨m2, j2⟩ := q2
          obtain ⟨hj, hlo, hhi, hs⟩ := hp m1 j1 m2 j2 hq1 hq2
          subst hj
          exact row_rel h g1 g2 hi f1 f2 j1 (a1 ++ [m1]) (a2 ++ [m2]) hlo hhi (SmL_snoc ha hs) (by simp; omega)
    · have hle := ha.len
      have hem : a2.isEmpty = a1.isEmpty := by
        cases a1 with
        | nil => cases a2 with
          | nil => rfl
          | cons _ _ => simp at hle
        | cons _ _ => cases a2 with
          | nil => simp at hle
          | cons _ _ => rfl
      rw [hem]
      split
      · intro n1 k1 n2 k2 e1 e2
        simp only [Sum.inr.injEq, Prod.mk.injEq] at e1 e2
        refine ⟨by omega, by omega, by omega, ?_⟩
        rw [← e1.1, ← e2.1]
        exact Sm_mk SmL_nil (by simp)
      · rename_i hne
        intro n1 k1 n2 k2 e1 e2
        simp only [Sum.inr.injEq, Prod.mk.injEq] at e1 e2
        refine ⟨by omega, by omega, by omega, ?_⟩
        rw [← e1.1, ← e2.1]
        exact Sm_join 6 ha (by omega) (fun he => hne (by rw [he]; rfl))
theorem alt_rel (h : Lk L1 L2 e) (g1 : e + 1 = L1.length) (g2 : e + 1 < L2.length) {i1 i2 : Nat → Pr} (hi : ∀ k, 2 ≤ k → k < e → Rel e (i1 k) (i2 (k + 1))) : ∀ (f1 f2 k : Nat) (a1 a2 : List Nd), 2 ≤ k → k ≤ e → SmL a1 a2 → a1 ≠ [] → a1.length + f1 ≤ 1000000 → Rel e (altS L1 i1 f1 k a1) (altS L2 i2 f2 (k + 1) a2)
  | 0, f2, k, a1, a2, _, _, _, _, _ => by intro n1 k1 n2 k2 e1 e2; rw [altS] at e1; cases e1
  | f1 + 1, 0, k, a1, a2, _, _, _, _, _ => by intro n1 k1 n2 k2 e1 e2; rw [altS] at e2; cases e2
  | f1 + 1, f2 + 1, k, a1, a2, h2, hk, ha, hne, hl => by
    have hbig := h.big
    rw [altS, altS]
    simp only [h.sgn h2 hk (x := 47) (by decide)]
    split
    · rename_i hs0
      have hlt := sg_lt h hk hs0
      have hp := row_rel h g1 g2 hi L1.length L2.length (k + 1) [] [] (by omega) (by omega) SmL_nil (by simp; omega)
      cases hq1 : rowS L1 i1 L1.length (k + 1) [] with
      | inl c => intro n1 k1 n2 k2 e1 e2; cases e1
      | inr q1 =>
        cases hq2 : rowS L2 i2 L2.length (k + 1 + 1) [] with
        | inl c => intro n1 k1 n2 k2 e1 e2; cases e2
        | inr q2 =>
          obtain ⟨m1, j1⟩ := q1
          obtain ⟨m2, j2⟩ := q2
          obtain ⟨hj, hlo, hhi, hs⟩ := hp m1 j1 m2 j2 hq1 hq2
          subst hj
          exact alt_rel h g1 g2 hi f1 f2 j1 (a1 ++ [m1]) (a2 ++ [m2]) hlo hhi (SmL_snoc ha hs) (by simp) (by simp; omega)
    · intro n1 k1 n2 k2 e1 e2
      simp only [Sum.inr.injEq, Prod.mk.injEq] at e1 e2
      refine ⟨by omega, by omega, by omega, ?_⟩
      rw [← e1.1, ← e2.1]
      exact Sm_join 7 ha (by omega) hne
theorem ch_rel (h : Lk L1 L2 e) (g1 : e + 1 = L1.length) (g2 : e + 1 < L2.length) {i1 i2 : Nat → Pr} (hi : ∀ k, 2 ≤ k → k < e → Rel e (i1 k) (i2 (k + 1))) {k : Nat} (h2 : 2 ≤ k) (hk : k ≤ e) : Rel e (chS L1 i1 k) (chS L2 i2 (k + 1)) := by
  have hbig := h.big
  have hp := row_rel h g1 g2 hi L1.length L2.length k [] [] h2 hk SmL_nil (by simp; omega)
  unfold chS
  cases hq1 : rowS L1 i1 L1.length k [] with
  | inl c => intro n1 k1 n2 k2 e1 e2; cases e1
  | inr q1 =>
    cases hq2 : rowS L2 i2 L2.length (k + 1) [] with
    | inl c => intro n1 k1 n2 k2 e1 e2; cases e2
    | inr q2 =>
      obtain ⟨m1, j1⟩ := q1
      obtain ⟨m2, j2⟩ := q2
      obtain ⟨hj, hlo, hhi, hs⟩ := hp m1 j1 m2 j2 hq1 hq2
      subst hj
      exact alt_rel h g1 g2 hi L1.length L2.length j1 [m1] [m2] hlo hhi (SmL_one hs) (by simp) (by simp; omega)
theorem inn_rel (h : Lk L1 L2 e) (g1 : e + 1 = L1.length) (g2 : e + 1 < L2.length) : ∀ (d1 d2 k : Nat), 2 ≤ k → k < e → Rel e (innS L1 d1 k) (innS L2 d2 (k + 1))
  | 0, d2, k, _, _ => by intro n1 k1 n2 k2 e1 e2; rw [innS] at e1; cases e1
  | d1 + 1, 0, k, _, _ => by intro n1 k1 n2 k2 e1 e2; rw [innS] at e2; cases e2
  | d1 + 1, d2 + 1, k, h2, hk => by
    have hp := ch_rel h g1 g2 (inn_rel h g1 g2 d1 d2) (k := k + 1) (by omega) (by omega)
    intro n1 k1 n2 k2 e1 e2
    rw [innS] at e1 e2
    obtain ⟨j1, a1, b1, c1⟩ := innE_inv e1
    obtain ⟨j2, a2, b2, c2⟩ := innE_inv e2
    obtain ⟨hj, hlo, hhi, hs⟩ := hp n1 j1 n2 j2 a1 a2
    have := sg_lt h hhi b1
    exact ⟨by omega, by omega, by omega, hs⟩
/-- With a parenthesis more around it a choice is one tree but for places. -/
theorem choice_rel (h : Lk L1 L2 e) (g1 : e + 1 = L1.length) (g2 : e + 1 < L2.length) (d1 d2 : Nat) : Rel e (chS L1 (innS L1 d1) 2) (chS L2 (innS L2 d2) 3) :=
  ch_rel h g1 g2 (inn_rel h g1 g2 d1 d2) (k := 2) (by omega) h.low
end
theorem ruS_inv {L : List Tok} {ru k k' : Nat} {x : Rl} (h : ruS L ru k = .inr (x, k')) : chS L (innS L 24) (k + 2) = .inr (x.2.1, k') ∧ x.1 = (gL L k).2.1 := by
  unfold ruS at h
  split at h
  · cases h
  · split at h
    · cases h
    · split at h
      · cases h
      · cases hs : chS L (innS L 24) (k + 2) with
        | inl e => rw [hs] at h; cases h
        | inr q =>
          obtain ⟨n, j⟩ := q
          rw [hs] at h
          simp only [ruE, Sum.inr.injEq, Prod.mk.injEq] at h
          obtain ⟨rfl, rfl⟩ := h
          exact ⟨rfl, rfl⟩
theorem rls_len (L : List Tok) : ∀ (f k : Nat) (acc rs : List Rl), rlsS L f k acc = .inr rs → acc.length ≤ rs.length
  | 0, _, _, _, h => by rw [rlsS] at h; cases h
  | f + 1, k, acc, rs, h => by
    rw [rlsS] at h
    split at h
    · simp only [Sum.inr.injEq] at h; subst h; exact Nat.le_refl _
    · split at h
      · cases h
      · rename_i x k' _
        have := rls_len L f k' (acc ++ [x]) rs h
        simp at this
        omega
/-- One rule alone: its body ends where the tokens do. -/
theorem gra_one {L : List Tok} {x : Rl} (h : graS L = .inr [x]) : ∃ k', ruS L 0 0 = .inr (x, k') ∧ (gL L k').1 = 6 := by
  unfold graS at h
  cases hr : ruS L 0 0 with
  | inl c => rw [hr] at h; cases h
  | inr q =>
    obtain ⟨y, k'⟩ := q
    rw [hr] at h
    unfold graE at h
    simp only at h
    cases hf : L.length with
    | zero => rw [hf, rlsS] at h; cases h
    | succ f =>
      rw [hf, rlsS] at h
      split at h
      · rename_i h6
        simp only [Sum.inr.injEq, List.cons.injEq, and_true] at h
        exact ⟨k', by rw [h], h6⟩
      · split at h
        · cases h
        · rename_i z k2 _
          have := rls_len L f k2 _ _ h
          simp at this
theorem brackets_spec {L1 L2 : List Tok} {e : Nat} {x : Rl} {rs : List Rl} (h : Lk L1 L2 e) (g1 : e + 1 = L1.length) (g2 : e + 3 = L2.length) (only : ∀ k, k < e → (gL L1 k).1 ≠ 6)
    (open2 : tk3 (gL L2 2) = (5, { data := #[40] }, 0)) (last2 : (gL L2 (e + 2)).1 = 6) (h1 : graS L1 = .inr [x]) (h2 : graS L2 = .inr rs) : ∃ y, rs = [y] ∧ Sm x.2.1 y.2.1 ∧ x.1 = (gL L1 0).2.1 ∧ y.1 = (gL L2 0).2.1 := by
  obtain ⟨k1, hr1, h6⟩ := gra_one h1
  obtain ⟨c1, nm1⟩ := ruS_inv hr1
  have hs2 : sgT (gL L2 2) = { data := #[40] } := by
    unfold tk3 at open2
    simp only [Prod.mk.injEq] at open2
    unfold sgT
    rw [if_pos open2.1]
    exact open2.2.1
  have ho5 : (gL L2 2).1 = 5 ∧ (gL L2 2).2.1 = { data := #[40] } := by
    unfold tk3 at open2
    simp only [Prod.mk.injEq] at open2
    exact ⟨open2.1, open2.2.1⟩
  have hlast : sgT (gL L2 (e + 2)) = { data := #[] } := by unfold sgT; rw [last2]; rfl
  unfold graS at h2
  cases hr : ruS L2 0 0 with
  | inl c => rw [hr] at h2; cases h2
  | inr q =>
    obtain ⟨y, k2⟩ := q
    obtain ⟨c2, nm2⟩ := ruS_inv hr
    -- the choice of L2 opens a parenthesis
    have hinn : innS L2 24 2 = innE L2 (chS L2 (innS L2 23) 3) := by rw [innS]
    have hone : oneS L2 (innS L2 24) 2 = innE L2 (chS L2 (innS L2 23) 3) := by
      unfold oneS
      rw [if_neg (by rw [ho5.1]; simp), if_neg (by rw [ho5.1]; simp), if_neg (by rw [ho5.1]; simp), if_neg (by rw [hs2]; decide), if_pos hs2, hinn]
    have hpart : partS L2 (innS L2 24) 2 = repE L2 (innE L2 (chS L2 (innS L2 23) 3)) := by
      unfold partS repS
      rw [if_neg (by rw [hs2]; decide), if_neg (by rw [hs2]; decide), hone]
    have hpt : ptB L2 2 (gL L2 2) = true := by
      unfold ptB
      rw [ho5.1, ho5.2]
      rfl
    obtain ⟨f, hf⟩ : ∃ f, L2.length = f + 2 := ⟨e + 1, by omega⟩
    have c3 := c2
    unfold chS at c3
    rw [hf, rowS, if_pos hpt, hpart] at c3
    cases hi : innE L2 (chS L2 (innS L2 23) 3) with
    | inl c => rw [hi] at c3; simp only [repE, chE] at c3; cases c3
    | inr q2 =>
      obtain ⟨n2, j2⟩ := q2
      obtain ⟨j, a2, b2, rfl⟩ := innE_inv hi
      obtain ⟨hj, hlo, hhi, hsm⟩ := choice_rel h g1 (by omega) 24 23 x.2.1 k1 n2 j c1 a2
      have hke : k1 = e := by
        rcases Nat.lt_or_ge k1 e with hl | hl
        · exact absurd h6 (only k1 hl)
        · omega
      subst hke
      subst hj
      have hrp : rpK (sgT (gL L2 (k1 + 1 + 1))) = 0 := by rw [hlast]; decide
      rw [hi] at c3
      simp only [repE, hrp, if_true] at c3
      rw [rowS, if_neg (by unfold ptB; rw [last2]; simp)] at c3
      simp only [List.nil_append, List.isEmpty_cons, Bool.false_eq_true, if_false, chE] at c3
      rw [hf, altS, if_neg (by rw [hlast]; decide)] at c3
      simp only [Sum.inr.injEq, Prod.mk.injEq] at c3
      rw [hr] at h2
      unfold graE at h2
      simp only at h2
      rw [hf, rlsS, ← c3.2, if_pos last2] at h2
      simp only [Sum.inr.injEq] at h2
      refine ⟨y, h2.symm, ?_, nm1, nm2⟩
      rw [← c3.1]
      exact hsm
theorem ne_stop {S : ByteArray} : ∀ (f k j : Nat), S.size - k = f → k ≤ j → j < ne S k → ¬ bt S j = some 10
  | f, k, j, hf, hk, hj => by
    cases hb : bt S k with
    | none => rw [ne_none hb] at hj; omega
    | some x =>
      have hlt := (bt_lt hb).1
      rw [ne_eq hb] at hj
      cases hx : (letB x || digB x) with
      | false => rw [hx] at hj; simp at hj; omega
      | true =>
        rw [hx] at hj
        simp only [if_true] at hj
        rcases Nat.lt_or_ge k j with h | h
        · exact ne_stop (f - 1) (k + 1) j (by omega) (by omega) hj
        · obtain rfl : j = k := by omega
          rw [hb]
          intro e
          simp only [Option.some.injEq] at e
          subst e
          exact absurd hx (by decide)
  termination_by f => f
  decreasing_by omega
theorem llit_last (S : ByteArray) (q p : Nat) : ∀ (f k : Nat) (acc l : List Nat) (n : Nat), llit S q p f k acc = .inr (l, n) → bt S (n - 1) = some q
  | 0, k, acc, l, n, h => by rw [llit] at h; cases h
  | f + 1, k, acc, l, n, h => by
    rw [llit] at h
    split at h
    · rename_i hb
      simp only [Sum.inr.injEq, Prod.mk.injEq] at h
      rw [← h.2]
      exact hb
    · split at h
      · cases h
      · split at h
        · cases h
        · exact llit_last S q p f _ _ l n h
theorem mems_last (S : ByteArray) : ∀ (f k acc C n : Nat), mems S f k acc = .inr (C, n) → bt S (n - 1) = some 93 ∧ 0 < n
  | 0, k, acc, C, n, h => by rw [mems] at h; cases h
  | f + 1, k, acc, C, n, h => by
    rw [mems] at h
    split at h
    · rename_i hb
      simp only [Sum.inr.injEq, Prod.mk.injEq] at h
      rw [← h.2]
      exact ⟨hb, by omega⟩
    · split at h
      · cases h
      · exact mems_last S f _ _ C n h
theorem cls_last {S : ByteArray} {C n : Nat} (h : clsP S = .inr (C, n)) : bt S (n - 1) = some 93 ∧ 0 < n := by
  rw [clsP_ng] at h
  split at h
  · split at h
    · cases hm : mm S 2 0 with
      | inl e => rw [hm] at h; cases h
      | inr q =>
        obtain ⟨D, m⟩ := q
        rw [hm] at h
        simp only [ng, Sum.inr.injEq, Prod.mk.injEq] at h
        rw [← h.2]
        exact mems_last S _ _ _ _ _ hm
    · exact mems_last S _ _ _ _ _ h
  · cases h
/-- No token ends with a new line. -/
theorem tok_last {S : ByteArray} {p x n : Nat} {t : Tok} (hb : bt S p = some x) (h : tokAt S p x = .inr (t, n)) : ¬ bt S (n - 1) = some 10 := by
  have hok := tokAt_ok hb h
  unfold tokAt at h
  split at h
  · split at h
    · cases h
    · simp only [Sum.inr.injEq, Prod.mk.injEq] at h
      obtain ⟨_, hn⟩ := h
      exact ne_stop _ p (n - 1) rfl (by omega) (by omega)
  · split at h
    · rename_i hq
      split at h
      · cases h
      · rename_i l m hm
        simp only [Sum.inr.injEq, Prod.mk.injEq] at h
        obtain ⟨_, hn⟩ := h
        subst hn
        rw [llit_last S x p _ _ _ _ _ hm]
        intro e
        simp only [Option.some.injEq] at e
        omega
    · split at h
      · split at h
        · cases h
        · rename_i C m hm
          simp only [Sum.inr.injEq, Prod.mk.injEq] at h
          obtain ⟨_, hn⟩ := h
          obtain ⟨h1, h2⟩ := cls_last hm
          rw [bt_ext S _ _ _ (Nat.le_refl _), if_pos (by omega)] at h1
          rw [show n - 1 = p + (m - 1) by omega, h1]
          intro e
          simp at e
      · split at h
        · rename_i ha
          simp only [Sum.inr.injEq, Prod.mk.injEq] at h
          obtain ⟨_, hn⟩ := h
          unfold arB at ha
          simp at ha
          rw [show n - 1 = p + 1 by omega, ha.2]
          intro e
          simp at e
        · split at h
          · rename_i hmk
            simp only [Sum.inr.injEq, Prod.mk.injEq] at h
            obtain ⟨_, hn⟩ := h
            rw [show n - 1 = p by omega, hb]
            intro e
            simp only [Option.some.injEq] at e
            subst e
            exact absurd hmk (by decide)
          · cases h
theorem le_stop {S : ByteArray} {q : Nat} (hs : Stop S q) : ∀ (f k : Nat), q - k = f → k ≤ q → le S k ≤ q
  | 0, k, hf, hk => by
    obtain rfl : k = q := by omega
    rw [hs.le]
    exact Nat.le_refl _
  | f + 1, k, hf, hk => by
    cases hb : bt S k with
    | none => rw [le_none hb]; exact hk
    | some x =>
      rw [le_eq hb]
      split
      · exact hk
      · exact le_stop hs f (k + 1) (by omega) (by omega)
/-- Blanks and notes up to a new line. -/
theorem seg_sb2 {S X : ByteArray} {a b L : Nat} (h : Seg S X a b L) (hs : Stop X (b + L)) (h10 : Stop S (a + L)) (hL : a + L ≤ S.size) : ∀ (f i : Nat), L - i ≤ f → i ≤ L → a + L ≤ sb S (a + i) → sb X (b + i) = sb X (b + L)
  | 0, i, hf, hi, hd => by
    obtain rfl : i = L := by omega
    rfl
  | f + 1, i, hf, hi, hd => by
    by_cases hiL : i = L
    · rw [hiL]
    · have e0 := h i (by omega)
      cases hb : bt S (a + i) with
      | none => have := bt_none hb; omega
      | some x =>
        rw [sb_eq hb] at hd
        rw [sb_eq (by rw [e0]; exact hb)]
        cases hx : blB x with
        | true =>
          rw [hx] at hd
          simp only [if_true] at hd ⊢
          exact seg_sb2 h hs h10 hL f (i + 1) (by omega) (by omega) hd
        | false =>
          rw [hx] at hd
          simp only [Bool.false_eq_true, if_false] at hd ⊢
          by_cases h35 : x = 35
          · rw [if_pos h35] at hd ⊢
            have hgt := le_gt hb (by omega)
            have hle := le_stop h10 _ (a + i) rfl (by omega)
            obtain ⟨i1, hi1⟩ : ∃ i1, Proofs.YtkofhmmnlapnnaaGreatDoor.le S (a + i) = a + i1 := ⟨Proofs.YtkofhmmnlapnnaaGreatDoor.le S (a + i) - a, by omega⟩
            rw [hi1] at hd hgt hle
            rw [h.le hs hL _ i i1 rfl hi (by omega) hi1]
            exact seg_sb2 h hs h10 hL f i1 (by omega) (by omega) hd
          · rw [if_neg h35] at hd
            omega
/-- All tokens of a text that ends with a new line, in another one that goes on there with a new line. -/
theorem seg_toks2 {S X : ByteArray} {a b L : Nat} (h : Seg S X a b L) (hs : Stop X (b + L)) (hX : b + L ≤ X.size) (hL : a + L + 1 = S.size) (h10 : bt S (a + L) = some 10) : ∀ (f i : Nat) (m : List Tok), L - i ≤ f → i ≤ L →
    tks S (sb S (a + i)) [] = .inr m → tks X (sb X (b + i)) [] = lift (m.map (sh a b)) (tks X (sb X (b + L)) []) := by
  have hend : ∀ (i : Nat) (m : List Tok), i ≤ L → a + L ≤ Proofs.YtkofhmmnlapnnaaGreatDoor.sb S (a + i) → tks S (sb S (a + i)) [] = .inr m → tks X (sb X (b + i)) [] = lift (m.map (sh a b)) (tks X (sb X (b + L)) []) := by
    intro i m hi hge hd
    have hle := (sb_ge (S := S) (n := a + i) (by omega)).2
    have : Proofs.YtkofhmmnlapnnaaGreatDoor.sb S (a + i) = S.size := by
      rcases Nat.lt_or_ge (Proofs.YtkofhmmnlapnnaaGreatDoor.sb S (a + i)) S.size with h1 | h1
      · have e : Proofs.YtkofhmmnlapnnaaGreatDoor.sb S (a + i) = a + L := by omega
        have := sb_fix (S := S) _ (a + i) 10 (Nat.le_refl _) (by omega) (by rw [e]; exact h10)
        exact absurd this.1 (by decide)
      · omega
    rw [this, tks_end (Nat.le_refl _)] at hd
    cases hd
    rw [List.map_nil, lift_nil, seg_sb2 h hs (.inl h10) (by omega) _ i (Nat.le_refl _) hi hge]
  intro f
  induction f with
  | zero =>
    intro i m hf hi hd
    obtain rfl : i = L := by omega
    exact hend i m (Nat.le_refl _) (sb_ge (S := S) (n := a + i) (by omega)).1 hd
  | succ f ih =>
    intro i m hf hi hd
    have hge := sb_ge (S := S) (n := a + i) (by omega)
    rcases Nat.lt_or_ge (Proofs.YtkofhmmnlapnnaaGreatDoor.sb S (a + i)) (a + L) with hlt0 | hge0
    · obtain ⟨i1, hi1⟩ : ∃ i1, Proofs.YtkofhmmnlapnnaaGreatDoor.sb S (a + i) = a + i1 := ⟨Proofs.YtkofhmmnlapnnaaGreatDoor.sb S (a + i) - a, by omega⟩
      rw [h.sb hs (by omega) _ i i1 (Nat.le_refl _) hi (by omega) hi1]
      rw [hi1] at hd hge hlt0
      cases hb : bt S (a + i1) with
      | none => have hn := bt_none hb; omega
      | some x =>
        have hlt := (bt_lt hb).1
        have hfx := sb_fix (S := S) _ (a + i) x (Nat.le_refl _) (by omega) (by rw [hi1]; exact hb)
        cases ht : tokAt S (a + i1) x with
        | inl c => rw [tks_bad hb ht] at hd; cases hd
        | inr r =>
          obtain ⟨t, n⟩ := r
          have hok := tokAt_ok hb ht
          have hlast := tok_last hb ht
          have hnL : n ≤ a + L := by
            rcases Nat.lt_or_ge (a + L) n with h1 | h1
            · have : n - 1 = a + L := by omega
              rw [this] at hlast
              exact absurd h10 hlast
            · exact h1
          obtain ⟨i2, rfl⟩ : ∃ i2, n = a + i2 := ⟨n - a, by omega⟩
          rw [tks_on hb ht, tks_acc] at hd
          cases hm : tks S (Proofs.YtkofhmmnlapnnaaGreatDoor.sb S (a + i2)) [] with
          | inl c => rw [hm] at hd; cases hd
          | inr m' =>
            rw [hm] at hd
            simp only [lift, List.nil_append, List.singleton_append, Sum.inr.injEq] at hd
            subst hd
            obtain ⟨k1, k2⟩ := h.tok hs hX hb ht (by omega)
            rw [sb_at k2 hfx.1 hfx.2, tks_on k2 k1, tks_acc, ih i2 m' (by omega) (by omega) hm, lift_lift, List.map_cons, List.nil_append, List.singleton_append]
            congr 2
            unfold sh
            rw [hok.2.2.2.1, show a + i1 - a + b = b + i1 by omega]
    · exact hend i m hi hge0 hd
theorem bt_pre {P D Q : ByteArray} {j : Nat} (h : j < P.size) : bt (P ++ D ++ Q) j = bt P j := by
  rw [bt_app, if_pos (by rw [ByteArray.size_append]; omega), bt_app, if_pos h]
theorem bt_mid {P D Q : ByteArray} {j : Nat} (h : j < D.size) : bt (P ++ D ++ Q) (P.size + j) = bt D j := by
  rw [bt_app, if_pos (by rw [ByteArray.size_append]; omega), bt_app, if_neg (by omega), show P.size + j - P.size = j by omega]
theorem bt_suf (P D Q : ByteArray) (j : Nat) : bt (P ++ D ++ Q) (P.size + D.size + j) = bt Q j := by
  rw [bt_app, if_neg (by rw [ByteArray.size_append]; omega), ByteArray.size_append, show P.size + D.size + j - (P.size + D.size) = j by omega]
/-- What stands ahead of the first rule's body. -/
structure Pre (X : ByteArray) : Prop where
  b0 : bt X 0 = some 114
  b1 : bt X 1 = some 117
  b2 : bt X 2 = some 108
  b3 : bt X 3 = some 101
  b4 : bt X 4 = some 32
  b5 : bt X 5 = some 60
  b6 : bt X 6 = some 45
  b7 : bt X 7 = some 32
def rlN : ByteArray := { data := #[114, 117, 108, 101] }
theorem Pre.toks {X : ByteArray} (h : Pre X) : tks X (sb X 0) [] = lift [(1, rlN, 0, 0), (2, { data := #[] }, 0, 5)] (tks X (sb X 8) []) := by
  have s0 : sb X 0 = 0 := sb_at h.b0 (by decide) (by decide)
  have n0 : ne X 0 = 4 := by
    rw [ne_eq h.b0, if_pos (by decide), ne_eq h.b1, if_pos (by decide), ne_eq h.b2, if_pos (by decide), ne_eq h.b3, if_pos (by decide), ne_eq h.b4, if_neg (by decide)]
  have hX := (bt_lt h.b7).1
  have hn : X.extract 0 4 = rlN := by
    apply ext_bt
    intro j
    rw [bt_ext X 0 4 j (by omega), Nat.zero_add]
    match j with
    | 0 => rw [if_pos (by decide), h.b0]; rfl
    | 1 => rw [if_pos (by decide), h.b1]; rfl
    | 2 => rw [if_pos (by decide), h.b2]; rfl
    | 3 => rw [if_pos (by decide), h.b3]; rfl
    | j + 4 => rw [if_neg (by omega), bt_ge (by show 4 ≤ _; omega)]
  have t0 : tokAt X 0 114 = .inr ((1, rlN, 0, 0), 4) := by
    unfold tokAt
    rw [if_pos (by decide), n0, if_neg (by decide), hn]
  have s1 : sb X 4 = 5 := by
    rw [sb_eq h.b4, if_pos (by decide)]
    exact sb_at h.b5 (by decide) (by decide)
  have t1 : tokAt X 5 60 = .inr ((2, { data := #[] }, 0, 5), 7) := by
    unfold tokAt
    rw [if_neg (by decide), if_neg (by decide), if_neg (by decide), if_pos (by unfold arB; rw [h.b5, h.b6]; decide)]
  have s2 : sb X 7 = sb X 8 := by rw [sb_eq h.b7, if_pos (by decide)]
  rw [s0, tks_on h.b0 t0, s1, tks_on h.b5 t1, s2, tks_acc]
  rfl
def brP : ByteArray := { data := #[114, 117, 108, 101, 32, 60, 45, 32] }
def brQ : ByteArray := { data := #[114, 117, 108, 101, 32, 60, 45, 32, 40] }
def brE : ByteArray := { data := #[10] }
def brF : ByteArray := { data := #[10, 41] }
theorem pre_P (D : ByteArray) : Pre (brP ++ D ++ brE) :=
  ⟨(bt_pre (by decide)).trans rfl, (bt_pre (by decide)).trans rfl, (bt_pre (by decide)).trans rfl, (bt_pre (by decide)).trans rfl, (bt_pre (by decide)).trans rfl, (bt_pre (by decide)).trans rfl, (bt_pre (by decide)).trans rfl, (bt_pre (by decide)).trans rfl⟩
theorem pre_Q (D : ByteArray) : Pre (brQ ++ D ++ brF) :=
  ⟨(bt_pre (by decide)).trans rfl, (bt_pre (by decide)).trans rfl, (bt_pre (by decide)).trans rfl, (bt_pre (by decide)).trans rfl, (bt_pre (by decide)).trans rfl, (bt_pre (by decide)).trans rfl, (bt_pre (by decide)).trans rfl, (bt_pre (by decide)).trans rfl⟩
theorem size_P (D : ByteArray) : (brP ++ D ++ brE).size = 9 + D.size := by rw [ByteArray.size_append, ByteArray.size_append, show brP.size = 8 from rfl, show brE.size = 1 from rfl]; omega
theorem size_Q (D : ByteArray) : (brQ ++ D ++ brF).size = 11 + D.size := by rw [ByteArray.size_append, ByteArray.size_append, show brQ.size = 9 from rfl, show brF.size = 2 from rfl]; omega
theorem lift_inr {a : List Tok} {r : Tr} {l : List Tok} (h : lift a r = .inr l) : ∃ m, r = .inr m ∧ l = a ++ m := by
  cases r with
  | inl c => cases h
  | inr m => simp only [lift, Sum.inr.injEq] at h; exact ⟨m, rfl, h.symm⟩
/-- The tokens of both. -/
theorem toks_br (D : ByteArray) {L1 : List Tok} (h : tkS (brP ++ D ++ brE) = .inr L1) : ∃ m : List Tok, L1 = (1, rlN, 0, 0) :: (2, { data := #[] }, 0, 5) :: (m ++ [(6, { data := #[] }, 0, 9 + D.size)]) ∧ (∀ t ∈ m, TokOk t) ∧ m.length ≤ D.size + 1 ∧
    tkS (brQ ++ D ++ brF) = .inr ((1, rlN, 0, 0) :: (2, { data := #[] }, 0, 5) :: (5, nb [40], 0, 8) :: (m.map (sh 8 9) ++ [(5, nb [41], 0, 10 + D.size), (6, { data := #[] }, 0, 11 + D.size)])) := by
  obtain ⟨m0, hm0, rfl⟩ := tkS_inv h
  rw [(pre_P D).toks] at hm0
  obtain ⟨m, hm, rfl⟩ := lift_inr hm0
  have hz1 := size_P D
  have hz2 := size_Q D
  have e10 : bt (brP ++ D ++ brE) (8 + D.size) = some 10 := (bt_suf brP D brE 0).trans rfl
  have f10 : bt (brQ ++ D ++ brF) (9 + D.size) = some 10 := (bt_suf brQ D brF 0).trans rfl
  have f41 : bt (brQ ++ D ++ brF) (10 + D.size) = some 41 := by
    have := (bt_suf brQ D brF 1).trans rfl
    rw [show brQ.size + D.size + 1 = 10 + D.size by show 9 + D.size + 1 = _; omega] at this
    exact this
  have f40 : bt (brQ ++ D ++ brF) 8 = some 40 := (bt_pre (by decide)).trans rfl
  have hseg : Seg (brP ++ D ++ brE) (brQ ++ D ++ brF) 8 9 D.size := fun j hj => (bt_mid (P := brQ) hj).trans (bt_mid (P := brP) hj).symm
  have hgood := tkl_good _ _ _ _ _ hm (fun t ht => by simp at ht)
  have hs8 := (sb_ge (S := brP ++ D ++ brE) (n := 8) (by omega)).1
  refine ⟨m, by rw [hz1]; rfl, hgood.1, by have h2 := hgood.2; rw [hz1, List.length_nil] at h2; omega, ?_⟩
  have key := seg_toks2 hseg (.inl f10) (by omega) (by omega) e10 _ 0 m (Nat.le_refl _) (Nat.zero_le _) hm
  have key' : tks (brQ ++ D ++ brF) (sb (brQ ++ D ++ brF) 9) [] = _ := key
  have t8 : tokAt (brQ ++ D ++ brF) 8 40 = .inr ((5, nb [40], 0, 8), 9) := by
    unfold tokAt
    rw [if_neg (by decide), if_neg (by decide), if_neg (by decide), if_neg (by unfold arB; rw [f40]; simp), if_pos (by decide)]
  have t9 : tokAt (brQ ++ D ++ brF) (10 + D.size) 41 = .inr ((5, nb [41], 0, 10 + D.size), 10 + D.size + 1) := by
    unfold tokAt
    rw [if_neg (by decide), if_neg (by decide), if_neg (by decide), if_neg (by unfold arB; rw [f41]; simp), if_pos (by decide)]
  have s8 : sb (brQ ++ D ++ brF) 8 = 8 := sb_at f40 (by decide) (by decide)
  have s9 : sb (brQ ++ D ++ brF) (9 + D.size) = 10 + D.size := by
    rw [sb_eq f10, if_pos (by decide), show 9 + D.size + 1 = 10 + D.size by omega]
    exact sb_at f41 (by decide) (by decide)
  have last : tks (brQ ++ D ++ brF) (10 + D.size) [] = .inr [(5, nb [41], 0, 10 + D.size)] := by
    rw [tks_on f41 t9, sb_none (bt_ge (by omega)), tks_end (by omega)]
    rfl
  unfold tkS
  rw [(pre_Q D).toks, s8, tks_on f40 t8, tks_acc, key', s9, last]
  simp only [lift, tkE, hz2]
  simp
theorem brackets_text {D : ByteArray} {x : Rl} {rs : List Rl} (hD : D.size ≤ 8192) (h1 : parS (brP ++ D ++ brE) = .inr [x]) (h2 : parS (brQ ++ D ++ brF) = .inr rs) : ∃ y, rs = [y] ∧ Sm x.2.1 y.2.1 ∧ y.1 = x.1 := by
  unfold parS at h1 h2
  cases ht : tkS (brP ++ D ++ brE) with
  | inl c => rw [ht] at h1; cases h1
  | inr L1 =>
    obtain ⟨m, rfl, hok, hlen, ht2⟩ := toks_br D ht
    rw [ht] at h1
    rw [ht2] at h2
    simp only [parE] at h1 h2
    obtain ⟨L1, hL1⟩ : ∃ L1 : List Tok, L1 = (1, rlN, 0, 0) :: (2, { data := #[] }, 0, 5) :: (m ++ [(6, { data := #[] }, 0, 9 + D.size)]) := ⟨_, rfl⟩
    obtain ⟨L2, hL2⟩ : ∃ L2 : List Tok, L2 = (1, rlN, 0, 0) :: (2, { data := #[] }, 0, 5) :: (5, nb [40], 0, 8) :: (m.map (sh 8 9) ++ [(5, nb [41], 0, 10 + D.size), (6, { data := #[] }, 0, 11 + D.size)]) := ⟨_, rfl⟩
    rw [← hL1] at h1
    rw [← hL2] at h2
    have hn1 : L1.length = m.length + 3 := by rw [hL1]; simp
    have hn2 : L2.length = m.length + 5 := by rw [hL2]; simp
    have a1 : ∀ k, k < m.length → ∀ t, m[k]? = some t → gL L1 (k + 2) = t := fun k hk t ht => by
      unfold gL
      rw [hL1]
      simp only [List.getElem?_cons_succ]
      rw [List.getElem?_append_left hk, ht]
      rfl
    have a2 : ∀ k, k < m.length → ∀ t, m[k]? = some t → gL L2 (k + 3) = sh 8 9 t := fun k hk t ht => by
      unfold gL
      rw [hL2]
      simp only [List.getElem?_cons_succ]
      rw [List.getElem?_append_left (by simpa using hk), List.getElem?_map, ht]
      rfl
    have e1 : (gL L1 (m.length + 2)).1 = 6 := by
      unfold gL
      rw [hL1]
      simp only [List.getElem?_cons_succ]
      rw [List.getElem?_append_right (Nat.le_refl _), Nat.sub_self]
      rfl
    have e2 : gL L2 (m.length + 3) = (5, nb [41], 0, 10 + D.size) := by
      unfold gL
      rw [hL2]
      simp only [List.getElem?_cons_succ]
      rw [List.getElem?_append_right (by simp), List.length_map, Nat.sub_self]
      rfl
    have e3 : (gL L2 (m.length + 2 + 2)).1 = 6 := by
      unfold gL
      rw [hL2, show m.length + 2 + 2 = m.length + 1 + 1 + 1 + 1 by omega]
      simp only [List.getElem?_cons_succ]
      rw [List.getElem?_append_right (by simp), List.length_map, show m.length + 1 - m.length = 1 by omega]
      rfl
    have o1 : gL L1 0 = (1, rlN, 0, 0) := by rw [hL1]; rfl
    have o2 : gL L2 0 = (1, rlN, 0, 0) := by rw [hL2]; rfl
    have o3 : gL L2 2 = (5, nb [40], 0, 8) := by rw [hL2]; rfl
    have o4 : (gL L1 1).1 = 2 := by rw [hL1]; rfl
    have get : ∀ k, k < m.length → ∃ t, m[k]? = some t ∧ t ∈ m := fun k hk => ⟨m[k], List.getElem?_eq_getElem hk, List.getElem_mem hk⟩
    have hlk : Lk L1 L2 (m.length + 2) := by
      refine ⟨by omega, by omega, fun k h2 hk => ?_, e1, ?_⟩
      · obtain ⟨j, rfl⟩ : ∃ j, k = j + 2 := ⟨k - 2, by omega⟩
        obtain ⟨t, ht, _⟩ := get j (by omega)
        rw [a1 j (by omega) t ht, show j + 2 + 1 = j + 3 by omega, a2 j (by omega) t ht]
        rfl
      · rw [show m.length + 2 + 1 = m.length + 3 by omega, e2]
        rfl
    have honly : ∀ k, k < m.length + 2 → (gL L1 k).1 ≠ 6 := fun k hk => by
      match k with
      | 0 => rw [o1]; simp
      | 1 => rw [o4]; decide
      | j + 2 =>
        obtain ⟨t, ht, hmem⟩ := get j (by omega)
        rw [a1 j (by omega) t ht]
        have := (hok t hmem).1
        omega
    obtain ⟨y, hy, hs, n1, n2⟩ := brackets_spec hlk (by omega) (by omega) honly (by rw [o3]; rfl) e3 h1 h2
    exact ⟨y, hy, hs, by rw [n1, n2, o1, o2]⟩
end Go.Proofs.YtkofhmmnlapnnaaGreatDoor
