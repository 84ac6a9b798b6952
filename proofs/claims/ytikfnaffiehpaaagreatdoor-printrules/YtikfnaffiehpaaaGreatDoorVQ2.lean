/-
  What lex.Tokens answers at a text that is too long; plain facts on names and tokens. Conditions: those that each theorem names.
  What a quote is read as. Plain facts on the functions of X15 and X17. Conditions: those that each theorem names.
  A class's text is read as the class. Plain facts on texts and classes.
  A token, blanks, a row of tokens that stand in another text too: they are read as they were. Plain facts on the functions of X15. Conditions: those that each theorem names.
  Two texts, one behind the other: their tokens. Plain facts on the functions of X15. Conditions: those that each theorem names.
-/
import Derived.Test.YtikfnaffiehpaaaGreatDoorVX3
import Derived.Laws.Strings
import Derived.WideShapes
import Derived.Test.YtikfnaffiehpaaaGreatDoorVQ1
namespace Go.Proofs.YtikfnaffiehpaaaGreatDoor
open Go.RowKit
set_option linter.unusedVariables false
set_option maxRecDepth 100000 in
theorem xtokens_long (S : ByteArray) (w : World) (hS : 8192 < S.size) :
    Calls Tryz.prog 28 #[.string S] w fun e w' => e = .returned (.tuple #[.slice none 0 0, flv w.heap.size]) ∧ w' = w.alloc (.cells #[.int .i64 2, .int .i64 (-1)] 100) := by
  have c0 : decide ((8192 : Int) < (S.size : Int)) = true := by simp; omega
  go_enter Tryz.func28, Tryz.ntmps28
  go_wp2_with fail
  (try simp only [Exit.inBlock, Exit.then])
  refine bodyPost_ret (v := .tuple #[.slice none 0 0, .iface 98 (.pointer (some ⟨w.heap.size, 0, none⟩))]) (by simp [results, Tryz.results28, go_sem]) rfl ?_
  exact ⟨rfl, rfl⟩
theorem str_ne {a b : ByteArray} (h : ¬ a = b) : (a.toList == b.toList) = false := by
  rw [ByteArray.toList_eq, ByteArray.toList_eq, beq_eq_false_iff_ne]
  exact fun e => h (WideShapes.bytes_inj e)
theorem str_eq (a : ByteArray) : (a.toList == a.toList) = true := by simp
/-- Tokens ahead of others. -/
def lift (acc : List Tok) (r : Tr) : Tr := match r with
  | .inl c => .inl c
  | .inr l => .inr (acc ++ l)
theorem lift_lift (a b : List Tok) (r : Tr) : lift a (lift b r) = lift (a ++ b) r := by
  cases r <;> simp [lift]
theorem tkl_acc (S : ByteArray) : ∀ (f k : Nat) (acc : List Tok), tkl S f k acc = lift acc (tkl S f k [])
  | 0, k, acc => by simp [tkl, lift]
  | f + 1, k, acc => by
    rw [tkl, tkl]
    cases bt S k with
    | none => simp [lift]
    | some x =>
      simp only
      cases tokAt S k x with
      | inl b => rfl
      | inr r =>
        obtain ⟨t, n⟩ := r
        simp only [List.nil_append]
        rw [tkl_acc S f (sb S n) (acc ++ [t]), tkl_acc S f (sb S n) [t], lift_lift]
theorem tks_acc (S : ByteArray) (k : Nat) (acc : List Tok) : tks S k acc = lift acc (tks S k []) := tkl_acc S _ k acc
theorem ext_all (S : ByteArray) : S.extract 0 S.size = S := by
  apply ByteArray.ext
  rw [ByteArray.data_extract]
  exact Array.extract_size
theorem letB_not {x : Nat} (h : letB x = true) : blB x = false ∧ x ≠ 35 := by
  unfold letB at h
  unfold blB
  simp at h
  refine ⟨?_, by omega⟩
  simp
  omega
/-- A name's tokens. -/
theorem named_toks {S : ByteArray} (h : nmS S = true) : tkS S = .inr [(1, S, 0, 0), (6, { data := #[] }, 0, S.size)] ∧ S.size ≤ 32 ∧ 0 < S.size := by
  unfold nmS at h
  cases hb : bt S 0 with
  | none => rw [hb] at h; cases h
  | some x =>
    rw [hb] at h
    simp at h
    obtain ⟨⟨h1, h2⟩, h3⟩ := h
    have hn := letB_not h2
    have s0 : sb S 0 = 0 := by rw [sb_eq hb, hn.1]; simp [hn.2]
    have ht : tokAt S 0 x = .inr ((1, S, 0, 0), S.size) := by
      unfold tokAt
      rw [h2, h3, ext_all]
      simp only [if_true]
      rw [if_neg (by omega)]
    refine ⟨?_, h1, (bt_lt hb).1⟩
    unfold tkS
    rw [s0, tks_on hb ht, sb_none (bt_ge (Nat.le_refl _)), tks_end (Nat.le_refl _)]
    rfl
theorem tks_inv {S : ByteArray} {k : Nat} {a : Tok} {l : List Tok} (h : tks S k [] = .inr (a :: l)) : ∃ x n, bt S k = some x ∧ tokAt S k x = .inr (a, n) ∧ tks S (sb S n) [] = .inr l := by
  cases hb : bt S k with
  | none => rw [tks_end (bt_none hb)] at h; cases h
  | some x =>
    cases ht : tokAt S k x with
    | inl b => rw [tks_bad hb ht] at h; cases h
    | inr r =>
      obtain ⟨t, n⟩ := r
      rw [tks_on hb ht, tks_acc] at h
      cases hm : tks S (sb S n) [] with
      | inl c => rw [hm] at h; cases h
      | inr m =>
        rw [hm] at h
        simp [lift] at h
        obtain ⟨rfl, rfl⟩ := h
        exact ⟨x, n, rfl, ht, hm⟩
theorem tkS_inv {S : ByteArray} {l : List Tok} (h : tkS S = .inr l) : ∃ m, tks S (sb S 0) [] = .inr m ∧ l = m ++ [(6, { data := #[] }, 0, S.size)] := by
  unfold tkS at h
  cases hm : tks S (sb S 0) [] with
  | inl c => rw [hm] at h; cases h
  | inr m => rw [hm] at h; simp [tkE] at h; exact ⟨m, rfl, h.symm⟩
theorem tokAt_name {S : ByteArray} {p x n : Nat} {t : Tok} (h : tokAt S p x = .inr (t, n)) (h1 : t.1 = 1) : letB x = true ∧ ne S p - p ≤ 32 ∧ t = (1, S.extract p (ne S p), 0, p) := by
  unfold tokAt at h
  split at h
  · rename_i hl
    split at h
    · cases h
    · simp only [Sum.inr.injEq, Prod.mk.injEq] at h
      obtain ⟨rfl, rfl⟩ := h
      exact ⟨hl, by omega, rfl⟩
  · exfalso
    split at h
    · split at h
      · cases h
      · simp only [Sum.inr.injEq, Prod.mk.injEq] at h
        obtain ⟨rfl, rfl⟩ := h
        cases h1
    · split at h
      · split at h
        · cases h
        · simp only [Sum.inr.injEq, Prod.mk.injEq] at h
          obtain ⟨rfl, rfl⟩ := h
          cases h1
      · split at h
        · simp only [Sum.inr.injEq, Prod.mk.injEq] at h
          obtain ⟨rfl, rfl⟩ := h
          cases h1
        · split at h
          · simp only [Sum.inr.injEq, Prod.mk.injEq] at h
            obtain ⟨rfl, rfl⟩ := h
            cases h1
          · cases h
/-- What is one token, a name with the whole text, is a name. -/
theorem toks_named {S : ByteArray} {a b : Tok} (h : tkS S = .inr [a, b]) (h1 : a.1 = 1) (h2 : a.2.1 = S) : nmS S = true := by
  obtain ⟨m, hm, he⟩ := tkS_inv h
  obtain rfl : m = [a] := by
    match m, he with
    | [c], he => simp at he; rw [he.1]
    | [], he => simp at he
    | _ :: _ :: _, he => simp at he
  obtain ⟨x, n, hb, ht, _⟩ := tks_inv hm
  obtain ⟨hl, h32, rfl⟩ := tokAt_name ht h1
  have hk := (bt_lt hb).1
  have hne := ne_le (S := S) (k := sb S 0) (by omega)
  have hs : (S.extract (sb S 0) (ne S (sb S 0))).size = S.size := congrArg ByteArray.size h2
  simp [ByteArray.size_extract] at hs
  have h0 : sb S 0 = 0 := by omega
  have h9 : ne S 0 = S.size := by rw [h0] at hs hne; omega
  rw [h0] at hb h32
  unfold nmS
  rw [hb]
  simp
  exact ⟨⟨by omega, hl⟩, h9⟩
/-- All bytes from k on are of a name. -/
theorem ne_all (S : ByteArray) : ∀ f k : Nat, S.size - k = f → k ≤ S.size → (ne S k = S.size ↔ ∀ i x, k ≤ i → bt S i = some x → (letB x || digB x) = true)
  | 0, k, hf, hk => by
    have : k = S.size := by omega
    rw [ne_none (bt_ge (by omega))]
    refine ⟨fun _ i x hi hx => ?_, fun _ => this⟩
    have := (bt_lt hx).1
    omega
  | f + 1, k, hf, hk => by
    cases hb : bt S k with
    | none => have := bt_none hb; omega
    | some y =>
      rw [ne_eq hb]
      cases hy : (letB y || digB y) with
      | false =>
        simp only [Bool.false_eq_true, if_false]
        refine ⟨fun e => by have := (bt_lt hb).1; omega, fun h => ?_⟩
        have := h k y (Nat.le_refl _) hb
        rw [hy] at this
        cases this
      | true =>
        simp only [if_true]
        rw [ne_all S f (k + 1) (by omega) (by omega)]
        refine ⟨fun h i x hi hx => ?_, fun h i x hi hx => h i x (by omega) hx⟩
        rcases Nat.lt_or_ge k i with h1 | h1
        · exact h i x (by omega) hx
        · obtain rfl : i = k := by omega
          rw [hb] at hx
          cases hx
          exact hy
theorem bt_app (S T : ByteArray) (i : Nat) : bt (S ++ T) i = if i < S.size then bt S i else bt T (i - S.size) := by
  unfold bt
  by_cases h : i < S.size
  · rw [if_pos h, dif_pos h, dif_pos (by rw [ByteArray.size_append]; omega), ByteArray.getElem_append_left h]
  · rw [if_neg h]
    by_cases h2 : i < (S ++ T).size
    · have h3 := h2
      rw [ByteArray.size_append] at h3
      rw [dif_pos h2, dif_pos (by omega), ByteArray.getElem_append_right (by omega)]
    · have h3 := h2
      rw [ByteArray.size_append] at h3
      rw [dif_neg h2, dif_neg (by omega)]
/-- One more letter. -/
theorem named_more {S : ByteArray} (h : nmS S = true) : nmS (S ++ { data := #[120] }) = decide (S.size < 32) := by
  unfold nmS at h
  cases hb : bt S 0 with
  | none => rw [hb] at h; cases h
  | some x =>
    rw [hb] at h
    simp at h
    obtain ⟨⟨h1, h2⟩, h3⟩ := h
    have h0 := (bt_lt hb).1
    have hsz : (S ++ { data := #[120] }).size = S.size + 1 := by rw [ByteArray.size_append]; rfl
    have hall := (ne_all S _ 0 rfl (Nat.zero_le _)).1 h3
    have hall2 : ne (S ++ { data := #[120] }) 0 = (S ++ { data := #[120] }).size := by
      refine (ne_all _ _ 0 rfl (Nat.zero_le _)).2 fun i y _ hy => ?_
      rw [bt_app] at hy
      split at hy
      · exact hall i y (Nat.zero_le _) hy
      · have h9 := (bt_lt hy).1
        have h8 : i - S.size = 0 := by have : ({ data := #[120] } : ByteArray).size = 1 := rfl; omega
        rw [h8] at hy
        have : bt { data := #[120] } 0 = some 120 := by rfl
        rw [this] at hy
        cases hy
        rfl
    unfold nmS
    rw [bt_app, if_pos h0, hb]
    simp only [h2, hall2, hsz]
    by_cases h5 : S.size < 32
    · simp [h5]; omega
    · simp [h5]; omega
end Go.Proofs.YtikfnaffiehpaaaGreatDoor
namespace Go.Proofs.YtikfnaffiehpaaaGreatDoor
open Go.RowKit
set_option linter.unusedVariables false
theorem dgv_hexd : ∀ d, d < 16 → dgv (hexd d) = some d := by decide +kernel
/-- These bytes stand at k. -/
def Hr (S : ByteArray) (k : Nat) (l : List Nat) : Prop := ∀ j x, l[j]? = some x → bt S (k + j) = some x
theorem lsg_lq {S : ByteArray} {k b : Nat} (hb : b < 256) (h : Hr S k (lq b)) : lsg S k = .inr (b, k + (lq b).length) ∧ ¬ bt S k = some 39 := by
  have p92 : plB 92 = true := rfl
  unfold lq at h ⊢
  split at h
  · rename_i e; subst e
    have a0 := h 0 92 rfl; have a1 := h 1 110 rfl
    simp only [Nat.add_zero] at a0
    refine ⟨?_, by rw [a0]; simp⟩
    unfold lsg lesc; rw [a0]; simp [a1, lescv, p92]
  · rename_i h1
    split at h
    · rename_i e; subst e
      have a0 := h 0 92 rfl; have a1 := h 1 114 rfl
      simp only [Nat.add_zero] at a0
      refine ⟨?_, by rw [a0]; simp⟩
      unfold lsg lesc; rw [a0]; simp [a1, lescv, p92]
    · rename_i h2
      split at h
      · rename_i e; subst e
        have a0 := h 0 92 rfl; have a1 := h 1 116 rfl
        simp only [Nat.add_zero] at a0
        refine ⟨?_, by rw [a0]; simp⟩
        unfold lsg lesc; rw [a0]; simp [a1, lescv, p92]
      · rename_i h3
        split at h
        · rename_i hm
          have a0 := h 0 92 rfl; have a1 := h 1 b rfl
          simp only [Nat.add_zero] at a0
          refine ⟨?_, by rw [a0]; simp⟩
          have hv : lescv b = some b := by
            unfold lescv
            rw [if_neg (by omega), if_neg (by omega), if_neg (by omega), if_pos (by omega)]
          unfold lsg lesc; rw [a0]; simp [a1, hv, p92, hm, h1, h2, h3]
        · rename_i hm
          split at h
          · rename_i hp
            have a0 := h 0 b rfl
            simp only [Nat.add_zero] at a0
            refine ⟨?_, by rw [a0]; simp; omega⟩
            unfold lsg; rw [a0]; simp [hp, h1, h2, h3, hm]; omega
          · rename_i hp
            have a0 := h 0 92 rfl; have a1 := h 1 120 rfl; have a2 := h 2 _ rfl; have a3 := h 3 _ rfl
            simp only [Nat.add_zero] at a0
            refine ⟨?_, by rw [a0]; simp⟩
            have d1 : dg S (k + 2) = some (b / 16) := by unfold dg; rw [a2]; exact dgv_hexd _ (by omega)
            have d2 : dg S (k + 3) = some (b % 16) := by unfold dg; rw [a3]; exact dgv_hexd _ (by omega)
            have hd : digs S (k + 1 + 1) = .inr (b, k + 4) := by
              unfold digs
              rw [show k + 1 + 1 = k + 2 by omega, d1]
              simp only
              rw [show k + 2 + 1 = k + 3 by omega, d2]
              simp only
              rw [show 16 * (b / 16) + b % 16 = b by omega]
            have hv : lescv 120 = none := rfl
            unfold lsg lesc; rw [a0]; simp [a1, hv, p92, hp, h1, h2, h3, hm, hd]
/-- The bytes of a text up to k. -/
def bp (S : ByteArray) : Nat → List Nat
  | 0 => []
  | k + 1 => bp S k ++ (match bt S k with | some x => [x] | none => [])
theorem bp_succ {S : ByteArray} {k x : Nat} (h : bt S k = some x) : bp S (k + 1) = bp S k ++ [x] := by rw [bp, h]
theorem bp_len (S : ByteArray) : ∀ k, k ≤ S.size → (bp S k).length = k
  | 0, _ => rfl
  | k + 1, h => by
    cases hb : bt S k with
    | none => have := bt_none hb; omega
    | some x => rw [bp_succ hb, List.length_append, bp_len S k (by omega)]; rfl
theorem bp_take (S : ByteArray) : ∀ k, k ≤ S.size → (bp S k).map UInt8.ofNat = S.data.toList.take k
  | 0, _ => by simp [bp]
  | k + 1, h => by
    cases hb : bt S k with
    | none => have := bt_none hb; omega
    | some x =>
      obtain ⟨hk, hx⟩ := bt_at hb
      have hk2 : k < S.data.toList.length := by rw [Array.length_toList]; exact hk
      have h1 : UInt8.ofNat x = S.data.toList[k] := by
        rw [← hx]
        apply UInt8.toNat.inj
        have := (bt_lt hb).2
        simp
        rfl
      rw [bp_succ hb, List.map_append, bp_take S k (by omega), List.take_succ_eq_append_getElem hk2]
      simp [h1]
theorem nb_bp (S : ByteArray) : nb (bp S S.size) = S := by
  apply ByteArray.ext
  unfold nb
  simp only
  rw [bp_take S S.size (Nat.le_refl _)]
  apply Array.toList_inj.1
  simp only
  exact List.take_of_length_le (by rw [Array.length_toList]; exact Nat.le_refl _)
theorem bt_nb (l : List Nat) (h : ∀ x ∈ l, x < 256) (i : Nat) : bt (nb l) i = l[i]? := by
  unfold bt
  by_cases hi : i < (nb l).size
  · rw [dif_pos hi]
    rw [nb_size] at hi
    rw [List.getElem?_eq_getElem hi]
    have := h _ (List.getElem_mem hi)
    show some (((nb l).data[i]).toNat) = _
    simp [nb]
    omega
  · rw [dif_neg hi]
    rw [nb_size] at hi
    rw [List.getElem?_eq_none (by omega)]
theorem qp_rest (P : ByteArray) : ∀ f k : Nat, P.size - k = f → k ≤ P.size → ∃ r, qt P = qp P k ++ r
  | 0, k, hf, hk => by
    obtain rfl : k = P.size := by omega
    exact ⟨[39], rfl⟩
  | f + 1, k, hf, hk => by
    obtain ⟨r, hr⟩ := qp_rest P f (k + 1) (by omega) (by omega)
    cases hb : bt P k with
    | none => have := bt_none hb; omega
    | some x => rw [qp_succ hb] at hr; exact ⟨lq x ++ r, by rw [hr, List.append_assoc]⟩
theorem qt_here {P : ByteArray} {k x : Nat} (h : bt P k = some x) : Hr (nb (qt P)) (qp P k).length (lq x) := by
  have hk := (bt_lt h).1
  obtain ⟨r, hr⟩ := qp_rest P _ (k + 1) rfl (by omega)
  rw [qp_succ h, List.append_assoc] at hr
  intro j y hj
  rw [bt_nb _ (qt_lt P), hr, List.getElem?_append_right (by omega), Nat.add_sub_cancel_left]
  have hjl : j < (lq x).length := by
    rcases Nat.lt_or_ge j (lq x).length with h1 | h1
    · exact h1
    · rw [List.getElem?_eq_none h1] at hj; cases hj
  rw [List.getElem?_append_left hjl]
  exact hj
/-- A quote is read back. -/
theorem ll_quote (P : ByteArray) : ∀ f k : Nat, P.size - k = f → k ≤ P.size → k ≤ 255 →
    ll (nb (qt P)) 39 0 (qp P k).length (bp P k) = if P.size ≤ 255 then .inr (bp P P.size, (nb (qt P)).size) else .inl (2, 0)
  | 0, k, hf, hk, h5 => by
    obtain rfl : k = P.size := by omega
    have hb : bt (nb (qt P)) (qp P P.size).length = some 39 := by
      rw [bt_nb _ (qt_lt P)]
      unfold qt
      rw [List.getElem?_append_right (Nat.le_refl _), Nat.sub_self]; rfl
    rw [ll_end hb, if_pos (by omega), nb_size]
    unfold qt
    rw [List.length_append]; rfl
  | f + 1, k, hf, hk, h5 => by
    cases hb : bt P k with
    | none => have := bt_none hb; omega
    | some x =>
      obtain ⟨hs, hq⟩ := lsg_lq (bt_lt hb).2 (qt_here hb)
      have hlen := bp_len P k hk
      by_cases h6 : k = 255
      · rw [ll_long hq hs (by omega), if_neg (by omega)]
      · rw [ll_on hq hs (by omega), ← bp_succ hb, ← List.length_append, ← qp_succ hb]
        exact ll_quote P f (k + 1) (by omega) (by omega) (by omega)
/-- A quote's tokens. -/
theorem tkS_quote (P : ByteArray) : tkS (nb (qt P)) = if P.size ≤ 255 then .inr [(3, P, 0, 0), (6, { data := #[] }, 0, (nb (qt P)).size)] else .inl (2, 0) := by
  have h0 : bt (nb (qt P)) 0 = some 39 := by
    obtain ⟨r, hr⟩ := qp_rest P _ 0 rfl (Nat.zero_le _)
    rw [bt_nb _ (qt_lt P), hr]; rfl
  have s0 : sb (nb (qt P)) 0 = 0 := by rw [sb_eq h0]; rfl
  have hl := ll_quote P _ 0 rfl (Nat.zero_le _) (by omega)
  have hl2 : ll (nb (qt P)) 39 0 (0 + 1) [] = if P.size ≤ 255 then .inr (bp P P.size, (nb (qt P)).size) else .inl (2, 0) := hl
  have hT : tokAt (nb (qt P)) 0 39 = if P.size ≤ 255 then .inr ((3, P, 0, 0), (nb (qt P)).size) else .inl (false, (2, 0)) := by
    unfold tokAt
    rw [if_neg (by decide), if_pos (by omega), hl2]
    by_cases h5 : P.size ≤ 255
    · rw [if_pos h5, if_pos h5]; simp only [nb_bp]
    · rw [if_neg h5, if_neg h5]
  unfold tkS
  rw [s0]
  by_cases h5 : P.size ≤ 255
  · rw [if_pos h5] at hT ⊢
    rw [tks_on h0 hT, sb_none (bt_ge (Nat.le_refl _)), tks_end (Nat.le_refl _)]; rfl
  · rw [if_neg h5] at hT ⊢
    rw [tks_bad h0 hT]; rfl
end Go.Proofs.YtikfnaffiehpaaaGreatDoor
namespace Go.Proofs.YtikfnaffiehpaaaGreatDoor
open Go.RowKit
set_option linter.unusedVariables false
theorem at_nb (l : List Nat) (hl : ∀ x ∈ l, x < 256) (k x : Nat) (h : l[k]? = some x) : At (nb l) k x := by
  obtain ⟨hk, e⟩ := List.getElem?_eq_some_iff.1 h
  refine ⟨by rw [nb_size]; exact hk, ?_⟩
  have hx := hl x (by rw [← e]; exact List.getElem_mem hk)
  have hg : (nb l)[k]'(by rw [nb_size]; exact hk) = UInt8.ofNat x := by
    rw [ByteArray.getElem_eq_getElem_data]
    simp [nb, e]
  rw [hg]
  simp
  omega
theorem sgn_form (b : Nat) : (∃ t, sgn b = 92 :: t ∧ t ≠ []) ∨ (sgn b = [b] ∧ mark b = false ∧ 32 ≤ b ∧ b ≤ 126) := by
  unfold sgn
  split
  · exact .inl ⟨_, rfl, by simp⟩
  · split
    · exact .inl ⟨_, rfl, by simp⟩
    · split
      · exact .inl ⟨_, rfl, by simp⟩
      · split
        · exact .inl ⟨_, rfl, by simp⟩
        · rename_i hm
          split
          · rename_i hp
            exact .inr ⟨rfl, by simpa using hm, hp.1, hp.2⟩
          · exact .inl ⟨_, rfl, by simp⟩
/-- In the text S there stand these bytes from k on. -/
def Here (S : ByteArray) (k : Nat) (l : List Nat) : Prop := ∀ j x, l[j]? = some x → At S (k + j) x
theorem Here.left {S : ByteArray} {k : Nat} {a b : List Nat} (h : Here S k (a ++ b)) : Here S k a := fun j x hj => h j x (by
  rw [List.getElem?_append_left (List.getElem?_eq_some_iff.1 hj).1]; exact hj)
theorem Here.right {S : ByteArray} {k : Nat} {a b : List Nat} (h : Here S k (a ++ b)) : Here S (k + a.length) b := fun j x hj => by
  have := h (a.length + j) x (by rw [List.getElem?_append_right (by omega), show a.length + j - a.length = j by omega]; exact hj)
  rw [← Nat.add_assoc] at this
  exact this
theorem Here.head {S : ByteArray} {k x : Nat} {l : List Nat} (h : Here S k (x :: l)) : At S k x := h 0 x rfl
/-- The members that the rows are written as. -/
def its : List (Nat × Nat) → List (Nat × Nat)
  | [] => []
  | p :: t => (if p.2 = p.1 + 1 then [(p.1, p.1), (p.2, p.2)] else [p]) ++ its t
def itxt (p : Nat × Nat) : List Nat := if p.1 = p.2 then sgn p.1 else sgn p.1 ++ ([45] ++ sgn p.2)
def ibody : List (Nat × Nat) → List Nat
  | [] => []
  | p :: t => itxt p ++ ibody t
theorem ibody_append : ∀ (a b : List (Nat × Nat)), ibody (a ++ b) = ibody a ++ ibody b
  | [], b => rfl
  | p :: t, b => by simp only [List.cons_append, ibody, ibody_append t b, List.append_assoc]
theorem body_its : ∀ (L : List (Nat × Nat)), (∀ p ∈ L, p.1 ≤ p.2) → body L = ibody (its L)
  | [], _ => rfl
  | p :: t, h => by
    have hp := h p (List.mem_cons_self ..)
    rw [body, its, ibody_append, body_its t (fun q hq => h q (List.mem_cons_of_mem _ hq))]
    congr 1
    unfold memb
    by_cases h1 : p.2 = p.1 + 1
    · rw [if_pos h1, if_neg (by omega), if_pos (by omega)]
      simp [ibody, itxt]
    · rw [if_neg h1]
      by_cases h2 : p.1 = p.2
      · rw [if_neg (by omega), if_neg (by omega)]
        simp [ibody, itxt, h2]
      · rw [if_pos (by omega), if_pos (by omega)]
        simp [ibody, itxt, h2]
def uo : List (Nat × Nat) → Nat
  | [] => 0
  | p :: t => seg p.1 (p.2 + 1) ||| uo t
theorem uo_append : ∀ (a b : List (Nat × Nat)), uo (a ++ b) = uo a ||| uo b
  | [], b => by simp [uo]
  | p :: t, b => by simp only [List.cons_append, uo, uo_append t b, Nat.or_assoc]
theorem uo_rev : ∀ (Q : List (Nat × Nat)), uo Q.reverse = un Q
  | [] => rfl
  | p :: t => by rw [List.reverse_cons, uo_append, uo_rev t, un]; simp [uo]
theorem seg_two (a : Nat) : seg a (a + 1 + 1) = seg a (a + 1) ||| seg (a + 1) (a + 1 + 1) := by
  apply Nat.eq_of_testBit_eq
  intro j
  rw [Nat.testBit_or, seg_bit, seg_bit, seg_bit]
  by_cases h1 : a ≤ j <;> by_cases h2 : j < a + 1 <;> by_cases h3 : a + 1 ≤ j <;> by_cases h4 : j < a + 1 + 1 <;> simp [h1, h2, h3, h4] <;> omega
theorem uo_its : ∀ (L : List (Nat × Nat)), uo (its L) = uo L
  | [] => rfl
  | p :: t => by
    rw [its, uo_append, uo_its t, uo]
    congr 1
    by_cases h1 : p.2 = p.1 + 1
    · rw [if_pos h1, h1, seg_two]; simp [uo]
    · rw [if_neg h1]; simp [uo]
theorem its_ok : ∀ (L : List (Nat × Nat)), (∀ p ∈ L, p.1 ≤ p.2 ∧ p.2 < 256) → ∀ p ∈ its L, p.1 ≤ p.2 ∧ p.2 < 256
  | [], _, p, hp => by simp [its] at hp
  | q :: t, h, p, hp => by
    have hq := h q (List.mem_cons_self ..)
    rw [its, List.mem_append] at hp
    rcases hp with hp | hp
    · split at hp
      · simp at hp; rcases hp with rfl | rfl <;> simp <;> omega
      · simp at hp; subst hp; exact hq
    · exact its_ok t (fun r hr => h r (List.mem_cons_of_mem _ hr)) p hp
theorem uo_lt : ∀ (I : List (Nat × Nat)), (∀ p ∈ I, p.1 ≤ p.2 ∧ p.2 < 256) → uo I < 2 ^ 256
  | [], _ => by simp [uo]
  | p :: t, h => Nat.or_lt_two_pow (seg_lt _ _ (by have := h p (List.mem_cons_self ..); omega)) (uo_lt t (fun q hq => h q (List.mem_cons_of_mem _ hq)))
theorem itxt_head (p : Nat × Nat) : ∃ y t, itxt p = y :: t ∧ (y == 45) = false ∧ (y == 94) = false ∧ (y == 93) = false := by
  have : ∃ t, itxt p = sgn p.1 ++ t := by
    unfold itxt
    split
    · exact ⟨[], by simp⟩
    · exact ⟨_, rfl⟩
  obtain ⟨t, ht⟩ := this
  rcases sgn_form p.1 with ⟨u, hu, _⟩ | ⟨hu, hm, _, _⟩
  · exact ⟨92, u ++ t, by rw [ht, hu]; rfl, rfl, rfl, rfl⟩
  · unfold mark at hm
    simp at hm
    exact ⟨p.1, t, by rw [ht, hu]; rfl, by simp; omega, by simp; omega, by simp; omega⟩
theorem ibody_head (I : List (Nat × Nat)) : ∃ y t, ibody I ++ [93] = y :: t ∧ (y == 45) = false ∧ (y == 94) = false := by
  cases I with
  | nil => exact ⟨93, [], rfl, rfl, rfl⟩
  | cons p t =>
    obtain ⟨y, u, hu, h1, h2, h3⟩ := itxt_head p
    exact ⟨y, u ++ ibody t ++ [93], by rw [ibody, hu]; simp, h1, h2⟩
theorem dg_of {S : ByteArray} {k d : Nat} (hd : d < 16) (h : At S k (hexd d)) : dg S k = some d := by
  unfold dg
  rw [bt_of h]
  exact dgv_hexd d hd
theorem sg_sgn {S : ByteArray} {k b : Nat} (hb : b < 256) (h : Here S k (sgn b)) : sg S k = .inr (b, k + (sgn b).length) := by
  unfold sgn at h ⊢
  split at h
  · rename_i e; subst e
    have a0 := bt_of (h 0 92 rfl); have a1 := bt_of (h 1 110 rfl)
    simp only [Nat.add_zero] at a0
    unfold sg esc; rw [a0]; simp [a1, escv]
  · rename_i h1
    split at h
    · rename_i e; subst e
      have a0 := bt_of (h 0 92 rfl); have a1 := bt_of (h 1 114 rfl)
      simp only [Nat.add_zero] at a0
      unfold sg esc; rw [a0]; simp [a1, escv]
    · rename_i h2
      split at h
      · rename_i e; subst e
        have a0 := bt_of (h 0 92 rfl); have a1 := bt_of (h 1 116 rfl)
        simp only [Nat.add_zero] at a0
        unfold sg esc; rw [a0]; simp [a1, escv]
      · rename_i h3
        split at h
        · rename_i hm
          have a0 := bt_of (h 0 92 rfl); have a1 := bt_of (h 1 b rfl)
          simp only [Nat.add_zero] at a0
          have hn : b ≠ 110 ∧ b ≠ 114 ∧ b ≠ 116 := by
            unfold mark at hm
            simp at hm
            omega
          rw [if_neg h1, if_neg h2, if_neg h3, if_pos hm]
          unfold sg esc; rw [a0]; simp [a1, escv, hn.1, hn.2.1, hn.2.2, hm]
        · rename_i hm
          split at h
          · rename_i hp
            have a0 := bt_of (h 0 b rfl)
            simp only [Nat.add_zero] at a0
            have hmf : mark b = false := by simpa using hm
            have hn : b ≠ 92 := by intro e; subst e; simp [mark] at hmf
            rw [if_neg h1, if_neg h2, if_neg h3, if_neg hm, if_pos hp]
            unfold sg; rw [a0]; simp [hn, plain, hmf, hp.1, hp.2]
          · rename_i hp
            have a0 := bt_of (h 0 92 rfl); have a1 := bt_of (h 1 120 rfl)
            have a2 := dg_of (by omega) (h 2 _ rfl); have a3 := dg_of (by omega) (h 3 _ rfl)
            simp only [Nat.add_zero] at a0
            rw [if_neg h1, if_neg h2, if_neg h3, if_neg hm, if_neg hp]
            unfold sg esc; rw [a0]
            have hm120 : mark 120 = false := rfl
            simp only [if_true, a1, escv, hm120]
            unfold digs
            rw [show k + 1 + 1 = k + 2 from rfl, a2, show k + 2 + 1 = k + 3 from rfl, a3]
            simp
            omega
theorem mbr_itxt {S : ByteArray} {k y : Nat} {p : Nat × Nat} {t : List Nat} (h1 : p.1 ≤ p.2) (h2 : p.2 < 256) (hy : (y == 45) = false) (h : Here S k (itxt p ++ (y :: t))) : mbr S k = .inr (seg p.1 (p.2 + 1), k + (itxt p).length) := by
  have hl := h.left
  have hr := h.right
  unfold itxt at hl hr ⊢
  by_cases e : p.1 = p.2
  · rw [if_pos e] at hl hr ⊢
    unfold mbr
    rw [sg_sgn (by omega) hl]
    have hb := bt_of hr.head
    simp only
    rw [hb, if_neg (by simpa using hy), ← e]
  · rw [if_neg e] at hl ⊢
    have hl1 := hl.left
    have hl2 := hl.right
    have hb := bt_of hl2.head
    have hl3 : Here S (k + (sgn p.1).length + 1) (sgn p.2) := hl2.right
    unfold mbr
    rw [sg_sgn (by omega) hl1]
    simp only
    rw [hb, if_pos rfl, sg_sgn h2 hl3]
    simp only
    rw [if_neg (by omega)]
    simp
    omega
theorem mm_ibody {S : ByteArray} : ∀ (I : List (Nat × Nat)) (k acc : Nat), (∀ p ∈ I, p.1 ≤ p.2 ∧ p.2 < 256) → Here S k (ibody I ++ [93]) → mm S k acc = .inr (acc ||| uo I, k + (ibody I).length + 1)
  | [], k, acc, _, h => by
    rw [mm_end (bt_of h.head)]
    simp [uo, ibody]
  | p :: t, k, acc, hI, h => by
    obtain ⟨y, u, hyu, hy, _⟩ := ibody_head t
    have hp := hI p (List.mem_cons_self ..)
    have h' : Here S k (itxt p ++ (ibody t ++ [93])) := by rw [← List.append_assoc]; exact h
    have hr := h'.right
    rw [hyu] at h'
    have hm := mbr_itxt hp.1 hp.2 hy h'
    obtain ⟨z, v, hz, _, _, hz3⟩ := itxt_head p
    have h93 : ¬ bt S k = some 93 := by
      have h2 := h
      rw [ibody, hz] at h2
      rw [bt_of h2.head]
      simpa using hz3
    rw [mm_on h93 hm, mm_ibody t _ _ (fun q hq => hI q (List.mem_cons_of_mem _ hq)) hr]
    simp only [uo, ibody, List.length_append, Nat.or_assoc]
    simp
    omega
theorem clsP_txt {S : ByteArray} {I : List (Nat × Nat)} (hI : ∀ p ∈ I, p.1 ≤ p.2 ∧ p.2 < 256) (h : Here S 0 ([91] ++ (ibody I ++ [93]))) : clsP S = .inr (uo I, 1 + (ibody I).length + 1) := by
  have h1 : Here S 1 (ibody I ++ [93]) := h.right
  obtain ⟨y, u, hyu, _, hy⟩ := ibody_head I
  have h94 : ¬ bt S 1 = some 94 := by
    have h2 := h1
    rw [hyu] at h2
    rw [bt_of h2.head]
    simpa using hy
  unfold clsP
  rw [if_pos (bt_of h.head), if_neg h94, mm_ibody I 1 0 hI h1]
  simp

/-! A text that is cut off. -/
end Go.Proofs.YtikfnaffiehpaaaGreatDoor
namespace Go.Proofs.YtikfnaffiehpaaaGreatDoor
open Go.RowKit
set_option linter.unusedVariables false
theorem ext_bt {A B : ByteArray} (h : ∀ j, bt A j = bt B j) : A = B := by
  have hs : A.size = B.size := by
    rcases Nat.lt_trichotomy A.size B.size with h1 | h1 | h1
    · have h2 := h A.size
      rw [bt_ge (Nat.le_refl _)] at h2
      have := bt_none h2.symm
      omega
    · exact h1
    · have h2 := h B.size
      rw [bt_ge (Nat.le_refl _)] at h2
      have := bt_none h2
      omega
  apply ByteArray.ext
  apply Array.ext
  · exact hs
  · intro i h1 h2
    have h3 := h i
    have e1 : bt A i = some (A.data[i].toNat) := by unfold bt; rw [dif_pos (show i < A.size from h1)]; rfl
    have e2 : bt B i = some (B.data[i].toNat) := by unfold bt; rw [dif_pos (show i < B.size from h2)]; rfl
    rw [e1, e2] at h3
    exact UInt8.toNat.inj (Option.some.inj h3)
theorem bt_ext (S : ByteArray) (p e j : Nat) (he : e ≤ S.size) : bt (S.extract p e) j = if p + j < e then bt S (p + j) else none := by
  have hsz : (S.extract p e).size = e - p := by rw [ByteArray.size_extract]; omega
  by_cases h : p + j < e
  · rw [if_pos h]
    unfold bt
    rw [dif_pos (by omega), dif_pos (by omega), ByteArray.getElem_extract]
  · rw [if_neg h, bt_ge (by omega)]
/-- S's bytes from a on stand in X from b on, L of them. -/
def Seg (S X : ByteArray) (a b L : Nat) : Prop := ∀ j, j < L → bt X (b + j) = bt S (a + j)
theorem Seg.dg {S X : ByteArray} {a b L i : Nat} (h : Seg S X a b L) (hi : i < L) : dg X (b + i) = dg S (a + i) := by
  show (bt X (b + i)).bind dgv = (bt S (a + i)).bind dgv
  rw [h i hi]
theorem Seg.digs {S X : ByteArray} {a b L i i' y : Nat} (h : Seg S X a b L) (hd : digs S (a + i) = .inr (y, a + i')) (hi : i' ≤ L) : digs X (b + i) = .inr (y, b + i') := by
  obtain ⟨q, r, h1, h2, h3, h4⟩ := digs_ok hd
  have e1 := h.dg (i := i) (by omega)
  have e2 := h.dg (i := i + 1) (by omega)
  unfold Proofs.YtikfnaffiehpaaaGreatDoor.digs
  rw [e1, h1]
  simp only
  rw [show b + i + 1 = b + (i + 1) by omega, e2, show a + (i + 1) = a + i + 1 by omega, h2]
  simp only
  rw [h3, show b + i + 2 = b + i' by omega]
theorem Seg.lsg {S X : ByteArray} {a b L i i' y : Nat} (h : Seg S X a b L) (hd : lsg S (a + i) = .inr (y, a + i')) (hi : i' ≤ L) : lsg X (b + i) = .inr (y, b + i') := by
  have hok := lsg_ok hd
  have e0 := h i (by omega)
  unfold Proofs.YtikfnaffiehpaaaGreatDoor.lsg at hd ⊢
  rw [e0]
  cases hb : bt S (a + i) with
  | none => rw [hb] at hd; cases hd
  | some x =>
    rw [hb] at hd
    simp only at hd ⊢
    split at hd
    · cases hd
    · rename_i hp
      rw [if_neg hp]
      split at hd
      · rename_i hx
        rw [if_pos hx]
        have hok2 := lesc_ok hd
        have e1 := h (i + 1) (by omega)
        unfold lesc at hd ⊢
        rw [show b + i + 1 = b + (i + 1) by omega, e1, show a + (i + 1) = a + i + 1 by omega]
        cases hb2 : bt S (a + i + 1) with
        | none => rw [hb2] at hd; cases hd
        | some z =>
          rw [hb2] at hd
          simp only at hd ⊢
          cases hv : lescv z with
          | some v =>
            rw [hv] at hd
            simp only [Sum.inr.injEq, Prod.mk.injEq] at hd ⊢
            omega
          | none =>
            rw [hv] at hd
            simp only at hd ⊢
            split at hd
            · rename_i hz
              rw [if_pos hz]
              rw [show b + (i + 1) + 1 = b + (i + 2) by omega]
              exact h.digs (by rw [show a + (i + 2) = a + i + 1 + 1 by omega]; exact hd) hi
            · cases hd
      · rename_i hx
        rw [if_neg hx]
        simp only [Sum.inr.injEq, Prod.mk.injEq] at hd ⊢
        omega
theorem Seg.llit {S X : ByteArray} {a b L q p p' i' : Nat} {l : List Nat} (h : Seg S X a b L) (hi : i' ≤ L) : ∀ (f i : Nat) (acc : List Nat), acc.length ≤ 255 → (∀ x ∈ acc, x < 256) →
    llit S q p f (a + i) acc = .inr (l, a + i') → ll X q p' (b + i) acc = .inr (l, b + i')
  | 0, i, acc, _, _, hd => by rw [Proofs.YtikfnaffiehpaaaGreatDoor.llit] at hd; cases hd
  | f + 1, i, acc, ha, hx, hd => by
    have hok := llit_ok S q p _ _ _ _ _ hd hx ha
    have e0 := h i (by omega)
    rw [Proofs.YtikfnaffiehpaaaGreatDoor.llit] at hd
    split at hd
    · rename_i hb
      simp only [Sum.inr.injEq, Prod.mk.injEq] at hd
      rw [ll_end (by rw [e0]; exact hb), hd.1, show b + i + 1 = b + i' by omega]
    · rename_i hb
      split at hd
      · cases hd
      · rename_i y n hs
        have hok1 := lsg_ok hs
        obtain ⟨i1, rfl⟩ : ∃ i1, n = a + i1 := ⟨n - a, by omega⟩
        split at hd
        · cases hd
        · rename_i h5
          have hx2 : ∀ x ∈ acc ++ [y], x < 256 := fun x hx' => by
            rcases List.mem_append.1 hx' with h | h
            · exact hx x h
            · simp at h; omega
          have hok2 := llit_ok S q p _ _ _ _ _ hd hx2 (by simp; omega)
          rw [ll_on (by rw [e0]; exact hb) (h.lsg hs (by omega)) h5]
          exact Seg.llit h hi f i1 (acc ++ [y]) (by simp; omega) hx2 hd
theorem Seg.ll {S X : ByteArray} {a b L q p p' i i' : Nat} {l : List Nat} (h : Seg S X a b L) (hi : i' ≤ L) (hd : ll S q p (a + i) [] = .inr (l, a + i')) : ll X q p' (b + i) [] = .inr (l, b + i') :=
  Seg.llit h hi _ i [] (by simp) (fun x hx => by simp at hx) hd
/-- Two texts that begin alike. -/
def Agr (T V : ByteArray) (M : Nat) : Prop := ∀ j, j < M → bt V j = bt T j
theorem Agr.digs {T V : ByteArray} {M k y n : Nat} (h : Agr T V M) (hd : digs T k = .inr (y, n)) (hn : n ≤ M) : digs V k = .inr (y, n) := by
  have := Seg.digs (S := T) (X := V) (a := 0) (b := 0) (L := M) (i := k) (i' := n) (y := y) (fun j hj => by simpa using h j hj) (by simpa using hd) hn
  simpa using this
theorem Agr.sg {T V : ByteArray} {M k y n : Nat} (h : Agr T V M) (hd : sg T k = .inr (y, n)) (hn : n ≤ M) : sg V k = .inr (y, n) := by
  have hok := sg_ok hd
  have e0 := h k (by omega)
  unfold Proofs.YtikfnaffiehpaaaGreatDoor.sg at hd ⊢
  rw [e0]
  cases hb : bt T k with
  | none => rw [hb] at hd; cases hd
  | some x =>
    rw [hb] at hd
    simp only at hd ⊢
    split at hd
    · rename_i hx
      rw [if_pos hx]
      have hok2 := esc_ok hd
      have e1 := h (k + 1) (by omega)
      unfold esc at hd ⊢
      rw [e1]
      cases hb2 : bt T (k + 1) with
      | none => rw [hb2] at hd; cases hd
      | some z =>
        rw [hb2] at hd
        simp only at hd ⊢
        cases hv : escv z with
        | some v => rw [hv] at hd; exact hd
        | none =>
          rw [hv] at hd
          simp only at hd ⊢
          split at hd
          · rename_i hz
            rw [if_pos hz]
            exact h.digs hd hn
          · cases hd
    · rename_i hx
      rw [if_neg hx]
      split at hd
      · rename_i hp
        rw [if_pos hp]
        exact hd
      · cases hd
theorem Agr.mbr {T V : ByteArray} {M k y n : Nat} (h : Agr T V M) (hd : mbr T k = .inr (y, n)) (hn : n < M) : mbr V k = .inr (y, n) := by
  have hok := mbr_ok hd
  unfold Proofs.YtikfnaffiehpaaaGreatDoor.mbr at hd ⊢
  cases hs : Proofs.YtikfnaffiehpaaaGreatDoor.sg T k with
  | inl e => rw [hs] at hd; cases hd
  | inr r =>
    obtain ⟨lo, m⟩ := r
    have hok1 := sg_ok hs
    rw [hs] at hd
    simp only at hd
    split at hd
    · rename_i h45
      have hm : m < n := by
        split at hd
        · cases hd
        · rename_i hi m2 hs2
          have := sg_ok hs2
          split at hd
          · cases hd
          · simp only [Sum.inr.injEq, Prod.mk.injEq] at hd; omega
      rw [h.sg hs (by omega)]
      simp only
      rw [if_pos (by rw [h m (by omega)]; exact h45)]
      cases hs2 : Proofs.YtikfnaffiehpaaaGreatDoor.sg T (m + 1) with
      | inl e => rw [hs2] at hd; cases hd
      | inr r2 =>
        obtain ⟨hi, m2⟩ := r2
        rw [hs2] at hd
        simp only at hd
        split at hd
        · cases hd
        · rename_i hle
          have hd2 := hd
          simp only [Sum.inr.injEq, Prod.mk.injEq] at hd2
          rw [h.sg hs2 (by omega)]
          simp only
          rw [if_neg hle]
          exact hd
    · rename_i h45
      have hd2 := hd
      simp only [Sum.inr.injEq, Prod.mk.injEq] at hd2
      rw [h.sg hs (by omega)]
      simp only
      rw [if_neg (by rw [h m (by omega)]; exact h45)]
      exact hd
theorem Agr.mems {T V : ByteArray} {M C n : Nat} (h : Agr T V M) (hn : n ≤ M) : ∀ (f k acc : Nat), mems T f k acc = .inr (C, n) → k < n ∧ n ≤ T.size ∧ mm V k acc = .inr (C, n)
  | 0, k, acc, hd => by rw [Proofs.YtikfnaffiehpaaaGreatDoor.mems] at hd; cases hd
  | f + 1, k, acc, hd => by
    rw [Proofs.YtikfnaffiehpaaaGreatDoor.mems] at hd
    split at hd
    · rename_i hb
      have h1 := (bt_lt hb).1
      have hd2 := hd
      simp only [Sum.inr.injEq, Prod.mk.injEq] at hd2
      refine ⟨by omega, by omega, ?_⟩
      rw [mm_eq, if_pos (by rw [h k (by omega)]; exact hb)]
      exact hd
    · rename_i hb
      cases hm : Proofs.YtikfnaffiehpaaaGreatDoor.mbr T k with
      | inl e => rw [hm] at hd; cases hd
      | inr r =>
        obtain ⟨Y, m⟩ := r
        rw [hm] at hd
        have hok := mbr_ok hm
        obtain ⟨h1, h2, h3⟩ := Agr.mems h hn f m _ hd
        refine ⟨by omega, h2, ?_⟩
        rw [mm_eq, if_neg (by rw [h k (by omega)]; exact hb), h.mbr hm (by omega)]
        exact h3
theorem Agr.cls {T V : ByteArray} {M C n : Nat} (h : Agr T V M) (hd : clsP T = .inr (C, n)) (hn : n ≤ M) : clsP V = .inr (C, n) := by
  rw [clsP_ng] at hd ⊢
  split at hd
  · rename_i h0
    split at hd
    · rename_i h1
      cases hm : mm T 2 0 with
      | inl e => rw [hm] at hd; cases hd
      | inr r =>
        obtain ⟨D, m⟩ := r
        rw [hm] at hd
        have hd2 := hd
        simp only [ng, Sum.inr.injEq, Prod.mk.injEq] at hd2
        obtain ⟨a1, a2, a3⟩ := h.mems (n := m) (by omega) _ _ _ hm
        rw [if_pos (by rw [h 0 (by omega)]; exact h0), if_pos (by rw [h 1 (by omega)]; exact h1), a3]
        exact hd
    · rename_i h1
      obtain ⟨a1, a2, a3⟩ := h.mems hn _ _ _ hd
      rw [if_pos (by rw [h 0 (by omega)]; exact h0), if_neg (by rw [h 1 (by omega)]; exact h1), a3]
  · cases hd
/-- No byte of a name. -/
def Stop (X : ByteArray) (k : Nat) : Prop := bt X k = some 10 ∨ bt X k = none
theorem Stop.ne {X : ByteArray} {k : Nat} (h : Stop X k) : ne X k = k := by
  rcases h with h | h
  · rw [ne_eq h]; rfl
  · exact ne_none h
theorem Seg.ne {S X : ByteArray} {a b L : Nat} (h : Seg S X a b L) (hs : Stop X (b + L)) : ∀ (f i i' : Nat), L - i = f → i ≤ L → i' ≤ L → ne S (a + i) = a + i' → ne X (b + i) = b + i'
  | 0, i, i', hf, hi, hi', hd => by
    obtain rfl : i = L := by omega
    have : i' = i := by
      have := (nend_le S (S.size - (a + i)) (a + i)).1
      have h2 : a + i ≤ Proofs.YtikfnaffiehpaaaGreatDoor.ne S (a + i) := this
      omega
    rw [hs.ne, this]
  | f + 1, i, i', hf, hi, hi', hd => by
    have e0 := h i (by omega)
    cases hb : bt S (a + i) with
    | none =>
      rw [ne_none hb] at hd
      rw [ne_none (by rw [e0]; exact hb)]
      omega
    | some x =>
      rw [ne_eq hb] at hd
      rw [ne_eq (by rw [e0]; exact hb)]
      cases hx : (letB x || digB x) with
      | false => rw [hx] at hd; simp at hd ⊢; omega
      | true =>
        rw [hx] at hd
        simp only [if_true] at hd ⊢
        exact Seg.ne h hs f (i + 1) i' (by omega) (by omega) hi' hd
theorem Seg.text {S X : ByteArray} {a b L i i' : Nat} (h : Seg S X a b L) (hi : i' ≤ L) (h1 : a + i' ≤ S.size) (h2 : b + i' ≤ X.size) : X.extract (b + i) (b + i') = S.extract (a + i) (a + i') := by
  apply ext_bt
  intro j
  rw [bt_ext X _ _ _ h2, bt_ext S _ _ _ h1]
  by_cases hj : i + j < i'
  · rw [if_pos (by omega), if_pos (by omega), show b + i + j = b + (i + j) by omega, h (i + j) (by omega), show a + (i + j) = a + i + j by omega]
  · rw [if_neg (by omega), if_neg (by omega)]
/-- A token that stands in another text too. -/
theorem Seg.tok {S X : ByteArray} {a b L i i' x : Nat} {t : Tok} (h : Seg S X a b L) (hs : Stop X (b + L)) (hX : b + L ≤ X.size) (hb : bt S (a + i) = some x) (ht : tokAt S (a + i) x = .inr (t, a + i')) (hi : i' ≤ L) :
    tokAt X (b + i) x = .inr ((t.1, t.2.1, t.2.2.1, b + i), b + i') ∧ bt X (b + i) = some x := by
  have hok := tokAt_ok hb ht
  have e0 := h i (by omega)
  refine ⟨?_, by rw [e0]; exact hb⟩
  unfold tokAt at ht ⊢
  split at ht
  · rename_i hl
    rw [if_pos hl]
    split at ht
    · cases ht
    · rename_i h32
      simp only [Sum.inr.injEq, Prod.mk.injEq] at ht
      obtain ⟨rfl, hn⟩ := ht
      have hne := h.ne hs _ i i' rfl (by omega) hi hn
      rw [hne, if_neg (by omega), h.text hi (by omega) (by omega), hn]
  · rename_i hl
    rw [if_neg hl]
    split at ht
    · rename_i hq
      rw [if_pos hq]
      cases hm : Proofs.YtikfnaffiehpaaaGreatDoor.ll S x (a + i) (a + i + 1) [] with
      | inl c => rw [hm] at ht; cases ht
      | inr r =>
        obtain ⟨l, n⟩ := r
        rw [hm] at ht
        simp only [Sum.inr.injEq, Prod.mk.injEq] at ht
        obtain ⟨rfl, rfl⟩ := ht
        have := h.ll (p := a + i) (p' := b + i) (q := x) (i := i + 1) hi hm
        rw [show b + i + 1 = b + (i + 1) by omega, this]
    · rename_i hq
      rw [if_neg hq]
      split at ht
      · rename_i hc
        rw [if_pos hc]
        cases hm : clsP (S.extract (a + i) S.size) with
        | inl c => rw [hm] at ht; cases ht
        | inr r =>
          obtain ⟨C, n⟩ := r
          rw [hm] at ht
          simp only [Sum.inr.injEq, Prod.mk.injEq] at ht
          obtain ⟨rfl, hn⟩ := ht
          have hg : Agr (S.extract (a + i) S.size) (X.extract (b + i) X.size) n := fun j hj => by
            rw [bt_ext X _ _ _ (Nat.le_refl _), bt_ext S _ _ _ (Nat.le_refl _), if_pos (by omega), if_pos (by omega), show b + i + j = b + (i + j) by omega, h (i + j) (by omega), show a + (i + j) = a + i + j by omega]
          rw [hg.cls hm (Nat.le_refl _)]
          simp only [Sum.inr.injEq, Prod.mk.injEq, true_and]
          omega
      · rename_i hc
        rw [if_neg hc]
        split at ht
        · rename_i ha
          simp only [Sum.inr.injEq, Prod.mk.injEq] at ht
          obtain ⟨rfl, hn⟩ := ht
          have e1 := h (i + 1) (by omega)
          have : arB X (b + i) = true := by
            unfold arB at ha ⊢
            rw [e0, show b + i + 1 = b + (i + 1) by omega, e1, show a + (i + 1) = a + i + 1 by omega]
            exact ha
          rw [if_pos this]
          simp only [Sum.inr.injEq, Prod.mk.injEq, true_and]
          omega
        · rename_i ha
          split at ht
          · rename_i hmk
            have : arB X (b + i) = false := by
              unfold arB
              rw [e0, hb]
              have : x ≠ 60 := fun e => by rw [e] at hmk; exact absurd hmk (by decide)
              simp [this]
            rw [if_neg (by rw [this]; simp), if_pos hmk]
            simp only [Sum.inr.injEq, Prod.mk.injEq] at ht
            obtain ⟨rfl, hn⟩ := ht
            simp only [Sum.inr.injEq, Prod.mk.injEq, true_and]
            omega
          · cases ht
end Go.Proofs.YtikfnaffiehpaaaGreatDoor
namespace Go.Proofs.YtikfnaffiehpaaaGreatDoor
open Go.RowKit
set_option linter.unusedVariables false
theorem le_none {S : ByteArray} {k : Nat} (h : bt S k = none) : le S k = k := by
  have := bt_none h
  unfold le
  rw [show S.size - k = 0 by omega, lnd]
theorem le_eq {S : ByteArray} {k x : Nat} (h : bt S k = some x) : le S k = if x = 10 then k else le S (k + 1) := by
  rw [le_end (bt_lt h).1, h]
  simp
theorem Stop.le {X : ByteArray} {k : Nat} (h : Stop X k) : le X k = k := by
  rcases h with h | h
  · rw [le_eq h]; rfl
  · exact le_none h
theorem Seg.le {S X : ByteArray} {a b L : Nat} (h : Seg S X a b L) (hs : Stop X (b + L)) (hL : a + L ≤ S.size) : ∀ (f i i' : Nat), L - i = f → i ≤ L → i' ≤ L → le S (a + i) = a + i' → le X (b + i) = b + i'
  | 0, i, i', hf, hi, hi', hd => by
    obtain rfl : i = L := by omega
    have := (le_le (S := S) (k := a + i) hL).1
    rw [hs.le]; omega
  | f + 1, i, i', hf, hi, hi', hd => by
    have e0 := h i (by omega)
    cases hb : bt S (a + i) with
    | none => have := bt_none hb; omega
    | some x =>
      rw [le_eq hb] at hd
      rw [le_eq (by rw [e0]; exact hb)]
      by_cases hx : x = 10
      · rw [if_pos hx] at hd ⊢; omega
      · rw [if_neg hx] at hd ⊢
        exact Seg.le h hs hL f (i + 1) i' (by omega) (by omega) hi' hd
theorem Seg.sb {S X : ByteArray} {a b L : Nat} (h : Seg S X a b L) (hs : Stop X (b + L)) (hL : a + L ≤ S.size) : ∀ (f i m : Nat), L - i ≤ f → i ≤ L → m ≤ L → sb S (a + i) = a + m → sb X (b + i) = sb X (b + m)
  | 0, i, m, hf, hi, hm, hd => by
    have := (sb_ge (S := S) (n := a + i) (by omega)).1
    obtain rfl : i = m := by omega
    rfl
  | f + 1, i, m, hf, hi, hm, hd => by
    have hge := (sb_ge (S := S) (n := a + i) (by omega)).1
    by_cases hiL : i = L
    · obtain rfl : i = m := by omega
      rfl
    · have e0 := h i (by omega)
      cases hb : bt S (a + i) with
      | none => have := bt_none hb; omega
      | some x =>
        rw [sb_eq hb] at hd
        rw [sb_eq (by rw [e0]; exact hb)]
        cases hx : blB x with
        | true =>
          rw [hx] at hd
          simp only [if_true] at hd ⊢
          exact Seg.sb h hs hL f (i + 1) m (by omega) (by omega) hm hd
        | false =>
          rw [hx] at hd
          simp only [Bool.false_eq_true, if_false] at hd ⊢
          by_cases h35 : x = 35
          · rw [if_pos h35] at hd ⊢
            have hgt := le_gt hb (by omega)
            have hle := (le_le (S := S) (k := a + i) (by omega)).2
            have hge2 := (sb_ge (S := S) hle).1
            obtain ⟨i1, hi1⟩ : ∃ i1, Proofs.YtikfnaffiehpaaaGreatDoor.le S (a + i) = a + i1 := ⟨Proofs.YtikfnaffiehpaaaGreatDoor.le S (a + i) - a, by omega⟩
            rw [hi1] at hd hgt hge2
            rw [h.le hs hL _ i i1 rfl hi (by omega) hi1]
            exact Seg.sb h hs hL f i1 m (by omega) (by omega) hm hd
          · rw [if_neg h35] at hd ⊢
            obtain rfl : i = m := by omega
            rw [sb_eq (by rw [e0]; exact hb), hx]
            simp [h35]
theorem sb_fix {S : ByteArray} : ∀ (f k x : Nat), S.size - k ≤ f → k ≤ S.size → bt S (sb S k) = some x → blB x = false ∧ x ≠ 35
  | 0, k, x, hf, hk, hb => by rw [sb_none (bt_ge (by omega)), bt_ge (by omega)] at hb; cases hb
  | f + 1, k, x, hf, hk, hb => by
    cases hy : bt S k with
    | none => rw [sb_none hy, hy] at hb; cases hb
    | some y =>
      have hlt := (bt_lt hy).1
      rw [sb_eq hy] at hb
      cases h1 : blB y with
      | true => rw [h1] at hb; exact sb_fix f (k + 1) x (by omega) (by omega) hb
      | false =>
        rw [h1] at hb
        simp only [Bool.false_eq_true, if_false] at hb
        by_cases h2 : y = 35
        · rw [if_pos h2] at hb
          have hgt := le_gt hy (by omega)
          exact sb_fix f (le S k) x (by omega) (le_le hk).2 hb
        · rw [if_neg h2, hy] at hb
          cases hb
          exact ⟨h1, h2⟩
theorem sb_at {X : ByteArray} {k x : Nat} (hb : bt X k = some x) (h1 : blB x = false) (h2 : x ≠ 35) : sb X k = k := by
  rw [sb_eq hb, h1]
  simp [h2]
/-- A token with its place moved. -/
def sh (a b : Nat) (t : Tok) : Tok := (t.1, t.2.1, t.2.2.1, t.2.2.2 - a + b)
theorem lift_nil (r : Tr) : lift [] r = r := by cases r <;> simp [lift]
/-- All tokens of a text, in another one that goes on behind them with a new line or ends there. -/
theorem seg_toks {S X : ByteArray} {a b L : Nat} (h : Seg S X a b L) (hs : Stop X (b + L)) (hX : b + L ≤ X.size) (hL : a + L = S.size) : ∀ (f i : Nat) (m : List Tok), L - i ≤ f → i ≤ L →
    tks S (sb S (a + i)) [] = .inr m → tks X (sb X (b + i)) [] = lift (m.map (sh a b)) (tks X (sb X (b + L)) []) := by
  intro f
  induction f with
  | zero =>
    intro i m hf hi hd
    obtain rfl : i = L := by omega
    rw [sb_none (bt_ge (by omega)), tks_end (by omega)] at hd
    cases hd
    rw [List.map_nil, lift_nil]
  | succ f ih =>
    intro i m hf hi hd
    have hge := sb_ge (S := S) (n := a + i) (by omega)
    obtain ⟨i1, hi1⟩ : ∃ i1, Proofs.YtikfnaffiehpaaaGreatDoor.sb S (a + i) = a + i1 := ⟨Proofs.YtikfnaffiehpaaaGreatDoor.sb S (a + i) - a, by omega⟩
    rw [h.sb hs (by omega) _ i i1 (Nat.le_refl _) hi (by omega) hi1]
    rw [hi1] at hd hge
    cases hb : bt S (a + i1) with
    | none =>
      have hn := bt_none hb
      obtain rfl : i1 = L := by omega
      rw [tks_end (by omega)] at hd
      cases hd
      rw [List.map_nil, lift_nil]
    | some x =>
      have hlt := (bt_lt hb).1
      have hfx := sb_fix (S := S) _ (a + i) x (Nat.le_refl _) (by omega) (by rw [hi1]; exact hb)
      cases ht : tokAt S (a + i1) x with
      | inl c => rw [tks_bad hb ht] at hd; cases hd
      | inr r =>
        obtain ⟨t, n⟩ := r
        have hok := tokAt_ok hb ht
        obtain ⟨i2, rfl⟩ : ∃ i2, n = a + i2 := ⟨n - a, by omega⟩
        rw [tks_on hb ht, tks_acc] at hd
        cases hm : tks S (Proofs.YtikfnaffiehpaaaGreatDoor.sb S (a + i2)) [] with
        | inl c => rw [hm] at hd; cases hd
        | inr m' =>
          rw [hm] at hd
          simp only [lift, List.nil_append, List.singleton_append, Sum.inr.injEq] at hd
          subst hd
          obtain ⟨k1, k2⟩ := h.tok hs hX hb ht (by omega)
          rw [sb_at k2 hfx.1 hfx.2, tks_on k2 k1, tks_acc, ih i2 m' (by omega) (by omega) hm, lift_lift, List.map_cons, List.nil_append, List.singleton_append]
          congr 2
          unfold sh
          rw [hok.2.2.2.1, show a + i1 - a + b = b + i1 by omega]
theorem map_sh0 (m : List Tok) : m.map (sh 0 0) = m := by
  have : sh 0 0 = id := by funext t; simp [sh]
  rw [this, List.map_id]
/-- What stands behind a new line. -/
theorem toks_front {S X : ByteArray} {m : List Tok} (h : Seg S X 0 0 S.size) (h10 : bt X S.size = some 10) (hm : tks S (sb S 0) [] = .inr m) : tks X (sb X 0) [] = lift m (tks X (sb X (S.size + 1)) []) := by
  have hX := (bt_lt h10).1
  have := seg_toks h (.inl (by rw [Nat.zero_add]; exact h10)) (by omega) (by omega) _ 0 m (Nat.le_refl _) (Nat.zero_le _) hm
  rw [Nat.add_zero, Nat.zero_add, map_sh0, sb_eq h10] at this
  exact this
/-- Two sources, one behind the other in lines of their own. -/
theorem tkS_join {S U X : ByteArray} {m n : List Tok} (h1 : Seg S X 0 0 S.size) (h10 : bt X S.size = some 10) (h2 : Seg U X 0 (S.size + 1) U.size) (hX : X.size = S.size + 1 + U.size) (hm : tks S (sb S 0) [] = .inr m) (hn : tks U (sb U 0) [] = .inr n) :
    tkS X = .inr (m ++ n.map (sh 0 (S.size + 1)) ++ [(6, { data := #[] }, 0, X.size)]) := by
  have e1 := toks_front h1 h10 hm
  have e2 := seg_toks h2 (.inr (bt_ge (by omega))) (by omega) (by omega) _ 0 n (Nat.le_refl _) (Nat.zero_le _) hn
  rw [Nat.add_zero, show S.size + 1 + U.size = X.size by omega, sb_none (bt_ge (Nat.le_refl _)), tks_end (Nat.le_refl _)] at e2
  unfold tkS
  rw [e1, e2]
  simp [lift, tkE]
theorem le_all {X : ByteArray} : ∀ (f k : Nat), X.size - k = f → k ≤ X.size → (∀ i, k ≤ i → ¬ bt X i = some 10) → le X k = X.size
  | 0, k, hf, hk, h => by rw [le_none (bt_ge (by omega))]; omega
  | f + 1, k, hf, hk, h => by
    cases hb : bt X k with
    | none => have := bt_none hb; omega
    | some x =>
      rw [le_eq hb, if_neg (fun e => h k (Nat.le_refl _) (by rw [hb, e]))]
      exact le_all f (k + 1) (by omega) (by omega) (fun i hi => h i (by omega))
/-- A note at the end. -/
theorem tkS_note {S X : ByteArray} {m : List Tok} (h1 : Seg S X 0 0 S.size) (h10 : bt X S.size = some 10) (h35 : bt X (S.size + 1) = some 35) (hno : ∀ i, S.size + 1 ≤ i → ¬ bt X i = some 10) (hm : tks S (sb S 0) [] = .inr m) :
    tkS X = .inr (m ++ [(6, { data := #[] }, 0, X.size)]) := by
  have e1 := toks_front h1 h10 hm
  have hlt := (bt_lt h35).1
  have e2 : sb X (S.size + 1) = X.size := by
    rw [sb_eq h35, le_all _ (S.size + 1) rfl (by omega) hno, sb_none (bt_ge (Nat.le_refl _))]
    rfl
  rw [e2, tks_end (Nat.le_refl _)] at e1
  unfold tkS
  rw [e1]
  simp [lift, tkE]
end Go.Proofs.YtikfnaffiehpaaaGreatDoor
