/-
  What lex.Tokens answers at a text that is too long; plain facts on names and tokens. Conditions: those that each theorem names.
-/
import Derived.Test.YtbdhgfblkgkekaaDoorX16
import Derived.Laws.Strings
import Derived.WideShapes
namespace Go.Proofs.YtbdhgfblkgkekaaDoor
open Go.RowKit
set_option linter.unusedVariables false
set_option maxRecDepth 100000 in
theorem xtokens_long (S : ByteArray) (w : World) (hS : 8192 < S.size) :
    Calls Tryd.prog 10 #[.string S] w fun e w' => e = .returned (.tuple #[.slice none 0 0, flv w.heap.size]) ∧ w' = w.alloc (.cells #[.int .i64 2, .int .i64 (-1)] 44) := by
  have c0 : decide ((8192 : Int) < (S.size : Int)) = true := by simp; omega
  go_enter Tryd.func10, Tryd.ntmps10
  go_wp2_with fail
  (try simp only [Exit.inBlock, Exit.then])
  refine bodyPost_ret (v := .tuple #[.slice none 0 0, .iface 42 (.pointer (some ⟨w.heap.size, 0, none⟩))]) (by simp [results, Tryd.results10, go_sem]) rfl ?_
  exact ⟨rfl, rfl⟩
theorem str_ne {a b : ByteArray} (h : ¬ a = b) : (a.toList == b.toList) = false := by
  rw [ByteArray.toList_eq, ByteArray.toList_eq, beq_eq_false_iff_ne]
  exact fun e => h (WideShapes.bytes_inj e)
theorem str_eq (a : ByteArray) : (a.toList == a.toList) = true := by simp
/-- Tokens ahead of others. -/
def lift (acc : List Tok) (r : Tr) : Tr := match r with
  | .inl c => .inl c
  | .inr l => .inr (acc ++ l)
theorem lift_lift (a b : List Tok) (r : Tr) : lift a (lift b r) = lift (a ++ b) r := by
  cases r <;> simp [lift]
theorem tkl_acc (S : ByteArray) : ∀ (f k : Nat) (acc : List Tok), tkl S f k acc = lift acc (tkl S f k [])
  | 0, k, acc => by simp [tkl, lift]
  | f + 1, k, acc => by
    rw [tkl, tkl]
    cases bt S k with
    | none => simp [lift]
    | some x =>
      simp only
      cases tokAt S k x with
      | inl b => rfl
      | inr r =>
        obtain ⟨t, n⟩ := r
        simp only [List.nil_append]
        rw [tkl_acc S f (sb S n) (acc ++ [t]), tkl_acc S f (sb S n) [t], lift_lift]
theorem tks_acc (S : ByteArray) (k : Nat) (acc : List Tok) : tks S k acc = lift acc (tks S k []) := tkl_acc S _ k acc
theorem ext_all (S : ByteArray) : S.extract 0 S.size = S := by
  apply ByteArray.ext
  rw [ByteArray.data_extract]
  exact Array.extract_size
theorem letB_not {x : Nat} (h : letB x = true) : blB x = false ∧ x ≠ 35 := by
  unfold letB at h
  unfold blB
  simp at h
  refine ⟨?_, by omega⟩
  simp
  omega
/-- A name's tokens. -/
theorem named_toks {S : ByteArray} (h : nmS S = true) : tkS S = .inr [(1, S, 0, 0), (6, { data := #[] }, 0, S.size)] ∧ S.size ≤ 32 ∧ 0 < S.size := by
  unfold nmS at h
  cases hb : bt S 0 with
  | none => rw [hb] at h; cases h
  | some x =>
    rw [hb] at h
    simp at h
    obtain ⟨⟨h1, h2⟩, h3⟩ := h
    have hn := letB_not h2
    have s0 : sb S 0 = 0 := by rw [sb_eq hb, hn.1]; simp [hn.2]
    have ht : tokAt S 0 x = .inr ((1, S, 0, 0), S.size) := by
      unfold tokAt
      rw [h2, h3, ext_all]
      simp only [if_true]
      rw [if_neg (by omega)]
    refine ⟨?_, h1, (bt_lt hb).1⟩
    unfold tkS
    rw [s0, tks_on hb ht, sb_none (bt_ge (Nat.le_refl _)), tks_end (Nat.le_refl _)]
    rfl
theorem tks_inv {S : ByteArray} {k : Nat} {a : Tok} {l : List Tok} (h : tks S k [] = .inr (a :: l)) : ∃ x n, bt S k = some x ∧ tokAt S k x = .inr (a, n) ∧ tks S (sb S n) [] = .inr l := by
  cases hb : bt S k with
  | none => rw [tks_end (bt_none hb)] at h; cases h
  | some x =>
    cases ht : tokAt S k x with
    | inl b => rw [tks_bad hb ht] at h; cases h
    | inr r =>
      obtain ⟨t, n⟩ := r
      rw [tks_on hb ht, tks_acc] at h
      cases hm : tks S (sb S n) [] with
      | inl c => rw [hm] at h; cases h
      | inr m =>
        rw [hm] at h
        simp [lift] at h
        obtain ⟨rfl, rfl⟩ := h
        exact ⟨x, n, rfl, ht, hm⟩
theorem tkS_inv {S : ByteArray} {l : List Tok} (h : tkS S = .inr l) : ∃ m, tks S (sb S 0) [] = .inr m ∧ l = m ++ [(6, { data := #[] }, 0, S.size)] := by
  unfold tkS at h
  cases hm : tks S (sb S 0) [] with
  | inl c => rw [hm] at h; cases h
  | inr m => rw [hm] at h; simp [tkE] at h; exact ⟨m, rfl, h.symm⟩
theorem tokAt_name {S : ByteArray} {p x n : Nat} {t : Tok} (h : tokAt S p x = .inr (t, n)) (h1 : t.1 = 1) : letB x = true ∧ ne S p - p ≤ 32 ∧ t = (1, S.extract p (ne S p), 0, p) := by
  unfold tokAt at h
  split at h
  · rename_i hl
    split at h
    · cases h
    · simp only [Sum.inr.injEq, Prod.mk.injEq] at h
      obtain ⟨rfl, rfl⟩ := h
      exact ⟨hl, by omega, rfl⟩
  · exfalso
    split at h
    · split at h
      · cases h
      · simp only [Sum.inr.injEq, Prod.mk.injEq] at h
        obtain ⟨rfl, rfl⟩ := h
        cases h1
    · split at h
      · split at h
        · cases h
        · simp only [Sum.inr.injEq, Prod.mk.injEq] at h
          obtain ⟨rfl, rfl⟩ := h
          cases h1
      · split at h
        · simp only [Sum.inr.injEq, Prod.mk.injEq] at h
          obtain ⟨rfl, rfl⟩ := h
          cases h1
        · split at h
          · simp only [Sum.inr.injEq, Prod.mk.injEq] at h
            obtain ⟨rfl, rfl⟩ := h
            cases h1
          · cases h
/-- What is one token, a name with the whole text, is a name. -/
theorem toks_named {S : ByteArray} {a b : Tok} (h : tkS S = .inr [a, b]) (h1 : a.1 = 1) (h2 : a.2.1 = S) : nmS S = true := by
  obtain ⟨m, hm, he⟩ := tkS_inv h
  obtain rfl : m = [a] := by
    match m, he with
    | [c], he => simp at he; rw [he.1]
    | [], he => simp at he
    | _ :: _ :: _, he => simp at he
  obtain ⟨x, n, hb, ht, _⟩ := tks_inv hm
  obtain ⟨hl, h32, rfl⟩ := tokAt_name ht h1
  have hk := (bt_lt hb).1
  have hne := ne_le (S := S) (k := sb S 0) (by omega)
  have hs : (S.extract (sb S 0) (ne S (sb S 0))).size = S.size := congrArg ByteArray.size h2
  simp [ByteArray.size_extract] at hs
  have h0 : sb S 0 = 0 := by omega
  have h9 : ne S 0 = S.size := by rw [h0] at hs hne; omega
  rw [h0] at hb h32
  unfold nmS
  rw [hb]
  simp
  exact ⟨⟨by omega, hl⟩, h9⟩
/-- All bytes from k on are of a name. -/
theorem ne_all (S : ByteArray) : ∀ f k : Nat, S.size - k = f → k ≤ S.size → (ne S k = S.size ↔ ∀ i x, k ≤ i → bt S i = some x → (letB x || digB x) = true)
  | 0, k, hf, hk => by
    have : k = S.size := by omega
    rw [ne_none (bt_ge (by omega))]
    refine ⟨fun _ i x hi hx => ?_, fun _ => this⟩
    have := (bt_lt hx).1
    omega
  | f + 1, k, hf, hk => by
    cases hb : bt S k with
    | none => have := bt_none hb; omega
    | some y =>
      rw [ne_eq hb]
      cases hy : (letB y || digB y) with
      | false =>
        simp only [Bool.false_eq_true, if_false]
        refine ⟨fun e => by have := (bt_lt hb).1; omega, fun h => ?_⟩
        have := h k y (Nat.le_refl _) hb
        rw [hy] at this
        cases this
      | true =>
        simp only [if_true]
        rw [ne_all S f (k + 1) (by omega) (by omega)]
        refine ⟨fun h i x hi hx => ?_, fun h i x hi hx => h i x (by omega) hx⟩
        rcases Nat.lt_or_ge k i with h1 | h1
        · exact h i x (by omega) hx
        · obtain rfl : i = k := by omega
          rw [hb] at hx
          cases hx
          exact hy
theorem bt_app (S T : ByteArray) (i : Nat) : bt (S ++ T) i = if i < S.size then bt S i else bt T (i - S.size) := by
  unfold bt
  by_cases h : i < S.size
  · rw [if_pos h, dif_pos h, dif_pos (by rw [ByteArray.size_append]; omega), ByteArray.getElem_append_left h]
  · rw [if_neg h]
    by_cases h2 : i < (S ++ T).size
    · have h3 := h2
      rw [ByteArray.size_append] at h3
      rw [dif_pos h2, dif_pos (by omega), ByteArray.getElem_append_right (by omega)]
    · have h3 := h2
      rw [ByteArray.size_append] at h3
      rw [dif_neg h2, dif_neg (by omega)]
/-- One more letter. -/
theorem named_more {S : ByteArray} (h : nmS S = true) : nmS (S ++ { data := #[120] }) = decide (S.size < 32) := by
  unfold nmS at h
  cases hb : bt S 0 with
  | none => rw [hb] at h; cases h
  | some x =>
    rw [hb] at h
    simp at h
    obtain ⟨⟨h1, h2⟩, h3⟩ := h
    have h0 := (bt_lt hb).1
    have hsz : (S ++ { data := #[120] }).size = S.size + 1 := by rw [ByteArray.size_append]; rfl
    have hall := (ne_all S _ 0 rfl (Nat.zero_le _)).1 h3
    have hall2 : ne (S ++ { data := #[120] }) 0 = (S ++ { data := #[120] }).size := by
      refine (ne_all _ _ 0 rfl (Nat.zero_le _)).2 fun i y _ hy => ?_
      rw [bt_app] at hy
      split at hy
      · exact hall i y (Nat.zero_le _) hy
      · have h9 := (bt_lt hy).1
        have h8 : i - S.size = 0 := by have : ({ data := #[120] } : ByteArray).size = 1 := rfl; omega
        rw [h8] at hy
        have : bt { data := #[120] } 0 = some 120 := by rfl
        rw [this] at hy
        cases hy
        rfl
    unfold nmS
    rw [bt_app, if_pos h0, hb]
    simp only [h2, hall2, hsz]
    by_cases h5 : S.size < 32
    · simp [h5]; omega
    · simp [h5]; omega
end Go.Proofs.YtbdhgfblkgkekaaDoor
