/-
  What the document says of a source's tokens, as functions on any bytes, and plain facts on them. Nothing of the program stands here.
-/
import Derived.Test.YtkofhmmnlapnnaaGreatDoorX14
namespace Go.Proofs.YtkofhmmnlapnnaaGreatDoor
open Go.RowKit
set_option linter.unusedVariables false
/-- What may be told as wrong of a text. -/
def Wrong (S : ByteArray) (c : Nat × Nat) : Prop := (c.1 = 3 ∨ c.1 = 4) ∧ c.2 ≤ S.size
theorem flt_wrong (S : ByteArray) (k : Nat) : Wrong S (flt S k) := by
  unfold flt Wrong
  split
  · exact ⟨.inl rfl, Nat.le_refl _⟩
  · exact ⟨.inr rfl, by simp only; omega⟩
theorem digs_wrong {S : ByteArray} {k : Nat} {c : Nat × Nat} (h : digs S k = .inl c) : Wrong S c := by
  unfold digs at h
  split at h
  · simp only [Sum.inl.injEq] at h; rw [← h]; exact flt_wrong S _
  · split at h
    · simp only [Sum.inl.injEq] at h; rw [← h]; exact flt_wrong S _
    · cases h
theorem sg_wrong {S : ByteArray} {k : Nat} {c : Nat × Nat} (h : sg S k = .inl c) : Wrong S c := by
  unfold sg at h
  split at h
  · simp only [Sum.inl.injEq] at h; rw [← h]; exact flt_wrong S _
  · split at h
    · unfold esc at h
      split at h
      · simp only [Sum.inl.injEq] at h; rw [← h]; exact flt_wrong S _
      · split at h
        · cases h
        · split at h
          · exact digs_wrong h
          · simp only [Sum.inl.injEq] at h; rw [← h]; exact flt_wrong S _
    · split at h
      · cases h
      · simp only [Sum.inl.injEq] at h; rw [← h]; exact flt_wrong S _
theorem clsP_wrong {S : ByteArray} {c : Nat × Nat} (h : clsP S = .inl c) : Wrong S c := by
  have hb : ∀ j e, mbr S j = .inl e → Wrong S e := fun j e he => by
    unfold mbr at he
    split at he
    · rename_i e' hs; simp only [Sum.inl.injEq] at he; rw [← he]; exact sg_wrong hs
    · split at he
      · split at he
        · rename_i e' hs; simp only [Sum.inl.injEq] at he; rw [← he]; exact sg_wrong hs
        · split at he
          · simp only [Sum.inl.injEq] at he; rw [← he]; exact flt_wrong S _
          · cases he
      · cases he
  have hm : ∀ f j acc e, mems S f j acc = .inl e → Wrong S e := by
    intro f
    induction f with
    | zero => intro j acc e he; simp only [mems, Sum.inl.injEq] at he; rw [← he]; exact flt_wrong S _
    | succ f ih =>
      intro j acc e he
      rw [mems] at he
      split at he
      · cases he
      · split at he
        · rename_i e' hs; simp only [Sum.inl.injEq] at he; rw [← he]; exact hb _ _ hs
        · exact ih _ _ _ he
  rw [clsP_ng] at h
  split at h
  · split at h
    · cases hmm : mm S 2 0 with
      | inl e => rw [hmm] at h; simp only [ng, Sum.inl.injEq] at h; rw [← h]; exact hm _ _ _ _ hmm
      | inr q => rw [hmm] at h; cases h
    · exact hm _ _ _ _ h
  · simp only [Sum.inl.injEq] at h; rw [← h]; exact flt_wrong S _
theorem lsg_wrong {S : ByteArray} {k : Nat} {c : Nat × Nat} (h : lsg S k = .inl c) : Wrong S c := by
  unfold lsg at h
  split at h
  · simp only [Sum.inl.injEq] at h; rw [← h]; exact flt_wrong S _
  · split at h
    · simp only [Sum.inl.injEq] at h; rw [← h]; exact flt_wrong S _
    · split at h
      · unfold lesc at h
        split at h
        · simp only [Sum.inl.injEq] at h; rw [← h]; exact flt_wrong S _
        · split at h
          · cases h
          · split at h
            · exact digs_wrong h
            · simp only [Sum.inl.injEq] at h; rw [← h]; exact flt_wrong S _
      · cases h
/-- A literal's bytes, and where it ends. -/
theorem llit_ok (S : ByteArray) (q p : Nat) : ∀ (f k : Nat) (acc l : List Nat) (n : Nat), llit S q p f k acc = .inr (l, n) → (∀ x ∈ acc, x < 256) → acc.length ≤ 255 → k < n ∧ n ≤ S.size ∧ (∀ x ∈ l, x < 256) ∧ l.length ≤ 255 ∧ l.length + k ≤ acc.length + n
  | 0, k, acc, l, n, h, _, _ => by rw [llit] at h; cases h
  | f + 1, k, acc, l, n, h, ha, hl => by
    rw [llit] at h
    split at h
    · rename_i hb
      simp only [Sum.inr.injEq, Prod.mk.injEq] at h
      have := (bt_lt hb).1
      obtain ⟨rfl, rfl⟩ := h
      exact ⟨by omega, by omega, ha, hl, by omega⟩
    · split at h
      · cases h
      · rename_i b m hm
        have hok := lsg_ok hm
        split at h
        · cases h
        · have := llit_ok S q p f m (acc ++ [b]) l n h (fun x hx => by
            rcases List.mem_append.1 hx with h | h
            · exact ha x h
            · simp at h; omega) (by simp; omega)
          simp at this
          exact ⟨by omega, this.2.1, this.2.2.1, this.2.2.2.1, by omega⟩
theorem ll_ok {S : ByteArray} {q p k n : Nat} {l : List Nat} (h : ll S q p k [] = .inr (l, n)) : k < n ∧ n ≤ S.size ∧ (∀ x ∈ l, x < 256) ∧ l.length ≤ 255 ∧ l.length + k ≤ n := by
  have := llit_ok S q p _ k [] l n h (fun x hx => by simp at hx) (by simp)
  simpa using this
theorem llit_wrong (S : ByteArray) (q p : Nat) : ∀ (f k : Nat) (acc : List Nat) (c : Nat × Nat), llit S q p f k acc = .inl c → Wrong S c ∨ c = (2, p)
  | 0, k, acc, c, h => by simp only [llit, Sum.inl.injEq] at h; rw [← h]; exact .inl (flt_wrong S _)
  | f + 1, k, acc, c, h => by
    rw [llit] at h
    split at h
    · cases h
    · split at h
      · rename_i e hs; simp only [Sum.inl.injEq] at h; rw [← h]; exact .inl (lsg_wrong hs)
      · split at h
        · simp only [Sum.inl.injEq] at h; exact .inr h.symm
        · exact llit_wrong S q p f _ _ c h
theorem ll_wrong {S : ByteArray} {q p k : Nat} {c : Nat × Nat} (h : ll S q p k [] = .inl c) : Wrong S c ∨ c = (2, p) := llit_wrong S q p _ k [] c h
theorem ext_size (S : ByteArray) (p : Nat) (hp : p ≤ S.size) : (S.extract p S.size).size = S.size - p := by simp [ByteArray.size_extract]
theorem arB_lt {S : ByteArray} {p : Nat} (h : arB S p = true) : p + 1 < S.size := by
  unfold arB at h
  simp at h
  exact (bt_lt h.2).1
/-- What a token is. -/
theorem tokAt_ok {S : ByteArray} {p x n : Nat} {t : Tok} (hb : bt S p = some x) (h : tokAt S p x = .inr (t, n)) :
    p < n ∧ n ≤ S.size ∧ t.2.2.1 < 2 ^ 256 ∧ t.2.2.2 = p ∧ 1 ≤ t.1 ∧ t.1 ≤ 5 ∧ t.2.1.size ≤ S.size := by
  have hp := (bt_lt hb).1
  unfold tokAt at h
  split at h
  · rename_i hl
    split at h
    · cases h
    · simp only [Sum.inr.injEq, Prod.mk.injEq] at h
      obtain ⟨rfl, rfl⟩ := h
      have h1 : ne S p = ne S (p + 1) := by rw [ne_eq hb, hl]; simp
      have h2 := ne_le (S := S) (k := p + 1) (by omega)
      refine ⟨by omega, by omega, show (0 : Nat) < 2 ^ 256 by decide, rfl, show 1 ≤ (1 : Nat) by decide, show (1 : Nat) ≤ 5 by decide, ?_⟩
      show (S.extract p (ne S p)).size ≤ _
      simp [ByteArray.size_extract]; omega
  · split at h
    · split at h
      · cases h
      · rename_i l m hm
        simp only [Sum.inr.injEq, Prod.mk.injEq] at h
        obtain ⟨rfl, rfl⟩ := h
        have := ll_ok hm
        refine ⟨by omega, by omega, show (0 : Nat) < 2 ^ 256 by decide, rfl, show 1 ≤ (3 : Nat) by decide, show (3 : Nat) ≤ 5 by decide, ?_⟩
        show (nb l).size ≤ _
        rw [nb_size]
        omega
    · split at h
      · split at h
        · cases h
        · rename_i C m hm
          simp only [Sum.inr.injEq, Prod.mk.injEq] at h
          obtain ⟨rfl, rfl⟩ := h
          have h1 := clsP_ok hm
          have h2 := ext_size S p (by omega)
          refine ⟨by omega, by omega, h1.1, rfl, show 1 ≤ (4 : Nat) by decide, show (4 : Nat) ≤ 5 by decide, Nat.zero_le _⟩
      · split at h
        · rename_i ha
          simp only [Sum.inr.injEq, Prod.mk.injEq] at h
          obtain ⟨rfl, rfl⟩ := h
          have : p + 1 < S.size := arB_lt ha
          exact ⟨by omega, by omega, show (0 : Nat) < 2 ^ 256 by decide, rfl, show 1 ≤ (2 : Nat) by decide, show (2 : Nat) ≤ 5 by decide, Nat.zero_le _⟩
        · split at h
          · simp only [Sum.inr.injEq, Prod.mk.injEq] at h
            obtain ⟨rfl, rfl⟩ := h
            exact ⟨by omega, by omega, show (0 : Nat) < 2 ^ 256 by decide, rfl, show 1 ≤ (5 : Nat) by decide, show (5 : Nat) ≤ 5 by decide, by show (nb [x]).size ≤ _; rw [nb_size]; simp; omega⟩
          · cases h
/-- What is wrong first, where. -/
def wrg (p : Nat) (b : Bool × (Nat × Nat)) : Nat × Nat := if b.1 then (b.2.1, p + b.2.2) else b.2
theorem tokAt_wrong {S : ByteArray} {p x : Nat} {b : Bool × (Nat × Nat)} (hb : bt S p = some x) (h : tokAt S p x = .inl b) :
    (b.2.1 = 2 ∨ b.2.1 = 3 ∨ b.2.1 = 4) ∧ (wrg p b).2 ≤ S.size := by
  have hp := (bt_lt hb).1
  unfold tokAt at h
  split at h
  · split at h
    · simp only [Sum.inl.injEq] at h; rw [← h]; simp [wrg]; omega
    · cases h
  · split at h
    · split at h
      · rename_i c hc
        simp only [Sum.inl.injEq] at h; rw [← h]
        rcases ll_wrong hc with ⟨h1, h2⟩ | rfl
        · exact ⟨.inr h1, by simpa [wrg] using h2⟩
        · exact ⟨.inl rfl, by simp [wrg]; omega⟩
      · cases h
    · split at h
      · split at h
        · rename_i c hc
          simp only [Sum.inl.injEq] at h; rw [← h]
          obtain ⟨h1, h2⟩ := clsP_wrong hc
          rw [ext_size S p (by omega)] at h2
          exact ⟨.inr h1, by simp [wrg]; omega⟩
        · cases h
      · split at h
        · cases h
        · split at h
          · cases h
          · simp only [Sum.inl.injEq] at h; rw [← h]; simp [wrg]; omega
abbrev Tr := (Nat × Nat) ⊕ List Tok
/-- The tokens from k on, where no blank stands. -/
def tkl (S : ByteArray) : Nat → Nat → List Tok → Tr
  | 0, _, acc => .inr acc
  | f + 1, k, acc => match bt S k with
    | none => .inr acc
    | some x => match tokAt S k x with
      | .inl b => .inl (wrg k b)
      | .inr (t, n) => tkl S f (sb S n) (acc ++ [t])
def tks (S : ByteArray) (k : Nat) (acc : List Tok) : Tr := tkl S (S.size - k) k acc
theorem sb_ge {S : ByteArray} {n : Nat} (h : n ≤ S.size) : n ≤ sb S n ∧ sb S n ≤ S.size := sb_le S _ n (Nat.le_refl _) h
theorem tkl_fuel (S : ByteArray) : ∀ (f g k : Nat) (acc : List Tok), S.size - k ≤ f → S.size - k ≤ g → tkl S f k acc = tkl S g k acc
  | 0, 0, _, _, _, _ => rfl
  | 0, g + 1, k, acc, hf, _ => by rw [tkl, tkl, bt_ge (by omega)]
  | f + 1, 0, k, acc, _, hg => by rw [tkl, tkl, bt_ge (by omega)]
  | f + 1, g + 1, k, acc, hf, hg => by
    rw [tkl, tkl]
    cases hb : bt S k with
    | none => rfl
    | some x =>
      have hk := (bt_lt hb).1
      simp only
      cases ht : tokAt S k x with
      | inl b => rfl
      | inr r =>
        obtain ⟨t, n⟩ := r
        have h1 := tokAt_ok hb ht
        have h2 := sb_ge (S := S) (n := n) h1.2.1
        exact tkl_fuel S f g (sb S n) _ (by omega) (by omega)
theorem tks_end {S : ByteArray} {k : Nat} {acc : List Tok} (h : S.size ≤ k) : tks S k acc = .inr acc := by
  unfold tks
  rw [show S.size - k = 0 by omega, tkl]
theorem tks_bad {S : ByteArray} {k x : Nat} {acc : List Tok} {b : Bool × (Nat × Nat)} (hb : bt S k = some x) (ht : tokAt S k x = .inl b) : tks S k acc = .inl (wrg k b) := by
  have hk := (bt_lt hb).1
  unfold tks
  rw [show S.size - k = (S.size - k - 1) + 1 by omega, tkl, hb]
  simp only [ht]
theorem tks_on {S : ByteArray} {k x n : Nat} {acc : List Tok} {t : Tok} (hb : bt S k = some x) (ht : tokAt S k x = .inr (t, n)) : tks S k acc = tks S (sb S n) (acc ++ [t]) := by
  have hk := (bt_lt hb).1
  have h1 := tokAt_ok hb ht
  have h2 := sb_ge (S := S) (n := n) h1.2.1
  unfold tks
  rw [show S.size - k = (S.size - k - 1) + 1 by omega, tkl, hb]
  simp only [ht]
  exact tkl_fuel S _ _ _ _ (by omega) (by omega)
/-- A source's tokens, or what is wrong first. -/
def tkE (S : ByteArray) (r : Tr) : Tr := match r with
  | .inl c => .inl c
  | .inr l => .inr (l ++ [(6, { data := #[] }, 0, S.size)])
def tkS (S : ByteArray) : Tr := tkE S (tks S (sb S 0) [])
/-- Tokens in memory. -/
def tvs : List Tok → List Value
  | [] => []
  | t :: r => .int .i64 (t.1 : Int) :: .string t.2.1 :: .int .u64 (wd t.2.2.1 0 : Nat) :: .int .u64 (wd t.2.2.1 1 : Nat) :: .int .u64 (wd t.2.2.1 2 : Nat) :: .int .u64 (wd t.2.2.1 3 : Nat) :: .int .i64 (t.2.2.2 : Int) :: tvs r
theorem tvs_append : ∀ (a b : List Tok), tvs (a ++ b) = tvs a ++ tvs b
  | [], b => rfl
  | p :: t, b => by simp only [List.cons_append, tvs, tvs_append t b]
theorem tvs_length : ∀ (a : List Tok), (tvs a).length = a.length * 7
  | [] => rfl
  | p :: t => by simp only [tvs, List.length_cons, tvs_length t]; omega
end Go.Proofs.YtkofhmmnlapnnaaGreatDoor
