/-
  Plain facts on the rows of a class: nothing of the program stands here.
-/
import Derived.Test.YtcdkgcacmlolnaaDoorK2
namespace Go.Proofs.YtcdkgcacmlolnaaDoor
set_option linter.unusedVariables false
/-- The rows among the bytes below b, the last one first. -/
def rs (C : Nat) : Nat → List (Nat × Nat)
  | 0 => []
  | b + 1 => if C.testBit b then (match rs C b with
      | [] => [(b, b)]
      | p :: t => if p.2 + 1 = b then (p.1, b) :: t else (b, b) :: p :: t) else rs C b
theorem rs_skip (C a : Nat) : ∀ b, a ≤ b → (∀ j, a ≤ j → j < b → C.testBit j = false) → rs C b = rs C a
  | 0, h, _ => by rw [Nat.le_zero.1 h]
  | b + 1, h, hz => by
    by_cases e : a = b + 1
    · subst e; rfl
    · rw [rs, hz b (by omega) (by omega)]
      simpa using rs_skip C a b (by omega) (fun j h1 h2 => hz j h1 (by omega))
theorem rs_lt (C : Nat) : ∀ b p, p ∈ rs C b → p.1 ≤ p.2 ∧ p.2 < b
  | 0, p, h => by simp [rs] at h
  | b + 1, p, h => by
    rw [rs] at h
    split at h
    · split at h
      · simp at h; subst h; simp
      · rename_i q t hq
        have ih := rs_lt C b
        rw [hq] at ih
        split at h
        · rename_i hb
          rcases List.mem_cons.1 h with rfl | h
          · have := ih q (List.mem_cons_self ..)
            simp; omega
          · have := ih p (List.mem_cons_of_mem _ h)
            omega
        · rcases List.mem_cons.1 h with rfl | h
          · simp
          · have := ih p h
            omega
    · have := rs_lt C b p h
      omega
theorem rs_row (C lo : Nat) (hne : ∀ p t, rs C lo = p :: t → p.2 + 1 ≠ lo) : ∀ n, (∀ j, lo ≤ j → j ≤ lo + n → C.testBit j = true) → rs C (lo + n + 1) = (lo, lo + n) :: rs C lo
  | 0, h => by
    rw [Nat.add_zero, rs, h lo (Nat.le_refl _) (by omega), if_pos rfl]
    split
    · rename_i e; rw [e]; rfl
    · rename_i p t e
      rw [if_neg (hne p t e), e]; rfl
  | n + 1, h => by
    have ih := rs_row C lo hne n (fun j h1 h2 => h j h1 (by omega))
    rw [show lo + (n + 1) + 1 = (lo + n + 1) + 1 by omega, rs, h (lo + n + 1) (by omega) (by omega), if_pos rfl, ih]
    simp [Nat.add_assoc]
/-- Apart and falling. -/
def Apart : List (Nat × Nat) → Prop
  | [] => True
  | [p] => p.1 ≤ p.2
  | p :: q :: t => p.1 ≤ p.2 ∧ q.2 + 1 < p.1 ∧ Apart (q :: t)
theorem rs_apart (C : Nat) : ∀ b, Apart (rs C b)
  | 0 => trivial
  | b + 1 => by
    have ih := rs_apart C b
    have lt := rs_lt C b
    rw [rs]
    split
    · split
      · exact Nat.le_refl b
      · rename_i q t hq
        rw [hq] at ih lt
        have hq2 := lt q (List.mem_cons_self ..)
        split
        · rename_i hb
          match t, ih with
          | [], ih => simp only [Apart] at ih ⊢; omega
          | r :: t, ih => simp only [Apart] at ih ⊢; exact ⟨by omega, ih.2.1, ih.2.2⟩
        · exact ⟨Nat.le_refl b, by omega, ih⟩
    · exact ih
/-- All of the rows. -/
def un : List (Nat × Nat) → Nat
  | [] => 0
  | p :: t => un t ||| seg p.1 (p.2 + 1)
theorem mod_succ (C b : Nat) : C % 2 ^ (b + 1) = if C.testBit b then C % 2 ^ b ||| 2 ^ b else C % 2 ^ b := by
  apply Nat.eq_of_testBit_eq
  intro j
  split
  · rename_i h
    rw [Nat.testBit_or, Nat.testBit_mod_two_pow, Nat.testBit_mod_two_pow, Nat.testBit_two_pow]
    by_cases h1 : b = j
    · subst h1; simp [h]
    · by_cases h2 : j < b
      · simp [h1, h2, show j < b + 1 by omega]
      · simp [h1, h2, show ¬ j < b + 1 by omega]
  · rename_i h
    rw [Nat.testBit_mod_two_pow, Nat.testBit_mod_two_pow]
    by_cases h1 : b = j
    · subst h1; simp [h]
    · by_cases h2 : j < b
      · simp [h2, show j < b + 1 by omega]
      · simp [h2, show ¬ j < b + 1 by omega]
theorem rs_un (C : Nat) : ∀ b, un (rs C b) = C % 2 ^ b
  | 0 => by simp [rs, un, Nat.mod_one]
  | b + 1 => by
    have ih := rs_un C b
    have lt := rs_lt C b
    rw [mod_succ, rs]
    split
    · split
      · rename_i hq
        rw [hq] at ih
        rw [← ih]
        simp only [un]
        rw [Nat.zero_or, Nat.zero_or, seg_succ b b (Nat.le_refl _), seg_zero, Nat.zero_or]
      · rename_i q t hq
        rw [hq] at ih lt
        have hq2 := lt q (List.mem_cons_self ..)
        split
        · rename_i hb
          rw [un, ← ih, un, seg_succ q.1 b (by omega), ← hb, Nat.or_assoc]
        · rw [un, ih, seg_succ b b (Nat.le_refl _), seg_zero, Nat.zero_or]
    · exact ih
theorem rs_all (C : Nat) (hC : C < 2 ^ 256) : un (rs C 256) = C := by rw [rs_un, Nat.mod_eq_of_lt hC]
/-- One round of the rows: from a row's end g on. -/
theorem round_rows (C R g lo gap : Nat) (hR : ∀ j, R.testBit j = (decide (g ≤ j) && C.testBit j)) (hg : g = 0 ∨ C.testBit g = false) (hl : R.testBit lo = true) (hlm : ∀ j, j < lo → R.testBit j = false)
    (hgap : lo < gap) (hb : ∀ j, lo ≤ j → j < gap → C.testBit j = true) : rs C gap = (lo, gap - 1) :: rs C g := by
  have h1 := hR lo
  rw [hl] at h1
  simp at h1
  have e : rs C lo = rs C g := rs_skip C g lo h1.1 (fun j h2 h3 => by
    have := hR j
    rw [hlm j h3] at this
    simpa [h2] using this.symm)
  have hne : ∀ p t, rs C lo = p :: t → p.2 + 1 ≠ lo := by
    intro p t hp
    rw [e] at hp
    have hlt := rs_lt C g p (by rw [hp]; exact List.mem_cons_self ..)
    rcases hg with rfl | hg
    · simp [rs] at hp
    · have : lo ≠ g := fun h => by subst h; rw [hg] at h1; simp at h1
      omega
  have h2 := rs_row C lo hne (gap - 1 - lo) (fun j h3 h4 => hb j h3 (by omega))
  rw [show lo + (gap - 1 - lo) + 1 = gap by omega, show lo + (gap - 1 - lo) = gap - 1 by omega] at h2
  rw [h2, e]
theorem rs_len (C : Nat) : ∀ b, (rs C b).length ≤ b
  | 0 => by simp [rs]
  | b + 1 => by
    have := rs_len C b
    rw [rs]
    split
    · split
      · simp
      · rename_i q t hq
        rw [hq] at this
        simp at this
        split <;> simp <;> omega
    · omega
end Go.Proofs.YtcdkgcacmlolnaaDoor
