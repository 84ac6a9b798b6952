/-
  Trees in memory: what they read as, and what leaves them. Plain facts on worlds; conditions: those that each theorem names.
-/
import Derived.Test.YtkofhmmnlapnnaaGreatDoorY1
namespace Go.Proofs.YtkofhmmnlapnnaaGreatDoor
open Go.RowKit
set_option linter.unusedVariables false
/-- A tree: kind, text, class, parts, place. -/
inductive Nd where
  | mk (kd : Nat) (T : ByteArray) (C : Nat) (subs : List Nd) (p : Nat)
/-- The eight cells of a node. -/
@[reducible] def n8 (kd : Nat) (T : ByteArray) (C : Nat) (sv : Value) (p : Nat) : List Value :=
  [.int .i64 (kd : Int), .string T, .int .u64 (wd C 0 : Nat), .int .u64 (wd C 1 : Nat), .int .u64 (wd C 2 : Nat), .int .u64 (wd C 3 : Nat), sv, .int .i64 (p : Int)]
mutual
/-- These eight cells are that tree; each of its blocks is one of which P holds. -/
def NdIs (w : World) (P : Nat → Prop) : Nd → List Value → Prop
  | .mk kd T C subs p, cs => ∃ sv, cs = n8 kd T C sv p ∧ ((subs.isEmpty = true ∧ sv = .slice none 0 0) ∨
      (subs.isEmpty = false ∧ ∃ g cap cur, sv = .slice (some ⟨g, 0, none⟩) (ndLen subs) cap ∧ P g ∧ w.heap[g]? = some (.cells cur 46) ∧ cap ≤ maxLen ∧ NdsIs w P subs cur.toList))
/-- These cells begin with those trees. -/
def NdsIs (w : World) (P : Nat → Prop) : List Nd → List Value → Prop
  | [], _ => True
  | n :: r, vs => ∃ c rest, vs = c ++ rest ∧ NdIs w P n c ∧ NdsIs w P r rest
def ndLen : List Nd → Nat
  | [] => 0
  | _ :: r => ndLen r + 1
end
theorem ndLen_eq : ∀ l : List Nd, ndLen l = l.length
  | [] => rfl
  | _ :: r => by rw [ndLen, ndLen_eq r]; rfl
theorem NdIs.len {w : World} {P : Nat → Prop} {n : Nd} {c : List Value} (h : NdIs w P n c) : c.length = 8 := by
  cases n with
  | mk kd T C subs p =>
    rw [NdIs] at h
    obtain ⟨sv, rfl, _⟩ := h
    rfl
mutual
theorem NdIs.kept {w w' : World} {P Q : Nat → Prop} (hk : ∀ g cur, P g → w.heap[g]? = some (.cells cur 46) → w'.heap[g]? = w.heap[g]? ∧ Q g) : ∀ (n : Nd) (c : List Value), NdIs w P n c → NdIs w' Q n c
  | .mk kd T C subs p, cs, h => by
    rw [NdIs] at h ⊢
    obtain ⟨sv, h1, h2⟩ := h
    refine ⟨sv, h1, ?_⟩
    rcases h2 with h2 | ⟨h3, g, cap, cur, h4, h5, h6, h7, h8⟩
    · exact .inl h2
    · have := hk g cur h5 h6
      exact .inr ⟨h3, g, cap, cur, h4, this.2, this.1.trans h6, h7, NdsIs.kept hk subs cur.toList h8⟩
theorem NdsIs.kept {w w' : World} {P Q : Nat → Prop} (hk : ∀ g cur, P g → w.heap[g]? = some (.cells cur 46) → w'.heap[g]? = w.heap[g]? ∧ Q g) : ∀ (l : List Nd) (vs : List Value), NdsIs w P l vs → NdsIs w' Q l vs
  | [], vs, h => by rw [NdsIs]; trivial
  | n :: r, vs, h => by
    rw [NdsIs] at h ⊢
    obtain ⟨c, rest, h1, h2, h3⟩ := h
    exact ⟨c, rest, h1, NdIs.kept hk n c h2, NdsIs.kept hk r rest h3⟩
end
theorem NdsIs.append {w : World} {P : Nat → Prop} : ∀ (l : List Nd) (vs : List Value) (n : Nd) (c : List Value), NdsIs w P l vs → vs.length = l.length * 8 → NdIs w P n c → NdsIs w P (l ++ [n]) (vs ++ c)
  | [], vs, n, c, _, hl, hn => by
    have : vs = [] := List.eq_nil_of_length_eq_zero (by simpa using hl)
    subst this
    rw [List.nil_append, NdsIs]
    exact ⟨c, [], by simp, hn, by rw [NdsIs]; trivial⟩
  | m :: r, vs, n, c, h, hl, hn => by
    rw [NdsIs] at h
    obtain ⟨d, rest, rfl, h2, h3⟩ := h
    have hd := h2.len
    rw [List.cons_append, NdsIs]
    refine ⟨d, rest ++ c, by rw [List.append_assoc], h2, NdsIs.append r rest n c h3 ?_ hn⟩
    simp at hl
    omega
theorem NdsIs.more {w : World} {P : Nat → Prop} : ∀ (l : List Nd) (vs us : List Value), NdsIs w P l vs → NdsIs w P l (vs ++ us)
  | [], vs, us, _ => by rw [NdsIs]; trivial
  | m :: r, vs, us, h => by
    rw [NdsIs] at h ⊢
    obtain ⟨d, rest, rfl, h2, h3⟩ := h
    exact ⟨d, rest ++ us, by rw [List.append_assoc], h2, NdsIs.more r rest us h3⟩
/-- What is made in a call leaves the trees ahead. -/
theorem NdIs.below {w w' : World} {P : Nat → Prop} {n : Nd} {c : List Value} (h : NdIs w P n c) (hb : Below w.heap.size w w') : NdIs w' P n c :=
  NdIs.kept (fun g cur hp hg => ⟨hb.block g (by
    rcases Nat.lt_or_ge g w.heap.size with h1 | h1
    · exact h1
    · rw [Array.getElem?_eq_none h1] at hg; cases hg), hp⟩) n c h
/-- A call that writes the reader R alone leaves them. -/
theorem NdIs.grown {w w' : World} {P : Nat → Prop} {R : Nat} {cur0 : Array Value} {n : Nd} {c : List Value} (h : NdIs w P n c) (hg : w.grownBy w' (some R)) (hR : w.heap[R]? = some (.cells cur0 72)) : NdIs w' P n c :=
  NdIs.kept (fun g cur hp hq => ⟨hg.block g (by
    rcases Nat.lt_or_ge g w.heap.size with h1 | h1
    · exact h1
    · rw [Array.getElem?_eq_none h1] at hq; cases hq) (fun e => by
      have e2 : g = R := Option.some.inj e
      rw [e2, hR] at hq
      simp at hq), hp⟩) n c h
end Go.Proofs.YtkofhmmnlapnnaaGreatDoor
