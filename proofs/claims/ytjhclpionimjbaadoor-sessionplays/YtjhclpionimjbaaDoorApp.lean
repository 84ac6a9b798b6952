/-
  'append(own, bytes...)' as a law for a walk: own lies in the call's own memory and is not nil, the bytes are whatever memory holds (nil and empty too). Conditions: those that the theorem names.
-/
import Derived.Test.YtjhclpionimjbaaDoorMem
import Derived.Laws.CopyOwn
import Derived.Laws.AppendOwnNone
import Derived.Test.YtjhclpionimjbaaDoorCopied
namespace Go.Proofs.YtjhclpionimjbaaDoor
open Go.RowKit
set_option linter.unusedVariables false

theorem wpList_app {w : World} {ops : Array Oper} {rest : List Oper} {o : Oper} {a : Act} {Q : Exit → Act → World → Prop} (hgd : o.guard = none) (s x : Operand)
    (ho : o.op = .call { callee := .builtin .append, args := #[s, x], argTypes := #[40, 40] })
    (base g0 n c0 : Nat) (xs : List Value) (hs : a.eval s = .slice (some ⟨g0, 0, none⟩) n c0) (hown : w.ownsRow base 5 1 (.slice (some ⟨g0, 0, none⟩) n c0) n xs)
    (ao : Option Addr) (m c : Nat) (l : List UInt8) (hx : a.eval x = .slice ao m c) (hl : Has w ao m c l) (hb : n + m ≤ 140737488355328) (hbase : base ≤ w.heap.size)
    (h : ∀ g cap w', base ≤ g → w'.ownsRow base 5 1 (.slice (some ⟨g, 0, none⟩) (n + m) cap) (n + m) (xs ++ l.map bv) → w.grownBy w' (some g0) → wpList Tryd.prog ops Q rest (a.put o.dst (.slice (some ⟨g, 0, none⟩) (n + m) cap)) w') :
    wpList Tryd.prog ops Q (o :: rest) a w := by
  obtain ⟨i0, hi, hz0, hz1, hz2⟩ := info_parts Tryd.info5
  cases ao with
  | none =>
    obtain ⟨rfl, h2, h3, h4, h5⟩ := hl
    obtain rfl := h4 rfl
    obtain rfl : l = [] := List.eq_nil_of_length_eq_zero (by omega)
    refine wpList_append_own_none hgd s x 40 ho base 5 i0 1 Tryd.underlying40 hi _ n xs hs hown hx ?_
    have hg : base ≤ g0 := (hown.lt g0 rfl).1
    simpa using h g0 c0 w hg (by simpa using hown) (World.grownBy.refl _ _)
  | some ad =>
    have hsz : (l.map bv).length = m * 1 := by simpa using hl.1
    have hat : ∀ j u, (l.map bv)[j]? = some u → w.cell? (ad.add j) = some u := by
      intro j u hj
      have h0 : 0 < (l.map bv).length := by have := (List.getElem?_eq_some_iff.1 hj).1; omega
      obtain ⟨ad', e', hc⟩ := hl.cells h0
      cases e'
      exact hc j u hj
    refine wpList_append_own w hgd s x 40 ho base 5 i0 (.int .u8 0) 1 1 Tryd.underlying40 hi hz0 hz1 hz2 rfl (by decide) _ n xs hs hown ad m c (l.map bv) hx hsz hat (bv_oneCell l) (by unfold maxLen; omega) (by omega) hbase ?_
    intro v' w' hown' hgr hnil
    have hsh : ∃ g cap, v' = .slice (some ⟨g, 0, none⟩) (n + m) cap := by
      obtain ⟨_, hx | ⟨g, cap, cur, e, _⟩⟩ := hown'
      · have := hnil.1 hx.1; cases this.1
      · exact ⟨g, cap, e⟩
    obtain ⟨g, cap, rfl⟩ := hsh
    exact h g cap w' (hown'.lt g rfl).1 hown' hgr

/-- '[]byte{}'. -/
theorem owns_empty (w : World) (base : Nat) (hb : base ≤ w.heap.size) : (w.alloc (.cells #[] 5)).ownsRow base 5 1 (.slice (some ⟨w.heap.size, 0, none⟩) 0 0) 0 [] :=
  ⟨rfl, .inr ⟨w.heap.size, 0, #[], rfl, hb, by show (w.heap.push _)[w.heap.size]? = _; simp, Nat.le_refl _, by unfold maxLen; omega, rfl, rfl⟩⟩
end Go.Proofs.YtjhclpionimjbaaDoor
