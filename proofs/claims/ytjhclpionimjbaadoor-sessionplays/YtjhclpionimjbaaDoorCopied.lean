/-
  What wire.copied answers: the same bytes in new memory. Condition: the slice holds the bytes, at most 2^47 of them.
-/
import Derived.Test.YtjhclpionimjbaaDoorMem
import Derived.Laws.CopyOwn
import Derived.Laws.AppendOwnNone
namespace Go.Proofs.YtjhclpionimjbaaDoor
open Go.RowKit
set_option linter.unusedVariables false

theorem Tryd.size5 : (Tryd.prog.info? 5).map (·.size) = some 1 := by kernel_rfl

/-- A whole row out of its block. -/
theorem owns_of_block {w : World} {g n : Nat} {xs : List Value} (h : w.heap[g]? = some (.cells xs.toArray 5 (0, 0))) (hn : xs.length = n) (hm : n ≤ maxLen) (base : Nat) (hb : base ≤ g) :
    w.ownsRow base 5 1 (.slice (some ⟨g, 0, none⟩) n n) n xs := by
  subst hn
  exact ⟨by simp, .inr ⟨g, xs.length, xs.toArray, rfl, hb, h, Nat.le_refl _, hm, by simp, by simp⟩⟩
theorem block_of_owns {w : World} {g n base : Nat} {xs : List Value} (h : w.ownsRow base 5 1 (.slice (some ⟨g, 0, none⟩) n n) n xs) : w.heap[g]? = some (.cells xs.toArray 5 (0, 0)) := by
  obtain ⟨hl, h | ⟨g', c, cur, e, hb, hh, hn, hm, hs, ht⟩⟩ := h
  · cases h.1
  · simp at e
    obtain ⟨rfl, rfl⟩ := e
    rw [hh]
    congr 2
    rw [List.take_of_length_le (by simp; omega)] at ht
    rw [← ht]

theorem Has.cells {w : World} {a : Option Addr} {len cap : Nat} {l : List UInt8} (h : Has w a len cap l) (h0 : 0 < (l.map bv).length) : ∃ ad, a = some ad ∧ ∀ j v, (l.map bv)[j]? = some v → w.cell? (ad.add j) = some v := by
  obtain ⟨rfl, h2, h3, h4, h5⟩ := h
  obtain ⟨b, off, rfl, _, hc⟩ := h5 (by simpa using h0)
  refine ⟨_, rfl, fun j v hj => ?_⟩
  have hjl : j < l.length := by have := (List.getElem?_eq_some_iff.1 hj).1; simpa using this
  rw [Addr.add_lit, hc j hjl]
  simp [hjl] at hj
  rw [← hj]

theorem splice_all {α : Type} (L cs : List α) (h : cs.length = L.length) : splice L 0 cs = cs := by simp [splice, h]

end Go.Proofs.YtjhclpionimjbaaDoor
