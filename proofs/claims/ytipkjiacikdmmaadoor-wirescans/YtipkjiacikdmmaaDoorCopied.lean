/-
  What wire.copied answers: the same bytes in new memory. Condition: the slice holds the bytes, at most 2^47 of them.
-/
import Derived.Test.YtipkjiacikdmmaaDoorMem
import Derived.Laws.CopyOwn
import Derived.Laws.AppendOwnNone
namespace Go.Proofs.YtipkjiacikdmmaaDoor
open Go.RowKit
set_option linter.unusedVariables false

theorem Tryd.size5 : (Tryd.prog.info? 5).map (·.size) = some 1 := by kernel_rfl

/-- A whole row out of its block. -/
theorem owns_of_block {w : World} {g n : Nat} {xs : List Value} (h : w.heap[g]? = some (.cells xs.toArray 5 (0, 0))) (hn : xs.length = n) (hm : n ≤ maxLen) (base : Nat) (hb : base ≤ g) :
    w.ownsRow base 5 1 (.slice (some ⟨g, 0, none⟩) n n) n xs := by
  subst hn
  exact ⟨by simp, .inr ⟨g, xs.length, xs.toArray, rfl, hb, h, Nat.le_refl _, hm, by simp, by simp⟩⟩
theorem block_of_owns {w : World} {g n base : Nat} {xs : List Value} (h : w.ownsRow base 5 1 (.slice (some ⟨g, 0, none⟩) n n) n xs) : w.heap[g]? = some (.cells xs.toArray 5 (0, 0)) := by
  obtain ⟨hl, h | ⟨g', c, cur, e, hb, hh, hn, hm, hs, ht⟩⟩ := h
  · cases h.1
  · simp at e
    obtain ⟨rfl, rfl⟩ := e
    rw [hh]
    congr 2
    rw [List.take_of_length_le (by simp; omega)] at ht
    rw [← ht]

theorem Has.cells {w : World} {a : Option Addr} {len cap : Nat} {l : List UInt8} (h : Has w a len cap l) (h0 : 0 < (l.map bv).length) : ∃ ad, a = some ad ∧ ∀ j v, (l.map bv)[j]? = some v → w.cell? (ad.add j) = some v := by
  obtain ⟨rfl, h2, h3, h4, h5⟩ := h
  obtain ⟨b, off, rfl, _, hc⟩ := h5 (by simpa using h0)
  refine ⟨_, rfl, fun j v hj => ?_⟩
  have hjl : j < l.length := by have := (List.getElem?_eq_some_iff.1 hj).1; simpa using this
  rw [Addr.add_lit, hc j hjl]
  simp [hjl] at hj
  rw [← hj]

theorem splice_all {α : Type} (L cs : List α) (h : cs.length = L.length) : splice L 0 cs = cs := by simp [splice, h]

set_option maxRecDepth 100000 in
set_option maxHeartbeats 400000 in
theorem copied_any (a : Option Addr) (len cap : Nat) (l : List UInt8) (w : World) (h : Has w a len cap l) (hb : len ≤ 140737488355328) :
    Calls Tryd.prog 33 #[.slice a len cap] w fun e w' => e = .returned (.slice (some ⟨w.heap.size, 0, none⟩) len len) ∧
      w'.ownsRow w.heap.size 5 1 (.slice (some ⟨w.heap.size, 0, none⟩) len len) len (l.map bv) ∧ Below w.heap.size w w' := by
  obtain ⟨i0, hi, hz0, hz1, hz2⟩ := info_parts Tryd.info5
  have hll : l.length = len := h.1
  have HL : Hid (l.length = len) := hll
  clear hll
  have HH : Hid (Has w a len cap l) := h
  clear h
  obtain ⟨cs, hcs⟩ : ∃ cs, cs = l.map bv := ⟨_, rfl⟩
  have HC : Hid (cs = l.map bv) := hcs
  clear hcs
  go_enter Tryd.func33, Tryd.ntmps33
  go_wp2_with (first
    | (at_make; refine wpList_make_full _ rfl _ _ 22 rfl w.heap.size 5 i0 (.int .u8 0) 1 Tryd.underlying22 hi hz0 hz1 _ _ _ _ len rfl rfl rfl rfl (by rw [hz2]; omega) (by unfold maxLen; omega) (Nat.le_refl _) ?_; intro w1 hown1 hgr1; have tok : Hid (w1.heap[w.heap.size]? = some (.cells _ 5 (0, 0))) := block_of_owns hown1; have hb1 : Below w.heap.size w w1 := (Below.refl _ _).grown hgr1 (Nat.le_refl _) (fun k e => by cases e); clear hown1 hgr1)
    | (have t2 := tok.out; refine wpList_copy_splice rfl (.tmp 7) (.tmp 8) 22 22 rfl 5 Tryd.underlying22 Tryd.size5 _ _ _ _ _ _ rfl rfl w.heap.size 0 _ 5 t2 cs (by rw [HC.out, List.length_map, HL.out]; exact (Nat.min_self _).symm) (fun h0 => ⟨rfl, by rw [HC.out] at h0 ⊢; exact (HH.out.below hb1).cells h0⟩) (by rw [HC.out, List.length_map, HL.out]; simp [madeCells]) (by rw [HC.out]; exact bv_oneCell l) w.heap.size w hb1 (Nat.le_refl _) ?_; intro w2 hg2 hb2; clear t2 tok))
  go_ret
  refine ⟨rfl, ?_, hb2⟩
  have hg := hg2.out
  rw [splice_all _ _ (by rw [HC.out, List.length_map, HL.out]; simp [madeCells])] at hg
  rw [← HC.out]
  exact owns_of_block hg (by rw [HC.out, List.length_map, HL.out]) (by unfold maxLen; omega) _ (Nat.le_refl _)
end Go.Proofs.YtipkjiacikdmmaaDoor
