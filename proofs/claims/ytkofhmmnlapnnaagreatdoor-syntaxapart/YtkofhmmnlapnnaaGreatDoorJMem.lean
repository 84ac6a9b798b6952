/-
  A class that lies in a block of memory: what it reads, and what a store of it does. Plain facts on worlds; conditions: those that each theorem names.
-/
import Derived.Test.YtkofhmmnlapnnaaGreatDoorJ2
namespace Go.Proofs.YtkofhmmnlapnnaaGreatDoor
open Go.RowKit
set_option linter.unusedVariables false
/-- Block g holds the class C. -/
def Blk (w : World) (g C : Nat) : Prop := w.heap[g]? = some (.cells #[.int .u64 (wd C 0 : Nat), .int .u64 (wd C 1 : Nat), .int .u64 (wd C 2 : Nat), .int .u64 (wd C 3 : Nat)] 30)
/-- The four stores. -/
def st4 (w : World) (g D : Nat) : World := (((w.setCell ⟨g, 0, none⟩ (.int .u64 (wd D 0 : Nat))).setCell ⟨g, 1, none⟩ (.int .u64 (wd D 1 : Nat))).setCell ⟨g, 2, none⟩ (.int .u64 (wd D 2 : Nat))).setCell ⟨g, 3, none⟩ (.int .u64 (wd D 3 : Nat))
theorem Blk.cells {w : World} {g C : Nat} (h : Blk w g C) : w.cell? ⟨g, 0, none⟩ = some (.int .u64 (wd C 0 : Nat)) ∧ w.cell? ⟨g, 1, none⟩ = some (.int .u64 (wd C 1 : Nat)) ∧ w.cell? ⟨g, 2, none⟩ = some (.int .u64 (wd C 2 : Nat)) ∧ w.cell? ⟨g, 3, none⟩ = some (.int .u64 (wd C 3 : Nat)) := by
  unfold Blk at h
  simp [World.cell?, h]
theorem Blk.thaw {w : World} {g C : Nat} (h : Blk w g C) : w.frozen? ⟨g, 0, none⟩ = false ∧ w.frozen? ⟨g, 1, none⟩ = false ∧ w.frozen? ⟨g, 2, none⟩ = false ∧ w.frozen? ⟨g, 3, none⟩ = false := by
  unfold Blk at h
  simp [World.frozen?, h]
theorem Blk.lt {w : World} {g C : Nat} (h : Blk w g C) : g < w.heap.size := by
  unfold Blk at h
  rcases Nat.lt_or_ge g w.heap.size with h2 | h2
  · exact h2
  · rw [Array.getElem?_eq_none h2] at h; cases h
theorem Blk.below {w w' : World} {g C B : Nat} (h : Blk w g C) (hb : Below B w w') (hg : g < B) : Blk w' g C := (hb.block g hg).trans h
theorem Blk.alloc {w : World} {g C : Nat} (h : Blk w g C) (o : Obj) : Blk (w.alloc o) g C := (Below.heap_alloc w o g h.lt).trans h
theorem Blk.new (w : World) (C : Nat) : Blk (w.alloc (.cells #[.int .u64 (wd C 0 : Nat), .int .u64 (wd C 1 : Nat), .int .u64 (wd C 2 : Nat), .int .u64 (wd C 3 : Nat)] 30)) w.heap.size C := by
  show (w.heap.push _)[w.heap.size]? = _
  simp
theorem wd_zero (i : Nat) : wd 0 i = 0 := by simp [wd]
theorem cv_zero : cv 0 = .agg #[.int .u64 0, .int .u64 0, .int .u64 0, .int .u64 0] := by simp [cv, wd_zero]
theorem Blk.new0 (w : World) : Blk (w.alloc (.cells #[.int .u64 0, .int .u64 0, .int .u64 0, .int .u64 0] 30)) w.heap.size 0 := by
  show (w.heap.push _)[w.heap.size]? = _
  simp [wd_zero]
theorem Blk.other {w : World} {g g' C D : Nat} (h : Blk w g C) (hne : g ≠ g') : Blk (st4 w g' D) g C := by
  unfold Blk st4 at *
  rw [Below.heap_setCell _ _ _ _ hne, Below.heap_setCell _ _ _ _ hne, Below.heap_setCell _ _ _ _ hne, Below.heap_setCell _ _ _ _ hne]
  exact h
theorem Blk.st4 {w : World} {g C : Nat} (h : Blk w g C) (D : Nat) : Blk (st4 w g D) g D := by
  unfold Blk at *
  unfold Proofs.YtkofhmmnlapnnaaGreatDoor.st4
  simp only [World.setCell, Array.getElem?_modify, if_true, Option.map_map]
  rw [h]
  simp
theorem st4_size (w : World) (g D : Nat) : (st4 w g D).heap.size = w.heap.size := by simp [st4, World.setCell]
theorem Below.st4 {B : Nat} {a w : World} (h : Below B a w) {g : Nat} (hg : B ≤ g) (D : Nat) : Below B a (st4 w g D) :=
  ((((h.setCell (p := ⟨g, 0, none⟩) hg _).setCell (p := ⟨g, 1, none⟩) hg _).setCell (p := ⟨g, 2, none⟩) hg _).setCell (p := ⟨g, 3, none⟩) hg _)
theorem below_drewN {B : Nat} {a w : World} (h : Below B a w) (q : Nat) : Below B a (w.drewN q) := ⟨h.os, h.tape, h.output, h.size, h.block⟩
theorem Blk.drewN {w : World} {g C : Nat} (h : Blk w g C) (q : Nat) : Blk (w.drewN q) g C := h
end Go.Proofs.YtkofhmmnlapnnaaGreatDoor
