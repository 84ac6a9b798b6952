/-
  For any bytes p and more: muntinlaw01.WireFrames answers true. Conditions: those that each theorem names.
-/
import Derived.Test.YtipkjiacikdmmaaDoorROp
namespace Go.Proofs.YtipkjiacikdmmaaDoor
open Go.RowKit
set_option linter.unusedVariables false
theorem Has.same {w w' : World} {g n c : Nat} {l : List UInt8} (h : Has w (some ⟨g, 0, none⟩) n c l) (hs : w'.heap[g]? = w.heap[g]?) (hz : w.heap.size ≤ w'.heap.size) : Has w' (some ⟨g, 0, none⟩) n c l := by
  obtain ⟨h1, h2, h3, h4, h5⟩ := h
  refine ⟨h1, h2, h3, h4, fun h0 => ?_⟩
  obtain ⟨b, off, ha, hlt, hc⟩ := h5 h0
  simp only [Option.some.injEq, Addr.mk.injEq] at ha
  obtain ⟨rfl, rfl, _⟩ := ha
  refine ⟨g, 0, rfl, by omega, fun i hi => ?_⟩
  rw [← hc i hi]
  simp only [World.cell?, hs]
/-- What stands while the three rows are gone through: what lay below, the rows, the third one's bytes, the frame's own block. -/
structure Thr (w W wr : World) (gR g7 : Nat) (ra : Option Nat × Nat × Nat) : Prop where
  below : Below w.heap.size w wr
  size : W.heap.size ≤ wr.heap.size
  rows : wr.heap[gR]? = W.heap[gR]?
  third : wr.heap[g7]? = W.heap[g7]?
  ob : ∀ g, ra.1 = some g → OB wr g ra.2.2
theorem blk_cell {w W : World} {g k : Nat} (h : w.heap[g]? = W.heap[g]?) : w.cell? ⟨g, k, none⟩ = W.cell? ⟨g, k, none⟩ := by simp only [World.cell?, h]
set_option maxRecDepth 100000 in
set_option maxHeartbeats 4000000 in
theorem frames_round (w W wr : World) (gR g7 k : Nat) (ra : Option Nat × Nat × Nat) (ar : Option Addr) (cr : Nat) (lr : List UInt8) (hS : Thr w W wr gR g7 ra) (hH : Has wr ar lr.length cr lr) (hn : lr.length ≤ 4194304)
    (hra : ra.2.1 ≤ ra.2.2 ∧ ra.2.2 ≤ 281474976710656 ∧ (ra.1 = none → ra.2.2 = 0)) (hlow : ∀ g, ra.1 = some g → w.heap.size ≤ g ∧ g ≠ gR ∧ g ≠ g7) (hgR : gR < W.heap.size) (hg7 : g7 < W.heap.size) :
    ∀ (wl wo : World) (rvv : Option Nat × Nat × Nat) (gl : Nat), Thr w W wo gR g7 ra → LentIs wo gl lr → Got gl wo rvv (opn lr).1 → wr.heap.size ≤ gl → (∀ g, rvv.1 = some g → g ≠ gl ∧ wr.heap.size ≤ g) →
    Calls Tryd.prog 14 #[.slice (some ⟨wo.heap.size, 0, none⟩) 3 3] (wo.alloc (.cells #[rv ra, rv rvv, .slice (some ⟨gl, 0, none⟩) lr.length (lr.length + 1)] 22)) fun e w' => e = .returned (.bool true) ∧ Thr w W w' gR g7 ra := by
  intro wl wo rvv gl hT hL hG hgl hv
  have hsz := hS.size
  have hrows := rows4_new wo [ra, rvv, (some gl, lr.length, lr.length + 1)] 22 (fun j hj g e => by
      match j, hj with
      | 0, _ => exact hT.ob g e
      | 1, _ => exact (hG.ob g e).1
      | 2, _ => simp at e; subst e; exact ob_of_lent hL)
    (fun j hj => by
      match j, hj with
      | 0, _ => exact hra
      | 1, _ => exact ⟨hG.has.2.1, hG.cap, fun e => hG.has.2.2.2.1 (by simp only [List.getElem_cons_succ, List.getElem_cons_zero] at e; rw [e]; rfl)⟩
      | 2, _ => simp; omega)
    (fun i j hi hj g hij e => by
      match i, hi, j, hj with
      | 0, _, 0, _ => exact absurd rfl hij
      | 0, _, 1, _ => intro e2; have h1 := (hS.ob g e).lt; have h2 := (hv g e2).2; omega
      | 0, _, 2, _ => have h1 := (hS.ob g e).lt; simp; omega
      | 1, _, 0, _ => intro e2; have h1 := (hS.ob g e2).lt; have h2 := (hv g e).2; omega
      | 1, _, 1, _ => exact absurd rfl hij
      | 1, _, 2, _ => have h2 := (hv g e).1; simp; exact fun e3 => h2 e3.symm
      | 2, _, 0, _ => simp at e; intro e2; have h1 := (hS.ob g e2).lt; omega
      | 2, _, 1, _ => simp at e; intro e2; exact (hv g e2).1 e.symm
      | 2, _, 2, _ => exact absurd rfl hij)
  refine (owned_any wo.heap.size 0 3 3 _ _ hrows rfl (by omega)).mono ?_
  rintro e w' ⟨he, hinv⟩
  refine ⟨he, ?_⟩
  have hw0 := hT.below.size
  have hblk : ∀ g, g < W.heap.size → (∀ x, ra.1 = some x → x ≠ g) → w'.heap[g]? = wo.heap[g]? := fun g hg hx => by
    rw [hinv.blk g (by have := hT.size; simp; omega) (fun j hj => by
      match j, hj with
      | 0, _ => exact fun e => hx g e rfl
      | 1, _ => exact fun e => by have := (hv g e).2; omega
      | 2, _ => simp; omega)]
    exact Below.heap_alloc wo _ g (by have := hT.size; omega)
  refine ⟨?_, ?_, ?_, ?_, ?_⟩
  · refine (hT.below.alloc hw0 _).trans (hinv.below (by simp; omega) (fun j hj g e => ?_))
    match j, hj with
    | 0, _ => exact (hlow g e).1
    | 1, _ => have := (hv g e).2; have := hS.below.size; omega
    | 2, _ => simp at e; have := hS.below.size; omega
  · have := hinv.size; have := hT.size; simp at *; omega
  · rw [hblk gR hgR (fun x hx => (hlow x hx).2.1)]; exact hT.rows
  · rw [hblk g7 hg7 (fun x hx => (hlow x hx).2.2)]; exact hT.third
  · intro g e
    exact (hinv.done 0 (by simp) g (by omega) e).ob
theorem Thr.below' {w W wr wo : World} {gR g7 : Nat} {ra : Option Nat × Nat × Nat} (h : Thr w W wr gR g7 ra) (hb : Below wr.heap.size wr wo) (hgR : gR < W.heap.size) (hg7 : g7 < W.heap.size) : Thr w W wo gR g7 ra := by
  have hs := h.size
  exact ⟨h.below.trans (hb.mono h.below.size), Nat.le_trans hs hb.size, (hb.block gR (by omega)).trans h.rows, (hb.block g7 (by omega)).trans h.third, fun g e => (h.ob g e).below hb (h.ob g e).lt⟩
end Go.Proofs.YtipkjiacikdmmaaDoor
