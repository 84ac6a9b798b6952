/-
  What Lent and Kept of the statements' own package do: Lent lays the bytes in new memory with a mark behind them; Kept answers true as long as they stand so. Conditions: those that each theorem names.
-/
import Derived.Test.YtjhclpionimjbaaDoorCopied
namespace Go.Proofs.YtjhclpionimjbaaDoor
open Go.RowKit
set_option linter.unusedVariables false

/-- Lent bytes: a block that holds them, and the mark. -/
def LentIs (w : World) (g : Nat) (l : List UInt8) : Prop := w.heap[g]? = some (.cells (l.map bv ++ [Value.int .u8 77]).toArray 5 (0, 0))
theorem LentIs.cell {w : World} {g : Nat} {l : List UInt8} (h : LentIs w g l) (i : Nat) (hi : i < l.length) : w.cell? ⟨g, i, none⟩ = some (bv l[i]) := by
  unfold LentIs at h
  simp [World.cell?, h, hi, List.getElem?_append_left]
theorem LentIs.mark {w : World} {g : Nat} {l : List UInt8} (h : LentIs w g l) : w.cell? ⟨g, l.length, none⟩ = some (.int .u8 77) := by
  unfold LentIs at h
  simp [World.cell?, h]
theorem LentIs.lt {w : World} {g : Nat} {l : List UInt8} (h : LentIs w g l) : g < w.heap.size := by
  unfold LentIs at h
  rcases Nat.lt_or_ge g w.heap.size with h1 | h1
  · exact h1
  · rw [Array.getElem?_eq_none h1] at h; cases h
theorem LentIs.has {w : World} {g : Nat} {l : List UInt8} (h : LentIs w g l) (hm : l.length + 1 ≤ maxLen) : Has w (some ⟨g, 0, none⟩) l.length (l.length + 1) l :=
  ⟨rfl, by omega, hm, fun e => (by cases e), fun _ => ⟨g, 0, rfl, h.lt, fun i hi => by rw [Nat.zero_add]; exact h.cell i hi⟩⟩
theorem LentIs.below {w w' : World} {g B : Nat} {l : List UInt8} (h : LentIs w g l) (hb : Below B w w') (hg : g < B) : LentIs w' g l := (hb.block g hg).trans h

theorem wpList_make_lc {w : World} {ops : Array Oper} {rest : List Oper} {o : Oper} {a : Act} {Q : Exit → Act → World → Prop}
    (hg : o.guard = none) (l c : Operand) (hop : o.op = Op.makeSlice 40 l c) (kl kc : IntKind) (L C : Int) (n m : Nat) (hl : a.eval l = .int kl L) (hc : a.eval c = .int kc C) (hL : L = (n : Int)) (hC : C = (m : Int)) (hnm : n ≤ m) (b2 : m ≤ 281474976710656)
    (hK : ∀ w', Hid (w'.heap[w.heap.size]? = some (.cells (List.replicate m (.int .u8 0)).toArray 5 (0, 0))) → Below w.heap.size w w' → wpList Tryd.prog ops Q rest (a.put o.dst (.slice (some ⟨w.heap.size, 0, none⟩) n m)) w') :
    wpList Tryd.prog ops Q (o :: rest) a w := by
  obtain ⟨i0, hi, hz0, hz1, hz2⟩ := info_parts Tryd.info5
  refine wpList_plain hg fun K hK' => ?_
  subst hL
  subst hC
  have hrun := run_make (P := Tryd.prog) w 40 5 i0 (.int .u8 0) Tryd.underlying40 hi hz0 kl kc (n : Int) (m : Int) (by omega) (by omega) (by rw [hz2]; omega) (by omega)
  unfold Oper.wp
  simp [execOp, hop, hl, hc, hrun, Result.andThen]
  refine hK' _ _ (hK _ ?_ ((Below.refl _ _).alloc (Nat.le_refl _) _))
  show (w.heap.push _)[w.heap.size]? = _
  rw [hz1, Nat.mul_one]
  simp [← toList_madeCells_one, Value.cells]

theorem splice_lent (zs cs : List Value) (len : Nat) (hz : zs = List.replicate (len + 1) (Value.int .u8 0)) (hc : cs.length = len) : splice zs 0 cs = cs ++ [Value.int .u8 0] := by
  subst hz
  simp [splice, hc]
theorem end_cell {w : World} {g len : Nat} {cs : List Value} {v : Value} (h : w.heap[g]? = some (.cells (cs ++ [v]).toArray 5 (0, 0))) (hc : cs.length = len) : w.cell? ⟨g, len, none⟩ = some v := by
  subst hc
  simp [World.cell?, h]
theorem end_free {w : World} {g : Nat} {cur : Array Value} (h : w.heap[g]? = some (.cells cur 5 (0, 0))) (j : Nat) : w.frozen? ⟨g, j, none⟩ = false := by
  simp [World.frozen?, h]
theorem end_set {w : World} {g len : Nat} {cs : List Value} {v : Value} (u : Value) (h : w.heap[g]? = some (.cells (cs ++ [v]).toArray 5 (0, 0))) (hc : cs.length = len) : (w.setCell ⟨g, len, none⟩ u).heap[g]? = some (.cells (cs ++ [u]).toArray 5 (0, 0)) := by
  subst hc
  rw [heap_setCell_same w g cs.length _ 5 u h]
  congr 2
  simp

set_option maxRecDepth 100000 in
set_option maxHeartbeats 400000 in
theorem lent_any (a : Option Addr) (len cap : Nat) (l : List UInt8) (w : World) (h : Has w a len cap l) (hb : len ≤ 140737488355327) :
    Calls Tryd.prog 27 #[.slice a len cap] w fun e w' => e = .returned (.slice (some ⟨w.heap.size, 0, none⟩) len (len + 1)) ∧ LentIs w' w.heap.size l ∧ Below w.heap.size w w' := by
  have HL : Hid (l.length = len) := h.1
  have HH : Hid (Has w a len cap l) := h
  clear h
  obtain ⟨cs, hcs⟩ : ∃ cs, cs = l.map bv := ⟨_, rfl⟩
  have HC : Hid (cs = l.map bv) := hcs
  clear hcs
  obtain ⟨zs, hzs⟩ : ∃ zs, zs = List.replicate (len + 1) (Value.int .u8 0) := ⟨_, rfl⟩
  have HZ : Hid (zs = List.replicate (len + 1) (Value.int .u8 0)) := hzs
  clear hzs
  have hlen : (len : Int) ≤ 140737488355327 := by omega
  go_enter Tryd.func27, Tryd.ntmps27
  go_wp2_with (first
    | (at_make; refine wpList_make_lc rfl (.tmp 5) (.tmp 8) rfl _ _ _ _ len (len + 1) rfl rfl rfl (by omega) (by omega) (by omega) ?_; rw [← HZ.out]; intro w1 tok hb1)
    | (have t2 := tok.out; refine wpList_copy_splice rfl (.tmp 10) (.tmp 11) 40 40 rfl 5 Tryd.underlying40 Tryd.size5 _ _ _ _ _ _ rfl rfl w.heap.size 0 zs 5 t2 cs (by rw [HC.out, List.length_map, HL.out]; exact (Nat.min_self _).symm) (fun h0 => ⟨rfl, by rw [HC.out] at h0 ⊢; exact (HH.out.below hb1).cells h0⟩) (by rw [HC.out, List.length_map, HL.out, HZ.out]; simp) (by rw [HC.out]; exact bv_oneCell l) w.heap.size w hb1 (Nat.le_refl _) ?_; intro w2 hg2 hb2; clear t2 tok; have HE : Hid (w2.heap[w.heap.size]? = some (.cells (cs ++ [Value.int .u8 0]).toArray 5 (0, 0))) := (by have h9 := hg2.out; rw [splice_lent zs cs len HZ.out (by rw [HC.out, List.length_map, HL.out])] at h9; exact h9); clear hg2; have hce := end_cell HE.out (show cs.length = len by rw [HC.out, List.length_map, HL.out]); have hfe := end_free HE.out len))
  go_ret
  refine ⟨rfl, ?_, hb2.setCell (Nat.le_refl _) _⟩
  have := end_set (Value.int .u8 77) HE.out (show cs.length = len by rw [HC.out, List.length_map, HL.out])
  rw [LentIs, ← HC.out]
  exact this

set_option maxRecDepth 100000 in
set_option maxHeartbeats 400000 in
theorem kept_any (g : Nat) (a : Option Addr) (cap : Nat) (l : List UInt8) (w : World) (hg : LentIs w g l) (h : Has w a l.length cap l) (hb : l.length ≤ 140737488355327) :
    Calls Tryd.prog 28 #[.slice (some ⟨g, 0, none⟩) l.length (l.length + 1), .slice a l.length cap] w fun e w' => e = .returned (.bool true) ∧ w' = w := by
  have c1 := (hg.has (by unfold maxLen; omega)).conv
  have c2 := h.conv
  have c3 := hg.mark
  clear hg h
  have hlen : (l.length : Int) ≤ 140737488355327 := by omega
  generalize l.length = len at *
  go_enter Tryd.func28, Tryd.ntmps28
  go_wp2
  go_ret
  exact ⟨rfl, rfl⟩
end Go.Proofs.YtjhclpionimjbaaDoor
