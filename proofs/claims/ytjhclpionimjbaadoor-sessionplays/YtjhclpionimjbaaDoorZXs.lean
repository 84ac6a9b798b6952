/-
  A session stored in the document's row; its clock. Conditions: those that each theorem names.
-/
import Derived.Test.YtjhclpionimjbaaDoorZXa
import Derived.Test.YtjhclpionimjbaaDoorZMs
namespace Go.Proofs.YtjhclpionimjbaaDoor
open Go.RowKit Go.Maps
set_option linter.unusedVariables false
theorem cl_set (s : Sx) : ∀ (l : List Sx) (k : Nat), k < l.length → cl (l.set k s) = ((((cl l).set (k * 4) (.int .i64 s.i)).set (k * 4 + 1) (.int .i64 s.l)).set (k * 4 + 2) (.int .i64 s.u)).set (k * 4 + 3) (.slice s.o s.n s.c)
  | [], k, h => absurd h (by simp)
  | a :: r, 0, _ => rfl
  | a :: r, k + 1, h => by
    have ih := cl_set s r k (by simpa using h)
    rw [show (k + 1) * 4 = k * 4 + 4 by omega]
    show Value.int .i64 a.i :: .int .i64 a.l :: .int .i64 a.u :: .slice a.o a.n a.c :: cl (r.set k s) = Value.int .i64 a.i :: .int .i64 a.l :: .int .i64 a.u :: .slice a.o a.n a.c :: ((((cl r).set (k * 4) (.int .i64 s.i)).set (k * 4 + 1) (.int .i64 s.l)).set (k * 4 + 2) (.int .i64 s.u)).set (k * 4 + 3) (.slice s.o s.n s.c)
    rw [ih]
theorem put_set {l : List Sx} (hr : Rise l) {k : Nat} (hk : k < l.length) {s : Sx} (h : l[k].i = s.i) : put l s = l.set k s := by
  unfold put
  refine List.ext_getElem (by simp) fun j h1 h2 => ?_
  have hj : j < l.length := by simpa using h1
  rw [List.getElem_map, List.getElem_set]
  by_cases e : k = j
  · subst e
    rw [if_pos h, if_pos rfl]
  · rw [if_neg e, if_neg]
    intro e2
    have := List.pairwise_iff_getElem.1 hr
    rcases Nat.lt_or_gt_of_ne e with hlt | hlt
    · have := this k j hk hj hlt; omega
    · have := this j k hj hk hlt; omega
/-- Where a row's cells lie. -/
theorem row_form {w : World} {m : Nat} {v : Value} {l : List Sx} (h : RowS w m v l) (h0 : 0 < l.length) : ∃ g cap cur, v = .slice (some ⟨g, 0, none⟩) l.length cap ∧ m ≤ g ∧ w.heap[g]? = some (.cells cur 59 (0, 0)) ∧ l.length ≤ cap ∧ cap ≤ maxLen ∧ cur.size = cap * 4 ∧ cur.toList.take (l.length * 4) = cl l := by
  obtain ⟨_, h1 | h1⟩ := h.own
  · omega
  · exact h1
theorem row_cell {w : World} {g n : Nat} {cur : Array Value} {l : List Sx} (hg : w.heap[g]? = some (.cells cur 59 (0, 0))) (htk : cur.toList.take (l.length * 4) = cl l) {k : Nat} (hk : k < l.length) : ∀ j, j < 4 → ∀ u, (c4 l[k])[j]? = some u → w.cell? ⟨g, k * 4 + j, none⟩ = some u ∧ w.frozen? ⟨g, k * 4 + j, none⟩ = false := fun j hj u hu => by
  have h1 : (cur.toList.take (l.length * 4))[k * 4 + j]? = some u := by rw [htk, cl_at l k hk j hj, hu]
  rw [List.getElem?_take_of_lt (by omega)] at h1
  exact cell_in hg _ u (by simpa using h1)
def st4 (w : World) (g k : Nat) (s : Sx) : World := (((w.setCell ⟨g, k * 4, none⟩ (.int .i64 s.i)).setCell ⟨g, k * 4 + 1, none⟩ (.int .i64 s.l)).setCell ⟨g, k * 4 + 2, none⟩ (.int .i64 s.u)).setCell ⟨g, k * 4 + 3, none⟩ (.slice s.o s.n s.c)
theorem st4_kx (w : World) (g k : Nat) (s : Sx) : Kx (fun x => x = g) w (st4 w g k s) := ((Kx.set (P := fun x => x = g) rfl _).trans (Kx.set (P := fun x => x = g) rfl _)).trans ((Kx.set (P := fun x => x = g) rfl _).trans (Kx.set (P := fun x => x = g) rfl _))
theorem RowS.st4 {w : World} {m g k n cp : Nat} {l : List Sx} {s : Sx} (h : RowS w m (.slice (some ⟨g, 0, none⟩) n cp) l) (hk : k < l.length) (hs : Has w s.o s.n s.c s.b ∧ Fr m w s.o s.c ∧ s.n ≤ 16384) : RowS (st4 w g k s) m (.slice (some ⟨g, 0, none⟩) n cp) (l.set k s) := by
  obtain ⟨g', cap, cur, e, hm, hg, hn, hmx, hsz, htk⟩ := row_form h (by omega)
  cases e
  have hk4 := st4_kx w g k s
  have hL : ∀ x, x < w.heap.size → x = g → NoT w x := fun x _ e => by rw [e]; exact NoT.cells hg (by decide)
  refine ⟨?_, fun t ht => ?_⟩
  · have hg4 := set_in (set_in (set_in (set_in hg (k * 4) (.int .i64 s.i)) (k * 4 + 1) (.int .i64 s.l)) (k * 4 + 2) (.int .i64 s.u)) (k * 4 + 3) (.slice s.o s.n s.c)
    rw [List.length_set]
    refine ⟨by rw [cl_len, List.length_set], .inr ⟨g, cp, _, rfl, hm, hg4, hn, hmx, by simpa using hsz, ?_⟩⟩
    rw [cl_set s l k hk, ← htk]
    simp [List.take_set]
  · have hall : ∀ t ∈ s :: l, Has w t.o t.n t.c t.b ∧ Fr m w t.o t.c ∧ t.n ≤ 16384 := fun t ht => by
      rcases List.mem_cons.1 ht with rfl | ht
      · exact hs
      · exact h.has t ht
    refine reps_kx hall hk4 hL t ?_
    rcases List.mem_or_eq_of_mem_set ht with ht | ht
    · simp [ht]
    · simp [ht]
theorem Xt.st4 {w : World} {m xb g k n cp : Nat} {l : List Sx} {s : Sx} {ck : Int} (h : Xt w m xb (.slice (some ⟨g, 0, none⟩) n cp) l ck) (hk : k < l.length) (hi : inI s.i ∧ inI s.l ∧ inI s.u) (hs : Has w s.o s.n s.c s.b ∧ Fr m w s.o s.c ∧ s.n ≤ 16384) : Xt (st4 w g k s) m xb (.slice (some ⟨g, 0, none⟩) n cp) (l.set k s) ck := by
  have hk4 := st4_kx w g k s
  obtain ⟨cur, hg⟩ := row_blk h.row (g := g) rfl
  have hne : xb ≠ g := fun e => by have := h.blk; rw [e, hg] at this; cases this
  refine ⟨(hk4.block xb (node_lt h.blk) hne).trans h.blk, h.row.st4 hk hs, h.le, Nat.le_trans h.ms hk4.size, by rw [List.length_set]; exact h.few, fun t ht => ?_, h.ckI⟩
  rcases List.mem_or_eq_of_mem_set ht with ht | rfl
  · exact h.idI t ht
  · exact hi
theorem Xt.tick {w : World} {m xb : Nat} {v : Value} {l : List Sx} {ck c2 : Int} (h : Xt w m xb v l ck) (hc : inI c2) : Xt (w.setCell ⟨xb, 1, none⟩ (.int .i64 c2)) m xb v l c2 := by
  have hk : Kx (fun x => x = xb) w (w.setCell ⟨xb, 1, none⟩ (.int .i64 c2)) := Kx.set (P := fun x => x = xb) rfl _
  refine ⟨by rw [set_in h.blk 1 _]; rfl, h.row.kx hk (fun x _ e => by rw [e]; exact NoT.cells h.blk (by decide)) (fun g e e2 => ?_), h.le, Nat.le_trans h.ms hk.size, h.few, h.idI, hc⟩
  obtain ⟨cur, hg⟩ := row_blk h.row e
  rw [e2, h.blk] at hg
  cases hg
end Go.Proofs.YtjhclpionimjbaaDoor
