/-
  copied, and a row of sessions that is new. Conditions: those that each theorem names.
-/
import Derived.Test.YtjhclpionimjbaaDoorZU
namespace Go.Proofs.YtjhclpionimjbaaDoor
open Go.RowKit Go.Maps
set_option linter.unusedVariables false
/-- What a session says. -/
def key (s : Sx) : Int × Int × Int × List UInt8 := (s.i, s.l, s.u, s.b)
def c4 (s : Sx) : List Value := [.int .i64 s.i, .int .i64 s.l, .int .i64 s.u, .slice s.o s.n s.c]
def cl (l : List Sx) : List Value := l.flatMap c4
theorem cl_snoc (l : List Sx) (s : Sx) : cl (l ++ [s]) = cl l ++ c4 s := by simp [cl, List.flatMap_append]
theorem cl_len : ∀ l : List Sx, (cl l).length = l.length * 4
  | [] => rfl
  | s :: r => by
    have := cl_len r
    simp only [cl, List.flatMap_cons, List.length_append, List.length_cons] at *
    rw [this]
    simp [c4]
    omega
theorem cl_at : ∀ (l : List Sx) (i : Nat) (h : i < l.length) (j : Nat), j < 4 → (cl l)[i * 4 + j]? = (c4 l[i])[j]?
  | s :: r, 0, h, j, hj => by
    simp only [cl, List.flatMap_cons]
    rw [List.getElem?_append_left (by simp [c4]; omega)]
    simp
  | s :: r, i + 1, h, j, hj => by
    have := cl_at r i (by simpa using h) j hj
    simp only [cl, List.flatMap_cons] at *
    rw [List.getElem?_append_right (by simp [c4]; omega)]
    simp only [c4, List.length_cons, List.length_nil] at *
    rw [show (i + 1) * 4 + j - (0 + 1 + 1 + 1 + 1) = i * 4 + j by omega, this]
    simp
set_option maxRecDepth 100000 in
set_option maxHeartbeats 2000000 in
theorem copied_ok (s : Sx) (w : World) (h : Has w s.o s.n s.c s.b) (hn : s.n ≤ 140737488355328) :
    Calls Tryd.prog 22 #[sxv s] w fun e w' => ∃ o' c', e = .returned (sxv ⟨s.i, s.l, s.u, o', s.n, c', s.b⟩) ∧ Has w' o' s.n c' s.b ∧ Fr w.heap.size w' o' c' ∧ Below w.heap.size w w' := by
  obtain ⟨w1, hw1⟩ : ∃ w1, w1 = w.alloc (.cells #[.int .i64 s.i, .int .i64 s.l, .int .i64 s.u, .slice s.o s.n s.c] 59) := ⟨_, rfl⟩
  obtain ⟨w2, hw2⟩ : ∃ w2, w2 = w1.alloc (.cells #[.int .i64 0, .int .i64 0, .int .i64 0, .slice none 0 0] 59) := ⟨_, rfl⟩
  have hs1 : w1.heap.size = w.heap.size + 1 := by rw [hw1]; simp
  have hb1 : Below w.heap.size w w1 := by rw [hw1]; exact below_al w _
  have hb2 : Below w1.heap.size w1 w2 := by rw [hw2]; exact below_al w1 _
  have q1 : w2.heap[w.heap.size]? = some (.cells #[.int .i64 s.i, .int .i64 s.l, .int .i64 s.u, .slice s.o s.n s.c] 59) := (hb2.block _ (by omega)).trans (by rw [hw1]; exact new_block_at w _ rfl)
  have q2 : w2.heap[w.heap.size + 1]? = some (.cells #[.int .i64 0, .int .i64 0, .int .i64 0, .slice none 0 0] 59) := by rw [hw2, ← hs1]; exact new_block_at w1 _ rfl
  have hs2 : w2.heap.size = w.heap.size + 2 := by rw [hw2]; simp [hs1]
  have hbw : Below w.heap.size w w2 := hb1.trans (hb2.mono hb1.size)
  have HC := hid (clone_ok s.o s.n s.c s.b w2 (h.below hbw) hn)
  have HX := hid (And.intro hbw (And.intro q1 (And.intro q2 hs2)))
  have HW : Hid (w2 = (w.alloc (.cells #[.int .i64 s.i, .int .i64 s.l, .int .i64 s.u, .slice s.o s.n s.c] 59)).alloc (.cells #[.int .i64 0, .int .i64 0, .int .i64 0, .slice none 0 0] 59)) := by rw [hw2, hw1]; exact rfl
  obtain ⟨si, sl, su, so, sn, sc, sb⟩ := s
  dsimp only at HC HX HW h hn ⊢
  clear hw1 hw2 hs1 hb1 hb2 q1 q2 hs2 hbw h hn
  go_enter Tryd.func22, Tryd.ntmps22
  go_wp2_with fail
  rw [← HW.out]
  refine HC.out.mono ?_
  rintro e w3 ⟨o', c', rfl, k1, k2, k3, k4⟩
  obtain ⟨hbw, q1, q2, hs2⟩ := HX.out
  have r1 := (k4.block w.heap.size (by omega)).trans q1
  have r2 := (k4.block (w.heap.size + 1) (by omega)).trans q2
  have l3 := k4.size
  have HF : Hid (∀ X, Kx (fun g => g = w.heap.size ∨ g = w.heap.size + 1) w3 X → Has X o' sn c' sb ∧ Fr w.heap.size X o' c' ∧ Below w.heap.size w X) := fun X hk => by
    refine ⟨k1.kx hk (fun g _ e => ?_), (k2.kx hk (fun g hg e => by omega)).mono (k := w.heap.size) (by omega), (hbw.trans (k4.mono hbw.size)).trans (hk.to (by omega) (fun g e => by omega))⟩
    rcases e with rfl | rfl
    · exact NoB.cells r1 (by simp)
    · exact NoB.cells r2 (by simp)
  obtain ⟨b0, g0⟩ := cell_in r1 0 _ rfl
  obtain ⟨b1, g1⟩ := cell_in r1 1 _ rfl
  obtain ⟨b2, g2⟩ := cell_in r1 2 _ rfl
  obtain ⟨b3, g3⟩ := cell_in r1 3 _ rfl
  obtain ⟨d0, e0⟩ := cell_in r2 0 _ rfl
  obtain ⟨d1, e1⟩ := cell_in r2 1 _ rfl
  obtain ⟨d2, e2⟩ := cell_in r2 2 _ rfl
  obtain ⟨d3, e3⟩ := cell_in r2 3 _ rfl
  simp only [List.getElem_toArray, List.getElem_cons_zero, List.getElem_cons_succ] at b0 b1 b2 b3 d0 d1 d2 d3
  have l5 : w.heap.size < w3.heap.size := by omega
  have l6 : w.heap.size + 1 < w3.heap.size := by omega
  clear hbw q1 q2 hs2 r1 r2 l3 k1 k2 k3 k4 HC HX HW
  go_wp2_with fail
  refine bodyPost_ret (v := sxv ⟨si, sl, su, o', sn, c', sb⟩) (by simp [results, Tryd.results22, go_sem, d0, d1, d2, d3]) rfl ?_
  refine ⟨o', c', rfl, HF.out _ ?_⟩
  have z : ∀ (X : World) (g j : Nat) (v : Value), (g = w.heap.size ∨ g = w.heap.size + 1) → Kx (fun g => g = w.heap.size ∨ g = w.heap.size + 1) X (X.setCell ⟨g, j, none⟩ v) := fun X g j v h => Kx.set (P := fun g => g = w.heap.size ∨ g = w.heap.size + 1) h v
  exact ((((z _ _ _ _ (.inl rfl)).trans (z _ _ _ _ (.inr rfl))).trans (z _ _ _ _ (.inr rfl))).trans (z _ _ _ _ (.inr rfl))).trans (z _ _ _ _ (.inr rfl))
end Go.Proofs.YtjhclpionimjbaaDoor
