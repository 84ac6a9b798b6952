/-
  What scope.copiedNode answers: the same tree in new memory. Conditions: those that each theorem names.
  scope.copiedNode at any tree whose rows and texts are not too long. Conditions: those that each theorem names.
  scope.copiedRule at any rule whose texts and rows are not too long. Conditions: those that each theorem names.
-/
import Derived.Test.YtgoogfbphilpmaaGreatDoorVU14ToNBase
import Derived.Deep.AppendLies
import Derived.Deep.RegionHeld3
import Derived.Test.YtgoogfbphilpmaaGreatDoorEO11ToO16
namespace Go.Proofs.YtgoogfbphilpmaaGreatDoor
open Go.RowKit Go.Shelf
set_option linter.unusedVariables false
mutual
/-- These eight cells are that tree; its blocks are whole rows that P holds of. -/
def RqIs (w : World) (P : Nat → Prop) : RT → List Value → Prop
  | .mk k T a b c d s p, cs => ∃ so cap, cs = r8 k T a b c d so (rtLen s) cap p ∧ (s.isEmpty = true ∨ (s.isEmpty = false ∧ ∃ g cur, so = some ⟨g, 0, none⟩ ∧ P g ∧ w.heap[g]? = some (.cells cur 30) ∧ rtLen s ≤ maxLen ∧ RqsIs w P s cur.toList))
def RqsIs (w : World) (P : Nat → Prop) : List RT → List Value → Prop
  | [], _ => True
  | t :: r, vs => ∃ c rest, vs = c ++ rest ∧ RqIs w P t c ∧ RqsIs w P r rest
end
theorem RqIs.len {w : World} {P : Nat → Prop} {t : RT} {c : List Value} (h : RqIs w P t c) : c.length = 8 := by
  obtain ⟨k, T, a, b, c0, d, s, p⟩ := t
  rw [RqIs] at h
  obtain ⟨so, cap, rfl, _⟩ := h
  rfl
mutual
theorem RqIs.kept {w w' : World} {P Q : Nat → Prop} (hk : ∀ g cur, P g → w.heap[g]? = some (.cells cur 30) → w'.heap[g]? = w.heap[g]? ∧ Q g) : ∀ (t : RT) (c : List Value), RqIs w P t c → RqIs w' Q t c
  | .mk k T a b c d s p, cs, h => by
    rw [RqIs] at h ⊢
    obtain ⟨so, cap, h1, h2⟩ := h
    refine ⟨so, cap, h1, ?_⟩
    rcases h2 with h2 | ⟨h3, g, cur, h4, h5, h6, h7, h8⟩
    · exact .inl h2
    · have := hk g cur h5 h6
      exact .inr ⟨h3, g, cur, h4, this.2, this.1.trans h6, h7, RqsIs.kept hk s cur.toList h8⟩
theorem RqsIs.kept {w w' : World} {P Q : Nat → Prop} (hk : ∀ g cur, P g → w.heap[g]? = some (.cells cur 30) → w'.heap[g]? = w.heap[g]? ∧ Q g) : ∀ (l : List RT) (vs : List Value), RqsIs w P l vs → RqsIs w' Q l vs
  | [], vs, h => by rw [RqsIs]; trivial
  | n :: r, vs, h => by
    rw [RqsIs] at h ⊢
    obtain ⟨c, rest, h1, h2, h3⟩ := h
    exact ⟨c, rest, h1, RqIs.kept hk n c h2, RqsIs.kept hk r rest h3⟩
end
theorem RqsIs.append {w : World} {P : Nat → Prop} : ∀ (l : List RT) (vs : List Value) (n : RT) (c : List Value), RqsIs w P l vs → vs.length = l.length * 8 → RqIs w P n c → RqsIs w P (l ++ [n]) (vs ++ c)
  | [], vs, n, c, _, hl, hn => by
    have : vs = [] := List.eq_nil_of_length_eq_zero (by simpa using hl)
    subst this
    rw [List.nil_append, RqsIs]
    exact ⟨c, [], by simp, hn, by rw [RqsIs]; trivial⟩
  | m :: r, vs, n, c, h, hl, hn => by
    rw [RqsIs] at h
    obtain ⟨d, rest, rfl, h2, h3⟩ := h
    have hd := h2.len
    rw [List.cons_append, RqsIs]
    refine ⟨d, rest ++ c, by rw [List.append_assoc], h2, RqsIs.append r rest n c h3 ?_ hn⟩
    simp at hl
    omega
theorem RqsIs.more {w : World} {P : Nat → Prop} : ∀ (l : List RT) (vs us : List Value), RqsIs w P l vs → RqsIs w P l (vs ++ us)
  | [], _, _, _ => by rw [RqsIs]; trivial
  | n :: r, vs, us, h => by
    rw [RqsIs] at h ⊢
    obtain ⟨c, rest, rfl, h2, h3⟩ := h
    exact ⟨c, rest ++ us, by rw [List.append_assoc], h2, RqsIs.more r rest us h3⟩
/-- What copiedNode answers at a tree. -/
def CnA (t : RT) (w : World) (e : Ending) (w' : World) : Prop := ∃ k T a b c d so n cap p, e = .returned (.agg #[.int .i64 k, .string T, .int .u64 a, .int .u64 b, .int .u64 c, .int .u64 d, .slice so n cap, .int .i64 p]) ∧ Hid (RqIs w' (fun g => w.heap.size ≤ g) t (r8 k T a b c d so n cap p)) ∧ Hid (Below w.heap.size w w')
theorem Rq.app2 {base j : Nat} {a a' : Value} {xs cs : List Value} {acc : List RT} {t : RT} {wr w2 W4 w6 : World}
    (ho : wr.ownsRow base 30 8 a j xs) (hl : acc.length = j) (hr : RqsIs wr (fun g => base ≤ g ∧ a.ownBlock ≠ some g) acc xs) (hb0 : base ≤ wr.heap.size) (hb : Below wr.heap.size wr w2)
    (hq : RqIs w2 (fun g => wr.heap.size ≤ g) t cs) (h4 : w2.heap.size ≤ W4.heap.size) (h4b : ∀ g, g < w2.heap.size → W4.heap[g]? = w2.heap[g]?) (hgr : W4.grownBy w6 a.ownBlock) (hat : a'.ownBlock = a.ownBlock ∨ a'.ownBlock = some W4.heap.size) :
    RqsIs w6 (fun g => base ≤ g ∧ a'.ownBlock ≠ some g) (acc ++ [t]) (xs ++ cs) := by
  have key : ∀ g, g < w2.heap.size → a.ownBlock ≠ some g → w6.heap[g]? = w2.heap[g]? ∧ a'.ownBlock ≠ some g := fun g hl hne => by
    refine ⟨(hgr.block g (by omega) (fun e => hne e.symm)).trans (h4b g hl), ?_⟩
    rcases hat with h | h
    · rw [h]; exact hne
    · rw [h]; intro e; have := Option.some.inj e; omega
  refine RqsIs.append _ _ _ _ (RqsIs.kept (fun g cur hp hq => ?_) _ _ hr) (by rw [hl]; exact ho.1) (RqIs.kept (fun g cur hp hq => ?_) _ _ hq)
  · have hlt := node_lt hq
    have := hb.size
    have h := key g (by omega) hp.2
    exact ⟨h.1.trans (hb.block g hlt), hp.1, h.2⟩
  · have h := key g (node_lt hq) (fun e => by have := (ho.lt g e).2; omega)
    exact ⟨h.1, by omega, h.2⟩
theorem cn_step {w wr w2 w6 : World} {j g6 cap6 : Nat} {k a b c d p : Int} {T : ByteArray} {v : Value} {xs cs : List Value} {acc : List RT} {t : RT} {X : Obj}
    (hs : w.heap.size + 2 ≤ wr.heap.size) (ho : wr.ownsRow (w.heap.size + 2) 30 8 v j xs) (hl : acc.length = j) (hr : RqsIs wr (fun g => w.heap.size + 2 ≤ g ∧ v.ownBlock ≠ some g) acc xs) (hB : Below w.heap.size w wr) (hb : Below wr.heap.size wr w2)
    (hq : RqIs w2 (fun g => wr.heap.size ≤ g) t cs) (hz : wr.heap[w.heap.size + 1]? = some (.cells #[.int .i64 0, .string { data := #[] }, .int .u64 0, .int .u64 0, .int .u64 0, .int .u64 0, .slice none 0 0, .int .i64 0] 30)) (hown : w6.ownsRow (w.heap.size + 2) 30 8 (.slice (some ⟨g6, 0, none⟩) (j + 1) cap6) (j + 1) (xs ++ cs)) (hgr : (w2.alloc X).grownBy w6 v.ownBlock) (hat : v.ownBlock = some g6 ∨ g6 = w2.heap.size + 1)
    (hv6 : w6.heap[w.heap.size]? = some (.cells #[.int .i64 k, .string T, .int .u64 a, .int .u64 b, .int .u64 c, .int .u64 d, v, .int .i64 p] 30)) :
    w.heap.size + 2 ≤ (w6.setCell ⟨w.heap.size, 6, none⟩ (.slice (some ⟨g6, 0, none⟩) (j + 1) cap6)).heap.size ∧ (w6.setCell ⟨w.heap.size, 6, none⟩ (.slice (some ⟨g6, 0, none⟩) (j + 1) cap6)).heap[w.heap.size]? = some (.cells #[.int .i64 k, .string T, .int .u64 a, .int .u64 b, .int .u64 c, .int .u64 d, .slice (some ⟨g6, 0, none⟩) (j + 1) cap6, .int .i64 p] 30) ∧ (w6.setCell ⟨w.heap.size, 6, none⟩ (.slice (some ⟨g6, 0, none⟩) (j + 1) cap6)).heap[w.heap.size + 1]? = some (.cells #[.int .i64 0, .string { data := #[] }, .int .u64 0, .int .u64 0, .int .u64 0, .int .u64 0, .slice none 0 0, .int .i64 0] 30) ∧ (w6.setCell ⟨w.heap.size, 6, none⟩ (.slice (some ⟨g6, 0, none⟩) (j + 1) cap6)).ownsRow (w.heap.size + 2) 30 8 (.slice (some ⟨g6, 0, none⟩) (j + 1) cap6) (j + 1) (xs ++ cs) ∧ RqsIs (w6.setCell ⟨w.heap.size, 6, none⟩ (.slice (some ⟨g6, 0, none⟩) (j + 1) cap6)) (fun g => w.heap.size + 2 ≤ g ∧ (Value.slice (some ⟨g6, 0, none⟩) (j + 1) cap6).ownBlock ≠ some g) (acc ++ [t]) (xs ++ cs) ∧ Below w.heap.size w (w6.setCell ⟨w.heap.size, 6, none⟩ (.slice (some ⟨g6, 0, none⟩) (j + 1) cap6)) := by
  have hlt : ∀ g, v.ownBlock = some g → w.heap.size + 2 ≤ g ∧ g < wr.heap.size := fun g e => ho.lt g e
  have h2 := hb.size
  have ea : (w2.alloc X).heap.size = w2.heap.size + 1 := World.size_alloc _ _
  have h6 := hgr.size
  have hB2 : Below w.heap.size w (w2.alloc X) := (hB.trans (hb.mono hB.size)).alloc (Nat.le_trans hB.size h2) _
  have hB6 : Below w.heap.size w w6 := hB2.grown hgr hB2.size (fun g e => by have := hlt g e; omega)
  refine ⟨by rw [World.size_setCell]; omega, set_in hv6 6 _, ?_, hown.kept (row := some w.heap.size) ⟨rfl, rfl, rfl, by simp, fun i hi hne => Below.heap_setCell _ _ _ _ (fun e => hne (by rw [e]))⟩ (.inr (fun e => by have := (hown.lt _ e).1; omega)), ?_, hB6.setCell (p := ⟨w.heap.size, 6, none⟩) (Nat.le_refl _) _⟩
  · refine (Below.heap_setCell _ _ _ _ (by simp)).trans ((hgr.block _ (by omega) (fun e => by have := hlt _ e.symm; omega)).trans ((Below.heap_alloc _ _ _ (by omega)).trans ((hb.block _ (by omega)).trans hz)))
  · refine RqsIs.kept (fun g cur hp hq => ⟨Below.heap_setCell _ _ _ _ (fun e => by have := hp.1; simp at e; omega), hp⟩) _ _ (Rq.app2 (W4 := w2.alloc X) ho hl hr hs hb hq (by omega) (fun g hg => Below.heap_alloc _ _ _ hg) hgr ?_)
    rcases hat with h | h
    · exact .inl h.symm
    · exact .inr (by rw [h, ea]; rfl)
theorem sz_le {w : World} {o : Obj} {b : Nat} (h : b ≤ w.heap.size) : b ≤ (w.alloc o).heap.size := by rw [World.size_alloc]; omega
set_option maxRecDepth 100000 in
set_option maxHeartbeats 8000000 in
theorem ocopied_walk (k : Int) (T : ByteArray) (a b c d p : Int) (so : Option Addr) (n cap : Nat) (s : List RT) (w : World) (hT : T.size ≤ 281474976710656) (HN : Hid (n = s.length)) (hn : n * 88 ≤ 140737488351232)
    (HC : Hid (∀ j (hj : j < s.length), ∃ g o, so = some ⟨g, o, none⟩ ∧ g < w.heap.size ∧ ∃ k1 T1 a1 b1 c1 d1 so1 n1 cap1 p1, Rc w g (o + j * 8) k1 T1 a1 b1 c1 d1 (.slice so1 n1 cap1) p1 ∧
      ∀ W : World, Below w.heap.size w W → Calls Tryz.prog 61 #[.agg #[.int .i64 k1, .string T1, .int .u64 a1, .int .u64 b1, .int .u64 c1, .int .u64 d1, .slice so1 n1 cap1, .int .i64 p1]] W (CnA s[j] W))) :
    Calls Tryz.prog 61 #[.agg #[.int .i64 k, .string T, .int .u64 a, .int .u64 b, .int .u64 c, .int .u64 d, .slice so n cap, .int .i64 p]] w (CnA (.mk k T a b c d s p) w) := by
  obtain ⟨iT, hiT, hzT0, hzT1, hzT2⟩ := info_parts Tryz.infoNd
  have hn63 : n ≤ 9223372036854775807 := by omega
  obtain ⟨W0, hW0⟩ : ∃ W0, W0 = (w.alloc (.cells #[.int .i64 k, .string T, .int .u64 a, .int .u64 b, .int .u64 c, .int .u64 d, .slice so n cap, .int .i64 p] 30)).alloc (.cells #[.int .i64 0, .string { data := #[] }, .int .u64 0, .int .u64 0, .int .u64 0, .int .u64 0, .slice none 0 0, .int .i64 0] 30) := ⟨_, rfl⟩
  have hB0 : Below w.heap.size w W0 := by rw [hW0]; exact ((Below.refl _ w).alloc (Nat.le_refl _) _).alloc (by simp) _
  have c0 : W0.heap[w.heap.size]? = some (.cells #[.int .i64 k, .string T, .int .u64 a, .int .u64 b, .int .u64 c, .int .u64 d, .slice so n cap, .int .i64 p] 30) := by rw [hW0]; exact (Below.heap_alloc _ _ _ (by simp)).trans (new_block_at w _ rfl)
  have c1 : W0.heap[w.heap.size + 1]? = some (.cells #[.int .i64 0, .string { data := #[] }, .int .u64 0, .int .u64 0, .int .u64 0, .int .u64 0, .slice none 0 0, .int .i64 0] 30) := by rw [hW0]; exact new_block_at _ _ (by simp)
  have hs0 : W0.heap.size = w.heap.size + 1 + 1 := by rw [hW0]; simp
  have HCl := hid (clone_any T W0 hT)
  go_enter Tryz.func61, Tryz.ntmps61
  go_wp2_with fail
  rw [← hW0]
  clear hW0
  refine HCl.out.mono ?_
  rintro e w1 ⟨rfl, hb1⟩
  have d0 := (hb1.block _ (by omega)).trans c0
  have d1' := (hb1.block _ (by omega)).trans c1
  obtain ⟨⟨y0, y1, y2, y3, y4, y5, y6, y7⟩, yf⟩ := eight_cells d0
  obtain ⟨⟨q0, q1, q2, q3, q4, q5, q6, q7⟩, qf⟩ := eight_cells d1'
  have l0 := node_lt d0
  have l1 := node_lt d1'
  have hs1 := hb1.size
  have HBw := hid (hB0.trans (hb1.mono hB0.size))
  obtain ⟨wA, hwA⟩ : ∃ wA, wA = (w1.setCell ⟨w.heap.size, 1, none⟩ (.string T)).setCell ⟨w.heap.size, 6, none⟩ (.slice none 0 0) := ⟨_, rfl⟩
  have HA0 : Hid (wA.heap[w.heap.size]? = some (.cells #[.int .i64 k, .string T, .int .u64 a, .int .u64 b, .int .u64 c, .int .u64 d, .slice none 0 0, .int .i64 p] 30)) := by rw [hwA]; exact set_in (set_in d0 1 _) 6 _
  have HA1 : Hid (wA.heap[w.heap.size + 1]? = some (.cells #[.int .i64 0, .string { data := #[] }, .int .u64 0, .int .u64 0, .int .u64 0, .int .u64 0, .slice none 0 0, .int .i64 0] 30)) := by
    rw [hwA]
    exact (Below.heap_setCell _ _ _ _ (by simp)).trans ((Below.heap_setCell _ _ _ _ (by simp)).trans d1')
  have HAB : Hid (Below w.heap.size w wA) := by
    rw [hwA]
    exact (HBw.out.setCell (p := ⟨w.heap.size, 1, none⟩) (Nat.le_refl _) _).setCell (p := ⟨w.heap.size, 6, none⟩) (Nat.le_refl _) _
  have HAS : Hid (w.heap.size + 2 ≤ wA.heap.size) := hid (by
    rw [hwA]
    simp only [World.size_setCell]
    omega)
  clear HCl c0 c1
  go_wp2_with fail
  rw [← hwA]
  clear hwA d0 d1' yf qf y0 y1 y2 y3 y4 y5 y6 y7 q0 q1 q2 q3 q4 q5 q6 q7 HBw hb1 l0 l1 hs1 hB0 hs0
  go_loopw [15] (fun i wr => ∃ (j : Nat) (v : Value) (xs : List Value), i = .int .i64 (j : Int) ∧ j ≤ n ∧ Hid (w.heap.size + 2 ≤ wr.heap.size) ∧ Hid (wr.heap[w.heap.size]? = some (.cells #[.int .i64 k, .string T, .int .u64 a, .int .u64 b, .int .u64 c, .int .u64 d, v, .int .i64 p] 30)) ∧ Hid (wr.heap[w.heap.size + 1]? = some (.cells #[.int .i64 0, .string { data := #[] }, .int .u64 0, .int .u64 0, .int .u64 0, .int .u64 0, .slice none 0 0, .int .i64 0] 30)) ∧ Hid (wr.ownsRow (w.heap.size + 2) 30 8 v j xs) ∧ Hid (RqsIs wr (fun g => w.heap.size + 2 ≤ g ∧ v.ownBlock ≠ some g) (s.take j) xs) ∧ Hid (Below w.heap.size w wr)) (fun i _ => n - (intOf i).toNat)
  case atStart => exact ⟨0, .slice none 0 0, [], rfl, Nat.zero_le _, HAS, HA0, HA1, World.ownsRow_nil _ _ _ _, (by rw [List.take_zero, RqsIs]; trivial), HAB⟩
  case round =>
    obtain ⟨j, v, xs, rfl, hj, HS, HV, HZ, HO, HR, HB⟩ := hrel
    by_cases hjn : j < n
    · have hjI : (j : Int) < (n : Int) := by omega
      have a0 : decide ((j : Int) < (n : Int)) = true := by simp; omega
      have hjs : j < s.length := by rw [← HN.out]; exact hjn
      obtain ⟨g, o, rfl, hg, k1, T1, a1, b1, c1, d1, so1, n1, cap1, p1, rc, hc⟩ := HC.out j hjs
      obtain ⟨z0, z1, z2, z3, z4, z5, z6, z7⟩ := rc.below HB.out hg
      obtain ⟨t, ht⟩ : ∃ t, t = s[j] := ⟨_, rfl⟩
      rw [← ht] at hc
      have HT := hid ht
      have HG := hid hc
      clear hc rc ht HC
      go_wp2_with fail
      obtain ⟨W1, hW1⟩ : ∃ W1, W1 = wr.alloc (.cells #[.int .i64 k1, .string T1, .int .u64 a1, .int .u64 b1, .int .u64 c1, .int .u64 d1, .slice so1 n1 cap1, .int .i64 p1] 30) := ⟨_, rfl⟩
      have hZ1 : W1.heap.size = wr.heap.size + 1 := by rw [hW1]; exact World.size_alloc _ _
      have HC1 : Hid (W1.heap[wr.heap.size]? = some (.cells #[.int .i64 k1, .string T1, .int .u64 a1, .int .u64 b1, .int .u64 c1, .int .u64 d1, .slice so1 n1 cap1, .int .i64 p1] 30)) := by rw [hW1]; exact new_block_at wr _ rfl
      have HB1 : Hid (Below wr.heap.size wr W1) := by rw [hW1]; exact (Below.refl _ wr).alloc (Nat.le_refl _) _
      have HO1 : Hid (W1.ownsRow (w.heap.size + 2) 30 8 v j xs) := by rw [hW1]; exact HO.out.alloc _
      rw [← hW1]
      clear hW1 z0 z1 z2 z3 z4 z5 z6 z7
      have hsz := HS.out
      have hV1 := (HB1.out.block _ (by omega)).trans HV.out
      have HZ1 := hid ((HB1.out.block _ (by omega)).trans HZ.out)
      obtain ⟨⟨y0, y1, y2, y3, y4, y5, y6, y7⟩, yf⟩ := eight_cells HC1.out
      obtain ⟨⟨_, _, _, _, _, _, x6, _⟩, _⟩ := eight_cells hV1
      have HV1 := hid hV1
      have HGd := hid (HG.out W1.drew (HB.out.trans (HB1.out.mono HB.out.size)).drew)
      have l0 : w.heap.size < W1.heap.size := by omega
      have l1 : wr.heap.size < W1.heap.size := by omega
      obtain ⟨sa, sc, rfl⟩ := own_any_shape HO.out
      have HK2 : Hid (∀ w2, Hid (Below W1.drew.heap.size W1.drew w2) → w2.cell? ⟨w.heap.size, 6, none⟩ = some (.slice sa j sc) ∧ w.heap.size < w2.heap.size ∧ w2.ownsRow (w.heap.size + 2) 30 8 (.slice sa j sc) j xs ∧ w2.heap[w.heap.size]? = some (.cells #[.int .i64 k, .string T, .int .u64 a, .int .u64 b, .int .u64 c, .int .u64 d, .slice sa j sc, .int .i64 p] 30) ∧ Below wr.heap.size wr w2 ∧ w.heap.size + 2 ≤ w2.heap.size) := fun w2 h => by
        have hs := h.out.size
        have e : W1.drew.heap.size = W1.heap.size := rfl
        have hb := (h.out.block w.heap.size (by omega)).trans (show W1.drew.heap[w.heap.size]? = _ from HV1.out)
        have ho : W1.drew.ownsRow (w.heap.size + 2) 30 8 (.slice sa j sc) j xs := HO1.out
        refine ⟨(eight_cells hb).1.2.2.2.2.2.2.1, by omega, own_keep ho h.out, hb, HB1.out.drew.trans (h.out.mono (by omega)), by omega⟩
      clear hV1 HG HO1
      have HNe : Hid (some w.heap.size ≠ (Value.slice sa j sc).ownBlock) := fun e => by have := (HO.out.lt _ e.symm).1; omega
      have HNf : Hid (some wr.heap.size ≠ (Value.slice sa j sc).ownBlock) := fun e => by have := (HO.out.lt _ e.symm).2; omega
      have HNg : Hid (wr.heap.size ≠ w.heap.size) := fun e => by omega
      have m0 : 0 < (8 : Nat) := by decide
      have m3 : 0 < (1 : Nat) := by decide
      have m1 : j + 1 ≤ maxLen := by unfold maxLen; omega
      have m2 : (j + 1) * 88 ≤ 140737488355328 := by omega
      go_region_law (first
        | (go_simp; go_at_call 61; refine HGd.out.mono ?_; rintro e w2 ⟨k2, T2, a2, b2, c2, d2, so2, n2, cap2, p2, rfl, HQ2, HB2⟩; have hw2 := HK2.out w2 HB2; have q6 := hw2.1; have l2 := hw2.2.1; have l3 := hw2.2.2.2.2.2)
        | (refine step_append_lies _ rfl (.tmp 20) (.tmp 23) 28 rfl (w.heap.size + 2) 30 iT (.agg #[.int .i64 0, .string { data := #[] }, .int .u64 0, .int .u64 0, .int .u64 0, .int .u64 0, .slice none 0 0, .int .i64 0]) 8 88 Tryz.underlying28 hiT hzT0 hzT1 hzT2 rfl m0 (.slice sa j sc) j xs (by rfl) (hw2.2.2.1.alloc _) ⟨w2.heap.size, 0, none⟩ 1 1 [.int .i64 k2, .string T2, .int .u64 a2, .int .u64 b2, .int .u64 c2, .int .u64 d2, .slice so2 n2 cap2, .int .i64 p2] (by rfl) rfl (eight_new _ _ _ _ _ _ _ _ _ _) (eight_ok _ _ _ _ _ _ _ _ _ _) m3 m1 m2 (sz_le l3) (w2.heap.size + 1) (World.size_alloc _ _) ?_; intro g6 cap6 w6 hown6 hgr6 hat6 hlt6; have hv6 := (hgr6.block w.heap.size (by rw [World.size_alloc]; omega) HNe.out).trans ((Below.heap_alloc _ _ _ l2).trans hw2.2.2.2.1); have f6 := (eight_cells hv6).2.2.2.2.2.2.2.1; have c6 := (eight_cells hv6).1.2.2.2.2.2.2.1))
      all_goals
        have HEnd := hid (cn_step (acc := s.take j) HS.out HO.out (by rw [List.length_take]; omega) HR.out HB.out hw2.2.2.2.2.1 (RqIs.kept (w' := w2) (Q := fun g => wr.heap.size ≤ g) (fun g cur hp _ => ⟨rfl, Nat.le_trans (by rw [← hZ1] at *; exact Nat.le_trans (Nat.le_of_lt l1) (Nat.le_refl _)) hp⟩) _ _ HQ2.out) HZ.out hown6 hgr6 hat6 hv6)
        clear hown6 hgr6 hat6 hlt6 hv6 hw2 HQ2 HB2 HO HR HS HZ HV HB
        go_wp2_with fail
        obtain ⟨e1, e2, e3, e4, e5, e6⟩ := HEnd.out
        refine ⟨⟨j + 1, _, _, by go_num, by omega, e1, e2, e3, e4, ?_, e6⟩, ?_⟩
        · rw [List.take_succ_eq_append_getElem hjs, ← HT.out]
          exact e5
        · simp [intOf]; omega
    · have a0 : decide ((j : Int) < (n : Int)) = false := by simp; omega
      have hjn' : j = s.length := by have := HN.out; omega
      obtain ⟨sa, sc, rfl⟩ := own_any_shape HO.out
      have HFin : Hid (∀ W, wr.grownBy W (some (w.heap.size + 1)) → CnA (.mk k T a b c d s p) w (.returned (.agg #[.int .i64 k, .string T, .int .u64 a, .int .u64 b, .int .u64 c, .int .u64 d, .slice sa j sc, .int .i64 p])) W) := fun W hW => by
        have hr := HR.out
        rw [hjn', List.take_length] at hr
        refine ⟨k, T, a, b, c, d, sa, j, sc, p, rfl, hid ?_, hid (HB.out.grown hW HB.out.size (fun g e => by have := Option.some.inj e; omega))⟩
        rw [RqIs]
        refine ⟨sa, sc, by rw [rtLen_eq, hjn'], ?_⟩
        cases s with
        | nil => exact .inl rfl
        | cons t r =>
          refine .inr ⟨rfl, ?_⟩
          have hO := HO.out
          obtain ⟨_, ⟨_, h0⟩ | ⟨g, cap', cur, e1, hg1, hg2, _, _, _, ht⟩⟩ := hO
          · rw [hjn'] at h0; simp at h0
          · obtain ⟨rfl, _, _⟩ := Value.slice.inj e1
            have kk : ∀ g', w.heap.size + 2 ≤ g' → ∀ cur', wr.heap[g']? = some (.cells cur' 30) → W.heap[g']? = wr.heap[g']? := fun g' h1 cur' h2 => hW.block g' (node_lt h2) (fun e => by have := Option.some.inj e; omega)
            refine ⟨g, cur, rfl, by omega, (kk g hg1 cur hg2).trans hg2, by rw [rtLen_eq, ← hjn']; unfold maxLen; omega, ?_⟩
            have h2 := RqsIs.more _ _ (cur.toList.drop (j * 8)) (RqsIs.kept (w' := W) (Q := fun g => w.heap.size ≤ g) (fun g cur hp hq => ⟨kk g hp.1 cur hq, by have := hp.1; omega⟩) _ _ hr)
            rw [← ht, List.take_append_drop] at h2
            exact h2
      obtain ⟨⟨y0, y1, y2, y3, y4, y5, y6, y7⟩, yf⟩ := eight_cells HV.out
      obtain ⟨⟨q0, q1, q2, q3, q4, q5, q6, q7⟩, qf0, qf1, qf2, qf3, qf4, qf5, qf6, qf7⟩ := eight_cells HZ.out
      have l0 := node_lt HV.out
      have l1 := node_lt HZ.out
      obtain ⟨W8, hW8⟩ : ∃ W8, W8 = ((((((((wr.setCell ⟨w.heap.size + 1, 0, none⟩ (.int .i64 k)).setCell ⟨w.heap.size + 1, 1, none⟩ (.string T)).setCell ⟨w.heap.size + 1, 2, none⟩ (.int .u64 a)).setCell ⟨w.heap.size + 1, 3, none⟩ (.int .u64 b)).setCell ⟨w.heap.size + 1, 4, none⟩ (.int .u64 c)).setCell ⟨w.heap.size + 1, 5, none⟩ (.int .u64 d)).setCell ⟨w.heap.size + 1, 6, none⟩ (.slice sa j sc)).setCell ⟨w.heap.size + 1, 7, none⟩ (.int .i64 p)) := ⟨_, rfl⟩
      have h8 : W8.heap[w.heap.size + 1]? = some (.cells #[.int .i64 k, .string T, .int .u64 a, .int .u64 b, .int .u64 c, .int .u64 d, .slice sa j sc, .int .i64 p] 30) := by rw [hW8]; exact (set_in (set_in (set_in (set_in (set_in (set_in (set_in (set_in HZ.out 0 _) 1 _) 2 _) 3 _) 4 _) 5 _) 6 _) 7 _)
      have HF8 := hid (HFin.out W8 (by rw [hW8]; exact (G.setR (G.setR (G.setR (G.setR (G.setR (G.setR (G.setR (G.setR (G.refl _ _)))))))))))
      have HE8 := hid h8
      have HW8 := hid hW8
      clear HR HC HO HV HZ HS HB HFin hjn' h8 hW8
      go_wp2_with fail
      rw [← HW8.out]
      clear HW8 y0 y1 y2 y3 y4 y5 y6 y7 q0 q1 q2 q3 q4 q5 q6 q7 qf0 qf1 qf2 qf3 qf4 qf5 qf6 qf7 yf
      obtain ⟨⟨e0, e1, e2, e3, e4, e5, e6, e7⟩, _⟩ := eight_cells HE8.out
      refine bodyPost_ret (v := .agg #[.int .i64 k, .string T, .int .u64 a, .int .u64 b, .int .u64 c, .int .u64 d, .slice sa j sc, .int .i64 p]) (by simp [results, Tryz.results61, go_sem, e0, e1, e2, e3, e4, e5, e6, e7]) rfl ?_
      exact HF8.out
end Go.Proofs.YtgoogfbphilpmaaGreatDoor
namespace Go.Proofs.YtgoogfbphilpmaaGreatDoor
open Go.RowKit Go.Shelf
set_option linter.unusedVariables false
mutual
/-- Its rows and its texts are not too long. -/
def RtB : RT → Prop
  | .mk k T a b c d s p => T.size ≤ 281474976710656 ∧ rtLen s * 88 ≤ 140737488351232 ∧ RtsB s
def RtsB : List RT → Prop
  | [] => True
  | t :: r => RtB t ∧ RtsB r
end
theorem RtsB.at : ∀ {s : List RT}, RtsB s → ∀ (j : Nat) (h : j < s.length), RtB s[j]
  | [], _, j, h => by simp at h
  | t :: r, hv, 0, _ => by rw [RtsB] at hv; exact hv.1
  | t :: r, hv, j + 1, h => by rw [RtsB] at hv; exact hv.2.at j (by simpa using h)
/-- copiedNode at any tree. -/
theorem ocopied_all : ∀ (N : Nat) (k : Int) (T : ByteArray) (a b c d : Int) (s : List RT) (p : Int) (so : Option Addr) (cap B : Nat) (w : World), SizeOf.sizeOf s < N → RtB (.mk k T a b c d s p) → (s.isEmpty = true ∨ (s.isEmpty = false ∧ ∃ g o, so = some ⟨g, o, none⟩ ∧ g < B ∧ rtLen s ≤ maxLen ∧ RtsIs w B g o s)) → B ≤ w.heap.size →
    Calls Tryz.prog 61 #[.agg #[.int .i64 k, .string T, .int .u64 a, .int .u64 b, .int .u64 c, .int .u64 d, .slice so (rtLen s) cap, .int .i64 p]] w (CnA (.mk k T a b c d s p) w)
  | 0, _, _, _, _, _, _, s, _, _, _, _, _, h, _, _, _ => by omega
  | N + 1, k, T, a, b, c, d, s, p, so, cap, B, w, hN, hS, ht, hB => by
    rw [RtB] at hS
    refine ocopied_walk k T a b c d p so (rtLen s) cap s w hS.1 (hid (rtLen_eq s)) hS.2.1 (hid fun j hj => ?_)
    rcases ht with h1 | ⟨h1, g, o, rfl, hg, hm, hs⟩
    · have hs0 : s = [] := by simpa using h1
      subst hs0
      simp at hj
    · obtain ⟨k1, T1, a1, b1, c1, d1, so1, n1, cap1, p1, r1, r2⟩ := rts_at hs j hj
      have hsj := hS.2.2.at j hj
      have hsz := List.sizeOf_lt_of_mem (List.getElem_mem hj)
      refine ⟨g, o, rfl, by omega, k1, T1, a1, b1, c1, d1, so1, n1, cap1, p1, r2, fun W hb => ?_⟩
      obtain ⟨t, ht⟩ : ∃ t, t = s[j] := ⟨_, rfl⟩
      rw [← ht] at r1 hsj hsz ⊢
      obtain ⟨k', T', a', b', c', d', s1, p'⟩ := t
      rw [RtIs] at r1
      obtain ⟨so', cap', e, hr⟩ := r1
      simp only [List.cons.injEq, Value.int.injEq, Value.string.injEq, Value.slice.injEq, true_and, and_true] at e
      obtain ⟨rfl, rfl, rfl, rfl, rfl, rfl, ⟨rfl, rfl, rfl⟩, rfl⟩ := e
      simp only [RT.mk.sizeOf_spec] at hsz
      refine ocopied_all N _ _ _ _ _ _ s1 _ _ _ B W (by omega) hsj ?_ (Nat.le_trans hB hb.size)
      rcases hr with h2 | ⟨h2, g1, o1, h3, h4, h5, h6⟩
      · exact .inl h2
      · exact .inr ⟨h2, g1, o1, h3, h4, h5, h6.below h4 (hb.mono hB)⟩
end Go.Proofs.YtgoogfbphilpmaaGreatDoor
namespace Go.Proofs.YtgoogfbphilpmaaGreatDoor
open Go.RowKit Go.Shelf
set_option linter.unusedVariables false
theorem keep_ten {w W W' : World} {y0 y1 y2 y3 y4 y5 y6 y7 y8 y9 : Value} (h : Hid (Below w.heap.size w W) ∧ W.cell? ⟨w.heap.size, 0, none⟩ = some (y0) ∧ W.cell? ⟨w.heap.size, 1, none⟩ = some (y1) ∧ W.cell? ⟨w.heap.size, 2, none⟩ = some (y2) ∧ W.cell? ⟨w.heap.size, 3, none⟩ = some (y3) ∧ W.cell? ⟨w.heap.size, 4, none⟩ = some (y4) ∧ W.cell? ⟨w.heap.size, 5, none⟩ = some (y5) ∧ W.cell? ⟨w.heap.size, 6, none⟩ = some (y6) ∧ W.cell? ⟨w.heap.size, 7, none⟩ = some (y7) ∧ W.cell? ⟨w.heap.size, 8, none⟩ = some (y8) ∧ W.cell? ⟨w.heap.size, 9, none⟩ = some (y9)) (hb : Below W.heap.size W W') : Hid (Below w.heap.size w W') ∧ W'.cell? ⟨w.heap.size, 0, none⟩ = some (y0) ∧ W'.cell? ⟨w.heap.size, 1, none⟩ = some (y1) ∧ W'.cell? ⟨w.heap.size, 2, none⟩ = some (y2) ∧ W'.cell? ⟨w.heap.size, 3, none⟩ = some (y3) ∧ W'.cell? ⟨w.heap.size, 4, none⟩ = some (y4) ∧ W'.cell? ⟨w.heap.size, 5, none⟩ = some (y5) ∧ W'.cell? ⟨w.heap.size, 6, none⟩ = some (y6) ∧ W'.cell? ⟨w.heap.size, 7, none⟩ = some (y7) ∧ W'.cell? ⟨w.heap.size, 8, none⟩ = some (y8) ∧ W'.cell? ⟨w.heap.size, 9, none⟩ = some (y9) := by
  obtain ⟨z, z0, z1, z2, z3, z4, z5, z6, z7, z8, z9⟩ := h
  have hl : w.heap.size < W.heap.size := World.block_lt_of_cell? W ⟨w.heap.size, 0, none⟩ z0
  have e : ∀ j, W'.cell? ⟨w.heap.size, j, none⟩ = W.cell? ⟨w.heap.size, j, none⟩ := fun j => hb.cell (p := ⟨w.heap.size, j, none⟩) hl
  exact ⟨hid (z.out.trans (hb.mono z.out.size)), (e _).trans z0, (e _).trans z1, (e _).trans z2, (e _).trans z3, (e _).trans z4, (e _).trans z5, (e _).trans z6, (e _).trans z7, (e _).trans z8, (e _).trans z9⟩
theorem keep_tenS {w W W' : World} {y0 y1 y2 y3 y4 y5 y6 y7 y8 y9 : Value} (h : Hid (Below w.heap.size w W) ∧ W.cell? ⟨w.heap.size, 0, none⟩ = some (y0) ∧ W.cell? ⟨w.heap.size, 1, none⟩ = some (y1) ∧ W.cell? ⟨w.heap.size, 2, none⟩ = some (y2) ∧ W.cell? ⟨w.heap.size, 3, none⟩ = some (y3) ∧ W.cell? ⟨w.heap.size, 4, none⟩ = some (y4) ∧ W.cell? ⟨w.heap.size, 5, none⟩ = some (y5) ∧ W.cell? ⟨w.heap.size, 6, none⟩ = some (y6) ∧ W.cell? ⟨w.heap.size, 7, none⟩ = some (y7) ∧ W.cell? ⟨w.heap.size, 8, none⟩ = some (y8) ∧ W.cell? ⟨w.heap.size, 9, none⟩ = some (y9)) (hb : W.grownBy W' (some (w.heap.size + 1))) : Hid (Below w.heap.size w W') ∧ W'.cell? ⟨w.heap.size, 0, none⟩ = some (y0) ∧ W'.cell? ⟨w.heap.size, 1, none⟩ = some (y1) ∧ W'.cell? ⟨w.heap.size, 2, none⟩ = some (y2) ∧ W'.cell? ⟨w.heap.size, 3, none⟩ = some (y3) ∧ W'.cell? ⟨w.heap.size, 4, none⟩ = some (y4) ∧ W'.cell? ⟨w.heap.size, 5, none⟩ = some (y5) ∧ W'.cell? ⟨w.heap.size, 6, none⟩ = some (y6) ∧ W'.cell? ⟨w.heap.size, 7, none⟩ = some (y7) ∧ W'.cell? ⟨w.heap.size, 8, none⟩ = some (y8) ∧ W'.cell? ⟨w.heap.size, 9, none⟩ = some (y9) := by
  obtain ⟨z, z0, z1, z2, z3, z4, z5, z6, z7, z8, z9⟩ := h
  have e : ∀ j, W'.cell? ⟨w.heap.size, j, none⟩ = W.cell? ⟨w.heap.size, j, none⟩ := fun j => World.cell?_of_block (hb.block w.heap.size (World.block_lt_of_cell? W ⟨w.heap.size, 0, none⟩ z0) (fun e => by have := Option.some.inj e; omega))
  exact ⟨hid (z.out.grown hb z.out.size (fun g e => by have := Option.some.inj e; omega)), (e _).trans z0, (e _).trans z1, (e _).trans z2, (e _).trans z3, (e _).trans z4, (e _).trans z5, (e _).trans z6, (e _).trans z7, (e _).trans z8, (e _).trans z9⟩
theorem ten_set (W : World) (R : Nat) (v0 v1 v2 v3 v4 v5 v6 v7 v8 v9 : Value) : W.grownBy ((((((((((W.setCell ⟨R, 0, none⟩ v0).setCell ⟨R, 1, none⟩ v1).setCell ⟨R, 2, none⟩ v2).setCell ⟨R, 3, none⟩ v3).setCell ⟨R, 4, none⟩ v4).setCell ⟨R, 5, none⟩ v5).setCell ⟨R, 6, none⟩ v6).setCell ⟨R, 7, none⟩ v7).setCell ⟨R, 8, none⟩ v8).setCell ⟨R, 9, none⟩ v9) (some R) := (G.setR (G.setR (G.setR (G.setR (G.setR (G.setR (G.setR (G.setR (G.setR (G.setR (G.refl _ _)))))))))))
/-- What copiedRule hands back of a rule. -/
def CrA (x : Rr) (w : World) (e : Ending) (w' : World) : Prop := ∃ k T a b c d so n cap p, e = .returned (.agg #[.string x.1, .int .i64 k, .string T, .int .u64 a, .int .u64 b, .int .u64 c, .int .u64 d, .slice so n cap, .int .i64 p, .int .i64 x.2.2]) ∧ Hid (RqIs w' (fun g => w.heap.size ≤ g) x.2.1 (r8 k T a b c d so n cap p)) ∧ Hid (Below w.heap.size w w')
set_option maxRecDepth 100000 in
set_option maxHeartbeats 8000000 in
theorem ocrule_walk (nm : ByteArray) (k : Int) (T : ByteArray) (a b c d : Int) (so : Option Addr) (n cap : Nat) (p q : Int) (t : RT) (w : World) (hS : nm.size ≤ 281474976710656)
    (HC : Hid (∀ W, Below w.heap.size w W → Calls Tryz.prog 61 #[.agg #[.int .i64 k, .string T, .int .u64 a, .int .u64 b, .int .u64 c, .int .u64 d, .slice so n cap, .int .i64 p]] W (CnA t W))) :
    Calls Tryz.prog 39 #[.agg #[.string nm, .int .i64 k, .string T, .int .u64 a, .int .u64 b, .int .u64 c, .int .u64 d, .slice so n cap, .int .i64 p, .int .i64 q]] w (CrA (nm, t, q) w) := by
  obtain ⟨W0, hW0⟩ : ∃ W0, W0 = (w.alloc (.cells #[.string nm, .int .i64 k, .string T, .int .u64 a, .int .u64 b, .int .u64 c, .int .u64 d, .slice so n cap, .int .i64 p, .int .i64 q] 52)).alloc (.cells #[.string { data := #[] }, .int .i64 0, .string { data := #[] }, .int .u64 0, .int .u64 0, .int .u64 0, .int .u64 0, .slice none 0 0, .int .i64 0, .int .i64 0] 52) := ⟨_, rfl⟩
  have HB0 : Hid (Below w.heap.size w W0) := by rw [hW0]; exact ((Below.refl _ w).alloc (Nat.le_refl _) _).alloc (by simp) _
  have hT0 : W0.heap[w.heap.size]? = some (.cells #[.string nm, .int .i64 k, .string T, .int .u64 a, .int .u64 b, .int .u64 c, .int .u64 d, .slice so n cap, .int .i64 p, .int .i64 q] 52) := by rw [hW0]; exact (Below.heap_alloc _ _ _ (by simp)).trans (new_block_at w _ rfl)
  have HZ0 : Hid (W0.heap[w.heap.size + 1]? = some (.cells #[.string { data := #[] }, .int .i64 0, .string { data := #[] }, .int .u64 0, .int .u64 0, .int .u64 0, .int .u64 0, .slice none 0 0, .int .i64 0, .int .i64 0] 52)) := by rw [hW0]; exact new_block_at _ _ (by simp)
  obtain ⟨⟨t0, t1, t2, t3, t4, t5, t6, t7, t8, t9⟩, _⟩ := ten_cells hT0
  have S2 : (fun W : World => Hid (Below w.heap.size w W) ∧ W.cell? ⟨w.heap.size, 0, none⟩ = some (.string nm) ∧ W.cell? ⟨w.heap.size, 1, none⟩ = some (.int .i64 k) ∧ W.cell? ⟨w.heap.size, 2, none⟩ = some (.string T) ∧ W.cell? ⟨w.heap.size, 3, none⟩ = some (.int .u64 a) ∧ W.cell? ⟨w.heap.size, 4, none⟩ = some (.int .u64 b) ∧ W.cell? ⟨w.heap.size, 5, none⟩ = some (.int .u64 c) ∧ W.cell? ⟨w.heap.size, 6, none⟩ = some (.int .u64 d) ∧ W.cell? ⟨w.heap.size, 7, none⟩ = some (.slice so n cap) ∧ W.cell? ⟨w.heap.size, 8, none⟩ = some (.int .i64 p) ∧ W.cell? ⟨w.heap.size, 9, none⟩ = some (.int .i64 q)) W0.drew := ⟨hid HB0.out.drew, t0, t1, t2, t3, t4, t5, t6, t7, t8, t9⟩
  have lt0 := node_lt hT0
  have lz0 := node_lt HZ0.out
  have HCl := hid (fun W : World => clone_any nm W hS)
  clear hS hT0
  go_enter Tryz.func39, Tryz.ntmps39
  go_wp2_with fail
  rw [← hW0]
  clear hW0
  go_region_held3 (fun W : World => Hid (Below w.heap.size w W) ∧ W.cell? ⟨w.heap.size, 0, none⟩ = some (.string nm) ∧ W.cell? ⟨w.heap.size, 1, none⟩ = some (.int .i64 k) ∧ W.cell? ⟨w.heap.size, 2, none⟩ = some (.string T) ∧ W.cell? ⟨w.heap.size, 3, none⟩ = some (.int .u64 a) ∧ W.cell? ⟨w.heap.size, 4, none⟩ = some (.int .u64 b) ∧ W.cell? ⟨w.heap.size, 5, none⟩ = some (.int .u64 c) ∧ W.cell? ⟨w.heap.size, 6, none⟩ = some (.int .u64 d) ∧ W.cell? ⟨w.heap.size, 7, none⟩ = some (.slice so n cap) ∧ W.cell? ⟨w.heap.size, 8, none⟩ = some (.int .i64 p) ∧ W.cell? ⟨w.heap.size, 9, none⟩ = some (.int .i64 q)) (first | (with_reducible assumption) | (with_reducible exact keep_ten (by assumption) (by assumption)) | (with_reducible exact keep_tenS (by assumption) (ten_set _ _ _ _ _ _ _ _ _ _ _ _))) (first
    | (go_at_call 60; refine (HCl.out _).mono ?_; rintro e w4 ⟨rfl, hb4⟩; have HZ4 := hid ((hb4.block (w.heap.size + 1) lz0).trans HZ0.out))
    | (go_at_call 61; refine (HC.out _ ?hh).mono ?_; (case hh => exact Hid.out (And.left (by assumption))); rintro e w5 ⟨k', T', a', b', c', d', so', n', cap', p', rfl, HQ5, HB5⟩; have hb5 := HB5.out; have HZ5 := hid ((hb5.block (w.heap.size + 1) (node_lt HZ4.out)).trans HZ4.out); obtain ⟨⟨z0, z1, z2, z3, z4, z5, z6, z7, z8, z9⟩, f0, f1, f2, f3, f4, f5, f6, f7, f8, f9⟩ := ten_cells HZ5.out; have lz := node_lt HZ5.out))
  obtain ⟨X1, hX1⟩ : ∃ X1, X1 = w5.setCell ⟨w.heap.size + 1, 0, none⟩ (.string nm) := ⟨_, rfl⟩
  have bX1 : X1.heap[w.heap.size + 1]? = some (.cells #[.string nm, .int .i64 0, .string { data := #[] }, .int .u64 0, .int .u64 0, .int .u64 0, .int .u64 0, .slice none 0 0, .int .i64 0, .int .i64 0] 52) := by rw [hX1]; exact set_in HZ5.out 0 _
  have gX1 : w5.grownBy X1 (some (w.heap.size + 1)) := by rw [hX1]; exact G.setR (G.refl _ _)
  obtain ⟨X2, hX2⟩ : ∃ X2, X2 = X1.setCell ⟨w.heap.size + 1, 1, none⟩ (.int .i64 k') := ⟨_, rfl⟩
  have bX2 : X2.heap[w.heap.size + 1]? = some (.cells #[.string nm, .int .i64 k', .string { data := #[] }, .int .u64 0, .int .u64 0, .int .u64 0, .int .u64 0, .slice none 0 0, .int .i64 0, .int .i64 0] 52) := by rw [hX2]; exact set_in bX1 1 _
  have gX2 : w5.grownBy X2 (some (w.heap.size + 1)) := by rw [hX2]; exact G.setR gX1
  obtain ⟨X3, hX3⟩ : ∃ X3, X3 = X2.setCell ⟨w.heap.size + 1, 2, none⟩ (.string T') := ⟨_, rfl⟩
  have bX3 : X3.heap[w.heap.size + 1]? = some (.cells #[.string nm, .int .i64 k', .string T', .int .u64 0, .int .u64 0, .int .u64 0, .int .u64 0, .slice none 0 0, .int .i64 0, .int .i64 0] 52) := by rw [hX3]; exact set_in bX2 2 _
  have gX3 : w5.grownBy X3 (some (w.heap.size + 1)) := by rw [hX3]; exact G.setR gX2
  obtain ⟨X4, hX4⟩ : ∃ X4, X4 = X3.setCell ⟨w.heap.size + 1, 3, none⟩ (.int .u64 a') := ⟨_, rfl⟩
  have bX4 : X4.heap[w.heap.size + 1]? = some (.cells #[.string nm, .int .i64 k', .string T', .int .u64 a', .int .u64 0, .int .u64 0, .int .u64 0, .slice none 0 0, .int .i64 0, .int .i64 0] 52) := by rw [hX4]; exact set_in bX3 3 _
  have gX4 : w5.grownBy X4 (some (w.heap.size + 1)) := by rw [hX4]; exact G.setR gX3
  obtain ⟨X5, hX5⟩ : ∃ X5, X5 = X4.setCell ⟨w.heap.size + 1, 4, none⟩ (.int .u64 b') := ⟨_, rfl⟩
  have bX5 : X5.heap[w.heap.size + 1]? = some (.cells #[.string nm, .int .i64 k', .string T', .int .u64 a', .int .u64 b', .int .u64 0, .int .u64 0, .slice none 0 0, .int .i64 0, .int .i64 0] 52) := by rw [hX5]; exact set_in bX4 4 _
  have gX5 : w5.grownBy X5 (some (w.heap.size + 1)) := by rw [hX5]; exact G.setR gX4
  obtain ⟨X6, hX6⟩ : ∃ X6, X6 = X5.setCell ⟨w.heap.size + 1, 5, none⟩ (.int .u64 c') := ⟨_, rfl⟩
  have bX6 : X6.heap[w.heap.size + 1]? = some (.cells #[.string nm, .int .i64 k', .string T', .int .u64 a', .int .u64 b', .int .u64 c', .int .u64 0, .slice none 0 0, .int .i64 0, .int .i64 0] 52) := by rw [hX6]; exact set_in bX5 5 _
  have gX6 : w5.grownBy X6 (some (w.heap.size + 1)) := by rw [hX6]; exact G.setR gX5
  obtain ⟨X7, hX7⟩ : ∃ X7, X7 = X6.setCell ⟨w.heap.size + 1, 6, none⟩ (.int .u64 d') := ⟨_, rfl⟩
  have bX7 : X7.heap[w.heap.size + 1]? = some (.cells #[.string nm, .int .i64 k', .string T', .int .u64 a', .int .u64 b', .int .u64 c', .int .u64 d', .slice none 0 0, .int .i64 0, .int .i64 0] 52) := by rw [hX7]; exact set_in bX6 6 _
  have gX7 : w5.grownBy X7 (some (w.heap.size + 1)) := by rw [hX7]; exact G.setR gX6
  obtain ⟨X8, hX8⟩ : ∃ X8, X8 = X7.setCell ⟨w.heap.size + 1, 7, none⟩ (.slice so' n' cap') := ⟨_, rfl⟩
  have bX8 : X8.heap[w.heap.size + 1]? = some (.cells #[.string nm, .int .i64 k', .string T', .int .u64 a', .int .u64 b', .int .u64 c', .int .u64 d', .slice so' n' cap', .int .i64 0, .int .i64 0] 52) := by rw [hX8]; exact set_in bX7 7 _
  have gX8 : w5.grownBy X8 (some (w.heap.size + 1)) := by rw [hX8]; exact G.setR gX7
  obtain ⟨X9, hX9⟩ : ∃ X9, X9 = X8.setCell ⟨w.heap.size + 1, 8, none⟩ (.int .i64 p') := ⟨_, rfl⟩
  have bX9 : X9.heap[w.heap.size + 1]? = some (.cells #[.string nm, .int .i64 k', .string T', .int .u64 a', .int .u64 b', .int .u64 c', .int .u64 d', .slice so' n' cap', .int .i64 p', .int .i64 0] 52) := by rw [hX9]; exact set_in bX8 8 _
  have gX9 : w5.grownBy X9 (some (w.heap.size + 1)) := by rw [hX9]; exact G.setR gX8
  obtain ⟨W10, hW10⟩ : ∃ W10, W10 = X9.setCell ⟨w.heap.size + 1, 9, none⟩ (.int .i64 q) := ⟨_, rfl⟩
  have bW10 : W10.heap[w.heap.size + 1]? = some (.cells #[.string nm, .int .i64 k', .string T', .int .u64 a', .int .u64 b', .int .u64 c', .int .u64 d', .slice so' n' cap', .int .i64 p', .int .i64 q] 52) := by rw [hW10]; exact set_in bX9 9 _
  have gW10 : w5.grownBy W10 (some (w.heap.size + 1)) := by rw [hW10]; exact G.setR gX9
  rw [← hX1, ← hX2, ← hX3, ← hX4, ← hX5, ← hX6, ← hX7, ← hX8, ← hX9, ← hW10]
  have h10 := bW10
  have hg10 := gW10
  clear hW10 hX9 hX8 hX7 hX6 hX5 hX4 hX3 hX2 hX1 bX1 bX2 bX3 bX4 bX5 bX6 bX7 bX8 bX9 bW10 gX1 gX2 gX3 gX4 gX5 gX6 gX7 gX8 gX9 gW10
  have hB4 : Below w.heap.size w w4 := HB0.out.drew.trans (hb4.mono HB0.out.drew.size)
  have hB5 : Below w.heap.size w w5 := hB4.trans (hb5.mono hB4.size)
  have HF := hid (show CrA (nm, t, q) w (.returned (.agg #[.string nm, .int .i64 k', .string T', .int .u64 a', .int .u64 b', .int .u64 c', .int .u64 d', .slice so' n' cap', .int .i64 p', .int .i64 q])) W10 from ⟨k', T', a', b', c', d', so', n', cap', p', rfl, hid (RqIs.kept (w' := W10) (Q := fun g => w.heap.size ≤ g) (fun g cur hp hq => ⟨hg10.block g (node_lt hq) (fun e => by have e2 : g = w.heap.size + 1 := Option.some.inj e; have h4 := node_lt HZ4.out; have hp' : w4.heap.size ≤ g := hp; omega), Nat.le_trans hB4.size hp⟩) _ _ HQ5.out), hid (hB5.grown hg10 hB5.size (fun g e => by have := Option.some.inj e; omega))⟩)
  obtain ⟨⟨e0, e1, e2, e3, e4, e5, e6, e7, e8, e9⟩, _⟩ := ten_cells h10
  clear hg10 hB4 hB5 HQ5 HB5 hb5 hb4 HZ5 HZ4 h10 z0 z1 z2 z3 z4 z5 z6 z7 z8 z9 f0 f1 f2 f3 f4 f5 f6 f7 f8 f9 S2 t0 t1 t2 t3 t4 t5 t6 t7 t8 t9 HC HCl
  go_wp2_with fail
  refine bodyPost_ret (v := .agg #[.string nm, .int .i64 k', .string T', .int .u64 a', .int .u64 b', .int .u64 c', .int .u64 d', .slice so' n' cap', .int .i64 p', .int .i64 q]) (by simp [results, Tryz.results39, go_sem, e0, e1, e2, e3, e4, e5, e6, e7, e8, e9]) rfl ?_
  exact HF.out
end Go.Proofs.YtgoogfbphilpmaaGreatDoor
