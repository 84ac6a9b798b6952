/-
  muntinlaw05.PrintExprs answers true, whatever its argument. Conditions: those that each theorem names.
-/
import Derived.Test.YtikfnaffiehpaaaGreatDoorVSC
namespace Go.Proofs.YtikfnaffiehpaaaGreatDoor
open Go.RowKit Go.Shelf
set_option linter.unusedVariables false
section
variable {Nm : ByteArray → Prop} {QT : ByteArray → ByteArray} {CT : Nat → ByteArray}
/-- One rule's text, with no end of line behind it, is read as the rule. -/
theorem print_one (hP : Pcs Nm QT CT) {M : ByteArray} {nd : Nd} (hn : Nm M) (hv : Vk nd) (hw : Wf Nm nd) (hd : dN nd ≤ 24) (h8 : sz (M :: bAr :: pN QT CT nd) ≤ 8192) : ∃ rs', parS (cat (M :: bAr :: pN QT CT nd)) = .inr rs' ∧ RlL [(M, nd, 0)] rs' := by
  obtain ⟨X, hX⟩ : ∃ X, X = cat (M :: bAr :: pN QT CT nd) := ⟨_, rfl⟩
  have hsz : X.size = sz (M :: bAr :: pN QT CT nd) := by rw [hX, cat_size]
  have hpl : PlL X 0 (M :: bAr :: pN QT CT nd) := by
    have := pl_cat (M :: bAr :: pN QT CT nd) { data := #[] }
    have e : ({ data := #[] } : ByteArray) ++ cat (M :: bAr :: pN QT CT nd) = X := by
      rw [hX]
      apply ext_bt
      intro j
      rw [bt_app, if_neg (by show ¬ j < 0; omega)]
      rfl
    rw [e] at this
    exact this
  have hr : Rds X 0 (0 + sz (M :: bAr :: pN QT CT nd)) (kR [(M, nd, 0)]) := by
    rw [PlL, PlL] at hpl
    obtain ⟨h1, h2, h3⟩ := hpl
    have c0 : bt X (0 + M.size) = some 32 := h2.2 0 (by decide)
    have r1 := rds_name hP hn h1 (fol_of c0 (by decide))
    have r2 := rds_arrow h2
    have r3 := rds_all hP _ nd (Nat.lt_succ_self _) hv hw _ h3 (fun y hy => by
      rw [bt_ge (by rw [hsz, sz, sz]; omega)] at hy
      cases hy)
    have e : 0 + sz (M :: bAr :: pN QT CT nd) = 0 + M.size + bAr.size + sz (pN QT CT nd) := by
      rw [sz, sz]
      omega
    have e2 : kR [(M, nd, 0)] = [(1, M, 0)] ++ ([(2, { data := #[] }, 0)] ++ kN nd) := by
      rw [kR, kR]
      simp
    rw [e, e2]
    exact r1.trans (r2.trans r3)
  obtain ⟨ts, e1, e2⟩ := hr
  rw [Nat.zero_add, ← hsz, sb_none (bt_ge (Nat.le_refl _)), tks_end (Nat.le_refl _)] at e2
  simp only [lift, List.append_nil] at e2
  have ht : tkS X = .inr (ts ++ [(6, { data := #[] }, 0, X.size)]) := by
    unfold tkS
    rw [e2]
    rfl
  have hlen : ts.length = (kR [(M, nd, 0)]).length := by
    have := congrArg List.length e1
    simpa using this
  have hgood := tkS_good ht (by omega)
  rw [← hX]
  unfold parS
  rw [ht]
  refine gra_print hgood.1.len (fun x h => ?_) (by simp) (by simp) (fun i c hi => ?_) (by simp; omega) ?_
  · obtain rfl : x = (M, nd, 0) := by simpa using h
    exact ⟨hv, hd⟩
  · have hi2 : i < ts.length := by
      rcases Nat.lt_or_ge i ts.length with h | h
      · exact h
      · rw [List.getElem?_eq_none (by omega)] at hi; cases hi
    rw [Nat.zero_add, gL_left hi2]
    rw [← e1, List.getElem?_map, List.getElem?_eq_getElem hi2] at hi
    simpa using hi
  · rw [← hlen, gL_right (Nat.le_refl _), Nat.sub_self]
    rfl
end
mutual
theorem SmR.symm : ∀ (t u : RT), SmR false t u → SmR false u t
  | .mk k T a b c d s p, .mk k' T' a' b' c' d' s' p', h => by
    rw [SmR] at h ⊢
    exact ⟨h.1.symm, h.2.1.symm, h.2.2.1.symm, h.2.2.2.1.symm, h.2.2.2.2.1.symm, h.2.2.2.2.2.1.symm, fun e => (by cases e), SmRL.symm s s' h.2.2.2.2.2.2.2⟩
theorem SmRL.symm : ∀ (s q : List RT), SmRL false s q → SmRL false q s
  | [], [], _ => by rw [SmRL]; trivial
  | [], _ :: _, h => by simp [SmRL] at h
  | _ :: _, [], h => by simp [SmRL] at h
  | t :: r, u :: q, h => by
    rw [SmRL] at h ⊢
    exact ⟨SmR.symm t u h.1, SmRL.symm r q h.2⟩
end
theorem keep1 {W W' : World} (hb : Below W.heap.size W W') {p : Addr} {u : Value} (h : W.cell? p = some u) : W'.cell? p = some u := (hb.cell (World.block_lt_of_cell? W _ h)).trans h
theorem keep_px {W4 W W' : World} {q g m n cap n1 cap1 cap' : Nat} {k a b c d p k1 a1 b1 cc1 d1 p1 : Int} {T T1 : ByteArray} {so so1 : Option Addr} (hb : Below W.heap.size W W') (h : Hid (Below W4.heap.size W4 W) ∧ W.cell? ⟨q, 0, none⟩ = some (.slice (some ⟨g, 0, none⟩) 1 cap') ∧ W.cell? ⟨g, 1, none⟩ = some (.int .i64 k1) ∧ W.cell? ⟨g, 2, none⟩ = some (.string T1) ∧ W.cell? ⟨g, 3, none⟩ = some (.int .u64 a1) ∧ W.cell? ⟨g, 4, none⟩ = some (.int .u64 b1) ∧ W.cell? ⟨g, 5, none⟩ = some (.int .u64 cc1) ∧ W.cell? ⟨g, 6, none⟩ = some (.int .u64 d1) ∧ W.cell? ⟨g, 7, none⟩ = some (.slice so1 n1 cap1) ∧ W.cell? ⟨g, 8, none⟩ = some (.int .i64 p1) ∧ W.cell? ⟨m, 0, none⟩ = some (.int .i64 k) ∧ W.cell? ⟨m, 1, none⟩ = some (.string T) ∧ W.cell? ⟨m, 2, none⟩ = some (.int .u64 a) ∧ W.cell? ⟨m, 3, none⟩ = some (.int .u64 b) ∧ W.cell? ⟨m, 4, none⟩ = some (.int .u64 c) ∧ W.cell? ⟨m, 5, none⟩ = some (.int .u64 d) ∧ W.cell? ⟨m, 6, none⟩ = some (.slice so n cap) ∧ W.cell? ⟨m, 7, none⟩ = some (.int .i64 p)) : Hid (Below W4.heap.size W4 W') ∧ W'.cell? ⟨q, 0, none⟩ = some (.slice (some ⟨g, 0, none⟩) 1 cap') ∧ W'.cell? ⟨g, 1, none⟩ = some (.int .i64 k1) ∧ W'.cell? ⟨g, 2, none⟩ = some (.string T1) ∧ W'.cell? ⟨g, 3, none⟩ = some (.int .u64 a1) ∧ W'.cell? ⟨g, 4, none⟩ = some (.int .u64 b1) ∧ W'.cell? ⟨g, 5, none⟩ = some (.int .u64 cc1) ∧ W'.cell? ⟨g, 6, none⟩ = some (.int .u64 d1) ∧ W'.cell? ⟨g, 7, none⟩ = some (.slice so1 n1 cap1) ∧ W'.cell? ⟨g, 8, none⟩ = some (.int .i64 p1) ∧ W'.cell? ⟨m, 0, none⟩ = some (.int .i64 k) ∧ W'.cell? ⟨m, 1, none⟩ = some (.string T) ∧ W'.cell? ⟨m, 2, none⟩ = some (.int .u64 a) ∧ W'.cell? ⟨m, 3, none⟩ = some (.int .u64 b) ∧ W'.cell? ⟨m, 4, none⟩ = some (.int .u64 c) ∧ W'.cell? ⟨m, 5, none⟩ = some (.int .u64 d) ∧ W'.cell? ⟨m, 6, none⟩ = some (.slice so n cap) ∧ W'.cell? ⟨m, 7, none⟩ = some (.int .i64 p) := by
  obtain ⟨h0, x, z1, z2, z3, z4, z5, z6, z7, z8, c0, c1, c2, c3, c4, c5, c6, c7⟩ := h
  exact ⟨hid (h0.out.trans (hb.mono h0.out.size)), keep1 hb x, keep1 hb z1, keep1 hb z2, keep1 hb z3, keep1 hb z4, keep1 hb z5, keep1 hb z6, keep1 hb z7, keep1 hb z8, keep1 hb c0, keep1 hb c1, keep1 hb c2, keep1 hb c3, keep1 hb c4, keep1 hb c5, keep1 hb c6, keep1 hb c7⟩
set_option maxRecDepth 100000 in
set_option maxHeartbeats 8000000 in
theorem pexprs_nil (k : Int) (T : ByteArray) (a b c d p : Int) (so : Option Addr) (n cap : Nat) (w : World) (h : ErrIs w) (hT : TabIs w)
    (HP : Hid (∀ W, Below w.heap.size w W → Calls Tryz.prog 15 #[.agg (r8 k T a b c d so n cap p).toArray] W fun e w' => e = .returned (.string { data := #[] }) ∧ Below W.heap.size W w')) :
    Calls Tryz.prog 7 #[.agg (r8 k T a b c d so n cap p).toArray] w fun e w' => e = .returned (.bool true) ∧ Below w.heap.size w w' := by
  obtain ⟨W1, hW1⟩ : ∃ W1, W1 = w.alloc (.cells #[.int .i64 k, .string T, .int .u64 a, .int .u64 b, .int .u64 c, .int .u64 d, .slice so n cap, .int .i64 p] 30) := ⟨_, rfl⟩
  have HB1 : Hid (Below w.heap.size w W1) := by rw [hW1]; exact (Below.refl _ w).alloc (Nat.le_refl _) _
  have HC1 : Hid (W1.heap[w.heap.size]? = some (.cells #[.int .i64 k, .string T, .int .u64 a, .int .u64 b, .int .u64 c, .int .u64 d, .slice so n cap, .int .i64 p] 30)) := by rw [hW1]; exact new_block_at w _ rfl
  have HSm := hid (psmall_ok W1 (h.below HB1.out h.lt) (hT.below HB1.out hT.lt))
  have HW1 := hid hW1
  clear h hT hW1
  dsimp only [r8] at HP ⊢
  go_enter Tryz.func7, Tryz.ntmps7
  go_wp2_with fail
  rw [← HW1.out]
  refine HSm.out.mono ?_
  rintro e w1 ⟨rfl, HB2⟩
  have HB3 : Hid (Below w.heap.size w w1) := HB1.out.trans (HB2.out.mono HB1.out.size)
  obtain ⟨⟨c0, c1, c2, c3, c4, c5, c6, c7⟩, _⟩ := eight_cells ((HB2.out.block _ (node_lt HC1.out)).trans HC1.out)
  clear HSm
  go_wp2_with fail
  refine (HP.out _ HB3.out).mono ?_
  rintro e w2 ⟨rfl, hb2⟩
  have HB4 : Hid (Below w.heap.size w w2) := HB3.out.trans (hb2.mono HB3.out.size)
  clear HP hb2
  go_wp2_with fail
  go_ret
  exact ⟨rfl, HB4.out⟩
set_option maxRecDepth 100000 in
set_option maxHeartbeats 8000000 in
theorem pexprs_txt (k : Int) (T : ByteArray) (a b c d p : Int) (so : Option Addr) (n cap : Nat) (w : World) (X : ByteArray) (h : ErrIs w) (hT : TabIs w) (hX0 : 0 < X.size) (hX8 : X.size + 5 ≤ 8192) (t : RT) (HRt : Hid (RtIs w w.heap.size t (r8 k T a b c d so n cap p))) (y : Rl) (HY : Hid (parS ({ data := #[114, 32, 60, 45, 32] } ++ X) = .inr [y])) (HSm0 : Hid (SmR false (toR y.2.1) t))
    (HP : Hid (∀ W, Below w.heap.size w W → Calls Tryz.prog 15 #[.agg (r8 k T a b c d so n cap p).toArray] W fun e w' => e = .returned (.string X) ∧ Below W.heap.size W w')) :
    Calls Tryz.prog 7 #[.agg (r8 k T a b c d so n cap p).toArray] w fun e w' => e = .returned (.bool true) ∧ Below w.heap.size w w' := by
  obtain ⟨W1, hW1⟩ : ∃ W1, W1 = w.alloc (.cells #[.int .i64 k, .string T, .int .u64 a, .int .u64 b, .int .u64 c, .int .u64 d, .slice so n cap, .int .i64 p] 30) := ⟨_, rfl⟩
  have HB1 : Hid (Below w.heap.size w W1) := by rw [hW1]; exact (Below.refl _ w).alloc (Nat.le_refl _) _
  have HC1 : Hid (W1.heap[w.heap.size]? = some (.cells #[.int .i64 k, .string T, .int .u64 a, .int .u64 b, .int .u64 c, .int .u64 d, .slice so n cap, .int .i64 p] 30)) := by rw [hW1]; exact new_block_at w _ rfl
  have HSm := hid (psmall_ok W1 (h.below HB1.out h.lt) (hT.below HB1.out hT.lt))
  have HE := hid h
  have hne : X.toList.isEmpty = false := by
    rw [Go.ByteArray.toList_eq]
    cases h : X.data.toList with
    | nil =>
      have h1 : X.data.toList.length = 0 := by rw [h]; rfl
      have h2 : X.data.size = X.size := rfl
      rw [Array.length_toList] at h1
      omega
    | cons _ _ => rfl
  have HW1 := hid hW1
  clear h hT hW1
  dsimp only [r8] at HP ⊢
  go_enter Tryz.func7, Tryz.ntmps7
  go_wp2_with fail
  rw [← HW1.out]
  refine HSm.out.mono ?_
  rintro e w1 ⟨rfl, HB2⟩
  have HB3 : Hid (Below w.heap.size w w1) := HB1.out.trans (HB2.out.mono HB1.out.size)
  have HC3 : Hid (w1.heap[w.heap.size]? = some (.cells #[.int .i64 k, .string T, .int .u64 a, .int .u64 b, .int .u64 c, .int .u64 d, .slice so n cap, .int .i64 p] 30)) := (HB2.out.block _ (node_lt HC1.out)).trans HC1.out
  obtain ⟨⟨c0, c1, c2, c3, c4, c5, c6, c7⟩, _⟩ := eight_cells HC3.out
  clear HSm
  go_wp2_with fail
  refine (HP.out _ HB3.out).mono ?_
  rintro e w2 ⟨rfl, hb2⟩
  have HB4 : Hid (Below w.heap.size w w2) := HB3.out.trans (hb2.mono HB3.out.size)
  have HC4 : Hid (w2.heap[w.heap.size]? = some (.cells #[.int .i64 k, .string T, .int .u64 a, .int .u64 b, .int .u64 c, .int .u64 d, .slice so n cap, .int .i64 p] 30)) := (hb2.block _ (node_lt HC3.out)).trans HC3.out
  have HU : Hid (({ data := #[114, 32, 60, 45, 32] } ++ X : ByteArray).size ≤ 8192) := by
    show _ ≤ _
    rw [ByteArray.size_append]
    show 5 + X.size ≤ 8192
    omega
  have HSS := hid (rll_mem (par_sm HU.out HY.out))
  have HP2 := hid (yparse_any ({ data := #[114, 32, 60, 45, 32] } ++ X) w2 (HE.out.below HB4.out HE.out.lt) HU.out)
  rw [HY.out] at HP2
  unfold AnsD at HP2
  simp only [List.length_cons, List.length_nil, Nat.reduceAdd] at HP2
  clear HP hb2 c0 c1 c2 c3 c4 c5 c6 c7
  go_wp2_with fail
  refine HP2.out.mono ?_
  rintro e w3 ⟨g', cap', rfl, HR3, hb3⟩
  have HB5 : Hid (Below w.heap.size w w3) := HB4.out.trans (hb3.out.mono HB4.out.size)
  obtain ⟨W4, hW4⟩ : ∃ W4, W4 = w3.alloc (.cells #[.slice (some ⟨g', 0, none⟩) 1 cap'] 24) := ⟨_, rfl⟩
  have HB6 : Hid (Below w.heap.size w W4) := by rw [hW4]; exact HB5.out.alloc HB5.out.size _
  have HR6 : Hid (RoR w2.heap.size (.slice (some ⟨g', 0, none⟩) 1 cap') [y] W4) := by rw [hW4]; exact HR3.out.below ((Below.refl _ w3).alloc (Nat.le_refl _) _)
  have HC5 : Hid (w3.heap[w.heap.size]? = some (.cells #[.int .i64 k, .string T, .int .u64 a, .int .u64 b, .int .u64 c, .int .u64 d, .slice so n cap, .int .i64 p] 30)) := (hb3.out.block _ (node_lt HC4.out)).trans HC4.out
  have HG6 := hid (toG_is HR6.out HSS.out (by simp))
  obtain ⟨g, o, eg, hg, k1, T1, a1, b1, cc1, d1, so1, n1, cap1, p1, rt, z0, z1, z2, z3, z4, z5, z6, z7, z8, z9⟩ := HG6.out.2.2 0 (by simp [toG])
  obtain ⟨rfl, rfl⟩ : g = g' ∧ o = 0 := by
    have := Option.some.inj eg
    cases this
    exact ⟨rfl, rfl⟩
  simp only [Nat.zero_mul, Nat.zero_add, Nat.add_zero] at z0 z1 z2 z3 z4 z5 z6 z7 z8 z9
  have e0 : (toG [y])[0]'(by simp [toG]) = (y.1, toR y.2.1, (y.2.2 : Int)) := rfl
  rw [e0] at rt z0 z9
  have HZ := hid (fun (W : World) (hb : Below W4.heap.size W4 W) => zsr_all false _ (toR y.2.1) t _ _ _ _ W (Nat.lt_succ_self _) HSm0.out (rt.below hb) (HRt.out.below (HB6.out.trans (hb.mono HB6.out.size))) hb.size (Nat.le_trans HB6.out.size hb.size))
  have HC6 : Hid (W4.heap[w.heap.size]? = some (.cells #[.int .i64 k, .string T, .int .u64 a, .int .u64 b, .int .u64 c, .int .u64 d, .slice so n cap, .int .i64 p] 30)) := by rw [hW4]; exact (Below.heap_alloc _ _ _ (node_lt HC5.out)).trans HC5.out
  have HX6 : Hid (W4.heap[w3.heap.size]? = some (.cells #[.slice (some ⟨g, 0, none⟩) 1 cap'] 24)) := by rw [hW4]; exact new_block_at w3 _ rfl
  obtain ⟨⟨c0, c1, c2, c3, c4, c5, c6, c7⟩, _⟩ := eight_cells HC6.out
  have S1 : (fun W => Hid (Below W4.heap.size W4 W) ∧ W.cell? ⟨w3.heap.size, 0, none⟩ = some (.slice (some ⟨g, 0, none⟩) 1 cap') ∧ W.cell? ⟨g, 1, none⟩ = some (.int .i64 k1) ∧ W.cell? ⟨g, 2, none⟩ = some (.string T1) ∧ W.cell? ⟨g, 3, none⟩ = some (.int .u64 a1) ∧ W.cell? ⟨g, 4, none⟩ = some (.int .u64 b1) ∧ W.cell? ⟨g, 5, none⟩ = some (.int .u64 cc1) ∧ W.cell? ⟨g, 6, none⟩ = some (.int .u64 d1) ∧ W.cell? ⟨g, 7, none⟩ = some (.slice so1 n1 cap1) ∧ W.cell? ⟨g, 8, none⟩ = some (.int .i64 p1) ∧ W.cell? ⟨w.heap.size, 0, none⟩ = some (.int .i64 k) ∧ W.cell? ⟨w.heap.size, 1, none⟩ = some (.string T) ∧ W.cell? ⟨w.heap.size, 2, none⟩ = some (.int .u64 a) ∧ W.cell? ⟨w.heap.size, 3, none⟩ = some (.int .u64 b) ∧ W.cell? ⟨w.heap.size, 4, none⟩ = some (.int .u64 c) ∧ W.cell? ⟨w.heap.size, 5, none⟩ = some (.int .u64 d) ∧ W.cell? ⟨w.heap.size, 6, none⟩ = some (.slice so n cap) ∧ W.cell? ⟨w.heap.size, 7, none⟩ = some (.int .i64 p)) W4.drew := keep_px (Below.refl _ W4).drew ⟨hid (Below.refl _ _), (one_cell HX6.out).1, z1, z2, z3, z4, z5, z6, z7, z8, c0, c1, c2, c3, c4, c5, c6, c7⟩
  have HS1 := hid S1
  have HW4 := hid hW4
  clear HP2 hb3 HR3 hW4 rt eg HG6 S1 z0 z1 z2 z3 z4 z5 z6 z7 z8 z9 c0 c1 c2 c3 c4 c5 c6 c7
  dsimp only [r8] at HZ
  go_wp2_with fail
  rw [← HW4.out]
  have S1 := HS1.out
  go_region_held3 (fun W => Hid (Below W4.heap.size W4 W) ∧ W.cell? ⟨w3.heap.size, 0, none⟩ = some (.slice (some ⟨g, 0, none⟩) 1 cap') ∧ W.cell? ⟨g, 1, none⟩ = some (.int .i64 k1) ∧ W.cell? ⟨g, 2, none⟩ = some (.string T1) ∧ W.cell? ⟨g, 3, none⟩ = some (.int .u64 a1) ∧ W.cell? ⟨g, 4, none⟩ = some (.int .u64 b1) ∧ W.cell? ⟨g, 5, none⟩ = some (.int .u64 cc1) ∧ W.cell? ⟨g, 6, none⟩ = some (.int .u64 d1) ∧ W.cell? ⟨g, 7, none⟩ = some (.slice so1 n1 cap1) ∧ W.cell? ⟨g, 8, none⟩ = some (.int .i64 p1) ∧ W.cell? ⟨w.heap.size, 0, none⟩ = some (.int .i64 k) ∧ W.cell? ⟨w.heap.size, 1, none⟩ = some (.string T) ∧ W.cell? ⟨w.heap.size, 2, none⟩ = some (.int .u64 a) ∧ W.cell? ⟨w.heap.size, 3, none⟩ = some (.int .u64 b) ∧ W.cell? ⟨w.heap.size, 4, none⟩ = some (.int .u64 c) ∧ W.cell? ⟨w.heap.size, 5, none⟩ = some (.int .u64 d) ∧ W.cell? ⟨w.heap.size, 6, none⟩ = some (.slice so n cap) ∧ W.cell? ⟨w.heap.size, 7, none⟩ = some (.int .i64 p)) (first | assumption | exact keep_px (by assumption) (by assumption)) (first | (go_at_call 19; refine (HZ.out _ ?hh).mono ?_; (case hh => exact S1.1.out); rintro e w5 ⟨rfl, hb5⟩))
  have S3 : (fun W => Hid (Below W4.heap.size W4 W) ∧ W.cell? ⟨w3.heap.size, 0, none⟩ = some (.slice (some ⟨g, 0, none⟩) 1 cap') ∧ W.cell? ⟨g, 1, none⟩ = some (.int .i64 k1) ∧ W.cell? ⟨g, 2, none⟩ = some (.string T1) ∧ W.cell? ⟨g, 3, none⟩ = some (.int .u64 a1) ∧ W.cell? ⟨g, 4, none⟩ = some (.int .u64 b1) ∧ W.cell? ⟨g, 5, none⟩ = some (.int .u64 cc1) ∧ W.cell? ⟨g, 6, none⟩ = some (.int .u64 d1) ∧ W.cell? ⟨g, 7, none⟩ = some (.slice so1 n1 cap1) ∧ W.cell? ⟨g, 8, none⟩ = some (.int .i64 p1) ∧ W.cell? ⟨w.heap.size, 0, none⟩ = some (.int .i64 k) ∧ W.cell? ⟨w.heap.size, 1, none⟩ = some (.string T) ∧ W.cell? ⟨w.heap.size, 2, none⟩ = some (.int .u64 a) ∧ W.cell? ⟨w.heap.size, 3, none⟩ = some (.int .u64 b) ∧ W.cell? ⟨w.heap.size, 4, none⟩ = some (.int .u64 c) ∧ W.cell? ⟨w.heap.size, 5, none⟩ = some (.int .u64 d) ∧ W.cell? ⟨w.heap.size, 6, none⟩ = some (.slice so n cap) ∧ W.cell? ⟨w.heap.size, 7, none⟩ = some (.int .i64 p)) w5 := by assumption
  have HB7 : Hid (Below w.heap.size w w5) := HB6.out.trans (S3.1.out.mono HB6.out.size)
  clear HZ hb5 S1 S3 HS1
  go_wp2_with fail
  go_ret
  exact ⟨rfl, HB7.out⟩
theorem one_list {α : Type} {l : List α} (h : l.length = 1) : ∃ x, l = [x] := by
  match l, h with
  | [x], _ => exact ⟨x, rfl⟩
@[reducible] def bR : ByteArray := { data := #[114] }
theorem nm_R : ∀ x, x < 1 → nmS bR = true := by decide +kernel
/-- muntinlaw05.PrintExprs answers true. -/
theorem pexprs_any (k : Int) (T : ByteArray) (a b c d p : Int) (so : Option Addr) (n cap : Nat) (t : RT) (w : World) (h : ErrIs w) (hT : TabIs w) (ht : RtIs w w.heap.size t (r8 k T a b c d so n cap p)) (hz : RtZ t) (hu : RtU t) :
    Calls Tryz.prog 7 #[.agg (r8 k T a b c d so n cap p).toArray] w fun e w' => e = .returned (.bool true) ∧ Below w.heap.size w w' := by
  cases hk : okT t with
  | false => exact pexprs_nil k T a b c d p so n cap w h hT (fun W hW => nexpr_bad k T a b c d p so n cap t W ((ht.below hW).mono hW.size _ _) hz hk)
  | true =>
    obtain ⟨nd, hq, hv, hw⟩ := of_okT t hk hu
    have HP : ∀ W, Below w.heap.size w W → Calls Tryz.prog 15 #[.agg (r8 k T a b c d so n cap p).toArray] W fun e w' => e = .returned (.string (exS nd)) ∧ Below W.heap.size W w' := fun W hW =>
      nexpr_ok k T a b c d p so n cap t nd W (hT.below hW hT.lt) ((ht.below hW).mono hW.size _ _) hz hq hv hw
    rcases Nat.eq_zero_or_pos (exS nd).size with h0 | h0
    · have e : exS nd = { data := #[] } := ByteArray.ext (Array.eq_empty_of_size_eq_zero h0)
      rw [e] at HP
      exact pexprs_nil k T a b c d p so n cap w h hT HP
    · unfold exS at h0 HP
      split at h0
      · simp [ByteArray.size] at h0
      · rename_i hc
        rw [if_neg hc] at HP
        have hs : sz (pR qT cT [(bA, nd, 0)]) ≤ 8192 := by omega
        have hd : dR [(bA, nd, 0)] ≤ 24 := by omega
        have hd2 : dN nd ≤ 24 := dR_le.1 hd (bA, nd, 0) (by simp)
        have hcs := (cat_cut nd).1
        have hcz : (cat (pR qT cT [(bA, nd, 0)])).size ≤ 8192 := by rw [cat_size]; exact hs
        have e1 : cat (bR :: bAr :: pN qT cT nd) = { data := #[114, 32, 60, 45, 32] } ++ cat (pN qT cT nd) := by
          rw [cat, cat, ← ByteArray.append_assoc]
          rfl
        have hsz : sz (bR :: bAr :: pN qT cT nd) ≤ 8192 := by
          rw [← cat_size, e1, ByteArray.size_append]
          show 5 + _ ≤ _
          omega
        obtain ⟨ms, hp, hrl⟩ := print_one pcs_ok (nm_R 0 (by decide)) hv hw hd2 hsz
        obtain ⟨y, rfl⟩ := one_list (hrl.len.trans rfl)
        have hsm : Sm nd y.2.1 := by
          rw [RlL] at hrl
          exact hrl.1.2
        have hp2 : parS ({ data := #[114, 32, 60, 45, 32] } ++ cat (pN qT cT nd)) = .inr [y] := by
          rw [← e1]
          exact hp
        exact pexprs_txt k T a b c d p so n cap w _ h hT h0 (by omega) t ht y hp2 (SmR.symm _ _ (tq_sm t nd y.2.1 hq hsm)) HP
end Go.Proofs.YtikfnaffiehpaaaGreatDoor
