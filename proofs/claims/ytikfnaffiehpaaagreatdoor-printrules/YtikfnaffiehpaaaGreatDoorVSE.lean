/-
  muntinlaw05.PrintRules answers true, whatever its argument. Conditions: those that each theorem names.
-/
import Derived.Test.YtikfnaffiehpaaaGreatDoorVSC
namespace Go.Proofs.YtikfnaffiehpaaaGreatDoor
open Go.RowKit Go.Shelf Go.ChangeShapes Go.WideShapes Go.ChangeAt
set_option linter.unusedVariables false
section
variable {H : Type} {enc : TypeId × Value → H} {W : World} {sp : Nat → Bool} {hl : Bool}
set_option maxRecDepth 100000 in
/-- A slice is no longer than its room. -/
theorem gram_cap {so : Option Addr} {n cap : Nat} {d : DataW H} {ps : List MemPlace} (h : DataW.Trod enc Tryz.prog W 0 sp hl 24 (.agg #[.slice so n cap]) d ps) : n ≤ cap := by
  obtain ⟨fuel, hf⟩ := h
  obtain ⟨xs, m, hm, hx, hlen, hxs, hf⟩ := DataW.trod_struct Tryz.structGram hf
  rw [fields_size Tryz.fieldsGram] at hxs
  match xs, hxs with
  | [y0], _ =>
  obtain ⟨f0, g0, t0, o0⟩ := fieldsq Tryz.fieldsGram 0 _ rfl
  have r0 := hf 0 f0 g0
  simp only [Value.cells, t0, o0, Tryz.cellsRules, List.drop_zero, List.take_succ_cons, List.take_zero, List.getElem?_cons_zero] at r0
  rcases DataW.trod_slice Tryz.sliceRules r0 with ⟨e6, _⟩ | ⟨ad, len, cap', elems, rest, m2, hm2, e6, _, _, hlc, hcm, hel, hev, _⟩
  · simp only [List.cons.injEq, and_true, Value.slice.injEq] at e6
    omega
  · simp only [List.cons.injEq, and_true, Value.slice.injEq] at e6
    omega
end
theorem pR_one (M : ByteArray) (nd : Nd) (p : Nat) : cat (pR qT cT [(M, nd, p)]) = M ++ { data := #[32, 60, 45, 32] } ++ cat (pN qT cT nd) ++ { data := #[10] } := by
  rw [pR, pR, cat, cat, cat_app, cat, cat]
  apply ByteArray.ext
  apply Array.ext'
  simp [bAr, bNl]
theorem pR_sz (M : ByteArray) (nd : Nd) (p : Nat) : sz (pR qT cT [(M, nd, p)]) = M.size + sz (pN qT cT nd) + 5 := by
  rw [← cat_size, pR_one, ByteArray.size_append, ByteArray.size_append, ByteArray.size_append, cat_size]
  show _ + 4 + _ + 1 = _
  omega
theorem pR_mem {ns : List Rl} {x : Rl} (h : x ∈ ns) : sz (pR qT cT [x]) ≤ sz (pR qT cT ns) := by
  obtain ⟨a, b, rfl⟩ := List.append_of_mem h
  rw [pR_app, sz_app, show x :: b = [x] ++ b from rfl, pR_app, sz_app]
  omega
theorem nm_pos {M : ByteArray} (h : nmS M = true) : 1 ≤ M.size := by
  rcases Nat.eq_zero_or_pos M.size with h0 | h0
  · have e : M = { data := #[] } := ByteArray.ext (Array.eq_empty_of_size_eq_zero h0)
    subst e
    exact absurd h (by decide)
  · exact h0
/-- An expression of a rule that may be printed has a text. -/
theorem exS_in {ns : List Rl} {x : Rl} (h : x ∈ ns) (hk : Ruk Nmq x) (hs : sz (pR qT cT ns) ≤ 8192) (hd : dR ns ≤ 24) : exS x.2.1 = cat (pN qT cT x.2.1) := by
  obtain ⟨M, nd, p⟩ := x
  have h1 := pR_mem h
  have h2 : 1 ≤ M.size := nm_pos hk.1
  have h3 : dN nd ≤ 24 := dR_le.1 hd _ h
  have h4 : dR [(bA, nd, 0)] ≤ 24 := dR_le.2 (fun y hy => by
    obtain rfl : y = (bA, nd, 0) := by simpa using hy
    exact h3)
  rw [pR_sz] at h1
  have h5 : sz (pR qT cT [(bA, nd, 0)]) ≤ 8192 := by
    rw [pR_sz]
    show 1 + _ + 5 ≤ _
    omega
  show exS nd = cat (pN qT cT nd)
  unfold exS
  rw [if_neg (by omega)]
set_option maxRecDepth 100000 in
set_option maxHeartbeats 8000000 in
theorem prules_err (so : Option Addr) (n cap : Nat) (c0 : Int) (w : World) (h : ErrIs w) (hT : TabIs w)
    (HP : Hid (∀ W, Below w.heap.size w W → Calls Tryz.prog 11 #[.agg #[.slice so n cap]] W fun e w' => e = .returned (.tuple #[.string { data := #[] }, .iface 39 (.int .i64 c0)]) ∧ Below W.heap.size W w')) :
    Calls Tryz.prog 6 #[.agg #[.slice so n cap]] w fun e w' => e = .returned (.bool true) ∧ Below w.heap.size w w' := by
  obtain ⟨W1, hW1⟩ : ∃ W1, W1 = w.alloc (.cells #[.slice so n cap] 24) := ⟨_, rfl⟩
  have HB1 : Hid (Below w.heap.size w W1) := by rw [hW1]; exact (Below.refl _ w).alloc (Nat.le_refl _) _
  have HC1 : Hid (W1.heap[w.heap.size]? = some (.cells #[.slice so n cap] 24)) := by rw [hW1]; exact new_block_at w _ rfl
  have HZ1 : Hid (w.heap.size < W1.heap.size) := node_lt HC1.out
  have HSm := hid (psmall_ok W1 (h.below HB1.out h.lt) (hT.below HB1.out hT.lt))
  have HW1 := hid hW1
  clear h hT hW1
  go_enter Tryz.func6, Tryz.ntmps6
  go_wp2_with fail
  rw [← HW1.out]
  refine HSm.out.mono ?_
  rintro e w1 ⟨rfl, HB2⟩
  have HB3 : Hid (Below w.heap.size w w1) := HB1.out.trans (HB2.out.mono HB1.out.size)
  have k0 := (one_cell ((HB2.out.block _ HZ1.out).trans HC1.out)).1
  clear HSm
  go_wp2_with fail
  refine (HP.out _ HB3.out).mono ?_
  rintro e w2 ⟨rfl, hb2⟩
  have HB4 : Hid (Below w.heap.size w w2) := HB3.out.trans (hb2.mono HB3.out.size)
  clear HP hb2
  go_wp2_with fail
  go_ret
  exact ⟨rfl, HB4.out⟩
theorem keepX {W W' : World} (hb : Below W.heap.size W W') {p : Addr} {u : Value} (h : W.cell? p = some u) : W'.cell? p = some u := (hb.cell (World.block_lt_of_cell? W _ h)).trans h
theorem keep_pr {W4 W W' : World} {q g m n cap n1 cap1 : Nat} {k a b c d p : Int} {N T : ByteArray} {so so1 : Option Addr} (hb : Below W.heap.size W W') (h : Hid (Below W4.heap.size W4 W) ∧ W.cell? ⟨q, 0, none⟩ = some (.slice so n cap) ∧ W.cell? ⟨g, m, none⟩ = some (.string N) ∧ W.cell? ⟨g, m + 1, none⟩ = some (.int .i64 k) ∧ W.cell? ⟨g, m + 2, none⟩ = some (.string T) ∧ W.cell? ⟨g, m + 3, none⟩ = some (.int .u64 a) ∧ W.cell? ⟨g, m + 4, none⟩ = some (.int .u64 b) ∧ W.cell? ⟨g, m + 5, none⟩ = some (.int .u64 c) ∧ W.cell? ⟨g, m + 6, none⟩ = some (.int .u64 d) ∧ W.cell? ⟨g, m + 7, none⟩ = some (.slice so1 n1 cap1) ∧ W.cell? ⟨g, m + 8, none⟩ = some (.int .i64 p)) : Hid (Below W4.heap.size W4 W') ∧ W'.cell? ⟨q, 0, none⟩ = some (.slice so n cap) ∧ W'.cell? ⟨g, m, none⟩ = some (.string N) ∧ W'.cell? ⟨g, m + 1, none⟩ = some (.int .i64 k) ∧ W'.cell? ⟨g, m + 2, none⟩ = some (.string T) ∧ W'.cell? ⟨g, m + 3, none⟩ = some (.int .u64 a) ∧ W'.cell? ⟨g, m + 4, none⟩ = some (.int .u64 b) ∧ W'.cell? ⟨g, m + 5, none⟩ = some (.int .u64 c) ∧ W'.cell? ⟨g, m + 6, none⟩ = some (.int .u64 d) ∧ W'.cell? ⟨g, m + 7, none⟩ = some (.slice so1 n1 cap1) ∧ W'.cell? ⟨g, m + 8, none⟩ = some (.int .i64 p) := by
  obtain ⟨h0, x, z0, z1, z2, z3, z4, z5, z6, z7, z8⟩ := h
  exact ⟨hid (h0.out.trans (hb.mono h0.out.size)), keepX hb x, keepX hb z0, keepX hb z1, keepX hb z2, keepX hb z3, keepX hb z4, keepX hb z5, keepX hb z6, keepX hb z7, keepX hb z8⟩
set_option maxRecDepth 100000 in
set_option maxHeartbeats 8000000 in
theorem prules_txt (so : Option Addr) (n cap : Nat) (rs : List Rr) (ns : List Rl) (S : ByteArray) (w : World) (h : ErrIs w) (hT : TabIs w) (hg : RgIs w w.heap.size so n rs) (hc : n ≤ cap) (hn : n ≤ 64)
    (HL : Hid (ns.length = n)) (HS : Hid (S = cat (pR qT cT ns) ∧ S.size ≤ 8192))
    (HP : Hid (∀ W, Below w.heap.size w W → Calls Tryz.prog 11 #[.agg #[.slice so n cap]] W fun e w' => e = .returned (.tuple #[.string S, .nilIface]) ∧ Below W.heap.size W w'))
    (HP1 : Hid (∀ (j : Nat) (hj : j < ns.length) (g o c : Nat) (W : World), so = some ⟨g, o, none⟩ → Below w.heap.size w W → Calls Tryz.prog 11 #[.agg #[.slice (some ⟨g, o + j * 10, none⟩) 1 c]] W fun e w' => e = .returned (.tuple #[.string (cat (pR qT cT [ns[j]])), .nilIface]) ∧ Below W.heap.size W w'))
    (HE1 : Hid (∀ (j : Nat) (hj : j < ns.length) (hj2 : j < rs.length), ns[j].1 = rs[j].1 ∧ ∀ (k1 : Int) (T1 : ByteArray) (a1 b1 c1 d1 p1 : Int) (so1 : Option Addr) (n1 cap1 : Nat) (W : World), RtIs w w.heap.size rs[j].2.1 (r8 k1 T1 a1 b1 c1 d1 so1 n1 cap1 p1) → Below w.heap.size w W → Calls Tryz.prog 15 #[.agg (r8 k1 T1 a1 b1 c1 d1 so1 n1 cap1 p1).toArray] W fun e w' => e = .returned (.string (cat (pN qT cT ns[j].2.1))) ∧ Below W.heap.size W w')) :
    Calls Tryz.prog 6 #[.agg #[.slice so n cap]] w fun e w' => e = .returned (.bool true) ∧ Below w.heap.size w w' := by
  obtain ⟨W1, hW1⟩ : ∃ W1, W1 = w.alloc (.cells #[.slice so n cap] 24) := ⟨_, rfl⟩
  have HB1 : Hid (Below w.heap.size w W1) := by rw [hW1]; exact (Below.refl _ w).alloc (Nat.le_refl _) _
  have HC1 : Hid (W1.heap[w.heap.size]? = some (.cells #[.slice so n cap] 24)) := by rw [hW1]; exact new_block_at w _ rfl
  have HZ1 : Hid (w.heap.size < W1.heap.size) := node_lt HC1.out
  have HSm := hid (psmall_ok W1 (h.below HB1.out h.lt) (hT.below HB1.out hT.lt))
  have HG := hid hg
  have HW1 := hid hW1
  clear h hT hW1 hg
  go_enter Tryz.func6, Tryz.ntmps6
  go_wp2_with fail
  rw [← HW1.out]
  refine HSm.out.mono ?_
  rintro e w1 ⟨rfl, HB2⟩
  have HB3 : Hid (Below w.heap.size w w1) := HB1.out.trans (HB2.out.mono HB1.out.size)
  have HC3 : Hid (w1.heap[w.heap.size]? = some (.cells #[.slice so n cap] 24)) := (HB2.out.block _ HZ1.out).trans HC1.out
  have k0 := (one_cell HC3.out).1
  clear HSm
  go_wp2_with fail
  refine (HP.out _ HB3.out).mono ?_
  rintro e w2 ⟨rfl, hb2⟩
  have HB4 : Hid (Below w.heap.size w w2) := HB3.out.trans (hb2.mono HB3.out.size)
  have HC4 : Hid (w2.heap[w.heap.size]? = some (.cells #[.slice so n cap] 24)) := (hb2.block _ (node_lt HC3.out)).trans HC3.out
  clear HP hb2 k0
  go_wp2_with fail
  go_loopw [6, 7] (fun t i wr => ∃ (j : Nat) (T : ByteArray), i = .int .i64 (j : Int) ∧ j ≤ n ∧ t = .string T ∧ T.size ≤ 8192 ∧ Hid (T = cat (pR qT cT (ns.take j))) ∧ Hid (Below w.heap.size w wr) ∧ Hid (wr.heap[w.heap.size]? = some (.cells #[.slice so n cap] 24))) (fun _ i _ => n - (intOf i).toNat)
  case atStart => exact ⟨0, _, rfl, Nat.zero_le _, rfl, by decide, rfl, HB4, HC4⟩
  case round =>
    obtain ⟨j, T, rfl, hj, rfl, hT8, HTj, HB, HCb⟩ := hrel
    clear HB4 HC4
    have k0 := (one_cell HCb.out).1
    have hwl : w.heap.size < wr.heap.size := node_lt HCb.out
    by_cases hjn : j < n
    · have hjI : (j : Int) < (n : Int) := by omega
      have a0 : decide ((j : Int) < (n : Int)) = true := by simp; omega
      have hjl : j < ns.length := by rw [HL.out]; exact hjn
      have hjs : j < rs.length := by rw [← HG.out.1]; exact hjn
      obtain ⟨g, o, rfl, hg, k1, T1, a1, b1, c1, d1, so1, n1, cap1, p1, rt, z0, z1, z2, z3, z4, z5, z6, z7, z8, z9⟩ := HG.out.2.2 j hjs
      have HPj := hid (fun (W : World) (c : Nat) (hb : Below w.heap.size w W) => HP1.out j hjl g o c W rfl hb)
      have HEj := hid (fun (W : World) (hb : Below w.heap.size w W) => (HE1.out j hjl hjs).2 k1 T1 a1 b1 c1 d1 p1 so1 n1 cap1 W rt hb)
      have hnm := (HE1.out j hjl hjs).1
      obtain ⟨N0, hN0⟩ : ∃ N0, N0 = rs[j].1 := ⟨_, rfl⟩
      rw [← hN0] at z0 hnm
      have HJ1 : Hid (IntKind.i64.wrap ((j : Int) + 1) = ((j : Int) + 1)) := by show _ = _; rw [IntKind.wrap_i64]; omega
      clear hN0 rt
      obtain ⟨X, hX⟩ : ∃ X, X = cat (pN qT cT ns[j].2.1) := ⟨_, rfl⟩
      obtain ⟨U, hU⟩ : ∃ U, U = cat (pR qT cT [ns[j]]) := ⟨_, rfl⟩
      have hUX : U = N0 ++ { data := #[32, 60, 45, 32] } ++ X ++ { data := #[10] } := by
        rw [hU, hX, ← hnm]
        exact pR_one _ _ _
      have hUt : cat (pR qT cT (ns.take (j + 1))) = T ++ U := by
        rw [List.take_succ_eq_append_getElem hjl, pR_app, cat_app, ← hU, ← HTj.out]
      have hle : sz (pR qT cT (ns.take (j + 1))) ≤ S.size := by
        rw [HS.out.1, cat_size]
        have := sz_app (pR qT cT (ns.take (j + 1))) (pR qT cT (ns.drop (j + 1)))
        rw [← pR_app, List.take_append_drop] at this
        omega
      have hTU : T.size + U.size ≤ 8192 := by
        have h1 := cat_size (pR qT cT (ns.take (j + 1)))
        rw [hUt, ByteArray.size_append] at h1
        have := HS.out.2
        omega
      have hNX : N0.size + 4 + X.size + 1 ≤ 8192 := by
        have h1 := congrArg ByteArray.size hUX
        rw [ByteArray.size_append, ByteArray.size_append, ByteArray.size_append] at h1
        have h2 : U.size = N0.size + 4 + X.size + 1 := h1
        omega
      have hUU : U.size ≤ 8192 := by omega
      obtain ⟨A1, hA1⟩ : ∃ A1, A1 = N0 ++ { data := #[32, 60, 45, 32] } := ⟨_, rfl⟩
      obtain ⟨A2, hA2⟩ : ∃ A2, A2 = A1 ++ X := ⟨_, rfl⟩
      have s1 : A1.size = N0.size + 4 := by rw [hA1, ByteArray.size_append]; rfl
      have s2 : A2.size = N0.size + 4 + X.size := by rw [hA2, ByteArray.size_append, s1]
      have ad1 : ∀ w : World, (Op.stringOp .add N0 { data := #[32, 60, 45, 32] }).run Tryz.prog w = .ok (.string A1) w := fun w => by rw [hA1]; exact run_string_add_sum w _ _ (by show _ + 4 ≤ _; omega)
      have ad2 : ∀ w : World, (Op.stringOp .add A1 X).run Tryz.prog w = .ok (.string A2) w := fun w => by rw [hA2]; exact run_string_add_sum w _ _ (by omega)
      have ad3 : ∀ w : World, (Op.stringOp .add A2 { data := #[10] }).run Tryz.prog w = .ok (.string U) w := fun w => by rw [hUX, ← hA1, ← hA2]; exact run_string_add_sum w _ _ (by show _ + 1 ≤ _; omega)
      have eU : (U.toList == U.toList) = true := by simp
      have eV : (U.toList != U.toList) = false := by simp
      clear hA1 hA2 s1 s2
      have HUt := hid hUt
      rw [← hX] at HEj
      rw [← hU] at HPj
      clear hX hU hUX hUt hle hnm
      have hgl : g < wr.heap.size := Nat.lt_of_lt_of_le hg HB.out.size
      dsimp only [r8] at HEj
      have e : ∀ i, wr.cell? ⟨g, i, none⟩ = w.cell? ⟨g, i, none⟩ := fun i => HB.out.cell (p := ⟨g, i, none⟩) hg
      rw [← e] at z0 z1 z2 z3 z4 z5 z6 z7 z8 z9
      clear e
      go_wp2_with fail
      refine (HPj.out _ _ HB.out).mono ?_
      rintro e w3 ⟨rfl, hb3⟩
      have HB3 : Hid (Below w.heap.size w w3) := HB.out.trans (hb3.mono HB.out.size)
      have HC3 : Hid (w3.heap[w.heap.size]? = some (.cells #[.slice (some ⟨g, o, none⟩) n cap] 24)) := (hb3.block _ hwl).trans HCb.out
      have S0 : (fun W => Hid (Below w3.heap.size w3 W) ∧ W.cell? ⟨w.heap.size, 0, none⟩ = some (.slice (some ⟨g, o, none⟩) n cap) ∧ W.cell? ⟨g, o + j * 10, none⟩ = some (.string N0) ∧ W.cell? ⟨g, o + j * 10 + 1, none⟩ = some (.int .i64 k1) ∧ W.cell? ⟨g, o + j * 10 + 2, none⟩ = some (.string T1) ∧ W.cell? ⟨g, o + j * 10 + 3, none⟩ = some (.int .u64 a1) ∧ W.cell? ⟨g, o + j * 10 + 4, none⟩ = some (.int .u64 b1) ∧ W.cell? ⟨g, o + j * 10 + 5, none⟩ = some (.int .u64 c1) ∧ W.cell? ⟨g, o + j * 10 + 6, none⟩ = some (.int .u64 d1) ∧ W.cell? ⟨g, o + j * 10 + 7, none⟩ = some (.slice so1 n1 cap1) ∧ W.cell? ⟨g, o + j * 10 + 8, none⟩ = some (.int .i64 p1)) w3 := ⟨hid (Below.refl _ _), (one_cell HC3.out).1, keepX hb3 z0, keepX hb3 z1, keepX hb3 z2, keepX hb3 z3, keepX hb3 z4, keepX hb3 z5, keepX hb3 z6, keepX hb3 z7, keepX hb3 z8⟩
      have S1 : (fun W => Hid (Below w3.heap.size w3 W) ∧ W.cell? ⟨w.heap.size, 0, none⟩ = some (.slice (some ⟨g, o, none⟩) n cap) ∧ W.cell? ⟨g, o + j * 10, none⟩ = some (.string N0) ∧ W.cell? ⟨g, o + j * 10 + 1, none⟩ = some (.int .i64 k1) ∧ W.cell? ⟨g, o + j * 10 + 2, none⟩ = some (.string T1) ∧ W.cell? ⟨g, o + j * 10 + 3, none⟩ = some (.int .u64 a1) ∧ W.cell? ⟨g, o + j * 10 + 4, none⟩ = some (.int .u64 b1) ∧ W.cell? ⟨g, o + j * 10 + 5, none⟩ = some (.int .u64 c1) ∧ W.cell? ⟨g, o + j * 10 + 6, none⟩ = some (.int .u64 d1) ∧ W.cell? ⟨g, o + j * 10 + 7, none⟩ = some (.slice so1 n1 cap1) ∧ W.cell? ⟨g, o + j * 10 + 8, none⟩ = some (.int .i64 p1)) w3.drew := keep_pr (Below.refl _ w3).drew S0
      have HS1 := hid S1
      have HE3 := hid (fun (W : World) (hb : Below w3.heap.size w3 W) => HEj.out W (HB3.out.trans (hb.mono HB3.out.size)))
      clear hb3 HPj HEj k0 z0 z1 z2 z3 z4 z5 z6 z7 z8 z9 S0 S1 HB HCb
      go_wp2_with fail
      refine wp_region_held_drew (S := (fun W => Hid (Below w3.heap.size w3 W) ∧ W.cell? ⟨w.heap.size, 0, none⟩ = some (.slice (some ⟨g, o, none⟩) n cap) ∧ W.cell? ⟨g, o + j * 10, none⟩ = some (.string N0) ∧ W.cell? ⟨g, o + j * 10 + 1, none⟩ = some (.int .i64 k1) ∧ W.cell? ⟨g, o + j * 10 + 2, none⟩ = some (.string T1) ∧ W.cell? ⟨g, o + j * 10 + 3, none⟩ = some (.int .u64 a1) ∧ W.cell? ⟨g, o + j * 10 + 4, none⟩ = some (.int .u64 b1) ∧ W.cell? ⟨g, o + j * 10 + 5, none⟩ = some (.int .u64 c1) ∧ W.cell? ⟨g, o + j * 10 + 6, none⟩ = some (.int .u64 d1) ∧ W.cell? ⟨g, o + j * 10 + 7, none⟩ = some (.slice so1 n1 cap1) ∧ W.cell? ⟨g, o + j * 10 + 8, none⟩ = some (.int .i64 p1))) (by kernel_rfl) HS1.out (fun hHeld => ?_)
      refine wpAnyH_take (i := 0) (oi := { dst := some 45, op := Go.Op.move (Go.Operand.tmp 9), type := 34, pos := "more.go:20", after := #[], guard := none }) (v := ?_) rfl (by kernel_rfl) (by kernel_rfl) (by kernel_rfl) (fun _ _ _ h => h) (Or.inl ⟨by rfl, ?hy0⟩) hHeld ?rest0
      case hy0 =>
        intro w hSw
        (try dsimp only at hSw)
        go_simp
        (try with_reducible rfl)
      (try simp only [Act.put, List.setIfInBounds_toArray, List.set_cons_zero, List.set_cons_succ])
      refine wpAnyH_take (i := 1) (oi := { dst := some 46, op := Go.Op.binOp Go.BinOp.neq 34 (Go.Operand.tmp 45) (Go.Operand.const Go.Value.nilIface) 34, type := 4, pos := "more.go:20", after := #[{ on := 0, ground := Go.Ground.data }], guard := none }) (v := ?_) rfl (by kernel_rfl) (by kernel_rfl) (by kernel_rfl) (fun _ _ _ h => h) (Or.inl ⟨by rfl, ?hy1⟩) hHeld ?rest1
      case hy1 =>
        intro w hSw
        (try dsimp only at hSw)
        go_simp
        (try with_reducible rfl)
      (try simp only [Act.put, List.setIfInBounds_toArray, List.set_cons_zero, List.set_cons_succ])
      refine wpAnyH_take (i := 2) (oi := { dst := some 47, op := Go.Op.move (Go.Operand.tmp 46), type := 4, pos := "more.go:20", after := #[{ on := 1, ground := Go.Ground.data }], guard := none }) (v := ?_) rfl (by kernel_rfl) (by kernel_rfl) (by kernel_rfl) (fun _ _ _ h => h) (Or.inl ⟨by rfl, ?hy2⟩) hHeld ?rest2
      case hy2 =>
        intro w hSw
        (try dsimp only at hSw)
        go_simp
        (try with_reducible rfl)
      (try simp only [Act.put, List.setIfInBounds_toArray, List.set_cons_zero, List.set_cons_succ])
      refine wpAnyH_take (i := 3) (oi := { dst := some 48, op := Go.Op.move (Go.Operand.tmp 8), type := 9, pos := "more.go:20", after := #[{ on := 2, ground := Go.Ground.guard }], guard := some (2, false) }) (v := ?_) rfl (by kernel_rfl) (by kernel_rfl) (by kernel_rfl) (fun _ _ _ h => h) (Or.inl ⟨by rfl, ?hy3⟩) hHeld ?rest3
      case hy3 =>
        intro w hSw
        (try dsimp only at hSw)
        go_simp
        (try with_reducible rfl)
      (try simp only [Act.put, List.setIfInBounds_toArray, List.set_cons_zero, List.set_cons_succ])
      refine wpAnyH_take (i := 4) (oi := { dst := some 49, op := Go.Op.fieldAddr 24 (Go.Operand.tmp 1) 0, type := 0, pos := "more.go:20", after := #[{ on := 2, ground := Go.Ground.guard }], guard := some (2, false) }) (v := ?_) rfl (by kernel_rfl) (by kernel_rfl) (by kernel_rfl) (fun _ _ _ h => h) (Or.inl ⟨by rfl, ?hy4⟩) hHeld ?rest4
      case hy4 =>
        intro w hSw
        (try dsimp only at hSw)
        go_simp
        (try with_reducible rfl)
      (try simp only [Act.put, List.setIfInBounds_toArray, List.set_cons_zero, List.set_cons_succ])
      refine wpAnyH_take (i := 5) (oi := { dst := some 50, op := Go.Op.load 22 (Go.Operand.tmp 49), type := 22, pos := "more.go:20", after := #[{ on := 4, ground := Go.Ground.data }, { on := 2, ground := Go.Ground.guard }], guard := some (2, false) }) (v := ?_) rfl (by kernel_rfl) (by kernel_rfl) (by kernel_rfl) (fun _ _ _ h => h) (Or.inl ⟨by rfl, ?hy5⟩) hHeld ?rest5
      case hy5 =>
        intro w hSw
        (try dsimp only at hSw)
        go_simp
        (try with_reducible rfl)
      (try simp only [Act.put, List.setIfInBounds_toArray, List.set_cons_zero, List.set_cons_succ])
      refine wpAnyH_take (i := 6) (oi := { dst := some 51, op := Go.Op.move (Go.Operand.tmp 7), type := 3, pos := "more.go:20", after := #[{ on := 2, ground := Go.Ground.guard }], guard := some (2, false) }) (v := ?_) rfl (by kernel_rfl) (by kernel_rfl) (by kernel_rfl) (fun _ _ _ h => h) (Or.inl ⟨by rfl, ?hy6⟩) hHeld ?rest6
      case hy6 =>
        intro w hSw
        (try dsimp only at hSw)
        go_simp
        (try with_reducible rfl)
      (try simp only [Act.put, List.setIfInBounds_toArray, List.set_cons_zero, List.set_cons_succ])
      refine wpAnyH_take (i := 7) (oi := { dst := some 52, op := Go.Op.indexAddr 22 (Go.Operand.tmp 50) (Go.Operand.tmp 51), type := 0, pos := "more.go:20", after := #[{ on := 5, ground := Go.Ground.data }, { on := 6, ground := Go.Ground.data }, { on := 2, ground := Go.Ground.guard }], guard := some (2, false) }) (v := ?_) rfl (by kernel_rfl) (by kernel_rfl) (by kernel_rfl) (fun _ _ _ h => h) (Or.inl ⟨by rfl, ?hy7⟩) hHeld ?rest7
      case hy7 =>
        intro w hSw
        (try dsimp only at hSw)
        go_simp
        (try with_reducible rfl)
      (try simp only [Act.put, List.setIfInBounds_toArray, List.set_cons_zero, List.set_cons_succ])
      refine wpAnyH_take (i := 8) (oi := { dst := some 53, op := Go.Op.fieldAddr 50 (Go.Operand.tmp 52) 0, type := 0, pos := "more.go:20", after := #[{ on := 7, ground := Go.Ground.data }, { on := 2, ground := Go.Ground.guard }], guard := some (2, false) }) (v := ?_) rfl (by kernel_rfl) (by kernel_rfl) (by kernel_rfl) (fun _ _ _ h => h) (Or.inl ⟨by rfl, ?hy8⟩) hHeld ?rest8
      case hy8 =>
        intro w hSw
        (try dsimp only at hSw)
        go_simp
        (try with_reducible rfl)
      (try simp only [Act.put, List.setIfInBounds_toArray, List.set_cons_zero, List.set_cons_succ])
      refine wpAnyH_take (i := 9) (oi := { dst := some 54, op := Go.Op.load 9 (Go.Operand.tmp 53), type := 9, pos := "more.go:20", after := #[{ on := 8, ground := Go.Ground.data }, { on := 2, ground := Go.Ground.guard }], guard := some (2, false) }) (v := ?_) rfl (by kernel_rfl) (by kernel_rfl) (by kernel_rfl) (fun _ _ _ h => h) (Or.inl ⟨by rfl, ?hy9⟩) hHeld ?rest9
      case hy9 =>
        intro w hSw
        (try dsimp only at hSw)
        go_simp
        (try with_reducible rfl)
      (try simp only [Act.put, List.setIfInBounds_toArray, List.set_cons_zero, List.set_cons_succ])
      refine wpAnyH_take (i := 10) (oi := { dst := some 55, op := Go.Op.binOp Go.BinOp.add 9 (Go.Operand.tmp 54) (Go.Operand.const (Go.Value.string { data := #[32, 60, 45, 32] })) 9, type := 9, pos := "more.go:20", after := #[{ on := 9, ground := Go.Ground.data }, { on := 2, ground := Go.Ground.guard }], guard := some (2, false) }) (v := ?_) rfl (by kernel_rfl) (by kernel_rfl) (by kernel_rfl) (fun _ _ _ h => h) (Or.inl ⟨by rfl, ?hy10⟩) hHeld ?rest10
      case hy10 =>
        intro w hSw
        (try dsimp only at hSw)
        go_simp
        (try with_reducible rfl)
      (try simp only [Act.put, List.setIfInBounds_toArray, List.set_cons_zero, List.set_cons_succ])
      refine wpAnyH_take (i := 11) (oi := { dst := some 56, op := Go.Op.fieldAddr 24 (Go.Operand.tmp 1) 0, type := 0, pos := "more.go:20", after := #[{ on := 2, ground := Go.Ground.guard }], guard := some (2, false) }) (v := ?_) rfl (by kernel_rfl) (by kernel_rfl) (by kernel_rfl) (fun _ _ _ h => h) (Or.inl ⟨by rfl, ?hy11⟩) hHeld ?rest11
      case hy11 =>
        intro w hSw
        (try dsimp only at hSw)
        go_simp
        (try with_reducible rfl)
      (try simp only [Act.put, List.setIfInBounds_toArray, List.set_cons_zero, List.set_cons_succ])
      refine wpAnyH_take (i := 12) (oi := { dst := some 57, op := Go.Op.load 22 (Go.Operand.tmp 56), type := 22, pos := "more.go:20", after := #[{ on := 11, ground := Go.Ground.data }, { on := 2, ground := Go.Ground.guard }], guard := some (2, false) }) (v := ?_) rfl (by kernel_rfl) (by kernel_rfl) (by kernel_rfl) (fun _ _ _ h => h) (Or.inl ⟨by rfl, ?hy12⟩) hHeld ?rest12
      case hy12 =>
        intro w hSw
        (try dsimp only at hSw)
        go_simp
        (try with_reducible rfl)
      (try simp only [Act.put, List.setIfInBounds_toArray, List.set_cons_zero, List.set_cons_succ])
      refine wpAnyH_take (i := 13) (oi := { dst := some 58, op := Go.Op.move (Go.Operand.tmp 7), type := 3, pos := "more.go:20", after := #[{ on := 2, ground := Go.Ground.guard }], guard := some (2, false) }) (v := ?_) rfl (by kernel_rfl) (by kernel_rfl) (by kernel_rfl) (fun _ _ _ h => h) (Or.inl ⟨by rfl, ?hy13⟩) hHeld ?rest13
      case hy13 =>
        intro w hSw
        (try dsimp only at hSw)
        go_simp
        (try with_reducible rfl)
      (try simp only [Act.put, List.setIfInBounds_toArray, List.set_cons_zero, List.set_cons_succ])
      refine wpAnyH_take (i := 14) (oi := { dst := some 59, op := Go.Op.indexAddr 22 (Go.Operand.tmp 57) (Go.Operand.tmp 58), type := 0, pos := "more.go:20", after := #[{ on := 12, ground := Go.Ground.data }, { on := 13, ground := Go.Ground.data }, { on := 2, ground := Go.Ground.guard }], guard := some (2, false) }) (v := ?_) rfl (by kernel_rfl) (by kernel_rfl) (by kernel_rfl) (fun _ _ _ h => h) (Or.inl ⟨by rfl, ?hy14⟩) hHeld ?rest14
      case hy14 =>
        intro w hSw
        (try dsimp only at hSw)
        go_simp
        (try with_reducible rfl)
      (try simp only [Act.put, List.setIfInBounds_toArray, List.set_cons_zero, List.set_cons_succ])
      refine wpAnyH_take (i := 15) (oi := { dst := some 60, op := Go.Op.fieldAddr 50 (Go.Operand.tmp 59) 1, type := 0, pos := "more.go:20", after := #[{ on := 14, ground := Go.Ground.data }, { on := 2, ground := Go.Ground.guard }], guard := some (2, false) }) (v := ?_) rfl (by kernel_rfl) (by kernel_rfl) (by kernel_rfl) (fun _ _ _ h => h) (Or.inl ⟨by rfl, ?hy15⟩) hHeld ?rest15
      case hy15 =>
        intro w hSw
        (try dsimp only at hSw)
        go_simp
        (try with_reducible rfl)
      (try simp only [Act.put, List.setIfInBounds_toArray, List.set_cons_zero, List.set_cons_succ])
      refine wpAnyH_take (i := 16) (oi := { dst := some 61, op := Go.Op.load 30 (Go.Operand.tmp 60), type := 30, pos := "more.go:20", after := #[{ on := 15, ground := Go.Ground.data }, { on := 2, ground := Go.Ground.guard }], guard := some (2, false) }) (v := ?_) rfl (by kernel_rfl) (by kernel_rfl) (by kernel_rfl) (fun _ _ _ h => h) (Or.inl ⟨by rfl, ?hy16⟩) hHeld ?rest16
      case hy16 =>
        intro w hSw
        (try dsimp only at hSw)
        go_simp
        (try with_reducible rfl)
      (try simp only [Act.put, List.setIfInBounds_toArray, List.set_cons_zero, List.set_cons_succ])
      refine wpAnyH_ready (rs := [17]) (by kernel_rfl) (by simp) ?_
      refine AllReadyH.cons (o := { dst := some 62, op := Go.Op.call { callee := Go.Callee.value (Go.Operand.func 15), args := #[Go.Operand.tmp 61], argTypes := #[30] }, type := 9, pos := "more.go:20", after := #[{ on := 16, ground := Go.Ground.data }, { on := 2, ground := Go.Ground.chain }, { on := 2, ground := Go.Ground.guard }], guard := some (2, false) }) rfl (fun K hK => ?_) AllReadyH.nil
      go_simp
      refine (HE3.out _ hHeld.1.out).mono ?_
      rintro e w5 ⟨rfl, hb5⟩
      go_simp
      refine hK.out _ _ (keep_pr hb5 hHeld) ?_
      clear hK K hHeld
      intro hHeld
      (try simp only [Act.put, List.setIfInBounds_toArray, List.set_cons_zero, List.set_cons_succ])
      refine wpAnyH_take (i := 18) (oi := { dst := some 63, op := Go.Op.binOp Go.BinOp.add 9 (Go.Operand.tmp 55) (Go.Operand.tmp 62) 9, type := 9, pos := "more.go:20", after := #[{ on := 10, ground := Go.Ground.data }, { on := 17, ground := Go.Ground.data }, { on := 2, ground := Go.Ground.guard }], guard := some (2, false) }) (v := ?_) rfl (by kernel_rfl) (by kernel_rfl) (by kernel_rfl) (fun _ _ _ h => h) (Or.inl ⟨by rfl, ?hy18⟩) hHeld ?rest18
      case hy18 =>
        intro w hSw
        (try dsimp only at hSw)
        go_simp
        (try with_reducible rfl)
      (try simp only [Act.put, List.setIfInBounds_toArray, List.set_cons_zero, List.set_cons_succ])
      refine wpAnyH_take (i := 19) (oi := { dst := some 64, op := Go.Op.binOp Go.BinOp.add 9 (Go.Operand.tmp 63) (Go.Operand.const (Go.Value.string { data := #[10] })) 9, type := 9, pos := "more.go:20", after := #[{ on := 18, ground := Go.Ground.data }, { on := 2, ground := Go.Ground.guard }], guard := some (2, false) }) (v := ?_) rfl (by kernel_rfl) (by kernel_rfl) (by kernel_rfl) (fun _ _ _ h => h) (Or.inl ⟨by rfl, ?hy19⟩) hHeld ?rest19
      case hy19 =>
        intro w hSw
        (try dsimp only at hSw)
        go_simp
        (try with_reducible rfl)
      (try simp only [Act.put, List.setIfInBounds_toArray, List.set_cons_zero, List.set_cons_succ])
      refine wpAnyH_take (i := 20) (oi := { dst := some 65, op := Go.Op.binOp Go.BinOp.neq 9 (Go.Operand.tmp 48) (Go.Operand.tmp 64) 9, type := 4, pos := "more.go:20", after := #[{ on := 3, ground := Go.Ground.data }, { on := 19, ground := Go.Ground.data }, { on := 2, ground := Go.Ground.guard }], guard := some (2, false) }) (v := ?_) rfl (by kernel_rfl) (by kernel_rfl) (by kernel_rfl) (fun _ _ _ h => h) (Or.inl ⟨by rfl, ?hy20⟩) hHeld ?rest20
      case hy20 =>
        intro w hSw
        (try dsimp only at hSw)
        go_simp
        (try with_reducible rfl)
      (try simp only [Act.put, List.setIfInBounds_toArray, List.set_cons_zero, List.set_cons_succ])
      refine wpAnyH_take (i := 21) (oi := { dst := some 66, op := Go.Op.move (Go.Operand.tmp 65), type := 4, pos := "more.go:20", after := #[{ on := 20, ground := Go.Ground.data }, { on := 17, ground := Go.Ground.chain }, { on := 2, ground := Go.Ground.guard }], guard := some (2, false) }) (v := ?_) rfl (by kernel_rfl) (by kernel_rfl) (by kernel_rfl) (fun _ _ _ h => h) (Or.inl ⟨by rfl, ?hy21⟩) hHeld ?rest21
      case hy21 =>
        intro w hSw
        (try dsimp only at hSw)
        go_simp
        (try with_reducible rfl)
      (try simp only [Act.put, List.setIfInBounds_toArray, List.set_cons_zero, List.set_cons_succ])
      refine wpAnyH_take (i := 22) (oi := { dst := some 67, op := Go.Op.move (Go.Operand.tmp 8), type := 9, pos := "more.go:20", after := #[{ on := 21, ground := Go.Ground.guard }], guard := some (21, true) }) (v := undef) rfl (by kernel_rfl) (by kernel_rfl) (by kernel_rfl) (fun _ _ _ h => h) (Or.inr ⟨by rfl, rfl⟩) hHeld ?_
      (try simp only [Act.put, List.setIfInBounds_toArray, List.set_cons_zero, List.set_cons_succ])
      refine wpAnyH_take (i := 23) (oi := { dst := some 68, op := Go.Op.call { callee := Go.Callee.builtin Go.Builtin.len, args := #[Go.Operand.tmp 67], argTypes := #[9] }, type := 3, pos := "more.go:20", after := #[{ on := 22, ground := Go.Ground.data }, { on := 21, ground := Go.Ground.guard }], guard := some (21, true) }) (v := undef) rfl (by kernel_rfl) (by kernel_rfl) (by kernel_rfl) (fun _ _ _ h => h) (Or.inr ⟨by rfl, rfl⟩) hHeld ?_
      (try simp only [Act.put, List.setIfInBounds_toArray, List.set_cons_zero, List.set_cons_succ])
      refine wpAnyH_take (i := 24) (oi := { dst := some 69, op := Go.Op.binOp Go.BinOp.lss 3 (Go.Operand.tmp 68) (Go.Operand.const (Go.Value.int Go.IntKind.i64 8152)) 3, type := 4, pos := "more.go:20", after := #[{ on := 23, ground := Go.Ground.data }, { on := 21, ground := Go.Ground.guard }], guard := some (21, true) }) (v := undef) rfl (by kernel_rfl) (by kernel_rfl) (by kernel_rfl) (fun _ _ _ h => h) (Or.inr ⟨by rfl, rfl⟩) hHeld ?_
      (try simp only [Act.put, List.setIfInBounds_toArray, List.set_cons_zero, List.set_cons_succ])
      refine wpAnyH_take (i := 25) (oi := { dst := some 70, op := Go.Op.pick (Go.Operand.tmp 66) (Go.Operand.tmp 69) (Go.Operand.const (Go.Value.bool false)), type := 4, pos := "more.go:20", after := #[{ on := 21, ground := Go.Ground.data }, { on := 24, ground := Go.Ground.data }, { on := 2, ground := Go.Ground.guard }], guard := some (2, false) }) (v := ?_) rfl (by kernel_rfl) (by kernel_rfl) (by kernel_rfl) (fun _ _ _ h => h) (Or.inl ⟨by rfl, ?hy25⟩) hHeld ?rest25
      case hy25 =>
        intro w hSw
        (try dsimp only at hSw)
        go_simp
        (try with_reducible rfl)
      (try simp only [Act.put, List.setIfInBounds_toArray, List.set_cons_zero, List.set_cons_succ])
      refine wpAnyH_take (i := 26) (oi := { dst := some 71, op := Go.Op.pick (Go.Operand.tmp 47) (Go.Operand.const (Go.Value.bool true)) (Go.Operand.tmp 70), type := 4, pos := "more.go:20", after := #[{ on := 2, ground := Go.Ground.data }, { on := 25, ground := Go.Ground.data }], guard := none }) (v := ?_) rfl (by kernel_rfl) (by kernel_rfl) (by kernel_rfl) (fun _ _ _ h => h) (Or.inl ⟨by rfl, ?hy26⟩) hHeld ?rest26
      case hy26 =>
        intro w hSw
        (try dsimp only at hSw)
        go_simp
        (try with_reducible rfl)
      (try simp only [Act.put, List.setIfInBounds_toArray, List.set_cons_zero, List.set_cons_succ])
      refine wpAnyH_done (by kernel_rfl) ?_ _
      have HH := hid hHeld.1.out
      clear hHeld
      go_wp2_with fail
      go_roundw
      case rel => exact ⟨j + 1, T ++ U, by go_num, by omega, rfl, by rw [ByteArray.size_append]; omega, HUt.out.symm, HB3.out.trans (HH.out.mono HB3.out.size), (HH.out.block _ (node_lt HC3.out)).trans HC3.out⟩
      case measure => simp [intOf]; omega
    · have a0 : decide ((j : Int) < (n : Int)) = false := by simp; omega
      have hjn2 : j = n := by omega
      have eT : (S.toList == T.toList) = true := by
        have h1 : T = S := by rw [HTj.out, HS.out.1, hjn2, ← HL.out, List.take_length]
        rw [h1]; simp
      clear hjn2
      go_wp2_with fail
      go_ret
      exact ⟨rfl, HB.out⟩
theorem okG_mem {rs : List Rr} {x : Rr} (h : okG rs = true) (hx : x ∈ rs) : okG [x] = true := by
  unfold okG at h ⊢
  simp only [Bool.and_eq_true, decide_eq_true_eq, List.all_eq_true] at h
  have h1 := h.2.2 x hx
  rw [List.all_cons, List.all_nil, h1]
  rfl
/-- muntinlaw05.PrintRules answers true. -/
theorem prules_any (so : Option Addr) (n cap : Nat) (rs : List Rr) (w : World) (h : ErrIs w) (hT : TabIs w) (hg : RgIs w w.heap.size so n rs) (hz : RgZ rs) (hu : RgU rs) (hc : n ≤ cap) :
    Calls Tryz.prog 6 #[.agg #[.slice so n cap]] w fun e w' => e = .returned (.bool true) ∧ Below w.heap.size w w' := by
  cases hk : okG rs with
  | false => exact prules_err so n cap 20 w h hT (hid fun (W : World) (hb : Below w.heap.size w W) => nprint_bad so n cap rs w.heap.size W hz (hg.below hb) hb.size hk)
  | true =>
    obtain ⟨ns, hq, hx, hn1, hn64⟩ := of_okG hk hu
    have HP := fun (W : World) (hb : Below w.heap.size w W) => nprint_ok so n cap rs ns w.heap.size W hz (hg.below hb) hb.size hk hq hx (hT.below hb hT.lt)
    rcases Nat.lt_or_ge 8192 (sz (pR qT cT ns)) with hlong | hshort
    · rw [ansT_long hlong] at HP
      exact prules_err so n cap 2 w h hT (hid HP)
    rcases Nat.lt_or_ge 24 (dR ns) with hdeep | hflat
    · rw [ansT_deep hshort hdeep] at HP
      exact prules_err so n cap 20 w h hT (hid HP)
    rw [ansT_ok hshort hflat] at HP
    have hnl : ns.length = n := by have a1 := hq.len; have a2 := hg.1; omega
    refine prules_txt so n cap rs ns _ w h hT hg hc (by omega) (hid hnl) (hid ⟨rfl, by rw [cat_size]; exact hshort⟩) (hid HP) (hid fun j hj g o c W hso hb => ?_) (hid fun j hj hj2 => ?_)
    · have hj2 : j < rs.length := by have a1 := hq.len; omega
      obtain ⟨g', o', e1, hgl, hrk⟩ := hg.2.2 j hj2
      rw [hso] at e1
      cases e1
      obtain ⟨q1, q2⟩ := hq.get j hj2 hj
      have hm : ns[j] ∈ ns := List.getElem_mem hj
      have hm2 : rs[j] ∈ rs := List.getElem_mem hj2
      have hg1 : RgIs w w.heap.size (some ⟨g, o + j * 10, none⟩) 1 [rs[j]] := by
        refine ⟨rfl, by unfold maxLen; omega, fun i hi => ⟨g, o + j * 10, rfl, hgl, ?_⟩⟩
        obtain rfl : i = 0 := by simpa using hi
        simpa using hrk
      have hzz : RgZ [rs[j]] := fun x hx' => (List.mem_singleton.1 hx') ▸ hz _ hm2
      have hxx : ∀ x ∈ [ns[j]], Ruk Nmq x := fun x hx' => (List.mem_singleton.1 hx') ▸ hx _ hm
      have htq : TqR [rs[j]] [ns[j]] := by rw [TqR]; exact ⟨q1, q2, by rw [TqR]; trivial⟩
      have hp := nprint_ok (some ⟨g, o + j * 10, none⟩) 1 c [rs[j]] [ns[j]] w.heap.size W hzz (hg1.below hb) hb.size (okG_mem hk hm2) htq hxx (hT.below hb hT.lt)
      have h1 := pR_mem hm
      have h3 : dR [ns[j]] ≤ 24 := dR_le.2 (fun y hy => by
        obtain rfl : y = ns[j] := by simpa using hy
        exact dR_le.1 hflat _ hm)
      rw [ansT_ok (by omega) h3] at hp
      exact hp
    · obtain ⟨q1, q2⟩ := hq.get j hj2 hj
      have hm : ns[j] ∈ ns := List.getElem_mem hj
      have hm2 : rs[j] ∈ rs := List.getElem_mem hj2
      refine ⟨q1, fun k1 T1 a1 b1 c1 d1 p1 so1 n1 cap1 W rt hb => ?_⟩
      have he := nexpr_ok k1 T1 a1 b1 c1 d1 p1 so1 n1 cap1 rs[j].2.1 ns[j].2.1 W (hT.below hb hT.lt) ((rt.below hb).mono hb.size _ _) (hz _ hm2).2 q2 (hx _ hm).2.1 (hx _ hm).2.2
      rw [exS_in hm (hx _ hm) hshort hflat] at he
      exact he
end Go.Proofs.YtikfnaffiehpaaaGreatDoor
