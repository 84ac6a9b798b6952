/-
  muntinlaw07.NullableRefs answers true at any grammar. Conditions: those that each theorem names.
-/
import Derived.Test.YtgoogfbphilpmaaGreatDoorVU14ToNBase
import Derived.Deep.DeepCutAuto
namespace Go.Proofs.YtgoogfbphilpmaaGreatDoor
open Go.RowKit Go.Shelf Go.Maps
set_option linter.unusedVariables false
theorem mk_s8 {wr W : World} {a0 a1 : Addr} {v0 v1 : Value} (hb : Below wr.heap.size wr W) (h0 : wr.cell? a0 = some v0) (h1 : wr.cell? a1 = some v1) : Hid (Below wr.heap.size wr W) ∧ W.cell? a0 = some v0 ∧ W.cell? a1 = some v1 :=
  ⟨hid hb, (hb.cell (p := a0) (World.block_lt_of_cell? wr _ h0)).trans h0, (hb.cell (p := a1) (World.block_lt_of_cell? wr _ h1)).trans h1⟩
theorem mk_s9 {wr W : World} {a0 a1 a2 a3 a4 a5 a6 a7 a8 : Addr} {v0 v1 v2 v3 v4 v5 v6 v7 v8 : Value} (hb : Below wr.heap.size wr W) (h0 : wr.cell? a0 = some v0) (h1 : wr.cell? a1 = some v1) (h2 : wr.cell? a2 = some v2) (h3 : wr.cell? a3 = some v3) (h4 : wr.cell? a4 = some v4) (h5 : wr.cell? a5 = some v5) (h6 : wr.cell? a6 = some v6) (h7 : wr.cell? a7 = some v7) (h8 : wr.cell? a8 = some v8) : Hid (Below wr.heap.size wr W) ∧ W.cell? a0 = some v0 ∧ W.cell? a1 = some v1 ∧ W.cell? a2 = some v2 ∧ W.cell? a3 = some v3 ∧ W.cell? a4 = some v4 ∧ W.cell? a5 = some v5 ∧ W.cell? a6 = some v6 ∧ W.cell? a7 = some v7 ∧ W.cell? a8 = some v8 := by
  have e : ∀ {a : Addr} {u : Value}, wr.cell? a = some u → W.cell? a = some u := fun {a u} h => (hb.cell (p := a) (World.block_lt_of_cell? wr _ h)).trans h
  exact ⟨hid hb, e h0, e h1, e h2, e h3, e h4, e h5, e h6, e h7, e h8⟩
set_option maxRecDepth 100000 in
set_option maxHeartbeats 16000000 in
theorem nrefs_any (so : Option Addr) (n cap : Nat) (rs : List Rr) (w : World) (hE : ErrIs w) (hT : TabIs w) (hz : RgZ rs) (hu : RgU rs) (h : RgIs w w.heap.size so n rs) :
    Calls Tryz.prog 4 #[.agg #[.slice so n cap]] w fun e w' => e = .returned (.bool true) ∧ Below w.heap.size w w' := by
  obtain ⟨X, hX, hC⟩ := checked_all so n cap rs w.heap.size w hz hu h (Nat.le_refl _) hT
  have hq := eq_same
  obtain ⟨u1, hu1⟩ : ∃ u1, u1 = w.alloc (.cells #[.slice so n cap] 24) := ⟨_, rfl⟩
  have hB1 : Below w.heap.size w u1 := by rw [hu1]; exact (Below.refl _ w).alloc (Nat.le_refl _) _
  have hG1 : u1.heap[w.heap.size]? = some (.cells #[.slice so n cap] 24) := by rw [hu1]; exact new_block_at w _ rfl
  have HS := hid (usmall_ok u1 (hE.below hB1 hE.lt) (hT.below hB1 hT.lt))
  have HRu := hid (urules_any so n cap rs X w.heap.size w hX hC hz h (Nat.le_refl _))
  have HXx := hid (fun (k : Int) (T : ByteArray) (a b c d p : Int) (so1 : Option Addr) (n1 cap1 : Nat) (t : RT) (W : World) (hb : Below w.heap.size w W) (ht : RtIs W W.heap.size t (r8 k T a b c d so1 n1 cap1 p)) (htz : RtZ t) (htu : RtU t) => uexpr_any so n cap rs X k T a b c d p so1 n1 cap1 t w.heap.size W hX (CkC.from hC hb) (hT.below hb hT.lt) hz (h.below hb) hb.size ht htz htu)
  have HR := hid h
  have HNl : Hid (n = rs.length) := h.1
  have HZ := hid hz
  have HU := hid hu
  have HXr := hid hX
  have HB1 := hid hB1
  have HG1 := hid hG1
  have HU1 := hid hu1
  clear hE hT hz hu h hC hX hB1 hG1 hu1
  go_enter Tryz.func4, Tryz.ntmps4
  go_wp2_with fail
  rw [← HU1.out]
  clear HU1
  refine HS.out.mono ?_
  rintro e w1 ⟨rfl, HBs⟩
  have HB2 := hid (HB1.out.trans (HBs.out.mono HB1.out.size))
  have HG2 := hid ((HBs.out.block _ (node_lt HG1.out)).trans HG1.out)
  obtain ⟨g2, _⟩ := one_cell HG2.out
  have lg2 := node_lt HG2.out
  clear HS HBs HB1 HG1
  go_wp2_with fail
  refine (HRu.out _ HB2.out).mono ?_
  rintro e w2 ⟨hb2, hre⟩
  have HB3 := hid (HB2.out.trans (hb2.mono HB2.out.size))
  have HG3 := hid ((hb2.block _ lg2).trans HG2.out)
  obtain ⟨g3, _⟩ := one_cell HG3.out
  have lg3 := node_lt HG3.out
  clear HRu
  rcases hre with ⟨hX, v, rfl, hv⟩ | ⟨rfl, ub, m, cs, rfl, hub, hfx, hcs, hou⟩
  · obtain ⟨tt, uu, rfl⟩ := hv.shape hX
    clear hv hX hb2 HB2 HG2 g2 lg2
    go_wp2_with fail
    go_ret
    exact ⟨rfl, HB3.out⟩
  obtain ⟨hok, hck, _⟩ := HXr.out
  rw [← HNl.out]
  have hn64 : n ≤ 64 := by rw [HNl.out]; exact (okG_len hok).2
  have HFx := hid hfx
  have HOU := hid hou
  have HOK := hid hok
  have HCS := hid hcs
  have HLu : Hid (ub < w2.heap.size) := node_lt hcs
  have HGu : Hid (w.heap.size < ub) := by have h1 := lg2; show _ < _; omega
  clear hfx hcs hou hok hck hb2 HB2 HG2 g2 lg2 HXr hub
  go_wp2_with fail
  clear g3 lg3
  go_loopw [6] (fun i wr => ∃ j : Nat, i = .int .i64 (j : Int) ∧ j ≤ n ∧ Hid (Below w2.heap.size w2 wr)) (fun i _ => n - (intOf i).toNat)
  case atStart => exact ⟨0, rfl, Nat.zero_le _, hid (Below.refl _ _)⟩
  case round =>
    obtain ⟨j, rfl, hj, HBr⟩ := hrel
    have HBw := hid (HB3.out.trans (HBr.out.mono HB3.out.size))
    by_cases hjn : j < n
    · have hjI : (j : Int) < (n : Int) := by omega
      have a0 : decide ((j : Int) < (n : Int)) = true := by simp; omega
      have hjs : j < rs.length := by rw [← HNl.out]; exact hjn
      obtain ⟨g, o, rfl, hg, k1, T1, a1, b1, c1, d1, so1, n1, cap1, p1, hrt, r0⟩ := HR.out.2.2 j hjs
      have hce : ∀ q, wr.cell? ⟨g, q, none⟩ = w.cell? ⟨g, q, none⟩ := fun q => HBw.out.cell (p := ⟨g, q, none⟩) hg
      simp only [← hce] at r0
      obtain ⟨z0, z1, z2, z3, z4, z5, z6, z7, z8, z9⟩ := r0
      have hgl : g < wr.heap.size := World.block_lt_of_cell? wr _ z0
      obtain ⟨N0, hN0⟩ : ∃ N0, N0 = rs[j].1 := ⟨_, rfl⟩
      rw [← hN0] at z0
      have hGr := (HBr.out.block _ (node_lt HG3.out)).trans HG3.out
      obtain ⟨g4, _⟩ := one_cell hGr
      have lg4 := node_lt hGr
      have S0 : (fun W : World => Hid (Below wr.heap.size wr W) ∧ W.cell? ⟨w.heap.size, 0, none⟩ = some (.slice (some ⟨g, o, none⟩) n cap) ∧ W.cell? ⟨g, o + j * 10, none⟩ = some (.string N0)) wr.drew := ⟨hid (Below.refl _ _).drew, g4, z0⟩
      have hNz : N0.size ≤ 9223372036854775807 := by rw [hN0]; exact (HZ.out _ (List.getElem_mem hjs)).1
      have hnm : nmS N0 = true := by rw [hN0]; exact (ok_trees HOK.out _ (List.getElem_mem hjs)).1
      have hin : inN N0 (nmL rs) = true := inN_mem (by rw [hN0]; exact List.mem_map.2 ⟨_, List.getElem_mem hjs, rfl⟩)
      obtain ⟨⟨y1, y2, y3⟩, hy⟩ : ∃ y, y = itr rs m N0 := ⟨_, rfl⟩
      have HE8 : Hid (∀ W : World, Below w.heap.size w W → Calls Tryz.prog 11 #[.agg #[.slice (some ⟨g, o, none⟩) n cap], .agg #[.int .i64 5, .string N0, .int .u64 0, .int .u64 0, .int .u64 0, .int .u64 0, .slice none 0 0, .int .i64 0]] W fun e w' => e = .returned (.tuple #[.agg #[.bool y1, .bool y2, .bool y3], .nilIface]) ∧ Hid (Below W.heap.size W w')) := fun W hb => by
        obtain ⟨V, hV, hc⟩ := HXx.out 5 N0 0 0 0 0 0 none 0 0 _ W hb (ref_is N0 W) (ref_z hNz) (ref_u N0)
        refine (hc W (Below.refl _ _)).mono fun e w' he => ?_
        obtain ⟨hb', ⟨hX, _⟩ | ⟨_, h0 | h0, _⟩ | ⟨_, _, _, m', hf, he⟩⟩ := he
        · exact absurd rfl hX
        · exact absurd h0 (ref_some hnm hV)
        · rw [hrT, if_pos rfl, hin] at h0
          cases h0
        · refine ⟨?_, hid hb'⟩
          rw [he, itr_one hf HFx.out, ofT]
          simp only [Int.reduceEq, if_false, if_true]
          rw [← hy]
      have HE9 : Hid (∀ W : World, Below w.heap.size w W → Calls Tryz.prog 11 #[.agg #[.slice (some ⟨g, o, none⟩) n cap], .agg #[.int .i64 k1, .string T1, .int .u64 a1, .int .u64 b1, .int .u64 c1, .int .u64 d1, .slice so1 n1 cap1, .int .i64 p1]] W fun e w' => ∃ z1 z2 z3 v, e = .returned (.tuple #[.agg #[.bool z1, .bool z2, .bool z3], v]) ∧ Hid (Below W.heap.size W w') ∧ ((∃ tt uu, v = .iface tt uu) ∨ (v = .nilIface ∧ Hid ((z1, z2, z3) = (y1, y2, y3))))) := fun W hb => by
        obtain ⟨V, hV, hc⟩ := HXx.out k1 T1 a1 b1 c1 d1 p1 so1 n1 cap1 rs[j].2.1 W hb (RtIs.upto hb.size _ _ (hrt.below hb)) (HZ.out _ (List.getElem_mem hjs)).2 (HU.out _ (List.getElem_mem hjs))
        refine (hc W (Below.refl _ _)).mono fun e w' he => ?_
        obtain ⟨z1, z2, z3, v, h1, h2, h3⟩ := ExP.short he
        refine ⟨z1, z2, z3, v, h1, h2, ?_⟩
        rcases h3 with h3 | ⟨h3, h4⟩
        · exact .inl h3
        · obtain ⟨m', hf, h5⟩ := h4.out
          refine .inr ⟨h3, ?_⟩
          show _ = _
          rw [h5, itr_one hf HFx.out, hy, hN0]
          exact HFx.out _ (List.getElem_mem hjs)
      have HO := hid (HOU.out.2 j hjs (by rw [← HNl.out]; exact hjn))
      rw [← hN0, ← hy] at HO
      have HCr := hid ((HBr.out.block _ HLu.out).trans HCS.out)
      have c8 := g4
      clear hce hN0 hnm hin hy hNz hrt hGr z9
      go_wp2_with fail
      go_region_held3 (fun W : World => Hid (Below wr.heap.size wr W) ∧ W.cell? ⟨w.heap.size, 0, none⟩ = some (.slice (some ⟨g, o, none⟩) n cap) ∧ W.cell? ⟨g, o + j * 10, none⟩ = some (.string N0)) (first | (with_reducible assumption) | (exact mk_s8 (Below.trans (left_below (by assumption)) (Below.mono (by assumption) (Below.size (left_below (by assumption))))) g4 z0) | (exact mk_s8 (Below.alloc (left_below (by assumption)) (Below.size (left_below (by assumption))) _) g4 z0) | (exact mk_s8 (HB44.out.alloc HB44.out.size _) g4 z0) | (exact mk_s8 (Below.setCell (Below.setCell (Below.setCell (left_below (by assumption)) (Nat.le_refl _) _) (Nat.le_refl _) _) (Nat.le_refl _) _) g4 z0)) (first
        | (go_at_call 11; refine (HE8.out _ (HBw.out.trans (Below.mono (left_below (by assumption)) HBw.out.size))).mono ?_; rintro e w4 ⟨rfl, HB4⟩; have hb4 := HB4.out; have HB44 := hid (Below.trans (left_below (by assumption)) (hb4.mono (Below.size (left_below (by assumption))))); first | (obtain ⟨⟨u0, u1, u2⟩, f0, f1, f2⟩ := three_cells ((hb4.block wr.heap.size (by simp)).trans (new_block_at wr.drew (.cells #[.bool false, .bool false, .bool false] 39) rfl)); have lq := node_lt ((hb4.block wr.heap.size (by simp)).trans (new_block_at wr.drew (.cells #[.bool false, .bool false, .bool false] 39) rfl))) | skip))
      all_goals (first
        | (obtain ⟨wx, hwx⟩ : ∃ wx, wx = w4.alloc (.cells #[.bool y1, .bool y2, .bool y3] 39) := ⟨_, rfl⟩; rw [← hwx]; have HXb : Hid (wx.heap[w4.heap.size]? = some (.cells #[.bool y1, .bool y2, .bool y3] 39)) := (by rw [hwx]; exact new_block_at w4 _ rfl); have HBx : Hid (Below wr.heap.size wr wx) := (by rw [hwx]; exact HB44.out.alloc HB44.out.size _); obtain ⟨bx, hbx⟩ : ∃ bx, bx = w4.heap.size := ⟨_, rfl⟩; rw [← hbx] at HXb ⊢; clear hwx hbx HB44 HB4 hb4)
        | (obtain ⟨wx, hwx⟩ : ∃ wx, wx = ((w4.setCell ⟨wr.heap.size, 0, none⟩ (.bool y1)).setCell ⟨wr.heap.size, 1, none⟩ (.bool y2)).setCell ⟨wr.heap.size, 2, none⟩ (.bool y3) := ⟨_, rfl⟩; rw [← hwx]; have HXb : Hid (wx.heap[wr.heap.size]? = some (.cells #[.bool y1, .bool y2, .bool y3] 39)) := (by rw [hwx]; exact three_put ((hb4.block wr.heap.size (by simp)).trans (new_block_at wr.drew (.cells #[.bool false, .bool false, .bool false] 39) rfl))); have HBx : Hid (Below wr.heap.size wr wx) := (by rw [hwx]; exact ((HB44.out.setCell (Nat.le_refl _) _).setCell (Nat.le_refl _) _).setCell (Nat.le_refl _) _); obtain ⟨bx, hbx⟩ : ∃ bx, bx = wr.heap.size := ⟨_, rfl⟩; rw [← hbx] at HXb ⊢; clear hwx hbx HB44 HB4 hb4 u0 u1 u2 f0 f1 f2 lq))
      all_goals (
        have x0 := (HBx.out.cell (p := ⟨w.heap.size, 0, none⟩) lg4).trans g4
        have x1 := (HBx.out.cell (p := ⟨g, o + j * 10 + 1, none⟩) hgl).trans z1
        have x2 := (HBx.out.cell (p := ⟨g, o + j * 10 + 2, none⟩) hgl).trans z2
        have x3 := (HBx.out.cell (p := ⟨g, o + j * 10 + 3, none⟩) hgl).trans z3
        have x4 := (HBx.out.cell (p := ⟨g, o + j * 10 + 4, none⟩) hgl).trans z4
        have x5 := (HBx.out.cell (p := ⟨g, o + j * 10 + 5, none⟩) hgl).trans z5
        have x6 := (HBx.out.cell (p := ⟨g, o + j * 10 + 6, none⟩) hgl).trans z6
        have x7 := (HBx.out.cell (p := ⟨g, o + j * 10 + 7, none⟩) hgl).trans z7
        have x8 := (HBx.out.cell (p := ⟨g, o + j * 10 + 8, none⟩) hgl).trans z8
        have HBwx := hid (HBw.out.trans (HBx.out.mono HBw.out.size))
        have HCx := hid ((HBx.out.block ub (Nat.lt_of_lt_of_le HLu.out HBr.out.size)).trans HCr.out)
        have S1 : (fun W : World => Hid (Below wx.heap.size wx W) ∧ W.cell? ⟨w.heap.size, 0, none⟩ = some (.slice (some ⟨g, o, none⟩) n cap) ∧ W.cell? ⟨g, o + j * 10 + 1, none⟩ = some (.int .i64 k1) ∧ W.cell? ⟨g, o + j * 10 + 2, none⟩ = some (.string T1) ∧ W.cell? ⟨g, o + j * 10 + 3, none⟩ = some (.int .u64 a1) ∧ W.cell? ⟨g, o + j * 10 + 4, none⟩ = some (.int .u64 b1) ∧ W.cell? ⟨g, o + j * 10 + 5, none⟩ = some (.int .u64 c1) ∧ W.cell? ⟨g, o + j * 10 + 6, none⟩ = some (.int .u64 d1) ∧ W.cell? ⟨g, o + j * 10 + 7, none⟩ = some (.slice so1 n1 cap1) ∧ W.cell? ⟨g, o + j * 10 + 8, none⟩ = some (.int .i64 p1)) wx.drew := ⟨hid (Below.refl _ _).drew, x0, x1, x2, x3, x4, x5, x6, x7, x8⟩
        have hgx := Nat.lt_of_lt_of_le hgl HBx.out.size
        have lgx := Nat.lt_of_lt_of_le lg4 HBx.out.size
        clear S0 z0 z1 z2 z3 z4 z5 z6 z7 z8 g4 c8 HE8
        go_wp2_with fail
        go_region_held3 (fun W : World => Hid (Below wx.heap.size wx W) ∧ W.cell? ⟨w.heap.size, 0, none⟩ = some (.slice (some ⟨g, o, none⟩) n cap) ∧ W.cell? ⟨g, o + j * 10 + 1, none⟩ = some (.int .i64 k1) ∧ W.cell? ⟨g, o + j * 10 + 2, none⟩ = some (.string T1) ∧ W.cell? ⟨g, o + j * 10 + 3, none⟩ = some (.int .u64 a1) ∧ W.cell? ⟨g, o + j * 10 + 4, none⟩ = some (.int .u64 b1) ∧ W.cell? ⟨g, o + j * 10 + 5, none⟩ = some (.int .u64 c1) ∧ W.cell? ⟨g, o + j * 10 + 6, none⟩ = some (.int .u64 d1) ∧ W.cell? ⟨g, o + j * 10 + 7, none⟩ = some (.slice so1 n1 cap1) ∧ W.cell? ⟨g, o + j * 10 + 8, none⟩ = some (.int .i64 p1)) (first | (with_reducible assumption) | (exact mk_s9 (Below.trans (left_below (by assumption)) (Below.mono (by assumption) (Below.size (left_below (by assumption))))) x0 x1 x2 x3 x4 x5 x6 x7 x8) | (exact mk_s9 (Below.alloc (left_below (by assumption)) (Below.size (left_below (by assumption))) _) x0 x1 x2 x3 x4 x5 x6 x7 x8) | (exact mk_s9 (HB44.out.alloc HB44.out.size _) x0 x1 x2 x3 x4 x5 x6 x7 x8) | (exact mk_s9 (Below.setCell (Below.setCell (Below.setCell (left_below (by assumption)) (Nat.le_refl _) _) (Nat.le_refl _) _) (Nat.le_refl _) _) x0 x1 x2 x3 x4 x5 x6 x7 x8)) (first
          | (go_at_call 11; refine (HE9.out _ (HBwx.out.trans (Below.mono (left_below (by assumption)) HBwx.out.size))).mono ?_; rintro e w4 ⟨t1, t2, t3, v, rfl, HB4, hv⟩; have hb4 := HB4.out; have HB44 := hid (Below.trans (left_below (by assumption)) (hb4.mono (Below.size (left_below (by assumption))))); first | (obtain ⟨⟨u0, u1, u2⟩, f0, f1, f2⟩ := three_cells ((hb4.block wx.heap.size (by simp)).trans (new_block_at wx.drew (.cells #[.bool false, .bool false, .bool false] 39) rfl)); have lq := node_lt ((hb4.block wx.heap.size (by simp)).trans (new_block_at wx.drew (.cells #[.bool false, .bool false, .bool false] 39) rfl))) | skip))
        all_goals (first
          | (obtain ⟨wy, hwy⟩ : ∃ wy, wy = w4.alloc (.cells #[.bool t1, .bool t2, .bool t3] 39) := ⟨_, rfl⟩; rw [← hwy]; have HYb : Hid (wy.heap[w4.heap.size]? = some (.cells #[.bool t1, .bool t2, .bool t3] 39)) := (by rw [hwy]; exact new_block_at w4 _ rfl); have HBy : Hid (Below wx.heap.size wx wy) := (by rw [hwy]; exact HB44.out.alloc HB44.out.size _); obtain ⟨bz, hbz⟩ : ∃ bz, bz = w4.heap.size := ⟨_, rfl⟩; rw [← hbz] at HYb ⊢; clear hwy hbz HB44 HB4 hb4)
          | (obtain ⟨wy, hwy⟩ : ∃ wy, wy = ((w4.setCell ⟨wx.heap.size, 0, none⟩ (.bool t1)).setCell ⟨wx.heap.size, 1, none⟩ (.bool t2)).setCell ⟨wx.heap.size, 2, none⟩ (.bool t3) := ⟨_, rfl⟩; rw [← hwy]; have HYb : Hid (wy.heap[wx.heap.size]? = some (.cells #[.bool t1, .bool t2, .bool t3] 39)) := (by rw [hwy]; exact three_put ((hb4.block wx.heap.size (by simp)).trans (new_block_at wx.drew (.cells #[.bool false, .bool false, .bool false] 39) rfl))); have HBy : Hid (Below wx.heap.size wx wy) := (by rw [hwy]; exact ((HB44.out.setCell (Nat.le_refl _) _).setCell (Nat.le_refl _) _).setCell (Nat.le_refl _) _); obtain ⟨bz, hbz⟩ : ∃ bz, bz = wx.heap.size := ⟨_, rfl⟩; rw [← hbz] at HYb ⊢; clear hwy hbz HB44 HB4 hb4 u0 u1 u2 f0 f1 f2 lq))
        all_goals (
          have HXy := blk_keep HXb HBy.out
          have HCy := blk_keep HCx HBy.out
          obtain ⟨⟨m0, m1, m2⟩, _⟩ := three_cells HXy.out
          obtain ⟨⟨n0, nn1, n2⟩, _⟩ := three_cells HYb.out
          have l0 := (cell_in HCy.out _ _ HO.out.1).1
          have l1 := (cell_in HCy.out _ _ HO.out.2.1).1
          have l2 := (cell_in HCy.out _ _ HO.out.2.2).1
          have q0 := node_lt HXy.out
          have q1 := node_lt HYb.out
          have q2 := node_lt HCy.out
          have S2 : (fun W : World => W.cell? ⟨bx, 0, none⟩ = some (.bool y1) ∧ W.cell? ⟨bx, 1, none⟩ = some (.bool y2) ∧ W.cell? ⟨bx, 2, none⟩ = some (.bool y3) ∧ W.cell? ⟨bz, 0, none⟩ = some (.bool t1) ∧ W.cell? ⟨bz, 1, none⟩ = some (.bool t2) ∧ W.cell? ⟨bz, 2, none⟩ = some (.bool t3) ∧ W.cell? ⟨ub, j * 3, none⟩ = some (.bool y1) ∧ W.cell? ⟨ub, j * 3 + 1, none⟩ = some (.bool y2) ∧ W.cell? ⟨ub, j * 3 + 2, none⟩ = some (.bool y3)) wy.drew := ⟨m0, m1, m2, n0, nn1, n2, l0, l1, l2⟩
          have HBfin : Hid (Below w2.heap.size w2 wy.drew) := ((HBr.out.trans (HBx.out.mono HBr.out.size)).trans (HBy.out.mono (Nat.le_trans HBr.out.size HBx.out.size))).drew
          clear HXb HBx HBwx HCx HYb HBy HXy HCy HCr S1 x0 x1 x2 x3 x4 x5 x6 x7 x8 hgx lgx m0 m1 m2 n0 nn1 n2 l0 l1 l2
          rcases hv with ⟨tt, uu, rfl⟩ | ⟨rfl, hzy⟩
          · go_wp2_with fail
            refine wp_region_held_drew (S := (fun W : World => W.cell? ⟨bx, 0, none⟩ = some (.bool _) ∧ W.cell? ⟨bx, 1, none⟩ = some (.bool _) ∧ W.cell? ⟨bx, 2, none⟩ = some (.bool _) ∧ W.cell? ⟨bz, 0, none⟩ = some (.bool _) ∧ W.cell? ⟨bz, 1, none⟩ = some (.bool _) ∧ W.cell? ⟨bz, 2, none⟩ = some (.bool _) ∧ W.cell? ⟨ub, j * 3, none⟩ = some (.bool _) ∧ W.cell? ⟨ub, j * 3 + 1, none⟩ = some (.bool _) ∧ W.cell? ⟨ub, j * 3 + 2, none⟩ = some (.bool _))) (by kernel_rfl) S2 (fun hHeld => ?_)
            (refine wpAnyH_take (i := 0) (oi := { dst := Option.some 70, op := Go.Op.move (Go.Operand.tmp 8), type := 35, pos := "law.go:59", after := #[], guard := Option.none }) (v := ?_) rfl (by kernel_rfl) (by kernel_rfl) (by kernel_rfl) (fun _ _ _ h => h) (Or.inl ⟨by rfl, ?_⟩) hHeld ?_; rotate_left; (intro w hSw; (try dsimp only at hSw); go_simp; (try with_reducible rfl)); skip)
            (try simp only [Act.put, List.setIfInBounds_toArray, List.set_cons_zero, List.set_cons_succ])
            (refine wpAnyH_take (i := 1) (oi := { dst := Option.some 71, op := Go.Op.binOp Go.BinOp.neq 35 (Go.Operand.tmp 70) (Go.Operand.const Go.Value.nilIface) 35, type := 4, pos := "law.go:59", after := #[{ on := 0, ground := Go.Ground.data }], guard := Option.none }) (v := ?_) rfl (by kernel_rfl) (by kernel_rfl) (by kernel_rfl) (fun _ _ _ h => h) (Or.inl ⟨by rfl, ?_⟩) hHeld ?_; rotate_left; (intro w hSw; (try dsimp only at hSw); go_simp; (try with_reducible rfl)); skip)
            (try simp only [Act.put, List.setIfInBounds_toArray, List.set_cons_zero, List.set_cons_succ])
            (refine wpAnyH_take (i := 2) (oi := { dst := Option.some 72, op := Go.Op.move (Go.Operand.tmp 71), type := 4, pos := "law.go:59", after := #[{ on := 1, ground := Go.Ground.data }], guard := Option.none }) (v := ?_) rfl (by kernel_rfl) (by kernel_rfl) (by kernel_rfl) (fun _ _ _ h => h) (Or.inl ⟨by rfl, ?_⟩) hHeld ?_; rotate_left; (intro w hSw; (try dsimp only at hSw); go_simp; (try with_reducible rfl)); skip)
            (try simp only [Act.put, List.setIfInBounds_toArray, List.set_cons_zero, List.set_cons_succ])
            first
              | (refine wpAnyH_take (i := 3) (oi := { dst := Option.some 73, op := Go.Op.load 39 (Go.Operand.tmp 7), type := 39, pos := "law.go:59", after := #[{ on := 2, ground := Go.Ground.guard }], guard := Option.some (2, Bool.false) }) (v := undef) rfl (by kernel_rfl) (by kernel_rfl) (by kernel_rfl) (fun _ _ _ h => h) (Or.inr ⟨by rfl, rfl⟩) hHeld ?_)
              | (refine wpAnyH_take (i := 3) (oi := { dst := Option.some 73, op := Go.Op.load 39 (Go.Operand.tmp 7), type := 39, pos := "law.go:59", after := #[{ on := 2, ground := Go.Ground.guard }], guard := Option.some (2, Bool.false) }) (v := ?_) rfl (by kernel_rfl) (by kernel_rfl) (by kernel_rfl) (fun _ _ _ h => h) (Or.inl ⟨by rfl, ?_⟩) hHeld ?_; rotate_left; (intro w hSw; (try dsimp only at hSw); go_simp; (try with_reducible rfl)); skip)
            (try simp only [Act.put, List.setIfInBounds_toArray, List.set_cons_zero, List.set_cons_succ])
            first
              | (refine wpAnyH_take (i := 4) (oi := { dst := Option.some 74, op := Go.Op.move (Go.Operand.tmp 4), type := 33, pos := "law.go:59", after := #[{ on := 2, ground := Go.Ground.guard }], guard := Option.some (2, Bool.false) }) (v := undef) rfl (by kernel_rfl) (by kernel_rfl) (by kernel_rfl) (fun _ _ _ h => h) (Or.inr ⟨by rfl, rfl⟩) hHeld ?_)
              | (refine wpAnyH_take (i := 4) (oi := { dst := Option.some 74, op := Go.Op.move (Go.Operand.tmp 4), type := 33, pos := "law.go:59", after := #[{ on := 2, ground := Go.Ground.guard }], guard := Option.some (2, Bool.false) }) (v := ?_) rfl (by kernel_rfl) (by kernel_rfl) (by kernel_rfl) (fun _ _ _ h => h) (Or.inl ⟨by rfl, ?_⟩) hHeld ?_; rotate_left; (intro w hSw; (try dsimp only at hSw); go_simp; (try with_reducible rfl)); skip)
            (try simp only [Act.put, List.setIfInBounds_toArray, List.set_cons_zero, List.set_cons_succ])
            first
              | (refine wpAnyH_take (i := 5) (oi := { dst := Option.some 75, op := Go.Op.move (Go.Operand.tmp 6), type := 3, pos := "law.go:59", after := #[{ on := 2, ground := Go.Ground.guard }], guard := Option.some (2, Bool.false) }) (v := undef) rfl (by kernel_rfl) (by kernel_rfl) (by kernel_rfl) (fun _ _ _ h => h) (Or.inr ⟨by rfl, rfl⟩) hHeld ?_)
              | (refine wpAnyH_take (i := 5) (oi := { dst := Option.some 75, op := Go.Op.move (Go.Operand.tmp 6), type := 3, pos := "law.go:59", after := #[{ on := 2, ground := Go.Ground.guard }], guard := Option.some (2, Bool.false) }) (v := ?_) rfl (by kernel_rfl) (by kernel_rfl) (by kernel_rfl) (fun _ _ _ h => h) (Or.inl ⟨by rfl, ?_⟩) hHeld ?_; rotate_left; (intro w hSw; (try dsimp only at hSw); go_simp; (try with_reducible rfl)); skip)
            (try simp only [Act.put, List.setIfInBounds_toArray, List.set_cons_zero, List.set_cons_succ])
            first
              | (refine wpAnyH_take (i := 6) (oi := { dst := Option.some 76, op := Go.Op.indexAddr 33 (Go.Operand.tmp 74) (Go.Operand.tmp 75), type := 0, pos := "law.go:59", after := #[{ on := 4, ground := Go.Ground.data }, { on := 5, ground := Go.Ground.data }, { on := 2, ground := Go.Ground.guard }], guard := Option.some (2, Bool.false) }) (v := undef) rfl (by kernel_rfl) (by kernel_rfl) (by kernel_rfl) (fun _ _ _ h => h) (Or.inr ⟨by rfl, rfl⟩) hHeld ?_)
              | (refine wpAnyH_take (i := 6) (oi := { dst := Option.some 76, op := Go.Op.indexAddr 33 (Go.Operand.tmp 74) (Go.Operand.tmp 75), type := 0, pos := "law.go:59", after := #[{ on := 4, ground := Go.Ground.data }, { on := 5, ground := Go.Ground.data }, { on := 2, ground := Go.Ground.guard }], guard := Option.some (2, Bool.false) }) (v := ?_) rfl (by kernel_rfl) (by kernel_rfl) (by kernel_rfl) (fun _ _ _ h => h) (Or.inl ⟨by rfl, ?_⟩) hHeld ?_; rotate_left; (intro w hSw; (try dsimp only at hSw); go_simp; (try with_reducible rfl)); skip)
            (try simp only [Act.put, List.setIfInBounds_toArray, List.set_cons_zero, List.set_cons_succ])
            first
              | (refine wpAnyH_take (i := 7) (oi := { dst := Option.some 77, op := Go.Op.load 39 (Go.Operand.tmp 76), type := 39, pos := "law.go:59", after := #[{ on := 6, ground := Go.Ground.data }, { on := 2, ground := Go.Ground.guard }], guard := Option.some (2, Bool.false) }) (v := undef) rfl (by kernel_rfl) (by kernel_rfl) (by kernel_rfl) (fun _ _ _ h => h) (Or.inr ⟨by rfl, rfl⟩) hHeld ?_)
              | (refine wpAnyH_take (i := 7) (oi := { dst := Option.some 77, op := Go.Op.load 39 (Go.Operand.tmp 76), type := 39, pos := "law.go:59", after := #[{ on := 6, ground := Go.Ground.data }, { on := 2, ground := Go.Ground.guard }], guard := Option.some (2, Bool.false) }) (v := ?_) rfl (by kernel_rfl) (by kernel_rfl) (by kernel_rfl) (fun _ _ _ h => h) (Or.inl ⟨by rfl, ?_⟩) hHeld ?_; rotate_left; (intro w hSw; (try dsimp only at hSw); go_simp; (try with_reducible rfl)); skip)
            (try simp only [Act.put, List.setIfInBounds_toArray, List.set_cons_zero, List.set_cons_succ])
            first
              | (refine wpAnyH_take (i := 8) (oi := { dst := Option.some 78, op := Go.Op.binOp Go.BinOp.neq 39 (Go.Operand.tmp 73) (Go.Operand.tmp 77) 39, type := 4, pos := "law.go:59", after := #[{ on := 3, ground := Go.Ground.data }, { on := 7, ground := Go.Ground.data }, { on := 2, ground := Go.Ground.guard }], guard := Option.some (2, Bool.false) }) (v := undef) rfl (by kernel_rfl) (by kernel_rfl) (by kernel_rfl) (fun _ _ _ h => h) (Or.inr ⟨by rfl, rfl⟩) hHeld ?_)
              | (refine wpAnyH_take (i := 8) (oi := { dst := Option.some 78, op := Go.Op.binOp Go.BinOp.neq 39 (Go.Operand.tmp 73) (Go.Operand.tmp 77) 39, type := 4, pos := "law.go:59", after := #[{ on := 3, ground := Go.Ground.data }, { on := 7, ground := Go.Ground.data }, { on := 2, ground := Go.Ground.guard }], guard := Option.some (2, Bool.false) }) (v := ?_) rfl (by kernel_rfl) (by kernel_rfl) (by kernel_rfl) (fun _ _ _ h => h) (Or.inl ⟨by rfl, ?_⟩) hHeld ?_; rotate_left; (intro w hSw; (try dsimp only at hSw); go_simp; (try with_reducible rfl)); skip)
            (try simp only [Act.put, List.setIfInBounds_toArray, List.set_cons_zero, List.set_cons_succ])
            (refine wpAnyH_take (i := 9) (oi := { dst := Option.some 79, op := Go.Op.pick (Go.Operand.tmp 72) (Go.Operand.const (Go.Value.bool Bool.true)) (Go.Operand.tmp 78), type := 4, pos := "law.go:59", after := #[{ on := 2, ground := Go.Ground.data }, { on := 8, ground := Go.Ground.data }], guard := Option.none }) (v := ?_) rfl (by kernel_rfl) (by kernel_rfl) (by kernel_rfl) (fun _ _ _ h => h) (Or.inl ⟨by rfl, ?_⟩) hHeld ?_; rotate_left; (intro w hSw; (try dsimp only at hSw); go_simp; (try with_reducible rfl)); skip)
            (try simp only [Act.put, List.setIfInBounds_toArray, List.set_cons_zero, List.set_cons_succ])
            (refine wpAnyH_take (i := 10) (oi := { dst := Option.some 80, op := Go.Op.move (Go.Operand.tmp 79), type := 4, pos := "law.go:59", after := #[{ on := 9, ground := Go.Ground.data }, { on := 2, ground := Go.Ground.chain }], guard := Option.none }) (v := ?_) rfl (by kernel_rfl) (by kernel_rfl) (by kernel_rfl) (fun _ _ _ h => h) (Or.inl ⟨by rfl, ?_⟩) hHeld ?_; rotate_left; (intro w hSw; (try dsimp only at hSw); go_simp; (try with_reducible rfl)); skip)
            (try simp only [Act.put, List.setIfInBounds_toArray, List.set_cons_zero, List.set_cons_succ])
            first
              | (refine wpAnyH_take (i := 11) (oi := { dst := Option.some 81, op := Go.Op.move (Go.Operand.tmp 10), type := 35, pos := "law.go:59", after := #[{ on := 10, ground := Go.Ground.guard }], guard := Option.some (10, Bool.false) }) (v := undef) rfl (by kernel_rfl) (by kernel_rfl) (by kernel_rfl) (fun _ _ _ h => h) (Or.inr ⟨by rfl, rfl⟩) hHeld ?_)
              | (refine wpAnyH_take (i := 11) (oi := { dst := Option.some 81, op := Go.Op.move (Go.Operand.tmp 10), type := 35, pos := "law.go:59", after := #[{ on := 10, ground := Go.Ground.guard }], guard := Option.some (10, Bool.false) }) (v := ?_) rfl (by kernel_rfl) (by kernel_rfl) (by kernel_rfl) (fun _ _ _ h => h) (Or.inl ⟨by rfl, ?_⟩) hHeld ?_; rotate_left; (intro w hSw; (try dsimp only at hSw); go_simp; (try with_reducible rfl)); skip)
            (try simp only [Act.put, List.setIfInBounds_toArray, List.set_cons_zero, List.set_cons_succ])
            first
              | (refine wpAnyH_take (i := 12) (oi := { dst := Option.some 82, op := Go.Op.binOp Go.BinOp.eql 35 (Go.Operand.tmp 81) (Go.Operand.const Go.Value.nilIface) 35, type := 4, pos := "law.go:59", after := #[{ on := 11, ground := Go.Ground.data }, { on := 10, ground := Go.Ground.guard }], guard := Option.some (10, Bool.false) }) (v := undef) rfl (by kernel_rfl) (by kernel_rfl) (by kernel_rfl) (fun _ _ _ h => h) (Or.inr ⟨by rfl, rfl⟩) hHeld ?_)
              | (refine wpAnyH_take (i := 12) (oi := { dst := Option.some 82, op := Go.Op.binOp Go.BinOp.eql 35 (Go.Operand.tmp 81) (Go.Operand.const Go.Value.nilIface) 35, type := 4, pos := "law.go:59", after := #[{ on := 11, ground := Go.Ground.data }, { on := 10, ground := Go.Ground.guard }], guard := Option.some (10, Bool.false) }) (v := ?_) rfl (by kernel_rfl) (by kernel_rfl) (by kernel_rfl) (fun _ _ _ h => h) (Or.inl ⟨by rfl, ?_⟩) hHeld ?_; rotate_left; (intro w hSw; (try dsimp only at hSw); go_simp; (try with_reducible rfl)); skip)
            (try simp only [Act.put, List.setIfInBounds_toArray, List.set_cons_zero, List.set_cons_succ])
            first
              | (refine wpAnyH_take (i := 13) (oi := { dst := Option.some 83, op := Go.Op.move (Go.Operand.tmp 82), type := 4, pos := "law.go:59", after := #[{ on := 12, ground := Go.Ground.data }, { on := 10, ground := Go.Ground.chain }, { on := 10, ground := Go.Ground.guard }], guard := Option.some (10, Bool.false) }) (v := undef) rfl (by kernel_rfl) (by kernel_rfl) (by kernel_rfl) (fun _ _ _ h => h) (Or.inr ⟨by rfl, rfl⟩) hHeld ?_)
              | (refine wpAnyH_take (i := 13) (oi := { dst := Option.some 83, op := Go.Op.move (Go.Operand.tmp 82), type := 4, pos := "law.go:59", after := #[{ on := 12, ground := Go.Ground.data }, { on := 10, ground := Go.Ground.chain }, { on := 10, ground := Go.Ground.guard }], guard := Option.some (10, Bool.false) }) (v := ?_) rfl (by kernel_rfl) (by kernel_rfl) (by kernel_rfl) (fun _ _ _ h => h) (Or.inl ⟨by rfl, ?_⟩) hHeld ?_; rotate_left; (intro w hSw; (try dsimp only at hSw); go_simp; (try with_reducible rfl)); skip)
            (try simp only [Act.put, List.setIfInBounds_toArray, List.set_cons_zero, List.set_cons_succ])
            first
              | (refine wpAnyH_take (i := 14) (oi := { dst := Option.some 84, op := Go.Op.load 39 (Go.Operand.tmp 9), type := 39, pos := "law.go:59", after := #[{ on := 13, ground := Go.Ground.guard }], guard := Option.some (13, Bool.true) }) (v := undef) rfl (by kernel_rfl) (by kernel_rfl) (by kernel_rfl) (fun _ _ _ h => h) (Or.inr ⟨by rfl, rfl⟩) hHeld ?_)
              | (refine wpAnyH_take (i := 14) (oi := { dst := Option.some 84, op := Go.Op.load 39 (Go.Operand.tmp 9), type := 39, pos := "law.go:59", after := #[{ on := 13, ground := Go.Ground.guard }], guard := Option.some (13, Bool.true) }) (v := ?_) rfl (by kernel_rfl) (by kernel_rfl) (by kernel_rfl) (fun _ _ _ h => h) (Or.inl ⟨by rfl, ?_⟩) hHeld ?_; rotate_left; (intro w hSw; (try dsimp only at hSw); go_simp; (try with_reducible rfl)); skip)
            (try simp only [Act.put, List.setIfInBounds_toArray, List.set_cons_zero, List.set_cons_succ])
            first
              | (refine wpAnyH_take (i := 15) (oi := { dst := Option.some 85, op := Go.Op.move (Go.Operand.tmp 4), type := 33, pos := "law.go:59", after := #[{ on := 13, ground := Go.Ground.guard }], guard := Option.some (13, Bool.true) }) (v := undef) rfl (by kernel_rfl) (by kernel_rfl) (by kernel_rfl) (fun _ _ _ h => h) (Or.inr ⟨by rfl, rfl⟩) hHeld ?_)
              | (refine wpAnyH_take (i := 15) (oi := { dst := Option.some 85, op := Go.Op.move (Go.Operand.tmp 4), type := 33, pos := "law.go:59", after := #[{ on := 13, ground := Go.Ground.guard }], guard := Option.some (13, Bool.true) }) (v := ?_) rfl (by kernel_rfl) (by kernel_rfl) (by kernel_rfl) (fun _ _ _ h => h) (Or.inl ⟨by rfl, ?_⟩) hHeld ?_; rotate_left; (intro w hSw; (try dsimp only at hSw); go_simp; (try with_reducible rfl)); skip)
            (try simp only [Act.put, List.setIfInBounds_toArray, List.set_cons_zero, List.set_cons_succ])
            first
              | (refine wpAnyH_take (i := 16) (oi := { dst := Option.some 86, op := Go.Op.move (Go.Operand.tmp 6), type := 3, pos := "law.go:59", after := #[{ on := 13, ground := Go.Ground.guard }], guard := Option.some (13, Bool.true) }) (v := undef) rfl (by kernel_rfl) (by kernel_rfl) (by kernel_rfl) (fun _ _ _ h => h) (Or.inr ⟨by rfl, rfl⟩) hHeld ?_)
              | (refine wpAnyH_take (i := 16) (oi := { dst := Option.some 86, op := Go.Op.move (Go.Operand.tmp 6), type := 3, pos := "law.go:59", after := #[{ on := 13, ground := Go.Ground.guard }], guard := Option.some (13, Bool.true) }) (v := ?_) rfl (by kernel_rfl) (by kernel_rfl) (by kernel_rfl) (fun _ _ _ h => h) (Or.inl ⟨by rfl, ?_⟩) hHeld ?_; rotate_left; (intro w hSw; (try dsimp only at hSw); go_simp; (try with_reducible rfl)); skip)
            (try simp only [Act.put, List.setIfInBounds_toArray, List.set_cons_zero, List.set_cons_succ])
            first
              | (refine wpAnyH_take (i := 17) (oi := { dst := Option.some 87, op := Go.Op.indexAddr 33 (Go.Operand.tmp 85) (Go.Operand.tmp 86), type := 0, pos := "law.go:59", after := #[{ on := 15, ground := Go.Ground.data }, { on := 16, ground := Go.Ground.data }, { on := 13, ground := Go.Ground.guard }], guard := Option.some (13, Bool.true) }) (v := undef) rfl (by kernel_rfl) (by kernel_rfl) (by kernel_rfl) (fun _ _ _ h => h) (Or.inr ⟨by rfl, rfl⟩) hHeld ?_)
              | (refine wpAnyH_take (i := 17) (oi := { dst := Option.some 87, op := Go.Op.indexAddr 33 (Go.Operand.tmp 85) (Go.Operand.tmp 86), type := 0, pos := "law.go:59", after := #[{ on := 15, ground := Go.Ground.data }, { on := 16, ground := Go.Ground.data }, { on := 13, ground := Go.Ground.guard }], guard := Option.some (13, Bool.true) }) (v := ?_) rfl (by kernel_rfl) (by kernel_rfl) (by kernel_rfl) (fun _ _ _ h => h) (Or.inl ⟨by rfl, ?_⟩) hHeld ?_; rotate_left; (intro w hSw; (try dsimp only at hSw); go_simp; (try with_reducible rfl)); skip)
            (try simp only [Act.put, List.setIfInBounds_toArray, List.set_cons_zero, List.set_cons_succ])
            first
              | (refine wpAnyH_take (i := 18) (oi := { dst := Option.some 88, op := Go.Op.load 39 (Go.Operand.tmp 87), type := 39, pos := "law.go:59", after := #[{ on := 17, ground := Go.Ground.data }, { on := 13, ground := Go.Ground.guard }], guard := Option.some (13, Bool.true) }) (v := undef) rfl (by kernel_rfl) (by kernel_rfl) (by kernel_rfl) (fun _ _ _ h => h) (Or.inr ⟨by rfl, rfl⟩) hHeld ?_)
              | (refine wpAnyH_take (i := 18) (oi := { dst := Option.some 88, op := Go.Op.load 39 (Go.Operand.tmp 87), type := 39, pos := "law.go:59", after := #[{ on := 17, ground := Go.Ground.data }, { on := 13, ground := Go.Ground.guard }], guard := Option.some (13, Bool.true) }) (v := ?_) rfl (by kernel_rfl) (by kernel_rfl) (by kernel_rfl) (fun _ _ _ h => h) (Or.inl ⟨by rfl, ?_⟩) hHeld ?_; rotate_left; (intro w hSw; (try dsimp only at hSw); go_simp; (try with_reducible rfl)); skip)
            (try simp only [Act.put, List.setIfInBounds_toArray, List.set_cons_zero, List.set_cons_succ])
            first
              | (refine wpAnyH_take (i := 19) (oi := { dst := Option.some 89, op := Go.Op.binOp Go.BinOp.neq 39 (Go.Operand.tmp 84) (Go.Operand.tmp 88) 39, type := 4, pos := "law.go:59", after := #[{ on := 14, ground := Go.Ground.data }, { on := 18, ground := Go.Ground.data }, { on := 13, ground := Go.Ground.guard }], guard := Option.some (13, Bool.true) }) (v := undef) rfl (by kernel_rfl) (by kernel_rfl) (by kernel_rfl) (fun _ _ _ h => h) (Or.inr ⟨by rfl, rfl⟩) hHeld ?_)
              | (refine wpAnyH_take (i := 19) (oi := { dst := Option.some 89, op := Go.Op.binOp Go.BinOp.neq 39 (Go.Operand.tmp 84) (Go.Operand.tmp 88) 39, type := 4, pos := "law.go:59", after := #[{ on := 14, ground := Go.Ground.data }, { on := 18, ground := Go.Ground.data }, { on := 13, ground := Go.Ground.guard }], guard := Option.some (13, Bool.true) }) (v := ?_) rfl (by kernel_rfl) (by kernel_rfl) (by kernel_rfl) (fun _ _ _ h => h) (Or.inl ⟨by rfl, ?_⟩) hHeld ?_; rotate_left; (intro w hSw; (try dsimp only at hSw); go_simp; (try with_reducible rfl)); skip)
            (try simp only [Act.put, List.setIfInBounds_toArray, List.set_cons_zero, List.set_cons_succ])
            first
              | (refine wpAnyH_take (i := 20) (oi := { dst := Option.some 90, op := Go.Op.pick (Go.Operand.tmp 83) (Go.Operand.tmp 89) (Go.Operand.const (Go.Value.bool Bool.false)), type := 4, pos := "law.go:59", after := #[{ on := 13, ground := Go.Ground.data }, { on := 19, ground := Go.Ground.data }, { on := 10, ground := Go.Ground.guard }], guard := Option.some (10, Bool.false) }) (v := undef) rfl (by kernel_rfl) (by kernel_rfl) (by kernel_rfl) (fun _ _ _ h => h) (Or.inr ⟨by rfl, rfl⟩) hHeld ?_)
              | (refine wpAnyH_take (i := 20) (oi := { dst := Option.some 90, op := Go.Op.pick (Go.Operand.tmp 83) (Go.Operand.tmp 89) (Go.Operand.const (Go.Value.bool Bool.false)), type := 4, pos := "law.go:59", after := #[{ on := 13, ground := Go.Ground.data }, { on := 19, ground := Go.Ground.data }, { on := 10, ground := Go.Ground.guard }], guard := Option.some (10, Bool.false) }) (v := ?_) rfl (by kernel_rfl) (by kernel_rfl) (by kernel_rfl) (fun _ _ _ h => h) (Or.inl ⟨by rfl, ?_⟩) hHeld ?_; rotate_left; (intro w hSw; (try dsimp only at hSw); go_simp; (try with_reducible rfl)); skip)
            (try simp only [Act.put, List.setIfInBounds_toArray, List.set_cons_zero, List.set_cons_succ])
            (refine wpAnyH_take (i := 21) (oi := { dst := Option.some 91, op := Go.Op.pick (Go.Operand.tmp 80) (Go.Operand.const (Go.Value.bool Bool.true)) (Go.Operand.tmp 90), type := 4, pos := "law.go:59", after := #[{ on := 10, ground := Go.Ground.data }, { on := 20, ground := Go.Ground.data }], guard := Option.none }) (v := ?_) rfl (by kernel_rfl) (by kernel_rfl) (by kernel_rfl) (fun _ _ _ h => h) (Or.inl ⟨by rfl, ?_⟩) hHeld ?_; rotate_left; (intro w hSw; (try dsimp only at hSw); go_simp; (try with_reducible rfl)); skip)
            (try simp only [Act.put, List.setIfInBounds_toArray, List.set_cons_zero, List.set_cons_succ])
            refine wpAnyH_done (by kernel_rfl) ?_ _
            clear hHeld
            go_wp2_with fail
            exact ⟨⟨j + 1, by go_num, by omega, HBfin⟩, by simp [intOf]; omega⟩
          · have hzy := hzy.out
            simp only [Prod.mk.injEq] at hzy
            obtain ⟨rfl, rfl, rfl⟩ := hzy
            go_wp2_with fail
            refine wp_region_held_drew (S := (fun W : World => W.cell? ⟨bx, 0, none⟩ = some (.bool _) ∧ W.cell? ⟨bx, 1, none⟩ = some (.bool _) ∧ W.cell? ⟨bx, 2, none⟩ = some (.bool _) ∧ W.cell? ⟨bz, 0, none⟩ = some (.bool _) ∧ W.cell? ⟨bz, 1, none⟩ = some (.bool _) ∧ W.cell? ⟨bz, 2, none⟩ = some (.bool _) ∧ W.cell? ⟨ub, j * 3, none⟩ = some (.bool _) ∧ W.cell? ⟨ub, j * 3 + 1, none⟩ = some (.bool _) ∧ W.cell? ⟨ub, j * 3 + 2, none⟩ = some (.bool _))) (by kernel_rfl) S2 (fun hHeld => ?_)
            (refine wpAnyH_take (i := 0) (oi := { dst := Option.some 70, op := Go.Op.move (Go.Operand.tmp 8), type := 35, pos := "law.go:59", after := #[], guard := Option.none }) (v := ?_) rfl (by kernel_rfl) (by kernel_rfl) (by kernel_rfl) (fun _ _ _ h => h) (Or.inl ⟨by rfl, ?_⟩) hHeld ?_; rotate_left; (intro w hSw; (try dsimp only at hSw); go_simp; (try with_reducible rfl)); skip)
            (try simp only [Act.put, List.setIfInBounds_toArray, List.set_cons_zero, List.set_cons_succ])
            (refine wpAnyH_take (i := 1) (oi := { dst := Option.some 71, op := Go.Op.binOp Go.BinOp.neq 35 (Go.Operand.tmp 70) (Go.Operand.const Go.Value.nilIface) 35, type := 4, pos := "law.go:59", after := #[{ on := 0, ground := Go.Ground.data }], guard := Option.none }) (v := ?_) rfl (by kernel_rfl) (by kernel_rfl) (by kernel_rfl) (fun _ _ _ h => h) (Or.inl ⟨by rfl, ?_⟩) hHeld ?_; rotate_left; (intro w hSw; (try dsimp only at hSw); go_simp; (try with_reducible rfl)); skip)
            (try simp only [Act.put, List.setIfInBounds_toArray, List.set_cons_zero, List.set_cons_succ])
            (refine wpAnyH_take (i := 2) (oi := { dst := Option.some 72, op := Go.Op.move (Go.Operand.tmp 71), type := 4, pos := "law.go:59", after := #[{ on := 1, ground := Go.Ground.data }], guard := Option.none }) (v := ?_) rfl (by kernel_rfl) (by kernel_rfl) (by kernel_rfl) (fun _ _ _ h => h) (Or.inl ⟨by rfl, ?_⟩) hHeld ?_; rotate_left; (intro w hSw; (try dsimp only at hSw); go_simp; (try with_reducible rfl)); skip)
            (try simp only [Act.put, List.setIfInBounds_toArray, List.set_cons_zero, List.set_cons_succ])
            first
              | (refine wpAnyH_take (i := 3) (oi := { dst := Option.some 73, op := Go.Op.load 39 (Go.Operand.tmp 7), type := 39, pos := "law.go:59", after := #[{ on := 2, ground := Go.Ground.guard }], guard := Option.some (2, Bool.false) }) (v := undef) rfl (by kernel_rfl) (by kernel_rfl) (by kernel_rfl) (fun _ _ _ h => h) (Or.inr ⟨by rfl, rfl⟩) hHeld ?_)
              | (refine wpAnyH_take (i := 3) (oi := { dst := Option.some 73, op := Go.Op.load 39 (Go.Operand.tmp 7), type := 39, pos := "law.go:59", after := #[{ on := 2, ground := Go.Ground.guard }], guard := Option.some (2, Bool.false) }) (v := ?_) rfl (by kernel_rfl) (by kernel_rfl) (by kernel_rfl) (fun _ _ _ h => h) (Or.inl ⟨by rfl, ?_⟩) hHeld ?_; rotate_left; (intro w hSw; (try dsimp only at hSw); go_simp; (try with_reducible rfl)); skip)
            (try simp only [Act.put, List.setIfInBounds_toArray, List.set_cons_zero, List.set_cons_succ])
            first
              | (refine wpAnyH_take (i := 4) (oi := { dst := Option.some 74, op := Go.Op.move (Go.Operand.tmp 4), type := 33, pos := "law.go:59", after := #[{ on := 2, ground := Go.Ground.guard }], guard := Option.some (2, Bool.false) }) (v := undef) rfl (by kernel_rfl) (by kernel_rfl) (by kernel_rfl) (fun _ _ _ h => h) (Or.inr ⟨by rfl, rfl⟩) hHeld ?_)
              | (refine wpAnyH_take (i := 4) (oi := { dst := Option.some 74, op := Go.Op.move (Go.Operand.tmp 4), type := 33, pos := "law.go:59", after := #[{ on := 2, ground := Go.Ground.guard }], guard := Option.some (2, Bool.false) }) (v := ?_) rfl (by kernel_rfl) (by kernel_rfl) (by kernel_rfl) (fun _ _ _ h => h) (Or.inl ⟨by rfl, ?_⟩) hHeld ?_; rotate_left; (intro w hSw; (try dsimp only at hSw); go_simp; (try with_reducible rfl)); skip)
            (try simp only [Act.put, List.setIfInBounds_toArray, List.set_cons_zero, List.set_cons_succ])
            first
              | (refine wpAnyH_take (i := 5) (oi := { dst := Option.some 75, op := Go.Op.move (Go.Operand.tmp 6), type := 3, pos := "law.go:59", after := #[{ on := 2, ground := Go.Ground.guard }], guard := Option.some (2, Bool.false) }) (v := undef) rfl (by kernel_rfl) (by kernel_rfl) (by kernel_rfl) (fun _ _ _ h => h) (Or.inr ⟨by rfl, rfl⟩) hHeld ?_)
              | (refine wpAnyH_take (i := 5) (oi := { dst := Option.some 75, op := Go.Op.move (Go.Operand.tmp 6), type := 3, pos := "law.go:59", after := #[{ on := 2, ground := Go.Ground.guard }], guard := Option.some (2, Bool.false) }) (v := ?_) rfl (by kernel_rfl) (by kernel_rfl) (by kernel_rfl) (fun _ _ _ h => h) (Or.inl ⟨by rfl, ?_⟩) hHeld ?_; rotate_left; (intro w hSw; (try dsimp only at hSw); go_simp; (try with_reducible rfl)); skip)
            (try simp only [Act.put, List.setIfInBounds_toArray, List.set_cons_zero, List.set_cons_succ])
            first
              | (refine wpAnyH_take (i := 6) (oi := { dst := Option.some 76, op := Go.Op.indexAddr 33 (Go.Operand.tmp 74) (Go.Operand.tmp 75), type := 0, pos := "law.go:59", after := #[{ on := 4, ground := Go.Ground.data }, { on := 5, ground := Go.Ground.data }, { on := 2, ground := Go.Ground.guard }], guard := Option.some (2, Bool.false) }) (v := undef) rfl (by kernel_rfl) (by kernel_rfl) (by kernel_rfl) (fun _ _ _ h => h) (Or.inr ⟨by rfl, rfl⟩) hHeld ?_)
              | (refine wpAnyH_take (i := 6) (oi := { dst := Option.some 76, op := Go.Op.indexAddr 33 (Go.Operand.tmp 74) (Go.Operand.tmp 75), type := 0, pos := "law.go:59", after := #[{ on := 4, ground := Go.Ground.data }, { on := 5, ground := Go.Ground.data }, { on := 2, ground := Go.Ground.guard }], guard := Option.some (2, Bool.false) }) (v := ?_) rfl (by kernel_rfl) (by kernel_rfl) (by kernel_rfl) (fun _ _ _ h => h) (Or.inl ⟨by rfl, ?_⟩) hHeld ?_; rotate_left; (intro w hSw; (try dsimp only at hSw); go_simp; (try with_reducible rfl)); skip)
            (try simp only [Act.put, List.setIfInBounds_toArray, List.set_cons_zero, List.set_cons_succ])
            first
              | (refine wpAnyH_take (i := 7) (oi := { dst := Option.some 77, op := Go.Op.load 39 (Go.Operand.tmp 76), type := 39, pos := "law.go:59", after := #[{ on := 6, ground := Go.Ground.data }, { on := 2, ground := Go.Ground.guard }], guard := Option.some (2, Bool.false) }) (v := undef) rfl (by kernel_rfl) (by kernel_rfl) (by kernel_rfl) (fun _ _ _ h => h) (Or.inr ⟨by rfl, rfl⟩) hHeld ?_)
              | (refine wpAnyH_take (i := 7) (oi := { dst := Option.some 77, op := Go.Op.load 39 (Go.Operand.tmp 76), type := 39, pos := "law.go:59", after := #[{ on := 6, ground := Go.Ground.data }, { on := 2, ground := Go.Ground.guard }], guard := Option.some (2, Bool.false) }) (v := ?_) rfl (by kernel_rfl) (by kernel_rfl) (by kernel_rfl) (fun _ _ _ h => h) (Or.inl ⟨by rfl, ?_⟩) hHeld ?_; rotate_left; (intro w hSw; (try dsimp only at hSw); go_simp; (try with_reducible rfl)); skip)
            (try simp only [Act.put, List.setIfInBounds_toArray, List.set_cons_zero, List.set_cons_succ])
            first
              | (refine wpAnyH_take (i := 8) (oi := { dst := Option.some 78, op := Go.Op.binOp Go.BinOp.neq 39 (Go.Operand.tmp 73) (Go.Operand.tmp 77) 39, type := 4, pos := "law.go:59", after := #[{ on := 3, ground := Go.Ground.data }, { on := 7, ground := Go.Ground.data }, { on := 2, ground := Go.Ground.guard }], guard := Option.some (2, Bool.false) }) (v := undef) rfl (by kernel_rfl) (by kernel_rfl) (by kernel_rfl) (fun _ _ _ h => h) (Or.inr ⟨by rfl, rfl⟩) hHeld ?_)
              | (refine wpAnyH_take (i := 8) (oi := { dst := Option.some 78, op := Go.Op.binOp Go.BinOp.neq 39 (Go.Operand.tmp 73) (Go.Operand.tmp 77) 39, type := 4, pos := "law.go:59", after := #[{ on := 3, ground := Go.Ground.data }, { on := 7, ground := Go.Ground.data }, { on := 2, ground := Go.Ground.guard }], guard := Option.some (2, Bool.false) }) (v := ?_) rfl (by kernel_rfl) (by kernel_rfl) (by kernel_rfl) (fun _ _ _ h => h) (Or.inl ⟨by rfl, ?_⟩) hHeld ?_; rotate_left; (intro w hSw; (try dsimp only at hSw); go_simp; (try with_reducible rfl)); skip)
            (try simp only [Act.put, List.setIfInBounds_toArray, List.set_cons_zero, List.set_cons_succ])
            (refine wpAnyH_take (i := 9) (oi := { dst := Option.some 79, op := Go.Op.pick (Go.Operand.tmp 72) (Go.Operand.const (Go.Value.bool Bool.true)) (Go.Operand.tmp 78), type := 4, pos := "law.go:59", after := #[{ on := 2, ground := Go.Ground.data }, { on := 8, ground := Go.Ground.data }], guard := Option.none }) (v := ?_) rfl (by kernel_rfl) (by kernel_rfl) (by kernel_rfl) (fun _ _ _ h => h) (Or.inl ⟨by rfl, ?_⟩) hHeld ?_; rotate_left; (intro w hSw; (try dsimp only at hSw); go_simp; (try with_reducible rfl)); skip)
            (try simp only [Act.put, List.setIfInBounds_toArray, List.set_cons_zero, List.set_cons_succ])
            (refine wpAnyH_take (i := 10) (oi := { dst := Option.some 80, op := Go.Op.move (Go.Operand.tmp 79), type := 4, pos := "law.go:59", after := #[{ on := 9, ground := Go.Ground.data }, { on := 2, ground := Go.Ground.chain }], guard := Option.none }) (v := ?_) rfl (by kernel_rfl) (by kernel_rfl) (by kernel_rfl) (fun _ _ _ h => h) (Or.inl ⟨by rfl, ?_⟩) hHeld ?_; rotate_left; (intro w hSw; (try dsimp only at hSw); go_simp; (try with_reducible rfl)); skip)
            (try simp only [Act.put, List.setIfInBounds_toArray, List.set_cons_zero, List.set_cons_succ])
            first
              | (refine wpAnyH_take (i := 11) (oi := { dst := Option.some 81, op := Go.Op.move (Go.Operand.tmp 10), type := 35, pos := "law.go:59", after := #[{ on := 10, ground := Go.Ground.guard }], guard := Option.some (10, Bool.false) }) (v := undef) rfl (by kernel_rfl) (by kernel_rfl) (by kernel_rfl) (fun _ _ _ h => h) (Or.inr ⟨by rfl, rfl⟩) hHeld ?_)
              | (refine wpAnyH_take (i := 11) (oi := { dst := Option.some 81, op := Go.Op.move (Go.Operand.tmp 10), type := 35, pos := "law.go:59", after := #[{ on := 10, ground := Go.Ground.guard }], guard := Option.some (10, Bool.false) }) (v := ?_) rfl (by kernel_rfl) (by kernel_rfl) (by kernel_rfl) (fun _ _ _ h => h) (Or.inl ⟨by rfl, ?_⟩) hHeld ?_; rotate_left; (intro w hSw; (try dsimp only at hSw); go_simp; (try with_reducible rfl)); skip)
            (try simp only [Act.put, List.setIfInBounds_toArray, List.set_cons_zero, List.set_cons_succ])
            first
              | (refine wpAnyH_take (i := 12) (oi := { dst := Option.some 82, op := Go.Op.binOp Go.BinOp.eql 35 (Go.Operand.tmp 81) (Go.Operand.const Go.Value.nilIface) 35, type := 4, pos := "law.go:59", after := #[{ on := 11, ground := Go.Ground.data }, { on := 10, ground := Go.Ground.guard }], guard := Option.some (10, Bool.false) }) (v := undef) rfl (by kernel_rfl) (by kernel_rfl) (by kernel_rfl) (fun _ _ _ h => h) (Or.inr ⟨by rfl, rfl⟩) hHeld ?_)
              | (refine wpAnyH_take (i := 12) (oi := { dst := Option.some 82, op := Go.Op.binOp Go.BinOp.eql 35 (Go.Operand.tmp 81) (Go.Operand.const Go.Value.nilIface) 35, type := 4, pos := "law.go:59", after := #[{ on := 11, ground := Go.Ground.data }, { on := 10, ground := Go.Ground.guard }], guard := Option.some (10, Bool.false) }) (v := ?_) rfl (by kernel_rfl) (by kernel_rfl) (by kernel_rfl) (fun _ _ _ h => h) (Or.inl ⟨by rfl, ?_⟩) hHeld ?_; rotate_left; (intro w hSw; (try dsimp only at hSw); go_simp; (try with_reducible rfl)); skip)
            (try simp only [Act.put, List.setIfInBounds_toArray, List.set_cons_zero, List.set_cons_succ])
            first
              | (refine wpAnyH_take (i := 13) (oi := { dst := Option.some 83, op := Go.Op.move (Go.Operand.tmp 82), type := 4, pos := "law.go:59", after := #[{ on := 12, ground := Go.Ground.data }, { on := 10, ground := Go.Ground.chain }, { on := 10, ground := Go.Ground.guard }], guard := Option.some (10, Bool.false) }) (v := undef) rfl (by kernel_rfl) (by kernel_rfl) (by kernel_rfl) (fun _ _ _ h => h) (Or.inr ⟨by rfl, rfl⟩) hHeld ?_)
              | (refine wpAnyH_take (i := 13) (oi := { dst := Option.some 83, op := Go.Op.move (Go.Operand.tmp 82), type := 4, pos := "law.go:59", after := #[{ on := 12, ground := Go.Ground.data }, { on := 10, ground := Go.Ground.chain }, { on := 10, ground := Go.Ground.guard }], guard := Option.some (10, Bool.false) }) (v := ?_) rfl (by kernel_rfl) (by kernel_rfl) (by kernel_rfl) (fun _ _ _ h => h) (Or.inl ⟨by rfl, ?_⟩) hHeld ?_; rotate_left; (intro w hSw; (try dsimp only at hSw); go_simp; (try with_reducible rfl)); skip)
            (try simp only [Act.put, List.setIfInBounds_toArray, List.set_cons_zero, List.set_cons_succ])
            first
              | (refine wpAnyH_take (i := 14) (oi := { dst := Option.some 84, op := Go.Op.load 39 (Go.Operand.tmp 9), type := 39, pos := "law.go:59", after := #[{ on := 13, ground := Go.Ground.guard }], guard := Option.some (13, Bool.true) }) (v := undef) rfl (by kernel_rfl) (by kernel_rfl) (by kernel_rfl) (fun _ _ _ h => h) (Or.inr ⟨by rfl, rfl⟩) hHeld ?_)
              | (refine wpAnyH_take (i := 14) (oi := { dst := Option.some 84, op := Go.Op.load 39 (Go.Operand.tmp 9), type := 39, pos := "law.go:59", after := #[{ on := 13, ground := Go.Ground.guard }], guard := Option.some (13, Bool.true) }) (v := ?_) rfl (by kernel_rfl) (by kernel_rfl) (by kernel_rfl) (fun _ _ _ h => h) (Or.inl ⟨by rfl, ?_⟩) hHeld ?_; rotate_left; (intro w hSw; (try dsimp only at hSw); go_simp; (try with_reducible rfl)); skip)
            (try simp only [Act.put, List.setIfInBounds_toArray, List.set_cons_zero, List.set_cons_succ])
            first
              | (refine wpAnyH_take (i := 15) (oi := { dst := Option.some 85, op := Go.Op.move (Go.Operand.tmp 4), type := 33, pos := "law.go:59", after := #[{ on := 13, ground := Go.Ground.guard }], guard := Option.some (13, Bool.true) }) (v := undef) rfl (by kernel_rfl) (by kernel_rfl) (by kernel_rfl) (fun _ _ _ h => h) (Or.inr ⟨by rfl, rfl⟩) hHeld ?_)
              | (refine wpAnyH_take (i := 15) (oi := { dst := Option.some 85, op := Go.Op.move (Go.Operand.tmp 4), type := 33, pos := "law.go:59", after := #[{ on := 13, ground := Go.Ground.guard }], guard := Option.some (13, Bool.true) }) (v := ?_) rfl (by kernel_rfl) (by kernel_rfl) (by kernel_rfl) (fun _ _ _ h => h) (Or.inl ⟨by rfl, ?_⟩) hHeld ?_; rotate_left; (intro w hSw; (try dsimp only at hSw); go_simp; (try with_reducible rfl)); skip)
            (try simp only [Act.put, List.setIfInBounds_toArray, List.set_cons_zero, List.set_cons_succ])
            first
              | (refine wpAnyH_take (i := 16) (oi := { dst := Option.some 86, op := Go.Op.move (Go.Operand.tmp 6), type := 3, pos := "law.go:59", after := #[{ on := 13, ground := Go.Ground.guard }], guard := Option.some (13, Bool.true) }) (v := undef) rfl (by kernel_rfl) (by kernel_rfl) (by kernel_rfl) (fun _ _ _ h => h) (Or.inr ⟨by rfl, rfl⟩) hHeld ?_)
              | (refine wpAnyH_take (i := 16) (oi := { dst := Option.some 86, op := Go.Op.move (Go.Operand.tmp 6), type := 3, pos := "law.go:59", after := #[{ on := 13, ground := Go.Ground.guard }], guard := Option.some (13, Bool.true) }) (v := ?_) rfl (by kernel_rfl) (by kernel_rfl) (by kernel_rfl) (fun _ _ _ h => h) (Or.inl ⟨by rfl, ?_⟩) hHeld ?_; rotate_left; (intro w hSw; (try dsimp only at hSw); go_simp; (try with_reducible rfl)); skip)
            (try simp only [Act.put, List.setIfInBounds_toArray, List.set_cons_zero, List.set_cons_succ])
            first
              | (refine wpAnyH_take (i := 17) (oi := { dst := Option.some 87, op := Go.Op.indexAddr 33 (Go.Operand.tmp 85) (Go.Operand.tmp 86), type := 0, pos := "law.go:59", after := #[{ on := 15, ground := Go.Ground.data }, { on := 16, ground := Go.Ground.data }, { on := 13, ground := Go.Ground.guard }], guard := Option.some (13, Bool.true) }) (v := undef) rfl (by kernel_rfl) (by kernel_rfl) (by kernel_rfl) (fun _ _ _ h => h) (Or.inr ⟨by rfl, rfl⟩) hHeld ?_)
              | (refine wpAnyH_take (i := 17) (oi := { dst := Option.some 87, op := Go.Op.indexAddr 33 (Go.Operand.tmp 85) (Go.Operand.tmp 86), type := 0, pos := "law.go:59", after := #[{ on := 15, ground := Go.Ground.data }, { on := 16, ground := Go.Ground.data }, { on := 13, ground := Go.Ground.guard }], guard := Option.some (13, Bool.true) }) (v := ?_) rfl (by kernel_rfl) (by kernel_rfl) (by kernel_rfl) (fun _ _ _ h => h) (Or.inl ⟨by rfl, ?_⟩) hHeld ?_; rotate_left; (intro w hSw; (try dsimp only at hSw); go_simp; (try with_reducible rfl)); skip)
            (try simp only [Act.put, List.setIfInBounds_toArray, List.set_cons_zero, List.set_cons_succ])
            first
              | (refine wpAnyH_take (i := 18) (oi := { dst := Option.some 88, op := Go.Op.load 39 (Go.Operand.tmp 87), type := 39, pos := "law.go:59", after := #[{ on := 17, ground := Go.Ground.data }, { on := 13, ground := Go.Ground.guard }], guard := Option.some (13, Bool.true) }) (v := undef) rfl (by kernel_rfl) (by kernel_rfl) (by kernel_rfl) (fun _ _ _ h => h) (Or.inr ⟨by rfl, rfl⟩) hHeld ?_)
              | (refine wpAnyH_take (i := 18) (oi := { dst := Option.some 88, op := Go.Op.load 39 (Go.Operand.tmp 87), type := 39, pos := "law.go:59", after := #[{ on := 17, ground := Go.Ground.data }, { on := 13, ground := Go.Ground.guard }], guard := Option.some (13, Bool.true) }) (v := ?_) rfl (by kernel_rfl) (by kernel_rfl) (by kernel_rfl) (fun _ _ _ h => h) (Or.inl ⟨by rfl, ?_⟩) hHeld ?_; rotate_left; (intro w hSw; (try dsimp only at hSw); go_simp; (try with_reducible rfl)); skip)
            (try simp only [Act.put, List.setIfInBounds_toArray, List.set_cons_zero, List.set_cons_succ])
            first
              | (refine wpAnyH_take (i := 19) (oi := { dst := Option.some 89, op := Go.Op.binOp Go.BinOp.neq 39 (Go.Operand.tmp 84) (Go.Operand.tmp 88) 39, type := 4, pos := "law.go:59", after := #[{ on := 14, ground := Go.Ground.data }, { on := 18, ground := Go.Ground.data }, { on := 13, ground := Go.Ground.guard }], guard := Option.some (13, Bool.true) }) (v := undef) rfl (by kernel_rfl) (by kernel_rfl) (by kernel_rfl) (fun _ _ _ h => h) (Or.inr ⟨by rfl, rfl⟩) hHeld ?_)
              | (refine wpAnyH_take (i := 19) (oi := { dst := Option.some 89, op := Go.Op.binOp Go.BinOp.neq 39 (Go.Operand.tmp 84) (Go.Operand.tmp 88) 39, type := 4, pos := "law.go:59", after := #[{ on := 14, ground := Go.Ground.data }, { on := 18, ground := Go.Ground.data }, { on := 13, ground := Go.Ground.guard }], guard := Option.some (13, Bool.true) }) (v := ?_) rfl (by kernel_rfl) (by kernel_rfl) (by kernel_rfl) (fun _ _ _ h => h) (Or.inl ⟨by rfl, ?_⟩) hHeld ?_; rotate_left; (intro w hSw; (try dsimp only at hSw); go_simp; (try with_reducible rfl)); skip)
            (try simp only [Act.put, List.setIfInBounds_toArray, List.set_cons_zero, List.set_cons_succ])
            first
              | (refine wpAnyH_take (i := 20) (oi := { dst := Option.some 90, op := Go.Op.pick (Go.Operand.tmp 83) (Go.Operand.tmp 89) (Go.Operand.const (Go.Value.bool Bool.false)), type := 4, pos := "law.go:59", after := #[{ on := 13, ground := Go.Ground.data }, { on := 19, ground := Go.Ground.data }, { on := 10, ground := Go.Ground.guard }], guard := Option.some (10, Bool.false) }) (v := undef) rfl (by kernel_rfl) (by kernel_rfl) (by kernel_rfl) (fun _ _ _ h => h) (Or.inr ⟨by rfl, rfl⟩) hHeld ?_)
              | (refine wpAnyH_take (i := 20) (oi := { dst := Option.some 90, op := Go.Op.pick (Go.Operand.tmp 83) (Go.Operand.tmp 89) (Go.Operand.const (Go.Value.bool Bool.false)), type := 4, pos := "law.go:59", after := #[{ on := 13, ground := Go.Ground.data }, { on := 19, ground := Go.Ground.data }, { on := 10, ground := Go.Ground.guard }], guard := Option.some (10, Bool.false) }) (v := ?_) rfl (by kernel_rfl) (by kernel_rfl) (by kernel_rfl) (fun _ _ _ h => h) (Or.inl ⟨by rfl, ?_⟩) hHeld ?_; rotate_left; (intro w hSw; (try dsimp only at hSw); go_simp; (try with_reducible rfl)); skip)
            (try simp only [Act.put, List.setIfInBounds_toArray, List.set_cons_zero, List.set_cons_succ])
            (refine wpAnyH_take (i := 21) (oi := { dst := Option.some 91, op := Go.Op.pick (Go.Operand.tmp 80) (Go.Operand.const (Go.Value.bool Bool.true)) (Go.Operand.tmp 90), type := 4, pos := "law.go:59", after := #[{ on := 10, ground := Go.Ground.data }, { on := 20, ground := Go.Ground.data }], guard := Option.none }) (v := ?_) rfl (by kernel_rfl) (by kernel_rfl) (by kernel_rfl) (fun _ _ _ h => h) (Or.inl ⟨by rfl, ?_⟩) hHeld ?_; rotate_left; (intro w hSw; (try dsimp only at hSw); go_simp; (try with_reducible rfl)); skip)
            (try simp only [Act.put, List.setIfInBounds_toArray, List.set_cons_zero, List.set_cons_succ])
            refine wpAnyH_done (by kernel_rfl) ?_ _
            clear hHeld
            go_wp2_with fail
            exact ⟨⟨j + 1, by go_num, by omega, HBfin⟩, by simp [intOf]; omega⟩))
    · have a0 : decide ((j : Int) < (n : Int)) = false := by simp; omega
      go_wp2_with fail
      go_ret
      exact ⟨rfl, HBw.out⟩
end Go.Proofs.YtgoogfbphilpmaaGreatDoor
