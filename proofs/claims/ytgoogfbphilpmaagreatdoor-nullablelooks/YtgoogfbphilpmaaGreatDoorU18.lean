/-
  muntinlaw07.NullableLooks answers true at any grammar and any tree. Conditions: those that each theorem names.
-/
import Derived.Test.YtgoogfbphilpmaaGreatDoorVU14ToNBase
namespace Go.Proofs.YtgoogfbphilpmaaGreatDoor
open Go.RowKit Go.Shelf Go.Maps
set_option linter.unusedVariables false
/-- A tree as the one part of another, in eight cells. -/
theorem one_is {W : World} {B : Nat} {t : RT} (kx : Int) (Tx : ByteArray) (ax bx cx dx : Int) (sox : Option Addr) (nx capx : Nat) (px : Int) (ht : RtIs W B t (r8 kx Tx ax bx cx dx sox nx capx px)) (hB : B ≤ W.heap.size) (k : Int) :
    RtIs (W.alloc (.cells #[.int .i64 kx, .string Tx, .int .u64 ax, .int .u64 bx, .int .u64 cx, .int .u64 dx, .slice sox nx capx, .int .i64 px] 30)) (W.alloc (.cells #[.int .i64 kx, .string Tx, .int .u64 ax, .int .u64 bx, .int .u64 cx, .int .u64 dx, .slice sox nx capx, .int .i64 px] 30)).heap.size (.mk k { data := #[] } 0 0 0 0 [t] 0) (r8 k { data := #[] } 0 0 0 0 (some ⟨W.heap.size, 0, none⟩) 1 1 0) := by
  have hb := (Below.refl _ W).alloc (Nat.le_refl _) (.cells #[.int .i64 kx, .string Tx, .int .u64 ax, .int .u64 bx, .int .u64 cx, .int .u64 dx, .slice sox nx capx, .int .i64 px] 30)
  have hn := new_block_at W (.cells #[.int .i64 kx, .string Tx, .int .u64 ax, .int .u64 bx, .int .u64 cx, .int .u64 dx, .slice sox nx capx, .int .i64 px] 30) rfl
  have hs : W.heap.size ≤ (W.alloc (.cells #[.int .i64 kx, .string Tx, .int .u64 ax, .int .u64 bx, .int .u64 cx, .int .u64 dx, .slice sox nx capx, .int .i64 px] 30)).heap.size := hb.size
  have e : #[.int .i64 kx, .string Tx, .int .u64 ax, .int .u64 bx, .int .u64 cx, .int .u64 dx, .slice sox nx capx, .int .i64 px] = (r8 kx Tx ax bx cx dx sox nx capx px).toArray := rfl
  rw [RtIs]
  refine ⟨_, 1, rfl, .inr ⟨rfl, W.heap.size, 0, rfl, by simp, by rw [rtLen_eq]; unfold maxLen; simp, ?_⟩⟩
  rw [RtsIs, RtsIs]
  refine ⟨⟨_, RtIs.upto (Nat.le_trans hB hs) _ _ (ht.below (hb.mono hB)), fun j v hj => ?_⟩, trivial⟩
  refine (cell_in hn (0 + j) v ?_).1
  rw [e, List.getElem?_toArray, Nat.zero_add]
  exact hj
theorem one_z {t : RT} (k : Int) (hz : RtZ t) : RtZ (.mk k { data := #[] } 0 0 0 0 [t] 0) := by rw [RtZ, RtsZ, RtsZ]; exact ⟨by decide, hz, trivial⟩
theorem one_u {t : RT} (k : Int) (hu : RtU t) : RtU (.mk k { data := #[] } 0 0 0 0 [t] 0) := by rw [RtU, RtsU, RtsU]; exact ⟨by decide, by decide, by decide, by decide, hu, trivial⟩
/-- The arguments as the law's variables hold them. -/
structure Rw1 (w : World) (G N : Array Value) (W : World) : Prop where
  be : Below w.heap.size w W
  g : W.heap[w.heap.size]? = some (.cells G 24)
  n : W.heap[w.heap.size + 1]? = some (.cells N 30)
theorem Rw1.below {w W W' : World} {G N : Array Value} (h : Rw1 w G N W) (hb : Below W.heap.size W W') : Rw1 w G N W' :=
  ⟨h.be.trans (hb.mono h.be.size), (hb.block _ (node_lt h.g)).trans h.g, (hb.block _ (node_lt h.n)).trans h.n⟩
theorem looks_O (p1 p2 p3 : Bool) : oneO 11 (p1, p2, p3) = (p1 || p2, false, p3) ∧ oneO 12 (p1, p2, p3) = (p3, false, p1 || p2) := ⟨rfl, rfl⟩
set_option maxRecDepth 100000 in
set_option maxHeartbeats 16000000 in
theorem nlooks_any (so : Option Addr) (n cap : Nat) (rs : List Rr) (kx : Int) (Tx : ByteArray) (ax bx cx dx : Int) (sox : Option Addr) (nx capx : Nat) (px : Int) (t : RT) (w : World) (hE : ErrIs w) (hT : TabIs w) (hz : RgZ rs) (hu : RgU rs) (h : RgIs w w.heap.size so n rs) (ht : RtIs w w.heap.size t (r8 kx Tx ax bx cx dx sox nx capx px)) (htz : RtZ t) (htu : RtU t) :
    Calls Tryz.prog 7 #[.agg #[.slice so n cap], .agg #[.int .i64 kx, .string Tx, .int .u64 ax, .int .u64 bx, .int .u64 cx, .int .u64 dx, .slice sox nx capx, .int .i64 px]] w fun e w' => e = .returned (.bool true) ∧ Below w.heap.size w w' := by
  obtain ⟨X, hX, hC⟩ := checked_all so n cap rs w.heap.size w hz hu h (Nat.le_refl _) hT
  have hq := eq_same
  obtain ⟨u1, hu1⟩ : ∃ u1, u1 = (w.alloc (.cells #[.slice so n cap] 24)).alloc (.cells #[.int .i64 kx, .string Tx, .int .u64 ax, .int .u64 bx, .int .u64 cx, .int .u64 dx, .slice sox nx capx, .int .i64 px] 30) := ⟨_, rfl⟩
  have hR1 : Rw1 w #[.slice so n cap] #[.int .i64 kx, .string Tx, .int .u64 ax, .int .u64 bx, .int .u64 cx, .int .u64 dx, .slice sox nx capx, .int .i64 px] u1 := by
    rw [hu1]
    refine ⟨((Below.refl _ w).alloc (Nat.le_refl _) _).alloc (by simp) _, ?_, ?_⟩
    · exact (Below.heap_alloc _ _ _ (by simp)).trans (new_block_at w _ rfl)
    · exact new_block_at _ _ (by simp)
  have HS := hid (usmall_ok u1 (hE.below hR1.be hE.lt) (hT.below hR1.be hT.lt))
  have HXx := hid (fun (k : Int) (T : ByteArray) (a b c d p : Int) (so1 : Option Addr) (n1 cap1 : Nat) (t : RT) (W : World) (hb : Below w.heap.size w W) (ht : RtIs W W.heap.size t (r8 k T a b c d so1 n1 cap1 p)) (htz : RtZ t) (htu : RtU t) => (uexpr_any so n cap rs X k T a b c d p so1 n1 cap1 t w.heap.size W hX (CkC.from hC hb) (hT.below hb hT.lt) hz (h.below hb) hb.size ht htz htu).elim fun V hV => (hV.2 W (Below.refl _ _)).mono fun e w' he => he.short)
  have HT := hid ht
  have HZt := hid htz
  have HUt := hid htu
  have HR1 := hid hR1
  have HU1 := hid hu1
  clear hR1 hu1 hE hT hz hu h ht htz htu hC hX
  go_enter Tryz.func7, Tryz.ntmps7
  go_wp2_with fail
  rw [← HU1.out]
  clear HU1
  refine HS.out.mono ?_
  rintro e w1 ⟨rfl, HB1⟩
  have HRa := hid (HR1.out.below HB1.out)
  obtain ⟨g1, _⟩ := one_cell HRa.out.g
  obtain ⟨⟨x0, x1, x2, x3, x4, x5, x6, x7⟩, _⟩ := eight_cells HRa.out.n
  have lg1 := node_lt HRa.out.g
  have ln1 := node_lt HRa.out.n
  have HS1 := hid (HXx.out _ _ _ _ _ _ _ _ _ _ t w1 HRa.out.be (RtIs.upto HRa.out.be.size _ _ (HT.out.below HRa.out.be)) HZt.out HUt.out)
  dsimp only [r8] at HS1
  clear HS HB1 HR1
  go_wp2_with fail
  refine HS1.out.mono ?_
  rintro e w2 ⟨p1, p2, p3, v1, rfl, HB2, hv1⟩
  clear g1 x0 x1 x2 x3 x4 x5 x6 x7 lg1 ln1 HS1
  have hbA := (Below.refl _ w2).alloc (Nat.le_refl _) (.cells #[.bool p1, .bool p2, .bool p3] 39)
  have HRb := hid ((HRa.out.below HB2.out).below hbA)
  have HPa := hid (new_block_at w2 (.cells #[.bool p1, .bool p2, .bool p3] 39) rfl)
  obtain ⟨g1, _⟩ := one_cell HRb.out.g
  obtain ⟨⟨x0, x1, x2, x3, x4, x5, x6, x7⟩, _⟩ := eight_cells HRb.out.n
  have lg1 := node_lt HRb.out.g
  have ln1 := node_lt HRb.out.n
  rw [World.size_alloc] at lg1 ln1
  have lg2 : w.heap.size < w2.heap.size + 1 + 1 := by omega
  have lg3 : w.heap.size < w2.heap.size + 1 + 1 + 1 := by omega
  have lg4 : w.heap.size < w2.heap.size + 1 + 1 + 1 + 1 := by omega
  have lg5 : w.heap.size < w2.heap.size + 1 + 1 + 1 + 1 + 1 := by omega
  clear HB2 HRa hbA
  go_wp2_with fail
  obtain ⟨W4, hW4⟩ : ∃ W4, W4 = (((((w2.alloc (.cells #[.bool p1, .bool p2, .bool p3] 39)).alloc (.cells #[.int .i64 kx, .string Tx, .int .u64 ax, .int .u64 bx, .int .u64 cx, .int .u64 dx, .slice sox nx capx, .int .i64 px] 30)).alloc (.cells #[.int .i64 11, .string { data := #[] }, .int .u64 0, .int .u64 0, .int .u64 0, .int .u64 0, .slice (some ⟨w2.heap.size + 1, 0, none⟩) 1 1, .int .i64 0] 30)).alloc (.cells #[.int .i64 kx, .string Tx, .int .u64 ax, .int .u64 bx, .int .u64 cx, .int .u64 dx, .slice sox nx capx, .int .i64 px] 30)).alloc (.cells #[.int .i64 12, .string { data := #[] }, .int .u64 0, .int .u64 0, .int .u64 0, .int .u64 0, .slice (some ⟨w2.heap.size + 1 + 1 + 1, 0, none⟩) 1 1, .int .i64 0] 30)) := ⟨_, rfl⟩
  rw [← hW4]
  have hbW : Below (w2.alloc (.cells #[.bool p1, .bool p2, .bool p3] 39)).heap.size (w2.alloc (.cells #[.bool p1, .bool p2, .bool p3] 39)) W4 := by rw [hW4]; exact ((((Below.refl _ _).alloc (Nat.le_refl _) _).alloc (by simp) _).alloc (by simp <;> omega) _).alloc (by simp <;> omega) _
  have HRc := hid (HRb.out.below hbW)
  have HPa4 := blk_keep HPa hbW
  have HAnd : Hid (W4.heap[w2.heap.size + 1 + 1]? = some (.cells #[.int .i64 11, .string { data := #[] }, .int .u64 0, .int .u64 0, .int .u64 0, .int .u64 0, .slice (some ⟨w2.heap.size + 1, 0, none⟩) 1 1, .int .i64 0] 30)) := by
    rw [hW4]
    exact (Below.heap_alloc _ _ _ (by simp <;> omega)).trans ((Below.heap_alloc _ _ _ (by simp)).trans (new_block_at _ _ (by simp)))
  have HNot : Hid (W4.heap[w2.heap.size + 1 + 1 + 1 + 1]? = some (.cells #[.int .i64 12, .string { data := #[] }, .int .u64 0, .int .u64 0, .int .u64 0, .int .u64 0, .slice (some ⟨w2.heap.size + 1 + 1 + 1, 0, none⟩) 1 1, .int .i64 0] 30)) := by
    rw [hW4]
    exact new_block_at _ _ (by simp)
  have HTa : Hid (RtIs W4 W4.heap.size (.mk 11 { data := #[] } 0 0 0 0 [t] 0) (r8 11 { data := #[] } 0 0 0 0 (some ⟨w2.heap.size + 1, 0, none⟩) 1 1 0)) := by
    have h1 := one_is kx Tx ax bx cx dx sox nx capx px (HT.out.below HRb.out.be) HRb.out.be.size 11
    rw [World.size_alloc w2] at h1
    have h2 : Below ((w2.alloc (.cells #[.bool p1, .bool p2, .bool p3] 39)).alloc (.cells #[.int .i64 kx, .string Tx, .int .u64 ax, .int .u64 bx, .int .u64 cx, .int .u64 dx, .slice sox nx capx, .int .i64 px] 30)).heap.size ((w2.alloc (.cells #[.bool p1, .bool p2, .bool p3] 39)).alloc (.cells #[.int .i64 kx, .string Tx, .int .u64 ax, .int .u64 bx, .int .u64 cx, .int .u64 dx, .slice sox nx capx, .int .i64 px] 30)) W4 := by rw [hW4]; exact (((Below.refl _ _).alloc (Nat.le_refl _) _).alloc (by simp) _).alloc (by simp <;> omega) _
    exact RtIs.upto h2.size _ _ (h1.below h2)
  have HTn : Hid (RtIs W4 W4.heap.size (.mk 12 { data := #[] } 0 0 0 0 [t] 0) (r8 12 { data := #[] } 0 0 0 0 (some ⟨w2.heap.size + 1 + 1 + 1, 0, none⟩) 1 1 0)) := by
    have hb3 : Below w.heap.size w (((w2.alloc (.cells #[.bool p1, .bool p2, .bool p3] 39)).alloc (.cells #[.int .i64 kx, .string Tx, .int .u64 ax, .int .u64 bx, .int .u64 cx, .int .u64 dx, .slice sox nx capx, .int .i64 px] 30)).alloc (.cells #[.int .i64 11, .string { data := #[] }, .int .u64 0, .int .u64 0, .int .u64 0, .int .u64 0, .slice (some ⟨w2.heap.size + 1, 0, none⟩) 1 1, .int .i64 0] 30)) := (HRb.out.be.alloc HRb.out.be.size _).alloc (by have := HRb.out.be.size; simp only [World.size_alloc] at this ⊢; omega) _
    have h1 := one_is kx Tx ax bx cx dx sox nx capx px (HT.out.below hb3) hb3.size 12
    rw [World.size_alloc ((w2.alloc (.cells #[.bool p1, .bool p2, .bool p3] 39)).alloc (.cells #[.int .i64 kx, .string Tx, .int .u64 ax, .int .u64 bx, .int .u64 cx, .int .u64 dx, .slice sox nx capx, .int .i64 px] 30)), World.size_alloc (w2.alloc (.cells #[.bool p1, .bool p2, .bool p3] 39)), World.size_alloc w2] at h1
    have h2 : Below ((((w2.alloc (.cells #[.bool p1, .bool p2, .bool p3] 39)).alloc (.cells #[.int .i64 kx, .string Tx, .int .u64 ax, .int .u64 bx, .int .u64 cx, .int .u64 dx, .slice sox nx capx, .int .i64 px] 30)).alloc (.cells #[.int .i64 11, .string { data := #[] }, .int .u64 0, .int .u64 0, .int .u64 0, .int .u64 0, .slice (some ⟨w2.heap.size + 1, 0, none⟩) 1 1, .int .i64 0] 30)).alloc (.cells #[.int .i64 kx, .string Tx, .int .u64 ax, .int .u64 bx, .int .u64 cx, .int .u64 dx, .slice sox nx capx, .int .i64 px] 30)).heap.size ((((w2.alloc (.cells #[.bool p1, .bool p2, .bool p3] 39)).alloc (.cells #[.int .i64 kx, .string Tx, .int .u64 ax, .int .u64 bx, .int .u64 cx, .int .u64 dx, .slice sox nx capx, .int .i64 px] 30)).alloc (.cells #[.int .i64 11, .string { data := #[] }, .int .u64 0, .int .u64 0, .int .u64 0, .int .u64 0, .slice (some ⟨w2.heap.size + 1, 0, none⟩) 1 1, .int .i64 0] 30)).alloc (.cells #[.int .i64 kx, .string Tx, .int .u64 ax, .int .u64 bx, .int .u64 cx, .int .u64 dx, .slice sox nx capx, .int .i64 px] 30)) W4 := by rw [hW4]; exact (Below.refl _ _).alloc (Nat.le_refl _) _
    exact RtIs.upto h2.size _ _ (h1.below h2)
  have HS5 := hid (HXx.out _ _ _ _ _ _ _ _ _ _ _ W4 HRc.out.be HTa.out (one_z _ HZt.out) (one_u _ HUt.out))
  dsimp only [r8] at HS5
  clear hW4 hbW HRb HPa g1 x0 x1 x2 x3 x4 x5 x6 x7 lg1 ln1 lg2 lg3 lg4 lg5 HAnd HTa
  refine HS5.out.mono ?_
  rintro e w5 ⟨q1, q2, q3, v2, rfl, HB5, hv2⟩
  have hb5 := (Below.refl _ w5).alloc (Nat.le_refl _) (.cells #[.bool q1, .bool q2, .bool q3] 39)
  have HRd := hid ((HRc.out.below HB5.out).below hb5)
  have HPa5 := blk_keep (blk_keep HPa4 HB5.out) hb5
  have HPb5 := hid (new_block_at w5 (.cells #[.bool q1, .bool q2, .bool q3] 39) rfl)
  have HNot5 := blk_keep (blk_keep HNot HB5.out) hb5
  have hB5 : Below W4.heap.size W4 (w5.alloc (.cells #[.bool q1, .bool q2, .bool q3] 39)) := HB5.out.alloc HB5.out.size _
  have HTn5 := hid (RtIs.upto hB5.size _ _ (HTn.out.below hB5))
  obtain ⟨g1, _⟩ := one_cell HRd.out.g
  obtain ⟨⟨x0, x1, x2, x3, x4, x5, x6, x7⟩, _⟩ := eight_cells HNot5.out
  have lg1 := node_lt HRd.out.g
  have ln1 := node_lt HNot5.out
  rw [World.size_alloc] at lg1 ln1
  have HS6 := hid (HXx.out _ _ _ _ _ _ _ _ _ _ _ _ HRd.out.be HTn5.out (one_z _ HZt.out) (one_u _ HUt.out))
  dsimp only [r8] at HS6
  clear HS5 HB5 hb5 hB5 HRc HPa4 HNot HTn
  go_wp2_with fail
  refine HS6.out.mono ?_
  rintro e w6 ⟨s1, s2, s3, v3, rfl, HB6, hv3⟩
  clear g1 x0 x1 x2 x3 x4 x5 x6 x7 lg1 ln1
  have hb6 := (Below.refl _ w6).alloc (Nat.le_refl _) (.cells #[.bool s1, .bool s2, .bool s3] 39)
  have HRe := hid ((HRd.out.below HB6.out).below hb6)
  have HPa6 := blk_keep (blk_keep HPa5 HB6.out) hb6
  have HPb6 := blk_keep (blk_keep HPb5 HB6.out) hb6
  have HPc6 := hid (new_block_at w6 (.cells #[.bool s1, .bool s2, .bool s3] 39) rfl)
  have HNot6 := blk_keep (blk_keep HNot5 HB6.out) hb6
  have hB6 : Below (w5.alloc (.cells #[.bool q1, .bool q2, .bool q3] 39)).heap.size (w5.alloc (.cells #[.bool q1, .bool q2, .bool q3] 39)) (w6.alloc (.cells #[.bool s1, .bool s2, .bool s3] 39)) := HB6.out.alloc HB6.out.size _
  have HTn6 := hid (RtIs.upto hB6.size _ _ (HTn5.out.below hB6))
  obtain ⟨g1, _⟩ := one_cell HRe.out.g
  obtain ⟨⟨x0, x1, x2, x3, x4, x5, x6, x7⟩, _⟩ := eight_cells HNot6.out
  have lg1 := node_lt HRe.out.g
  have ln1 := node_lt HNot6.out
  rw [World.size_alloc] at lg1 ln1
  have lg2 : w.heap.size < w6.heap.size + 1 + 1 := by omega
  have hbp := (Below.refl _ (w6.alloc (.cells #[.bool s1, .bool s2, .bool s3] 39))).alloc (Nat.le_refl _) (.cells #[.int .i64 12, .string { data := #[] }, .int .u64 0, .int .u64 0, .int .u64 0, .int .u64 0, .slice (some ⟨w2.heap.size + 1 + 1 + 1, 0, none⟩) 1 1, .int .i64 0] 30)
  have HRe' := hid (HRe.out.below hbp)
  have HPa6' := blk_keep HPa6 hbp
  have HPb6' := blk_keep HPb6 hbp
  have HPc6' := blk_keep HPc6 hbp
  have h7 := one_is _ _ _ _ _ _ _ _ _ _ HTn6.out (Nat.le_refl _) 12
  rw [World.size_alloc w6] at h7
  have HS7 := hid (HXx.out _ _ _ _ _ _ _ _ _ _ _ _ HRe'.out.be h7 (one_z _ (one_z _ HZt.out)) (one_u _ (one_u _ HUt.out)))
  dsimp only [r8] at HS7
  clear HS6 HB6 hb6 hB6 HRd HPa5 HPb5 HNot5 HTn5 hbp h7 HTn6 HXx HPa6 HPb6 HPc6 HRe HNot6
  go_wp2_with fail
  refine HS7.out.mono ?_
  rintro e w7 ⟨r1, r2, r3, v4, rfl, HB7, hv4⟩
  clear g1 x0 x1 x2 x3 x4 x5 x6 x7 lg1 ln1 lg2 HS7
  have hb7 := (Below.refl _ w7).alloc (Nat.le_refl _) (.cells #[.bool r1, .bool r2, .bool r3] 39)
  have HRf := hid ((HRe'.out.below HB7.out).below hb7)
  have HPa7 := blk_keep (blk_keep HPa6' HB7.out) hb7
  have HPb7 := blk_keep (blk_keep HPb6' HB7.out) hb7
  have HPc7 := blk_keep (blk_keep HPc6' HB7.out) hb7
  have HPd7 := hid (new_block_at w7 (.cells #[.bool r1, .bool r2, .bool r3] 39) rfl)
  clear HB7 hb7 HRe' HPa6' HPb6' HPc6'
  rcases hv1 with ⟨tt, uu, rfl⟩ | ⟨rfl, H1⟩
  · go_wp2_with fail
    go_ret
    exact ⟨rfl, HRf.out.be⟩
  rcases hv2 with ⟨tt, uu, rfl⟩ | ⟨rfl, H2⟩
  · go_wp2_with fail
    go_ret
    exact ⟨rfl, HRf.out.be⟩
  rcases hv3 with ⟨tt, uu, rfl⟩ | ⟨rfl, H3⟩
  · go_wp2_with fail
    go_ret
    exact ⟨rfl, HRf.out.be⟩
  rcases hv4 with ⟨tt, uu, rfl⟩ | ⟨rfl, H4⟩
  · go_wp2_with fail
    go_ret
    exact ⟨rfl, HRf.out.be⟩
  obtain ⟨m1, f1, e1⟩ := H1.out
  obtain ⟨m2, f2, e2⟩ := H2.out
  obtain ⟨m3, f3, e3⟩ := H3.out
  obtain ⟨m4, f4, e4⟩ := H4.out
  rw [itr_one f2 f1, ofT] at e2
  rw [itr_one f3 f1, ofT] at e3
  rw [itr_one f4 f1, ofT] at e4
  simp only [Int.reduceEq, if_false, ofH, ← e1] at e2 e3
  simp only [Int.reduceEq, if_false, ofH] at e4
  rw [ofT] at e4
  simp only [Int.reduceEq, if_false, ofH, ← e1] at e4
  rw [(looks_O p1 p2 p3).1] at e2
  rw [(looks_O p1 p2 p3).2] at e3 e4
  rw [(looks_O _ _ _).2] at e4
  clear f1 f2 f3 f4 e1 H1 H2 H3 H4
  obtain ⟨⟨a0, a1, a2⟩, _⟩ := three_cells HPa7.out
  obtain ⟨⟨b0, b1, b2⟩, _⟩ := three_cells HPb7.out
  obtain ⟨⟨c0, c1, c2⟩, _⟩ := three_cells HPc7.out
  obtain ⟨⟨d0, d1, d2⟩, _⟩ := three_cells HPd7.out
  have la := node_lt HPa7.out
  have lb := node_lt HPb7.out
  have lc := node_lt HPc7.out
  have ld := node_lt HPd7.out
  rw [World.size_alloc] at la lb lc ld
  clear HPa7 HPb7 HPc7 HPd7
  cases p1 <;> cases p2 <;> cases p3 <;> (
    simp at e2 e3 e4
    obtain ⟨rfl, rfl, rfl⟩ := e2
    obtain ⟨rfl, rfl, rfl⟩ := e3
    obtain ⟨rfl, rfl, rfl⟩ := e4
    go_wp2_with fail
    all_goals (
      go_ret
      exact ⟨rfl, HRf.out.be⟩))
end Go.Proofs.YtgoogfbphilpmaaGreatDoor
