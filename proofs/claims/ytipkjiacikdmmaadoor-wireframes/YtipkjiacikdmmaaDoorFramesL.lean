/-
  For any bytes p and more: muntinlaw01.WireFrames answers true. Conditions: those that each theorem names.
-/
import Derived.Test.YtipkjiacikdmmaaDoorFramesW
namespace Go.Proofs.YtipkjiacikdmmaaDoor
open Go.RowKit
set_option linter.unusedVariables false
theorem three_cells (W : World) (x y z : Value) (t : TypeId) (k : Nat) (v : Value) (h : [x, y, z][k]? = some v) : (W.alloc (.cells #[x, y, z] t)).cell? ⟨W.heap.size, k, none⟩ = some v := by
  match k, h with
  | 0, h => simp at h; subst h; simp
  | 1, h => simp at h; subst h; simp
  | 2, h => simp at h; subst h; simp
set_option maxRecDepth 100000 in
set_option maxHeartbeats 8000000 in
theorem frames_walk (a0 : Option Addr) (n0 c0 : Nat) (p : List UInt8) (a1 : Option Addr) (n1 c1 : Nat) (b : List UInt8) (w : World) (h0 : Has w a0 n0 c0 p) (h1 : Has w a1 n1 c1 b) (hE : ErrIs w) (hT : TabIs w) :
    Calls Tryd.prog 6 #[.slice a0 n0 c0, .slice a1 n1 c1] w fun e w' => e = .returned (.bool true) ∧ Below w.heap.size w w' := by
  obtain rfl := h0.1
  obtain rfl := h1.1
  by_cases hb1 : 1048576 < b.length
  · have d1 : decide ((1048576 : Int) < (b.length : Int)) = true := by simp; omega
    clear h0 h1 hE hT
    generalize b.length = n1 at *
    generalize p.length = n0 at *
    go_enter Tryd.func6, Tryd.ntmps6
    go_wp2_with fail
    go_ret
    exact ⟨rfl, Below.refl _ _⟩
  by_cases hb0 : 2097152 < p.length
  · have d1 : decide ((1048576 : Int) < (b.length : Int)) = false := by simp; omega
    have d2 : decide ((2097152 : Int) < (p.length : Int)) = true := by simp; omega
    clear h0 h1 hE hT
    generalize b.length = n1 at *
    generalize p.length = n0 at *
    go_enter Tryd.func6, Tryd.ntmps6
    go_wp2_with fail
    go_ret
    exact ⟨rfl, Below.refl _ _⟩
  have d1 : decide ((1048576 : Int) < (b.length : Int)) = false := by simp; omega
  have d2 : decide ((2097152 : Int) < (p.length : Int)) = false := by simp; omega
  have H0 : Hid (Has w a0 p.length c0 p) := h0
  have H1 : Hid (Has w a1 b.length c1 b) := h1
  have HE : Hid (ErrIs w) := hE
  have HT : Hid (TabIs w) := hT
  have hp0 : (p.length : Int) ≤ 2097152 := by omega
  have hp1 : (b.length : Int) ≤ 1048576 := by omega
  have hq0 : p.length ≤ 2097152 := by omega
  have hq1 : b.length ≤ 1048576 := by omega
  clear h0 h1 hE hT hb0 hb1
  obtain ⟨cF, hcF⟩ : ∃ cF, cF = frC p := ⟨_, rfl⟩
  have HcF : Hid (frC p = cF) := hcF.symm
  clear hcF
  have HF1 : Hid (∀ (a : Option Addr) (len cap : Nat) (w : World), Has w a len cap p → TabIs w → Calls Tryd.prog 22 #[.slice a len cap] w fun e w' => ∃ r, e = .returned (.tuple #[rv r, errV cF]) ∧ Hid (Got w.heap.size w' r (frL p)) ∧ Hid (cF = 0 → r.2.1 = p.length + 8) ∧ Hid (Below w.heap.size w w')) := fun a len cap w h hT => by
    have h9 := frame_uni a len cap p w h hT
    rw [HcF.out] at h9
    exact h9
  have HF2 : Hid (∀ (a : Option Addr) (len cap : Nat) (w : World), Has w a len cap p → Calls Tryd.prog 23 #[.slice a len cap] w fun e w' => ∃ (b : Option Addr) (n c : Nat), e = .returned (.tuple #[.slice b n c, .int .i64 (cF : Int)]) ∧ Hid (Has w' b n c (frL p)) ∧ Hid (Below w.heap.size w w')) := fun a len cap w h => by
    have h9 := rframe_uni a len cap p w h
    rw [HcF.out] at h9
    exact h9
  have HFl : Hid ((frL p).length ≤ 2097160) := by
    show (frL p).length ≤ _
    unfold frL
    split
    · simp
    · unfold frameB; simp [dig_length]; omega
  go_enter Tryd.func6, Tryd.ntmps6
  go_wp2_with fail
  refine (lent_any _ _ _ p _ H0.out (by omega)).mono ?_
  rintro e w1 ⟨rfl, hl1, hB1⟩
  have HL1 : Hid (LentIs w1 w.heap.size p) := hl1
  have HB1 : Hid (Below w.heap.size w w1) := hB1
  clear hl1 hB1
  go_wp2_with fail
  refine (HF1.out _ _ _ _ (HL1.out.has (by unfold maxLen; omega)) (HT.out.below HB1.out HT.out.lt)).mono ?_
  rintro e w2 ⟨⟨oa, na, ca⟩, rfl, HGa, HLa, hB2⟩
  dsimp only [rv]
  have HL2 : Hid (LentIs w2 w.heap.size p) := HL1.out.below hB2.out HL1.out.lt
  have HB2 : Hid (Below w.heap.size w w2) := HB1.out.trans (hB2.out.mono HB1.out.size)
  have HSa : Hid (w.heap.size ≤ w1.heap.size) := HB1.out.size
  clear hB2 HL1
  go_wp2_with fail
  refine (HF2.out _ _ _ _ (H0.out.below HB2.out)).mono ?_
  rintro e w3 ⟨x3, n3, c3, rfl, HW3, hB3⟩
  have HL3 : Hid (LentIs w3 w.heap.size p) := HL2.out.below hB3.out HL2.out.lt
  have HB3 : Hid (Below w.heap.size w w3) := HB2.out.trans (hB3.out.mono HB2.out.size)
  have HGa3 : Hid (Got w1.heap.size w3 (oa, na, ca) (frL p)) := HGa.out.below hB3.out
  have HRa : Hid (∀ g, oa = some g → g < w3.heap.size) := fun g e => (HGa3.out.ob g e).1.lt
  have cva := HGa3.out.conv
  have cvw := HW3.out.conv
  dsimp only [rv] at cva
  clear hB3 HL2 HGa
  go_wp2_with fail
  refine (kept_any _ a0 c0 p _ HL3.out (H0.out.below HB3.out) (by omega)).mono ?_
  rintro e w4 ⟨rfl, hw⟩
  subst hw
  go_upto_region 7 with fail
  go_cut [71] (fun v wx => v = .bool false ∧ Below w4.heap.size w4 wx)
  case first =>
    have HCo := code_errV cF w4 (HE.out.below HB3.out HE.out.lt)
    by_cases hz : cF = 0
    · have hna : na = p.length + 8 := HLa.out hz
      have z1 : ((cF : Int) == 0) = true := by rw [hz]; rfl
      have z2 : ((na : Int) != (p.length : Int) + 8) = false := by rw [hna]; simp
      have HCo2 : Hid (Calls _ _ _ _ _) := HCo
      clear HCo hz hna
      go_wp2_with fail
      refine HCo2.out.mono ?_
      rintro e w5 ⟨rfl, hb5⟩
      go_wp2_with fail
      go_meet
      case rel => exact ⟨rfl, hb5⟩
    · have z1 : ((cF : Int) == 0) = false := by rw [beq_eq_false_iff_ne]; omega
      have HCo2 : Hid (Calls _ _ _ _ _) := HCo
      clear HCo hz
      go_wp2_with fail
      refine HCo2.out.mono ?_
      rintro e w5 ⟨rfl, hb5⟩
      go_wp2_with fail
      go_meet
      case rel => exact ⟨rfl, hb5⟩
  case rest =>
    obtain ⟨rfl, hb5⟩ := hcut
    have HB5 : Hid (Below w.heap.size w wc) := HB3.out.trans (hb5.mono HB3.out.size)
    have HGa5 : Hid (Got w1.heap.size wc (oa, na, ca) (frL p)) := HGa3.out.below hb5
    have HW5 : Hid (Has wc x3 n3 c3 (frL p)) := HW3.out.below hb5
    have hn3 : n3 ≤ 2097160 := by have := HW5.out.1; have := HFl.out; omega
    have HRa5 : Hid (∀ g, oa = some g → g < wc.heap.size) := fun g e => Nat.lt_of_lt_of_le (HRa.out g e) hb5.size
    clear hb5 HGa3 HW3 cva cvw HL3 HRa HB3
    go_wp2_with (first
      | (at_builtin; refine wpList_app rfl (.tmp 74) (.tmp 75) rfl wc.heap.size wc.heap.size 0 0 [] rfl (owns_empty _ _ (Nat.le_refl _)) _ _ _ (frL p) rfl (HW5.out.below ((Below.refl _ _).alloc (Nat.le_refl _) _)) (by omega) (by simp) ?_; intro g6 c6 w6 hg6 hown6 hgr6; have HB6 : Hid (Below wc.heap.size wc w6) := ((Below.refl _ _).alloc (Nat.le_refl _) _).grown hgr6 (by simp) (fun k e => by cases e; exact Nat.le_refl _); clear hgr6; simp only [Nat.zero_add, List.nil_append] at hown6)
      | (at_builtin; refine wpList_app rfl (.tmp 76) (.tmp 77) rfl wc.heap.size _ _ _ _ rfl hown6 _ _ _ b rfl (H1.out.below (HB5.out.trans (HB6.out.mono HB5.out.size))) (by omega) HB6.out.size ?_; intro g7 c7 w7 hg7 hown7 hgr7; have HB7 : Hid (Below wc.heap.size wc w7) := HB6.out.grown hgr7 HB6.out.size (fun k e => by cases e; exact hg6); clear hgr7 hown6; rw [← List.map_append] at hown7))
    have HH7 : Hid (Has w7 (some ⟨g7, 0, none⟩) (n3 + b.length) c7 (frL p ++ b)) := Has.of_row hown7
    have HB7w : Hid (Below w.heap.size w w7) := HB5.out.trans (HB7.out.mono HB5.out.size)
    have HG7 : Hid (wc.heap.size ≤ g7 ∧ g7 < w7.heap.size) := ⟨hg7, by obtain ⟨_, ho | ⟨g, cap, cur, e, _, hh, _⟩⟩ := hown7; (· exact absurd ho.1 (by simp)); (· simp at e; obtain ⟨e, _⟩ := e; subst e; rcases Nat.lt_or_ge g7 w7.heap.size with h9 | h9; (· exact h9); (· rw [Array.getElem?_eq_none h9] at hh; cases hh))⟩
    have HOb7 : Hid (∀ g, oa = some g → OB w7 g ca) := fun g e => (HGa5.out.ob g e).1.below HB7.out (HRa5.out g e)
    have hw7 : wc.heap.size ≤ w7.heap.size := HB7.out.size
    have HRa7 : Hid ((oa, na, ca).2.1 ≤ (oa, na, ca).2.2 ∧ (oa, na, ca).2.2 ≤ 281474976710656 ∧ ((oa, na, ca).1 = none → (oa, na, ca).2.2 = 0)) := ⟨HGa5.out.has.2.1, HGa5.out.cap, fun e => HGa5.out.has.2.2.2.1 (by simp only at e; rw [e]; rfl)⟩
    have HLow : Hid (∀ g, (oa, na, ca).1 = some g → w.heap.size ≤ g ∧ g ≠ w7.heap.size ∧ g ≠ g7) := fun g e => by
      have h1 := (HGa5.out.ob g e).2
      have h2 := HRa5.out g e
      have h3 := HSa.out
      have h4 := HG7.out.1
      exact ⟨by omega, by omega, by omega⟩
    clear hown7 hg6 hg7 HB6 HW5
    obtain ⟨W, hW⟩ : ∃ W, W = w7.alloc (.cells #[.slice a0 p.length c0, .slice a1 b.length c1, .slice (some ⟨g7, 0, none⟩) (n3 + b.length) c7] 22) := ⟨_, rfl⟩
    have HWc : Hid (∀ k v, [Value.slice a0 p.length c0, .slice a1 b.length c1, .slice (some ⟨g7, 0, none⟩) (n3 + b.length) c7][k]? = some v → W.cell? ⟨w7.heap.size, k, none⟩ = some v) := fun k v hv => by rw [hW]; exact three_cells w7 _ _ _ _ k v hv
    have HWs : Hid (W.heap.size = w7.heap.size + 1) := by show _ = _; rw [hW]; simp
    have HW7 : Hid (Has W (some ⟨g7, 0, none⟩) (n3 + b.length) c7 (frL p ++ b)) := by rw [hW]; exact HH7.out.below ((Below.refl _ _).alloc (Nat.le_refl _) _)
    have HTh : Hid (Thr w W W w7.heap.size g7 (oa, na, ca)) := by
      refine ⟨?_, Nat.le_refl _, rfl, rfl, fun g e => ?_⟩
      · rw [hW]; exact HB7w.out.alloc HB7w.out.size _
      · rw [hW]; exact (HOb7.out g e).below ((Below.refl _ _).alloc (Nat.le_refl _) _) (HOb7.out g e).lt
    rw [← hW]
    clear hW HH7 HOb7 HGa5 HRa5 HB7 HB7w
    go_loopw [12] (fun i wr => ∃ k : Nat, i = .int .i64 (k : Int) ∧ k ≤ 3 ∧ Hid (Thr w W wr w7.heap.size g7 (oa, na, ca))) (fun i _ => 3 - (intOf i).toNat)
    case atStart => exact ⟨0, rfl, by omega, HTh⟩
    case round =>
      obtain ⟨k, rfl, hk3, HS⟩ := hrel
      by_cases hk : k < 3
      · have hkI : (k : Int) < 3 := by omega
        obtain ⟨ar, cr, lr, hrow, HHr, hnr⟩ : ∃ (ar : Option Addr) (cr : Nat) (lr : List UInt8), [Value.slice a0 p.length c0, .slice a1 b.length c1, .slice (some ⟨g7, 0, none⟩) (n3 + b.length) c7][k]? = some (.slice ar lr.length cr) ∧ Hid (Has wr ar lr.length cr lr) ∧ lr.length ≤ 4194304 := by
          match k, hk with
          | 0, _ => exact ⟨a0, c0, p, rfl, H0.out.below HS.out.below, by omega⟩
          | 1, _ => exact ⟨a1, c1, b, rfl, H1.out.below HS.out.below, by omega⟩
          | 2, _ =>
            have h9 := HW7.out.same HS.out.third HS.out.size
            have h8 := h9.1
            have h7 := HFl.out
            refine ⟨some ⟨g7, 0, none⟩, c7, frL p ++ b, by rw [h8]; rfl, by rw [h8]; exact h9, ?_⟩
            simp
            omega
        have hc1 : wr.cell? ⟨w7.heap.size, k, none⟩ = some (.slice ar lr.length cr) := by rw [blk_cell HS.out.rows]; exact HWc.out k _ hrow
        have hgR : w7.heap.size < W.heap.size := by rw [HWs.out]; omega
        have hg7' : g7 < W.heap.size := by have := HG7.out.2; omega
        have HgR : Hid (w7.heap.size < W.heap.size) := hgR
        have Hg7' : Hid (g7 < W.heap.size) := hg7'
        have HRow : Hid (∀ v : World, Thr w W v w7.heap.size g7 (oa, na, ca) → v.cell? ⟨w7.heap.size, k, none⟩ = some (.slice ar lr.length cr)) := fun v hv => by rw [blk_cell hv.rows]; exact HWc.out k _ hrow
        have hlI : (lr.length : Int) ≤ 4194304 := by omega
        clear hrow hgR hg7'
        go_wp2_with fail
        refine (lent_any _ _ _ lr _ HHr.out (by omega)).mono ?_
        rintro e u1 ⟨rfl, hl1, hB1⟩
        have HL1 : Hid (LentIs u1 wr.heap.size lr) := hl1
        have HU1 : Hid (Below wr.heap.size wr u1) := hB1
        have HS1 : Hid (Thr w W u1 w7.heap.size g7 (oa, na, ca)) := HS.out.below' hB1 HgR.out Hg7'.out
        clear hl1 hB1 hc1
        go_wp2_with fail
        refine (open_uni _ _ _ lr _ (HL1.out.has (by unfold maxLen; omega)) (HT.out.below HS1.out.below HT.out.lt) (by omega)).mono ?_
        rintro e u2 ⟨⟨ov, nv, cv⟩, rfl, HGv, hB2⟩
        dsimp only [rv]
        have HL2 : Hid (LentIs u2 wr.heap.size lr) := HL1.out.below hB2.out HL1.out.lt
        have HU2 : Hid (Below wr.heap.size wr u2) := HU1.out.trans (hB2.out.mono HU1.out.size)
        have HS2 : Hid (Thr w W u2 w7.heap.size g7 (oa, na, ca)) := HS1.out.below' hB2.out HgR.out Hg7'.out
        have hc2 := HRow.out u2 HS2.out
        have HVl : Hid (∀ g, ov = some g → g ≠ wr.heap.size ∧ wr.heap.size ≤ g) := fun g e => by have h1 := (HGv.out.ob g e).2; have h2 := HL1.out.lt; exact ⟨by omega, by omega⟩
        clear hB2 HL1 HS1
        go_wp2_with fail
        refine (ropen_uni _ _ _ lr _ (HHr.out.below HU2.out) (by omega)).mono ?_
        rintro e u3 ⟨x3', n3', c3', rfl, HW3', hB3'⟩
        have HL3 : Hid (LentIs u3 wr.heap.size lr) := HL2.out.below hB3'.out HL2.out.lt
        have HU3 : Hid (Below wr.heap.size wr u3) := HU2.out.trans (hB3'.out.mono HU2.out.size)
        have HS3 : Hid (Thr w W u3 w7.heap.size g7 (oa, na, ca)) := HS2.out.below' hB3'.out HgR.out Hg7'.out
        have HGv3 : Hid (Got wr.heap.size u3 (ov, nv, cv) (opn lr).1) := ⟨(HGv.out.below hB3'.out).has, fun g e => ⟨((HGv.out.below hB3'.out).ob g e).1, (HVl.out g e).2⟩, HGv.out.cap⟩
        have cvv := HGv3.out.conv
        have cvw := HW3'.out.conv
        dsimp only [rv] at cvv
        have hc3 := HRow.out u3 HS3.out
        clear hB3' HL2 HS2 HGv HW3' hc2
        go_wp2_with fail
        refine (kept_any _ ar cr lr _ HL3.out (HHr.out.below HU3.out) (by omega)).mono ?_
        rintro e u4 ⟨rfl, hw⟩
        subst hw
        have hown := frames_round w W wr w7.heap.size g7 k (oa, na, ca) ar cr lr HS.out HHr.out hnr HRa7.out HLow.out HgR.out Hg7'.out u4 u4 (ov, nv, cv) wr.heap.size HS3.out HL3.out HGv3.out (Nat.le_refl _) HVl.out
        dsimp only [rv] at hown
        have HOw : Hid (Calls _ _ _ _ _) := hown
        obtain ⟨cO, hcO⟩ : ∃ cO, cO = (opn lr).2.2 := ⟨_, rfl⟩
        obtain ⟨uO, huO⟩ : ∃ uO, uO = (opn lr).2.1 := ⟨_, rfl⟩
        obtain ⟨sO, hsO⟩ : ∃ sO, sO = bs (opn lr).1 := ⟨_, rfl⟩
        rw [← hsO] at cvv cvw
        rw [← hcO, ← huO]
        clear hown hc3 hcO huO hsO
        go_wp2_with fail
        refine HOw.out.mono ?_
        rintro e u5 ⟨rfl, hS5⟩
        have HS5 : Hid (Thr w W u5 w7.heap.size g7 (oa, na, ca)) := hS5
        clear hS5 cvv cvw HOw
        go_wp2_with fail
        refine (code_errV cO _ (HE.out.below HS5.out.below HE.out.lt)).mono ?_
        rintro e u6 ⟨rfl, hb6⟩
        have HS6 : Hid (Thr w W u6 w7.heap.size g7 (oa, na, ca)) := HS5.out.below' hb6 HgR.out Hg7'.out
        clear hb6 HS5
        go_wp2_with fail
        go_roundw
        case rel => exact ⟨k + 1, by go_num, by omega, HS6⟩
        case measure => simp [intOf]; omega
      · have hkf : decide ((k : Int) < 3) = false := by simp; omega
        go_wp2_with fail
        go_ret
        exact ⟨rfl, HS.out.below⟩
end Go.Proofs.YtipkjiacikdmmaaDoor
