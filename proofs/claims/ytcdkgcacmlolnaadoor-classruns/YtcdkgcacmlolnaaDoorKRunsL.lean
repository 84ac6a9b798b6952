/-
  For any class: muntinlaw02.ClassRuns answers true. Conditions: those that each theorem names.
-/
import Derived.Test.YtcdkgcacmlolnaaDoorKQ4
import Derived.Test.YtcdkgcacmlolnaaDoorKSmall
namespace Go.Proofs.YtcdkgcacmlolnaaDoor
open Go.RowKit
set_option linter.unusedVariables false
/-- What stands while the first rows are written over. -/
def Lv (w : World) (C B2 : Nat) (v2 v3 : Value) (L : List (Nat × Nat)) (w' : World) : Prop :=
  Hid (Below w.heap.size w w') ∧ Hid (w'.ownsRow B2 44 2 v2 L.length (pv L)) ∧ Hid (w'.ownsRow B2 44 2 v3 L.length (pv L)) ∧ Hid (Blk w' w.heap.size C)
theorem Lv.keep {w W w' : World} {C B2 : Nat} {v2 v3 : Value} {L : List (Nat × Nat)} (h : Lv w C B2 v2 v3 L W) (hb : Below W.heap.size W w') : Lv w C B2 v2 v3 L w' :=
  ⟨hid (h.1.out.trans (hb.mono h.1.out.size)), hid (own_keep h.2.1.out hb), hid (own_keep h.2.2.1.out hb), hid (h.2.2.2.out.below hb h.2.2.2.out.lt)⟩
theorem Lv.set {w W : World} {C B2 : Nat} {v2 v3 : Value} {L : List (Nat × Nat)} (h : Lv w C B2 v2 v3 L W) {g j : Nat} (h1 : w.heap.size < g) (h2 : g < B2) (u : Value) : Lv w C B2 v2 v3 L (W.setCell ⟨g, j, none⟩ u) :=
  ⟨hid (h.1.out.setCell (p := ⟨g, j, none⟩) (by simp only; omega) _), hid (ownsRow_setCell_below h.2.1.out (a := ⟨g, j, none⟩) (by simp only; omega) u), hid (ownsRow_setCell_below h.2.2.1.out (a := ⟨g, j, none⟩) (by simp only; omega) u), hid (by
    show Blk _ _ _
    unfold Blk
    rw [Below.heap_setCell _ _ _ _ (show w.heap.size ≠ (⟨g, j, none⟩ : Addr).block by simp only; omega)]
    exact h.2.2.2.out)⟩
set_option maxRecDepth 100000 in
set_option maxHeartbeats 8000000 in
theorem runsL_any (C : Nat) (w : World) (hC : C < 2 ^ 256) (hT : TabIs w) :
    Calls Tryd.prog 4 #[cv C] w fun e w' => e = .returned (.bool true) ∧ Below w.heap.size w w' := by
  have HT : Hid (TabIs w) := hT
  clear hT
  unfold cv
  go_enter Tryd.func4, Tryd.ntmps4
  go_wp2_with fail
  refine (small_ok _).mono ?_
  rintro e w1 ⟨rfl, hb1⟩
  have HB1 : Hid (Below w.heap.size w w1) := ((Below.refl _ _).alloc (Nat.le_refl _) _).trans (hb1.mono (by simp))
  have HK1 : Hid (Blk w1 w.heap.size C) := (Blk.new w C).below hb1 (by simp)
  clear hb1
  obtain ⟨c0, c1, c2, c3⟩ := HK1.out.cells
  go_wp2_with fail
  refine (runs_any C _ hC (HT.out.below HB1.out HT.out.lt)).mono ?_
  rintro e w2 ⟨v1, rfl, HO2, hb2⟩
  have HB2 : Hid (Below w.heap.size w w2) := HB1.out.trans (hb2.out.mono HB1.out.size)
  have HK2 : Hid (Blk w2 w.heap.size C) := HK1.out.below hb2.out HK1.out.lt
  have HZ1 : Hid (w.heap.size < w1.heap.size) := HK1.out.lt
  obtain ⟨L, hL⟩ : ∃ L, L = (rs C 256).reverse := ⟨_, rfl⟩
  have hLl : L.length = (rs C 256).length := by rw [hL]; simp
  have hL6 : L.length ≤ 256 := by rw [hLl]; exact rs_len C 256
  have HLe : Hid ((rs C 256).reverse = L) := hL.symm
  have HLl : Hid ((rs C 256).length = L.length) := hLl.symm
  rw [← hLl, ← hL] at HO2
  clear hb2 HK1 c0 c1 c2 c3 hL hLl HB1
  obtain ⟨c0, c1, c2, c3⟩ := HK2.out.cells
  go_wp2_with fail
  refine (runs_any C _ hC (HT.out.below HB2.out HT.out.lt)).mono ?_
  rintro e w3 ⟨v2, rfl, HO3, hb3⟩
  have HB3 : Hid (Below w.heap.size w w3) := HB2.out.trans (hb3.out.mono HB2.out.size)
  have HK3 : Hid (Blk w3 w.heap.size C) := HK2.out.below hb3.out HK2.out.lt
  have HO23 : Hid (w3.ownsRow w1.heap.size 44 2 v1 L.length (pv L)) := own_keep HO2.out hb3.out
  have HG2 : Hid (∀ g, v1.ownBlock = some g → g < w2.heap.size) := fun g e => (HO2.out.lt g e).2
  rw [HLl.out, HLe.out] at HO3
  have HZ23 : Hid (w2.heap.size ≤ w3.heap.size) := hb3.out.size
  clear hb3 HK2 c0 c1 c2 c3 HB2 HO2
  obtain ⟨c0, c1, c2, c3⟩ := HK3.out.cells
  go_wp2_with fail
  refine (rruns_any C _).mono ?_
  rintro e w4 ⟨v3, rfl, HO4, hb4⟩
  rw [HLl.out, HLe.out] at HO4
  have HO24 : Hid (w4.ownsRow w1.heap.size 44 2 v1 L.length (pv L)) := own_keep HO23.out hb4.out
  have HV4 : Hid (Lv w C w2.heap.size v2 v3 L w4) := ⟨hid (HB3.out.trans (hb4.out.mono HB3.out.size)), hid (own_keep HO3.out hb4.out), hid (own_mono HO4.out HZ23.out), hid (HK3.out.below hb4.out HK3.out.lt)⟩
  clear hb4 HK3 c0 c1 c2 c3 HB3 HO23 HO3 HO4 HLe HLl
  go_wp2_with fail
  refine (same_any _ _ v1 v3 L _ HO24.out HV4.out.2.2.1.out hL6).mono ?_
  rintro e w5 ⟨rfl, hb5⟩
  have HV5 := hid (HV4.out.keep hb5)
  have HO5 : Hid (w5.ownsRow w1.heap.size 44 2 v1 L.length (pv L)) := own_keep HO24.out hb5
  clear hb5 HV4 HO24
  obtain ⟨a1, cp1, rfl⟩ := own_any_shape HO5.out
  obtain ⟨n, hn⟩ : ∃ n, n = L.length := ⟨_, rfl⟩
  have HNl : Hid (n = L.length) := hn
  rw [← hn] at HO5 HG2 hL6 ⊢
  clear hn
  go_wp2_with fail
  go_loopw [8] (fun i wr => ∃ k : Nat, i = .int .i64 (k : Int) ∧ k ≤ n ∧ Hid (Lv w C w2.heap.size v2 v3 L wr) ∧ Hid (∃ xs, wr.ownsRow w1.heap.size 44 2 (.slice a1 n cp1) n xs)) (fun i _ => n - (intOf i).toNat)
  case atStart => exact ⟨0, rfl, by omega, HV5, hid ⟨_, HO5.out⟩⟩
  case round =>
    obtain ⟨k, rfl, hk, HV, HX⟩ := hrel
    by_cases hkn : k < n
    · have hkI : (k : Int) < (n : Int) := by omega
      obtain ⟨xs, hxs⟩ := HX.out
      obtain ⟨g, cap', hsh⟩ := own_shape hxs (by omega)
      simp only [Value.slice.injEq] at hsh
      obtain ⟨rfl, _, rfl⟩ := hsh
      have hlow := own_low hxs
      have hg2 : g < w2.heap.size := HG2.out g rfl
      have hg1 : w.heap.size < g := by have := HZ1.out; omega
      have hcap : cp1 ≤ 9223372036854775807 := hlow.2.2.1
      have e1 := hxs.cellAt (k * 2) (by omega)
      have e2 := hxs.cellAt (k * 2 + 1) (by omega)
      have hxl : xs.length = n * 2 := hxs.1
      rw [List.getElem?_eq_getElem (by omega)] at e1 e2
      have f1 := own_cell_free hxs (k * 2)
      have f2 := own_cell_free hxs (k * 2 + 1)
      have HX2 : Hid (∃ xs, ((wr.setCell ⟨g, k * 2, none⟩ (.int .i64 (-7))).setCell ⟨g, k * 2 + 1, none⟩ (.int .i64 (-7))).ownsRow w1.heap.size 44 2 (.slice (some ⟨g, 0, none⟩) n cp1) n xs) := ⟨_, own_set (own_set hxs (k * 2) (by omega) _) (k * 2 + 1) (by omega) _⟩
      have HV2 := hid ((HV.out.set (j := k * 2) hg1 hg2 (.int .i64 (-7))).set (j := k * 2 + 1) hg1 hg2 (.int .i64 (-7)))
      generalize xs[k * 2]'(by omega) = y1 at e1
      generalize xs[k * 2 + 1]'(by omega) = y2 at e2
      clear hxs HX hlow hxl
      go_wp2_with fail
      go_roundw
      case rel => exact ⟨k + 1, by go_num, by omega, HV2, HX2⟩
      case measure => simp [intOf]; omega
    · have hkI : decide ((k : Int) < (n : Int)) = false := by simp; omega
      have hkn' : ¬ k < n := hkn
      clear HX
      go_wp2_with fail
      refine (same_any _ _ v2 v3 L _ HV.out.2.1.out HV.out.2.2.1.out (by have := HNl.out; omega)).mono ?_
      rintro e w6 ⟨rfl, hb6⟩
      have HV6 := hid (HV.out.keep hb6)
      clear hb6 HV HV5 HO5
      obtain ⟨c0, c1, c2, c3⟩ := HV6.out.2.2.2.out.cells
      have hl6 := HV6.out.2.2.2.out.lt
      have HTx : Hid (∀ v : World, Hid (Below w.heap.size w v) → Calls Tryd.prog 23 #[cv C] v fun e w' => e = .returned (.string (nb (txt C))) ∧ Below v.heap.size v w') := fun v hv => text_any C v hC (HT.out.below hv.out HT.out.lt)
      have HTy : Hid (∀ v : World, Calls Tryd.prog 24 #[cv C] v fun e w' => e = .returned (.string (nb (txt C))) ∧ Below v.heap.size v w') := fun v => rtext_any C v
      generalize nb (txt C) = S at *
      go_wp2_with fail
      have S7 : (fun w' => Hid (Below w.heap.size w w') ∧ (w'.cell? ⟨w.heap.size, 0, none⟩ = some (.int .u64 (wd (C) 0 : Nat)) ∧ w'.cell? ⟨w.heap.size, 1, none⟩ = some (.int .u64 (wd (C) 1 : Nat)) ∧ w'.cell? ⟨w.heap.size, 2, none⟩ = some (.int .u64 (wd (C) 2 : Nat)) ∧ w'.cell? ⟨w.heap.size, 3, none⟩ = some (.int .u64 (wd (C) 3 : Nat)))) (w6.drew) := ⟨hid HV6.out.1.out.drew, c0, c1, c2, c3⟩
      first | go_region_held3 (fun w' => Hid (Below w.heap.size w w') ∧ (w'.cell? ⟨w.heap.size, 0, none⟩ = some (.int .u64 (wd (C) 0 : Nat)) ∧ w'.cell? ⟨w.heap.size, 1, none⟩ = some (.int .u64 (wd (C) 1 : Nat)) ∧ w'.cell? ⟨w.heap.size, 2, none⟩ = some (.int .u64 (wd (C) 2 : Nat)) ∧ w'.cell? ⟨w.heap.size, 3, none⟩ = some (.int .u64 (wd (C) 3 : Nat)))) (first | assumption | exact keep_1 (by assumption) (by assumption)) (first | (go_at_call 23; refine (HTx.out _ ?hh).mono ?_; (case hh => (first | assumption | exact And.left (by assumption))); rintro e wr ⟨rfl, hbr⟩; dsimp only [cv]) | (go_at_call 24; refine (HTy.out _).mono ?_; rintro e wr ⟨rfl, hbr⟩; dsimp only [cv])) | skip
      all_goals
        have T7 : (fun w' => Hid (Below w.heap.size w w') ∧ (w'.cell? ⟨w.heap.size, 0, none⟩ = some (.int .u64 (wd (C) 0 : Nat)) ∧ w'.cell? ⟨w.heap.size, 1, none⟩ = some (.int .u64 (wd (C) 1 : Nat)) ∧ w'.cell? ⟨w.heap.size, 2, none⟩ = some (.int .u64 (wd (C) 2 : Nat)) ∧ w'.cell? ⟨w.heap.size, 3, none⟩ = some (.int .u64 (wd (C) 3 : Nat)))) wr := by assumption
        go_wp2_with fail
        go_ret
        exact ⟨rfl, T7.1.out⟩
end Go.Proofs.YtcdkgcacmlolnaaDoor
