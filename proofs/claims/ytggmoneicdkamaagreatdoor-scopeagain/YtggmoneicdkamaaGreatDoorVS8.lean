/-
  The document's SameNode and Same, at trees and grammars in memory that are one (with their places, if asked for). Conditions: those that each theorem names.
-/
import Derived.Test.YtggmoneicdkamaaGreatDoorVW4ToS9
import Derived.Test.YtggmoneicdkamaaGreatDoorVS5ToO22
namespace Go.Proofs.YtggmoneicdkamaaGreatDoor
open Go.RowKit Go.Shelf
set_option linter.unusedVariables false
/-- What stays while two nodes are held against each other. -/
def SNr (w : World) (so : Option Addr) (n cap : Nat) (so' : Option Addr) (cap' : Nat) (W : World) : Prop := Below w.heap.size w W ∧ W.cell? ⟨w.heap.size, 6, none⟩ = some (.slice so n cap) ∧ W.cell? ⟨w.heap.size + 1, 6, none⟩ = some (.slice so' n cap') ∧ w.heap.size + 2 ≤ W.heap.size
theorem SNr.below {w W W' : World} {so so' : Option Addr} {n cap cap' : Nat} (h : SNr w so n cap so' cap' W) (hb : Below W.heap.size W W') : SNr w so n cap so' cap' W' := by
  obtain ⟨h1, h2, h3, h4⟩ := h
  exact ⟨h1.trans (hb.mono h1.size), (hb.cell (p := ⟨w.heap.size, 6, none⟩) (show w.heap.size < _ by omega)).trans h2, (hb.cell (p := ⟨w.heap.size + 1, 6, none⟩) (show w.heap.size + 1 < _ by omega)).trans h3, Nat.le_trans h4 hb.size⟩
theorem SNr.start (w : World) (k a b c d p p' : Int) (T : ByteArray) (so so' : Option Addr) (n cap cap' : Nat) : SNr w so n cap so' cap' ((w.alloc (.cells #[.int .i64 k, .string T, .int .u64 a, .int .u64 b, .int .u64 c, .int .u64 d, .slice so n cap, .int .i64 p] 58)).alloc (.cells #[.int .i64 k, .string T, .int .u64 a, .int .u64 b, .int .u64 c, .int .u64 d, .slice so' n cap', .int .i64 p'] 58)) :=
  ⟨((Below.refl _ _).alloc (Nat.le_refl _) _).alloc (by simp) _, (eight_cells ((Below.heap_alloc _ _ _ (by simp)).trans (new_block_at w _ rfl))).1.2.2.2.2.2.2.1, (eight_cells (new_block_at _ _ (by simp))).1.2.2.2.2.2.2.1, by simp⟩
theorem keep_snr {w W W' : World} {g o g' o' n cap cap' j : Nat} {k1 a1 b1 c1 d1 p1 k2 a2 b2 c2 d2 p2 : Int} {T1 T2 : ByteArray} {so1 so2 : Option Addr} {n1 cap1 n2 cap2 : Nat} (hg : g < w.heap.size) (hg' : g' < w.heap.size) (hb : Below W.heap.size W W') (h : Hid (SNr w (some ⟨g, o, none⟩)  n cap (some ⟨g', o', none⟩) cap' W) ∧ W.cell? ⟨w.heap.size, 6, none⟩ = some (.slice (some ⟨g, o, none⟩) n cap) ∧ W.cell? ⟨w.heap.size + 1, 6, none⟩ = some (.slice (some ⟨g', o', none⟩) n cap') ∧ W.cell? ⟨g, o + j * 8, none⟩ = some (.int .i64 k1) ∧ W.cell? ⟨g, o + j * 8 + 1, none⟩ = some (.string T1) ∧ W.cell? ⟨g, o + j * 8 + 2, none⟩ = some (.int .u64 a1) ∧ W.cell? ⟨g, o + j * 8 + 3, none⟩ = some (.int .u64 b1) ∧ W.cell? ⟨g, o + j * 8 + 4, none⟩ = some (.int .u64 c1) ∧ W.cell? ⟨g, o + j * 8 + 5, none⟩ = some (.int .u64 d1) ∧ W.cell? ⟨g, o + j * 8 + 6, none⟩ = some (.slice so1 n1 cap1) ∧ W.cell? ⟨g, o + j * 8 + 7, none⟩ = some (.int .i64 p1) ∧ W.cell? ⟨g', o' + j * 8, none⟩ = some (.int .i64 k2) ∧ W.cell? ⟨g', o' + j * 8 + 1, none⟩ = some (.string T2) ∧ W.cell? ⟨g', o' + j * 8 + 2, none⟩ = some (.int .u64 a2) ∧ W.cell? ⟨g', o' + j * 8 + 3, none⟩ = some (.int .u64 b2) ∧ W.cell? ⟨g', o' + j * 8 + 4, none⟩ = some (.int .u64 c2) ∧ W.cell? ⟨g', o' + j * 8 + 5, none⟩ = some (.int .u64 d2) ∧ W.cell? ⟨g', o' + j * 8 + 6, none⟩ = some (.slice so2 n2 cap2) ∧ W.cell? ⟨g', o' + j * 8 + 7, none⟩ = some (.int .i64 p2)) :
    Hid (SNr w (some ⟨g, o, none⟩)  n cap (some ⟨g', o', none⟩) cap' W') ∧ W'.cell? ⟨w.heap.size, 6, none⟩ = some (.slice (some ⟨g, o, none⟩) n cap) ∧ W'.cell? ⟨w.heap.size + 1, 6, none⟩ = some (.slice (some ⟨g', o', none⟩) n cap') ∧ W'.cell? ⟨g, o + j * 8, none⟩ = some (.int .i64 k1) ∧ W'.cell? ⟨g, o + j * 8 + 1, none⟩ = some (.string T1) ∧ W'.cell? ⟨g, o + j * 8 + 2, none⟩ = some (.int .u64 a1) ∧ W'.cell? ⟨g, o + j * 8 + 3, none⟩ = some (.int .u64 b1) ∧ W'.cell? ⟨g, o + j * 8 + 4, none⟩ = some (.int .u64 c1) ∧ W'.cell? ⟨g, o + j * 8 + 5, none⟩ = some (.int .u64 d1) ∧ W'.cell? ⟨g, o + j * 8 + 6, none⟩ = some (.slice so1 n1 cap1) ∧ W'.cell? ⟨g, o + j * 8 + 7, none⟩ = some (.int .i64 p1) ∧ W'.cell? ⟨g', o' + j * 8, none⟩ = some (.int .i64 k2) ∧ W'.cell? ⟨g', o' + j * 8 + 1, none⟩ = some (.string T2) ∧ W'.cell? ⟨g', o' + j * 8 + 2, none⟩ = some (.int .u64 a2) ∧ W'.cell? ⟨g', o' + j * 8 + 3, none⟩ = some (.int .u64 b2) ∧ W'.cell? ⟨g', o' + j * 8 + 4, none⟩ = some (.int .u64 c2) ∧ W'.cell? ⟨g', o' + j * 8 + 5, none⟩ = some (.int .u64 d2) ∧ W'.cell? ⟨g', o' + j * 8 + 6, none⟩ = some (.slice so2 n2 cap2) ∧ W'.cell? ⟨g', o' + j * 8 + 7, none⟩ = some (.int .i64 p2) := by
  obtain ⟨h0, h1, h2, x0, x1, x2, x3, x4, x5, x6, x7, y0, y1, y2, y3, y4, y5, y6, y7⟩ := h
  have hs := h0.out.2.2.2
  have eg : ∀ i, W'.cell? ⟨g, i, none⟩ = W.cell? ⟨g, i, none⟩ := fun i => hb.cell (p := ⟨g, i, none⟩) (show g < _ by omega)
  have eg' : ∀ i, W'.cell? ⟨g', i, none⟩ = W.cell? ⟨g', i, none⟩ := fun i => hb.cell (p := ⟨g', i, none⟩) (show g' < _ by omega)
  have h3 := h0.out.below hb
  exact ⟨hid h3, h3.2.1, h3.2.2.1, (eg _).trans x0, (eg _).trans x1, (eg _).trans x2, (eg _).trans x3, (eg _).trans x4, (eg _).trans x5, (eg _).trans x6, (eg _).trans x7, (eg' _).trans y0, (eg' _).trans y1, (eg' _).trans y2, (eg' _).trans y3, (eg' _).trans y4, (eg' _).trans y5, (eg' _).trans y6, (eg' _).trans y7⟩
set_option maxRecDepth 100000 in
set_option maxHeartbeats 8000000 in
theorem zsr_row_false (k : Int) (T : ByteArray) (a b c d p p' : Int) (so so' : Option Addr) (n cap cap' : Nat) (w : World) (hn : n ≤ 9223372036854775807)
    (HC : Hid (∀ j, j < n → ∃ g o g' o' k1 T1 a1 b1 c1 d1 so1 n1 cap1 p1 k2 T2 a2 b2 c2 d2 so2 n2 cap2 p2, so = some ⟨g, o, none⟩ ∧ so' = some ⟨g', o', none⟩ ∧ g < w.heap.size ∧ g' < w.heap.size ∧ Rc w g (o + j * 8) k1 T1 a1 b1 c1 d1 (.slice so1 n1 cap1) p1 ∧ Rc w g' (o' + j * 8) k2 T2 a2 b2 c2 d2 (.slice so2 n2 cap2) p2 ∧
      ∀ W : World, Below w.heap.size w W → Calls Tryz.prog 34 #[.agg (r8 k1 T1 a1 b1 c1 d1 so1 n1 cap1 p1).toArray, .agg (r8 k2 T2 a2 b2 c2 d2 so2 n2 cap2 p2).toArray, .bool false] W fun e w' => e = .returned (.bool true) ∧ Below W.heap.size W w')) :
    Calls Tryz.prog 34 #[.agg (r8 k T a b c d so n cap p).toArray, .agg (r8 k T a b c d so' n cap' p').toArray, .bool false] w fun e w' => e = .returned (.bool true) ∧ Below w.heap.size w w' := by
  have e3 : ∀ w : World, (Op.equalIn 10000 55 (.agg #[.int .u64 a, .int .u64 b, .int .u64 c, .int .u64 d]) (.agg #[.int .u64 a, .int .u64 b, .int .u64 c, .int .u64 d])).run Tryz.prog w = .ok true w := fun w => by simpa using eq_words 9998 w a b c d a b c d
  have HB0 := hid (SNr.start w k a b c d p p' T so so' n cap cap')
  dsimp only [r8]
  go_enter Tryz.func34, Tryz.ntmps34
  go_wp2_with fail
  go_loopw [7] (fun i wr => ∃ j : Nat, i = .int .i64 (j : Int) ∧ j ≤ n ∧ Hid (SNr w so n cap so' cap' wr)) (fun i _ => n - (intOf i).toNat)
  case atStart => exact ⟨0, rfl, by omega, HB0⟩
  case round =>
    obtain ⟨j, rfl, hj, HW⟩ := hrel
    obtain ⟨_, b1, b2, _⟩ := HW.out
    clear HB0
    by_cases hjn : j < n
    · have hjI : (j : Int) < (n : Int) := by omega
      obtain ⟨g, o, g', o', k1, T1, a1, b1', c1, d1, so1, n1, cap1, p1, k2, T2, a2, b2', c2, d2, so2, n2, cap2, p2, rfl, rfl, hg, hg', z1, z2, hc⟩ := HC.out j hjn
      have HK := hid hc
      have z1 := z1.below HW.out.1 hg
      have z2 := z2.below HW.out.1 hg'
      obtain ⟨x0, x1, x2, x3, x4, x5, x6, x7⟩ := z1
      obtain ⟨y0, y1, y2, y3, y4, y5, y6, y7⟩ := z2
      clear hc HC
      dsimp only [r8] at HK
      have S1 : (fun W => Hid (SNr w (some ⟨g, o, none⟩)  n cap (some ⟨g', o', none⟩) cap' W) ∧ W.cell? ⟨w.heap.size, 6, none⟩ = some (.slice (some ⟨g, o, none⟩) n cap) ∧ W.cell? ⟨w.heap.size + 1, 6, none⟩ = some (.slice (some ⟨g', o', none⟩) n cap') ∧ W.cell? ⟨g, o + j * 8, none⟩ = some (.int .i64 k1) ∧ W.cell? ⟨g, o + j * 8 + 1, none⟩ = some (.string T1) ∧ W.cell? ⟨g, o + j * 8 + 2, none⟩ = some (.int .u64 a1) ∧ W.cell? ⟨g, o + j * 8 + 3, none⟩ = some (.int .u64 b1') ∧ W.cell? ⟨g, o + j * 8 + 4, none⟩ = some (.int .u64 c1) ∧ W.cell? ⟨g, o + j * 8 + 5, none⟩ = some (.int .u64 d1) ∧ W.cell? ⟨g, o + j * 8 + 6, none⟩ = some (.slice so1 n1 cap1) ∧ W.cell? ⟨g, o + j * 8 + 7, none⟩ = some (.int .i64 p1) ∧ W.cell? ⟨g', o' + j * 8, none⟩ = some (.int .i64 k2) ∧ W.cell? ⟨g', o' + j * 8 + 1, none⟩ = some (.string T2) ∧ W.cell? ⟨g', o' + j * 8 + 2, none⟩ = some (.int .u64 a2) ∧ W.cell? ⟨g', o' + j * 8 + 3, none⟩ = some (.int .u64 b2') ∧ W.cell? ⟨g', o' + j * 8 + 4, none⟩ = some (.int .u64 c2) ∧ W.cell? ⟨g', o' + j * 8 + 5, none⟩ = some (.int .u64 d2) ∧ W.cell? ⟨g', o' + j * 8 + 6, none⟩ = some (.slice so2 n2 cap2) ∧ W.cell? ⟨g', o' + j * 8 + 7, none⟩ = some (.int .i64 p2)) wr.drew := keep_snr hg hg' (Below.refl _ wr).drew ⟨HW, b1, b2, x0, x1, x2, x3, x4, x5, x6, x7, y0, y1, y2, y3, y4, y5, y6, y7⟩
      go_wp2_with fail
      go_region_held3 (fun W => Hid (SNr w (some ⟨g, o, none⟩)  n cap (some ⟨g', o', none⟩) cap' W) ∧ W.cell? ⟨w.heap.size, 6, none⟩ = some (.slice (some ⟨g, o, none⟩) n cap) ∧ W.cell? ⟨w.heap.size + 1, 6, none⟩ = some (.slice (some ⟨g', o', none⟩) n cap') ∧ W.cell? ⟨g, o + j * 8, none⟩ = some (.int .i64 k1) ∧ W.cell? ⟨g, o + j * 8 + 1, none⟩ = some (.string T1) ∧ W.cell? ⟨g, o + j * 8 + 2, none⟩ = some (.int .u64 a1) ∧ W.cell? ⟨g, o + j * 8 + 3, none⟩ = some (.int .u64 b1') ∧ W.cell? ⟨g, o + j * 8 + 4, none⟩ = some (.int .u64 c1) ∧ W.cell? ⟨g, o + j * 8 + 5, none⟩ = some (.int .u64 d1) ∧ W.cell? ⟨g, o + j * 8 + 6, none⟩ = some (.slice so1 n1 cap1) ∧ W.cell? ⟨g, o + j * 8 + 7, none⟩ = some (.int .i64 p1) ∧ W.cell? ⟨g', o' + j * 8, none⟩ = some (.int .i64 k2) ∧ W.cell? ⟨g', o' + j * 8 + 1, none⟩ = some (.string T2) ∧ W.cell? ⟨g', o' + j * 8 + 2, none⟩ = some (.int .u64 a2) ∧ W.cell? ⟨g', o' + j * 8 + 3, none⟩ = some (.int .u64 b2') ∧ W.cell? ⟨g', o' + j * 8 + 4, none⟩ = some (.int .u64 c2) ∧ W.cell? ⟨g', o' + j * 8 + 5, none⟩ = some (.int .u64 d2) ∧ W.cell? ⟨g', o' + j * 8 + 6, none⟩ = some (.slice so2 n2 cap2) ∧ W.cell? ⟨g', o' + j * 8 + 7, none⟩ = some (.int .i64 p2)) (first | assumption | exact keep_snr hg hg' (by assumption) (by assumption)) (first | (go_at_call 34; refine (HK.out _ ?hh).mono ?_; (case hh => exact S1.1.out.1); rintro e wq ⟨rfl, hbq⟩))
      have S3 : (fun W => Hid (SNr w (some ⟨g, o, none⟩)  n cap (some ⟨g', o', none⟩) cap' W) ∧ W.cell? ⟨w.heap.size, 6, none⟩ = some (.slice (some ⟨g, o, none⟩) n cap) ∧ W.cell? ⟨w.heap.size + 1, 6, none⟩ = some (.slice (some ⟨g', o', none⟩) n cap') ∧ W.cell? ⟨g, o + j * 8, none⟩ = some (.int .i64 k1) ∧ W.cell? ⟨g, o + j * 8 + 1, none⟩ = some (.string T1) ∧ W.cell? ⟨g, o + j * 8 + 2, none⟩ = some (.int .u64 a1) ∧ W.cell? ⟨g, o + j * 8 + 3, none⟩ = some (.int .u64 b1') ∧ W.cell? ⟨g, o + j * 8 + 4, none⟩ = some (.int .u64 c1) ∧ W.cell? ⟨g, o + j * 8 + 5, none⟩ = some (.int .u64 d1) ∧ W.cell? ⟨g, o + j * 8 + 6, none⟩ = some (.slice so1 n1 cap1) ∧ W.cell? ⟨g, o + j * 8 + 7, none⟩ = some (.int .i64 p1) ∧ W.cell? ⟨g', o' + j * 8, none⟩ = some (.int .i64 k2) ∧ W.cell? ⟨g', o' + j * 8 + 1, none⟩ = some (.string T2) ∧ W.cell? ⟨g', o' + j * 8 + 2, none⟩ = some (.int .u64 a2) ∧ W.cell? ⟨g', o' + j * 8 + 3, none⟩ = some (.int .u64 b2') ∧ W.cell? ⟨g', o' + j * 8 + 4, none⟩ = some (.int .u64 c2) ∧ W.cell? ⟨g', o' + j * 8 + 5, none⟩ = some (.int .u64 d2) ∧ W.cell? ⟨g', o' + j * 8 + 6, none⟩ = some (.slice so2 n2 cap2) ∧ W.cell? ⟨g', o' + j * 8 + 7, none⟩ = some (.int .i64 p2)) wq := by assumption
      have HW3 : Hid (SNr w (some ⟨g, o, none⟩) n cap (some ⟨g', o', none⟩) cap' wq) := S3.1
      clear S3 S1 hbq x0 x1 x2 x3 x4 x5 x6 x7 y0 y1 y2 y3 y4 y5 y6 y7 b1 b2 HW HK
      go_wp2_with fail
      go_roundw
      case rel => exact ⟨j + 1, by go_num, by omega, HW3⟩
      case measure => simp [intOf]; omega
    · have hjI : decide ((j : Int) < (n : Int)) = false := by simp; omega
      have HB : Hid (Below w.heap.size w wr) := HW.out.1
      clear HW
      go_wp2_with fail
      go_ret
      exact ⟨rfl, HB.out⟩
set_option maxRecDepth 100000 in
set_option maxHeartbeats 8000000 in
theorem zsr_row_true (k : Int) (T : ByteArray) (a b c d p : Int) (so so' : Option Addr) (n cap cap' : Nat) (w : World) (hn : n ≤ 9223372036854775807)
    (HC : Hid (∀ j, j < n → ∃ g o g' o' k1 T1 a1 b1 c1 d1 so1 n1 cap1 p1 k2 T2 a2 b2 c2 d2 so2 n2 cap2 p2, so = some ⟨g, o, none⟩ ∧ so' = some ⟨g', o', none⟩ ∧ g < w.heap.size ∧ g' < w.heap.size ∧ Rc w g (o + j * 8) k1 T1 a1 b1 c1 d1 (.slice so1 n1 cap1) p1 ∧ Rc w g' (o' + j * 8) k2 T2 a2 b2 c2 d2 (.slice so2 n2 cap2) p2 ∧
      ∀ W : World, Below w.heap.size w W → Calls Tryz.prog 34 #[.agg (r8 k1 T1 a1 b1 c1 d1 so1 n1 cap1 p1).toArray, .agg (r8 k2 T2 a2 b2 c2 d2 so2 n2 cap2 p2).toArray, .bool true] W fun e w' => e = .returned (.bool true) ∧ Below W.heap.size W w')) :
    Calls Tryz.prog 34 #[.agg (r8 k T a b c d so n cap p).toArray, .agg (r8 k T a b c d so' n cap' p).toArray, .bool true] w fun e w' => e = .returned (.bool true) ∧ Below w.heap.size w w' := by
  have e3 : ∀ w : World, (Op.equalIn 10000 55 (.agg #[.int .u64 a, .int .u64 b, .int .u64 c, .int .u64 d]) (.agg #[.int .u64 a, .int .u64 b, .int .u64 c, .int .u64 d])).run Tryz.prog w = .ok true w := fun w => by simpa using eq_words 9998 w a b c d a b c d
  have HB0 := hid (SNr.start w k a b c d p p T so so' n cap cap')
  dsimp only [r8]
  go_enter Tryz.func34, Tryz.ntmps34
  go_wp2_with fail
  go_loopw [7] (fun i wr => ∃ j : Nat, i = .int .i64 (j : Int) ∧ j ≤ n ∧ Hid (SNr w so n cap so' cap' wr)) (fun i _ => n - (intOf i).toNat)
  case atStart => exact ⟨0, rfl, by omega, HB0⟩
  case round =>
    obtain ⟨j, rfl, hj, HW⟩ := hrel
    obtain ⟨_, b1, b2, _⟩ := HW.out
    clear HB0
    by_cases hjn : j < n
    · have hjI : (j : Int) < (n : Int) := by omega
      obtain ⟨g, o, g', o', k1, T1, a1, b1', c1, d1, so1, n1, cap1, p1, k2, T2, a2, b2', c2, d2, so2, n2, cap2, p2, rfl, rfl, hg, hg', z1, z2, hc⟩ := HC.out j hjn
      have HK := hid hc
      have z1 := z1.below HW.out.1 hg
      have z2 := z2.below HW.out.1 hg'
      obtain ⟨x0, x1, x2, x3, x4, x5, x6, x7⟩ := z1
      obtain ⟨y0, y1, y2, y3, y4, y5, y6, y7⟩ := z2
      clear hc HC
      dsimp only [r8] at HK
      have S1 : (fun W => Hid (SNr w (some ⟨g, o, none⟩)  n cap (some ⟨g', o', none⟩) cap' W) ∧ W.cell? ⟨w.heap.size, 6, none⟩ = some (.slice (some ⟨g, o, none⟩) n cap) ∧ W.cell? ⟨w.heap.size + 1, 6, none⟩ = some (.slice (some ⟨g', o', none⟩) n cap') ∧ W.cell? ⟨g, o + j * 8, none⟩ = some (.int .i64 k1) ∧ W.cell? ⟨g, o + j * 8 + 1, none⟩ = some (.string T1) ∧ W.cell? ⟨g, o + j * 8 + 2, none⟩ = some (.int .u64 a1) ∧ W.cell? ⟨g, o + j * 8 + 3, none⟩ = some (.int .u64 b1') ∧ W.cell? ⟨g, o + j * 8 + 4, none⟩ = some (.int .u64 c1) ∧ W.cell? ⟨g, o + j * 8 + 5, none⟩ = some (.int .u64 d1) ∧ W.cell? ⟨g, o + j * 8 + 6, none⟩ = some (.slice so1 n1 cap1) ∧ W.cell? ⟨g, o + j * 8 + 7, none⟩ = some (.int .i64 p1) ∧ W.cell? ⟨g', o' + j * 8, none⟩ = some (.int .i64 k2) ∧ W.cell? ⟨g', o' + j * 8 + 1, none⟩ = some (.string T2) ∧ W.cell? ⟨g', o' + j * 8 + 2, none⟩ = some (.int .u64 a2) ∧ W.cell? ⟨g', o' + j * 8 + 3, none⟩ = some (.int .u64 b2') ∧ W.cell? ⟨g', o' + j * 8 + 4, none⟩ = some (.int .u64 c2) ∧ W.cell? ⟨g', o' + j * 8 + 5, none⟩ = some (.int .u64 d2) ∧ W.cell? ⟨g', o' + j * 8 + 6, none⟩ = some (.slice so2 n2 cap2) ∧ W.cell? ⟨g', o' + j * 8 + 7, none⟩ = some (.int .i64 p2)) wr.drew := keep_snr hg hg' (Below.refl _ wr).drew ⟨HW, b1, b2, x0, x1, x2, x3, x4, x5, x6, x7, y0, y1, y2, y3, y4, y5, y6, y7⟩
      go_wp2_with fail
      go_region_held3 (fun W => Hid (SNr w (some ⟨g, o, none⟩)  n cap (some ⟨g', o', none⟩) cap' W) ∧ W.cell? ⟨w.heap.size, 6, none⟩ = some (.slice (some ⟨g, o, none⟩) n cap) ∧ W.cell? ⟨w.heap.size + 1, 6, none⟩ = some (.slice (some ⟨g', o', none⟩) n cap') ∧ W.cell? ⟨g, o + j * 8, none⟩ = some (.int .i64 k1) ∧ W.cell? ⟨g, o + j * 8 + 1, none⟩ = some (.string T1) ∧ W.cell? ⟨g, o + j * 8 + 2, none⟩ = some (.int .u64 a1) ∧ W.cell? ⟨g, o + j * 8 + 3, none⟩ = some (.int .u64 b1') ∧ W.cell? ⟨g, o + j * 8 + 4, none⟩ = some (.int .u64 c1) ∧ W.cell? ⟨g, o + j * 8 + 5, none⟩ = some (.int .u64 d1) ∧ W.cell? ⟨g, o + j * 8 + 6, none⟩ = some (.slice so1 n1 cap1) ∧ W.cell? ⟨g, o + j * 8 + 7, none⟩ = some (.int .i64 p1) ∧ W.cell? ⟨g', o' + j * 8, none⟩ = some (.int .i64 k2) ∧ W.cell? ⟨g', o' + j * 8 + 1, none⟩ = some (.string T2) ∧ W.cell? ⟨g', o' + j * 8 + 2, none⟩ = some (.int .u64 a2) ∧ W.cell? ⟨g', o' + j * 8 + 3, none⟩ = some (.int .u64 b2') ∧ W.cell? ⟨g', o' + j * 8 + 4, none⟩ = some (.int .u64 c2) ∧ W.cell? ⟨g', o' + j * 8 + 5, none⟩ = some (.int .u64 d2) ∧ W.cell? ⟨g', o' + j * 8 + 6, none⟩ = some (.slice so2 n2 cap2) ∧ W.cell? ⟨g', o' + j * 8 + 7, none⟩ = some (.int .i64 p2)) (first | assumption | exact keep_snr hg hg' (by assumption) (by assumption)) (first | (go_at_call 34; refine (HK.out _ ?hh).mono ?_; (case hh => exact S1.1.out.1); rintro e wq ⟨rfl, hbq⟩))
      have S3 : (fun W => Hid (SNr w (some ⟨g, o, none⟩)  n cap (some ⟨g', o', none⟩) cap' W) ∧ W.cell? ⟨w.heap.size, 6, none⟩ = some (.slice (some ⟨g, o, none⟩) n cap) ∧ W.cell? ⟨w.heap.size + 1, 6, none⟩ = some (.slice (some ⟨g', o', none⟩) n cap') ∧ W.cell? ⟨g, o + j * 8, none⟩ = some (.int .i64 k1) ∧ W.cell? ⟨g, o + j * 8 + 1, none⟩ = some (.string T1) ∧ W.cell? ⟨g, o + j * 8 + 2, none⟩ = some (.int .u64 a1) ∧ W.cell? ⟨g, o + j * 8 + 3, none⟩ = some (.int .u64 b1') ∧ W.cell? ⟨g, o + j * 8 + 4, none⟩ = some (.int .u64 c1) ∧ W.cell? ⟨g, o + j * 8 + 5, none⟩ = some (.int .u64 d1) ∧ W.cell? ⟨g, o + j * 8 + 6, none⟩ = some (.slice so1 n1 cap1) ∧ W.cell? ⟨g, o + j * 8 + 7, none⟩ = some (.int .i64 p1) ∧ W.cell? ⟨g', o' + j * 8, none⟩ = some (.int .i64 k2) ∧ W.cell? ⟨g', o' + j * 8 + 1, none⟩ = some (.string T2) ∧ W.cell? ⟨g', o' + j * 8 + 2, none⟩ = some (.int .u64 a2) ∧ W.cell? ⟨g', o' + j * 8 + 3, none⟩ = some (.int .u64 b2') ∧ W.cell? ⟨g', o' + j * 8 + 4, none⟩ = some (.int .u64 c2) ∧ W.cell? ⟨g', o' + j * 8 + 5, none⟩ = some (.int .u64 d2) ∧ W.cell? ⟨g', o' + j * 8 + 6, none⟩ = some (.slice so2 n2 cap2) ∧ W.cell? ⟨g', o' + j * 8 + 7, none⟩ = some (.int .i64 p2)) wq := by assumption
      have HW3 : Hid (SNr w (some ⟨g, o, none⟩) n cap (some ⟨g', o', none⟩) cap' wq) := S3.1
      clear S3 S1 hbq x0 x1 x2 x3 x4 x5 x6 x7 y0 y1 y2 y3 y4 y5 y6 y7 b1 b2 HW HK
      go_wp2_with fail
      go_roundw
      case rel => exact ⟨j + 1, by go_num, by omega, HW3⟩
      case measure => simp [intOf]; omega
    · have hjI : decide ((j : Int) < (n : Int)) = false := by simp; omega
      have HB : Hid (Below w.heap.size w wr) := HW.out.1
      clear HW
      go_wp2_with fail
      go_ret
      exact ⟨rfl, HB.out⟩
mutual
/-- Two trees in memory are one (with their places, if fl). -/
def SmR (fl : Bool) : RT → RT → Prop
  | .mk k T a b c d s p, .mk k' T' a' b' c' d' s' p' => k' = k ∧ T' = T ∧ a' = a ∧ b' = b ∧ c' = c ∧ d' = d ∧ (fl = true → p' = p) ∧ SmRL fl s s'
def SmRL (fl : Bool) : List RT → List RT → Prop
  | [], [] => True
  | t :: r, u :: q => SmR fl t u ∧ SmRL fl r q
  | _, _ => False
end
theorem SmRL.len {fl : Bool} : ∀ {s q : List RT}, SmRL fl s q → rtLen q = rtLen s ∧ q.length = s.length ∧ q.isEmpty = s.isEmpty
  | [], [], _ => ⟨rfl, rfl, rfl⟩
  | [], _ :: _, h => by simp [SmRL] at h
  | _ :: _, [], h => by simp [SmRL] at h
  | t :: r, u :: q, h => by
    rw [SmRL] at h
    exact ⟨by rw [rtLen, rtLen, h.2.len.1], by simp [h.2.len.2.1], rfl⟩
theorem SmRL.get {fl : Bool} : ∀ {s q : List RT}, SmRL fl s q → ∀ (j : Nat) (h1 : j < s.length) (h2 : j < q.length), SmR fl s[j] q[j]
  | [], [], _, j, h1, _ => by simp at h1
  | [], _ :: _, h, _, _, _ => by simp [SmRL] at h
  | _ :: _, [], h, _, _, _ => by simp [SmRL] at h
  | t :: r, u :: q, h, 0, _, _ => by rw [SmRL] at h; exact h.1
  | t :: r, u :: q, h, j + 1, h1, h2 => by rw [SmRL] at h; exact h.2.get j (by simpa using h1) (by simpa using h2)
mutual
theorem SmR.refl (fl : Bool) : ∀ t : RT, SmR fl t t
  | .mk k T a b c d s p => by rw [SmR]; exact ⟨rfl, rfl, rfl, rfl, rfl, rfl, fun _ => rfl, SmRL.refl fl s⟩
theorem SmRL.refl (fl : Bool) : ∀ s : List RT, SmRL fl s s
  | [] => by rw [SmRL]; trivial
  | t :: r => by rw [SmRL]; exact ⟨SmR.refl fl t, SmRL.refl fl r⟩
end
/-- SameNode at two trees in memory that are one. -/
theorem zsr_all (fl : Bool) : ∀ (N : Nat) (t u : RT) (cs ds : List Value) (B B' : Nat) (w : World), SizeOf.sizeOf t < N → SmR fl t u → RtIs w B t cs → RtIs w B' u ds → B ≤ w.heap.size → B' ≤ w.heap.size →
    Calls Tryz.prog 34 #[.agg cs.toArray, .agg ds.toArray, .bool fl] w fun e w' => e = .returned (.bool true) ∧ Below w.heap.size w w'
  | 0, t, _, _, _, _, _, _, h, _, _, _, _, _ => by omega
  | N + 1, .mk k T a b c d s p, .mk k' T' a' b' c' d' s' p', cs, ds, B, B', w, hN, hS, h1, h2, hB, hB' => by
    rw [SmR] at hS
    obtain ⟨rfl, rfl, rfl, rfl, rfl, rfl, hp, hs⟩ := hS
    rw [RtIs] at h1 h2
    obtain ⟨so, cap, rfl, h1⟩ := h1
    obtain ⟨so', cap', rfl, h2⟩ := h2
    have hl := hs.len
    rw [hl.1]
    have hm : rtLen s ≤ 9223372036854775807 := by
      rcases h1 with h | ⟨_, _, _, _, _, h, _⟩
      · have : s = [] := by simpa using h
        subst this
        rw [rtLen]
        omega
      · unfold maxLen at h
        omega
    have HC : Hid (∀ j, j < rtLen s → ∃ g o g' o' k1 T1 a1 b1 c1 d1 so1 n1 cap1 p1 k2 T2 a2 b2 c2 d2 so2 n2 cap2 p2, so = some ⟨g, o, none⟩ ∧ so' = some ⟨g', o', none⟩ ∧ g < w.heap.size ∧ g' < w.heap.size ∧ Rc w g (o + j * 8) k1 T1 a1 b1 c1 d1 (.slice so1 n1 cap1) p1 ∧ Rc w g' (o' + j * 8) k2 T2 a2 b2 c2 d2 (.slice so2 n2 cap2) p2 ∧
      ∀ W : World, Below w.heap.size w W → Calls Tryz.prog 34 #[.agg (r8 k1 T1 a1 b1 c1 d1 so1 n1 cap1 p1).toArray, .agg (r8 k2 T2 a2 b2 c2 d2 so2 n2 cap2 p2).toArray, .bool fl] W fun e w' => e = .returned (.bool true) ∧ Below W.heap.size W w') := fun j hj => by
      rw [rtLen_eq] at hj
      rcases h1 with h | ⟨_, g, o, rfl, hg, _, hr⟩
      · have : s = [] := by simpa using h
        subst this
        simp at hj
      · rcases h2 with h | ⟨_, g', o', rfl, hg', _, hr'⟩
        · have : s' = [] := by simpa using h
          subst this
          have := hl.2.1
          simp at this
          omega
        · have hj' : j < s'.length := by rw [hl.2.1]; exact hj
          obtain ⟨k1, T1, a1, b1, c1, d1, so1, n1, cap1, p1, r1, r2⟩ := rts_at hr j hj
          obtain ⟨k2, T2, a2, b2, c2, d2, so2, n2, cap2, p2, q1, q2⟩ := rts_at hr' j hj'
          refine ⟨g, o, g', o', k1, T1, a1, b1, c1, d1, so1, n1, cap1, p1, k2, T2, a2, b2, c2, d2, so2, n2, cap2, p2, rfl, rfl, by omega, by omega, r2, q2, fun W hW => ?_⟩
          have hsz := List.sizeOf_lt_of_mem (List.getElem_mem hj)
          simp only [RT.mk.sizeOf_spec] at hN
          exact zsr_all fl N s[j] s'[j] _ _ B B' W (by omega) (hs.get j hj hj') (r1.below (hW.mono hB)) (q1.below (hW.mono hB')) (Nat.le_trans hB hW.size) (Nat.le_trans hB' hW.size)
    cases fl with
    | false => exact zsr_row_false _ _ _ _ _ _ p p' so so' (rtLen s) cap cap' w hm HC
    | true =>
      obtain rfl := hp rfl
      exact zsr_row_true _ _ _ _ _ _ _ so so' (rtLen s) cap cap' w hm HC
/-- What stays while two grammars are held against each other. -/
def SGr (w : World) (so : Option Addr) (n cap : Nat) (so' : Option Addr) (cap' : Nat) (W : World) : Prop := Below w.heap.size w W ∧ W.cell? ⟨w.heap.size, 0, none⟩ = some (.slice so n cap) ∧ W.cell? ⟨w.heap.size + 1, 0, none⟩ = some (.slice so' n cap') ∧ w.heap.size + 2 ≤ W.heap.size
theorem SGr.below {w W W' : World} {so so' : Option Addr} {n cap cap' : Nat} (h : SGr w so n cap so' cap' W) (hb : Below W.heap.size W W') : SGr w so n cap so' cap' W' := by
  obtain ⟨h1, h2, h3, h4⟩ := h
  exact ⟨h1.trans (hb.mono h1.size), (hb.cell (p := ⟨w.heap.size, 0, none⟩) (show w.heap.size < _ by omega)).trans h2, (hb.cell (p := ⟨w.heap.size + 1, 0, none⟩) (show w.heap.size + 1 < _ by omega)).trans h3, Nat.le_trans h4 hb.size⟩
theorem SGr.start (w : World) (so so' : Option Addr) (n cap cap' : Nat) : SGr w so n cap so' cap' ((w.alloc (.cells #[.slice so n cap] 24)).alloc (.cells #[.slice so' n cap'] 24)) :=
  ⟨((Below.refl _ _).alloc (Nat.le_refl _) _).alloc (by simp) _, (one_cell ((Below.heap_alloc _ _ _ (by simp)).trans (new_block_at w _ rfl))).1, (one_cell (new_block_at _ _ (by simp))).1, by simp⟩
theorem keep_sgr {w W W' : World} {g o g' o' n cap cap' j : Nat} {k1 a1 b1 c1 d1 p1 k2 a2 b2 c2 d2 p2 : Int} {T1 T2 : ByteArray} {so1 so2 : Option Addr} {n1 cap1 n2 cap2 : Nat} {M : ByteArray} {q1 q2 : Int} (hg : g < w.heap.size) (hg' : g' < w.heap.size) (hb : Below W.heap.size W W') (h : Hid (SGr w (some ⟨g, o, none⟩) n cap (some ⟨g', o', none⟩) cap' W) ∧ W.cell? ⟨w.heap.size, 0, none⟩ = some (.slice (some ⟨g, o, none⟩) n cap) ∧ W.cell? ⟨w.heap.size + 1, 0, none⟩ = some (.slice (some ⟨g', o', none⟩) n cap') ∧ W.cell? ⟨g, o + j * 10, none⟩ = some (.string M) ∧ W.cell? ⟨g, o + j * 10 + 1, none⟩ = some (.int .i64 k1) ∧ W.cell? ⟨g, o + j * 10 + 2, none⟩ = some (.string T1) ∧ W.cell? ⟨g, o + j * 10 + 3, none⟩ = some (.int .u64 a1) ∧ W.cell? ⟨g, o + j * 10 + 4, none⟩ = some (.int .u64 b1) ∧ W.cell? ⟨g, o + j * 10 + 5, none⟩ = some (.int .u64 c1) ∧ W.cell? ⟨g, o + j * 10 + 6, none⟩ = some (.int .u64 d1) ∧ W.cell? ⟨g, o + j * 10 + 7, none⟩ = some (.slice so1 n1 cap1) ∧ W.cell? ⟨g, o + j * 10 + 8, none⟩ = some (.int .i64 p1) ∧ W.cell? ⟨g, o + j * 10 + 9, none⟩ = some (.int .i64 q1) ∧ W.cell? ⟨g', o' + j * 10, none⟩ = some (.string M) ∧ W.cell? ⟨g', o' + j * 10 + 1, none⟩ = some (.int .i64 k2) ∧ W.cell? ⟨g', o' + j * 10 + 2, none⟩ = some (.string T2) ∧ W.cell? ⟨g', o' + j * 10 + 3, none⟩ = some (.int .u64 a2) ∧ W.cell? ⟨g', o' + j * 10 + 4, none⟩ = some (.int .u64 b2) ∧ W.cell? ⟨g', o' + j * 10 + 5, none⟩ = some (.int .u64 c2) ∧ W.cell? ⟨g', o' + j * 10 + 6, none⟩ = some (.int .u64 d2) ∧ W.cell? ⟨g', o' + j * 10 + 7, none⟩ = some (.slice so2 n2 cap2) ∧ W.cell? ⟨g', o' + j * 10 + 8, none⟩ = some (.int .i64 p2) ∧ W.cell? ⟨g', o' + j * 10 + 9, none⟩ = some (.int .i64 q2)) :
    Hid (SGr w (some ⟨g, o, none⟩) n cap (some ⟨g', o', none⟩) cap' W') ∧ W'.cell? ⟨w.heap.size, 0, none⟩ = some (.slice (some ⟨g, o, none⟩) n cap) ∧ W'.cell? ⟨w.heap.size + 1, 0, none⟩ = some (.slice (some ⟨g', o', none⟩) n cap') ∧ W'.cell? ⟨g, o + j * 10, none⟩ = some (.string M) ∧ W'.cell? ⟨g, o + j * 10 + 1, none⟩ = some (.int .i64 k1) ∧ W'.cell? ⟨g, o + j * 10 + 2, none⟩ = some (.string T1) ∧ W'.cell? ⟨g, o + j * 10 + 3, none⟩ = some (.int .u64 a1) ∧ W'.cell? ⟨g, o + j * 10 + 4, none⟩ = some (.int .u64 b1) ∧ W'.cell? ⟨g, o + j * 10 + 5, none⟩ = some (.int .u64 c1) ∧ W'.cell? ⟨g, o + j * 10 + 6, none⟩ = some (.int .u64 d1) ∧ W'.cell? ⟨g, o + j * 10 + 7, none⟩ = some (.slice so1 n1 cap1) ∧ W'.cell? ⟨g, o + j * 10 + 8, none⟩ = some (.int .i64 p1) ∧ W'.cell? ⟨g, o + j * 10 + 9, none⟩ = some (.int .i64 q1) ∧ W'.cell? ⟨g', o' + j * 10, none⟩ = some (.string M) ∧ W'.cell? ⟨g', o' + j * 10 + 1, none⟩ = some (.int .i64 k2) ∧ W'.cell? ⟨g', o' + j * 10 + 2, none⟩ = some (.string T2) ∧ W'.cell? ⟨g', o' + j * 10 + 3, none⟩ = some (.int .u64 a2) ∧ W'.cell? ⟨g', o' + j * 10 + 4, none⟩ = some (.int .u64 b2) ∧ W'.cell? ⟨g', o' + j * 10 + 5, none⟩ = some (.int .u64 c2) ∧ W'.cell? ⟨g', o' + j * 10 + 6, none⟩ = some (.int .u64 d2) ∧ W'.cell? ⟨g', o' + j * 10 + 7, none⟩ = some (.slice so2 n2 cap2) ∧ W'.cell? ⟨g', o' + j * 10 + 8, none⟩ = some (.int .i64 p2) ∧ W'.cell? ⟨g', o' + j * 10 + 9, none⟩ = some (.int .i64 q2) := by
  obtain ⟨h0, h1, h2, x, x0, x1, x2, x3, x4, x5, x6, x7, x8, y, y0, y1, y2, y3, y4, y5, y6, y7, y8⟩ := h
  have hs := h0.out.2.2.2
  have eg : ∀ i, W'.cell? ⟨g, i, none⟩ = W.cell? ⟨g, i, none⟩ := fun i => hb.cell (p := ⟨g, i, none⟩) (show g < _ by omega)
  have eg' : ∀ i, W'.cell? ⟨g', i, none⟩ = W.cell? ⟨g', i, none⟩ := fun i => hb.cell (p := ⟨g', i, none⟩) (show g' < _ by omega)
  have h3 := h0.out.below hb
  exact ⟨hid h3, h3.2.1, h3.2.2.1, (eg _).trans x, (eg _).trans x0, (eg _).trans x1, (eg _).trans x2, (eg _).trans x3, (eg _).trans x4, (eg _).trans x5, (eg _).trans x6, (eg _).trans x7, (eg _).trans x8, (eg' _).trans y, (eg' _).trans y0, (eg' _).trans y1, (eg' _).trans y2, (eg' _).trans y3, (eg' _).trans y4, (eg' _).trans y5, (eg' _).trans y6, (eg' _).trans y7, (eg' _).trans y8⟩
set_option maxRecDepth 100000 in
set_option maxHeartbeats 8000000 in
theorem zsg_row_false (so so' : Option Addr) (n cap cap' : Nat) (w : World) (hn : n ≤ 9223372036854775807)
    (HC : Hid (∀ j, j < n → ∃ g o g' o' M k1 T1 a1 b1 c1 d1 so1 n1 cap1 p1 q1 k2 T2 a2 b2 c2 d2 so2 n2 cap2 p2 q2, so = some ⟨g, o, none⟩ ∧ so' = some ⟨g', o', none⟩ ∧ g < w.heap.size ∧ g' < w.heap.size ∧ (w.cell? ⟨g, o + j * 10, none⟩ = some (.string M) ∧ w.cell? ⟨g, o + j * 10 + 1, none⟩ = some (.int .i64 k1) ∧ w.cell? ⟨g, o + j * 10 + 2, none⟩ = some (.string T1) ∧ w.cell? ⟨g, o + j * 10 + 3, none⟩ = some (.int .u64 a1) ∧ w.cell? ⟨g, o + j * 10 + 4, none⟩ = some (.int .u64 b1) ∧ w.cell? ⟨g, o + j * 10 + 5, none⟩ = some (.int .u64 c1) ∧ w.cell? ⟨g, o + j * 10 + 6, none⟩ = some (.int .u64 d1) ∧ w.cell? ⟨g, o + j * 10 + 7, none⟩ = some (.slice so1 n1 cap1) ∧ w.cell? ⟨g, o + j * 10 + 8, none⟩ = some (.int .i64 p1) ∧ w.cell? ⟨g, o + j * 10 + 9, none⟩ = some (.int .i64 q1)) ∧ (w.cell? ⟨g', o' + j * 10, none⟩ = some (.string M) ∧ w.cell? ⟨g', o' + j * 10 + 1, none⟩ = some (.int .i64 k2) ∧ w.cell? ⟨g', o' + j * 10 + 2, none⟩ = some (.string T2) ∧ w.cell? ⟨g', o' + j * 10 + 3, none⟩ = some (.int .u64 a2) ∧ w.cell? ⟨g', o' + j * 10 + 4, none⟩ = some (.int .u64 b2) ∧ w.cell? ⟨g', o' + j * 10 + 5, none⟩ = some (.int .u64 c2) ∧ w.cell? ⟨g', o' + j * 10 + 6, none⟩ = some (.int .u64 d2) ∧ w.cell? ⟨g', o' + j * 10 + 7, none⟩ = some (.slice so2 n2 cap2) ∧ w.cell? ⟨g', o' + j * 10 + 8, none⟩ = some (.int .i64 p2) ∧ w.cell? ⟨g', o' + j * 10 + 9, none⟩ = some (.int .i64 q2)) ∧
      ∀ W : World, Below w.heap.size w W → Calls Tryz.prog 34 #[.agg (r8 k1 T1 a1 b1 c1 d1 so1 n1 cap1 p1).toArray, .agg (r8 k2 T2 a2 b2 c2 d2 so2 n2 cap2 p2).toArray, .bool false] W fun e w' => e = .returned (.bool true) ∧ Below W.heap.size W w')) :
    Calls Tryz.prog 15 #[.agg #[.slice so n cap], .agg #[.slice so' n cap'], .bool false] w fun e w' => e = .returned (.bool true) ∧ Below w.heap.size w w' := by
  have HB0 := hid (SGr.start w so so' n cap cap')
  go_enter Tryz.func15, Tryz.ntmps15
  go_wp2_with fail
  go_loopw [7] (fun i wr => ∃ j : Nat, i = .int .i64 (j : Int) ∧ j ≤ n ∧ Hid (SGr w so n cap so' cap' wr)) (fun i _ => n - (intOf i).toNat)
  case atStart => exact ⟨0, rfl, by omega, HB0⟩
  case round =>
    obtain ⟨j, rfl, hj, HW⟩ := hrel
    obtain ⟨_, b1, b2, _⟩ := HW.out
    clear HB0
    by_cases hjn : j < n
    · have hjI : (j : Int) < (n : Int) := by omega
      obtain ⟨g, o, g', o', M, k1, T1, a1, b1', c1, d1, so1, n1, cap1, p1, q1, k2, T2, a2, b2', c2, d2, so2, n2, cap2, p2, q2, rfl, rfl, hg, hg', ⟨x, x0, x1, x2, x3, x4, x5, x6, x7, x8⟩, ⟨y, y0, y1, y2, y3, y4, y5, y6, y7, y8⟩, hc⟩ := HC.out j hjn
      have HK := hid hc
      clear hc HC
      dsimp only [r8] at HK
      have ew : ∀ q i, q < w.heap.size → wr.cell? ⟨q, i, none⟩ = w.cell? ⟨q, i, none⟩ := fun q i hq => HW.out.1.cell (p := ⟨q, i, none⟩) hq
      have S1 : (fun W => Hid (SGr w (some ⟨g, o, none⟩) n cap (some ⟨g', o', none⟩) cap' W) ∧ W.cell? ⟨w.heap.size, 0, none⟩ = some (.slice (some ⟨g, o, none⟩) n cap) ∧ W.cell? ⟨w.heap.size + 1, 0, none⟩ = some (.slice (some ⟨g', o', none⟩) n cap') ∧ W.cell? ⟨g, o + j * 10, none⟩ = some (.string M) ∧ W.cell? ⟨g, o + j * 10 + 1, none⟩ = some (.int .i64 k1) ∧ W.cell? ⟨g, o + j * 10 + 2, none⟩ = some (.string T1) ∧ W.cell? ⟨g, o + j * 10 + 3, none⟩ = some (.int .u64 a1) ∧ W.cell? ⟨g, o + j * 10 + 4, none⟩ = some (.int .u64 b1') ∧ W.cell? ⟨g, o + j * 10 + 5, none⟩ = some (.int .u64 c1) ∧ W.cell? ⟨g, o + j * 10 + 6, none⟩ = some (.int .u64 d1) ∧ W.cell? ⟨g, o + j * 10 + 7, none⟩ = some (.slice so1 n1 cap1) ∧ W.cell? ⟨g, o + j * 10 + 8, none⟩ = some (.int .i64 p1) ∧ W.cell? ⟨g, o + j * 10 + 9, none⟩ = some (.int .i64 q1) ∧ W.cell? ⟨g', o' + j * 10, none⟩ = some (.string M) ∧ W.cell? ⟨g', o' + j * 10 + 1, none⟩ = some (.int .i64 k2) ∧ W.cell? ⟨g', o' + j * 10 + 2, none⟩ = some (.string T2) ∧ W.cell? ⟨g', o' + j * 10 + 3, none⟩ = some (.int .u64 a2) ∧ W.cell? ⟨g', o' + j * 10 + 4, none⟩ = some (.int .u64 b2') ∧ W.cell? ⟨g', o' + j * 10 + 5, none⟩ = some (.int .u64 c2) ∧ W.cell? ⟨g', o' + j * 10 + 6, none⟩ = some (.int .u64 d2) ∧ W.cell? ⟨g', o' + j * 10 + 7, none⟩ = some (.slice so2 n2 cap2) ∧ W.cell? ⟨g', o' + j * 10 + 8, none⟩ = some (.int .i64 p2) ∧ W.cell? ⟨g', o' + j * 10 + 9, none⟩ = some (.int .i64 q2)) wr.drew := keep_sgr hg hg' (Below.refl _ wr).drew ⟨HW, b1, b2, (ew _ _ hg).trans x, (ew _ _ hg).trans x0, (ew _ _ hg).trans x1, (ew _ _ hg).trans x2, (ew _ _ hg).trans x3, (ew _ _ hg).trans x4, (ew _ _ hg).trans x5, (ew _ _ hg).trans x6, (ew _ _ hg).trans x7, (ew _ _ hg).trans x8, (ew _ _ hg').trans y, (ew _ _ hg').trans y0, (ew _ _ hg').trans y1, (ew _ _ hg').trans y2, (ew _ _ hg').trans y3, (ew _ _ hg').trans y4, (ew _ _ hg').trans y5, (ew _ _ hg').trans y6, (ew _ _ hg').trans y7, (ew _ _ hg').trans y8⟩
      clear ew x x0 x1 x2 x3 x4 x5 x6 x7 x8 y y0 y1 y2 y3 y4 y5 y6 y7 y8
      go_wp2_with fail
      go_region_held3 (fun W => Hid (SGr w (some ⟨g, o, none⟩) n cap (some ⟨g', o', none⟩) cap' W) ∧ W.cell? ⟨w.heap.size, 0, none⟩ = some (.slice (some ⟨g, o, none⟩) n cap) ∧ W.cell? ⟨w.heap.size + 1, 0, none⟩ = some (.slice (some ⟨g', o', none⟩) n cap') ∧ W.cell? ⟨g, o + j * 10, none⟩ = some (.string M) ∧ W.cell? ⟨g, o + j * 10 + 1, none⟩ = some (.int .i64 k1) ∧ W.cell? ⟨g, o + j * 10 + 2, none⟩ = some (.string T1) ∧ W.cell? ⟨g, o + j * 10 + 3, none⟩ = some (.int .u64 a1) ∧ W.cell? ⟨g, o + j * 10 + 4, none⟩ = some (.int .u64 b1') ∧ W.cell? ⟨g, o + j * 10 + 5, none⟩ = some (.int .u64 c1) ∧ W.cell? ⟨g, o + j * 10 + 6, none⟩ = some (.int .u64 d1) ∧ W.cell? ⟨g, o + j * 10 + 7, none⟩ = some (.slice so1 n1 cap1) ∧ W.cell? ⟨g, o + j * 10 + 8, none⟩ = some (.int .i64 p1) ∧ W.cell? ⟨g, o + j * 10 + 9, none⟩ = some (.int .i64 q1) ∧ W.cell? ⟨g', o' + j * 10, none⟩ = some (.string M) ∧ W.cell? ⟨g', o' + j * 10 + 1, none⟩ = some (.int .i64 k2) ∧ W.cell? ⟨g', o' + j * 10 + 2, none⟩ = some (.string T2) ∧ W.cell? ⟨g', o' + j * 10 + 3, none⟩ = some (.int .u64 a2) ∧ W.cell? ⟨g', o' + j * 10 + 4, none⟩ = some (.int .u64 b2') ∧ W.cell? ⟨g', o' + j * 10 + 5, none⟩ = some (.int .u64 c2) ∧ W.cell? ⟨g', o' + j * 10 + 6, none⟩ = some (.int .u64 d2) ∧ W.cell? ⟨g', o' + j * 10 + 7, none⟩ = some (.slice so2 n2 cap2) ∧ W.cell? ⟨g', o' + j * 10 + 8, none⟩ = some (.int .i64 p2) ∧ W.cell? ⟨g', o' + j * 10 + 9, none⟩ = some (.int .i64 q2)) (first | assumption | exact keep_sgr hg hg' (by assumption) (by assumption)) (first | (go_at_call 34; refine (HK.out _ ?hh).mono ?_; (case hh => exact S1.1.out.1); rintro e wq ⟨rfl, hbq⟩))
      have S3 : (fun W => Hid (SGr w (some ⟨g, o, none⟩) n cap (some ⟨g', o', none⟩) cap' W) ∧ W.cell? ⟨w.heap.size, 0, none⟩ = some (.slice (some ⟨g, o, none⟩) n cap) ∧ W.cell? ⟨w.heap.size + 1, 0, none⟩ = some (.slice (some ⟨g', o', none⟩) n cap') ∧ W.cell? ⟨g, o + j * 10, none⟩ = some (.string M) ∧ W.cell? ⟨g, o + j * 10 + 1, none⟩ = some (.int .i64 k1) ∧ W.cell? ⟨g, o + j * 10 + 2, none⟩ = some (.string T1) ∧ W.cell? ⟨g, o + j * 10 + 3, none⟩ = some (.int .u64 a1) ∧ W.cell? ⟨g, o + j * 10 + 4, none⟩ = some (.int .u64 b1') ∧ W.cell? ⟨g, o + j * 10 + 5, none⟩ = some (.int .u64 c1) ∧ W.cell? ⟨g, o + j * 10 + 6, none⟩ = some (.int .u64 d1) ∧ W.cell? ⟨g, o + j * 10 + 7, none⟩ = some (.slice so1 n1 cap1) ∧ W.cell? ⟨g, o + j * 10 + 8, none⟩ = some (.int .i64 p1) ∧ W.cell? ⟨g, o + j * 10 + 9, none⟩ = some (.int .i64 q1) ∧ W.cell? ⟨g', o' + j * 10, none⟩ = some (.string M) ∧ W.cell? ⟨g', o' + j * 10 + 1, none⟩ = some (.int .i64 k2) ∧ W.cell? ⟨g', o' + j * 10 + 2, none⟩ = some (.string T2) ∧ W.cell? ⟨g', o' + j * 10 + 3, none⟩ = some (.int .u64 a2) ∧ W.cell? ⟨g', o' + j * 10 + 4, none⟩ = some (.int .u64 b2') ∧ W.cell? ⟨g', o' + j * 10 + 5, none⟩ = some (.int .u64 c2) ∧ W.cell? ⟨g', o' + j * 10 + 6, none⟩ = some (.int .u64 d2) ∧ W.cell? ⟨g', o' + j * 10 + 7, none⟩ = some (.slice so2 n2 cap2) ∧ W.cell? ⟨g', o' + j * 10 + 8, none⟩ = some (.int .i64 p2) ∧ W.cell? ⟨g', o' + j * 10 + 9, none⟩ = some (.int .i64 q2)) wq := by assumption
      obtain ⟨HW3, c1', c2', x, x0, x1, x2, x3, x4, x5, x6, x7, x8, y, y0, y1, y2, y3, y4, y5, y6, y7, y8⟩ := S3
      clear S1 hbq b1 b2 HW HK x0 x1 x2 x3 x4 x5 x6 x7 y0 y1 y2 y3 y4 y5 y6 y7
      go_wp2_with fail
      go_quiet (fail)
      go_wp2_with fail
      go_roundw
      case rel => exact ⟨j + 1, by go_num, by omega, hid (HW3.out.below (below_drewN (Below.refl _ _) _))⟩
      case measure => simp [intOf]; omega
    · have hjI : decide ((j : Int) < (n : Int)) = false := by simp; omega
      have HB : Hid (Below w.heap.size w wr) := HW.out.1
      clear HW
      go_wp2_with fail
      go_ret
      exact ⟨rfl, HB.out⟩
set_option maxRecDepth 100000 in
set_option maxHeartbeats 8000000 in
theorem zsg_row_true (so so' : Option Addr) (n cap cap' : Nat) (w : World) (hn : n ≤ 9223372036854775807)
    (HC : Hid (∀ j, j < n → ∃ g o g' o' M k1 T1 a1 b1 c1 d1 so1 n1 cap1 p1 q1 k2 T2 a2 b2 c2 d2 so2 n2 cap2 p2, so = some ⟨g, o, none⟩ ∧ so' = some ⟨g', o', none⟩ ∧ g < w.heap.size ∧ g' < w.heap.size ∧ (w.cell? ⟨g, o + j * 10, none⟩ = some (.string M) ∧ w.cell? ⟨g, o + j * 10 + 1, none⟩ = some (.int .i64 k1) ∧ w.cell? ⟨g, o + j * 10 + 2, none⟩ = some (.string T1) ∧ w.cell? ⟨g, o + j * 10 + 3, none⟩ = some (.int .u64 a1) ∧ w.cell? ⟨g, o + j * 10 + 4, none⟩ = some (.int .u64 b1) ∧ w.cell? ⟨g, o + j * 10 + 5, none⟩ = some (.int .u64 c1) ∧ w.cell? ⟨g, o + j * 10 + 6, none⟩ = some (.int .u64 d1) ∧ w.cell? ⟨g, o + j * 10 + 7, none⟩ = some (.slice so1 n1 cap1) ∧ w.cell? ⟨g, o + j * 10 + 8, none⟩ = some (.int .i64 p1) ∧ w.cell? ⟨g, o + j * 10 + 9, none⟩ = some (.int .i64 q1)) ∧ (w.cell? ⟨g', o' + j * 10, none⟩ = some (.string M) ∧ w.cell? ⟨g', o' + j * 10 + 1, none⟩ = some (.int .i64 k2) ∧ w.cell? ⟨g', o' + j * 10 + 2, none⟩ = some (.string T2) ∧ w.cell? ⟨g', o' + j * 10 + 3, none⟩ = some (.int .u64 a2) ∧ w.cell? ⟨g', o' + j * 10 + 4, none⟩ = some (.int .u64 b2) ∧ w.cell? ⟨g', o' + j * 10 + 5, none⟩ = some (.int .u64 c2) ∧ w.cell? ⟨g', o' + j * 10 + 6, none⟩ = some (.int .u64 d2) ∧ w.cell? ⟨g', o' + j * 10 + 7, none⟩ = some (.slice so2 n2 cap2) ∧ w.cell? ⟨g', o' + j * 10 + 8, none⟩ = some (.int .i64 p2) ∧ w.cell? ⟨g', o' + j * 10 + 9, none⟩ = some (.int .i64 q1)) ∧
      ∀ W : World, Below w.heap.size w W → Calls Tryz.prog 34 #[.agg (r8 k1 T1 a1 b1 c1 d1 so1 n1 cap1 p1).toArray, .agg (r8 k2 T2 a2 b2 c2 d2 so2 n2 cap2 p2).toArray, .bool true] W fun e w' => e = .returned (.bool true) ∧ Below W.heap.size W w')) :
    Calls Tryz.prog 15 #[.agg #[.slice so n cap], .agg #[.slice so' n cap'], .bool true] w fun e w' => e = .returned (.bool true) ∧ Below w.heap.size w w' := by
  have HB0 := hid (SGr.start w so so' n cap cap')
  go_enter Tryz.func15, Tryz.ntmps15
  go_wp2_with fail
  go_loopw [7] (fun i wr => ∃ j : Nat, i = .int .i64 (j : Int) ∧ j ≤ n ∧ Hid (SGr w so n cap so' cap' wr)) (fun i _ => n - (intOf i).toNat)
  case atStart => exact ⟨0, rfl, by omega, HB0⟩
  case round =>
    obtain ⟨j, rfl, hj, HW⟩ := hrel
    obtain ⟨_, b1, b2, _⟩ := HW.out
    clear HB0
    by_cases hjn : j < n
    · have hjI : (j : Int) < (n : Int) := by omega
      obtain ⟨g, o, g', o', M, k1, T1, a1, b1', c1, d1, so1, n1, cap1, p1, q1, k2, T2, a2, b2', c2, d2, so2, n2, cap2, p2, rfl, rfl, hg, hg', ⟨x, x0, x1, x2, x3, x4, x5, x6, x7, x8⟩, ⟨y, y0, y1, y2, y3, y4, y5, y6, y7, y8⟩, hc⟩ := HC.out j hjn
      have HK := hid hc
      clear hc HC
      dsimp only [r8] at HK
      have ew : ∀ q i, q < w.heap.size → wr.cell? ⟨q, i, none⟩ = w.cell? ⟨q, i, none⟩ := fun q i hq => HW.out.1.cell (p := ⟨q, i, none⟩) hq
      have S1 : (fun W => Hid (SGr w (some ⟨g, o, none⟩) n cap (some ⟨g', o', none⟩) cap' W) ∧ W.cell? ⟨w.heap.size, 0, none⟩ = some (.slice (some ⟨g, o, none⟩) n cap) ∧ W.cell? ⟨w.heap.size + 1, 0, none⟩ = some (.slice (some ⟨g', o', none⟩) n cap') ∧ W.cell? ⟨g, o + j * 10, none⟩ = some (.string M) ∧ W.cell? ⟨g, o + j * 10 + 1, none⟩ = some (.int .i64 k1) ∧ W.cell? ⟨g, o + j * 10 + 2, none⟩ = some (.string T1) ∧ W.cell? ⟨g, o + j * 10 + 3, none⟩ = some (.int .u64 a1) ∧ W.cell? ⟨g, o + j * 10 + 4, none⟩ = some (.int .u64 b1') ∧ W.cell? ⟨g, o + j * 10 + 5, none⟩ = some (.int .u64 c1) ∧ W.cell? ⟨g, o + j * 10 + 6, none⟩ = some (.int .u64 d1) ∧ W.cell? ⟨g, o + j * 10 + 7, none⟩ = some (.slice so1 n1 cap1) ∧ W.cell? ⟨g, o + j * 10 + 8, none⟩ = some (.int .i64 p1) ∧ W.cell? ⟨g, o + j * 10 + 9, none⟩ = some (.int .i64 q1) ∧ W.cell? ⟨g', o' + j * 10, none⟩ = some (.string M) ∧ W.cell? ⟨g', o' + j * 10 + 1, none⟩ = some (.int .i64 k2) ∧ W.cell? ⟨g', o' + j * 10 + 2, none⟩ = some (.string T2) ∧ W.cell? ⟨g', o' + j * 10 + 3, none⟩ = some (.int .u64 a2) ∧ W.cell? ⟨g', o' + j * 10 + 4, none⟩ = some (.int .u64 b2') ∧ W.cell? ⟨g', o' + j * 10 + 5, none⟩ = some (.int .u64 c2) ∧ W.cell? ⟨g', o' + j * 10 + 6, none⟩ = some (.int .u64 d2) ∧ W.cell? ⟨g', o' + j * 10 + 7, none⟩ = some (.slice so2 n2 cap2) ∧ W.cell? ⟨g', o' + j * 10 + 8, none⟩ = some (.int .i64 p2) ∧ W.cell? ⟨g', o' + j * 10 + 9, none⟩ = some (.int .i64 q1)) wr.drew := keep_sgr hg hg' (Below.refl _ wr).drew ⟨HW, b1, b2, (ew _ _ hg).trans x, (ew _ _ hg).trans x0, (ew _ _ hg).trans x1, (ew _ _ hg).trans x2, (ew _ _ hg).trans x3, (ew _ _ hg).trans x4, (ew _ _ hg).trans x5, (ew _ _ hg).trans x6, (ew _ _ hg).trans x7, (ew _ _ hg).trans x8, (ew _ _ hg').trans y, (ew _ _ hg').trans y0, (ew _ _ hg').trans y1, (ew _ _ hg').trans y2, (ew _ _ hg').trans y3, (ew _ _ hg').trans y4, (ew _ _ hg').trans y5, (ew _ _ hg').trans y6, (ew _ _ hg').trans y7, (ew _ _ hg').trans y8⟩
      clear ew x x0 x1 x2 x3 x4 x5 x6 x7 x8 y y0 y1 y2 y3 y4 y5 y6 y7 y8
      go_wp2_with fail
      go_region_held3 (fun W => Hid (SGr w (some ⟨g, o, none⟩) n cap (some ⟨g', o', none⟩) cap' W) ∧ W.cell? ⟨w.heap.size, 0, none⟩ = some (.slice (some ⟨g, o, none⟩) n cap) ∧ W.cell? ⟨w.heap.size + 1, 0, none⟩ = some (.slice (some ⟨g', o', none⟩) n cap') ∧ W.cell? ⟨g, o + j * 10, none⟩ = some (.string M) ∧ W.cell? ⟨g, o + j * 10 + 1, none⟩ = some (.int .i64 k1) ∧ W.cell? ⟨g, o + j * 10 + 2, none⟩ = some (.string T1) ∧ W.cell? ⟨g, o + j * 10 + 3, none⟩ = some (.int .u64 a1) ∧ W.cell? ⟨g, o + j * 10 + 4, none⟩ = some (.int .u64 b1') ∧ W.cell? ⟨g, o + j * 10 + 5, none⟩ = some (.int .u64 c1) ∧ W.cell? ⟨g, o + j * 10 + 6, none⟩ = some (.int .u64 d1) ∧ W.cell? ⟨g, o + j * 10 + 7, none⟩ = some (.slice so1 n1 cap1) ∧ W.cell? ⟨g, o + j * 10 + 8, none⟩ = some (.int .i64 p1) ∧ W.cell? ⟨g, o + j * 10 + 9, none⟩ = some (.int .i64 q1) ∧ W.cell? ⟨g', o' + j * 10, none⟩ = some (.string M) ∧ W.cell? ⟨g', o' + j * 10 + 1, none⟩ = some (.int .i64 k2) ∧ W.cell? ⟨g', o' + j * 10 + 2, none⟩ = some (.string T2) ∧ W.cell? ⟨g', o' + j * 10 + 3, none⟩ = some (.int .u64 a2) ∧ W.cell? ⟨g', o' + j * 10 + 4, none⟩ = some (.int .u64 b2') ∧ W.cell? ⟨g', o' + j * 10 + 5, none⟩ = some (.int .u64 c2) ∧ W.cell? ⟨g', o' + j * 10 + 6, none⟩ = some (.int .u64 d2) ∧ W.cell? ⟨g', o' + j * 10 + 7, none⟩ = some (.slice so2 n2 cap2) ∧ W.cell? ⟨g', o' + j * 10 + 8, none⟩ = some (.int .i64 p2) ∧ W.cell? ⟨g', o' + j * 10 + 9, none⟩ = some (.int .i64 q1)) (first | assumption | exact keep_sgr hg hg' (by assumption) (by assumption)) (first | (go_at_call 34; refine (HK.out _ ?hh).mono ?_; (case hh => exact S1.1.out.1); rintro e wq ⟨rfl, hbq⟩))
      have S3 : (fun W => Hid (SGr w (some ⟨g, o, none⟩) n cap (some ⟨g', o', none⟩) cap' W) ∧ W.cell? ⟨w.heap.size, 0, none⟩ = some (.slice (some ⟨g, o, none⟩) n cap) ∧ W.cell? ⟨w.heap.size + 1, 0, none⟩ = some (.slice (some ⟨g', o', none⟩) n cap') ∧ W.cell? ⟨g, o + j * 10, none⟩ = some (.string M) ∧ W.cell? ⟨g, o + j * 10 + 1, none⟩ = some (.int .i64 k1) ∧ W.cell? ⟨g, o + j * 10 + 2, none⟩ = some (.string T1) ∧ W.cell? ⟨g, o + j * 10 + 3, none⟩ = some (.int .u64 a1) ∧ W.cell? ⟨g, o + j * 10 + 4, none⟩ = some (.int .u64 b1') ∧ W.cell? ⟨g, o + j * 10 + 5, none⟩ = some (.int .u64 c1) ∧ W.cell? ⟨g, o + j * 10 + 6, none⟩ = some (.int .u64 d1) ∧ W.cell? ⟨g, o + j * 10 + 7, none⟩ = some (.slice so1 n1 cap1) ∧ W.cell? ⟨g, o + j * 10 + 8, none⟩ = some (.int .i64 p1) ∧ W.cell? ⟨g, o + j * 10 + 9, none⟩ = some (.int .i64 q1) ∧ W.cell? ⟨g', o' + j * 10, none⟩ = some (.string M) ∧ W.cell? ⟨g', o' + j * 10 + 1, none⟩ = some (.int .i64 k2) ∧ W.cell? ⟨g', o' + j * 10 + 2, none⟩ = some (.string T2) ∧ W.cell? ⟨g', o' + j * 10 + 3, none⟩ = some (.int .u64 a2) ∧ W.cell? ⟨g', o' + j * 10 + 4, none⟩ = some (.int .u64 b2') ∧ W.cell? ⟨g', o' + j * 10 + 5, none⟩ = some (.int .u64 c2) ∧ W.cell? ⟨g', o' + j * 10 + 6, none⟩ = some (.int .u64 d2) ∧ W.cell? ⟨g', o' + j * 10 + 7, none⟩ = some (.slice so2 n2 cap2) ∧ W.cell? ⟨g', o' + j * 10 + 8, none⟩ = some (.int .i64 p2) ∧ W.cell? ⟨g', o' + j * 10 + 9, none⟩ = some (.int .i64 q1)) wq := by assumption
      obtain ⟨HW3, c1', c2', x, x0, x1, x2, x3, x4, x5, x6, x7, x8, y, y0, y1, y2, y3, y4, y5, y6, y7, y8⟩ := S3
      clear S1 hbq b1 b2 HW HK x0 x1 x2 x3 x4 x5 x6 x7 y0 y1 y2 y3 y4 y5 y6 y7
      go_wp2_with fail
      go_quiet (fail)
      go_wp2_with fail
      go_roundw
      case rel => exact ⟨j + 1, by go_num, by omega, hid (HW3.out.below (below_drewN (Below.refl _ _) _))⟩
      case measure => simp [intOf]; omega
    · have hjI : decide ((j : Int) < (n : Int)) = false := by simp; omega
      have HB : Hid (Below w.heap.size w wr) := HW.out.1
      clear HW
      go_wp2_with fail
      go_ret
      exact ⟨rfl, HB.out⟩
/-- Two grammars in memory are one (with their places, if fl). -/
def SmG (fl : Bool) (xs ys : List Rr) : Prop := ys.length = xs.length ∧ ∀ j (h1 : j < xs.length) (h2 : j < ys.length), ys[j].1 = xs[j].1 ∧ SmR fl xs[j].2.1 ys[j].2.1 ∧ (fl = true → ys[j].2.2 = xs[j].2.2)
theorem SmG.refl (fl : Bool) (xs : List Rr) : SmG fl xs xs := ⟨rfl, fun j _ _ => ⟨rfl, SmR.refl fl _, fun _ => rfl⟩⟩
/-- Same at two grammars in memory that are one. -/
theorem zsg_all (fl : Bool) {so so' : Option Addr} {n cap cap' B B' : Nat} {xs ys : List Rr} {w : World} (h1 : RgIs w B so n xs) (h2 : RgIs w B' so' n ys) (hB : B ≤ w.heap.size) (hB' : B' ≤ w.heap.size) (hs : SmG fl xs ys) :
    Calls Tryz.prog 15 #[.agg #[.slice so n cap], .agg #[.slice so' n cap'], .bool fl] w fun e w' => e = .returned (.bool true) ∧ Below w.heap.size w w' := by
  have hm : n ≤ 9223372036854775807 := by have := h1.2.1; unfold maxLen at this; omega
  have l1 := h1.1
  have l2 := h2.1
  cases fl with
  | false =>
    refine zsg_row_false so so' n cap cap' w hm (fun j hj => ?_)
    obtain ⟨g, o, e1, hg, k1, T1, a1, b1, c1, d1, so1, n1, cap1, p1, t1, x, x0, x1, x2, x3, x4, x5, x6, x7, x8⟩ := h1.2.2 j (by omega)
    obtain ⟨g', o', e2, hg', k2, T2, a2, b2, c2, d2, so2, n2, cap2, p2, t2, y, y0, y1, y2, y3, y4, y5, y6, y7, y8⟩ := h2.2.2 j (by omega)
    obtain ⟨q1, q2, q3⟩ := hs.2 j (by omega) (by omega)
    refine ⟨g, o, g', o', _, k1, T1, a1, b1, c1, d1, so1, n1, cap1, p1, _, k2, T2, a2, b2, c2, d2, so2, n2, cap2, p2, _, e1, e2, by omega, by omega, ⟨x, x0, x1, x2, x3, x4, x5, x6, x7, x8⟩, ⟨by rw [← q1]; exact y, y0, y1, y2, y3, y4, y5, y6, y7, y8⟩, fun W hW => ?_⟩
    exact zsr_all false _ _ _ _ _ B B' W (Nat.lt_succ_self _) q2 (t1.below (hW.mono hB)) (t2.below (hW.mono hB')) (Nat.le_trans hB hW.size) (Nat.le_trans hB' hW.size)
  | true =>
    refine zsg_row_true so so' n cap cap' w hm (fun j hj => ?_)
    obtain ⟨g, o, e1, hg, k1, T1, a1, b1, c1, d1, so1, n1, cap1, p1, t1, x, x0, x1, x2, x3, x4, x5, x6, x7, x8⟩ := h1.2.2 j (by omega)
    obtain ⟨g', o', e2, hg', k2, T2, a2, b2, c2, d2, so2, n2, cap2, p2, t2, y, y0, y1, y2, y3, y4, y5, y6, y7, y8⟩ := h2.2.2 j (by omega)
    obtain ⟨q1, q2, q3⟩ := hs.2 j (by omega) (by omega)
    refine ⟨g, o, g', o', _, k1, T1, a1, b1, c1, d1, so1, n1, cap1, p1, _, k2, T2, a2, b2, c2, d2, so2, n2, cap2, p2, e1, e2, by omega, by omega, ⟨x, x0, x1, x2, x3, x4, x5, x6, x7, x8⟩, ⟨by rw [← q1]; exact y, y0, y1, y2, y3, y4, y5, y6, y7, by rw [← q3 rfl]; exact y8⟩, fun W hW => ?_⟩
    exact zsr_all true _ _ _ _ _ B B' W (Nat.lt_succ_self _) q2 (t1.below (hW.mono hB)) (t2.below (hW.mono hB')) (Nat.le_trans hB hW.size) (Nat.le_trans hB' hW.size)
end Go.Proofs.YtggmoneicdkamaaGreatDoor
