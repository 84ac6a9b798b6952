/-
  The document's Same at two rows of rules; what syntax.Parse answers at any text; muntinlaw04.SyntaxRows answers true, whatever its arguments. Conditions: those that each theorem names.
-/
import Derived.Test.YtkofhmmnlapnnaaDoorY20
import Derived.Test.YtkofhmmnlapnnaaDoorZPr
import Derived.Deep.AppendLies
import Derived.Deep.RegionLaw
namespace Go.Proofs.YtkofhmmnlapnnaaDoor
open Go.RowKit
set_option linter.unusedVariables false
/-- What stays while two grammars are held against each other. -/
def SG (w : World) (g n cap g' cap' : Nat) (W : World) : Prop := Below w.heap.size w W ∧ W.cell? ⟨w.heap.size, 0, none⟩ = some (.slice (some ⟨g, 0, none⟩) n cap) ∧ W.cell? ⟨w.heap.size + 1, 0, none⟩ = some (.slice (some ⟨g', 0, none⟩) n cap') ∧ w.heap.size + 2 ≤ W.heap.size
theorem SG.below {w W W' : World} {g n cap g' cap' : Nat} (h : SG w g n cap g' cap' W) (hb : Below W.heap.size W W') : SG w g n cap g' cap' W' := by
  obtain ⟨h1, h2, h3, h4⟩ := h
  exact ⟨h1.trans (hb.mono h1.size), (hb.cell (p := ⟨w.heap.size, 0, none⟩) (show w.heap.size < _ by omega)).trans h2, (hb.cell (p := ⟨w.heap.size + 1, 0, none⟩) (show w.heap.size + 1 < _ by omega)).trans h3, Nat.le_trans h4 hb.size⟩
theorem SG.start (w : World) (g cap g' cap' n : Nat) : SG w g n cap g' cap' ((w.alloc (.cells #[.slice (some ⟨g, 0, none⟩) n cap] 25)).alloc (.cells #[.slice (some ⟨g', 0, none⟩) n cap'] 25)) :=
  ⟨((Below.refl _ _).alloc (Nat.le_refl _) _).alloc (by simp) _, (one_cell ((Below.heap_alloc _ _ _ (by simp)).trans (new_block_at w _ rfl))).1, (one_cell (new_block_at _ _ (by simp))).1, by simp⟩
theorem keep_gr {w W W' : World} {g n cap g' cap' j : Nat} {kd1 C1 sl1 sc1 p1 kd2 C2 sl2 sc2 p2 : Nat} {M T1 T2 : ByteArray} {so1 so2 : Option Addr} (hg : g < w.heap.size) (hg' : g' < w.heap.size) (hb : Below W.heap.size W W') (h : Hid (SG w g n cap g' cap' W) ∧ W.cell? ⟨w.heap.size, 0, none⟩ = some (.slice (some ⟨g, 0, none⟩) n cap) ∧ W.cell? ⟨w.heap.size + 1, 0, none⟩ = some (.slice (some ⟨g', 0, none⟩) n cap') ∧ W.cell? ⟨g, j * 10, none⟩ = some (.string M) ∧ W.cell? ⟨g, j * 10 + 1, none⟩ = some (.int .i64 (kd1 : Int)) ∧ W.cell? ⟨g, j * 10 + 2, none⟩ = some (.string T1) ∧ W.cell? ⟨g, j * 10 + 3, none⟩ = some (.int .u64 (wd C1 0 : Nat)) ∧ W.cell? ⟨g, j * 10 + 4, none⟩ = some (.int .u64 (wd C1 1 : Nat)) ∧ W.cell? ⟨g, j * 10 + 5, none⟩ = some (.int .u64 (wd C1 2 : Nat)) ∧ W.cell? ⟨g, j * 10 + 6, none⟩ = some (.int .u64 (wd C1 3 : Nat)) ∧ W.cell? ⟨g, j * 10 + 7, none⟩ = some (.slice so1 sl1 sc1) ∧ W.cell? ⟨g, j * 10 + 8, none⟩ = some (.int .i64 (p1 : Int)) ∧ W.cell? ⟨g', j * 10, none⟩ = some (.string M) ∧ W.cell? ⟨g', j * 10 + 1, none⟩ = some (.int .i64 (kd2 : Int)) ∧ W.cell? ⟨g', j * 10 + 2, none⟩ = some (.string T2) ∧ W.cell? ⟨g', j * 10 + 3, none⟩ = some (.int .u64 (wd C2 0 : Nat)) ∧ W.cell? ⟨g', j * 10 + 4, none⟩ = some (.int .u64 (wd C2 1 : Nat)) ∧ W.cell? ⟨g', j * 10 + 5, none⟩ = some (.int .u64 (wd C2 2 : Nat)) ∧ W.cell? ⟨g', j * 10 + 6, none⟩ = some (.int .u64 (wd C2 3 : Nat)) ∧ W.cell? ⟨g', j * 10 + 7, none⟩ = some (.slice so2 sl2 sc2) ∧ W.cell? ⟨g', j * 10 + 8, none⟩ = some (.int .i64 (p2 : Int))) :
    Hid (SG w g n cap g' cap' W') ∧ W'.cell? ⟨w.heap.size, 0, none⟩ = some (.slice (some ⟨g, 0, none⟩) n cap) ∧ W'.cell? ⟨w.heap.size + 1, 0, none⟩ = some (.slice (some ⟨g', 0, none⟩) n cap') ∧ W'.cell? ⟨g, j * 10, none⟩ = some (.string M) ∧ W'.cell? ⟨g, j * 10 + 1, none⟩ = some (.int .i64 (kd1 : Int)) ∧ W'.cell? ⟨g, j * 10 + 2, none⟩ = some (.string T1) ∧ W'.cell? ⟨g, j * 10 + 3, none⟩ = some (.int .u64 (wd C1 0 : Nat)) ∧ W'.cell? ⟨g, j * 10 + 4, none⟩ = some (.int .u64 (wd C1 1 : Nat)) ∧ W'.cell? ⟨g, j * 10 + 5, none⟩ = some (.int .u64 (wd C1 2 : Nat)) ∧ W'.cell? ⟨g, j * 10 + 6, none⟩ = some (.int .u64 (wd C1 3 : Nat)) ∧ W'.cell? ⟨g, j * 10 + 7, none⟩ = some (.slice so1 sl1 sc1) ∧ W'.cell? ⟨g, j * 10 + 8, none⟩ = some (.int .i64 (p1 : Int)) ∧ W'.cell? ⟨g', j * 10, none⟩ = some (.string M) ∧ W'.cell? ⟨g', j * 10 + 1, none⟩ = some (.int .i64 (kd2 : Int)) ∧ W'.cell? ⟨g', j * 10 + 2, none⟩ = some (.string T2) ∧ W'.cell? ⟨g', j * 10 + 3, none⟩ = some (.int .u64 (wd C2 0 : Nat)) ∧ W'.cell? ⟨g', j * 10 + 4, none⟩ = some (.int .u64 (wd C2 1 : Nat)) ∧ W'.cell? ⟨g', j * 10 + 5, none⟩ = some (.int .u64 (wd C2 2 : Nat)) ∧ W'.cell? ⟨g', j * 10 + 6, none⟩ = some (.int .u64 (wd C2 3 : Nat)) ∧ W'.cell? ⟨g', j * 10 + 7, none⟩ = some (.slice so2 sl2 sc2) ∧ W'.cell? ⟨g', j * 10 + 8, none⟩ = some (.int .i64 (p2 : Int)) := by
  obtain ⟨h0, h1, h2, x, x0, x1, x2, x3, x4, x5, x6, x7, y, y0, y1, y2, y3, y4, y5, y6, y7⟩ := h
  have hs := h0.out.2.2.2
  have eg : ∀ i, W'.cell? ⟨g, i, none⟩ = W.cell? ⟨g, i, none⟩ := fun i => hb.cell (p := ⟨g, i, none⟩) (show g < _ by omega)
  have eg' : ∀ i, W'.cell? ⟨g', i, none⟩ = W.cell? ⟨g', i, none⟩ := fun i => hb.cell (p := ⟨g', i, none⟩) (show g' < _ by omega)
  have h3 := h0.out.below hb
  exact ⟨hid h3, h3.2.1, h3.2.2.1, (eg _).trans x, (eg _).trans x0, (eg _).trans x1, (eg _).trans x2, (eg _).trans x3, (eg _).trans x4, (eg _).trans x5, (eg _).trans x6, (eg _).trans x7, (eg' _).trans y, (eg' _).trans y0, (eg' _).trans y1, (eg' _).trans y2, (eg' _).trans y3, (eg' _).trans y4, (eg' _).trans y5, (eg' _).trans y6, (eg' _).trans y7⟩
set_option maxRecDepth 100000 in
set_option maxHeartbeats 8000000 in
theorem zgram_row (g cap g' cap' n : Nat) (w : World) (hn : n ≤ 1000000) (hg : g < w.heap.size) (hg' : g' < w.heap.size)
    (HC : Hid (∀ j, j < n → ∃ (M : ByteArray) (kd1 : Nat) (T1 : ByteArray) (C1 : Nat) (so1 : Option Addr) (sl1 sc1 p1 kd2 : Nat) (T2 : ByteArray) (C2 : Nat) (so2 : Option Addr) (sl2 sc2 p2 : Nat), (w.cell? ⟨g, j * 10, none⟩ = some (.string M) ∧ w.cell? ⟨g, j * 10 + 1, none⟩ = some (.int .i64 (kd1 : Int)) ∧ w.cell? ⟨g, j * 10 + 2, none⟩ = some (.string T1) ∧ w.cell? ⟨g, j * 10 + 3, none⟩ = some (.int .u64 (wd C1 0 : Nat)) ∧ w.cell? ⟨g, j * 10 + 4, none⟩ = some (.int .u64 (wd C1 1 : Nat)) ∧ w.cell? ⟨g, j * 10 + 5, none⟩ = some (.int .u64 (wd C1 2 : Nat)) ∧ w.cell? ⟨g, j * 10 + 6, none⟩ = some (.int .u64 (wd C1 3 : Nat)) ∧ w.cell? ⟨g, j * 10 + 7, none⟩ = some (.slice so1 sl1 sc1) ∧ w.cell? ⟨g, j * 10 + 8, none⟩ = some (.int .i64 (p1 : Int))) ∧ (w.cell? ⟨g', j * 10, none⟩ = some (.string M) ∧ w.cell? ⟨g', j * 10 + 1, none⟩ = some (.int .i64 (kd2 : Int)) ∧ w.cell? ⟨g', j * 10 + 2, none⟩ = some (.string T2) ∧ w.cell? ⟨g', j * 10 + 3, none⟩ = some (.int .u64 (wd C2 0 : Nat)) ∧ w.cell? ⟨g', j * 10 + 4, none⟩ = some (.int .u64 (wd C2 1 : Nat)) ∧ w.cell? ⟨g', j * 10 + 5, none⟩ = some (.int .u64 (wd C2 2 : Nat)) ∧ w.cell? ⟨g', j * 10 + 6, none⟩ = some (.int .u64 (wd C2 3 : Nat)) ∧ w.cell? ⟨g', j * 10 + 7, none⟩ = some (.slice so2 sl2 sc2) ∧ w.cell? ⟨g', j * 10 + 8, none⟩ = some (.int .i64 (p2 : Int))) ∧
      ∀ W : World, Below w.heap.size w W → Calls Tryd.prog 12 #[.agg (n8 kd1 T1 C1 (.slice so1 sl1 sc1) p1).toArray, .agg (n8 kd2 T2 C2 (.slice so2 sl2 sc2) p2).toArray, .bool false] W fun e w' => e = .returned (.bool true) ∧ Below W.heap.size W w')) :
    Calls Tryd.prog 9 #[.agg #[.slice (some ⟨g, 0, none⟩) n cap], .agg #[.slice (some ⟨g', 0, none⟩) n cap'], .bool false] w fun e w' => e = .returned (.bool true) ∧ Below w.heap.size w w' := by
  have HB0 := hid (SG.start w g cap g' cap' n)
  go_enter Tryd.func9, Tryd.ntmps9
  go_wp2_with fail
  go_loopw [7] (fun i wr => ∃ j : Nat, i = .int .i64 (j : Int) ∧ j ≤ n ∧ Hid (SG w g n cap g' cap' wr)) (fun i _ => n - (intOf i).toNat)
  case atStart => exact ⟨0, rfl, by omega, HB0⟩
  case round =>
    obtain ⟨j, rfl, hj, HW⟩ := hrel
    obtain ⟨_, b1, b2, _⟩ := HW.out
    clear HB0
    by_cases hjn : j < n
    · have hjI : (j : Int) < (n : Int) := by omega
      obtain ⟨M, kd1, T1, C1, so1, sl1, sc1, p1, kd2, T2, C2, so2, sl2, sc2, p2, ⟨x, x0, x1, x2, x3, x4, x5, x6, x7⟩, ⟨y, y0, y1, y2, y3, y4, y5, y6, y7⟩, hc⟩ := HC.out j hjn
      have HK := hid hc
      clear hc
      dsimp only [n8] at HK
      have ew : ∀ q i, q < w.heap.size → wr.cell? ⟨q, i, none⟩ = w.cell? ⟨q, i, none⟩ := fun q i hq => HW.out.1.cell (p := ⟨q, i, none⟩) hq
      have S0 : Hid (SG w g n cap g' cap' wr) ∧ wr.cell? ⟨w.heap.size, 0, none⟩ = some (.slice (some ⟨g, 0, none⟩) n cap) ∧ wr.cell? ⟨w.heap.size + 1, 0, none⟩ = some (.slice (some ⟨g', 0, none⟩) n cap') ∧ wr.cell? ⟨g, j * 10, none⟩ = some (.string M) ∧ wr.cell? ⟨g, j * 10 + 1, none⟩ = some (.int .i64 (kd1 : Int)) ∧ wr.cell? ⟨g, j * 10 + 2, none⟩ = some (.string T1) ∧ wr.cell? ⟨g, j * 10 + 3, none⟩ = some (.int .u64 (wd C1 0 : Nat)) ∧ wr.cell? ⟨g, j * 10 + 4, none⟩ = some (.int .u64 (wd C1 1 : Nat)) ∧ wr.cell? ⟨g, j * 10 + 5, none⟩ = some (.int .u64 (wd C1 2 : Nat)) ∧ wr.cell? ⟨g, j * 10 + 6, none⟩ = some (.int .u64 (wd C1 3 : Nat)) ∧ wr.cell? ⟨g, j * 10 + 7, none⟩ = some (.slice so1 sl1 sc1) ∧ wr.cell? ⟨g, j * 10 + 8, none⟩ = some (.int .i64 (p1 : Int)) ∧ wr.cell? ⟨g', j * 10, none⟩ = some (.string M) ∧ wr.cell? ⟨g', j * 10 + 1, none⟩ = some (.int .i64 (kd2 : Int)) ∧ wr.cell? ⟨g', j * 10 + 2, none⟩ = some (.string T2) ∧ wr.cell? ⟨g', j * 10 + 3, none⟩ = some (.int .u64 (wd C2 0 : Nat)) ∧ wr.cell? ⟨g', j * 10 + 4, none⟩ = some (.int .u64 (wd C2 1 : Nat)) ∧ wr.cell? ⟨g', j * 10 + 5, none⟩ = some (.int .u64 (wd C2 2 : Nat)) ∧ wr.cell? ⟨g', j * 10 + 6, none⟩ = some (.int .u64 (wd C2 3 : Nat)) ∧ wr.cell? ⟨g', j * 10 + 7, none⟩ = some (.slice so2 sl2 sc2) ∧ wr.cell? ⟨g', j * 10 + 8, none⟩ = some (.int .i64 (p2 : Int)) := ⟨HW, b1, b2, (ew _ _ hg).trans x, (ew _ _ hg).trans x0, (ew _ _ hg).trans x1, (ew _ _ hg).trans x2, (ew _ _ hg).trans x3, (ew _ _ hg).trans x4, (ew _ _ hg).trans x5, (ew _ _ hg).trans x6, (ew _ _ hg).trans x7, (ew _ _ hg').trans y, (ew _ _ hg').trans y0, (ew _ _ hg').trans y1, (ew _ _ hg').trans y2, (ew _ _ hg').trans y3, (ew _ _ hg').trans y4, (ew _ _ hg').trans y5, (ew _ _ hg').trans y6, (ew _ _ hg').trans y7⟩
      have S1 : (fun W => Hid (SG w g n cap g' cap' W) ∧ W.cell? ⟨w.heap.size, 0, none⟩ = some (.slice (some ⟨g, 0, none⟩) n cap) ∧ W.cell? ⟨w.heap.size + 1, 0, none⟩ = some (.slice (some ⟨g', 0, none⟩) n cap') ∧ W.cell? ⟨g, j * 10, none⟩ = some (.string M) ∧ W.cell? ⟨g, j * 10 + 1, none⟩ = some (.int .i64 (kd1 : Int)) ∧ W.cell? ⟨g, j * 10 + 2, none⟩ = some (.string T1) ∧ W.cell? ⟨g, j * 10 + 3, none⟩ = some (.int .u64 (wd C1 0 : Nat)) ∧ W.cell? ⟨g, j * 10 + 4, none⟩ = some (.int .u64 (wd C1 1 : Nat)) ∧ W.cell? ⟨g, j * 10 + 5, none⟩ = some (.int .u64 (wd C1 2 : Nat)) ∧ W.cell? ⟨g, j * 10 + 6, none⟩ = some (.int .u64 (wd C1 3 : Nat)) ∧ W.cell? ⟨g, j * 10 + 7, none⟩ = some (.slice so1 sl1 sc1) ∧ W.cell? ⟨g, j * 10 + 8, none⟩ = some (.int .i64 (p1 : Int)) ∧ W.cell? ⟨g', j * 10, none⟩ = some (.string M) ∧ W.cell? ⟨g', j * 10 + 1, none⟩ = some (.int .i64 (kd2 : Int)) ∧ W.cell? ⟨g', j * 10 + 2, none⟩ = some (.string T2) ∧ W.cell? ⟨g', j * 10 + 3, none⟩ = some (.int .u64 (wd C2 0 : Nat)) ∧ W.cell? ⟨g', j * 10 + 4, none⟩ = some (.int .u64 (wd C2 1 : Nat)) ∧ W.cell? ⟨g', j * 10 + 5, none⟩ = some (.int .u64 (wd C2 2 : Nat)) ∧ W.cell? ⟨g', j * 10 + 6, none⟩ = some (.int .u64 (wd C2 3 : Nat)) ∧ W.cell? ⟨g', j * 10 + 7, none⟩ = some (.slice so2 sl2 sc2) ∧ W.cell? ⟨g', j * 10 + 8, none⟩ = some (.int .i64 (p2 : Int))) wr.drew := keep_gr hg hg' (Below.refl _ wr).drew S0
      clear ew S0 x x0 x1 x2 x3 x4 x5 x6 x7 y y0 y1 y2 y3 y4 y5 y6 y7
      go_wp2_with fail
      go_region_held3 (fun W => Hid (SG w g n cap g' cap' W) ∧ W.cell? ⟨w.heap.size, 0, none⟩ = some (.slice (some ⟨g, 0, none⟩) n cap) ∧ W.cell? ⟨w.heap.size + 1, 0, none⟩ = some (.slice (some ⟨g', 0, none⟩) n cap') ∧ W.cell? ⟨g, j * 10, none⟩ = some (.string M) ∧ W.cell? ⟨g, j * 10 + 1, none⟩ = some (.int .i64 (kd1 : Int)) ∧ W.cell? ⟨g, j * 10 + 2, none⟩ = some (.string T1) ∧ W.cell? ⟨g, j * 10 + 3, none⟩ = some (.int .u64 (wd C1 0 : Nat)) ∧ W.cell? ⟨g, j * 10 + 4, none⟩ = some (.int .u64 (wd C1 1 : Nat)) ∧ W.cell? ⟨g, j * 10 + 5, none⟩ = some (.int .u64 (wd C1 2 : Nat)) ∧ W.cell? ⟨g, j * 10 + 6, none⟩ = some (.int .u64 (wd C1 3 : Nat)) ∧ W.cell? ⟨g, j * 10 + 7, none⟩ = some (.slice so1 sl1 sc1) ∧ W.cell? ⟨g, j * 10 + 8, none⟩ = some (.int .i64 (p1 : Int)) ∧ W.cell? ⟨g', j * 10, none⟩ = some (.string M) ∧ W.cell? ⟨g', j * 10 + 1, none⟩ = some (.int .i64 (kd2 : Int)) ∧ W.cell? ⟨g', j * 10 + 2, none⟩ = some (.string T2) ∧ W.cell? ⟨g', j * 10 + 3, none⟩ = some (.int .u64 (wd C2 0 : Nat)) ∧ W.cell? ⟨g', j * 10 + 4, none⟩ = some (.int .u64 (wd C2 1 : Nat)) ∧ W.cell? ⟨g', j * 10 + 5, none⟩ = some (.int .u64 (wd C2 2 : Nat)) ∧ W.cell? ⟨g', j * 10 + 6, none⟩ = some (.int .u64 (wd C2 3 : Nat)) ∧ W.cell? ⟨g', j * 10 + 7, none⟩ = some (.slice so2 sl2 sc2) ∧ W.cell? ⟨g', j * 10 + 8, none⟩ = some (.int .i64 (p2 : Int))) (first | assumption | exact keep_gr hg hg' (by assumption) (by assumption)) (first | (go_at_call 12; refine (HK.out _ ?hh).mono ?_; (case hh => exact S1.1.out.1); rintro e wq ⟨rfl, hbq⟩))
      have S3 : (fun W => Hid (SG w g n cap g' cap' W) ∧ W.cell? ⟨w.heap.size, 0, none⟩ = some (.slice (some ⟨g, 0, none⟩) n cap) ∧ W.cell? ⟨w.heap.size + 1, 0, none⟩ = some (.slice (some ⟨g', 0, none⟩) n cap') ∧ W.cell? ⟨g, j * 10, none⟩ = some (.string M) ∧ W.cell? ⟨g, j * 10 + 1, none⟩ = some (.int .i64 (kd1 : Int)) ∧ W.cell? ⟨g, j * 10 + 2, none⟩ = some (.string T1) ∧ W.cell? ⟨g, j * 10 + 3, none⟩ = some (.int .u64 (wd C1 0 : Nat)) ∧ W.cell? ⟨g, j * 10 + 4, none⟩ = some (.int .u64 (wd C1 1 : Nat)) ∧ W.cell? ⟨g, j * 10 + 5, none⟩ = some (.int .u64 (wd C1 2 : Nat)) ∧ W.cell? ⟨g, j * 10 + 6, none⟩ = some (.int .u64 (wd C1 3 : Nat)) ∧ W.cell? ⟨g, j * 10 + 7, none⟩ = some (.slice so1 sl1 sc1) ∧ W.cell? ⟨g, j * 10 + 8, none⟩ = some (.int .i64 (p1 : Int)) ∧ W.cell? ⟨g', j * 10, none⟩ = some (.string M) ∧ W.cell? ⟨g', j * 10 + 1, none⟩ = some (.int .i64 (kd2 : Int)) ∧ W.cell? ⟨g', j * 10 + 2, none⟩ = some (.string T2) ∧ W.cell? ⟨g', j * 10 + 3, none⟩ = some (.int .u64 (wd C2 0 : Nat)) ∧ W.cell? ⟨g', j * 10 + 4, none⟩ = some (.int .u64 (wd C2 1 : Nat)) ∧ W.cell? ⟨g', j * 10 + 5, none⟩ = some (.int .u64 (wd C2 2 : Nat)) ∧ W.cell? ⟨g', j * 10 + 6, none⟩ = some (.int .u64 (wd C2 3 : Nat)) ∧ W.cell? ⟨g', j * 10 + 7, none⟩ = some (.slice so2 sl2 sc2) ∧ W.cell? ⟨g', j * 10 + 8, none⟩ = some (.int .i64 (p2 : Int))) wq := by assumption
      obtain ⟨HW3, c1, c2, x, x0, x1, x2, x3, x4, x5, x6, x7, y, y0, y1, y2, y3, y4, y5, y6, y7⟩ := S3
      clear S1 hbq b1 b2 HW HK x0 x1 x2 x3 x4 x5 x6 x7 y0 y1 y2 y3 y4 y5 y6 y7
      go_wp2_with fail
      go_quiet (fail)
      go_wp2_with fail
      go_roundw
      case rel => exact ⟨j + 1, by go_num, by omega, hid (HW3.out.below (below_drewN (Below.refl _ _) _))⟩
      case measure => simp [intOf]; omega
    · have hjI : decide ((j : Int) < (n : Int)) = false := by simp; omega
      have HB : Hid (Below w.heap.size w wr) := HW.out.1
      clear HW
      go_wp2_with fail
      go_ret
      exact ⟨rfl, HB.out⟩
theorem RoR.len {B n cap : Nat} {so : Option Addr} {rs : List Rl} {W : World} (h : RoR B (.slice so n cap) rs W) : n = rs.length := by
  obtain ⟨xs, h1, _⟩ := h
  obtain ⟨hl, ⟨hq, hx⟩ | ⟨g', cap', cur, hq, _⟩⟩ := h1
  · injection hq with _ h2 _
    rw [hx] at hl
    simp at hl
    omega
  · injection hq
theorem RoR.lt {B g n cap : Nat} {rs : List Rl} {W : World} (h : RoR B (.slice (some ⟨g, 0, none⟩) n cap) rs W) : g < W.heap.size := by
  obtain ⟨xs, h1, _⟩ := h
  exact (h1.lt g rfl).2
/-- Same answers true at two rows of rules that are one but for places. -/
theorem zgram_all {g cap g' cap' B B' n : Nat} {xs ys : List Rl} {w : World} (h1 : RoR B (.slice (some ⟨g, 0, none⟩) n cap) xs w) (h2 : RoR B' (.slice (some ⟨g', 0, none⟩) n cap') ys w) (hn : n ≤ 1000000)
    (hR : ∀ j (hj : j < xs.length) (hj' : j < ys.length), ys[j].1 = xs[j].1 ∧ Sm xs[j].2.1 ys[j].2.1) :
    Calls Tryd.prog 9 #[.agg #[.slice (some ⟨g, 0, none⟩) n cap], .agg #[.slice (some ⟨g', 0, none⟩) n cap'], .bool false] w fun e w' => e = .returned (.bool true) ∧ Below w.heap.size w w' := by
  have l1 := h1.len
  have l2 := h2.len
  refine zgram_row g cap g' cap' n w hn h1.lt h2.lt (fun j hj => ?_)
  obtain ⟨c, a1, a2⟩ := h1.get j (by omega)
  obtain ⟨d, b1, b2⟩ := h2.get j (by omega)
  obtain ⟨hN, hS⟩ := hR j (by omega) (by omega)
  obtain ⟨cs, rfl, na⟩ := a1
  obtain ⟨ds, rfl, nb'⟩ := b1
  have na' := na
  have nb2 := nb'
  obtain ⟨kd1, T1, C1, so1, sl1, sc1, rfl⟩ := na.shape
  obtain ⟨kd2, T2, C2, so2, sl2, sc2, rfl⟩ := nb'.shape
  refine ⟨_, kd1, T1, C1, so1, sl1, sc1, _, kd2, T2, C2, so2, sl2, sc2, _, ⟨a2 0 _ rfl, a2 1 _ rfl, a2 2 _ rfl, a2 3 _ rfl, a2 4 _ rfl, a2 5 _ rfl, a2 6 _ rfl, a2 7 _ rfl, a2 8 _ rfl⟩, ⟨?_, b2 1 _ rfl, b2 2 _ rfl, b2 3 _ rfl, b2 4 _ rfl, b2 5 _ rfl, b2 6 _ rfl, b2 7 _ rfl, b2 8 _ rfl⟩, fun W hW => ?_⟩
  · rw [← hN]
    exact b2 0 _ rfl
  · exact zsame_all _ _ _ _ _ _ _ W (Nat.lt_succ_self _) hS (na'.below hW) (nb2.below hW)
set_option maxRecDepth 100000 in
theorem yparse_long (S : ByteArray) (w : World) (hS : 8192 < S.size) :
    Calls Tryd.prog 8 #[.string S] w fun e w' => ∃ f, e = .returned (.tuple #[.agg #[.slice none 0 0], flv f]) ∧ Hid (Below w.heap.size w w') := by
  have HT := hid (xtokens_long S (w.alloc Zg) hS)
  go_enter Tryd.func8, Tryd.ntmps8
  go_wp2_with fail
  refine HT.out.mono ?_
  rintro e w1 ⟨rfl, hw1⟩
  have HB : Hid (Below (w.heap.size + 1) (w.alloc Zg) w1) := by
    rw [hw1]
    have := (Below.refl (w.alloc Zg).heap.size (w.alloc Zg)).alloc (Nat.le_refl _) (.cells #[.int .i64 2, .int .i64 (-1)] 57)
    simp at this
    exact this
  obtain ⟨q, hq⟩ : ∃ q, q = (w.alloc Zg).heap.size := ⟨_, rfl⟩
  rw [← hq]
  have HA : Hid (Below w.heap.size w (w1.setCell ⟨w.heap.size, 0, none⟩ (.slice none 0 0))) := (setQ HB.out).2.2
  have HQ : Hid (w1.heap[w.heap.size]? = some Zg) := (setQ (x := .nilIface) HB.out).1
  obtain ⟨e0, y0⟩ := one_cell HQ.out
  have hQl := node_lt HQ.out
  clear HT HB hw1 hq
  unfold flv
  go_wp2_with fail
  (try simp only [Exit.inBlock, Exit.then])
  refine bodyPost_ret (v := .tuple #[.agg #[.slice none 0 0], .iface 54 (.pointer (some ⟨q, 0, none⟩))]) (by simp [results, Tryd.results8, go_sem, e0]) rfl ?_
  exact ⟨q, rfl, HA⟩
/-- What Parse hands back at any text: a Fault, or the grammar. -/
def Two (S : ByteArray) (w : World) (e : Ending) (w' : World) : Prop :=
  (∃ f, e = .returned (.tuple #[.agg #[.slice none 0 0], flv f]) ∧ Hid (Below w.heap.size w w')) ∨
  (∃ rs g n cap, Hid (S.size ≤ 8192 ∧ parS S = .inr rs) ∧ e = .returned (.tuple #[.agg #[.slice (some ⟨g, 0, none⟩) n cap], .nilIface]) ∧ Hid (RoR w.heap.size (.slice (some ⟨g, 0, none⟩) n cap) rs w') ∧ Hid (Below w.heap.size w w'))
theorem yparse_two (S : ByteArray) (w : World) (h : ErrIs w) : Calls Tryd.prog 8 #[.string S] w fun e w' => Two S w e w' := by
  rcases Nat.lt_or_ge 8192 S.size with hl | hl
  · exact (yparse_long S w hl).mono fun e w' h => .inl h
  · obtain ⟨X, hX⟩ : ∃ X, X = parS S := ⟨_, rfl⟩
    have hY := hid (yparse_any S w h hl)
    rw [← hX] at hY
    have HX := hid hX.symm
    clear hX
    refine hY.out.mono fun e w' hA => ?_
    cases X with
    | inl c =>
      obtain ⟨f, he, HF⟩ := hA
      exact .inl ⟨f, he, hid HF.out.2.2⟩
    | inr rs =>
      obtain ⟨g, cap, he, HR, HB⟩ := hA
      exact .inr ⟨rs, g, rs.length, cap, hid ⟨hl, HX.out⟩, he, HR, HB⟩
theorem add_str2 {a b c : ByteArray} (h : a ++ b = c) (hl : a.size + b.size ≤ 100000) (w : World) : (Op.stringOp .add a b).run Tryd.prog w = .ok (.string c) w := by
  rw [← h]
  exact run_string_add_sum w a b (by omega)
theorem RsIs.app {w : World} {P : Nat → Prop} : ∀ (l l2 : List Rl) (vs v2 : List Value), RsIs w P l vs → vs.length = l.length * 10 → RsIs w P l2 v2 → RsIs w P (l ++ l2) (vs ++ v2)
  | [], l2, vs, v2, _, hl, h2 => by
    have : vs = [] := List.eq_nil_of_length_eq_zero (by simpa using hl)
    subst this
    exact h2
  | m :: r, l2, vs, v2, h, hl, h2 => by
    rw [RsIs] at h
    obtain ⟨d, rest, rfl, h3, h4⟩ := h
    have hd := h3.len
    rw [List.cons_append, RsIs]
    refine ⟨d, rest ++ v2, by rw [List.append_assoc], h3, RsIs.app r l2 rest v2 h4 ?_ h2⟩
    simp at hl
    omega
theorem RsIs.ok {w : World} {P : Nat → Prop} : ∀ (l : List Rl) (vs : List Value), RsIs w P l vs → vs.length = l.length * 10 → ∀ u ∈ vs, u.oneCell' = true
  | [], vs, _, hl => by
    have : vs = [] := List.eq_nil_of_length_eq_zero (by simpa using hl)
    subst this
    intro u hu
    simp at hu
  | m :: r, vs, h, hl => by
    rw [RsIs] at h
    obtain ⟨d, rest, rfl, h3, h4⟩ := h
    have hd := h3.len
    obtain ⟨N, kd, T, C, so, sl, sc, p, q, rfl⟩ := h3.shape
    intro u hu
    rcases List.mem_append.1 hu with h | h
    · exact ten_ok _ _ _ _ _ _ _ _ _ _ _ _ u h
    · exact RsIs.ok r rest h4 (by simp at hl; omega) u h
theorem own_low {w : World} {B B' t sz n : Nat} {v : Value} {xs : List Value} (h : w.ownsRow B t sz v n xs) (hB : B' ≤ B) : w.ownsRow B' t sz v n xs := by
  obtain ⟨a, h1⟩ := h
  refine ⟨a, ?_⟩
  rcases h1 with h1 | ⟨g', cap', cur, hq, hb, rest⟩
  · exact .inl h1
  · exact .inr ⟨g', cap', cur, hq, by omega, rest⟩
theorem RsIs.low {w w' : World} {B B' : Nat} {l : List Rl} {vs : List Value} (h : RsIs w (fun g => B ≤ g) l vs) (hB : B' ≤ B) (hb : Below w.heap.size w w') : RsIs w' (fun g => B' ≤ g) l vs :=
  RsIs.kept (fun g cur hp hq => ⟨hb.block g (node_lt hq), show B' ≤ g by have hp' : B ≤ g := hp; omega⟩) _ _ h
theorem par_some {S : ByteArray} {rs : List Rl} (h : parS S = .inr rs) : 0 < rs.length := by
  obtain ⟨m, _, _, _, hg⟩ := par_inv h
  unfold graS at hg
  cases hr : ruS (m ++ [(6, { data := #[] }, 0, S.size)]) 0 0 with
  | inl c => rw [hr] at hg; cases hg
  | inr q =>
    obtain ⟨x, k⟩ := q
    rw [hr] at hg
    have := rls_len _ _ _ _ _ hg
    simp at this
    omega
theorem rls_le (L : List Tok) : ∀ (f k : Nat) (acc rs : List Rl), rlsS L f k acc = .inr rs → acc.length ≤ 64 → rs.length ≤ 64
  | 0, _, _, _, h, _ => by rw [rlsS] at h; cases h
  | f + 1, k, acc, rs, h, ha => by
    rw [rlsS] at h
    split at h
    · simp only [Sum.inr.injEq] at h; subst h; exact ha
    · split at h
      · cases h
      · rename_i x k' hr
        have := ruS_ne hr
        exact rls_le L f k' (acc ++ [x]) rs h (by simp; omega)
theorem par_le {S : ByteArray} {rs : List Rl} (h : parS S = .inr rs) : rs.length ≤ 64 := by
  obtain ⟨m, _, _, _, hg⟩ := par_inv h
  unfold graS at hg
  cases hr : ruS (m ++ [(6, { data := #[] }, 0, S.size)]) 0 0 with
  | inl c => rw [hr] at hg; cases hg
  | inr q =>
    obtain ⟨x, k⟩ := q
    rw [hr] at hg
    exact rls_le _ _ _ _ _ hg (by simp)
theorem yparse_is {S : ByteArray} {rs : List Rl} (w : World) (h : ErrIs w) (hS : S.size ≤ 8192) (hp : parS S = .inr rs) : Calls Tryd.prog 8 #[.string S] w fun e w' => AnsD (.inr rs) w e w' := by
  obtain ⟨X, hX⟩ : ∃ X, X = parS S := ⟨_, rfl⟩
  have hY := hid (yparse_any S w h hS)
  rw [← hX] at hY
  have HX := hid (hX.trans hp)
  clear hX hp
  refine hY.out.mono fun e w' hA => ?_
  rw [HX.out] at hA
  exact hA
/-- Two rows of rules, one behind the other in a row of one's own. -/
theorem both_row {w4 W0 w5 w6 : World} {C : Obj} {B g g' n n' cap cap' g5 cap5 g6 cap6 : Nat} {xs1 xs2 : List Value} {rs rs' : List Rl} (hB : B ≤ w4.heap.size) (A1 : w4.ownsRow B 43 10 (.slice (some ⟨g, 0, none⟩) n cap) n xs1) (A2 : RsIs w4 (fun q => B ≤ q) rs xs1)
    (B1 : w4.ownsRow B 43 10 (.slice (some ⟨g', 0, none⟩) n' cap') n' xs2) (B2 : RsIs w4 (fun q => B ≤ q) rs' xs2) (hn : n = rs.length) (hn' : n' = rs'.length)
    (b0 : Below w4.heap.size w4 W0) (kC : W0.heap[w4.heap.size]? = some C) (kZ : W0.heap[w4.heap.size + 1]? = some Zg) (hz : W0.heap.size = w4.heap.size + 2)
    (hown5 : w5.ownsRow w4.heap.size 43 10 (.slice (some ⟨g5, 0, none⟩) (0 + n) cap5) (0 + n) ([] ++ xs1)) (hgr5 : W0.grownBy w5 (Value.ownBlock (.slice none 0 0))) (hat5 : Value.ownBlock (.slice none 0 0) = some g5 ∨ g5 = w4.heap.size + 2)
    (hown6 : w6.ownsRow w4.heap.size 43 10 (.slice (some ⟨g6, 0, none⟩) (0 + n + n') cap6) (0 + n + n') ([] ++ xs1 ++ xs2)) (hgr6 : w5.grownBy w6 (Value.ownBlock (.slice (some ⟨g5, 0, none⟩) (0 + n) cap5))) (hat6 : Value.ownBlock (.slice (some ⟨g5, 0, none⟩) (0 + n) cap5) = some g6 ∨ g6 = w5.heap.size) :
    w6.heap[w4.heap.size]? = some C ∧ w6.heap[w4.heap.size + 1]? = some Zg ∧ (∀ x, Below w4.heap.size w4 (w6.setCell ⟨w4.heap.size + 1, 0, none⟩ x) ∧ RoR B (.slice (some ⟨g6, 0, none⟩) (n + n') cap6) (rs ++ rs') (w6.setCell ⟨w4.heap.size + 1, 0, none⟩ x)) := by
  have hz5 := hgr5.size
  have e5 : g5 = w4.heap.size + 2 := by
    rcases hat5 with h | h
    · cases h
    · exact h
  have o5 : Value.ownBlock (.slice (some ⟨g5, 0, none⟩) (0 + n) cap5) = some g5 := rfl
  have e6 : g6 ≠ w4.heap.size + 1 := by
    rcases hat6 with h | h
    · rw [o5] at h
      have := Option.some.inj h
      omega
    · omega
  rw [o5] at hgr6
  have k6 : w6.heap[w4.heap.size + 1]? = some Zg := (hgr6.block _ (by omega) (fun e => by have := Option.some.inj e; omega)).trans ((hgr5.block _ (by omega) (fun e => by cases e)).trans kZ)
  have k7 : w6.heap[w4.heap.size]? = some C := (hgr6.block _ (by omega) (fun e => by have := Option.some.inj e; omega)).trans ((hgr5.block _ (by omega) (fun e => by cases e)).trans kC)
  have b1 : Below w4.heap.size w4 w5 := b0.grown hgr5 b0.size (fun k e => by cases e)
  have b2 : Below w4.heap.size w4 w6 := b1.grown hgr6 b1.size (fun k e => by have := Option.some.inj e; omega)
  rw [Nat.zero_add, List.nil_append] at hown6
  refine ⟨k7, k6, fun x => ⟨Below.setNew b2 (by omega), ?_⟩⟩
  have b3 := Below.setNew (g := w4.heap.size + 1) (j := 0) (u := x) b2 (by omega)
  refine ⟨xs1 ++ xs2, ?_, RsIs.app _ _ _ _ (A2.low (Nat.le_refl _) b3) (by have := A1.1; rw [hn] at this; exact this) (B2.low (Nat.le_refl _) b3)⟩
  rw [List.length_append, ← hn, ← hn']
  exact own_low (hown6.kept (G.setR (G.refl w6 (w4.heap.size + 1))) (.inr (fun e => e6 (Option.some.inj e)))) hB
set_option maxRecDepth 100000 in
set_option maxHeartbeats 8000000 in
theorem yrows_any (S U : ByteArray) (w : World) (h : ErrIs w) (hS : S.size ≤ 140737488351232) (hU : U.size ≤ 140737488351232) : Calls Tryd.prog 4 #[.string S, .string U] w fun e w' => e = .returned (.bool true) ∧ Below w.heap.size w w' := by
  have HSm := hid (ysmall_ok w h)
  have HE : Hid (ErrIs w) := h
  clear h
  by_cases hl : 8192 < S.size ∨ 8192 < U.size
  · have HL := hid hl
    have q1 : (S.size : Int) ≤ 140737488351232 := by omega
    have q2 : (U.size : Int) ≤ 140737488351232 := by omega
    clear hl hS hU
    go_enter Tryd.func4, Tryd.ntmps4
    go_wp2_with fail
    refine HSm.out.mono ?_
    rintro e w1 ⟨rfl, HB1⟩
    clear HSm
    rcases HL.out with h1 | h1
    · have c0 : decide ((8192 : Int) < (S.size : Int)) = true := by simp; omega
      clear HL h1
      go_wp2_with fail
      go_ret
      exact ⟨rfl, HB1.out⟩
    · have c1 : decide ((8192 : Int) < (U.size : Int)) = true := by simp; omega
      clear HL h1
      cases c0 : decide ((8192 : Int) < (S.size : Int)) with
      | true =>
        go_wp2_with fail
        go_ret
        exact ⟨rfl, HB1.out⟩
      | false =>
        go_wp2_with fail
        go_ret
        exact ⟨rfl, HB1.out⟩
  · have hS2 : S.size ≤ 8192 := by omega
    have hU2 : U.size ≤ 8192 := by omega
    have c0 : decide ((8192 : Int) < (S.size : Int)) = false := by simp; omega
    have c1 : decide ((8192 : Int) < (U.size : Int)) = false := by simp; omega
    have ha1 := add_str2 (a := S) (b := { data := #[10] }) (c := S ++ brE) rfl (by show _ + 1 ≤ _; omega)
    have ha2 := add_str2 (a := S ++ brE) (b := U) (c := S ++ brE ++ U) rfl (by rw [ByteArray.size_append]; show _ + 1 + _ ≤ _; omega)
    obtain ⟨P1, hP1⟩ : ∃ P1, P1 = S ++ brE := ⟨_, rfl⟩
    rw [← hP1] at ha1 ha2
    obtain ⟨P2, hP2⟩ : ∃ P2, P2 = P1 ++ U := ⟨_, rfl⟩
    rw [← hP2] at ha2
    have HP2 : Hid (P2 = S ++ brE ++ U) := by rw [hP2, hP1]; exact rfl
    clear hP1 hP2 hl hS hU
    go_enter Tryd.func4, Tryd.ntmps4
    go_wp2_with fail
    refine HSm.out.mono ?_
    rintro e w1 ⟨rfl, HB1⟩
    clear HSm
    go_wp2_with fail
    refine (yparse_two S w1 (HE.out.below HB1.out HE.out.lt)).mono ?_
    rintro e w2 (⟨f, rfl, HB2⟩ | ⟨rs, g, n, cap, HP, rfl, HR, HB2⟩)
    · have HB3 : Hid (∀ o : Obj, Below w.heap.size w (w2.alloc o)) := fun o => (HB1.out.trans (HB2.out.mono HB1.out.size)).alloc (Nat.le_trans HB1.out.size HB2.out.size) o
      clear HB1 HB2
      unfold flv
      go_wp2_with fail
      refine (yparse_two U _ (HE.out.below (HB3.out _) HE.out.lt)).mono ?_
      rintro e w3 (⟨f', rfl, HB4⟩ | ⟨rs', g', n', cap', HP', rfl, HR', HB4⟩)
      · have HB5 : Hid (Below w.heap.size w w3) := (HB3.out _).trans (HB4.out.mono (HB3.out _).size)
        have HK : Hid (w3.heap[w2.heap.size]? = some (.cells #[.slice none 0 0] 25)) := (HB4.out.block _ (by simp)).trans (new_block_at w2 _ rfl)
        obtain ⟨k0, _⟩ := one_cell HK.out
        have k1 := node_lt HK.out
        clear HB3 HB4 HK
        unfold flv
        go_wp2_with fail
        go_ret
        exact ⟨rfl, HB5.out.alloc HB5.out.size _⟩
      · have HB5 : Hid (Below w.heap.size w w3) := (HB3.out _).trans (HB4.out.mono (HB3.out _).size)
        have HK : Hid (w3.heap[w2.heap.size]? = some (.cells #[.slice none 0 0] 25)) := (HB4.out.block _ (by simp)).trans (new_block_at w2 _ rfl)
        obtain ⟨k0, _⟩ := one_cell HK.out
        have k1 := node_lt HK.out
        clear HB3 HB4 HK
        go_wp2_with fail
        go_ret
        exact ⟨rfl, HB5.out.alloc HB5.out.size _⟩
    · have HB3 : Hid (∀ o : Obj, Below w.heap.size w (w2.alloc o)) := fun o => (HB1.out.trans (HB2.out.mono HB1.out.size)).alloc (Nat.le_trans HB1.out.size HB2.out.size) o
      clear HB2
      go_wp2_with fail
      refine (yparse_two U _ (HE.out.below (HB3.out _) HE.out.lt)).mono ?_
      rintro e w3 (⟨f', rfl, HB4⟩ | ⟨rs', g', n', cap', HP', rfl, HR', HB4⟩)
      · have HB5 : Hid (Below w.heap.size w w3) := (HB3.out _).trans (HB4.out.mono (HB3.out _).size)
        have HK : Hid (w3.heap[w2.heap.size]? = some (.cells #[.slice (some ⟨g, 0, none⟩) n cap] 25)) := (HB4.out.block _ (by simp)).trans (new_block_at w2 _ rfl)
        obtain ⟨k0, _⟩ := one_cell HK.out
        have k1 := node_lt HK.out
        clear HB3 HB4 HK
        unfold flv
        go_wp2_with fail
        go_ret
        exact ⟨rfl, HB5.out.alloc HB5.out.size _⟩
      · have HB5 : Hid (Below w.heap.size w w3) := (HB3.out _).trans (HB4.out.mono (HB3.out _).size)
        have HR3 : Hid (RoR w.heap.size (.slice (some ⟨g, 0, none⟩) n cap) rs w3) := ((HR.out.below ((Below.refl _ w2).alloc (Nat.le_refl _) _)).below HB4.out).low HB1.out.size
        have HR4 : Hid (RoR w.heap.size (.slice (some ⟨g', 0, none⟩) n' cap') rs' w3) := HR'.out.low (HB3.out _).size
        have HK : Hid (w3.heap[w2.heap.size]? = some (.cells #[.slice (some ⟨g, 0, none⟩) n cap] 25)) := (HB4.out.block _ (by simp)).trans (new_block_at w2 _ rfl)
        obtain ⟨k0, _⟩ := one_cell HK.out
        have k1 := node_lt HK.out
        clear HB3 HB4 HR HR'
        have hn := HR3.out.len
        have hn' := HR4.out.len
        have hp0 := par_some HP.out.2
        have hp1 := par_some HP'.out.2
        by_cases hz : 8192 < S.size + U.size + 1
        · have c2 : decide ((8192 : Int) < (S.size : Int) + (U.size : Int) + 1) = true := by simp; omega
          have q1 : (S.size : Int) ≤ 8192 := by omega
          have q2 : (U.size : Int) ≤ 8192 := by omega
          clear HR3 HR4 HP HP' hn hn' hp0 hp1 HP2 ha1 ha2
          go_wp2_with fail
          go_ret
          exact ⟨rfl, HB5.out.alloc HB5.out.size _⟩
        · have c2 : decide ((8192 : Int) < (S.size : Int) + (U.size : Int) + 1) = false := by simp; omega
          have q1 : (S.size : Int) ≤ 8192 := by omega
          have q2 : (U.size : Int) ≤ 8192 := by omega
          have hN : n ≤ 1000000 := by have := par_le HP.out.2; omega
          have hN' : n' ≤ 1000000 := by have := par_le HP'.out.2; omega
          by_cases h64 : n + n' ≤ 64
          · have c3 : decide ((64 : Int) < (n : Int) + (n' : Int)) = false := by simp; omega
            obtain ⟨rs3, h3, hrl⟩ := rows_text hS2 hU2 HP.out.2 HP'.out.2 (by omega)
            have HRL := hid hrl
            have hl3 : rs3.length = n + n' := by have := hrl.len; simp at this; omega
            have HB5a : Hid (Below w.heap.size w (w3.alloc (.cells #[.slice (some ⟨g', 0, none⟩) n' cap'] 25))) := HB5.out.alloc HB5.out.size _
            have HC : Hid (Calls Tryd.prog 8 #[.string P2] (w3.alloc (.cells #[.slice (some ⟨g', 0, none⟩) n' cap'] 25)) fun e w' => AnsD (.inr rs3) (w3.alloc (.cells #[.slice (some ⟨g', 0, none⟩) n' cap'] 25)) e w') := by
              rw [HP2.out]
              exact yparse_is _ (HE.out.below HB5a.out HE.out.lt) (by rw [ByteArray.size_append, ByteArray.size_append]; show _ + 1 + _ ≤ _; omega) h3
            have HN : Hid (n = rs.length ∧ n' = rs'.length) := ⟨hn, hn'⟩
            have hn0 : 0 < n := by omega
            have hn1 : 0 < n' := by omega
            clear h3 hrl HP HP' hp0 hp1 hn hn' HP2
            obtain ⟨iT, hiT, hzT0, hzT1, hzT2⟩ := info_parts Tryd.infoRl
            go_wp2_with fail
            refine HC.out.mono ?_
            rintro e w4 ⟨g3, cap3, rfl, HR5, HB6⟩
            rw [hl3] at HR5 ⊢
            have HK4 : Hid (w4.heap[w2.heap.size]? = some (.cells #[.slice (some ⟨g, 0, none⟩) n cap] 25)) := (HB6.out.block _ (by simp; omega)).trans ((Below.heap_alloc w3 _ _ k1).trans HK.out)
            have HK5 : Hid (w4.heap[w3.heap.size]? = some (.cells #[.slice (some ⟨g', 0, none⟩) n' cap'] 25)) := (HB6.out.block _ (by simp)).trans (new_block_at w3 _ rfl)
            clear k0 k1
            obtain ⟨k0, _⟩ := one_cell HK4.out
            have k1 := node_lt HK4.out
            obtain ⟨k2, _⟩ := one_cell HK5.out
            have k3 := node_lt HK5.out
            obtain ⟨xs1, a1, a2⟩ := (HR3.out.below ((Below.refl _ w3).alloc (Nat.le_refl _) _)).below HB6.out
            obtain ⟨xs2, b1, b2⟩ := (HR4.out.below ((Below.refl _ w3).alloc (Nat.le_refl _) _)).below HB6.out
            rw [← HN.out.1] at a1
            rw [← HN.out.2] at b1
            have A1 := hid a1
            have A2 := hid a2
            have B1 := hid b1
            have B2 := hid b2
            have AL : Hid (xs1.length = n * 10) := a1.1
            have BL : Hid (xs2.length = n' * 10) := b1.1
            have A3 : Hid (∀ u ∈ xs1, u.oneCell' = true) := RsIs.ok _ _ a2 (by have := a1.1; rw [HN.out.1] at this; exact this)
            have B3 : Hid (∀ u ∈ xs2, u.oneCell' = true) := RsIs.ok _ _ b2 (by have := b1.1; rw [HN.out.2] at this; exact this)
            have HBw : Hid (w.heap.size ≤ w4.heap.size) := Nat.le_trans HB5a.out.size HB6.out.size
            clear a1 a2 b1 b2 HR3 HR4 HC ha1 ha2
            have HW0 : Hid (Below w4.heap.size w4 (((w4.alloc (.cells #[.slice (some ⟨g3, 0, none⟩) (n + n') cap3] 25)).alloc Zg).drew) ∧ (((w4.alloc (.cells #[.slice (some ⟨g3, 0, none⟩) (n + n') cap3] 25)).alloc Zg).drew).heap[w4.heap.size]? = some (.cells #[.slice (some ⟨g3, 0, none⟩) (n + n') cap3] 25) ∧ (((w4.alloc (.cells #[.slice (some ⟨g3, 0, none⟩) (n + n') cap3] 25)).alloc Zg).drew).heap[w4.heap.size + 1]? = some Zg ∧ (((w4.alloc (.cells #[.slice (some ⟨g3, 0, none⟩) (n + n') cap3] 25)).alloc Zg).drew).heap.size = w4.heap.size + 2) :=
              ⟨(((Below.refl _ w4).alloc (Nat.le_refl _) _).alloc (by simp) _).drew, (Below.heap_alloc _ _ _ (by simp)).trans (new_block_at w4 _ rfl), new_block_at _ _ (by simp), by simp⟩
            have HA0 : Hid (∀ j u, xs1[j]? = some u → (((w4.alloc (.cells #[.slice (some ⟨g3, 0, none⟩) (n + n') cap3] 25)).alloc Zg).drew).cell? ((⟨g, 0, none⟩ : Addr).add j) = some u) := ((A1.out.alloc _).alloc _).cells (g := g) rfl
            have HB0 : Hid ((((w4.alloc (.cells #[.slice (some ⟨g3, 0, none⟩) (n + n') cap3] 25)).alloc Zg).drew).ownsRow w.heap.size 43 10 (.slice (some ⟨g', 0, none⟩) n' cap') n' xs2) := (B1.out.alloc _).alloc _
            have m0 : 0 < (10 : Nat) := by decide
            have m1 : 0 + n ≤ maxLen := by unfold maxLen; omega
            have m2 : (0 + n) * 112 ≤ 140737488355328 := by omega
            have m3 : 0 + n + n' ≤ maxLen := by unfold maxLen; omega
            have m4 : (0 + n + n') * 112 ≤ 140737488355328 := by omega
            have m5 : w4.heap.size ≤ (((w4.alloc (.cells #[.slice (some ⟨g3, 0, none⟩) (n + n') cap3] 25)).alloc Zg).drew).heap.size := by simp; omega
            have m6 : (((w4.alloc (.cells #[.slice (some ⟨g3, 0, none⟩) (n + n') cap3] 25)).alloc Zg).drew).heap.size = w4.heap.size + 2 := by simp
            have HS5 : Hid (∀ w5, (((w4.alloc (.cells #[.slice (some ⟨g3, 0, none⟩) (n + n') cap3] 25)).alloc Zg).drew).grownBy w5 (Value.ownBlock (.slice none 0 0)) → w4.heap.size ≤ w5.heap.size) := fun w5 h => by have := h.size; omega
            have HC5 : Hid (∀ w5, (((w4.alloc (.cells #[.slice (some ⟨g3, 0, none⟩) (n + n') cap3] 25)).alloc Zg).drew).grownBy w5 (Value.ownBlock (.slice none 0 0)) → ∀ j u, xs2[j]? = some u → w5.cell? ((⟨g', 0, none⟩ : Addr).add j) = some u) := fun w5 h => (HB0.out.kept h (.inr (fun e => by cases e))).cells (g := g') rfl
            have HV5 : Hid (∀ w5, (((w4.alloc (.cells #[.slice (some ⟨g3, 0, none⟩) (n + n') cap3] 25)).alloc Zg).drew).grownBy w5 (Value.ownBlock (.slice none 0 0)) → w5.cell? ⟨w3.heap.size, 0, none⟩ = some (.slice (some ⟨g', 0, none⟩) n' cap')) := fun w5 h => (one_cell ((h.block _ (by rw [m6]; omega) (fun e => by cases e)).trans ((HW0.out.1.block _ k3).trans HK5.out))).1
            go_wp2_with fail
            go_region_law (first
              | (refine step_append_lies _ rfl (.tmp 73) (.tmp 75) 23 rfl w4.heap.size 43 iT (.agg #[.string { data := #[] }, .int .i64 0, .string { data := #[] }, .int .u64 0, .int .u64 0, .int .u64 0, .int .u64 0, .slice none 0 0, .int .i64 0, .int .i64 0]) 10 112 Tryd.underlying23 hiT hzT0 hzT1 hzT2 rfl m0 (.slice none 0 0) 0 [] ?_ (World.ownsRow_nil _ _ _ _) ⟨g, 0, none⟩ n cap xs1 ?_ AL.out HA0.out A3.out hn0 m1 m2 m5 (w4.heap.size + 2) m6 ?_; (simp [Act.eval]); (simp [Act.eval]); intro g5 cap5 w5 hown5 hgr5 hat5 hlt5; have kb := HV5.out w5 hgr5)
              | (refine step_append_lies _ rfl (.tmp 76) (.tmp 78) 23 rfl w4.heap.size 43 iT (.agg #[.string { data := #[] }, .int .i64 0, .string { data := #[] }, .int .u64 0, .int .u64 0, .int .u64 0, .int .u64 0, .slice none 0 0, .int .i64 0, .int .i64 0]) 10 112 Tryd.underlying23 hiT hzT0 hzT1 hzT2 rfl m0 (.slice (some ⟨g5, 0, none⟩) (0 + n) cap5) (0 + n) ([] ++ xs1) ?_ hown5 ⟨g', 0, none⟩ n' cap' xs2 ?_ BL.out (HC5.out w5 hgr5) B3.out hn1 m3 m4 (HS5.out w5 hgr5) w5.heap.size rfl ?_; (simp [Act.eval]); (simp [Act.eval]); intro g6 cap6 w6 hown6 hgr6 hat6 hlt6; obtain ⟨k7, k6, hrow⟩ := both_row HBw.out A1.out A2.out B1.out B2.out HN.out.1 HN.out.2 HW0.out.1 HW0.out.2.1 HW0.out.2.2.1 HW0.out.2.2.2 hown5 hgr5 hat5 hown6 hgr6 hat6; have HRow := hid hrow; obtain ⟨z0, z1⟩ := one_cell k6; have z2 := node_lt k6; obtain ⟨z3, _⟩ := one_cell k7; have z4 := node_lt k7; clear hown5 hgr5 hat5 hlt5 hown6 hgr6 hat6 hlt6 hrow k6 k7 kb))
            all_goals (
              have HZ : Hid (∀ x, Calls Tryd.prog 9 #[.agg #[.slice (some ⟨g3, 0, none⟩) (n + n') cap3], .agg #[.slice (some ⟨g6, 0, none⟩) (n + n') cap6], .bool false] (w6.setCell ⟨w4.heap.size + 1, 0, none⟩ x) fun e w' => e = .returned (.bool true) ∧ Below w.heap.size w w') := fun x => by
                have hb := (HRow.out x).1
                refine (zgram_all (HR5.out.below hb) (HRow.out x).2 (by omega) (fun j hj hj' => ?_)).mono ?_
                · obtain ⟨u1, u2⟩ := HRL.out.get j hj' hj
                  exact ⟨u1.symm, Sm_symm u2⟩
                · rintro e w' ⟨he, hb'⟩
                  have hb3 := HB5a.out.trans (HB6.out.mono HB5a.out.size)
                  have hb4 := hb3.trans (hb.mono hb3.size)
                  exact ⟨he, hb4.trans (hb'.mono hb4.size)⟩
              clear HRow HR5 HRL
              go_wp2_with fail
              refine (HZ.out _).mono ?_
              rintro e w7 ⟨rfl, hb7⟩
              have HB7 := hid hb7
              clear hb7 HZ
              go_wp2_with fail
              go_ret
              exact ⟨rfl, HB7.out⟩)
          · have c3 : decide ((64 : Int) < (n : Int) + (n' : Int)) = true := by simp; omega
            clear HR3 HR4 HP HP' hn hn' hp0 hp1 HP2 ha1 ha2
            go_wp2_with fail
            go_ret
            exact ⟨rfl, HB5.out.alloc HB5.out.size _⟩
end Go.Proofs.YtkofhmmnlapnnaaDoor
