/-
  The document's Same at two rows of rules; what syntax.Parse answers at any text; muntinlaw04.SyntaxBrackets answers true, whatever its argument. Conditions: those that each theorem names.
-/
import Derived.Test.YtkofhmmnlapnnaaDoorY20
import Derived.Test.YtkofhmmnlapnnaaDoorZP
namespace Go.Proofs.YtkofhmmnlapnnaaDoor
open Go.RowKit
set_option linter.unusedVariables false
/-- What stays while two grammars are held against each other. -/
def SG (w : World) (g n cap g' cap' : Nat) (W : World) : Prop := Below w.heap.size w W ∧ W.cell? ⟨w.heap.size, 0, none⟩ = some (.slice (some ⟨g, 0, none⟩) n cap) ∧ W.cell? ⟨w.heap.size + 1, 0, none⟩ = some (.slice (some ⟨g', 0, none⟩) n cap') ∧ w.heap.size + 2 ≤ W.heap.size
theorem SG.below {w W W' : World} {g n cap g' cap' : Nat} (h : SG w g n cap g' cap' W) (hb : Below W.heap.size W W') : SG w g n cap g' cap' W' := by
  obtain ⟨h1, h2, h3, h4⟩ := h
  exact ⟨h1.trans (hb.mono h1.size), (hb.cell (p := ⟨w.heap.size, 0, none⟩) (show w.heap.size < _ by omega)).trans h2, (hb.cell (p := ⟨w.heap.size + 1, 0, none⟩) (show w.heap.size + 1 < _ by omega)).trans h3, Nat.le_trans h4 hb.size⟩
theorem SG.start (w : World) (g cap g' cap' n : Nat) : SG w g n cap g' cap' ((w.alloc (.cells #[.slice (some ⟨g, 0, none⟩) n cap] 25)).alloc (.cells #[.slice (some ⟨g', 0, none⟩) n cap'] 25)) :=
  ⟨((Below.refl _ _).alloc (Nat.le_refl _) _).alloc (by simp) _, (one_cell ((Below.heap_alloc _ _ _ (by simp)).trans (new_block_at w _ rfl))).1, (one_cell (new_block_at _ _ (by simp))).1, by simp⟩
theorem keep_gr {w W W' : World} {g n cap g' cap' j : Nat} {kd1 C1 sl1 sc1 p1 kd2 C2 sl2 sc2 p2 : Nat} {M T1 T2 : ByteArray} {so1 so2 : Option Addr} (hg : g < w.heap.size) (hg' : g' < w.heap.size) (hb : Below W.heap.size W W') (h : Hid (SG w g n cap g' cap' W) ∧ W.cell? ⟨w.heap.size, 0, none⟩ = some (.slice (some ⟨g, 0, none⟩) n cap) ∧ W.cell? ⟨w.heap.size + 1, 0, none⟩ = some (.slice (some ⟨g', 0, none⟩) n cap') ∧ W.cell? ⟨g, j * 10, none⟩ = some (.string M) ∧ W.cell? ⟨g, j * 10 + 1, none⟩ = some (.int .i64 (kd1 : Int)) ∧ W.cell? ⟨g, j * 10 + 2, none⟩ = some (.string T1) ∧ W.cell? ⟨g, j * 10 + 3, none⟩ = some (.int .u64 (wd C1 0 : Nat)) ∧ W.cell? ⟨g, j * 10 + 4, none⟩ = some (.int .u64 (wd C1 1 : Nat)) ∧ W.cell? ⟨g, j * 10 + 5, none⟩ = some (.int .u64 (wd C1 2 : Nat)) ∧ W.cell? ⟨g, j * 10 + 6, none⟩ = some (.int .u64 (wd C1 3 : Nat)) ∧ W.cell? ⟨g, j * 10 + 7, none⟩ = some (.slice so1 sl1 sc1) ∧ W.cell? ⟨g, j * 10 + 8, none⟩ = some (.int .i64 (p1 : Int)) ∧ W.cell? ⟨g', j * 10, none⟩ = some (.string M) ∧ W.cell? ⟨g', j * 10 + 1, none⟩ = some (.int .i64 (kd2 : Int)) ∧ W.cell? ⟨g', j * 10 + 2, none⟩ = some (.string T2) ∧ W.cell? ⟨g', j * 10 + 3, none⟩ = some (.int .u64 (wd C2 0 : Nat)) ∧ W.cell? ⟨g', j * 10 + 4, none⟩ = some (.int .u64 (wd C2 1 : Nat)) ∧ W.cell? ⟨g', j * 10 + 5, none⟩ = some (.int .u64 (wd C2 2 : Nat)) ∧ W.cell? ⟨g', j * 10 + 6, none⟩ = some (.int .u64 (wd C2 3 : Nat)) ∧ W.cell? ⟨g', j * 10 + 7, none⟩ = some (.slice so2 sl2 sc2) ∧ W.cell? ⟨g', j * 10 + 8, none⟩ = some (.int .i64 (p2 : Int))) :
    Hid (SG w g n cap g' cap' W') ∧ W'.cell? ⟨w.heap.size, 0, none⟩ = some (.slice (some ⟨g, 0, none⟩) n cap) ∧ W'.cell? ⟨w.heap.size + 1, 0, none⟩ = some (.slice (some ⟨g', 0, none⟩) n cap') ∧ W'.cell? ⟨g, j * 10, none⟩ = some (.string M) ∧ W'.cell? ⟨g, j * 10 + 1, none⟩ = some (.int .i64 (kd1 : Int)) ∧ W'.cell? ⟨g, j * 10 + 2, none⟩ = some (.string T1) ∧ W'.cell? ⟨g, j * 10 + 3, none⟩ = some (.int .u64 (wd C1 0 : Nat)) ∧ W'.cell? ⟨g, j * 10 + 4, none⟩ = some (.int .u64 (wd C1 1 : Nat)) ∧ W'.cell? ⟨g, j * 10 + 5, none⟩ = some (.int .u64 (wd C1 2 : Nat)) ∧ W'.cell? ⟨g, j * 10 + 6, none⟩ = some (.int .u64 (wd C1 3 : Nat)) ∧ W'.cell? ⟨g, j * 10 + 7, none⟩ = some (.slice so1 sl1 sc1) ∧ W'.cell? ⟨g, j * 10 + 8, none⟩ = some (.int .i64 (p1 : Int)) ∧ W'.cell? ⟨g', j * 10, none⟩ = some (.string M) ∧ W'.cell? ⟨g', j * 10 + 1, none⟩ = some (.int .i64 (kd2 : Int)) ∧ W'.cell? ⟨g', j * 10 + 2, none⟩ = some (.string T2) ∧ W'.cell? ⟨g', j * 10 + 3, none⟩ = some (.int .u64 (wd C2 0 : Nat)) ∧ W'.cell? ⟨g', j * 10 + 4, none⟩ = some (.int .u64 (wd C2 1 : Nat)) ∧ W'.cell? ⟨g', j * 10 + 5, none⟩ = some (.int .u64 (wd C2 2 : Nat)) ∧ W'.cell? ⟨g', j * 10 + 6, none⟩ = some (.int .u64 (wd C2 3 : Nat)) ∧ W'.cell? ⟨g', j * 10 + 7, none⟩ = some (.slice so2 sl2 sc2) ∧ W'.cell? ⟨g', j * 10 + 8, none⟩ = some (.int .i64 (p2 : Int)) := by
  obtain ⟨h0, h1, h2, x, x0, x1, x2, x3, x4, x5, x6, x7, y, y0, y1, y2, y3, y4, y5, y6, y7⟩ := h
  have hs := h0.out.2.2.2
  have eg : ∀ i, W'.cell? ⟨g, i, none⟩ = W.cell? ⟨g, i, none⟩ := fun i => hb.cell (p := ⟨g, i, none⟩) (show g < _ by omega)
  have eg' : ∀ i, W'.cell? ⟨g', i, none⟩ = W.cell? ⟨g', i, none⟩ := fun i => hb.cell (p := ⟨g', i, none⟩) (show g' < _ by omega)
  have h3 := h0.out.below hb
  exact ⟨hid h3, h3.2.1, h3.2.2.1, (eg _).trans x, (eg _).trans x0, (eg _).trans x1, (eg _).trans x2, (eg _).trans x3, (eg _).trans x4, (eg _).trans x5, (eg _).trans x6, (eg _).trans x7, (eg' _).trans y, (eg' _).trans y0, (eg' _).trans y1, (eg' _).trans y2, (eg' _).trans y3, (eg' _).trans y4, (eg' _).trans y5, (eg' _).trans y6, (eg' _).trans y7⟩
set_option maxRecDepth 100000 in
set_option maxHeartbeats 8000000 in
theorem zgram_row (g cap g' cap' n : Nat) (w : World) (hn : n ≤ 1000000) (hg : g < w.heap.size) (hg' : g' < w.heap.size)
    (HC : Hid (∀ j, j < n → ∃ (M : ByteArray) (kd1 : Nat) (T1 : ByteArray) (C1 : Nat) (so1 : Option Addr) (sl1 sc1 p1 kd2 : Nat) (T2 : ByteArray) (C2 : Nat) (so2 : Option Addr) (sl2 sc2 p2 : Nat), (w.cell? ⟨g, j * 10, none⟩ = some (.string M) ∧ w.cell? ⟨g, j * 10 + 1, none⟩ = some (.int .i64 (kd1 : Int)) ∧ w.cell? ⟨g, j * 10 + 2, none⟩ = some (.string T1) ∧ w.cell? ⟨g, j * 10 + 3, none⟩ = some (.int .u64 (wd C1 0 : Nat)) ∧ w.cell? ⟨g, j * 10 + 4, none⟩ = some (.int .u64 (wd C1 1 : Nat)) ∧ w.cell? ⟨g, j * 10 + 5, none⟩ = some (.int .u64 (wd C1 2 : Nat)) ∧ w.cell? ⟨g, j * 10 + 6, none⟩ = some (.int .u64 (wd C1 3 : Nat)) ∧ w.cell? ⟨g, j * 10 + 7, none⟩ = some (.slice so1 sl1 sc1) ∧ w.cell? ⟨g, j * 10 + 8, none⟩ = some (.int .i64 (p1 : Int))) ∧ (w.cell? ⟨g', j * 10, none⟩ = some (.string M) ∧ w.cell? ⟨g', j * 10 + 1, none⟩ = some (.int .i64 (kd2 : Int)) ∧ w.cell? ⟨g', j * 10 + 2, none⟩ = some (.string T2) ∧ w.cell? ⟨g', j * 10 + 3, none⟩ = some (.int .u64 (wd C2 0 : Nat)) ∧ w.cell? ⟨g', j * 10 + 4, none⟩ = some (.int .u64 (wd C2 1 : Nat)) ∧ w.cell? ⟨g', j * 10 + 5, none⟩ = some (.int .u64 (wd C2 2 : Nat)) ∧ w.cell? ⟨g', j * 10 + 6, none⟩ = some (.int .u64 (wd C2 3 : Nat)) ∧ w.cell? ⟨g', j * 10 + 7, none⟩ = some (.slice so2 sl2 sc2) ∧ w.cell? ⟨g', j * 10 + 8, none⟩ = some (.int .i64 (p2 : Int))) ∧
      ∀ W : World, Below w.heap.size w W → Calls Tryd.prog 12 #[.agg (n8 kd1 T1 C1 (.slice so1 sl1 sc1) p1).toArray, .agg (n8 kd2 T2 C2 (.slice so2 sl2 sc2) p2).toArray, .bool false] W fun e w' => e = .returned (.bool true) ∧ Below W.heap.size W w')) :
    Calls Tryd.prog 9 #[.agg #[.slice (some ⟨g, 0, none⟩) n cap], .agg #[.slice (some ⟨g', 0, none⟩) n cap'], .bool false] w fun e w' => e = .returned (.bool true) ∧ Below w.heap.size w w' := by
  have HB0 := hid (SG.start w g cap g' cap' n)
  go_enter Tryd.func9, Tryd.ntmps9
  go_wp2_with fail
  go_loopw [7] (fun i wr => ∃ j : Nat, i = .int .i64 (j : Int) ∧ j ≤ n ∧ Hid (SG w g n cap g' cap' wr)) (fun i _ => n - (intOf i).toNat)
  case atStart => exact ⟨0, rfl, by omega, HB0⟩
  case round =>
    obtain ⟨j, rfl, hj, HW⟩ := hrel
    obtain ⟨_, b1, b2, _⟩ := HW.out
    clear HB0
    by_cases hjn : j < n
    · have hjI : (j : Int) < (n : Int) := by omega
      obtain ⟨M, kd1, T1, C1, so1, sl1, sc1, p1, kd2, T2, C2, so2, sl2, sc2, p2, ⟨x, x0, x1, x2, x3, x4, x5, x6, x7⟩, ⟨y, y0, y1, y2, y3, y4, y5, y6, y7⟩, hc⟩ := HC.out j hjn
      have HK := hid hc
      clear hc
      dsimp only [n8] at HK
      have ew : ∀ q i, q < w.heap.size → wr.cell? ⟨q, i, none⟩ = w.cell? ⟨q, i, none⟩ := fun q i hq => HW.out.1.cell (p := ⟨q, i, none⟩) hq
      have S0 : Hid (SG w g n cap g' cap' wr) ∧ wr.cell? ⟨w.heap.size, 0, none⟩ = some (.slice (some ⟨g, 0, none⟩) n cap) ∧ wr.cell? ⟨w.heap.size + 1, 0, none⟩ = some (.slice (some ⟨g', 0, none⟩) n cap') ∧ wr.cell? ⟨g, j * 10, none⟩ = some (.string M) ∧ wr.cell? ⟨g, j * 10 + 1, none⟩ = some (.int .i64 (kd1 : Int)) ∧ wr.cell? ⟨g, j * 10 + 2, none⟩ = some (.string T1) ∧ wr.cell? ⟨g, j * 10 + 3, none⟩ = some (.int .u64 (wd C1 0 : Nat)) ∧ wr.cell? ⟨g, j * 10 + 4, none⟩ = some (.int .u64 (wd C1 1 : Nat)) ∧ wr.cell? ⟨g, j * 10 + 5, none⟩ = some (.int .u64 (wd C1 2 : Nat)) ∧ wr.cell? ⟨g, j * 10 + 6, none⟩ = some (.int .u64 (wd C1 3 : Nat)) ∧ wr.cell? ⟨g, j * 10 + 7, none⟩ = some (.slice so1 sl1 sc1) ∧ wr.cell? ⟨g, j * 10 + 8, none⟩ = some (.int .i64 (p1 : Int)) ∧ wr.cell? ⟨g', j * 10, none⟩ = some (.string M) ∧ wr.cell? ⟨g', j * 10 + 1, none⟩ = some (.int .i64 (kd2 : Int)) ∧ wr.cell? ⟨g', j * 10 + 2, none⟩ = some (.string T2) ∧ wr.cell? ⟨g', j * 10 + 3, none⟩ = some (.int .u64 (wd C2 0 : Nat)) ∧ wr.cell? ⟨g', j * 10 + 4, none⟩ = some (.int .u64 (wd C2 1 : Nat)) ∧ wr.cell? ⟨g', j * 10 + 5, none⟩ = some (.int .u64 (wd C2 2 : Nat)) ∧ wr.cell? ⟨g', j * 10 + 6, none⟩ = some (.int .u64 (wd C2 3 : Nat)) ∧ wr.cell? ⟨g', j * 10 + 7, none⟩ = some (.slice so2 sl2 sc2) ∧ wr.cell? ⟨g', j * 10 + 8, none⟩ = some (.int .i64 (p2 : Int)) := ⟨HW, b1, b2, (ew _ _ hg).trans x, (ew _ _ hg).trans x0, (ew _ _ hg).trans x1, (ew _ _ hg).trans x2, (ew _ _ hg).trans x3, (ew _ _ hg).trans x4, (ew _ _ hg).trans x5, (ew _ _ hg).trans x6, (ew _ _ hg).trans x7, (ew _ _ hg').trans y, (ew _ _ hg').trans y0, (ew _ _ hg').trans y1, (ew _ _ hg').trans y2, (ew _ _ hg').trans y3, (ew _ _ hg').trans y4, (ew _ _ hg').trans y5, (ew _ _ hg').trans y6, (ew _ _ hg').trans y7⟩
      have S1 : (fun W => Hid (SG w g n cap g' cap' W) ∧ W.cell? ⟨w.heap.size, 0, none⟩ = some (.slice (some ⟨g, 0, none⟩) n cap) ∧ W.cell? ⟨w.heap.size + 1, 0, none⟩ = some (.slice (some ⟨g', 0, none⟩) n cap') ∧ W.cell? ⟨g, j * 10, none⟩ = some (.string M) ∧ W.cell? ⟨g, j * 10 + 1, none⟩ = some (.int .i64 (kd1 : Int)) ∧ W.cell? ⟨g, j * 10 + 2, none⟩ = some (.string T1) ∧ W.cell? ⟨g, j * 10 + 3, none⟩ = some (.int .u64 (wd C1 0 : Nat)) ∧ W.cell? ⟨g, j * 10 + 4, none⟩ = some (.int .u64 (wd C1 1 : Nat)) ∧ W.cell? ⟨g, j * 10 + 5, none⟩ = some (.int .u64 (wd C1 2 : Nat)) ∧ W.cell? ⟨g, j * 10 + 6, none⟩ = some (.int .u64 (wd C1 3 : Nat)) ∧ W.cell? ⟨g, j * 10 + 7, none⟩ = some (.slice so1 sl1 sc1) ∧ W.cell? ⟨g, j * 10 + 8, none⟩ = some (.int .i64 (p1 : Int)) ∧ W.cell? ⟨g', j * 10, none⟩ = some (.string M) ∧ W.cell? ⟨g', j * 10 + 1, none⟩ = some (.int .i64 (kd2 : Int)) ∧ W.cell? ⟨g', j * 10 + 2, none⟩ = some (.string T2) ∧ W.cell? ⟨g', j * 10 + 3, none⟩ = some (.int .u64 (wd C2 0 : Nat)) ∧ W.cell? ⟨g', j * 10 + 4, none⟩ = some (.int .u64 (wd C2 1 : Nat)) ∧ W.cell? ⟨g', j * 10 + 5, none⟩ = some (.int .u64 (wd C2 2 : Nat)) ∧ W.cell? ⟨g', j * 10 + 6, none⟩ = some (.int .u64 (wd C2 3 : Nat)) ∧ W.cell? ⟨g', j * 10 + 7, none⟩ = some (.slice so2 sl2 sc2) ∧ W.cell? ⟨g', j * 10 + 8, none⟩ = some (.int .i64 (p2 : Int))) wr.drew := keep_gr hg hg' (Below.refl _ wr).drew S0
      clear ew S0 x x0 x1 x2 x3 x4 x5 x6 x7 y y0 y1 y2 y3 y4 y5 y6 y7
      go_wp2_with fail
      go_region_held3 (fun W => Hid (SG w g n cap g' cap' W) ∧ W.cell? ⟨w.heap.size, 0, none⟩ = some (.slice (some ⟨g, 0, none⟩) n cap) ∧ W.cell? ⟨w.heap.size + 1, 0, none⟩ = some (.slice (some ⟨g', 0, none⟩) n cap') ∧ W.cell? ⟨g, j * 10, none⟩ = some (.string M) ∧ W.cell? ⟨g, j * 10 + 1, none⟩ = some (.int .i64 (kd1 : Int)) ∧ W.cell? ⟨g, j * 10 + 2, none⟩ = some (.string T1) ∧ W.cell? ⟨g, j * 10 + 3, none⟩ = some (.int .u64 (wd C1 0 : Nat)) ∧ W.cell? ⟨g, j * 10 + 4, none⟩ = some (.int .u64 (wd C1 1 : Nat)) ∧ W.cell? ⟨g, j * 10 + 5, none⟩ = some (.int .u64 (wd C1 2 : Nat)) ∧ W.cell? ⟨g, j * 10 + 6, none⟩ = some (.int .u64 (wd C1 3 : Nat)) ∧ W.cell? ⟨g, j * 10 + 7, none⟩ = some (.slice so1 sl1 sc1) ∧ W.cell? ⟨g, j * 10 + 8, none⟩ = some (.int .i64 (p1 : Int)) ∧ W.cell? ⟨g', j * 10, none⟩ = some (.string M) ∧ W.cell? ⟨g', j * 10 + 1, none⟩ = some (.int .i64 (kd2 : Int)) ∧ W.cell? ⟨g', j * 10 + 2, none⟩ = some (.string T2) ∧ W.cell? ⟨g', j * 10 + 3, none⟩ = some (.int .u64 (wd C2 0 : Nat)) ∧ W.cell? ⟨g', j * 10 + 4, none⟩ = some (.int .u64 (wd C2 1 : Nat)) ∧ W.cell? ⟨g', j * 10 + 5, none⟩ = some (.int .u64 (wd C2 2 : Nat)) ∧ W.cell? ⟨g', j * 10 + 6, none⟩ = some (.int .u64 (wd C2 3 : Nat)) ∧ W.cell? ⟨g', j * 10 + 7, none⟩ = some (.slice so2 sl2 sc2) ∧ W.cell? ⟨g', j * 10 + 8, none⟩ = some (.int .i64 (p2 : Int))) (first | assumption | exact keep_gr hg hg' (by assumption) (by assumption)) (first | (go_at_call 12; refine (HK.out _ ?hh).mono ?_; (case hh => exact S1.1.out.1); rintro e wq ⟨rfl, hbq⟩))
      have S3 : (fun W => Hid (SG w g n cap g' cap' W) ∧ W.cell? ⟨w.heap.size, 0, none⟩ = some (.slice (some ⟨g, 0, none⟩) n cap) ∧ W.cell? ⟨w.heap.size + 1, 0, none⟩ = some (.slice (some ⟨g', 0, none⟩) n cap') ∧ W.cell? ⟨g, j * 10, none⟩ = some (.string M) ∧ W.cell? ⟨g, j * 10 + 1, none⟩ = some (.int .i64 (kd1 : Int)) ∧ W.cell? ⟨g, j * 10 + 2, none⟩ = some (.string T1) ∧ W.cell? ⟨g, j * 10 + 3, none⟩ = some (.int .u64 (wd C1 0 : Nat)) ∧ W.cell? ⟨g, j * 10 + 4, none⟩ = some (.int .u64 (wd C1 1 : Nat)) ∧ W.cell? ⟨g, j * 10 + 5, none⟩ = some (.int .u64 (wd C1 2 : Nat)) ∧ W.cell? ⟨g, j * 10 + 6, none⟩ = some (.int .u64 (wd C1 3 : Nat)) ∧ W.cell? ⟨g, j * 10 + 7, none⟩ = some (.slice so1 sl1 sc1) ∧ W.cell? ⟨g, j * 10 + 8, none⟩ = some (.int .i64 (p1 : Int)) ∧ W.cell? ⟨g', j * 10, none⟩ = some (.string M) ∧ W.cell? ⟨g', j * 10 + 1, none⟩ = some (.int .i64 (kd2 : Int)) ∧ W.cell? ⟨g', j * 10 + 2, none⟩ = some (.string T2) ∧ W.cell? ⟨g', j * 10 + 3, none⟩ = some (.int .u64 (wd C2 0 : Nat)) ∧ W.cell? ⟨g', j * 10 + 4, none⟩ = some (.int .u64 (wd C2 1 : Nat)) ∧ W.cell? ⟨g', j * 10 + 5, none⟩ = some (.int .u64 (wd C2 2 : Nat)) ∧ W.cell? ⟨g', j * 10 + 6, none⟩ = some (.int .u64 (wd C2 3 : Nat)) ∧ W.cell? ⟨g', j * 10 + 7, none⟩ = some (.slice so2 sl2 sc2) ∧ W.cell? ⟨g', j * 10 + 8, none⟩ = some (.int .i64 (p2 : Int))) wq := by assumption
      obtain ⟨HW3, c1, c2, x, x0, x1, x2, x3, x4, x5, x6, x7, y, y0, y1, y2, y3, y4, y5, y6, y7⟩ := S3
      clear S1 hbq b1 b2 HW HK x0 x1 x2 x3 x4 x5 x6 x7 y0 y1 y2 y3 y4 y5 y6 y7
      go_wp2_with fail
      go_quiet (fail)
      go_wp2_with fail
      go_roundw
      case rel => exact ⟨j + 1, by go_num, by omega, hid (HW3.out.below (below_drewN (Below.refl _ _) _))⟩
      case measure => simp [intOf]; omega
    · have hjI : decide ((j : Int) < (n : Int)) = false := by simp; omega
      have HB : Hid (Below w.heap.size w wr) := HW.out.1
      clear HW
      go_wp2_with fail
      go_ret
      exact ⟨rfl, HB.out⟩
theorem RoR.len {B n cap : Nat} {so : Option Addr} {rs : List Rl} {W : World} (h : RoR B (.slice so n cap) rs W) : n = rs.length := by
  obtain ⟨xs, h1, _⟩ := h
  obtain ⟨hl, ⟨hq, hx⟩ | ⟨g', cap', cur, hq, _⟩⟩ := h1
  · injection hq with _ h2 _
    rw [hx] at hl
    simp at hl
    omega
  · injection hq
theorem RoR.lt {B g n cap : Nat} {rs : List Rl} {W : World} (h : RoR B (.slice (some ⟨g, 0, none⟩) n cap) rs W) : g < W.heap.size := by
  obtain ⟨xs, h1, _⟩ := h
  exact (h1.lt g rfl).2
/-- Same answers true at two rows of rules that are one but for places. -/
theorem zgram_all {g cap g' cap' B B' n : Nat} {xs ys : List Rl} {w : World} (h1 : RoR B (.slice (some ⟨g, 0, none⟩) n cap) xs w) (h2 : RoR B' (.slice (some ⟨g', 0, none⟩) n cap') ys w) (hn : n ≤ 1000000)
    (hR : ∀ j (hj : j < xs.length) (hj' : j < ys.length), ys[j].1 = xs[j].1 ∧ Sm xs[j].2.1 ys[j].2.1) :
    Calls Tryd.prog 9 #[.agg #[.slice (some ⟨g, 0, none⟩) n cap], .agg #[.slice (some ⟨g', 0, none⟩) n cap'], .bool false] w fun e w' => e = .returned (.bool true) ∧ Below w.heap.size w w' := by
  have l1 := h1.len
  have l2 := h2.len
  refine zgram_row g cap g' cap' n w hn h1.lt h2.lt (fun j hj => ?_)
  obtain ⟨c, a1, a2⟩ := h1.get j (by omega)
  obtain ⟨d, b1, b2⟩ := h2.get j (by omega)
  obtain ⟨hN, hS⟩ := hR j (by omega) (by omega)
  obtain ⟨cs, rfl, na⟩ := a1
  obtain ⟨ds, rfl, nb'⟩ := b1
  have na' := na
  have nb2 := nb'
  obtain ⟨kd1, T1, C1, so1, sl1, sc1, rfl⟩ := na.shape
  obtain ⟨kd2, T2, C2, so2, sl2, sc2, rfl⟩ := nb'.shape
  refine ⟨_, kd1, T1, C1, so1, sl1, sc1, _, kd2, T2, C2, so2, sl2, sc2, _, ⟨a2 0 _ rfl, a2 1 _ rfl, a2 2 _ rfl, a2 3 _ rfl, a2 4 _ rfl, a2 5 _ rfl, a2 6 _ rfl, a2 7 _ rfl, a2 8 _ rfl⟩, ⟨?_, b2 1 _ rfl, b2 2 _ rfl, b2 3 _ rfl, b2 4 _ rfl, b2 5 _ rfl, b2 6 _ rfl, b2 7 _ rfl, b2 8 _ rfl⟩, fun W hW => ?_⟩
  · rw [← hN]
    exact b2 0 _ rfl
  · exact zsame_all _ _ _ _ _ _ _ W (Nat.lt_succ_self _) hS (na'.below hW) (nb2.below hW)
set_option maxRecDepth 100000 in
theorem yparse_long (S : ByteArray) (w : World) (hS : 8192 < S.size) :
    Calls Tryd.prog 8 #[.string S] w fun e w' => ∃ f, e = .returned (.tuple #[.agg #[.slice none 0 0], flv f]) ∧ Hid (Below w.heap.size w w') := by
  have HT := hid (xtokens_long S (w.alloc Zg) hS)
  go_enter Tryd.func8, Tryd.ntmps8
  go_wp2_with fail
  refine HT.out.mono ?_
  rintro e w1 ⟨rfl, hw1⟩
  have HB : Hid (Below (w.heap.size + 1) (w.alloc Zg) w1) := by
    rw [hw1]
    have := (Below.refl (w.alloc Zg).heap.size (w.alloc Zg)).alloc (Nat.le_refl _) (.cells #[.int .i64 2, .int .i64 (-1)] 57)
    simp at this
    exact this
  obtain ⟨q, hq⟩ : ∃ q, q = (w.alloc Zg).heap.size := ⟨_, rfl⟩
  rw [← hq]
  have HA : Hid (Below w.heap.size w (w1.setCell ⟨w.heap.size, 0, none⟩ (.slice none 0 0))) := (setQ HB.out).2.2
  have HQ : Hid (w1.heap[w.heap.size]? = some Zg) := (setQ (x := .nilIface) HB.out).1
  obtain ⟨e0, y0⟩ := one_cell HQ.out
  have hQl := node_lt HQ.out
  clear HT HB hw1 hq
  unfold flv
  go_wp2_with fail
  (try simp only [Exit.inBlock, Exit.then])
  refine bodyPost_ret (v := .tuple #[.agg #[.slice none 0 0], .iface 54 (.pointer (some ⟨q, 0, none⟩))]) (by simp [results, Tryd.results8, go_sem, e0]) rfl ?_
  exact ⟨q, rfl, HA⟩
/-- What Parse hands back at any text: a Fault, or the grammar. -/
def Two (S : ByteArray) (w : World) (e : Ending) (w' : World) : Prop :=
  (∃ f, e = .returned (.tuple #[.agg #[.slice none 0 0], flv f]) ∧ Hid (Below w.heap.size w w')) ∨
  (∃ rs g n cap, Hid (S.size ≤ 8192 ∧ parS S = .inr rs) ∧ e = .returned (.tuple #[.agg #[.slice (some ⟨g, 0, none⟩) n cap], .nilIface]) ∧ Hid (RoR w.heap.size (.slice (some ⟨g, 0, none⟩) n cap) rs w') ∧ Hid (Below w.heap.size w w'))
theorem yparse_two (S : ByteArray) (w : World) (h : ErrIs w) : Calls Tryd.prog 8 #[.string S] w fun e w' => Two S w e w' := by
  rcases Nat.lt_or_ge 8192 S.size with hl | hl
  · exact (yparse_long S w hl).mono fun e w' h => .inl h
  · obtain ⟨X, hX⟩ : ∃ X, X = parS S := ⟨_, rfl⟩
    have hY := hid (yparse_any S w h hl)
    rw [← hX] at hY
    have HX := hid hX.symm
    clear hX
    refine hY.out.mono fun e w' hA => ?_
    cases X with
    | inl c =>
      obtain ⟨f, he, HF⟩ := hA
      exact .inl ⟨f, he, hid HF.out.2.2⟩
    | inr rs =>
      obtain ⟨g, cap, he, HR, HB⟩ := hA
      exact .inr ⟨rs, g, rs.length, cap, hid ⟨hl, HX.out⟩, he, HR, HB⟩
theorem add_str2 {a b c : ByteArray} (h : a ++ b = c) (hl : a.size + b.size ≤ 100000) (w : World) : (Op.stringOp .add a b).run Tryd.prog w = .ok (.string c) w := by
  rw [← h]
  exact run_string_add_sum w a b (by omega)
set_option maxRecDepth 100000 in
set_option maxHeartbeats 8000000 in
theorem ybrackets_any (D : ByteArray) (w : World) (h : ErrIs w) (hD : D.size ≤ 140737488351232) : Calls Tryd.prog 3 #[.string D] w fun e w' => e = .returned (.bool true) ∧ Below w.heap.size w w' := by
  have HSm := hid (ysmall_ok w h)
  have HE : Hid (ErrIs w) := h
  clear h
  rcases Nat.lt_or_ge 8192 D.size with hl | hl
  · have c0 : decide ((8192 : Int) < (D.size : Int)) = true := by simp; omega
    go_enter Tryd.func3, Tryd.ntmps3
    go_wp2_with fail
    refine HSm.out.mono ?_
    rintro e w1 ⟨rfl, HB1⟩
    clear HSm
    go_wp2_with fail
    go_ret
    exact ⟨rfl, HB1.out⟩
  · have c0 : decide ((8192 : Int) < (D.size : Int)) = false := by simp; omega
    have ha1 := add_str2 (a := { data := #[114, 117, 108, 101, 32, 60, 45, 32] }) (b := D) (c := brP ++ D) rfl (by show 8 + _ ≤ _; omega)
    have ha2 := add_str2 (a := brP ++ D) (b := { data := #[10] }) (c := brP ++ D ++ brE) rfl (by rw [ByteArray.size_append]; show 8 + _ + 1 ≤ _; omega)
    have hb1 := add_str2 (a := { data := #[114, 117, 108, 101, 32, 60, 45, 32, 40] }) (b := D) (c := brQ ++ D) rfl (by show 9 + _ ≤ _; omega)
    have hb2 := add_str2 (a := brQ ++ D) (b := { data := #[10, 41] }) (c := brQ ++ D ++ brF) rfl (by rw [ByteArray.size_append]; show 9 + _ + 2 ≤ _; omega)
    have HD := hid hl
    obtain ⟨P1, hP1⟩ : ∃ P1, P1 = brP ++ D := ⟨_, rfl⟩
    obtain ⟨Q1, hQ1⟩ : ∃ Q1, Q1 = brQ ++ D := ⟨_, rfl⟩
    rw [← hP1] at ha1 ha2
    rw [← hQ1] at hb1 hb2
    obtain ⟨P2, hP2⟩ : ∃ P2, P2 = P1 ++ brE := ⟨_, rfl⟩
    obtain ⟨Q2, hQ2⟩ : ∃ Q2, Q2 = Q1 ++ brF := ⟨_, rfl⟩
    rw [← hP2] at ha2
    rw [← hQ2] at hb2
    have HP2 : Hid (P2 = brP ++ D ++ brE) := by rw [hP2, hP1]; exact rfl
    have HQ2 : Hid (Q2 = brQ ++ D ++ brF) := by rw [hQ2, hQ1]; exact rfl
    clear hP1 hQ1 hP2 hQ2 hl hD
    go_enter Tryd.func3, Tryd.ntmps3
    go_wp2_with fail
    refine HSm.out.mono ?_
    rintro e w1 ⟨rfl, HB1⟩
    clear HSm
    go_wp2_with fail
    refine (yparse_two P2 w1 (HE.out.below HB1.out HE.out.lt)).mono ?_
    rintro e w2 (⟨f, rfl, HB2⟩ | ⟨rs, g, n, cap, HP, rfl, HR, HB2⟩)
    · have HB3 : Hid (∀ o : Obj, Below w.heap.size w (w2.alloc o)) := fun o => (HB1.out.trans (HB2.out.mono HB1.out.size)).alloc (Nat.le_trans HB1.out.size HB2.out.size) o
      clear HB1 HB2
      unfold flv
      go_wp2_with fail
      refine (yparse_two Q2 _ (HE.out.below (HB3.out _) HE.out.lt)).mono ?_
      rintro e w3 (⟨f', rfl, HB4⟩ | ⟨rs', g', n', cap', HP', rfl, HR', HB4⟩)
      · have HB5 : Hid (Below w.heap.size w w3) := (HB3.out _).trans (HB4.out.mono (HB3.out _).size)
        have HK : Hid (w3.heap[w2.heap.size]? = some (.cells #[.slice none 0 0] 25)) := (HB4.out.block _ (by simp)).trans (new_block_at w2 _ rfl)
        obtain ⟨k0, _⟩ := one_cell HK.out
        have k1 := node_lt HK.out
        clear HB3 HB4 HK
        unfold flv
        go_wp2_with fail
        go_ret
        exact ⟨rfl, HB5.out.alloc HB5.out.size _⟩
      · have HB5 : Hid (Below w.heap.size w w3) := (HB3.out _).trans (HB4.out.mono (HB3.out _).size)
        have HK : Hid (w3.heap[w2.heap.size]? = some (.cells #[.slice none 0 0] 25)) := (HB4.out.block _ (by simp)).trans (new_block_at w2 _ rfl)
        obtain ⟨k0, _⟩ := one_cell HK.out
        have k1 := node_lt HK.out
        clear HB3 HB4 HK
        go_wp2_with fail
        go_ret
        exact ⟨rfl, HB5.out.alloc HB5.out.size _⟩
    · have HB3 : Hid (∀ o : Obj, Below w.heap.size w (w2.alloc o)) := fun o => (HB1.out.trans (HB2.out.mono HB1.out.size)).alloc (Nat.le_trans HB1.out.size HB2.out.size) o
      clear HB2
      go_wp2_with fail
      refine (yparse_two Q2 _ (HE.out.below (HB3.out _) HE.out.lt)).mono ?_
      rintro e w3 (⟨f', rfl, HB4⟩ | ⟨rs', g', n', cap', HP', rfl, HR', HB4⟩)
      · have HB5 : Hid (Below w.heap.size w w3) := (HB3.out _).trans (HB4.out.mono (HB3.out _).size)
        have HK : Hid (w3.heap[w2.heap.size]? = some (.cells #[.slice (some ⟨g, 0, none⟩) n cap] 25)) := (HB4.out.block _ (by simp)).trans (new_block_at w2 _ rfl)
        obtain ⟨k0, _⟩ := one_cell HK.out
        have k1 := node_lt HK.out
        clear HB3 HB4 HK
        unfold flv
        go_wp2_with fail
        go_ret
        exact ⟨rfl, HB5.out.alloc HB5.out.size _⟩
      · have HB5 : Hid (Below w.heap.size w w3) := (HB3.out _).trans (HB4.out.mono (HB3.out _).size)
        have HR3 : Hid (RoR w1.heap.size (.slice (some ⟨g, 0, none⟩) n cap) rs w3) := (HR.out.below ((Below.refl _ w2).alloc (Nat.le_refl _) _)).below HB4.out
        have HK : Hid (w3.heap[w2.heap.size]? = some (.cells #[.slice (some ⟨g, 0, none⟩) n cap] 25)) := (HB4.out.block _ (by simp)).trans (new_block_at w2 _ rfl)
        obtain ⟨k0, _⟩ := one_cell HK.out
        have k1 := node_lt HK.out
        clear HB3 HB4 HR HK
        have hn := HR3.out.len
        by_cases h1 : n = 1
        · subst h1
          have HZ : Hid (∀ W, Below w3.heap.size w3 W → Calls Tryd.prog 9 #[.agg #[.slice (some ⟨g, 0, none⟩) 1 cap], .agg #[.slice (some ⟨g', 0, none⟩) n' cap'], .bool false] W fun e w' => e = .returned (.bool true) ∧ Below W.heap.size W w') := by
            obtain ⟨x, rfl⟩ : ∃ x, rs = [x] := by
              match rs, hn with
              | [x], _ => exact ⟨x, rfl⟩
            have e1 := HP.out.2
            have e2 := HP'.out.2
            rw [HP2.out] at e1
            rw [HQ2.out] at e2
            obtain ⟨y, rfl, hs, hnm⟩ := brackets_text HD.out e1 e2
            have hn' := HR'.out.len
            simp at hn'
            subst hn'
            intro W hW
            refine zgram_all (HR3.out.below hW) (HR'.out.below hW) (by omega) (fun j hj hj' => ?_)
            have : j = 0 := by simp at hj; omega
            subst this
            exact ⟨hnm, hs⟩
          clear HP HP' HR' HR3 hn
          go_wp2_with fail
          refine (HZ.out _ ?hb).mono ?_
          case hb => exact (Below.refl _ w3).alloc (Nat.le_refl _) _
          rintro e w4 ⟨rfl, hb4⟩
          have HB6 : Hid (Below w.heap.size w w4) := (HB5.out.alloc HB5.out.size _).trans (hb4.mono (HB5.out.alloc HB5.out.size _).size)
          clear hb4 HZ HB5
          go_wp2_with fail
          go_ret
          exact ⟨rfl, HB6.out⟩
        · have hne : ((n : Int) == 1) = false := by simp; omega
          have hne2 : ¬ ((n : Int) = 1) := by omega
          clear HP HP' HR' HR3 hn
          go_wp2_with fail
          go_ret
          exact ⟨rfl, HB5.out.alloc HB5.out.size _⟩
end Go.Proofs.YtkofhmmnlapnnaaDoor
