/-
  The document's Same at two rows of rules; what syntax.Parse answers at any text; the names ahead of arrows are those of the rules; muntinlaw04.SyntaxNames answers true, whatever its argument. Conditions: those that each theorem names.
-/
import Derived.Test.YtkofhmmnlapnnaaGreatDoorY20
import Derived.Test.YtkofhmmnlapnnaaGreatDoorZP
import Derived.Test.YtkofhmmnlapnnaaGreatDoorY16
import Derived.Test.YtkofhmmnlapnnaaGreatDoorXQ
namespace Go.Proofs.YtkofhmmnlapnnaaGreatDoor
open Go.RowKit
set_option linter.unusedVariables false
/-- What stays while two grammars are held against each other. -/
def SG (w : World) (g n cap g' cap' : Nat) (W : World) : Prop := Below w.heap.size w W ∧ W.cell? ⟨w.heap.size, 0, none⟩ = some (.slice (some ⟨g, 0, none⟩) n cap) ∧ W.cell? ⟨w.heap.size + 1, 0, none⟩ = some (.slice (some ⟨g', 0, none⟩) n cap') ∧ w.heap.size + 2 ≤ W.heap.size
theorem SG.below {w W W' : World} {g n cap g' cap' : Nat} (h : SG w g n cap g' cap' W) (hb : Below W.heap.size W W') : SG w g n cap g' cap' W' := by
  obtain ⟨h1, h2, h3, h4⟩ := h
  exact ⟨h1.trans (hb.mono h1.size), (hb.cell (p := ⟨w.heap.size, 0, none⟩) (show w.heap.size < _ by omega)).trans h2, (hb.cell (p := ⟨w.heap.size + 1, 0, none⟩) (show w.heap.size + 1 < _ by omega)).trans h3, Nat.le_trans h4 hb.size⟩
theorem SG.start (w : World) (g cap g' cap' n : Nat) : SG w g n cap g' cap' ((w.alloc (.cells #[.slice (some ⟨g, 0, none⟩) n cap] 36)).alloc (.cells #[.slice (some ⟨g', 0, none⟩) n cap'] 36)) :=
  ⟨((Below.refl _ _).alloc (Nat.le_refl _) _).alloc (by simp) _, (one_cell ((Below.heap_alloc _ _ _ (by simp)).trans (new_block_at w _ rfl))).1, (one_cell (new_block_at _ _ (by simp))).1, by simp⟩
theorem keep_gr {w W W' : World} {g n cap g' cap' j : Nat} {kd1 C1 sl1 sc1 p1 kd2 C2 sl2 sc2 p2 : Nat} {M T1 T2 : ByteArray} {so1 so2 : Option Addr} (hg : g < w.heap.size) (hg' : g' < w.heap.size) (hb : Below W.heap.size W W') (h : Hid (SG w g n cap g' cap' W) ∧ W.cell? ⟨w.heap.size, 0, none⟩ = some (.slice (some ⟨g, 0, none⟩) n cap) ∧ W.cell? ⟨w.heap.size + 1, 0, none⟩ = some (.slice (some ⟨g', 0, none⟩) n cap') ∧ W.cell? ⟨g, j * 10, none⟩ = some (.string M) ∧ W.cell? ⟨g, j * 10 + 1, none⟩ = some (.int .i64 (kd1 : Int)) ∧ W.cell? ⟨g, j * 10 + 2, none⟩ = some (.string T1) ∧ W.cell? ⟨g, j * 10 + 3, none⟩ = some (.int .u64 (wd C1 0 : Nat)) ∧ W.cell? ⟨g, j * 10 + 4, none⟩ = some (.int .u64 (wd C1 1 : Nat)) ∧ W.cell? ⟨g, j * 10 + 5, none⟩ = some (.int .u64 (wd C1 2 : Nat)) ∧ W.cell? ⟨g, j * 10 + 6, none⟩ = some (.int .u64 (wd C1 3 : Nat)) ∧ W.cell? ⟨g, j * 10 + 7, none⟩ = some (.slice so1 sl1 sc1) ∧ W.cell? ⟨g, j * 10 + 8, none⟩ = some (.int .i64 (p1 : Int)) ∧ W.cell? ⟨g', j * 10, none⟩ = some (.string M) ∧ W.cell? ⟨g', j * 10 + 1, none⟩ = some (.int .i64 (kd2 : Int)) ∧ W.cell? ⟨g', j * 10 + 2, none⟩ = some (.string T2) ∧ W.cell? ⟨g', j * 10 + 3, none⟩ = some (.int .u64 (wd C2 0 : Nat)) ∧ W.cell? ⟨g', j * 10 + 4, none⟩ = some (.int .u64 (wd C2 1 : Nat)) ∧ W.cell? ⟨g', j * 10 + 5, none⟩ = some (.int .u64 (wd C2 2 : Nat)) ∧ W.cell? ⟨g', j * 10 + 6, none⟩ = some (.int .u64 (wd C2 3 : Nat)) ∧ W.cell? ⟨g', j * 10 + 7, none⟩ = some (.slice so2 sl2 sc2) ∧ W.cell? ⟨g', j * 10 + 8, none⟩ = some (.int .i64 (p2 : Int))) :
    Hid (SG w g n cap g' cap' W') ∧ W'.cell? ⟨w.heap.size, 0, none⟩ = some (.slice (some ⟨g, 0, none⟩) n cap) ∧ W'.cell? ⟨w.heap.size + 1, 0, none⟩ = some (.slice (some ⟨g', 0, none⟩) n cap') ∧ W'.cell? ⟨g, j * 10, none⟩ = some (.string M) ∧ W'.cell? ⟨g, j * 10 + 1, none⟩ = some (.int .i64 (kd1 : Int)) ∧ W'.cell? ⟨g, j * 10 + 2, none⟩ = some (.string T1) ∧ W'.cell? ⟨g, j * 10 + 3, none⟩ = some (.int .u64 (wd C1 0 : Nat)) ∧ W'.cell? ⟨g, j * 10 + 4, none⟩ = some (.int .u64 (wd C1 1 : Nat)) ∧ W'.cell? ⟨g, j * 10 + 5, none⟩ = some (.int .u64 (wd C1 2 : Nat)) ∧ W'.cell? ⟨g, j * 10 + 6, none⟩ = some (.int .u64 (wd C1 3 : Nat)) ∧ W'.cell? ⟨g, j * 10 + 7, none⟩ = some (.slice so1 sl1 sc1) ∧ W'.cell? ⟨g, j * 10 + 8, none⟩ = some (.int .i64 (p1 : Int)) ∧ W'.cell? ⟨g', j * 10, none⟩ = some (.string M) ∧ W'.cell? ⟨g', j * 10 + 1, none⟩ = some (.int .i64 (kd2 : Int)) ∧ W'.cell? ⟨g', j * 10 + 2, none⟩ = some (.string T2) ∧ W'.cell? ⟨g', j * 10 + 3, none⟩ = some (.int .u64 (wd C2 0 : Nat)) ∧ W'.cell? ⟨g', j * 10 + 4, none⟩ = some (.int .u64 (wd C2 1 : Nat)) ∧ W'.cell? ⟨g', j * 10 + 5, none⟩ = some (.int .u64 (wd C2 2 : Nat)) ∧ W'.cell? ⟨g', j * 10 + 6, none⟩ = some (.int .u64 (wd C2 3 : Nat)) ∧ W'.cell? ⟨g', j * 10 + 7, none⟩ = some (.slice so2 sl2 sc2) ∧ W'.cell? ⟨g', j * 10 + 8, none⟩ = some (.int .i64 (p2 : Int)) := by
  obtain ⟨h0, h1, h2, x, x0, x1, x2, x3, x4, x5, x6, x7, y, y0, y1, y2, y3, y4, y5, y6, y7⟩ := h
  have hs := h0.out.2.2.2
  have eg : ∀ i, W'.cell? ⟨g, i, none⟩ = W.cell? ⟨g, i, none⟩ := fun i => hb.cell (p := ⟨g, i, none⟩) (show g < _ by omega)
  have eg' : ∀ i, W'.cell? ⟨g', i, none⟩ = W.cell? ⟨g', i, none⟩ := fun i => hb.cell (p := ⟨g', i, none⟩) (show g' < _ by omega)
  have h3 := h0.out.below hb
  exact ⟨hid h3, h3.2.1, h3.2.2.1, (eg _).trans x, (eg _).trans x0, (eg _).trans x1, (eg _).trans x2, (eg _).trans x3, (eg _).trans x4, (eg _).trans x5, (eg _).trans x6, (eg _).trans x7, (eg' _).trans y, (eg' _).trans y0, (eg' _).trans y1, (eg' _).trans y2, (eg' _).trans y3, (eg' _).trans y4, (eg' _).trans y5, (eg' _).trans y6, (eg' _).trans y7⟩
set_option maxRecDepth 100000 in
set_option maxHeartbeats 8000000 in
theorem zgram_row (g cap g' cap' n : Nat) (w : World) (hn : n ≤ 1000000) (hg : g < w.heap.size) (hg' : g' < w.heap.size)
    (HC : Hid (∀ j, j < n → ∃ (M : ByteArray) (kd1 : Nat) (T1 : ByteArray) (C1 : Nat) (so1 : Option Addr) (sl1 sc1 p1 kd2 : Nat) (T2 : ByteArray) (C2 : Nat) (so2 : Option Addr) (sl2 sc2 p2 : Nat), (w.cell? ⟨g, j * 10, none⟩ = some (.string M) ∧ w.cell? ⟨g, j * 10 + 1, none⟩ = some (.int .i64 (kd1 : Int)) ∧ w.cell? ⟨g, j * 10 + 2, none⟩ = some (.string T1) ∧ w.cell? ⟨g, j * 10 + 3, none⟩ = some (.int .u64 (wd C1 0 : Nat)) ∧ w.cell? ⟨g, j * 10 + 4, none⟩ = some (.int .u64 (wd C1 1 : Nat)) ∧ w.cell? ⟨g, j * 10 + 5, none⟩ = some (.int .u64 (wd C1 2 : Nat)) ∧ w.cell? ⟨g, j * 10 + 6, none⟩ = some (.int .u64 (wd C1 3 : Nat)) ∧ w.cell? ⟨g, j * 10 + 7, none⟩ = some (.slice so1 sl1 sc1) ∧ w.cell? ⟨g, j * 10 + 8, none⟩ = some (.int .i64 (p1 : Int))) ∧ (w.cell? ⟨g', j * 10, none⟩ = some (.string M) ∧ w.cell? ⟨g', j * 10 + 1, none⟩ = some (.int .i64 (kd2 : Int)) ∧ w.cell? ⟨g', j * 10 + 2, none⟩ = some (.string T2) ∧ w.cell? ⟨g', j * 10 + 3, none⟩ = some (.int .u64 (wd C2 0 : Nat)) ∧ w.cell? ⟨g', j * 10 + 4, none⟩ = some (.int .u64 (wd C2 1 : Nat)) ∧ w.cell? ⟨g', j * 10 + 5, none⟩ = some (.int .u64 (wd C2 2 : Nat)) ∧ w.cell? ⟨g', j * 10 + 6, none⟩ = some (.int .u64 (wd C2 3 : Nat)) ∧ w.cell? ⟨g', j * 10 + 7, none⟩ = some (.slice so2 sl2 sc2) ∧ w.cell? ⟨g', j * 10 + 8, none⟩ = some (.int .i64 (p2 : Int))) ∧
      ∀ W : World, Below w.heap.size w W → Calls Tryz.prog 14 #[.agg (n8 kd1 T1 C1 (.slice so1 sl1 sc1) p1).toArray, .agg (n8 kd2 T2 C2 (.slice so2 sl2 sc2) p2).toArray, .bool false] W fun e w' => e = .returned (.bool true) ∧ Below W.heap.size W w')) :
    Calls Tryz.prog 8 #[.agg #[.slice (some ⟨g, 0, none⟩) n cap], .agg #[.slice (some ⟨g', 0, none⟩) n cap'], .bool false] w fun e w' => e = .returned (.bool true) ∧ Below w.heap.size w w' := by
  have HB0 := hid (SG.start w g cap g' cap' n)
  go_enter Tryz.func8, Tryz.ntmps8
  go_wp2_with fail
  go_loopw [7] (fun i wr => ∃ j : Nat, i = .int .i64 (j : Int) ∧ j ≤ n ∧ Hid (SG w g n cap g' cap' wr)) (fun i _ => n - (intOf i).toNat)
  case atStart => exact ⟨0, rfl, by omega, HB0⟩
  case round =>
    obtain ⟨j, rfl, hj, HW⟩ := hrel
    obtain ⟨_, b1, b2, _⟩ := HW.out
    clear HB0
    by_cases hjn : j < n
    · have hjI : (j : Int) < (n : Int) := by omega
      obtain ⟨M, kd1, T1, C1, so1, sl1, sc1, p1, kd2, T2, C2, so2, sl2, sc2, p2, ⟨x, x0, x1, x2, x3, x4, x5, x6, x7⟩, ⟨y, y0, y1, y2, y3, y4, y5, y6, y7⟩, hc⟩ := HC.out j hjn
      have HK := hid hc
      clear hc
      dsimp only [n8] at HK
      have ew : ∀ q i, q < w.heap.size → wr.cell? ⟨q, i, none⟩ = w.cell? ⟨q, i, none⟩ := fun q i hq => HW.out.1.cell (p := ⟨q, i, none⟩) hq
      have S0 : Hid (SG w g n cap g' cap' wr) ∧ wr.cell? ⟨w.heap.size, 0, none⟩ = some (.slice (some ⟨g, 0, none⟩) n cap) ∧ wr.cell? ⟨w.heap.size + 1, 0, none⟩ = some (.slice (some ⟨g', 0, none⟩) n cap') ∧ wr.cell? ⟨g, j * 10, none⟩ = some (.string M) ∧ wr.cell? ⟨g, j * 10 + 1, none⟩ = some (.int .i64 (kd1 : Int)) ∧ wr.cell? ⟨g, j * 10 + 2, none⟩ = some (.string T1) ∧ wr.cell? ⟨g, j * 10 + 3, none⟩ = some (.int .u64 (wd C1 0 : Nat)) ∧ wr.cell? ⟨g, j * 10 + 4, none⟩ = some (.int .u64 (wd C1 1 : Nat)) ∧ wr.cell? ⟨g, j * 10 + 5, none⟩ = some (.int .u64 (wd C1 2 : Nat)) ∧ wr.cell? ⟨g, j * 10 + 6, none⟩ = some (.int .u64 (wd C1 3 : Nat)) ∧ wr.cell? ⟨g, j * 10 + 7, none⟩ = some (.slice so1 sl1 sc1) ∧ wr.cell? ⟨g, j * 10 + 8, none⟩ = some (.int .i64 (p1 : Int)) ∧ wr.cell? ⟨g', j * 10, none⟩ = some (.string M) ∧ wr.cell? ⟨g', j * 10 + 1, none⟩ = some (.int .i64 (kd2 : Int)) ∧ wr.cell? ⟨g', j * 10 + 2, none⟩ = some (.string T2) ∧ wr.cell? ⟨g', j * 10 + 3, none⟩ = some (.int .u64 (wd C2 0 : Nat)) ∧ wr.cell? ⟨g', j * 10 + 4, none⟩ = some (.int .u64 (wd C2 1 : Nat)) ∧ wr.cell? ⟨g', j * 10 + 5, none⟩ = some (.int .u64 (wd C2 2 : Nat)) ∧ wr.cell? ⟨g', j * 10 + 6, none⟩ = some (.int .u64 (wd C2 3 : Nat)) ∧ wr.cell? ⟨g', j * 10 + 7, none⟩ = some (.slice so2 sl2 sc2) ∧ wr.cell? ⟨g', j * 10 + 8, none⟩ = some (.int .i64 (p2 : Int)) := ⟨HW, b1, b2, (ew _ _ hg).trans x, (ew _ _ hg).trans x0, (ew _ _ hg).trans x1, (ew _ _ hg).trans x2, (ew _ _ hg).trans x3, (ew _ _ hg).trans x4, (ew _ _ hg).trans x5, (ew _ _ hg).trans x6, (ew _ _ hg).trans x7, (ew _ _ hg').trans y, (ew _ _ hg').trans y0, (ew _ _ hg').trans y1, (ew _ _ hg').trans y2, (ew _ _ hg').trans y3, (ew _ _ hg').trans y4, (ew _ _ hg').trans y5, (ew _ _ hg').trans y6, (ew _ _ hg').trans y7⟩
      have S1 : (fun W => Hid (SG w g n cap g' cap' W) ∧ W.cell? ⟨w.heap.size, 0, none⟩ = some (.slice (some ⟨g, 0, none⟩) n cap) ∧ W.cell? ⟨w.heap.size + 1, 0, none⟩ = some (.slice (some ⟨g', 0, none⟩) n cap') ∧ W.cell? ⟨g, j * 10, none⟩ = some (.string M) ∧ W.cell? ⟨g, j * 10 + 1, none⟩ = some (.int .i64 (kd1 : Int)) ∧ W.cell? ⟨g, j * 10 + 2, none⟩ = some (.string T1) ∧ W.cell? ⟨g, j * 10 + 3, none⟩ = some (.int .u64 (wd C1 0 : Nat)) ∧ W.cell? ⟨g, j * 10 + 4, none⟩ = some (.int .u64 (wd C1 1 : Nat)) ∧ W.cell? ⟨g, j * 10 + 5, none⟩ = some (.int .u64 (wd C1 2 : Nat)) ∧ W.cell? ⟨g, j * 10 + 6, none⟩ = some (.int .u64 (wd C1 3 : Nat)) ∧ W.cell? ⟨g, j * 10 + 7, none⟩ = some (.slice so1 sl1 sc1) ∧ W.cell? ⟨g, j * 10 + 8, none⟩ = some (.int .i64 (p1 : Int)) ∧ W.cell? ⟨g', j * 10, none⟩ = some (.string M) ∧ W.cell? ⟨g', j * 10 + 1, none⟩ = some (.int .i64 (kd2 : Int)) ∧ W.cell? ⟨g', j * 10 + 2, none⟩ = some (.string T2) ∧ W.cell? ⟨g', j * 10 + 3, none⟩ = some (.int .u64 (wd C2 0 : Nat)) ∧ W.cell? ⟨g', j * 10 + 4, none⟩ = some (.int .u64 (wd C2 1 : Nat)) ∧ W.cell? ⟨g', j * 10 + 5, none⟩ = some (.int .u64 (wd C2 2 : Nat)) ∧ W.cell? ⟨g', j * 10 + 6, none⟩ = some (.int .u64 (wd C2 3 : Nat)) ∧ W.cell? ⟨g', j * 10 + 7, none⟩ = some (.slice so2 sl2 sc2) ∧ W.cell? ⟨g', j * 10 + 8, none⟩ = some (.int .i64 (p2 : Int))) wr.drew := keep_gr hg hg' (Below.refl _ wr).drew S0
      clear ew S0 x x0 x1 x2 x3 x4 x5 x6 x7 y y0 y1 y2 y3 y4 y5 y6 y7
      go_wp2_with fail
      go_region_held3 (fun W => Hid (SG w g n cap g' cap' W) ∧ W.cell? ⟨w.heap.size, 0, none⟩ = some (.slice (some ⟨g, 0, none⟩) n cap) ∧ W.cell? ⟨w.heap.size + 1, 0, none⟩ = some (.slice (some ⟨g', 0, none⟩) n cap') ∧ W.cell? ⟨g, j * 10, none⟩ = some (.string M) ∧ W.cell? ⟨g, j * 10 + 1, none⟩ = some (.int .i64 (kd1 : Int)) ∧ W.cell? ⟨g, j * 10 + 2, none⟩ = some (.string T1) ∧ W.cell? ⟨g, j * 10 + 3, none⟩ = some (.int .u64 (wd C1 0 : Nat)) ∧ W.cell? ⟨g, j * 10 + 4, none⟩ = some (.int .u64 (wd C1 1 : Nat)) ∧ W.cell? ⟨g, j * 10 + 5, none⟩ = some (.int .u64 (wd C1 2 : Nat)) ∧ W.cell? ⟨g, j * 10 + 6, none⟩ = some (.int .u64 (wd C1 3 : Nat)) ∧ W.cell? ⟨g, j * 10 + 7, none⟩ = some (.slice so1 sl1 sc1) ∧ W.cell? ⟨g, j * 10 + 8, none⟩ = some (.int .i64 (p1 : Int)) ∧ W.cell? ⟨g', j * 10, none⟩ = some (.string M) ∧ W.cell? ⟨g', j * 10 + 1, none⟩ = some (.int .i64 (kd2 : Int)) ∧ W.cell? ⟨g', j * 10 + 2, none⟩ = some (.string T2) ∧ W.cell? ⟨g', j * 10 + 3, none⟩ = some (.int .u64 (wd C2 0 : Nat)) ∧ W.cell? ⟨g', j * 10 + 4, none⟩ = some (.int .u64 (wd C2 1 : Nat)) ∧ W.cell? ⟨g', j * 10 + 5, none⟩ = some (.int .u64 (wd C2 2 : Nat)) ∧ W.cell? ⟨g', j * 10 + 6, none⟩ = some (.int .u64 (wd C2 3 : Nat)) ∧ W.cell? ⟨g', j * 10 + 7, none⟩ = some (.slice so2 sl2 sc2) ∧ W.cell? ⟨g', j * 10 + 8, none⟩ = some (.int .i64 (p2 : Int))) (first | assumption | exact keep_gr hg hg' (by assumption) (by assumption)) (first | (go_at_call 14; refine (HK.out _ ?hh).mono ?_; (case hh => exact S1.1.out.1); rintro e wq ⟨rfl, hbq⟩))
      have S3 : (fun W => Hid (SG w g n cap g' cap' W) ∧ W.cell? ⟨w.heap.size, 0, none⟩ = some (.slice (some ⟨g, 0, none⟩) n cap) ∧ W.cell? ⟨w.heap.size + 1, 0, none⟩ = some (.slice (some ⟨g', 0, none⟩) n cap') ∧ W.cell? ⟨g, j * 10, none⟩ = some (.string M) ∧ W.cell? ⟨g, j * 10 + 1, none⟩ = some (.int .i64 (kd1 : Int)) ∧ W.cell? ⟨g, j * 10 + 2, none⟩ = some (.string T1) ∧ W.cell? ⟨g, j * 10 + 3, none⟩ = some (.int .u64 (wd C1 0 : Nat)) ∧ W.cell? ⟨g, j * 10 + 4, none⟩ = some (.int .u64 (wd C1 1 : Nat)) ∧ W.cell? ⟨g, j * 10 + 5, none⟩ = some (.int .u64 (wd C1 2 : Nat)) ∧ W.cell? ⟨g, j * 10 + 6, none⟩ = some (.int .u64 (wd C1 3 : Nat)) ∧ W.cell? ⟨g, j * 10 + 7, none⟩ = some (.slice so1 sl1 sc1) ∧ W.cell? ⟨g, j * 10 + 8, none⟩ = some (.int .i64 (p1 : Int)) ∧ W.cell? ⟨g', j * 10, none⟩ = some (.string M) ∧ W.cell? ⟨g', j * 10 + 1, none⟩ = some (.int .i64 (kd2 : Int)) ∧ W.cell? ⟨g', j * 10 + 2, none⟩ = some (.string T2) ∧ W.cell? ⟨g', j * 10 + 3, none⟩ = some (.int .u64 (wd C2 0 : Nat)) ∧ W.cell? ⟨g', j * 10 + 4, none⟩ = some (.int .u64 (wd C2 1 : Nat)) ∧ W.cell? ⟨g', j * 10 + 5, none⟩ = some (.int .u64 (wd C2 2 : Nat)) ∧ W.cell? ⟨g', j * 10 + 6, none⟩ = some (.int .u64 (wd C2 3 : Nat)) ∧ W.cell? ⟨g', j * 10 + 7, none⟩ = some (.slice so2 sl2 sc2) ∧ W.cell? ⟨g', j * 10 + 8, none⟩ = some (.int .i64 (p2 : Int))) wq := by assumption
      obtain ⟨HW3, c1, c2, x, x0, x1, x2, x3, x4, x5, x6, x7, y, y0, y1, y2, y3, y4, y5, y6, y7⟩ := S3
      clear S1 hbq b1 b2 HW HK x0 x1 x2 x3 x4 x5 x6 x7 y0 y1 y2 y3 y4 y5 y6 y7
      go_wp2_with fail
      go_quiet (fail)
      go_wp2_with fail
      go_roundw
      case rel => exact ⟨j + 1, by go_num, by omega, hid (HW3.out.below (below_drewN (Below.refl _ _) _))⟩
      case measure => simp [intOf]; omega
    · have hjI : decide ((j : Int) < (n : Int)) = false := by simp; omega
      have HB : Hid (Below w.heap.size w wr) := HW.out.1
      clear HW
      go_wp2_with fail
      go_ret
      exact ⟨rfl, HB.out⟩
theorem RoR.len {B n cap : Nat} {so : Option Addr} {rs : List Rl} {W : World} (h : RoR B (.slice so n cap) rs W) : n = rs.length := by
  obtain ⟨xs, h1, _⟩ := h
  obtain ⟨hl, ⟨hq, hx⟩ | ⟨g', cap', cur, hq, _⟩⟩ := h1
  · injection hq with _ h2 _
    rw [hx] at hl
    simp at hl
    omega
  · injection hq
theorem RoR.lt {B g n cap : Nat} {rs : List Rl} {W : World} (h : RoR B (.slice (some ⟨g, 0, none⟩) n cap) rs W) : g < W.heap.size := by
  obtain ⟨xs, h1, _⟩ := h
  exact (h1.lt g rfl).2
/-- Same answers true at two rows of rules that are one but for places. -/
theorem zgram_all {g cap g' cap' B B' n : Nat} {xs ys : List Rl} {w : World} (h1 : RoR B (.slice (some ⟨g, 0, none⟩) n cap) xs w) (h2 : RoR B' (.slice (some ⟨g', 0, none⟩) n cap') ys w) (hn : n ≤ 1000000)
    (hR : ∀ j (hj : j < xs.length) (hj' : j < ys.length), ys[j].1 = xs[j].1 ∧ Sm xs[j].2.1 ys[j].2.1) :
    Calls Tryz.prog 8 #[.agg #[.slice (some ⟨g, 0, none⟩) n cap], .agg #[.slice (some ⟨g', 0, none⟩) n cap'], .bool false] w fun e w' => e = .returned (.bool true) ∧ Below w.heap.size w w' := by
  have l1 := h1.len
  have l2 := h2.len
  refine zgram_row g cap g' cap' n w hn h1.lt h2.lt (fun j hj => ?_)
  obtain ⟨c, a1, a2⟩ := h1.get j (by omega)
  obtain ⟨d, b1, b2⟩ := h2.get j (by omega)
  obtain ⟨hN, hS⟩ := hR j (by omega) (by omega)
  obtain ⟨cs, rfl, na⟩ := a1
  obtain ⟨ds, rfl, nb'⟩ := b1
  have na' := na
  have nb2 := nb'
  obtain ⟨kd1, T1, C1, so1, sl1, sc1, rfl⟩ := na.shape
  obtain ⟨kd2, T2, C2, so2, sl2, sc2, rfl⟩ := nb'.shape
  refine ⟨_, kd1, T1, C1, so1, sl1, sc1, _, kd2, T2, C2, so2, sl2, sc2, _, ⟨a2 0 _ rfl, a2 1 _ rfl, a2 2 _ rfl, a2 3 _ rfl, a2 4 _ rfl, a2 5 _ rfl, a2 6 _ rfl, a2 7 _ rfl, a2 8 _ rfl⟩, ⟨?_, b2 1 _ rfl, b2 2 _ rfl, b2 3 _ rfl, b2 4 _ rfl, b2 5 _ rfl, b2 6 _ rfl, b2 7 _ rfl, b2 8 _ rfl⟩, fun W hW => ?_⟩
  · rw [← hN]
    exact b2 0 _ rfl
  · exact zsame_all _ _ _ _ _ _ _ W (Nat.lt_succ_self _) hS (na'.below hW) (nb2.below hW)
set_option maxRecDepth 100000 in
theorem yparse_long (S : ByteArray) (w : World) (hS : 8192 < S.size) :
    Calls Tryz.prog 7 #[.string S] w fun e w' => ∃ f, e = .returned (.tuple #[.agg #[.slice none 0 0], flv f]) ∧ Hid (Below w.heap.size w w') := by
  have HT := hid (xtokens_long S (w.alloc Zg) hS)
  go_enter Tryz.func7, Tryz.ntmps7
  go_wp2_with fail
  refine HT.out.mono ?_
  rintro e w1 ⟨rfl, hw1⟩
  have HB : Hid (Below (w.heap.size + 1) (w.alloc Zg) w1) := by
    rw [hw1]
    have := (Below.refl (w.alloc Zg).heap.size (w.alloc Zg)).alloc (Nat.le_refl _) (.cells #[.int .i64 2, .int .i64 (-1)] 66)
    simp at this
    exact this
  obtain ⟨q, hq⟩ : ∃ q, q = (w.alloc Zg).heap.size := ⟨_, rfl⟩
  rw [← hq]
  have HA : Hid (Below w.heap.size w (w1.setCell ⟨w.heap.size, 0, none⟩ (.slice none 0 0))) := (setQ HB.out).2.2
  have HQ : Hid (w1.heap[w.heap.size]? = some Zg) := (setQ (x := .nilIface) HB.out).1
  obtain ⟨e0, y0⟩ := one_cell HQ.out
  have hQl := node_lt HQ.out
  clear HT HB hw1 hq
  unfold flv
  go_wp2_with fail
  (try simp only [Exit.inBlock, Exit.then])
  refine bodyPost_ret (v := .tuple #[.agg #[.slice none 0 0], .iface 64 (.pointer (some ⟨q, 0, none⟩))]) (by simp [results, Tryz.results7, go_sem, e0]) rfl ?_
  exact ⟨q, rfl, HA⟩
/-- What Parse hands back at any text: a Fault, or the grammar. -/
def Two (S : ByteArray) (w : World) (e : Ending) (w' : World) : Prop :=
  (∃ f, e = .returned (.tuple #[.agg #[.slice none 0 0], flv f]) ∧ Hid (Below w.heap.size w w')) ∨
  (∃ rs g n cap, Hid (S.size ≤ 8192 ∧ parS S = .inr rs) ∧ e = .returned (.tuple #[.agg #[.slice (some ⟨g, 0, none⟩) n cap], .nilIface]) ∧ Hid (RoR w.heap.size (.slice (some ⟨g, 0, none⟩) n cap) rs w') ∧ Hid (Below w.heap.size w w'))
theorem yparse_two (S : ByteArray) (w : World) (h : ErrIs w) : Calls Tryz.prog 7 #[.string S] w fun e w' => Two S w e w' := by
  rcases Nat.lt_or_ge 8192 S.size with hl | hl
  · exact (yparse_long S w hl).mono fun e w' h => .inl h
  · obtain ⟨X, hX⟩ : ∃ X, X = parS S := ⟨_, rfl⟩
    have hY := hid (yparse_any S w h hl)
    rw [← hX] at hY
    have HX := hid hX.symm
    clear hX
    refine hY.out.mono fun e w' hA => ?_
    cases X with
    | inl c =>
      obtain ⟨f, he, HF⟩ := hA
      exact .inl ⟨f, he, hid HF.out.2.2⟩
    | inr rs =>
      obtain ⟨g, cap, he, HR, HB⟩ := hA
      exact .inr ⟨rs, g, rs.length, cap, hid ⟨hl, HX.out⟩, he, HR, HB⟩
theorem add_str2 {a b c : ByteArray} (h : a ++ b = c) (hl : a.size + b.size ≤ 100000) (w : World) : (Op.stringOp .add a b).run Tryz.prog w = .ok (.string c) w := by
  rw [← h]
  exact run_string_add_sum w a b (by omega)
/-- No arrow from k up to k'. -/
def NoA (L : List Tok) (k k' : Nat) : Prop := ∀ j, k ≤ j → j < k' → (gL L j).1 ≠ 2
section
variable {L : List Tok}
theorem NoA.one {k : Nat} (h : (gL L k).1 ≠ 2) : NoA L k (k + 1) := fun j h1 h2 => by
  obtain rfl : j = k := by omega
  exact h
theorem NoA.cat {a b c : Nat} (h1 : NoA L a b) (h2 : NoA L b c) : NoA L a c := fun j ha hc => by
  rcases Nat.lt_or_ge j b with h | h
  · exact h1 j ha h
  · exact h2 j h hc
theorem NoA.none (k : Nat) : NoA L k k := fun j h1 h2 => by omega
def NoI (L : List Tok) (inn : Nat → Pr) : Prop := ∀ k n k', sgT (gL L k) = { data := #[40] } → inn k = .inr (n, k') → NoA L k k'
theorem one_na {inn : Nat → Pr} (hi : NoI L inn) {k k' : Nat} {n : Nd} (h : oneS L inn k = .inr (n, k')) : NoA L k k' := by
  unfold oneS at h
  split at h
  · rename_i hc
    simp only [Sum.inr.injEq, Prod.mk.injEq] at h
    rw [← h.2]
    exact NoA.one (by omega)
  · split at h
    · rename_i hc
      simp only [Sum.inr.injEq, Prod.mk.injEq] at h
      rw [← h.2]
      exact NoA.one (by omega)
    · split at h
      · rename_i hc
        simp only [Sum.inr.injEq, Prod.mk.injEq] at h
        rw [← h.2]
        exact NoA.one (by omega)
      · split at h
        · rename_i hs
          simp only [Sum.inr.injEq, Prod.mk.injEq] at h
          rw [← h.2]
          exact NoA.one (by rw [sgT_five hs]; decide)
        · split at h
          · rename_i hs
            exact hi k n k' hs h
          · cases h
theorem rep_na {r : Pr} {k k' : Nat} {n : Nd} (hr : ∀ m j, r = .inr (m, j) → NoA L k j) (h : repE L r = .inr (n, k')) : NoA L k k' := by
  cases r with
  | inl e => cases h
  | inr q =>
    obtain ⟨m, j⟩ := q
    have h1 := hr m j rfl
    unfold repE at h
    simp only at h
    split at h
    · simp only [Sum.inr.injEq, Prod.mk.injEq] at h
      rw [← h.2]
      exact h1
    · rename_i hs
      simp only [Sum.inr.injEq, Prod.mk.injEq] at h
      rw [← h.2]
      exact h1.cat (NoA.one (by rw [rpK_sg hs]; decide))
theorem part_na {inn : Nat → Pr} (hi : NoI L inn) {k k' : Nat} {n : Nd} (h : partS L inn k = .inr (n, k')) : NoA L k k' := by
  unfold partS at h
  split at h
  · rename_i hs
    obtain ⟨m, hm⟩ := ovS_inv h
    exact (NoA.one (by rw [sgT_five hs]; decide)).cat (rep_na (fun m j e => one_na hi e) hm)
  · split at h
    · rename_i hs
      obtain ⟨m, hm⟩ := ovS_inv h
      exact (NoA.one (by rw [sgT_five hs]; decide)).cat (rep_na (fun m j e => one_na hi e) hm)
    · exact rep_na (fun m j e => one_na hi e) h
theorem row_na {inn : Nat → Pr} (hi : NoI L inn) : ∀ (f k : Nat) (acc : List Nd) (n : Nd) (k' : Nat), rowS L inn f k acc = .inr (n, k') → NoA L k k'
  | 0, _, _, _, _, h => by rw [rowS] at h; cases h
  | f + 1, k, acc, n, k', h => by
    rw [rowS] at h
    split at h
    · split at h
      · cases h
      · rename_i m j hp
        exact (part_na hi hp).cat (row_na hi f j (acc ++ [m]) n k' h)
    · split at h
      · simp only [Sum.inr.injEq, Prod.mk.injEq] at h; rw [← h.2]; exact NoA.none k
      · simp only [Sum.inr.injEq, Prod.mk.injEq] at h; rw [← h.2]; exact NoA.none k
theorem alt_na {inn : Nat → Pr} (hi : NoI L inn) : ∀ (f k : Nat) (acc : List Nd) (n : Nd) (k' : Nat), altS L inn f k acc = .inr (n, k') → NoA L k k'
  | 0, _, _, _, _, h => by rw [altS] at h; cases h
  | f + 1, k, acc, n, k', h => by
    rw [altS] at h
    split at h
    · rename_i hs
      split at h
      · cases h
      · rename_i m j hp
        exact ((NoA.one (by rw [sgT_five hs]; decide)).cat (row_na hi _ _ _ _ _ hp)).cat (alt_na hi f j (acc ++ [m]) n k' h)
    · simp only [Sum.inr.injEq, Prod.mk.injEq] at h; rw [← h.2]; exact NoA.none k
theorem ch_na {inn : Nat → Pr} (hi : NoI L inn) {k k' : Nat} {n : Nd} (h : chS L inn k = .inr (n, k')) : NoA L k k' := by
  unfold chS at h
  cases hr : rowS L inn L.length k [] with
  | inl e => rw [hr] at h; cases h
  | inr q =>
    obtain ⟨m, j⟩ := q
    rw [hr] at h
    exact (row_na hi _ _ _ _ _ hr).cat (alt_na hi _ _ _ _ _ h)
theorem inn_na : ∀ d, NoI L (innS L d)
  | 0 => fun k n k' _ h => by rw [innS] at h; cases h
  | d + 1 => fun k n k' hs h => by
    rw [innS] at h
    obtain ⟨j, h1, h2, h3⟩ := innE_inv h
    rw [h3]
    exact ((NoA.one (by rw [sgT_five hs]; decide)).cat (ch_na (inn_na d) h1)).cat (NoA.one (by rw [sgT_five h2]; decide))
/-- A rule: a name, an arrow, no other arrow. -/
theorem ru_na {ru k k' : Nat} {x : Rl} (h : ruS L ru k = .inr (x, k')) : (gL L k).1 = 1 ∧ (gL L (k + 1)).1 = 2 ∧ NoA L (k + 2) k' ∧ x.1 = (gL L k).2.1 ∧ x.2.2 = (gL L k).2.2.2 := by
  unfold ruS at h
  split at h
  · cases h
  · rename_i c1
    split at h
    · cases h
    · split at h
      · cases h
      · rename_i c2
        cases hs : chS L (innS L 24) (k + 2) with
        | inl c => rw [hs] at h; cases h
        | inr q =>
          obtain ⟨n, j⟩ := q
          rw [hs] at h
          simp only [ruE, Sum.inr.injEq, Prod.mk.injEq] at h
          obtain ⟨rfl, rfl⟩ := h
          exact ⟨by simpa using c1, by simpa using c2, ch_na (inn_na 24) hs, rfl, rfl⟩
/-- How many arrows stand ahead of i. -/
def cA (L : List Tok) : Nat → Nat
  | 0 => 0
  | i + 1 => cA L i + (if (gL L i).1 = 2 then 1 else 0)
theorem cA_le (L : List Tok) : ∀ i, cA L i ≤ i
  | 0 => Nat.le_refl _
  | i + 1 => by
    have := cA_le L i
    rw [cA]
    split <;> omega
theorem cA_no {k : Nat} : ∀ (d : Nat), NoA L k (k + d) → cA L (k + d) = cA L k
  | 0, _ => rfl
  | d + 1, h => by
    rw [← Nat.add_assoc, cA, if_neg (h (k + d) (by omega) (by omega)), Nat.add_zero]
    exact cA_no d (fun j h1 h2 => h j h1 (by omega))
/-- What the rules say of the arrows from k on. -/
def Hds (L : List Tok) (k : Nat) (rs : List Rl) : Prop := (∀ p, k ≤ p → p + 1 < L.length → (gL L (p + 1)).1 = 2 → ∃ x, rs[cA L (p + 1)]? = some x ∧ x.1 = (gL L p).2.1 ∧ x.2.2 = (gL L p).2.2.2) ∧ rs.length = cA L L.length
theorem rls_pre (L : List Tok) : ∀ (f k : Nat) (acc rs : List Rl), rlsS L f k acc = .inr rs → ∃ r, rs = acc ++ r
  | 0, _, _, _, h => by rw [rlsS] at h; cases h
  | f + 1, k, acc, rs, h => by
    rw [rlsS] at h
    split at h
    · simp only [Sum.inr.injEq] at h; exact ⟨[], by simp [h]⟩
    · split at h
      · cases h
      · rename_i x k' _
        obtain ⟨r, hr⟩ := rls_pre L f k' (acc ++ [x]) rs h
        exact ⟨x :: r, by rw [hr]; simp⟩
theorem rls_arr (hg : Good L) (hend : ∀ k, k < L.length → (gL L k).1 = 6 → k + 1 = L.length) : ∀ (f k : Nat) (acc rs : List Rl), k < L.length → rlsS L f k acc = .inr rs → acc.length = cA L k → Hds L k rs
  | 0, _, _, _, _, h, _ => by rw [rlsS] at h; cases h
  | f + 1, k, acc, rs, hk, h, ha => by
    rw [rlsS] at h
    split at h
    · rename_i h6
      simp only [Sum.inr.injEq] at h
      subst h
      have hl := hend k hk h6
      refine ⟨fun p hp hp1 _ => by omega, ?_⟩
      rw [ha, ← hl, cA, if_neg (by rw [h6]; decide), Nat.add_zero]
    · rename_i h6
      cases hr : ruS L acc.length k with
      | inl c => rw [hr] at h; cases h
      | inr q =>
        obtain ⟨x, k'⟩ := q
        rw [hr] at h
        simp only at h
        obtain ⟨c1, c2, c3, c4, c5⟩ := ru_na hr
        have hadv := ruS_adv hg hk hr
        have e1 : cA L (k + 1) = cA L k := by rw [cA, if_neg (by rw [c1]; decide), Nat.add_zero]
        have e2 : cA L (k + 2) = cA L k + 1 := by rw [show k + 2 = k + 1 + 1 from rfl, cA, if_pos c2, e1]
        have e3 : cA L k' = cA L k + 1 := by
          obtain ⟨d, rfl⟩ : ∃ d, k' = k + 2 + d := ⟨k' - (k + 2), by omega⟩
          rw [cA_no d c3, e2]
        obtain ⟨r1, r2⟩ := rls_arr hg hend f k' (acc ++ [x]) rs hadv.2 h (by simp; omega)
        refine ⟨fun p hp hp1 hp2 => ?_, r2⟩
        rcases Nat.lt_or_ge p k' with hlt | hge
        · have hpk : p = k := by
            rcases Nat.lt_or_ge k p with h1 | h1
            · rcases Nat.lt_or_ge (p + 1) k' with h2 | h2
              · exact absurd hp2 (c3 (p + 1) (by omega) h2)
              · have hpe : p + 1 = k' := by omega
                -- the token at k' is no arrow: a rule begins there, or the row ends
                exfalso
                rw [hpe] at hp2
                cases f with
                | zero => rw [rlsS] at h; cases h
                | succ f =>
                  rw [rlsS, if_neg (by rw [hp2]; decide)] at h
                  split at h
                  · cases h
                  · rename_i y k2 hr2
                    have := (ru_na hr2).1
                    omega
            · omega
          subst hpk
          obtain ⟨r, hr'⟩ := rls_pre L f k' (acc ++ [x]) rs h
          refine ⟨x, ?_, c4, c5⟩
          rw [e1, ← ha, hr', List.append_assoc, List.getElem?_append_right (Nat.le_refl _), Nat.sub_self]
          rfl
        · exact r1 p hge hp1 hp2
theorem gra_arr (hg : Good L) (h0 : 0 < L.length) (hend : ∀ k, k < L.length → (gL L k).1 = 6 → k + 1 = L.length) {rs : List Rl} (h : graS L = .inr rs) : Hds L 0 rs ∧ (gL L 0).1 = 1 ∧ 0 < rs.length := by
  unfold graS at h
  cases hr : ruS L 0 0 with
  | inl c => rw [hr] at h; cases h
  | inr q =>
    obtain ⟨x, k'⟩ := q
    have hh : rlsS L (L.length + 1) 0 [] = .inr rs := by
      rw [rlsS, if_neg (by rw [(ru_na hr).1]; decide), show ruS L ([] : List Rl).length 0 = ruS L 0 0 from rfl, hr]
      rw [hr] at h
      exact h
    refine ⟨rls_arr hg hend _ 0 [] rs h0 hh rfl, (ru_na hr).1, ?_⟩
    rw [hr] at h
    obtain ⟨r, hr'⟩ := rls_pre L _ _ _ _ h
    rw [hr']
    simp
end
theorem qtokens_some (S : ByteArray) (w : World) : Calls Tryz.prog 6 #[.string S] w fun e w' => ∃ v a c, e = .returned (.tuple #[v, .int .i64 a, .int .i64 c]) ∧ Hid (Below w.heap.size w w') := by
  rcases Nat.lt_or_ge 8192 S.size with hl | hl
  · refine (qtokens_long S w hl).mono fun e w' h => ?_
    exact ⟨_, _, _, h.1, hid (by rw [h.2]; exact Below.refl _ _)⟩
  · obtain ⟨X, hX⟩ : ∃ X, X = tkS S := ⟨_, rfl⟩
    have hY := hid (qtokens_any S w hl)
    rw [← hX] at hY
    clear hX
    refine hY.out.mono fun e w' h => ?_
    cases X with
    | inl c => exact ⟨_, _, _, h.1, hid h.2⟩
    | inr l =>
      obtain ⟨v, he, _, HB⟩ := h
      exact ⟨_, _, _, he, HB⟩
theorem par_toks {S : ByteArray} {rs : List Rl} (h : parS S = .inr rs) (hS : S.size ≤ 8192) : ∃ L, tkS S = .inr L ∧ graS L = .inr rs ∧ Hds L 0 rs ∧ (gL L 0).1 = 1 ∧ 0 < rs.length ∧ 0 < L.length ∧ L.length ≤ 10000 := by
  unfold parS at h
  cases ht : tkS S with
  | inl c => rw [ht] at h; cases h
  | inr L =>
    rw [ht] at h
    have hg := tkS_good ht hS
    obtain ⟨m, hm, rfl⟩ := tkS_inv ht
    have hgood := tkl_good _ _ _ _ _ hm (fun t ht => by simp at ht)
    obtain ⟨a, b, c⟩ := gra_arr hg.1 hg.2 (fun k hk h6 => by
      rcases Nat.lt_or_ge k m.length with hl | hl
      · rw [gL_left hl] at h6
        have := (hgood.1 _ (List.getElem_mem hl)).1
        omega
      · simp at hk ⊢
        omega) h
    exact ⟨_, rfl, h, a, b, c, hg.2, hg.1.len⟩
set_option maxRecDepth 100000 in
set_option maxHeartbeats 8000000 in
theorem ynames_any (S : ByteArray) (w : World) (h : ErrIs w) (hS : S.size ≤ 140737488351232) : Calls Tryz.prog 4 #[.string S] w fun e w' => e = .returned (.bool true) ∧ Below w.heap.size w w' := by
  have HSm := hid (ysmall_ok w h)
  have HE : Hid (ErrIs w) := h
  clear h hS
  go_enter Tryz.func4, Tryz.ntmps4
  go_wp2_with fail
  refine HSm.out.mono ?_
  rintro e w1 ⟨rfl, HB1⟩
  clear HSm
  go_wp2_with fail
  refine (yparse_two S w1 (HE.out.below HB1.out HE.out.lt)).mono ?_
  rintro e w2 (⟨f, rfl, HB2⟩ | ⟨rs, g, n, cap, HP, rfl, HR, HB2⟩)
  · have HB3 : Hid (∀ o : Obj, Below w.heap.size w (w2.alloc o)) := fun o => (HB1.out.trans (HB2.out.mono HB1.out.size)).alloc (Nat.le_trans HB1.out.size HB2.out.size) o
    clear HB1 HB2
    unfold flv
    go_wp2_with fail
    refine (qtokens_some S _).mono ?_
    rintro e w3 ⟨v, a, c, rfl, HB4⟩
    have HB5 : Hid (Below w.heap.size w w3) := (HB3.out _).trans (HB4.out.mono (HB3.out _).size)
    clear HB3 HB4
    go_wp2_with fail
    go_quiet (fail)
    go_wp2_with fail
    go_ret
    first | exact ⟨rfl, HB5.out⟩ | exact ⟨rfl, below_drewN HB5.out _⟩
  · have HB3 : Hid (∀ o : Obj, Below w.heap.size w (w2.alloc o)) := fun o => (HB1.out.trans (HB2.out.mono HB1.out.size)).alloc (Nat.le_trans HB1.out.size HB2.out.size) o
    obtain ⟨L, hL, hgr, hH, hk0, hr0, hL0, hLb⟩ := par_toks HP.out.2 HP.out.1
    have HQ : Hid (Calls Tryz.prog 6 #[.string S] (w2.alloc (.cells #[.slice (some ⟨g, 0, none⟩) n cap] 36)) fun e w' => AnsQ (.inr L) (w2.alloc (.cells #[.slice (some ⟨g, 0, none⟩) n cap] 36)) e w') := by
      have hY := hid (qtokens_any S (w2.alloc (.cells #[.slice (some ⟨g, 0, none⟩) n cap] 36)) HP.out.1)
      have HX := hid hL
      clear hL
      obtain ⟨X, hX⟩ : ∃ X, X = tkS S := ⟨_, rfl⟩
      rw [← hX] at hY
      refine hY.out.mono fun e w' hA => ?_
      rw [hX.trans HX.out] at hA
      exact hA
    have HH : Hid (Hds L 0 rs) := hH
    have hc1 : cA L 1 = 0 := by rw [cA, cA, if_neg (by rw [hk0]; decide)]
    have hn := HR.out.len
    have HN : Hid (n = rs.length) := hn
    have hn0 : (0 : Int) < (n : Int) := by omega
    clear hL hgr hH hk0 HP HB2 HB1 hr0 hn
    go_wp2_with fail
    refine HQ.out.mono ?_
    rintro e w3 ⟨v, rfl, HO, HB4⟩
    obtain ⟨gt, ct, rfl⟩ := own_shape HO.out hL0
    obtain ⟨N, hN⟩ : ∃ N, N = L.length := ⟨_, rfl⟩
    have HNl : Hid (N = L.length) := hN
    rw [← hN] at HO hL0 hLb ⊢
    clear hN
    have HB5 : Hid (Below w.heap.size w w3) := (HB3.out _).trans (HB4.out.mono (HB3.out _).size)
    have HR3 : Hid (RoR w1.heap.size (.slice (some ⟨g, 0, none⟩) n cap) rs w3) := (HR.out.below ((Below.refl _ w2).alloc (Nat.le_refl _) _)).below HB4.out
    have HK : Hid (w3.heap[w2.heap.size]? = some (.cells #[.slice (some ⟨g, 0, none⟩) n cap] 36)) := (HB4.out.block _ (by simp)).trans (new_block_at w2 _ rfl)
    obtain ⟨k0, _⟩ := one_cell HK.out
    have k1 := node_lt HK.out
    have hgl := HR3.out.lt
    have hgt : gt < w3.heap.size := (HO.out.lt gt rfl).2
    clear HB3 HB4 HR HQ
    go_wp2_with fail
    go_loopw [9, 10] (fun kk ii wr => ∃ j q : Nat, kk = .int .i64 ((cA L (j + 1) : Nat) : Int) ∧ ii = .int .i64 (j : Int) ∧ j + 1 ≤ N ∧ wr = w3.drewN q) (fun _ ii _ => N - (intOf ii).toNat)
    case atStart => exact ⟨0, 0, by rw [Nat.zero_add, hc1]; rfl, rfl, by omega, rfl⟩
    case round =>
      obtain ⟨j, q, rfl, rfl, hj, rfl⟩ := hrel
      obtain ⟨J, hJ⟩ : ∃ J, J = j + 1 := ⟨_, rfl⟩
      rw [← hJ] at hj ⊢
      have hJI : (j : Int) + 1 = (J : Int) := by omega
      have hwJ : IntKind.i64.wrap (J : Int) = (J : Int) := by rw [IntKind.wrap_i64]; omega
      have HjJ : Hid (J = j + 1) := hJ
      obtain ⟨c, hc⟩ : ∃ c, c = cA L J := ⟨_, rfl⟩
      rw [← hc]
      by_cases hjk : J < N
      · have a0 : decide ((J : Int) < (N : Int)) = true := by simp; omega
        have hJN : (J : Int) < (N : Int) := by omega
        have hjN : (j : Int) < (N : Int) := by omega
        have z1 := own_tok HO.out j (by rw [← HNl.out]; omega) HNl.out
        have z2 := own_tok HO.out J (by rw [← HNl.out]; omega) HNl.out
        have hgJ : gL L J = L[J]'(by rw [← HNl.out]; omega) := gL_eq _
        have hgj : gL L j = L[j]'(by rw [← HNl.out]; omega) := gL_eq _
        rw [← hgJ] at z2
        rw [← hgj] at z1
        clear hgJ hgj
        have hcs : cA L (J + 1) = c + (if (gL L J).1 = 2 then 1 else 0) := by rw [cA, hc]
        have hH := fun h2 => HH.out.1 j (Nat.zero_le _) (by rw [← HNl.out, ← hJ]; exact hjk) h2
        rw [← hJ, ← hc] at hH
        obtain ⟨t, ht⟩ : ∃ t, t = gL L j := ⟨_, rfl⟩
        obtain ⟨u, hu⟩ : ∃ u, u = gL L J := ⟨_, rfl⟩
        rw [← ht] at z1 hH
        rw [← hu] at z2 hH hcs
        clear ht hu hJ hc
        obtain ⟨kd, T, C, at'⟩ := t
        obtain ⟨kd', T', C', at''⟩ := u
        obtain ⟨p0, p1, p2, p3, p4, p5, p6⟩ := z1
        obtain ⟨r0, r1, r2, r3, r4, r5, r6⟩ := z2
        clear p0 p2 p3 p4 p5 r1 r2 r3 r4 r5 r6
        dsimp only at p1 p6 r0 hH hcs
        by_cases hk2 : kd' = 2
        · obtain ⟨x, hx, e1, e2⟩ := hH hk2
          have hcl : c < rs.length := by
            rcases Nat.lt_or_ge c rs.length with h | h
            · exact h
            · rw [List.getElem?_eq_none h] at hx; cases hx
          obtain ⟨d, d1, d2⟩ := HR3.out.get c hcl
          have hxe : rs[c] = x := by rw [List.getElem?_eq_getElem hcl] at hx; exact Option.some.inj hx
          rw [hxe] at d1
          obtain ⟨cs, rfl, dn⟩ := d1
          have dl := dn.len
          have d3 : w3.cell? ⟨g, c * 10, none⟩ = some (.string T) := by rw [← e1]; exact d2 0 _ rfl
          have d4 : w3.cell? ⟨g, c * 10 + 9, none⟩ = some (.int .i64 (at' : Int)) := by
            rw [← e2]
            refine d2 9 _ ?_
            rw [List.getElem?_cons_succ, List.getElem?_append_right (by omega), dl]
            rfl
          have hcn : c < n := by rw [HN.out]; exact hcl
          have c5 : decide ((n : Int) ≤ (c : Int)) = false := by simp; omega
          have hcnI : (c : Int) < (n : Int) := by omega
          have hcw : IntKind.i64.wrap ((c : Int) + 1) = (c : Int) + 1 := by rw [IntKind.wrap_i64]; have h1 := HN.out; have h2 := HH.out.2; have h3 := cA_le L L.length; have h4 := HNl.out; omega
          rw [hk2] at r0
          rw [if_pos hk2] at hcs
          clear hH hx e1 e2 hcl hxe d2 dn dl hk2
          go_wp2_with fail
          go_quiet (fail)
          go_wp2_with fail
          go_roundw
          case rel => exact ⟨J, _, by rw [hcs]; rfl, rfl, by omega, by first | rfl | (rw [World.drewN_drewN])⟩
          case measure => simp [intOf]; have := HjJ.out; omega
        · have k5 : ((kd' : Int) != 2) = true := by rw [bne_iff_ne]; omega
          have k6 : ((kd' : Int) == 2) = false := by simp; omega
          rw [if_neg hk2, Nat.add_zero] at hcs
          clear hH hk2
          go_wp2_with fail
          go_roundw
          case rel => exact ⟨J, _, by rw [hcs]; rfl, rfl, by omega, by first | rfl | (rw [World.drewN_drewN])⟩
          case measure => simp [intOf]; have := HjJ.out; omega
      · have a0 : decide ((J : Int) < (N : Int)) = false := by simp; omega
        have hcn : c = n := by
          have h1 := HH.out.2
          have h2 := HN.out
          have h3 : J = L.length := by have := HNl.out; omega
          rw [hc, h2, h1, h3]
        subst hcn
        have hc0 : 0 < c := by omega
        clear hc hJ
        go_wp2_with fail
        go_ret
        exact ⟨rfl, below_drewN HB5.out q⟩
end Go.Proofs.YtkofhmmnlapnnaaGreatDoor
