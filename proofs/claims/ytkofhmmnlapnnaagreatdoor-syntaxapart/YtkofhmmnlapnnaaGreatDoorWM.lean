/-
  The document's Same at two rows of rules; what syntax.Parse answers at any text; tokens with others between each two; muntinlaw04.SyntaxApart answers true, whatever its arguments. Conditions: those that each theorem names.
-/
import Derived.Test.YtkofhmmnlapnnaaGreatDoorY20
import Derived.Test.YtkofhmmnlapnnaaGreatDoorZP
import Derived.Test.YtkofhmmnlapnnaaGreatDoorY16
import Derived.Test.YtkofhmmnlapnnaaGreatDoorXQ
import Derived.Laws.BitsLemmas
import Derived.Laws.Bits128
import Derived.ProofKit
import Derived.OpenShut
namespace Go.Proofs.YtkofhmmnlapnnaaGreatDoor
open Go.RowKit
set_option linter.unusedVariables false
/-- What stays while two grammars are held against each other. -/
def SG (w : World) (g n cap g' cap' : Nat) (W : World) : Prop := Below w.heap.size w W ∧ W.cell? ⟨w.heap.size, 0, none⟩ = some (.slice (some ⟨g, 0, none⟩) n cap) ∧ W.cell? ⟨w.heap.size + 1, 0, none⟩ = some (.slice (some ⟨g', 0, none⟩) n cap') ∧ w.heap.size + 2 ≤ W.heap.size
theorem SG.below {w W W' : World} {g n cap g' cap' : Nat} (h : SG w g n cap g' cap' W) (hb : Below W.heap.size W W') : SG w g n cap g' cap' W' := by
  obtain ⟨h1, h2, h3, h4⟩ := h
  exact ⟨h1.trans (hb.mono h1.size), (hb.cell (p := ⟨w.heap.size, 0, none⟩) (show w.heap.size < _ by omega)).trans h2, (hb.cell (p := ⟨w.heap.size + 1, 0, none⟩) (show w.heap.size + 1 < _ by omega)).trans h3, Nat.le_trans h4 hb.size⟩
theorem SG.start (w : World) (g cap g' cap' n : Nat) : SG w g n cap g' cap' ((w.alloc (.cells #[.slice (some ⟨g, 0, none⟩) n cap] 36)).alloc (.cells #[.slice (some ⟨g', 0, none⟩) n cap'] 36)) :=
  ⟨((Below.refl _ _).alloc (Nat.le_refl _) _).alloc (by simp) _, (one_cell ((Below.heap_alloc _ _ _ (by simp)).trans (new_block_at w _ rfl))).1, (one_cell (new_block_at _ _ (by simp))).1, by simp⟩
theorem keep_gr {w W W' : World} {g n cap g' cap' j : Nat} {kd1 C1 sl1 sc1 p1 kd2 C2 sl2 sc2 p2 : Nat} {M T1 T2 : ByteArray} {so1 so2 : Option Addr} (hg : g < w.heap.size) (hg' : g' < w.heap.size) (hb : Below W.heap.size W W') (h : Hid (SG w g n cap g' cap' W) ∧ W.cell? ⟨w.heap.size, 0, none⟩ = some (.slice (some ⟨g, 0, none⟩) n cap) ∧ W.cell? ⟨w.heap.size + 1, 0, none⟩ = some (.slice (some ⟨g', 0, none⟩) n cap') ∧ W.cell? ⟨g, j * 10, none⟩ = some (.string M) ∧ W.cell? ⟨g, j * 10 + 1, none⟩ = some (.int .i64 (kd1 : Int)) ∧ W.cell? ⟨g, j * 10 + 2, none⟩ = some (.string T1) ∧ W.cell? ⟨g, j * 10 + 3, none⟩ = some (.int .u64 (wd C1 0 : Nat)) ∧ W.cell? ⟨g, j * 10 + 4, none⟩ = some (.int .u64 (wd C1 1 : Nat)) ∧ W.cell? ⟨g, j * 10 + 5, none⟩ = some (.int .u64 (wd C1 2 : Nat)) ∧ W.cell? ⟨g, j * 10 + 6, none⟩ = some (.int .u64 (wd C1 3 : Nat)) ∧ W.cell? ⟨g, j * 10 + 7, none⟩ = some (.slice so1 sl1 sc1) ∧ W.cell? ⟨g, j * 10 + 8, none⟩ = some (.int .i64 (p1 : Int)) ∧ W.cell? ⟨g', j * 10, none⟩ = some (.string M) ∧ W.cell? ⟨g', j * 10 + 1, none⟩ = some (.int .i64 (kd2 : Int)) ∧ W.cell? ⟨g', j * 10 + 2, none⟩ = some (.string T2) ∧ W.cell? ⟨g', j * 10 + 3, none⟩ = some (.int .u64 (wd C2 0 : Nat)) ∧ W.cell? ⟨g', j * 10 + 4, none⟩ = some (.int .u64 (wd C2 1 : Nat)) ∧ W.cell? ⟨g', j * 10 + 5, none⟩ = some (.int .u64 (wd C2 2 : Nat)) ∧ W.cell? ⟨g', j * 10 + 6, none⟩ = some (.int .u64 (wd C2 3 : Nat)) ∧ W.cell? ⟨g', j * 10 + 7, none⟩ = some (.slice so2 sl2 sc2) ∧ W.cell? ⟨g', j * 10 + 8, none⟩ = some (.int .i64 (p2 : Int))) :
    Hid (SG w g n cap g' cap' W') ∧ W'.cell? ⟨w.heap.size, 0, none⟩ = some (.slice (some ⟨g, 0, none⟩) n cap) ∧ W'.cell? ⟨w.heap.size + 1, 0, none⟩ = some (.slice (some ⟨g', 0, none⟩) n cap') ∧ W'.cell? ⟨g, j * 10, none⟩ = some (.string M) ∧ W'.cell? ⟨g, j * 10 + 1, none⟩ = some (.int .i64 (kd1 : Int)) ∧ W'.cell? ⟨g, j * 10 + 2, none⟩ = some (.string T1) ∧ W'.cell? ⟨g, j * 10 + 3, none⟩ = some (.int .u64 (wd C1 0 : Nat)) ∧ W'.cell? ⟨g, j * 10 + 4, none⟩ = some (.int .u64 (wd C1 1 : Nat)) ∧ W'.cell? ⟨g, j * 10 + 5, none⟩ = some (.int .u64 (wd C1 2 : Nat)) ∧ W'.cell? ⟨g, j * 10 + 6, none⟩ = some (.int .u64 (wd C1 3 : Nat)) ∧ W'.cell? ⟨g, j * 10 + 7, none⟩ = some (.slice so1 sl1 sc1) ∧ W'.cell? ⟨g, j * 10 + 8, none⟩ = some (.int .i64 (p1 : Int)) ∧ W'.cell? ⟨g', j * 10, none⟩ = some (.string M) ∧ W'.cell? ⟨g', j * 10 + 1, none⟩ = some (.int .i64 (kd2 : Int)) ∧ W'.cell? ⟨g', j * 10 + 2, none⟩ = some (.string T2) ∧ W'.cell? ⟨g', j * 10 + 3, none⟩ = some (.int .u64 (wd C2 0 : Nat)) ∧ W'.cell? ⟨g', j * 10 + 4, none⟩ = some (.int .u64 (wd C2 1 : Nat)) ∧ W'.cell? ⟨g', j * 10 + 5, none⟩ = some (.int .u64 (wd C2 2 : Nat)) ∧ W'.cell? ⟨g', j * 10 + 6, none⟩ = some (.int .u64 (wd C2 3 : Nat)) ∧ W'.cell? ⟨g', j * 10 + 7, none⟩ = some (.slice so2 sl2 sc2) ∧ W'.cell? ⟨g', j * 10 + 8, none⟩ = some (.int .i64 (p2 : Int)) := by
  obtain ⟨h0, h1, h2, x, x0, x1, x2, x3, x4, x5, x6, x7, y, y0, y1, y2, y3, y4, y5, y6, y7⟩ := h
  have hs := h0.out.2.2.2
  have eg : ∀ i, W'.cell? ⟨g, i, none⟩ = W.cell? ⟨g, i, none⟩ := fun i => hb.cell (p := ⟨g, i, none⟩) (show g < _ by omega)
  have eg' : ∀ i, W'.cell? ⟨g', i, none⟩ = W.cell? ⟨g', i, none⟩ := fun i => hb.cell (p := ⟨g', i, none⟩) (show g' < _ by omega)
  have h3 := h0.out.below hb
  exact ⟨hid h3, h3.2.1, h3.2.2.1, (eg _).trans x, (eg _).trans x0, (eg _).trans x1, (eg _).trans x2, (eg _).trans x3, (eg _).trans x4, (eg _).trans x5, (eg _).trans x6, (eg _).trans x7, (eg' _).trans y, (eg' _).trans y0, (eg' _).trans y1, (eg' _).trans y2, (eg' _).trans y3, (eg' _).trans y4, (eg' _).trans y5, (eg' _).trans y6, (eg' _).trans y7⟩
set_option maxRecDepth 100000 in
set_option maxHeartbeats 8000000 in
theorem zgram_row (g cap g' cap' n : Nat) (w : World) (hn : n ≤ 1000000) (hg : g < w.heap.size) (hg' : g' < w.heap.size)
    (HC : Hid (∀ j, j < n → ∃ (M : ByteArray) (kd1 : Nat) (T1 : ByteArray) (C1 : Nat) (so1 : Option Addr) (sl1 sc1 p1 kd2 : Nat) (T2 : ByteArray) (C2 : Nat) (so2 : Option Addr) (sl2 sc2 p2 : Nat), (w.cell? ⟨g, j * 10, none⟩ = some (.string M) ∧ w.cell? ⟨g, j * 10 + 1, none⟩ = some (.int .i64 (kd1 : Int)) ∧ w.cell? ⟨g, j * 10 + 2, none⟩ = some (.string T1) ∧ w.cell? ⟨g, j * 10 + 3, none⟩ = some (.int .u64 (wd C1 0 : Nat)) ∧ w.cell? ⟨g, j * 10 + 4, none⟩ = some (.int .u64 (wd C1 1 : Nat)) ∧ w.cell? ⟨g, j * 10 + 5, none⟩ = some (.int .u64 (wd C1 2 : Nat)) ∧ w.cell? ⟨g, j * 10 + 6, none⟩ = some (.int .u64 (wd C1 3 : Nat)) ∧ w.cell? ⟨g, j * 10 + 7, none⟩ = some (.slice so1 sl1 sc1) ∧ w.cell? ⟨g, j * 10 + 8, none⟩ = some (.int .i64 (p1 : Int))) ∧ (w.cell? ⟨g', j * 10, none⟩ = some (.string M) ∧ w.cell? ⟨g', j * 10 + 1, none⟩ = some (.int .i64 (kd2 : Int)) ∧ w.cell? ⟨g', j * 10 + 2, none⟩ = some (.string T2) ∧ w.cell? ⟨g', j * 10 + 3, none⟩ = some (.int .u64 (wd C2 0 : Nat)) ∧ w.cell? ⟨g', j * 10 + 4, none⟩ = some (.int .u64 (wd C2 1 : Nat)) ∧ w.cell? ⟨g', j * 10 + 5, none⟩ = some (.int .u64 (wd C2 2 : Nat)) ∧ w.cell? ⟨g', j * 10 + 6, none⟩ = some (.int .u64 (wd C2 3 : Nat)) ∧ w.cell? ⟨g', j * 10 + 7, none⟩ = some (.slice so2 sl2 sc2) ∧ w.cell? ⟨g', j * 10 + 8, none⟩ = some (.int .i64 (p2 : Int))) ∧
      ∀ W : World, Below w.heap.size w W → Calls Tryz.prog 14 #[.agg (n8 kd1 T1 C1 (.slice so1 sl1 sc1) p1).toArray, .agg (n8 kd2 T2 C2 (.slice so2 sl2 sc2) p2).toArray, .bool false] W fun e w' => e = .returned (.bool true) ∧ Below W.heap.size W w')) :
    Calls Tryz.prog 8 #[.agg #[.slice (some ⟨g, 0, none⟩) n cap], .agg #[.slice (some ⟨g', 0, none⟩) n cap'], .bool false] w fun e w' => e = .returned (.bool true) ∧ Below w.heap.size w w' := by
  have HB0 := hid (SG.start w g cap g' cap' n)
  go_enter Tryz.func8, Tryz.ntmps8
  go_wp2_with fail
  go_loopw [7] (fun i wr => ∃ j : Nat, i = .int .i64 (j : Int) ∧ j ≤ n ∧ Hid (SG w g n cap g' cap' wr)) (fun i _ => n - (intOf i).toNat)
  case atStart => exact ⟨0, rfl, by omega, HB0⟩
  case round =>
    obtain ⟨j, rfl, hj, HW⟩ := hrel
    obtain ⟨_, b1, b2, _⟩ := HW.out
    clear HB0
    by_cases hjn : j < n
    · have hjI : (j : Int) < (n : Int) := by omega
      obtain ⟨M, kd1, T1, C1, so1, sl1, sc1, p1, kd2, T2, C2, so2, sl2, sc2, p2, ⟨x, x0, x1, x2, x3, x4, x5, x6, x7⟩, ⟨y, y0, y1, y2, y3, y4, y5, y6, y7⟩, hc⟩ := HC.out j hjn
      have HK := hid hc
      clear hc
      dsimp only [n8] at HK
      have ew : ∀ q i, q < w.heap.size → wr.cell? ⟨q, i, none⟩ = w.cell? ⟨q, i, none⟩ := fun q i hq => HW.out.1.cell (p := ⟨q, i, none⟩) hq
      have S0 : Hid (SG w g n cap g' cap' wr) ∧ wr.cell? ⟨w.heap.size, 0, none⟩ = some (.slice (some ⟨g, 0, none⟩) n cap) ∧ wr.cell? ⟨w.heap.size + 1, 0, none⟩ = some (.slice (some ⟨g', 0, none⟩) n cap') ∧ wr.cell? ⟨g, j * 10, none⟩ = some (.string M) ∧ wr.cell? ⟨g, j * 10 + 1, none⟩ = some (.int .i64 (kd1 : Int)) ∧ wr.cell? ⟨g, j * 10 + 2, none⟩ = some (.string T1) ∧ wr.cell? ⟨g, j * 10 + 3, none⟩ = some (.int .u64 (wd C1 0 : Nat)) ∧ wr.cell? ⟨g, j * 10 + 4, none⟩ = some (.int .u64 (wd C1 1 : Nat)) ∧ wr.cell? ⟨g, j * 10 + 5, none⟩ = some (.int .u64 (wd C1 2 : Nat)) ∧ wr.cell? ⟨g, j * 10 + 6, none⟩ = some (.int .u64 (wd C1 3 : Nat)) ∧ wr.cell? ⟨g, j * 10 + 7, none⟩ = some (.slice so1 sl1 sc1) ∧ wr.cell? ⟨g, j * 10 + 8, none⟩ = some (.int .i64 (p1 : Int)) ∧ wr.cell? ⟨g', j * 10, none⟩ = some (.string M) ∧ wr.cell? ⟨g', j * 10 + 1, none⟩ = some (.int .i64 (kd2 : Int)) ∧ wr.cell? ⟨g', j * 10 + 2, none⟩ = some (.string T2) ∧ wr.cell? ⟨g', j * 10 + 3, none⟩ = some (.int .u64 (wd C2 0 : Nat)) ∧ wr.cell? ⟨g', j * 10 + 4, none⟩ = some (.int .u64 (wd C2 1 : Nat)) ∧ wr.cell? ⟨g', j * 10 + 5, none⟩ = some (.int .u64 (wd C2 2 : Nat)) ∧ wr.cell? ⟨g', j * 10 + 6, none⟩ = some (.int .u64 (wd C2 3 : Nat)) ∧ wr.cell? ⟨g', j * 10 + 7, none⟩ = some (.slice so2 sl2 sc2) ∧ wr.cell? ⟨g', j * 10 + 8, none⟩ = some (.int .i64 (p2 : Int)) := ⟨HW, b1, b2, (ew _ _ hg).trans x, (ew _ _ hg).trans x0, (ew _ _ hg).trans x1, (ew _ _ hg).trans x2, (ew _ _ hg).trans x3, (ew _ _ hg).trans x4, (ew _ _ hg).trans x5, (ew _ _ hg).trans x6, (ew _ _ hg).trans x7, (ew _ _ hg').trans y, (ew _ _ hg').trans y0, (ew _ _ hg').trans y1, (ew _ _ hg').trans y2, (ew _ _ hg').trans y3, (ew _ _ hg').trans y4, (ew _ _ hg').trans y5, (ew _ _ hg').trans y6, (ew _ _ hg').trans y7⟩
      have S1 : (fun W => Hid (SG w g n cap g' cap' W) ∧ W.cell? ⟨w.heap.size, 0, none⟩ = some (.slice (some ⟨g, 0, none⟩) n cap) ∧ W.cell? ⟨w.heap.size + 1, 0, none⟩ = some (.slice (some ⟨g', 0, none⟩) n cap') ∧ W.cell? ⟨g, j * 10, none⟩ = some (.string M) ∧ W.cell? ⟨g, j * 10 + 1, none⟩ = some (.int .i64 (kd1 : Int)) ∧ W.cell? ⟨g, j * 10 + 2, none⟩ = some (.string T1) ∧ W.cell? ⟨g, j * 10 + 3, none⟩ = some (.int .u64 (wd C1 0 : Nat)) ∧ W.cell? ⟨g, j * 10 + 4, none⟩ = some (.int .u64 (wd C1 1 : Nat)) ∧ W.cell? ⟨g, j * 10 + 5, none⟩ = some (.int .u64 (wd C1 2 : Nat)) ∧ W.cell? ⟨g, j * 10 + 6, none⟩ = some (.int .u64 (wd C1 3 : Nat)) ∧ W.cell? ⟨g, j * 10 + 7, none⟩ = some (.slice so1 sl1 sc1) ∧ W.cell? ⟨g, j * 10 + 8, none⟩ = some (.int .i64 (p1 : Int)) ∧ W.cell? ⟨g', j * 10, none⟩ = some (.string M) ∧ W.cell? ⟨g', j * 10 + 1, none⟩ = some (.int .i64 (kd2 : Int)) ∧ W.cell? ⟨g', j * 10 + 2, none⟩ = some (.string T2) ∧ W.cell? ⟨g', j * 10 + 3, none⟩ = some (.int .u64 (wd C2 0 : Nat)) ∧ W.cell? ⟨g', j * 10 + 4, none⟩ = some (.int .u64 (wd C2 1 : Nat)) ∧ W.cell? ⟨g', j * 10 + 5, none⟩ = some (.int .u64 (wd C2 2 : Nat)) ∧ W.cell? ⟨g', j * 10 + 6, none⟩ = some (.int .u64 (wd C2 3 : Nat)) ∧ W.cell? ⟨g', j * 10 + 7, none⟩ = some (.slice so2 sl2 sc2) ∧ W.cell? ⟨g', j * 10 + 8, none⟩ = some (.int .i64 (p2 : Int))) wr.drew := keep_gr hg hg' (Below.refl _ wr).drew S0
      clear ew S0 x x0 x1 x2 x3 x4 x5 x6 x7 y y0 y1 y2 y3 y4 y5 y6 y7
      go_wp2_with fail
      go_region_held3 (fun W => Hid (SG w g n cap g' cap' W) ∧ W.cell? ⟨w.heap.size, 0, none⟩ = some (.slice (some ⟨g, 0, none⟩) n cap) ∧ W.cell? ⟨w.heap.size + 1, 0, none⟩ = some (.slice (some ⟨g', 0, none⟩) n cap') ∧ W.cell? ⟨g, j * 10, none⟩ = some (.string M) ∧ W.cell? ⟨g, j * 10 + 1, none⟩ = some (.int .i64 (kd1 : Int)) ∧ W.cell? ⟨g, j * 10 + 2, none⟩ = some (.string T1) ∧ W.cell? ⟨g, j * 10 + 3, none⟩ = some (.int .u64 (wd C1 0 : Nat)) ∧ W.cell? ⟨g, j * 10 + 4, none⟩ = some (.int .u64 (wd C1 1 : Nat)) ∧ W.cell? ⟨g, j * 10 + 5, none⟩ = some (.int .u64 (wd C1 2 : Nat)) ∧ W.cell? ⟨g, j * 10 + 6, none⟩ = some (.int .u64 (wd C1 3 : Nat)) ∧ W.cell? ⟨g, j * 10 + 7, none⟩ = some (.slice so1 sl1 sc1) ∧ W.cell? ⟨g, j * 10 + 8, none⟩ = some (.int .i64 (p1 : Int)) ∧ W.cell? ⟨g', j * 10, none⟩ = some (.string M) ∧ W.cell? ⟨g', j * 10 + 1, none⟩ = some (.int .i64 (kd2 : Int)) ∧ W.cell? ⟨g', j * 10 + 2, none⟩ = some (.string T2) ∧ W.cell? ⟨g', j * 10 + 3, none⟩ = some (.int .u64 (wd C2 0 : Nat)) ∧ W.cell? ⟨g', j * 10 + 4, none⟩ = some (.int .u64 (wd C2 1 : Nat)) ∧ W.cell? ⟨g', j * 10 + 5, none⟩ = some (.int .u64 (wd C2 2 : Nat)) ∧ W.cell? ⟨g', j * 10 + 6, none⟩ = some (.int .u64 (wd C2 3 : Nat)) ∧ W.cell? ⟨g', j * 10 + 7, none⟩ = some (.slice so2 sl2 sc2) ∧ W.cell? ⟨g', j * 10 + 8, none⟩ = some (.int .i64 (p2 : Int))) (first | assumption | exact keep_gr hg hg' (by assumption) (by assumption)) (first | (go_at_call 14; refine (HK.out _ ?hh).mono ?_; (case hh => exact S1.1.out.1); rintro e wq ⟨rfl, hbq⟩))
      have S3 : (fun W => Hid (SG w g n cap g' cap' W) ∧ W.cell? ⟨w.heap.size, 0, none⟩ = some (.slice (some ⟨g, 0, none⟩) n cap) ∧ W.cell? ⟨w.heap.size + 1, 0, none⟩ = some (.slice (some ⟨g', 0, none⟩) n cap') ∧ W.cell? ⟨g, j * 10, none⟩ = some (.string M) ∧ W.cell? ⟨g, j * 10 + 1, none⟩ = some (.int .i64 (kd1 : Int)) ∧ W.cell? ⟨g, j * 10 + 2, none⟩ = some (.string T1) ∧ W.cell? ⟨g, j * 10 + 3, none⟩ = some (.int .u64 (wd C1 0 : Nat)) ∧ W.cell? ⟨g, j * 10 + 4, none⟩ = some (.int .u64 (wd C1 1 : Nat)) ∧ W.cell? ⟨g, j * 10 + 5, none⟩ = some (.int .u64 (wd C1 2 : Nat)) ∧ W.cell? ⟨g, j * 10 + 6, none⟩ = some (.int .u64 (wd C1 3 : Nat)) ∧ W.cell? ⟨g, j * 10 + 7, none⟩ = some (.slice so1 sl1 sc1) ∧ W.cell? ⟨g, j * 10 + 8, none⟩ = some (.int .i64 (p1 : Int)) ∧ W.cell? ⟨g', j * 10, none⟩ = some (.string M) ∧ W.cell? ⟨g', j * 10 + 1, none⟩ = some (.int .i64 (kd2 : Int)) ∧ W.cell? ⟨g', j * 10 + 2, none⟩ = some (.string T2) ∧ W.cell? ⟨g', j * 10 + 3, none⟩ = some (.int .u64 (wd C2 0 : Nat)) ∧ W.cell? ⟨g', j * 10 + 4, none⟩ = some (.int .u64 (wd C2 1 : Nat)) ∧ W.cell? ⟨g', j * 10 + 5, none⟩ = some (.int .u64 (wd C2 2 : Nat)) ∧ W.cell? ⟨g', j * 10 + 6, none⟩ = some (.int .u64 (wd C2 3 : Nat)) ∧ W.cell? ⟨g', j * 10 + 7, none⟩ = some (.slice so2 sl2 sc2) ∧ W.cell? ⟨g', j * 10 + 8, none⟩ = some (.int .i64 (p2 : Int))) wq := by assumption
      obtain ⟨HW3, c1, c2, x, x0, x1, x2, x3, x4, x5, x6, x7, y, y0, y1, y2, y3, y4, y5, y6, y7⟩ := S3
      clear S1 hbq b1 b2 HW HK x0 x1 x2 x3 x4 x5 x6 x7 y0 y1 y2 y3 y4 y5 y6 y7
      go_wp2_with fail
      go_quiet (fail)
      go_wp2_with fail
      go_roundw
      case rel => exact ⟨j + 1, by go_num, by omega, hid (HW3.out.below (below_drewN (Below.refl _ _) _))⟩
      case measure => simp [intOf]; omega
    · have hjI : decide ((j : Int) < (n : Int)) = false := by simp; omega
      have HB : Hid (Below w.heap.size w wr) := HW.out.1
      clear HW
      go_wp2_with fail
      go_ret
      exact ⟨rfl, HB.out⟩
theorem RoR.len {B n cap : Nat} {so : Option Addr} {rs : List Rl} {W : World} (h : RoR B (.slice so n cap) rs W) : n = rs.length := by
  obtain ⟨xs, h1, _⟩ := h
  obtain ⟨hl, ⟨hq, hx⟩ | ⟨g', cap', cur, hq, _⟩⟩ := h1
  · injection hq with _ h2 _
    rw [hx] at hl
    simp at hl
    omega
  · injection hq
theorem RoR.lt {B g n cap : Nat} {rs : List Rl} {W : World} (h : RoR B (.slice (some ⟨g, 0, none⟩) n cap) rs W) : g < W.heap.size := by
  obtain ⟨xs, h1, _⟩ := h
  exact (h1.lt g rfl).2
/-- Same answers true at two rows of rules that are one but for places. -/
theorem zgram_all {g cap g' cap' B B' n : Nat} {xs ys : List Rl} {w : World} (h1 : RoR B (.slice (some ⟨g, 0, none⟩) n cap) xs w) (h2 : RoR B' (.slice (some ⟨g', 0, none⟩) n cap') ys w) (hn : n ≤ 1000000)
    (hR : ∀ j (hj : j < xs.length) (hj' : j < ys.length), ys[j].1 = xs[j].1 ∧ Sm xs[j].2.1 ys[j].2.1) :
    Calls Tryz.prog 8 #[.agg #[.slice (some ⟨g, 0, none⟩) n cap], .agg #[.slice (some ⟨g', 0, none⟩) n cap'], .bool false] w fun e w' => e = .returned (.bool true) ∧ Below w.heap.size w w' := by
  have l1 := h1.len
  have l2 := h2.len
  refine zgram_row g cap g' cap' n w hn h1.lt h2.lt (fun j hj => ?_)
  obtain ⟨c, a1, a2⟩ := h1.get j (by omega)
  obtain ⟨d, b1, b2⟩ := h2.get j (by omega)
  obtain ⟨hN, hS⟩ := hR j (by omega) (by omega)
  obtain ⟨cs, rfl, na⟩ := a1
  obtain ⟨ds, rfl, nb'⟩ := b1
  have na' := na
  have nb2 := nb'
  obtain ⟨kd1, T1, C1, so1, sl1, sc1, rfl⟩ := na.shape
  obtain ⟨kd2, T2, C2, so2, sl2, sc2, rfl⟩ := nb'.shape
  refine ⟨_, kd1, T1, C1, so1, sl1, sc1, _, kd2, T2, C2, so2, sl2, sc2, _, ⟨a2 0 _ rfl, a2 1 _ rfl, a2 2 _ rfl, a2 3 _ rfl, a2 4 _ rfl, a2 5 _ rfl, a2 6 _ rfl, a2 7 _ rfl, a2 8 _ rfl⟩, ⟨?_, b2 1 _ rfl, b2 2 _ rfl, b2 3 _ rfl, b2 4 _ rfl, b2 5 _ rfl, b2 6 _ rfl, b2 7 _ rfl, b2 8 _ rfl⟩, fun W hW => ?_⟩
  · rw [← hN]
    exact b2 0 _ rfl
  · exact zsame_all _ _ _ _ _ _ _ W (Nat.lt_succ_self _) hS (na'.below hW) (nb2.below hW)
set_option maxRecDepth 100000 in
theorem yparse_long (S : ByteArray) (w : World) (hS : 8192 < S.size) :
    Calls Tryz.prog 7 #[.string S] w fun e w' => ∃ f, e = .returned (.tuple #[.agg #[.slice none 0 0], flv f]) ∧ Hid (Below w.heap.size w w') := by
  have HT := hid (xtokens_long S (w.alloc Zg) hS)
  go_enter Tryz.func7, Tryz.ntmps7
  go_wp2_with fail
  refine HT.out.mono ?_
  rintro e w1 ⟨rfl, hw1⟩
  have HB : Hid (Below (w.heap.size + 1) (w.alloc Zg) w1) := by
    rw [hw1]
    have := (Below.refl (w.alloc Zg).heap.size (w.alloc Zg)).alloc (Nat.le_refl _) (.cells #[.int .i64 2, .int .i64 (-1)] 66)
    simp at this
    exact this
  obtain ⟨q, hq⟩ : ∃ q, q = (w.alloc Zg).heap.size := ⟨_, rfl⟩
  rw [← hq]
  have HA : Hid (Below w.heap.size w (w1.setCell ⟨w.heap.size, 0, none⟩ (.slice none 0 0))) := (setQ HB.out).2.2
  have HQ : Hid (w1.heap[w.heap.size]? = some Zg) := (setQ (x := .nilIface) HB.out).1
  obtain ⟨e0, y0⟩ := one_cell HQ.out
  have hQl := node_lt HQ.out
  clear HT HB hw1 hq
  unfold flv
  go_wp2_with fail
  (try simp only [Exit.inBlock, Exit.then])
  refine bodyPost_ret (v := .tuple #[.agg #[.slice none 0 0], .iface 64 (.pointer (some ⟨q, 0, none⟩))]) (by simp [results, Tryz.results7, go_sem, e0]) rfl ?_
  exact ⟨q, rfl, HA⟩
/-- What Parse hands back at any text: a Fault, or the grammar. -/
def Two (S : ByteArray) (w : World) (e : Ending) (w' : World) : Prop :=
  (∃ f, e = .returned (.tuple #[.agg #[.slice none 0 0], flv f]) ∧ Hid (Below w.heap.size w w')) ∨
  (∃ rs g n cap, Hid (S.size ≤ 8192 ∧ parS S = .inr rs) ∧ e = .returned (.tuple #[.agg #[.slice (some ⟨g, 0, none⟩) n cap], .nilIface]) ∧ Hid (RoR w.heap.size (.slice (some ⟨g, 0, none⟩) n cap) rs w') ∧ Hid (Below w.heap.size w w'))
theorem yparse_two (S : ByteArray) (w : World) (h : ErrIs w) : Calls Tryz.prog 7 #[.string S] w fun e w' => Two S w e w' := by
  rcases Nat.lt_or_ge 8192 S.size with hl | hl
  · exact (yparse_long S w hl).mono fun e w' h => .inl h
  · obtain ⟨X, hX⟩ : ∃ X, X = parS S := ⟨_, rfl⟩
    have hY := hid (yparse_any S w h hl)
    rw [← hX] at hY
    have HX := hid hX.symm
    clear hX
    refine hY.out.mono fun e w' hA => ?_
    cases X with
    | inl c =>
      obtain ⟨f, he, HF⟩ := hA
      exact .inl ⟨f, he, hid HF.out.2.2⟩
    | inr rs =>
      obtain ⟨g, cap, he, HR, HB⟩ := hA
      exact .inr ⟨rs, g, rs.length, cap, hid ⟨hl, HX.out⟩, he, HR, HB⟩
theorem add_str2 {a b c : ByteArray} (h : a ++ b = c) (hl : a.size + b.size ≤ 100000) (w : World) : (Op.stringOp .add a b).run Tryz.prog w = .ok (.string c) w := by
  rw [← h]
  exact run_string_add_sum w a b (by omega)
/-- No arrow from k up to k'. -/
def NoA (L : List Tok) (k k' : Nat) : Prop := ∀ j, k ≤ j → j < k' → (gL L j).1 ≠ 2
section
variable {L : List Tok}
theorem NoA.one {k : Nat} (h : (gL L k).1 ≠ 2) : NoA L k (k + 1) := fun j h1 h2 => by
  obtain rfl : j = k := by omega
  exact h
theorem NoA.cat {a b c : Nat} (h1 : NoA L a b) (h2 : NoA L b c) : NoA L a c := fun j ha hc => by
  rcases Nat.lt_or_ge j b with h | h
  · exact h1 j ha h
  · exact h2 j h hc
theorem NoA.none (k : Nat) : NoA L k k := fun j h1 h2 => by omega
def NoI (L : List Tok) (inn : Nat → Pr) : Prop := ∀ k n k', sgT (gL L k) = { data := #[40] } → inn k = .inr (n, k') → NoA L k k'
theorem one_na {inn : Nat → Pr} (hi : NoI L inn) {k k' : Nat} {n : Nd} (h : oneS L inn k = .inr (n, k')) : NoA L k k' := by
  unfold oneS at h
  split at h
  · rename_i hc
    simp only [Sum.inr.injEq, Prod.mk.injEq] at h
    rw [← h.2]
    exact NoA.one (by omega)
  · split at h
    · rename_i hc
      simp only [Sum.inr.injEq, Prod.mk.injEq] at h
      rw [← h.2]
      exact NoA.one (by omega)
    · split at h
      · rename_i hc
        simp only [Sum.inr.injEq, Prod.mk.injEq] at h
        rw [← h.2]
        exact NoA.one (by omega)
      · split at h
        · rename_i hs
          simp only [Sum.inr.injEq, Prod.mk.injEq] at h
          rw [← h.2]
          exact NoA.one (by rw [sgT_five hs]; decide)
        · split at h
          · rename_i hs
            exact hi k n k' hs h
          · cases h
theorem rep_na {r : Pr} {k k' : Nat} {n : Nd} (hr : ∀ m j, r = .inr (m, j) → NoA L k j) (h : repE L r = .inr (n, k')) : NoA L k k' := by
  cases r with
  | inl e => cases h
  | inr q =>
    obtain ⟨m, j⟩ := q
    have h1 := hr m j rfl
    unfold repE at h
    simp only at h
    split at h
    · simp only [Sum.inr.injEq, Prod.mk.injEq] at h
      rw [← h.2]
      exact h1
    · rename_i hs
      simp only [Sum.inr.injEq, Prod.mk.injEq] at h
      rw [← h.2]
      exact h1.cat (NoA.one (by rw [rpK_sg hs]; decide))
theorem part_na {inn : Nat → Pr} (hi : NoI L inn) {k k' : Nat} {n : Nd} (h : partS L inn k = .inr (n, k')) : NoA L k k' := by
  unfold partS at h
  split at h
  · rename_i hs
    obtain ⟨m, hm⟩ := ovS_inv h
    exact (NoA.one (by rw [sgT_five hs]; decide)).cat (rep_na (fun m j e => one_na hi e) hm)
  · split at h
    · rename_i hs
      obtain ⟨m, hm⟩ := ovS_inv h
      exact (NoA.one (by rw [sgT_five hs]; decide)).cat (rep_na (fun m j e => one_na hi e) hm)
    · exact rep_na (fun m j e => one_na hi e) h
theorem row_na {inn : Nat → Pr} (hi : NoI L inn) : ∀ (f k : Nat) (acc : List Nd) (n : Nd) (k' : Nat), rowS L inn f k acc = .inr (n, k') → NoA L k k'
  | 0, _, _, _, _, h => by rw [rowS] at h; cases h
  | f + 1, k, acc, n, k', h => by
    rw [rowS] at h
    split at h
    · split at h
      · cases h
      · rename_i m j hp
        exact (part_na hi hp).cat (row_na hi f j (acc ++ [m]) n k' h)
    · split at h
      · simp only [Sum.inr.injEq, Prod.mk.injEq] at h; rw [← h.2]; exact NoA.none k
      · simp only [Sum.inr.injEq, Prod.mk.injEq] at h; rw [← h.2]; exact NoA.none k
theorem alt_na {inn : Nat → Pr} (hi : NoI L inn) : ∀ (f k : Nat) (acc : List Nd) (n : Nd) (k' : Nat), altS L inn f k acc = .inr (n, k') → NoA L k k'
  | 0, _, _, _, _, h => by rw [altS] at h; cases h
  | f + 1, k, acc, n, k', h => by
    rw [altS] at h
    split at h
    · rename_i hs
      split at h
      · cases h
      · rename_i m j hp
        exact ((NoA.one (by rw [sgT_five hs]; decide)).cat (row_na hi _ _ _ _ _ hp)).cat (alt_na hi f j (acc ++ [m]) n k' h)
    · simp only [Sum.inr.injEq, Prod.mk.injEq] at h; rw [← h.2]; exact NoA.none k
theorem ch_na {inn : Nat → Pr} (hi : NoI L inn) {k k' : Nat} {n : Nd} (h : chS L inn k = .inr (n, k')) : NoA L k k' := by
  unfold chS at h
  cases hr : rowS L inn L.length k [] with
  | inl e => rw [hr] at h; cases h
  | inr q =>
    obtain ⟨m, j⟩ := q
    rw [hr] at h
    exact (row_na hi _ _ _ _ _ hr).cat (alt_na hi _ _ _ _ _ h)
theorem inn_na : ∀ d, NoI L (innS L d)
  | 0 => fun k n k' _ h => by rw [innS] at h; cases h
  | d + 1 => fun k n k' hs h => by
    rw [innS] at h
    obtain ⟨j, h1, h2, h3⟩ := innE_inv h
    rw [h3]
    exact ((NoA.one (by rw [sgT_five hs]; decide)).cat (ch_na (inn_na d) h1)).cat (NoA.one (by rw [sgT_five h2]; decide))
/-- A rule: a name, an arrow, no other arrow. -/
theorem ru_na {ru k k' : Nat} {x : Rl} (h : ruS L ru k = .inr (x, k')) : (gL L k).1 = 1 ∧ (gL L (k + 1)).1 = 2 ∧ NoA L (k + 2) k' ∧ x.1 = (gL L k).2.1 ∧ x.2.2 = (gL L k).2.2.2 := by
  unfold ruS at h
  split at h
  · cases h
  · rename_i c1
    split at h
    · cases h
    · split at h
      · cases h
      · rename_i c2
        cases hs : chS L (innS L 24) (k + 2) with
        | inl c => rw [hs] at h; cases h
        | inr q =>
          obtain ⟨n, j⟩ := q
          rw [hs] at h
          simp only [ruE, Sum.inr.injEq, Prod.mk.injEq] at h
          obtain ⟨rfl, rfl⟩ := h
          exact ⟨by simpa using c1, by simpa using c2, ch_na (inn_na 24) hs, rfl, rfl⟩
/-- How many arrows stand ahead of i. -/
def cA (L : List Tok) : Nat → Nat
  | 0 => 0
  | i + 1 => cA L i + (if (gL L i).1 = 2 then 1 else 0)
theorem cA_le (L : List Tok) : ∀ i, cA L i ≤ i
  | 0 => Nat.le_refl _
  | i + 1 => by
    have := cA_le L i
    rw [cA]
    split <;> omega
theorem cA_no {k : Nat} : ∀ (d : Nat), NoA L k (k + d) → cA L (k + d) = cA L k
  | 0, _ => rfl
  | d + 1, h => by
    rw [← Nat.add_assoc, cA, if_neg (h (k + d) (by omega) (by omega)), Nat.add_zero]
    exact cA_no d (fun j h1 h2 => h j h1 (by omega))
/-- What the rules say of the arrows from k on. -/
def Hds (L : List Tok) (k : Nat) (rs : List Rl) : Prop := (∀ p, k ≤ p → p + 1 < L.length → (gL L (p + 1)).1 = 2 → ∃ x, rs[cA L (p + 1)]? = some x ∧ x.1 = (gL L p).2.1 ∧ x.2.2 = (gL L p).2.2.2) ∧ rs.length = cA L L.length
theorem rls_pre (L : List Tok) : ∀ (f k : Nat) (acc rs : List Rl), rlsS L f k acc = .inr rs → ∃ r, rs = acc ++ r
  | 0, _, _, _, h => by rw [rlsS] at h; cases h
  | f + 1, k, acc, rs, h => by
    rw [rlsS] at h
    split at h
    · simp only [Sum.inr.injEq] at h; exact ⟨[], by simp [h]⟩
    · split at h
      · cases h
      · rename_i x k' _
        obtain ⟨r, hr⟩ := rls_pre L f k' (acc ++ [x]) rs h
        exact ⟨x :: r, by rw [hr]; simp⟩
theorem rls_arr (hg : Good L) (hend : ∀ k, k < L.length → (gL L k).1 = 6 → k + 1 = L.length) : ∀ (f k : Nat) (acc rs : List Rl), k < L.length → rlsS L f k acc = .inr rs → acc.length = cA L k → Hds L k rs
  | 0, _, _, _, _, h, _ => by rw [rlsS] at h; cases h
  | f + 1, k, acc, rs, hk, h, ha => by
    rw [rlsS] at h
    split at h
    · rename_i h6
      simp only [Sum.inr.injEq] at h
      subst h
      have hl := hend k hk h6
      refine ⟨fun p hp hp1 _ => by omega, ?_⟩
      rw [ha, ← hl, cA, if_neg (by rw [h6]; decide), Nat.add_zero]
    · rename_i h6
      cases hr : ruS L acc.length k with
      | inl c => rw [hr] at h; cases h
      | inr q =>
        obtain ⟨x, k'⟩ := q
        rw [hr] at h
        simp only at h
        obtain ⟨c1, c2, c3, c4, c5⟩ := ru_na hr
        have hadv := ruS_adv hg hk hr
        have e1 : cA L (k + 1) = cA L k := by rw [cA, if_neg (by rw [c1]; decide), Nat.add_zero]
        have e2 : cA L (k + 2) = cA L k + 1 := by rw [show k + 2 = k + 1 + 1 from rfl, cA, if_pos c2, e1]
        have e3 : cA L k' = cA L k + 1 := by
          obtain ⟨d, rfl⟩ : ∃ d, k' = k + 2 + d := ⟨k' - (k + 2), by omega⟩
          rw [cA_no d c3, e2]
        obtain ⟨r1, r2⟩ := rls_arr hg hend f k' (acc ++ [x]) rs hadv.2 h (by simp; omega)
        refine ⟨fun p hp hp1 hp2 => ?_, r2⟩
        rcases Nat.lt_or_ge p k' with hlt | hge
        · have hpk : p = k := by
            rcases Nat.lt_or_ge k p with h1 | h1
            · rcases Nat.lt_or_ge (p + 1) k' with h2 | h2
              · exact absurd hp2 (c3 (p + 1) (by omega) h2)
              · have hpe : p + 1 = k' := by omega
                -- the token at k' is no arrow: a rule begins there, or the row ends
                exfalso
                rw [hpe] at hp2
                cases f with
                | zero => rw [rlsS] at h; cases h
                | succ f =>
                  rw [rlsS, if_neg (by rw [hp2]; decide)] at h
                  split at h
                  · cases h
                  · rename_i y k2 hr2
                    have := (ru_na hr2).1
                    omega
            · omega
          subst hpk
          obtain ⟨r, hr'⟩ := rls_pre L f k' (acc ++ [x]) rs h
          refine ⟨x, ?_, c4, c5⟩
          rw [e1, ← ha, hr', List.append_assoc, List.getElem?_append_right (Nat.le_refl _), Nat.sub_self]
          rfl
        · exact r1 p hge hp1 hp2
theorem gra_arr (hg : Good L) (h0 : 0 < L.length) (hend : ∀ k, k < L.length → (gL L k).1 = 6 → k + 1 = L.length) {rs : List Rl} (h : graS L = .inr rs) : Hds L 0 rs ∧ (gL L 0).1 = 1 ∧ 0 < rs.length := by
  unfold graS at h
  cases hr : ruS L 0 0 with
  | inl c => rw [hr] at h; cases h
  | inr q =>
    obtain ⟨x, k'⟩ := q
    have hh : rlsS L (L.length + 1) 0 [] = .inr rs := by
      rw [rlsS, if_neg (by rw [(ru_na hr).1]; decide), show ruS L ([] : List Rl).length 0 = ruS L 0 0 from rfl, hr]
      rw [hr] at h
      exact h
    refine ⟨rls_arr hg hend _ 0 [] rs h0 hh rfl, (ru_na hr).1, ?_⟩
    rw [hr] at h
    obtain ⟨r, hr'⟩ := rls_pre L _ _ _ _ h
    rw [hr']
    simp
end
theorem qtokens_some (S : ByteArray) (w : World) : Calls Tryz.prog 6 #[.string S] w fun e w' => ∃ v a c, e = .returned (.tuple #[v, .int .i64 a, .int .i64 c]) ∧ Hid (Below w.heap.size w w') := by
  rcases Nat.lt_or_ge 8192 S.size with hl | hl
  · refine (qtokens_long S w hl).mono fun e w' h => ?_
    exact ⟨_, _, _, h.1, hid (by rw [h.2]; exact Below.refl _ _)⟩
  · obtain ⟨X, hX⟩ : ∃ X, X = tkS S := ⟨_, rfl⟩
    have hY := hid (qtokens_any S w hl)
    rw [← hX] at hY
    clear hX
    refine hY.out.mono fun e w' h => ?_
    cases X with
    | inl c => exact ⟨_, _, _, h.1, hid h.2⟩
    | inr l =>
      obtain ⟨v, he, _, HB⟩ := h
      exact ⟨_, _, _, he, HB⟩
theorem par_toks {S : ByteArray} {rs : List Rl} (h : parS S = .inr rs) (hS : S.size ≤ 8192) : ∃ L, tkS S = .inr L ∧ graS L = .inr rs ∧ Hds L 0 rs ∧ (gL L 0).1 = 1 ∧ 0 < rs.length ∧ 0 < L.length ∧ L.length ≤ 10000 := by
  unfold parS at h
  cases ht : tkS S with
  | inl c => rw [ht] at h; cases h
  | inr L =>
    rw [ht] at h
    have hg := tkS_good ht hS
    obtain ⟨m, hm, rfl⟩ := tkS_inv ht
    have hgood := tkl_good _ _ _ _ _ hm (fun t ht => by simp at ht)
    obtain ⟨a, b, c⟩ := gra_arr hg.1 hg.2 (fun k hk h6 => by
      rcases Nat.lt_or_ge k m.length with hl | hl
      · rw [gL_left hl] at h6
        have := (hgood.1 _ (List.getElem_mem hl)).1
        omega
      · simp at hk ⊢
        omega) h
    exact ⟨_, rfl, h, a, b, c, hg.2, hg.1.len⟩
set_option maxRecDepth 100000 in
set_option maxHeartbeats 8000000 in
theorem ynames_any (S : ByteArray) (w : World) (h : ErrIs w) (hS : S.size ≤ 140737488351232) : Calls Tryz.prog 4 #[.string S] w fun e w' => e = .returned (.bool true) ∧ Below w.heap.size w w' := by
  have HSm := hid (ysmall_ok w h)
  have HE : Hid (ErrIs w) := h
  clear h hS
  go_enter Tryz.func4, Tryz.ntmps4
  go_wp2_with fail
  refine HSm.out.mono ?_
  rintro e w1 ⟨rfl, HB1⟩
  clear HSm
  go_wp2_with fail
  refine (yparse_two S w1 (HE.out.below HB1.out HE.out.lt)).mono ?_
  rintro e w2 (⟨f, rfl, HB2⟩ | ⟨rs, g, n, cap, HP, rfl, HR, HB2⟩)
  · have HB3 : Hid (∀ o : Obj, Below w.heap.size w (w2.alloc o)) := fun o => (HB1.out.trans (HB2.out.mono HB1.out.size)).alloc (Nat.le_trans HB1.out.size HB2.out.size) o
    clear HB1 HB2
    unfold flv
    go_wp2_with fail
    refine (qtokens_some S _).mono ?_
    rintro e w3 ⟨v, a, c, rfl, HB4⟩
    have HB5 : Hid (Below w.heap.size w w3) := (HB3.out _).trans (HB4.out.mono (HB3.out _).size)
    clear HB3 HB4
    go_wp2_with fail
    go_quiet (fail)
    go_wp2_with fail
    go_ret
    first | exact ⟨rfl, HB5.out⟩ | exact ⟨rfl, below_drewN HB5.out _⟩
  · have HB3 : Hid (∀ o : Obj, Below w.heap.size w (w2.alloc o)) := fun o => (HB1.out.trans (HB2.out.mono HB1.out.size)).alloc (Nat.le_trans HB1.out.size HB2.out.size) o
    obtain ⟨L, hL, hgr, hH, hk0, hr0, hL0, hLb⟩ := par_toks HP.out.2 HP.out.1
    have HQ : Hid (Calls Tryz.prog 6 #[.string S] (w2.alloc (.cells #[.slice (some ⟨g, 0, none⟩) n cap] 36)) fun e w' => AnsQ (.inr L) (w2.alloc (.cells #[.slice (some ⟨g, 0, none⟩) n cap] 36)) e w') := by
      have hY := hid (qtokens_any S (w2.alloc (.cells #[.slice (some ⟨g, 0, none⟩) n cap] 36)) HP.out.1)
      have HX := hid hL
      clear hL
      obtain ⟨X, hX⟩ : ∃ X, X = tkS S := ⟨_, rfl⟩
      rw [← hX] at hY
      refine hY.out.mono fun e w' hA => ?_
      rw [hX.trans HX.out] at hA
      exact hA
    have HH : Hid (Hds L 0 rs) := hH
    have hc1 : cA L 1 = 0 := by rw [cA, cA, if_neg (by rw [hk0]; decide)]
    have hn := HR.out.len
    have HN : Hid (n = rs.length) := hn
    have hn0 : (0 : Int) < (n : Int) := by omega
    clear hL hgr hH hk0 HP HB2 HB1 hr0 hn
    go_wp2_with fail
    refine HQ.out.mono ?_
    rintro e w3 ⟨v, rfl, HO, HB4⟩
    obtain ⟨gt, ct, rfl⟩ := own_shape HO.out hL0
    obtain ⟨N, hN⟩ : ∃ N, N = L.length := ⟨_, rfl⟩
    have HNl : Hid (N = L.length) := hN
    rw [← hN] at HO hL0 hLb ⊢
    clear hN
    have HB5 : Hid (Below w.heap.size w w3) := (HB3.out _).trans (HB4.out.mono (HB3.out _).size)
    have HR3 : Hid (RoR w1.heap.size (.slice (some ⟨g, 0, none⟩) n cap) rs w3) := (HR.out.below ((Below.refl _ w2).alloc (Nat.le_refl _) _)).below HB4.out
    have HK : Hid (w3.heap[w2.heap.size]? = some (.cells #[.slice (some ⟨g, 0, none⟩) n cap] 36)) := (HB4.out.block _ (by simp)).trans (new_block_at w2 _ rfl)
    obtain ⟨k0, _⟩ := one_cell HK.out
    have k1 := node_lt HK.out
    have hgl := HR3.out.lt
    have hgt : gt < w3.heap.size := (HO.out.lt gt rfl).2
    clear HB3 HB4 HR HQ
    go_wp2_with fail
    go_loopw [9, 10] (fun kk ii wr => ∃ j q : Nat, kk = .int .i64 ((cA L (j + 1) : Nat) : Int) ∧ ii = .int .i64 (j : Int) ∧ j + 1 ≤ N ∧ wr = w3.drewN q) (fun _ ii _ => N - (intOf ii).toNat)
    case atStart => exact ⟨0, 0, by rw [Nat.zero_add, hc1]; rfl, rfl, by omega, rfl⟩
    case round =>
      obtain ⟨j, q, rfl, rfl, hj, rfl⟩ := hrel
      obtain ⟨J, hJ⟩ : ∃ J, J = j + 1 := ⟨_, rfl⟩
      rw [← hJ] at hj ⊢
      have hJI : (j : Int) + 1 = (J : Int) := by omega
      have hwJ : IntKind.i64.wrap (J : Int) = (J : Int) := by rw [IntKind.wrap_i64]; omega
      have HjJ : Hid (J = j + 1) := hJ
      obtain ⟨c, hc⟩ : ∃ c, c = cA L J := ⟨_, rfl⟩
      rw [← hc]
      by_cases hjk : J < N
      · have a0 : decide ((J : Int) < (N : Int)) = true := by simp; omega
        have hJN : (J : Int) < (N : Int) := by omega
        have hjN : (j : Int) < (N : Int) := by omega
        have z1 := own_tok HO.out j (by rw [← HNl.out]; omega) HNl.out
        have z2 := own_tok HO.out J (by rw [← HNl.out]; omega) HNl.out
        have hgJ : gL L J = L[J]'(by rw [← HNl.out]; omega) := gL_eq _
        have hgj : gL L j = L[j]'(by rw [← HNl.out]; omega) := gL_eq _
        rw [← hgJ] at z2
        rw [← hgj] at z1
        clear hgJ hgj
        have hcs : cA L (J + 1) = c + (if (gL L J).1 = 2 then 1 else 0) := by rw [cA, hc]
        have hH := fun h2 => HH.out.1 j (Nat.zero_le _) (by rw [← HNl.out, ← hJ]; exact hjk) h2
        rw [← hJ, ← hc] at hH
        obtain ⟨t, ht⟩ : ∃ t, t = gL L j := ⟨_, rfl⟩
        obtain ⟨u, hu⟩ : ∃ u, u = gL L J := ⟨_, rfl⟩
        rw [← ht] at z1 hH
        rw [← hu] at z2 hH hcs
        clear ht hu hJ hc
        obtain ⟨kd, T, C, at'⟩ := t
        obtain ⟨kd', T', C', at''⟩ := u
        obtain ⟨p0, p1, p2, p3, p4, p5, p6⟩ := z1
        obtain ⟨r0, r1, r2, r3, r4, r5, r6⟩ := z2
        clear p0 p2 p3 p4 p5 r1 r2 r3 r4 r5 r6
        dsimp only at p1 p6 r0 hH hcs
        by_cases hk2 : kd' = 2
        · obtain ⟨x, hx, e1, e2⟩ := hH hk2
          have hcl : c < rs.length := by
            rcases Nat.lt_or_ge c rs.length with h | h
            · exact h
            · rw [List.getElem?_eq_none h] at hx; cases hx
          obtain ⟨d, d1, d2⟩ := HR3.out.get c hcl
          have hxe : rs[c] = x := by rw [List.getElem?_eq_getElem hcl] at hx; exact Option.some.inj hx
          rw [hxe] at d1
          obtain ⟨cs, rfl, dn⟩ := d1
          have dl := dn.len
          have d3 : w3.cell? ⟨g, c * 10, none⟩ = some (.string T) := by rw [← e1]; exact d2 0 _ rfl
          have d4 : w3.cell? ⟨g, c * 10 + 9, none⟩ = some (.int .i64 (at' : Int)) := by
            rw [← e2]
            refine d2 9 _ ?_
            rw [List.getElem?_cons_succ, List.getElem?_append_right (by omega), dl]
            rfl
          have hcn : c < n := by rw [HN.out]; exact hcl
          have c5 : decide ((n : Int) ≤ (c : Int)) = false := by simp; omega
          have hcnI : (c : Int) < (n : Int) := by omega
          have hcw : IntKind.i64.wrap ((c : Int) + 1) = (c : Int) + 1 := by rw [IntKind.wrap_i64]; have h1 := HN.out; have h2 := HH.out.2; have h3 := cA_le L L.length; have h4 := HNl.out; omega
          rw [hk2] at r0
          rw [if_pos hk2] at hcs
          clear hH hx e1 e2 hcl hxe d2 dn dl hk2
          go_wp2_with fail
          go_quiet (fail)
          go_wp2_with fail
          go_roundw
          case rel => exact ⟨J, _, by rw [hcs]; rfl, rfl, by omega, by first | rfl | (rw [World.drewN_drewN])⟩
          case measure => simp [intOf]; have := HjJ.out; omega
        · have k5 : ((kd' : Int) != 2) = true := by rw [bne_iff_ne]; omega
          have k6 : ((kd' : Int) == 2) = false := by simp; omega
          rw [if_neg hk2, Nat.add_zero] at hcs
          clear hH hk2
          go_wp2_with fail
          go_roundw
          case rel => exact ⟨J, _, by rw [hcs]; rfl, rfl, by omega, by first | rfl | (rw [World.drewN_drewN])⟩
          case measure => simp [intOf]; have := HjJ.out; omega
      · have a0 : decide ((J : Int) < (N : Int)) = false := by simp; omega
        have hcn : c = n := by
          have h1 := HH.out.2
          have h2 := HN.out
          have h3 : J = L.length := by have := HNl.out; omega
          rw [hc, h2, h1, h3]
        subst hcn
        have hc0 : 0 < c := by omega
        clear hc hJ
        go_wp2_with fail
        go_ret
        exact ⟨rfl, below_drewN HB5.out q⟩
/-- The tokens of L1 up to its end stand in L3 from d on; where L1 ends, no part goes on in L3. -/
structure LIn (L1 L3 : List Tok) (d e : Nat) : Prop where
  big : e ≤ 10000
  same : ∀ k, k < e → tk3 (gL L3 (k + d)) = tk3 (gL L1 k)
  len1 : e + 1 = L1.length
  len3 : e + d < L3.length
  end1 : (gL L1 e).1 = 6
  only : ∀ k, k < e → (gL L1 k).1 ≠ 6
  sg3 : sgT (gL L3 (e + d)) = { data := #[] }
  pt3 : ptB L3 (e + d) (gL L3 (e + d)) = false
  ar3 : (gL L3 (e + d)).1 ≠ 2
def Rl1 (d e : Nat) (r1 r3 : Pr) : Prop := ∀ n1 k1, r1 = .inr (n1, k1) → k1 ≤ e ∧ ∃ n3, r3 = .inr (n3, k1 + d) ∧ Sm n1 n3
section
variable {L1 L3 : List Tok} {d e : Nat}
theorem LIn.kd (h : LIn L1 L3 d e) {k : Nat} (hk : k < e) : (gL L3 (k + d)).1 = (gL L1 k).1 ∧ (gL L3 (k + d)).2.1 = (gL L1 k).2.1 ∧ (gL L3 (k + d)).2.2.1 = (gL L1 k).2.2.1 := by
  have := h.same k hk
  unfold tk3 at this
  simp only [Prod.mk.injEq] at this
  exact this
theorem LIn.sg1 (h : LIn L1 L3 d e) : sgT (gL L1 e) = { data := #[] } := by unfold sgT; rw [h.end1]; rfl
theorem LIn.sg (h : LIn L1 L3 d e) {k : Nat} (hk : k ≤ e) : sgT (gL L3 (k + d)) = sgT (gL L1 k) := by
  rcases Nat.lt_or_ge k e with hl | hl
  · exact sgT_eq (h.same k hl)
  · obtain rfl : k = e := by omega
    rw [h.sg1, h.sg3]
theorem LIn.hd (h : LIn L1 L3 d e) {k : Nat} (hk : k < e) : hdB L3 (k + d) = hdB L1 k := by
  have g1 := h.len1
  have g3 := h.len3
  rw [hdB_gL L1 k (by omega), hdB_gL L3 (k + d) (by omega), (h.kd hk).1]
  congr 1
  rcases Nat.lt_or_ge (k + 1) e with hl | hl
  · rw [show k + d + 1 = k + 1 + d by omega, (h.kd hl).1]
  · have hke : k + 1 = e := by omega
    have := h.ar3
    rw [show k + d + 1 = e + d by omega, hke, h.end1]
    simp [this]
theorem LIn.pt (h : LIn L1 L3 d e) {k : Nat} (hk : k ≤ e) : ptB L3 (k + d) (gL L3 (k + d)) = ptB L1 k (gL L1 k) := by
  rcases Nat.lt_or_ge k e with hl | hl
  · unfold ptB
    rw [(h.kd hl).1, (h.kd hl).2.1, h.hd hl]
  · obtain rfl : k = e := by omega
    rw [h.pt3]
    unfold ptB
    rw [h.end1]
    rfl
theorem LIn.lt (h : LIn L1 L3 d e) {k : Nat} (hk : k ≤ e) {x : UInt8} (hs : sgT (gL L1 k) = { data := #[x] }) : k < e := by
  rcases Nat.lt_or_ge k e with hl | hl
  · exact hl
  · obtain rfl : k = e := by omega
    rw [h.sg1] at hs
    have := congrArg (fun a : ByteArray => a.data.size) hs
    simp at this
theorem rl1_inr {k k3 : Nat} {n n3 : Nd} (hk : k ≤ e) (h3 : k3 = k + d) (hs : Sm n n3) : Rl1 d e (.inr (n, k)) (.inr (n3, k3)) := by
  intro n1 k1 e1
  simp only [Sum.inr.injEq, Prod.mk.injEq] at e1
  obtain ⟨rfl, rfl⟩ := e1
  exact ⟨hk, n3, by rw [h3], hs⟩
theorem one_rl (h : LIn L1 L3 d e) {i1 i3 : Nat → Pr} (hi : ∀ k, k < e → Rl1 d e (i1 k) (i3 (k + d))) {k : Nat} (hk : k ≤ e) : Rl1 d e (oneS L1 i1 k) (oneS L3 i3 (k + d)) := by
  rcases Nat.lt_or_ge k e with hl | hl
  · have q := h.kd hl
    unfold oneS
    simp only [q.1, q.2.1, q.2.2, h.hd hl, h.sg hk]
    split
    · exact rl1_inr (by omega) (by omega) (Sm_mk SmL_nil (by simp))
    · split
      · exact rl1_inr (by omega) (by omega) (Sm_mk SmL_nil (by simp))
      · split
        · exact rl1_inr (by omega) (by omega) (Sm_mk SmL_nil (by simp))
        · split
          · exact rl1_inr (by omega) (by omega) (Sm_mk SmL_nil (by simp))
          · split
            · exact hi k hl
            · intro n1 k1 e1
              cases e1
  · obtain rfl : k = e := by omega
    intro n1 k1 e1
    unfold oneS at e1
    rw [h.end1, h.sg1] at e1
    simp at e1
theorem rep_rl (h : LIn L1 L3 d e) {r1 r3 : Pr} (hr : Rl1 d e r1 r3) : Rl1 d e (repE L1 r1) (repE L3 r3) := by
  cases r1 with
  | inl c => intro n1 k1 e1; cases e1
  | inr q1 =>
    obtain ⟨m1, j1⟩ := q1
    obtain ⟨hle, m3, rfl, hs⟩ := hr m1 j1 rfl
    unfold repE
    simp only [h.sg hle]
    split
    · exact hr
    · rename_i hne
      have hlt : j1 < e := by
        rcases Nat.lt_or_ge j1 e with hl | hl
        · exact hl
        · obtain rfl : j1 = e := by omega
          rw [h.sg1] at hne
          exact absurd (by decide) hne
      exact rl1_inr (by omega) (by omega) (Sm_mk (SmL_one hs) (by simp))
theorem ov_rl {kd p p' : Nat} {r1 r3 : Pr} (hr : Rl1 d e r1 r3) : Rl1 d e (ovS kd p r1) (ovS kd p' r3) := by
  cases r1 with
  | inl c => intro n1 k1 e1; cases e1
  | inr q1 =>
    obtain ⟨m1, j1⟩ := q1
    obtain ⟨hle, m3, rfl, hs⟩ := hr m1 j1 rfl
    exact rl1_inr hle rfl (Sm_mk (SmL_one hs) (by simp))
theorem part_rl (h : LIn L1 L3 d e) {i1 i3 : Nat → Pr} (hi : ∀ k, k < e → Rl1 d e (i1 k) (i3 (k + d))) {k : Nat} (hk : k ≤ e) : Rl1 d e (partS L1 i1 k) (partS L3 i3 (k + d)) := by
  unfold partS
  simp only [h.sg hk]
  split
  · rename_i hs
    have := h.lt hk hs
    rw [show k + d + 1 = k + 1 + d by omega]
    exact ov_rl (rep_rl h (one_rl h hi (k := k + 1) (by omega)))
  · split
    · rename_i hs
      have := h.lt hk hs
      rw [show k + d + 1 = k + 1 + d by omega]
      exact ov_rl (rep_rl h (one_rl h hi (k := k + 1) (by omega)))
    · exact rep_rl h (one_rl h hi hk)
theorem row_rl (h : LIn L1 L3 d e) {i1 i3 : Nat → Pr} (hi : ∀ k, k < e → Rl1 d e (i1 k) (i3 (k + d))) : ∀ (f1 f3 k : Nat) (a1 a3 : List Nd), f1 ≤ f3 → k ≤ e → SmL a1 a3 → a1.length + f1 ≤ 1000000 → Rl1 d e (rowS L1 i1 f1 k a1) (rowS L3 i3 f3 (k + d) a3)
  | 0, f3, k, a1, a3, _, _, _, _ => by intro n1 k1 e1; rw [rowS] at e1; cases e1
  | f1 + 1, 0, k, a1, a3, hf, _, _, _ => by omega
  | f1 + 1, f3 + 1, k, a1, a3, hf, hk, ha, hl => by
    have hp := part_rl h hi hk
    rw [rowS, rowS, h.pt hk]
    split
    · cases hq1 : partS L1 i1 k with
      | inl c => intro n1 k1 e1; cases e1
      | inr q1 =>
        obtain ⟨m1, j1⟩ := q1
        obtain ⟨hle, m3, hq3, hs⟩ := hp m1 j1 hq1
        rw [hq3]
        exact row_rl h hi f1 f3 j1 (a1 ++ [m1]) (a3 ++ [m3]) (by omega) hle (SmL_snoc ha hs) (by simp; omega)
    · have hle := ha.len
      have hem : a3.isEmpty = a1.isEmpty := by
        cases a1 with
        | nil => cases a3 with
          | nil => rfl
          | cons _ _ => simp at hle
        | cons _ _ => cases a3 with
          | nil => simp at hle
          | cons _ _ => rfl
      rw [hem]
      split
      · exact rl1_inr hk rfl (Sm_mk SmL_nil (by simp))
      · rename_i hne
        exact rl1_inr hk rfl (Sm_join 6 ha (by omega) (fun he => hne (by rw [he]; rfl)))
theorem alt_rl (h : LIn L1 L3 d e) {i1 i3 : Nat → Pr} (hi : ∀ k, k < e → Rl1 d e (i1 k) (i3 (k + d))) : ∀ (f1 f3 k : Nat) (a1 a3 : List Nd), f1 ≤ f3 → k ≤ e → SmL a1 a3 → a1 ≠ [] → a1.length + f1 ≤ 1000000 → Rl1 d e (altS L1 i1 f1 k a1) (altS L3 i3 f3 (k + d) a3)
  | 0, f3, k, a1, a3, _, _, _, _, _ => by intro n1 k1 e1; rw [altS] at e1; cases e1
  | f1 + 1, 0, k, a1, a3, hf, _, _, _, _ => by omega
  | f1 + 1, f3 + 1, k, a1, a3, hf, hk, ha, hne, hl => by
    have hbig := h.big
    have g1 := h.len1
    have g3 := h.len3
    rw [altS, altS]
    simp only [h.sg hk]
    split
    · rename_i hs0
      have hlt := h.lt hk hs0
      have hp := row_rl h hi L1.length L3.length (k + 1) [] [] (by omega) (by omega) SmL_nil (by simp; omega)
      rw [show k + 1 + d = k + d + 1 by omega] at hp
      cases hq1 : rowS L1 i1 L1.length (k + 1) [] with
      | inl c => intro n1 k1 e1; cases e1
      | inr q1 =>
        obtain ⟨m1, j1⟩ := q1
        obtain ⟨hle, m3, hq3, hs⟩ := hp m1 j1 hq1
        rw [hq3]
        exact alt_rl h hi f1 f3 j1 (a1 ++ [m1]) (a3 ++ [m3]) (by omega) hle (SmL_snoc ha hs) (by simp) (by simp; omega)
    · exact rl1_inr hk rfl (Sm_join 7 ha (by omega) hne)
theorem ch_rl (h : LIn L1 L3 d e) {i1 i3 : Nat → Pr} (hi : ∀ k, k < e → Rl1 d e (i1 k) (i3 (k + d))) {k : Nat} (hk : k ≤ e) : Rl1 d e (chS L1 i1 k) (chS L3 i3 (k + d)) := by
  have hbig := h.big
  have g1 := h.len1
  have g3 := h.len3
  have hp := row_rl h hi L1.length L3.length k [] [] (by omega) hk SmL_nil (by simp; omega)
  unfold chS
  cases hq1 : rowS L1 i1 L1.length k [] with
  | inl c => intro n1 k1 e1; cases e1
  | inr q1 =>
    obtain ⟨m1, j1⟩ := q1
    obtain ⟨hle, m3, hq3, hs⟩ := hp m1 j1 hq1
    rw [hq3]
    exact alt_rl h hi L1.length L3.length j1 [m1] [m3] (by omega) hle (SmL_one hs) (by simp) (by simp; omega)
theorem inn_rl (h : LIn L1 L3 d e) : ∀ (f k : Nat), k < e → Rl1 d e (innS L1 f k) (innS L3 f (k + d))
  | 0, k, _ => by intro n1 k1 e1; rw [innS] at e1; cases e1
  | f + 1, k, hk => by
    have hp := ch_rl h (inn_rl h f) (k := k + 1) (by omega)
    intro n1 k1 e1
    rw [innS] at e1
    obtain ⟨j1, a1, b1, c1⟩ := innE_inv e1
    obtain ⟨hle, n3, h3, hs⟩ := hp n1 j1 a1
    have := h.lt hle b1
    refine ⟨by omega, n3, ?_, hs⟩
    rw [innS, show k + d + 1 = k + 1 + d by omega, h3]
    unfold innE
    simp only [h.sg hle]
    rw [if_pos b1, c1, show j1 + d + 1 = j1 + 1 + d by omega]
/-- Two rules that are one but for places. -/
def RlS (x y : Rl) : Prop := y.1 = x.1 ∧ Sm x.2.1 y.2.1
def RlL : List Rl → List Rl → Prop
  | [], [] => True
  | a :: r, b :: q => RlS a b ∧ RlL r q
  | _, _ => False
theorem RlL.len : ∀ {s t : List Rl}, RlL s t → t.length = s.length
  | [], [], _ => rfl
  | [], _ :: _, h => by simp [RlL] at h
  | _ :: _, [], h => by simp [RlL] at h
  | a :: r, b :: q, h => by
    rw [RlL] at h
    simp [RlL.len h.2]
theorem RlL.get : ∀ {s t : List Rl} (h : RlL s t) (j : Nat) (hj : j < s.length) (hj' : j < t.length), RlS s[j] t[j]
  | [], [], _, j, hj, _ => by simp at hj
  | [], _ :: _, h, _, _, _ => by simp [RlL] at h
  | _ :: _, [], h, _, _, _ => by simp [RlL] at h
  | a :: r, b :: q, h, 0, _, _ => by rw [RlL] at h; exact h.1
  | a :: r, b :: q, h, j + 1, hj, hj' => by
    rw [RlL] at h
    exact RlL.get h.2 j (by simp at hj; omega) (by simp at hj'; omega)
theorem RlL.app : ∀ {s t u v : List Rl}, RlL s t → RlL u v → RlL (s ++ u) (t ++ v)
  | [], [], u, v, _, h => h
  | [], _ :: _, _, _, h, _ => by simp [RlL] at h
  | _ :: _, [], _, _, h, _ => by simp [RlL] at h
  | a :: r, b :: q, u, v, h, h2 => by
    rw [RlL] at h
    rw [List.cons_append, List.cons_append, RlL]
    exact ⟨h.1, RlL.app h.2 h2⟩
theorem LIn.end6 (h : LIn L1 L3 d e) {k : Nat} (hk : e ≤ k) : (gL L1 k).1 = 6 := by
  rcases Nat.lt_or_ge e k with hl | hl
  · have g1 := h.len1
    unfold gL
    rw [List.getElem?_eq_none (by omega)]
    rfl
  · obtain rfl : k = e := by omega
    exact h.end1
theorem ru_rl (h : LIn L1 L3 d e) (hg : Good L1) {ru ru3 k k1 : Nat} {x : Rl} (hr : ruS L1 ru k = .inr (x, k1)) (h64 : ru3 ≠ 64) : k + 1 ≤ k1 ∧ k1 ≤ e ∧ ∃ y, ruS L3 ru3 (k + d) = .inr (y, k1 + d) ∧ RlS x y := by
  unfold ruS at hr
  split at hr
  · cases hr
  · rename_i c1
    split at hr
    · cases hr
    · split at hr
      · cases hr
      · rename_i c2
        have ke : k + 1 < e := by
          rcases Nat.lt_or_ge (k + 1) e with hl | hl
          · exact hl
          · have := h.end6 hl
            omega
        have hp := ch_rl h (inn_rl h 24) (k := k + 2) (by omega)
        cases hs : chS L1 (innS L1 24) (k + 2) with
        | inl c => rw [hs] at hr; cases hr
        | inr q =>
          obtain ⟨n, j⟩ := q
          rw [hs] at hr
          simp only [ruE, Sum.inr.injEq, Prod.mk.injEq] at hr
          obtain ⟨rfl, rfl⟩ := hr
          obtain ⟨hle, n3, h3, hsm⟩ := hp n j hs
          have hadv := (chS_adv hg (innS_adv hg 24) (show k + 2 < L1.length by have := h.len1; omega) hs).1
          refine ⟨by omega, hle, ((gL L3 (k + d)).2.1, n3, (gL L3 (k + d)).2.2.2), ?_, (h.kd (k := k) (by omega)).2.1, hsm⟩
          unfold ruS
          rw [if_neg (by rw [(h.kd (k := k) (by omega)).1]; exact c1), if_neg h64, show k + d + 1 = k + 1 + d by omega, if_neg (by rw [(h.kd ke).1]; exact c2), show k + d + 2 = k + 2 + d by omega, h3]
          rfl
theorem rls_rl (h : LIn L1 L3 d e) (hg : Good L1) : ∀ (f1 f3 k : Nat) (acc1 acc3 rs : List Rl), rlsS L1 f1 k acc1 = .inr rs → k ≤ e → acc3.length + rs.length ≤ 64 + acc1.length → e - k ≤ f3 → ∃ news news3, rs = acc1 ++ news ∧ RlL news news3 ∧ k + news.length ≤ e ∧ rlsS L3 f3 (k + d) acc3 = rlsS L3 (f3 - news.length) (e + d) (acc3 ++ news3)
  | 0, f3, k, acc1, acc3, rs, hr, _, _, _ => by rw [rlsS] at hr; cases hr
  | f1 + 1, f3, k, acc1, acc3, rs, hr, hk, h64, hf => by
    rw [rlsS] at hr
    split at hr
    · rename_i h6
      simp only [Sum.inr.injEq] at hr
      have hke : k = e := by
        rcases Nat.lt_or_ge k e with hl | hl
        · exact absurd h6 (h.only k hl)
        · omega
      subst hke
      exact ⟨[], [], by simp [hr], by rw [RlL]; trivial, by simp, by simp⟩
    · rename_i h6
      have hlt : k < e := by
        rcases Nat.lt_or_ge k e with hl | hl
        · exact hl
        · exact absurd (h.end6 hl) h6
      cases hru : ruS L1 acc1.length k with
      | inl c => rw [hru] at hr; cases hr
      | inr q =>
        obtain ⟨x, k1⟩ := q
        rw [hru] at hr
        simp only at hr
        have hlen := rls_len L1 f1 k1 (acc1 ++ [x]) rs hr
        simp at hlen
        obtain ⟨ha, hb, y, h3, hs⟩ := ru_rl h hg (ru3 := acc3.length) hru (by omega)
        obtain ⟨g, rfl⟩ : ∃ g, f3 = g + 1 := ⟨f3 - 1, by omega⟩
        obtain ⟨news, news3, e1, e2, e3, e4⟩ := rls_rl h hg f1 g k1 (acc1 ++ [x]) (acc3 ++ [y]) rs hr hb (by simp; omega) (by omega)
        refine ⟨x :: news, y :: news3, by rw [e1]; simp, by rw [RlL]; exact ⟨hs, e2⟩, by simp; omega, ?_⟩
        rw [rlsS, if_neg (by rw [(h.kd hlt).1]; exact h6), h3]
        simp only
        rw [e4]
        simp [Nat.add_sub_add_right]
end
theorem gra_eq {L : List Tok} (h0 : (gL L 0).1 ≠ 6) : graS L = rlsS L (L.length + 1) 0 [] := by
  rw [rlsS, if_neg h0]
  unfold graS
  cases hr : ruS L 0 0 with
  | inl c => rfl
  | inr q => rfl
theorem gra_head {L : List Tok} {rs : List Rl} (h : graS L = .inr rs) : (gL L 0).1 = 1 ∧ (gL L 1).1 = 2 := by
  unfold graS at h
  cases hr : ruS L 0 0 with
  | inl c => rw [hr] at h; cases h
  | inr q =>
    unfold ruS at hr
    split at hr
    · cases hr
    · rename_i c1
      split at hr
      · cases hr
      · split at hr
        · cases hr
        · rename_i c2
          exact ⟨by simpa using c1, by simpa using c2⟩
/-- Two rows of tokens, one behind the other: the rules of both. -/
theorem rows_spec {m1 m2 m3 : List Tok} {p1 p2 p3 : Nat} {rs1 rs2 : List Rl} (k1 : ∀ t ∈ m1, TokOk t) (k2 : ∀ t ∈ m2, TokOk t) (l1 : m1.length ≤ 9000) (l2 : m2.length ≤ 9000) (hl : m3.length = m2.length) (h3 : ∀ k, k < m2.length → tk3 (gL m3 k) = tk3 (gL m2 k))
    (g1 : graS (m1 ++ [(6, { data := #[] }, 0, p1)]) = .inr rs1) (g2 : graS (m2 ++ [(6, { data := #[] }, 0, p2)]) = .inr rs2) (h64 : rs1.length + rs2.length ≤ 64) :
    ∃ rs3, graS (m1 ++ m3 ++ [(6, { data := #[] }, 0, p3)]) = .inr rs3 ∧ RlL (rs1 ++ rs2) rs3 := by
  have hG1 := good_end (p := p1) k1 l1
  have hG2 := good_end (p := p2) k2 l2
  have end_ : ∀ (m : List Tok) (p k : Nat), m.length ≤ k → (gL (m ++ [(6, { data := #[] }, 0, p)]) k).1 = 6 := fun m p k hk => by
    rw [gL_right hk]
    match k - m.length with
    | 0 => rfl
    | j + 1 => rfl
  have mid_ : ∀ (m : List Tok) (p k : Nat), k < m.length → gL (m ++ [(6, { data := #[] }, 0, p)]) k = gL m k := fun m p k hk => by
    rw [gL_left hk, gL_eq hk]
  obtain ⟨a0, a1⟩ := gra_head g1
  obtain ⟨b0, b1⟩ := gra_head g2
  have hm2 : 1 < m2.length := by
    rcases Nat.lt_or_ge 1 m2.length with h | h
    · exact h
    · have := end_ m2 p2 1 h
      omega
  have hm1 : 0 < m1.length := by
    rcases Nat.lt_or_ge 0 m1.length with h | h
    · exact h
    · have := end_ m1 p1 0 h
      omega
  rw [mid_ _ _ _ (by omega)] at b0 b1
  have f1 : ∀ k, k < m1.length → gL (m1 ++ m3 ++ [(6, { data := #[] }, 0, p3)]) k = gL m1 k := fun k hk => by
    rw [List.append_assoc, gL_left hk, gL_eq hk]
  have f2 : ∀ k, k < m2.length → gL (m1 ++ m3 ++ [(6, { data := #[] }, 0, p3)]) (k + m1.length) = gL m3 k := fun k hk => by
    rw [List.append_assoc, gL_right (by omega), show k + m1.length - m1.length = k by omega, mid_ _ _ _ (by omega)]
  have f3 : (gL (m1 ++ m3 ++ [(6, { data := #[] }, 0, p3)]) (m2.length + m1.length)).1 = 6 := end_ _ _ _ (by simp; omega)
  have q0 := h3 0 (by omega)
  have q1 := h3 1 hm2
  unfold tk3 at q0 q1
  simp only [Prod.mk.injEq] at q0 q1
  have hlen3 : (m1 ++ m3 ++ [((6 : Nat), ({ data := #[] } : ByteArray), (0 : Nat), p3)]).length = m1.length + m2.length + 1 := by simp; omega
  have hd3 : hdB (m1 ++ m3 ++ [(6, { data := #[] }, 0, p3)]) m1.length = true := by
    have z0 := f2 0 (by omega)
    have z1 := f2 1 (by omega)
    rw [Nat.zero_add] at z0
    rw [hdB_gL _ _ (by omega), z0, Nat.add_comm, z1, q0.1, q1.1, b0, b1]
    rfl
  have t0 : (gL (m1 ++ m3 ++ [(6, { data := #[] }, 0, p3)]) m1.length).1 = 1 := by
    have z0 := f2 0 (by omega)
    rw [Nat.zero_add] at z0
    rw [z0, q0.1, b0]
  have A : LIn (m1 ++ [(6, { data := #[] }, 0, p1)]) (m1 ++ m3 ++ [(6, { data := #[] }, 0, p3)]) 0 m1.length := by
    refine ⟨by omega, fun k hk => ?_, by simp, by simp, end_ _ _ _ (Nat.le_refl _), fun k hk => ?_, ?_, ?_, ?_⟩
    · rw [Nat.add_zero, f1 k hk, mid_ _ _ _ hk]
    · rw [mid_ _ _ _ hk, gL_eq hk]
      have := (k1 _ (List.getElem_mem hk)).1
      omega
    · rw [Nat.add_zero]
      unfold sgT
      rw [if_neg (by rw [t0]; decide)]
    · rw [Nat.add_zero]
      unfold ptB
      rw [t0, hd3]
      rfl
    · rw [Nat.add_zero, t0]
      decide
  have B : LIn (m2 ++ [(6, { data := #[] }, 0, p2)]) (m1 ++ m3 ++ [(6, { data := #[] }, 0, p3)]) m1.length m2.length := by
    refine ⟨by omega, fun k hk => ?_, by simp, by omega, end_ _ _ _ (Nat.le_refl _), fun k hk => ?_, ?_, ?_, ?_⟩
    · rw [f2 k hk, mid_ _ _ _ hk, h3 k hk]
    · rw [mid_ _ _ _ hk, gL_eq hk]
      have := (k2 _ (List.getElem_mem hk)).1
      omega
    · unfold sgT
      rw [f3]
      rfl
    · unfold ptB
      rw [f3]
      rfl
    · rw [f3]
      decide
  rw [gra_eq (by rw [a0]; decide)] at g1
  rw [gra_eq (by rw [mid_ _ _ _ (by omega), b0]; decide)] at g2
  obtain ⟨F, hF⟩ : ∃ F, F = m1.length + m2.length + 2 := ⟨_, rfl⟩
  obtain ⟨n1, n13, e1, e2, e3, e4⟩ := rls_rl A hG1 _ F 0 [] [] rs1 g1 (Nat.zero_le _) (by simp; omega) (by omega)
  rw [List.nil_append] at e1 e4
  subst e1
  have hn13 := e2.len
  obtain ⟨n2, n23, c1, c2, c3, c4⟩ := rls_rl B hG2 _ (F - rs1.length) 0 [] n13 rs2 g2 (Nat.zero_le _) (by simp; omega) (by omega)
  rw [List.nil_append] at c1
  subst c1
  refine ⟨n13 ++ n23, ?_, e2.app c2⟩
  rw [gra_eq (by rw [f1 0 hm1]; rw [mid_ _ _ _ hm1] at a0; rw [a0]; decide), hlen3, show m1.length + m2.length + 1 + 1 = F by omega]
  simp only [Nat.add_zero] at e4
  simp only [Nat.zero_add] at c4
  rw [e4, c4]
  obtain ⟨g, hg⟩ : ∃ g, F - rs1.length - rs2.length = g + 1 := ⟨F - rs1.length - rs2.length - 1, by omega⟩
  rw [hg, rlsS, if_pos f3]
mutual
theorem Sm_symm : ∀ {n m : Nd}, Sm n m → Sm m n
  | .mk kd T C s p, .mk kd' T' C' s' p', h => by
    rw [Sm] at h ⊢
    obtain ⟨rfl, rfl, rfl, h2, h3⟩ := h
    exact ⟨rfl, rfl, rfl, SmL_symm h2, by rw [h2.len]; exact h3⟩
theorem SmL_symm : ∀ {s t : List Nd}, SmL s t → SmL t s
  | [], [], h => by rw [SmL]; trivial
  | [], _ :: _, h => by simp [SmL] at h
  | _ :: _, [], h => by simp [SmL] at h
  | a :: r, b :: q, h => by
    rw [SmL] at h ⊢
    exact ⟨Sm_symm h.1, SmL_symm h.2⟩
end
/-- A token's place in a row. -/
def pl (L : List Tok) (j : Nat) : Nat := match L[j]? with
  | some t => t.2.2.2
  | none => 0
/-- What a row of tokens was read as: each at its place, the next one behind blanks. -/
def Ch (S : ByteArray) (m : List Tok) (L : List Tok) : Prop := L = m ++ [(6, { data := #[] }, 0, S.size)] ∧ pl L 0 = sb S 0 ∧
  ∀ j (h : j < m.length), ∃ x n, bt S (pl L j) = some x ∧ tokAt S (pl L j) x = .inr (m[j], n) ∧ sb S n = pl L (j + 1) ∧ blB x = false ∧ x ≠ 35
theorem ch_list {S : ByteArray} : ∀ (m : List Tok) (k0 : Nat), k0 ≤ S.size → tks S (sb S k0) [] = .inr m → pl (m ++ [(6, { data := #[] }, 0, S.size)]) 0 = sb S k0 ∧
    ∀ j (h : j < m.length), ∃ x n, bt S (pl (m ++ [(6, { data := #[] }, 0, S.size)]) j) = some x ∧ tokAt S (pl (m ++ [(6, { data := #[] }, 0, S.size)]) j) x = .inr (m[j], n) ∧ sb S n = pl (m ++ [(6, { data := #[] }, 0, S.size)]) (j + 1) ∧ blB x = false ∧ x ≠ 35
  | [], k0, hk, h => by
    refine ⟨?_, fun j hj => by simp at hj⟩
    have hge := sb_ge (S := S) hk
    cases hb : bt S (sb S k0) with
    | none =>
      have := bt_none hb
      show S.size = _
      omega
    | some x =>
      cases ht : tokAt S (sb S k0) x with
      | inl b => rw [tks_bad hb ht] at h; cases h
      | inr r =>
        obtain ⟨t, n⟩ := r
        rw [tks_on hb ht, tks_acc] at h
        cases hm : tks S (sb S n) [] with
        | inl c => rw [hm] at h; cases h
        | inr l => rw [hm] at h; simp [lift] at h
  | t :: r, k0, hk, h => by
    obtain ⟨x, n, hb, ht, hr⟩ := tks_inv h
    have hok := tokAt_ok hb ht
    have hfx := sb_fix (S := S) _ k0 x (Nat.le_refl _) hk hb
    obtain ⟨i1, i2⟩ := ch_list r n hok.2.1 hr
    have hp0 : pl (t :: r ++ [(6, { data := #[] }, 0, S.size)]) 0 = sb S k0 := hok.2.2.2.1
    refine ⟨hp0, fun j hj => ?_⟩
    match j, hj with
    | 0, _ => exact ⟨x, n, by rw [hp0]; exact hb, by rw [hp0]; exact ht, by rw [← i1]; rfl, hfx⟩
    | j + 1, hj =>
      obtain ⟨y, q, k1, k2, k3, k4⟩ := i2 j (by simpa using hj)
      exact ⟨y, q, k1, k2, k3, k4⟩
theorem tkS_ch {S : ByteArray} {L : List Tok} (h : tkS S = .inr L) : ∃ m, Ch S m L := by
  obtain ⟨m, hm, rfl⟩ := tkS_inv h
  obtain ⟨h1, h2⟩ := ch_list m 0 (Nat.zero_le _) hm
  exact ⟨m, rfl, h1, h2⟩
theorem Ch.len {S : ByteArray} {m L : List Tok} (h : Ch S m L) : L.length = m.length + 1 := by rw [h.1]; simp
theorem Ch.last {S : ByteArray} {m L : List Tok} (h : Ch S m L) : pl L m.length = S.size := by
  rw [h.1]
  unfold pl
  rw [List.getElem?_append_right (Nat.le_refl _), Nat.sub_self]
  rfl
theorem Ch.step {S : ByteArray} {m L : List Tok} (h : Ch S m L) (j : Nat) (hj : j < m.length) : pl L j < pl L (j + 1) ∧ pl L (j + 1) ≤ S.size := by
  obtain ⟨x, n, h1, h2, h3, _⟩ := h.2.2 j hj
  have hok := tokAt_ok h1 h2
  have hge := sb_ge (S := S) hok.2.1
  omega
/-- What may stand between two tokens. -/
def sepT (k : Nat) : ByteArray := if k = 0 then { data := #[10, 32] } else if k = 1 then { data := #[10, 9] } else if k = 2 then { data := #[10, 35, 120, 39, 10] } else { data := #[10, 10] }
theorem sepT_size (k : Nat) : 2 ≤ (sepT k).size ∧ (sepT k).size ≤ 5 := by
  unfold sepT
  split
  · decide
  · split
    · decide
    · split <;> decide
theorem sepT_first (k : Nat) : bt (sepT k) 0 = some 10 := by
  unfold sepT
  split
  · rfl
  · split
    · rfl
    · split <;> rfl
/-- What stands between is passed over. -/
theorem sep_skip {X : ByteArray} {a k : Nat} (h : ∀ i, i < (sepT k).size → bt X (a + i) = bt (sepT k) i) : sb X a = sb X (a + (sepT k).size) := by
  have two : ∀ x, blB x = true → bt X a = some 10 → bt X (a + 1) = some x → sb X a = sb X (a + 2) := fun x hx h0 h1 => by
    rw [sb_eq h0, if_pos (by decide), sb_eq h1, if_pos hx]
  unfold sepT at h ⊢
  split at h
  · rename_i hk
    rw [if_pos hk]
    exact two 32 (by decide) (h 0 (by decide)) (h 1 (by decide))
  · rename_i hk
    rw [if_neg hk]
    split at h
    · rename_i hk1
      rw [if_pos hk1]
      exact two 9 (by decide) (h 0 (by decide)) (h 1 (by decide))
    · rename_i hk1
      rw [if_neg hk1]
      split at h
      · rename_i hk2
        rw [if_pos hk2]
        have h0 : bt X a = some 10 := h 0 (by decide)
        have h1 : bt X (a + 1) = some 35 := h 1 (by decide)
        have h2 : bt X (a + 1 + 1) = some 120 := h 2 (by decide)
        have h3 : bt X (a + 1 + 1 + 1) = some 39 := h 3 (by decide)
        have h4 : bt X (a + 1 + 1 + 1 + 1) = some 10 := h 4 (by decide)
        rw [sb_eq h0, if_pos (by decide), sb_eq h1, if_neg (by decide), if_pos rfl, le_eq h1, if_neg (by decide), le_eq h2, if_neg (by decide), le_eq h3, if_neg (by decide), le_eq h4, if_pos rfl, sb_eq h4, if_pos (by decide)]
        rfl
      · rename_i hk2
        rw [if_neg hk2]
        exact two 10 (by decide) (h 0 (by decide)) (h 1 (by decide))
/-- The pieces, with something behind each. -/
def tq (S : ByteArray) (L : List Tok) (q : Nat → Nat) : Nat → ByteArray
  | 0 => { data := #[] }
  | j + 1 => tq S L q j ++ S.extract (pl L j) (pl L (j + 1)) ++ sepT (q j)
section
variable {q : Nat → Nat}
theorem tq_size (S : ByteArray) (L : List Tok) (j : Nat) (h : pl L j ≤ pl L (j + 1)) (h2 : pl L (j + 1) ≤ S.size) : (tq S L q (j + 1)).size = (tq S L q j).size + (pl L (j + 1) - pl L j) + (sepT (q j)).size := by
  rw [tq, ByteArray.size_append, ByteArray.size_append, ByteArray.size_extract]
  omega
theorem tq_le {S : ByteArray} {m L : List Tok} (h : Ch S m L) : ∀ j, j ≤ m.length → (tq S L q j).size ≤ pl L j + 5 * j
  | 0, _ => Nat.zero_le _
  | j + 1, hj => by
    have hs := h.step j (by omega)
    have := tq_le h j (by omega)
    have := sepT_size (q j)
    rw [tq_size S L j (by omega) hs.2]
    omega
theorem tq_pre (S : ByteArray) (L : List Tok) : ∀ d j i : Nat, i < (tq S L q j).size → bt (tq S L q (j + d)) i = bt (tq S L q j) i ∧ i < (tq S L q (j + d)).size
  | 0, j, i, h => ⟨rfl, h⟩
  | d + 1, j, i, h => by
    obtain ⟨h1, h2⟩ := tq_pre S L d j i h
    rw [show j + (d + 1) = (j + d) + 1 by omega, tq]
    constructor
    · rw [bt_app, if_pos (by rw [ByteArray.size_append]; omega), bt_app, if_pos h2]
      exact h1
    · rw [ByteArray.size_append, ByteArray.size_append]; omega
theorem tq_at {S : ByteArray} {m L : List Tok} (h : Ch S m L) (j : Nat) (hj : j < m.length) :
    Seg S (tq S L q m.length) (pl L j) (tq S L q j).size (pl L (j + 1) - pl L j) ∧ (∀ i, i < (sepT (q j)).size → bt (tq S L q m.length) ((tq S L q j).size + (pl L (j + 1) - pl L j) + i) = bt (sepT (q j)) i) ∧ (tq S L q (j + 1)).size ≤ (tq S L q m.length).size := by
  have hs := h.step j hj
  have hsz := tq_size (q := q) S L j (by omega) hs.2
  have hsp := sepT_size (q j)
  obtain ⟨d, hd⟩ : ∃ d, m.length = (j + 1) + d := ⟨m.length - (j + 1), by omega⟩
  have hpre := tq_pre (q := q) S L d (j + 1)
  rw [← hd] at hpre
  have hex : (S.extract (pl L j) (pl L (j + 1))).size = pl L (j + 1) - pl L j := by rw [ByteArray.size_extract]; omega
  have hb : ∀ i, bt (tq S L q (j + 1)) ((tq S L q j).size + i) = if i < pl L (j + 1) - pl L j then bt S (pl L j + i) else bt (sepT (q j)) (i - (pl L (j + 1) - pl L j)) := fun i => by
    rw [tq, bt_app, ByteArray.size_append, hex]
    by_cases hi : i < pl L (j + 1) - pl L j
    · rw [if_pos (by omega), if_pos hi, bt_app, if_neg (by omega), Nat.add_sub_cancel_left, bt_ext _ _ _ _ hs.2, if_pos (by omega)]
    · rw [if_neg (by omega), if_neg hi]
      congr 1
      omega
  refine ⟨fun i hi => ?_, fun i hi => ?_, ?_⟩
  · rw [(hpre _ (by omega)).1, hb, if_pos hi]
  · rw [(hpre _ (by omega)).1, Nat.add_assoc, hb, if_neg (by omega), Nat.add_sub_cancel_left]
  · have := (hpre ((tq S L q (j + 1)).size - 1) (by omega)).2
    omega
theorem tq_toks {S : ByteArray} {m L : List Tok} (h : Ch S m L) : ∀ d j : Nat, m.length = j + d → ∃ M, tks (tq S L q m.length) (tq S L q j).size [] = .inr M ∧ M.map tk3 = (m.drop j).map tk3
  | 0, j, hj => by
    refine ⟨[], ?_, ?_⟩
    · rw [show j = m.length by omega]; exact tks_end (Nat.le_refl _)
    · rw [List.drop_eq_nil_of_le (by omega)]
  | d + 1, j, hj => by
    obtain ⟨x, n, h1, h2, h3, h4, h5⟩ := h.2.2 j (by omega)
    obtain ⟨hseg, hsep, hle⟩ := tq_at (q := q) h j (by omega)
    have hs := h.step j (by omega)
    have hok := tokAt_ok h1 h2
    have hge := sb_ge (S := S) hok.2.1
    have hsz := tq_size (q := q) S L j (by omega) hs.2
    have hsp := sepT_size (q j)
    have h10 : bt (tq S L q m.length) ((tq S L q j).size + (pl L (j + 1) - pl L j)) = some 10 := by
      have := hsep 0 (by omega)
      rw [Nat.add_zero, sepT_first] at this
      exact this
    obtain ⟨i', hi'⟩ : ∃ i', n = pl L j + i' := ⟨n - pl L j, by omega⟩
    rw [hi'] at h2 h3 hge hok
    have hst : Stop (tq S L q m.length) ((tq S L q j).size + (pl L (j + 1) - pl L j)) := .inl h10
    obtain ⟨k1, k2⟩ := hseg.tok (i := 0) hst (by omega) h1 h2 (by omega)
    rw [Nat.add_zero] at k1 k2
    have hsb : sb (tq S L q m.length) ((tq S L q j).size + i') = (tq S L q (j + 1)).size := by
      rw [hseg.sb hst (by omega) _ i' (pl L (j + 1) - pl L j) (Nat.le_refl _) (by omega) (Nat.le_refl _) (by rw [h3]; omega)]
      rw [sep_skip hsep]
      rw [← hsz]
      by_cases hlast : j + 1 < m.length
      · obtain ⟨y, _, g1, _, _, g4, g5⟩ := h.2.2 (j + 1) hlast
        obtain ⟨gseg, _, _⟩ := tq_at (q := q) h (j + 1) hlast
        have gs := h.step (j + 1) hlast
        have gb := gseg 0 (by omega)
        rw [Nat.add_zero, Nat.add_zero] at gb
        exact sb_at (by rw [gb]; exact g1) g4 g5
      · have : j + 1 = m.length := by omega
        rw [this]
        exact sb_none (bt_ge (Nat.le_refl _))
    obtain ⟨M, hM, hc⟩ := tq_toks h d (j + 1) (by omega)
    refine ⟨((m[j]'(by omega)).1, (m[j]'(by omega)).2.1, (m[j]'(by omega)).2.2.1, (tq S L q j).size) :: M, ?_, ?_⟩
    · rw [tks_on k2 k1, tks_acc, hsb, hM]
      rfl
    · rw [List.map_cons, hc, List.drop_eq_getElem_cons (show j < m.length by omega), List.map_cons]
      rfl
/-- The pieces' tokens. -/
theorem tkS_tq {S : ByteArray} {m L : List Tok} (h : Ch S m L) : ∃ M, tkS (tq S L q m.length) = .inr M ∧ M.map tk3 = L.map tk3 := by
  have h0 : sb (tq S L q m.length) 0 = (tq S L q 0).size := by
    show _ = 0
    by_cases hm : 0 < m.length
    · obtain ⟨y, _, g1, _, _, g4, g5⟩ := h.2.2 0 hm
      obtain ⟨gseg, _, _⟩ := tq_at (q := q) h 0 hm
      have gs := h.step 0 hm
      have gb := gseg 0 (by omega)
      rw [Nat.add_zero, Nat.add_zero] at gb
      exact sb_at (show bt _ 0 = some y from gb.trans g1) g4 g5
    · have : m.length = 0 := by omega
      rw [this]
      rfl
  obtain ⟨M, hM, hc⟩ := tq_toks (q := q) h m.length 0 (by omega)
  refine ⟨M ++ [(6, { data := #[] }, 0, (tq S L q m.length).size)], ?_, ?_⟩
  · unfold tkS
    rw [h0, hM]
    rfl
  · rw [List.map_append, hc, h.1, List.map_append, List.drop_zero]
    rfl
end
theorem tk3_at {M L : List Tok} (h : M.map tk3 = L.map tk3) (i : Nat) (h1 : i < M.length) (h2 : i < L.length) : tk3 M[i] = tk3 L[i] := by
  have e1 : (M.map tk3)[i]'(by simpa using h1) = tk3 M[i] := by simp
  have e2 : (L.map tk3)[i]'(by simpa using h2) = tk3 L[i] := by simp
  rw [← e1, ← e2]
  simp only [h]
structure Ly (L1 L2 : List Tok) : Prop where
  len : L2.length = L1.length
  same : ∀ k, tk3 (gL L2 k) = tk3 (gL L1 k)
  big : L1.length ≤ 10000
def Rq (r1 r2 : Pr) : Prop := match r1, r2 with
  | .inr (n, k), .inr (n', k') => k' = k ∧ Sm n n'
  | .inl c, .inl c' => c'.1 = c.1
  | _, _ => False
theorem Rq.cases {r1 r2 : Pr} (h : Rq r1 r2) : (∃ n n' k, r1 = .inr (n, k) ∧ r2 = .inr (n', k) ∧ Sm n n') ∨ (∃ c c', r1 = .inl c ∧ r2 = .inl c' ∧ c'.1 = c.1) := by
  cases r1 with
  | inl c => cases r2 with
    | inl c' => exact .inr ⟨c, c', rfl, rfl, h⟩
    | inr q => exact h.elim
  | inr p => cases r2 with
    | inl c' => exact h.elim
    | inr q =>
      obtain ⟨n, k⟩ := p
      obtain ⟨n', k'⟩ := q
      obtain ⟨h1, h2⟩ := h
      subst h1
      exact .inl ⟨n, n', k', rfl, rfl, h2⟩
section
variable {L1 L2 : List Tok}
theorem Ly.kd (h : Ly L1 L2) (k : Nat) : (gL L2 k).1 = (gL L1 k).1 ∧ (gL L2 k).2.1 = (gL L1 k).2.1 ∧ (gL L2 k).2.2.1 = (gL L1 k).2.2.1 := by
  have := h.same k
  unfold tk3 at this
  simp only [Prod.mk.injEq] at this
  exact this
theorem Ly.sg (h : Ly L1 L2) (k : Nat) : sgT (gL L2 k) = sgT (gL L1 k) := sgT_eq (h.same k)
theorem Ly.wr (h : Ly L1 L2) (k : Nat) : wrC (gL L2 k) = wrC (gL L1 k) := by unfold wrC; rw [(h.kd k).1]
theorem Ly.hd (h : Ly L1 L2) (k : Nat) : hdB L2 k = hdB L1 k := by
  have hl := h.len
  rcases Nat.lt_or_ge (k + 1) L1.length with h1 | h1
  · rw [hdB_gL L1 k h1, hdB_gL L2 k (by omega), (h.kd k).1, (h.kd (k + 1)).1]
  · unfold hdB
    rw [List.getElem?_eq_none (show L1.length ≤ k + 1 by omega), List.getElem?_eq_none (show L2.length ≤ k + 1 by omega)]
    cases L2[k]? <;> cases L1[k]? <;> rfl
theorem Ly.pt (h : Ly L1 L2) (k : Nat) : ptB L2 k (gL L2 k) = ptB L1 k (gL L1 k) := by
  unfold ptB
  rw [(h.kd k).1, (h.kd k).2.1, h.hd k]
theorem one_q (h : Ly L1 L2) {i1 i2 : Nat → Pr} (hi : ∀ k, Rq (i1 k) (i2 k)) (k : Nat) : Rq (oneS L1 i1 k) (oneS L2 i2 k) := by
  have q := h.kd k
  unfold oneS
  simp only [q.1, q.2.1, q.2.2, h.hd k, h.sg k, h.wr k]
  split
  · exact ⟨rfl, Sm_mk SmL_nil (by simp)⟩
  · split
    · exact ⟨rfl, Sm_mk SmL_nil (by simp)⟩
    · split
      · exact ⟨rfl, Sm_mk SmL_nil (by simp)⟩
      · split
        · exact ⟨rfl, Sm_mk SmL_nil (by simp)⟩
        · split
          · exact hi k
          · exact (rfl : wrC (gL L1 k) = wrC (gL L1 k))
theorem rep_q (h : Ly L1 L2) {r1 r2 : Pr} (hr : Rq r1 r2) : Rq (repE L1 r1) (repE L2 r2) := by
  rcases hr.cases with ⟨n, n', k, rfl, rfl, hs⟩ | ⟨c, c', rfl, rfl, hc⟩
  · unfold repE
    simp only [h.sg k]
    split
    · exact ⟨rfl, hs⟩
    · exact ⟨rfl, Sm_mk (SmL_one hs) (by simp)⟩
  · exact hc
theorem ov_q {kd p p' : Nat} {r1 r2 : Pr} (hr : Rq r1 r2) : Rq (ovS kd p r1) (ovS kd p' r2) := by
  rcases hr.cases with ⟨n, n', k, rfl, rfl, hs⟩ | ⟨c, c', rfl, rfl, hc⟩
  · exact ⟨rfl, Sm_mk (SmL_one hs) (by simp)⟩
  · exact hc
theorem part_q (h : Ly L1 L2) {i1 i2 : Nat → Pr} (hi : ∀ k, Rq (i1 k) (i2 k)) (k : Nat) : Rq (partS L1 i1 k) (partS L2 i2 k) := by
  unfold partS
  simp only [h.sg k]
  split
  · exact ov_q (rep_q h (one_q h hi (k + 1)))
  · split
    · exact ov_q (rep_q h (one_q h hi (k + 1)))
    · exact rep_q h (one_q h hi k)
theorem row_q (h : Ly L1 L2) {i1 i2 : Nat → Pr} (hi : ∀ k, Rq (i1 k) (i2 k)) : ∀ (f k : Nat) (a1 a2 : List Nd), SmL a1 a2 → a1.length + f ≤ 1000000 → Rq (rowS L1 i1 f k a1) (rowS L2 i2 f k a2)
  | 0, k, a1, a2, _, _ => by
    rw [rowS, rowS]
    exact (rfl : (0 : Nat) = 0)
  | f + 1, k, a1, a2, ha, hl => by
    have hp := part_q h hi k
    rw [rowS, rowS, h.pt k]
    split
    · rcases hp.cases with ⟨n, n', k', e1, e2, hs⟩ | ⟨c, c', e1, e2, hc⟩
      · rw [e1, e2]
        exact row_q h hi f k' (a1 ++ [n]) (a2 ++ [n']) (SmL_snoc ha hs) (by simp; omega)
      · rw [e1, e2]
        exact hc
    · have hle := ha.len
      have hem : a2.isEmpty = a1.isEmpty := by
        cases a1 with
        | nil => cases a2 with
          | nil => rfl
          | cons _ _ => simp at hle
        | cons _ _ => cases a2 with
          | nil => simp at hle
          | cons _ _ => rfl
      rw [hem]
      split
      · exact ⟨rfl, Sm_mk SmL_nil (by simp)⟩
      · rename_i hne
        exact ⟨rfl, Sm_join 6 ha (by omega) (fun he => hne (by rw [he]; rfl))⟩
theorem alt_q (h : Ly L1 L2) {i1 i2 : Nat → Pr} (hi : ∀ k, Rq (i1 k) (i2 k)) : ∀ (f k : Nat) (a1 a2 : List Nd), SmL a1 a2 → a1 ≠ [] → a1.length + f ≤ 1000000 → Rq (altS L1 i1 f k a1) (altS L2 i2 f k a2)
  | 0, k, a1, a2, _, _, _ => by
    rw [altS, altS]
    exact (rfl : (0 : Nat) = 0)
  | f + 1, k, a1, a2, ha, hne, hl => by
    have hbig := h.big
    have hp := row_q h hi L1.length (k + 1) [] [] SmL_nil (by simp; omega)
    rw [altS, altS, h.len]
    simp only [h.sg k]
    split
    · rcases hp.cases with ⟨n, n', k', e1, e2, hs⟩ | ⟨c, c', e1, e2, hc⟩
      · rw [e1, e2]
        exact alt_q h hi f k' (a1 ++ [n]) (a2 ++ [n']) (SmL_snoc ha hs) (by simp) (by simp; omega)
      · rw [e1, e2]
        exact hc
    · exact ⟨rfl, Sm_join 7 ha (by omega) hne⟩
theorem ch_q (h : Ly L1 L2) {i1 i2 : Nat → Pr} (hi : ∀ k, Rq (i1 k) (i2 k)) (k : Nat) : Rq (chS L1 i1 k) (chS L2 i2 k) := by
  have hbig := h.big
  have hp := row_q h hi L1.length k [] [] SmL_nil (by simp; omega)
  unfold chS
  rw [h.len]
  rcases hp.cases with ⟨n, n', k', e1, e2, hs⟩ | ⟨c, c', e1, e2, hc⟩
  · rw [e1, e2]
    unfold chE
    simp only
    rw [h.len]
    exact alt_q h hi L1.length k' [n] [n'] (SmL_one hs) (by simp) (by simp; omega)
  · rw [e1, e2]
    exact hc
theorem inn_q (h : Ly L1 L2) : ∀ (d k : Nat), Rq (innS L1 d k) (innS L2 d k)
  | 0, k => by
    rw [innS, innS]
    exact (rfl : (2 : Nat) = 2)
  | d + 1, k => by
    have hp := ch_q h (inn_q h d) (k + 1)
    rw [innS, innS]
    rcases hp.cases with ⟨n, n', k', e1, e2, hs⟩ | ⟨c, c', e1, e2, hc⟩
    · rw [e1, e2]
      unfold innE
      simp only [h.sg k', h.wr k']
      split
      · exact ⟨rfl, hs⟩
      · exact (rfl : wrC (gL L1 k') = wrC (gL L1 k'))
    · rw [e1, e2]
      exact hc
def Ru (r1 r2 : (Nat × Nat) ⊕ (Rl × Nat)) : Prop := (∃ x y k, r1 = .inr (x, k) ∧ r2 = .inr (y, k) ∧ RlS x y) ∨ (∃ c c', r1 = .inl c ∧ r2 = .inl c' ∧ c'.1 = c.1)
theorem ru_q (h : Ly L1 L2) (ru k : Nat) : Ru (ruS L1 ru k) (ruS L2 ru k) := by
  have hp := ch_q h (inn_q h 24) (k + 2)
  unfold ruS
  rw [(h.kd k).1, (h.kd (k + 1)).1, h.wr k, h.wr (k + 1)]
  split
  · exact .inr ⟨_, _, rfl, rfl, rfl⟩
  · split
    · exact .inr ⟨_, _, rfl, rfl, rfl⟩
    · split
      · exact .inr ⟨_, _, rfl, rfl, rfl⟩
      · rcases hp.cases with ⟨n, n', k', e1, e2, hs⟩ | ⟨c, c', e1, e2, hc⟩
        · rw [e1, e2]
          exact .inl ⟨_, _, _, rfl, rfl, (h.kd k).2.1, hs⟩
        · rw [e1, e2]
          exact .inr ⟨_, _, rfl, rfl, hc⟩
def Rg (r1 r2 : (Nat × Nat) ⊕ List Rl) : Prop := (∃ x y, r1 = .inr x ∧ r2 = .inr y ∧ RlL x y) ∨ (∃ c c', r1 = .inl c ∧ r2 = .inl c' ∧ c'.1 = c.1)
theorem rls_q (h : Ly L1 L2) : ∀ (f k : Nat) (a1 a2 : List Rl), RlL a1 a2 → Rg (rlsS L1 f k a1) (rlsS L2 f k a2)
  | 0, k, a1, a2, _ => by
    rw [rlsS, rlsS]
    exact .inr ⟨_, _, rfl, rfl, rfl⟩
  | f + 1, k, a1, a2, ha => by
    rw [rlsS, rlsS, (h.kd k).1, ha.len]
    split
    · exact .inl ⟨_, _, rfl, rfl, ha⟩
    · rcases ru_q h a1.length k with ⟨x, y, k', e1, e2, hs⟩ | ⟨c, c', e1, e2, hc⟩
      · rw [e1, e2]
        exact rls_q h f k' (a1 ++ [x]) (a2 ++ [y]) (ha.app (by rw [RlL]; exact ⟨hs, by rw [RlL]; trivial⟩))
      · rw [e1, e2]
        exact .inr ⟨_, _, rfl, rfl, hc⟩
theorem gra_q (h : Ly L1 L2) : Rg (graS L1) (graS L2) := by
  unfold graS
  rcases ru_q h 0 0 with ⟨x, y, k', e1, e2, hs⟩ | ⟨c, c', e1, e2, hc⟩
  · rw [e1, e2]
    unfold graE
    simp only
    rw [h.len]
    exact rls_q h L1.length k' [x] [y] (by rw [RlL]; exact ⟨hs, by rw [RlL]; trivial⟩)
  · rw [e1, e2]
    exact .inr ⟨_, _, rfl, rfl, hc⟩
theorem ly_of {L M : List Tok} (h : M.map tk3 = L.map tk3) (hl : L.length ≤ 10000) : Ly L M := by
  have hlen : M.length = L.length := by
    have := congrArg List.length h
    simpa using this
  refine ⟨hlen, fun k => ?_, hl⟩
  have hk : (M.map tk3)[k]? = (L.map tk3)[k]? := by rw [h]
  rw [List.getElem?_map, List.getElem?_map] at hk
  unfold gL
  cases h1 : M[k]? with
  | none => rw [h1] at hk; cases h2 : L[k]? with
    | none => rfl
    | some t => rw [h2] at hk; cases hk
  | some u => rw [h1] at hk; cases h2 : L[k]? with
    | none => rw [h2] at hk; cases hk
    | some t =>
      rw [h2] at hk
      simp only [Option.map_some, Option.some.injEq] at hk
      exact hk
end
theorem i64_and3 (n : Int) : bits .and .i64 n 3 = n % 4 := by
  have h127 : (BitVec.ofInt 64 3).toNat = 2 ^ 2 - 1 := by decide
  have key : (BitVec.ofInt 64 n &&& BitVec.ofInt 64 3).toNat = (n % ((2 ^ 64 : Nat) : Int)).toNat % 2 ^ 2 := by
    rw [BitVec.toNat_and, BitVec.toNat_ofInt, h127, Nat.and_two_pow_sub_one_eq_mod]
  show IntKind.i64.wrap ((BitVec.ofInt 64 n &&& BitVec.ofInt 64 3).toNat : Nat) = n % 4
  rw [key, IntKind.wrap_i64]
  omega
theorem par_inv {S : ByteArray} {rs : List Rl} (h : parS S = .inr rs) : ∃ m, tks S (sb S 0) [] = .inr m ∧ (∀ t ∈ m, TokOk t) ∧ m.length ≤ S.size ∧ graS (m ++ [(6, { data := #[] }, 0, S.size)]) = .inr rs := by
  unfold parS at h
  cases ht : tkS S with
  | inl c => rw [ht] at h; cases h
  | inr L =>
    rw [ht] at h
    obtain ⟨m, hm, rfl⟩ := tkS_inv ht
    have hgood := tkl_good _ _ _ _ _ hm (fun t ht => by simp at ht)
    refine ⟨m, hm, hgood.1, ?_, h⟩
    have h2 := hgood.2
    simp at h2
    omega
theorem rls_le (L : List Tok) : ∀ (f k : Nat) (acc rs : List Rl), rlsS L f k acc = .inr rs → acc.length ≤ 64 → rs.length ≤ 64
  | 0, _, _, _, h, _ => by rw [rlsS] at h; cases h
  | f + 1, k, acc, rs, h, ha => by
    rw [rlsS] at h
    split at h
    · simp only [Sum.inr.injEq] at h; subst h; exact ha
    · split at h
      · cases h
      · rename_i x k' hr
        have := ruS_ne hr
        exact rls_le L f k' (acc ++ [x]) rs h (by simp; omega)
theorem par_le {S : ByteArray} {rs : List Rl} (h : parS S = .inr rs) : rs.length ≤ 64 := by
  obtain ⟨m, _, _, _, hg⟩ := par_inv h
  unfold graS at hg
  cases hr : ruS (m ++ [(6, { data := #[] }, 0, S.size)]) 0 0 with
  | inl c => rw [hr] at hg; cases hg
  | inr q =>
    obtain ⟨x, k⟩ := q
    rw [hr] at hg
    exact rls_le _ _ _ _ _ hg (by simp)
/-- A row of numbers in memory. -/
def Bl (W : World) (so : Option Addr) (n : Nat) : Prop := ∀ i, i < n → ∃ b off z, so = some ⟨b, off, none⟩ ∧ b < W.heap.size ∧ W.cell? ⟨b, off + i, none⟩ = some (.int .i64 z)
theorem Bl.pick {W : World} {so : Option Addr} {n : Nat} (h : Bl W so n) : ∃ q : Nat → Nat, ∀ i, (i < n → ∃ b off z, so = some ⟨b, off, none⟩ ∧ b < W.heap.size ∧ W.cell? ⟨b, off + i, none⟩ = some (.int .i64 z) ∧ bits .and .i64 z 3 = (q i : Int) ∧ q i < 4) ∧ (¬ i < n → q i = 0) := by
  have hh : ∀ i, ∃ k : Nat, (i < n → ∃ b off z, so = some ⟨b, off, none⟩ ∧ b < W.heap.size ∧ W.cell? ⟨b, off + i, none⟩ = some (.int .i64 z) ∧ bits .and .i64 z 3 = (k : Int) ∧ k < 4) ∧ (¬ i < n → k = 0) := fun i => by
    by_cases hi : i < n
    · obtain ⟨b, off, z, h1, h2, h3⟩ := h i hi
      refine ⟨(z % 4).toNat, fun _ => ⟨b, off, z, h1, h2, h3, ?_, by omega⟩, fun hn => absurd hi hn⟩
      rw [i64_and3]
      omega
    · exact ⟨0, fun h => absurd h hi, fun _ => rfl⟩
  exact ⟨fun i => Classical.choose (hh i), fun i => Classical.choose_spec (hh i)⟩
theorem tkl_wrong (S : ByteArray) : ∀ (f k : Nat) (acc : List Tok) (c : Nat × Nat), tkl S f k acc = .inl c → (c.1 : Int) ≠ 0
  | 0, k, acc, c, h => by rw [tkl] at h; cases h
  | f + 1, k, acc, c, h => by
    rw [tkl] at h
    split at h
    · cases h
    · rename_i x hb
      split at h
      · rename_i b ht
        simp only [Sum.inl.injEq] at h
        rw [← h]
        exact wrg_code (tokAt_wrong hb ht).1
      · exact tkl_wrong S f _ _ c h
theorem tkS_wrong {S : ByteArray} {c : Nat × Nat} (h : tkS S = .inl c) : (c.1 : Int) ≠ 0 := by
  unfold tkS at h
  cases hm : tks S (sb S 0) [] with
  | inl d =>
    rw [hm] at h
    simp only [tkE, Sum.inl.injEq] at h
    subst h
    exact tkl_wrong S _ _ _ _ hm
  | inr m => rw [hm] at h; cases h
theorem pl_get {L : List Tok} (j : Nat) (h : j < L.length) : L[j].2.2.2 = pl L j := by
  unfold pl
  rw [List.getElem?_eq_getElem h]
set_option maxRecDepth 100000 in
theorem zgram_nil (w : World) : Calls Tryz.prog 8 #[.agg #[.slice none 0 0], .agg #[.slice none 0 0], .bool false] w fun e w' => e = .returned (.bool true) ∧ Below w.heap.size w w' := by
  go_enter Tryz.func8, Tryz.ntmps8
  go_wp2_with fail
  refine wp_loop_rounds 1 ?_
  rw [rounds_succ]
  go_wp2_with fail
  go_ret
  exact ⟨rfl, ((Below.refl _ _).alloc (Nat.le_refl _) _).alloc (by simp) _⟩
theorem yparse_as {S : ByteArray} {r : (Nat × Nat) ⊕ List Rl} (w : World) (h : ErrIs w) (hS : S.size ≤ 8192) (hp : parS S = r) : Calls Tryz.prog 7 #[.string S] w fun e w' => AnsD r w e w' := by
  obtain ⟨X, hX⟩ : ∃ X, X = parS S := ⟨_, rfl⟩
  have hY := hid (yparse_any S w h hS)
  rw [← hX] at hY
  have HX := hid (hX.trans hp)
  clear hX hp
  refine hY.out.mono fun e w' hA => ?_
  rw [HX.out] at hA
  exact hA
set_option maxRecDepth 100000 in
set_option maxHeartbeats 8000000 in
theorem yapart_any (S : ByteArray) (so : Option Addr) (n cap : Nat) (w : World) (h : ErrIs w) (hB : Bl w so n) (hnb : n ≤ maxLen) (hS : S.size ≤ 140737488351232) : Calls Tryz.prog 3 #[.string S, .slice so n cap] w fun e w' => e = .returned (.bool true) ∧ Below w.heap.size w w' := by
  have HSm := hid (ysmall_ok w h)
  have HE : Hid (ErrIs w) := h
  obtain ⟨q, hq⟩ := hB.pick
  have HQq := hid hq
  have hnI : (n : Int) ≤ 9223372036854775807 := by unfold maxLen at hnb; omega
  clear h hB hq
  rcases Nat.lt_or_ge 8192 S.size with hl | hl
  · have HT := hid (fun w => qtokens_long S w hl)
    clear hl hS hnb HQq
    go_enter Tryz.func3, Tryz.ntmps3
    go_wp2_with fail
    refine HSm.out.mono ?_
    rintro e w1 ⟨rfl, HB1⟩
    clear HSm
    go_wp2_with fail
    refine (HT.out _).mono ?_
    rintro e w2 ⟨rfl, hw2⟩
    rw [hw2]
    clear hw2
    go_wp2_with fail
    go_ret
    exact ⟨rfl, HB1.out⟩
  · obtain ⟨R, hR⟩ : ∃ R, R = tkS S := ⟨_, rfl⟩
    have HT : Hid (∀ w : World, Calls Tryz.prog 6 #[.string S] w fun e w' => AnsQ R w e w') := fun w => by rw [hR]; exact qtokens_any S w hl
    cases R with
    | inl c =>
      have hc0 := tkS_wrong hR.symm
      have hc1 : ((c.1 : Int) == 0) = false := by simp; omega
      clear hR hl hS hnb HQq
      go_enter Tryz.func3, Tryz.ntmps3
      go_wp2_with fail
      refine HSm.out.mono ?_
      rintro e w1 ⟨rfl, HB1⟩
      clear HSm
      go_wp2_with fail
      refine (HT.out _).mono ?_
      rintro e w2 ⟨rfl, hb2⟩
      have HB2 : Hid (Below w.heap.size w w2) := HB1.out.trans (hb2.mono HB1.out.size)
      clear hb2 HT
      obtain ⟨c1, c2⟩ := c
      go_wp2_with fail
      go_ret
      exact ⟨rfl, HB2.out⟩
    | inr L =>
      have hgood := tkS_good hR.symm hl
      obtain ⟨m, hCh⟩ := tkS_ch hR.symm
      obtain ⟨k, hk⟩ : ∃ k, k = m.length := ⟨_, rfl⟩
      have HC : Hid (Ch S m L) := hCh
      have HK : Hid (k = m.length) := hk
      have HLl : Hid (L.length = k + 1) := by show _ = _; rw [hk]; exact hCh.len
      have hkS : k ≤ 9999 := by have h1 := hgood.1.len; have h2 := HLl.out; omega
      obtain ⟨M, hM, hMc⟩ := tkS_tq (q := q) hCh
      have HG : Hid (Rg (graS L) (graS M)) := gra_q (ly_of hMc hgood.1.len)
      have HP1 : Hid (parS S = graS L) := by show parE (tkS S) = _; rw [← hR]; rfl
      obtain ⟨X, hX⟩ : ∃ X, X = tq S L q k := ⟨_, rfl⟩
      have HX : Hid (X = tq S L q k) := hX
      have HP2 : Hid (parS X = graS M) := by show parE (tkS X) = _; rw [hX, hk, hM]; rfl
      have hXz : X.size ≤ 60000 := by
        have h1 := tq_le (q := q) hCh k (by omega)
        have h2 := hCh.last
        rw [← hk] at h2
        rw [hX]; omega
      have HL8 : Hid (S.size ≤ 8192) := hl
      clear hR hgood hCh hk hM hMc hX hS hnb
      go_enter Tryz.func3, Tryz.ntmps3
      go_wp2_with fail
      refine HSm.out.mono ?_
      rintro e w1 ⟨rfl, HB1⟩
      clear HSm
      go_wp2_with fail
      refine (HT.out w1).mono ?_
      rintro e w2 ⟨v2, rfl, HO2, hb2⟩
      have HB2 : Hid (Below w.heap.size w w2) := HB1.out.trans (hb2.out.mono HB1.out.size)
      obtain ⟨g, cp, rfl⟩ := own_shape HO2.out (by rw [HLl.out]; omega)
      rw [HLl.out] at HO2 ⊢
      have hgl : g < w2.heap.size := (HO2.out.lt g rfl).2
      clear hb2 HB1 HT
      go_wp2_with fail
      go_loopw [9, 10] (fun t a wr => ∃ j : Nat, t = .string (tq S L q j) ∧ a = .int .i64 (j : Int) ∧ j ≤ k ∧ Hid (Below w2.heap.size w2 wr)) (fun _ a _ => k - (intOf a).toNat)
      case atStart => exact ⟨0, rfl, rfl, Nat.zero_le _, hid (Below.refl _ _)⟩
      case round =>
        obtain ⟨j, rfl, rfl, hj, HBr⟩ := hrel
        by_cases hjk : j < k
        · have hjI : (j : Int) < (k : Int) := by omega
          have a0 : decide ((j : Int) < (k : Int)) = true := by simp; omega
          obtain ⟨s1, s2⟩ := HC.out.step j (by rw [← HK.out]; exact hjk)
          have HOr : Hid (wr.ownsRow w1.heap.size 32 7 (.slice (some ⟨g, 0, none⟩) (k + 1) cp) (k + 1) (tvs L)) := own_keep HO2.out HBr.out
          have e1 := (own_tok HOr.out j (by rw [HLl.out]; omega) HLl.out.symm).2.2.2.2.2.2
          obtain ⟨J, hJ⟩ : ∃ J, J = j + 1 := ⟨_, rfl⟩
          have e2 := (own_tok HOr.out J (by rw [HLl.out]; omega) HLl.out.symm).2.2.2.2.2.2
          rw [pl_get] at e1 e2
          rw [← hJ] at s1 s2
          have HTp : Hid (tq S L q J = tq S L q j ++ S.extract (pl L j) (pl L J) ++ sepT (q j)) := by show _ = _; rw [hJ]; rfl
          obtain ⟨A, hA⟩ : ∃ A, A = pl L j := ⟨_, rfl⟩
          obtain ⟨B, hB⟩ : ∃ B, B = pl L J := ⟨_, rfl⟩
          rw [← hA] at e1 HTp s1
          rw [← hB] at e2 HTp s1 s2
          have g1 : decide ((A : Int) < 0) = false := by simp
          have g2 : decide ((B : Int) ≤ (A : Int)) = false := by simp; omega
          have g3 : decide ((S.size : Int) < (B : Int)) = false := by simp; omega
          have hj1 : (j : Int) < (k : Int) + 1 := by omega
          have hJI : (j : Int) + 1 = (J : Int) := by omega
          have hJ1 : (J : Int) < (k : Int) + 1 := by omega
          have hJk : J ≤ k := by omega
          have hwJ : IntKind.i64.wrap (J : Int) = (J : Int) := by rw [IntKind.wrap_i64]; omega
          have HjJ : Hid (J = j + 1) := hJ
          have hAB : (A : Int) ≤ (B : Int) := by omega
          have hBS : (B : Int) ≤ (S.size : Int) := by omega
          have hTs : (tq S L q j).size ≤ 60000 := by
            have h1 := tq_le (q := q) HC.out j (by rw [← HK.out]; omega)
            rw [← hA] at h1
            omega
          obtain ⟨Tj, hTj⟩ : ∃ T, T = tq S L q j := ⟨_, rfl⟩
          rw [← hTj] at HTp hTs ⊢
          obtain ⟨V, hV⟩ : ∃ V, V = S.extract A B := ⟨_, rfl⟩
          have hV2 : S.extract A B = V := hV.symm
          have hVs : V.size ≤ 8192 := by rw [hV, ByteArray.size_extract]; omega
          have ad1 : ∀ w : World, (Op.stringOp .add Tj V).run Tryz.prog w = .ok (.string (Tj ++ V)) w := fun w => run_string_add_sum w Tj V (by omega)
          have ad2 : ∀ (x : ByteArray), x.size ≤ 5 → ∀ w : World, (Op.stringOp .add (Tj ++ V) x).run Tryz.prog w = .ok (.string (Tj ++ V ++ x)) w := fun x hx w => run_string_add_sum w (Tj ++ V) x (by rw [ByteArray.size_append]; omega)
          have ad20 := ad2 { data := #[10, 32] } (by decide)
          have ad21 := ad2 { data := #[10, 9] } (by decide)
          have ad22 := ad2 { data := #[10, 35, 120, 39, 10] } (by decide)
          have ad23 := ad2 { data := #[10, 10] } (by decide)
          rw [← hV] at HTp
          have hgr : g < wr.heap.size := by have := HBr.out.size; omega
          clear hA hB hTj hJ hV ad2
          by_cases hjn : j < n
          · obtain ⟨b, off, z, hso, hbl, hcz, hbits, h4⟩ := (HQq.out j).1 hjn
            have HBw : Hid (Below w.heap.size w wr) := HB2.out.trans (HBr.out.mono HB2.out.size)
            have cz : wr.cell? ⟨b, off + j, none⟩ = some (.int .i64 z) := (HBw.out.cell (p := ⟨b, off + j, none⟩) hbl).trans hcz
            subst hso
            have d1 : decide ((j : Int) < (n : Int)) = true := by simp; omega
            have d2 : (j : Int) < (n : Int) := by omega
            obtain ⟨K, hK⟩ : ∃ K, K = q j := ⟨_, rfl⟩
            rw [← hK] at hbits h4 HTp
            clear hK hcz
            have h5 : K = 0 ∨ K = 1 ∨ K = 2 ∨ K = 3 := by omega
            clear h4
            rcases h5 with rfl | rfl | rfl | rfl
            · skip
              go_wp2_with fail
              go_region
              all_goals (
                go_wp2_with fail
                go_roundw
                case rel => exact ⟨J, by rw [HTp.out]; rfl, rfl, hJk, hid (by repeat (first | exact HBr.out | refine Below.drew ?_ | refine Below.alloc ?_ (by have := HBr.out.size; simp <;> omega) _))⟩
                case measure => have := HjJ.out; simp [intOf]; omega)
            · skip
              go_wp2_with fail
              go_region
              all_goals (
                go_wp2_with fail
                go_roundw
                case rel => exact ⟨J, by rw [HTp.out]; rfl, rfl, hJk, hid (by repeat (first | exact HBr.out | refine Below.drew ?_ | refine Below.alloc ?_ (by have := HBr.out.size; simp <;> omega) _))⟩
                case measure => have := HjJ.out; simp [intOf]; omega)
            · skip
              go_wp2_with fail
              go_region
              all_goals (
                go_wp2_with fail
                go_roundw
                case rel => exact ⟨J, by rw [HTp.out]; rfl, rfl, hJk, hid (by repeat (first | exact HBr.out | refine Below.drew ?_ | refine Below.alloc ?_ (by have := HBr.out.size; simp <;> omega) _))⟩
                case measure => have := HjJ.out; simp [intOf]; omega)
            · skip
              go_wp2_with fail
              go_region
              all_goals (
                go_wp2_with fail
                go_roundw
                case rel => exact ⟨J, by rw [HTp.out]; rfl, rfl, hJk, hid (by repeat (first | exact HBr.out | refine Below.drew ?_ | refine Below.alloc ?_ (by have := HBr.out.size; simp <;> omega) _))⟩
                case measure => have := HjJ.out; simp [intOf]; omega)
          · have d1 : decide ((j : Int) < (n : Int)) = false := by simp; omega
            have hq0 := (HQq.out j).2 hjn
            rw [hq0] at HTp
            clear hq0
            · skip
              go_wp2_with fail
              go_region
              all_goals (
                go_wp2_with fail
                go_roundw
                case rel => exact ⟨J, by rw [HTp.out]; rfl, rfl, hJk, hid (by repeat (first | exact HBr.out | refine Below.drew ?_ | refine Below.alloc ?_ (by have := HBr.out.size; simp <;> omega) _))⟩
                case measure => have := HjJ.out; simp [intOf]; omega)
        · have a0 : decide ((j : Int) < (k : Int)) = false := by simp; omega
          have hXj : tq S L q j = X := by rw [HX.out, show j = k by omega]
          rw [hXj]
          have HBw : Hid (Below w.heap.size w wr) := HB2.out.trans (HBr.out.mono HB2.out.size)
          clear hXj HBr HO2 HB2 HQq hgl
          by_cases h8 : 8192 < X.size
          · have c8 : decide ((8192 : Int) < (X.size : Int)) = true := by simp; omega
            go_wp2_with fail
            go_ret
            exact ⟨rfl, HBw.out⟩
          · have c8 : decide ((8192 : Int) < (X.size : Int)) = false := by simp; omega
            have hX8 : X.size ≤ 8192 := by omega
            rcases HG.out with ⟨rs, rs', e1, e2, hrl⟩ | ⟨c, c', e1, e2, hc⟩
            · have HC1 := hid (yparse_as wr (HE.out.below HBw.out HE.out.lt) HL8.out (HP1.out.trans e1))
              have HC2 := hid (fun (W : World) (hW : ErrIs W) => yparse_as W hW hX8 (HP2.out.trans e2))
              have HRL := hid hrl
              have hlen := hrl.len
              have hle := par_le (HP1.out.trans e1)
              clear e1 e2 hrl HG HP1 HP2 HX HC HK HLl
              go_wp2_with fail
              refine HC1.out.mono ?_
              rintro e w3 ⟨g3, cap3, rfl, HR3, HB3⟩
              have HB4 : Hid (∀ o : Obj, Below w.heap.size w (w3.alloc o)) := fun o => (HBw.out.trans (HB3.out.mono HBw.out.size)).alloc (Nat.le_trans HBw.out.size HB3.out.size) o
              obtain ⟨n1, hn1⟩ : ∃ n1, n1 = rs.length := ⟨_, rfl⟩
              rw [← hn1] at HR3 hlen hle ⊢
              clear HC1 HB3 hn1
              go_wp2_with fail
              refine (HC2.out _ (HE.out.below (HB4.out _) HE.out.lt)).mono ?_
              rintro e w4 ⟨g4, cap4, rfl, HR4, HB5⟩
              rw [hlen] at HR4 ⊢
              have HB6 : Hid (Below w.heap.size w w4) := (HB4.out _).trans (HB5.out.mono (HB4.out _).size)
              have HK : Hid (w4.heap[w3.heap.size]? = some (.cells #[.slice (some ⟨g3, 0, none⟩) n1 cap3] 36)) := (HB5.out.block _ (by simp)).trans (new_block_at w3 _ rfl)
              obtain ⟨k0, _⟩ := one_cell HK.out
              have k1 := node_lt HK.out
              have HR5 : Hid (RoR wr.heap.size (.slice (some ⟨g3, 0, none⟩) n1 cap3) rs w4) := (HR3.out.below ((Below.refl _ w3).alloc (Nat.le_refl _) _)).below HB5.out
              have HZ : Hid (∀ W, Below w4.heap.size w4 W → Calls Tryz.prog 8 #[.agg #[.slice (some ⟨g3, 0, none⟩) n1 cap3], .agg #[.slice (some ⟨g4, 0, none⟩) n1 cap4], .bool false] W fun e w' => e = .returned (.bool true) ∧ Below W.heap.size W w') := fun W hW =>
                zgram_all (HR5.out.below hW) (HR4.out.below hW) (by omega) (fun j hj hj' => HRL.out.get j hj hj')
              clear HC2 HB5 HR3 HR4 HR5 HRL HK HB4
              go_wp2_with fail
              refine (HZ.out _ ?hb).mono ?_
              case hb => exact (Below.refl _ w4).alloc (Nat.le_refl _) _
              rintro e w5 ⟨rfl, hb5⟩
              have HB7 : Hid (Below w.heap.size w w5) := (HB6.out.alloc HB6.out.size _).trans (hb5.mono (HB6.out.alloc HB6.out.size _).size)
              clear hb5 HZ HB6
              go_wp2_with fail
              refine (code_nil _).mono ?_
              rintro e w6 ⟨rfl, hw6⟩
              rw [hw6]
              clear hw6
              go_wp2_with fail
              refine (code_nil _).mono ?_
              rintro e w6 ⟨rfl, hw6⟩
              rw [hw6]
              clear hw6
              go_wp2_with fail
              go_ret
              exact ⟨rfl, HB7.out⟩
            · have HC1 := hid (yparse_as wr (HE.out.below HBw.out HE.out.lt) HL8.out (HP1.out.trans e1))
              have HC2 := hid (fun (W : World) (hW : ErrIs W) => yparse_as W hW hX8 (HP2.out.trans e2))
              obtain ⟨a1, p1⟩ := c
              obtain ⟨a2, p2⟩ := c'
              have hc' : a2 = a1 := hc
              subst hc'
              clear e1 e2 hc HG HP1 HP2 HX HC HK HLl
              go_wp2_with fail
              refine HC1.out.mono ?_
              rintro e w3 ⟨f, rfl, HF3⟩
              have HB4 : Hid (∀ o : Obj, Below w.heap.size w (w3.alloc o)) := fun o => (HBw.out.trans (HF3.out.2.2.mono HBw.out.size)).alloc (Nat.le_trans HBw.out.size HF3.out.2.2.size) o
              have HG3 : Hid (Flt w3 f (a2, p1)) := HF3.out.2.1
              clear HC1 HF3
              unfold flv
              go_wp2_with fail
              refine (HC2.out _ (HE.out.below (HB4.out _) HE.out.lt)).mono ?_
              rintro e w4 ⟨f', rfl, HF4⟩
              have HB6 : Hid (Below w.heap.size w w4) := (HB4.out _).trans (HF4.out.2.2.mono (HB4.out _).size)
              have HK : Hid (w4.heap[w3.heap.size]? = some (.cells #[.slice none 0 0] 36)) := (HF4.out.2.2.block _ (by simp)).trans (new_block_at w3 _ rfl)
              obtain ⟨k0, _⟩ := one_cell HK.out
              have k1 := node_lt HK.out
              have HG4 : Hid (Flt w4 f (a2, p1)) := (HF4.out.2.2.block f (by have := HG3.out.lt; simp; omega)).trans ((Below.heap_alloc w3 _ f HG3.out.lt).trans HG3.out)
              have HG5 : Hid (Flt w4 f' (a2, p2)) := HF4.out.2.1
              clear HC2 HF4 HG3 HK HB4
              unfold flv
              go_wp2_with fail
              refine (zgram_nil _).mono ?_
              rintro e w5 ⟨rfl, hb5⟩
              have HB7 : Hid (Below w.heap.size w w5) := (HB6.out.alloc HB6.out.size _).trans (hb5.mono (HB6.out.alloc HB6.out.size _).size)
              have HG6 : Hid (Flt w5 f (a2, p1)) := (hb5.block f (by have := HG4.out.lt; simp; omega)).trans ((Below.heap_alloc w4 _ f HG4.out.lt).trans HG4.out)
              have HG7 : Hid (Flt w5 f' (a2, p2)) := (hb5.block f' (by have := HG5.out.lt; simp; omega)).trans ((Below.heap_alloc w4 _ f' HG5.out.lt).trans HG5.out)
              clear hb5 HB6 HG4 HG5
              go_wp2_with fail
              refine (code_fault f a2 p1 w5 (HE.out.below HB7.out HE.out.lt) HG6.out).mono ?_
              rintro e w6 ⟨rfl, hb6⟩
              have HB8 : Hid (Below w.heap.size w w6) := HB7.out.trans (hb6.mono HB7.out.size)
              have HG8 : Hid (Flt w6 f' (a2, p2)) := (hb6.block f' HG7.out.lt).trans HG7.out
              clear hb6 HB7 HG6 HG7
              go_wp2_with fail
              refine (code_fault f' a2 p2 w6 (HE.out.below HB8.out HE.out.lt) HG8.out).mono ?_
              rintro e w7 ⟨rfl, hb7⟩
              have HB9 : Hid (Below w.heap.size w w7) := HB8.out.trans (hb7.mono HB8.out.size)
              clear hb7 HB8 HG8
              go_wp2_with fail
              go_ret
              exact ⟨rfl, HB9.out⟩
open Go.ChangeShapes Go.WideShapes Go.ChangeAt Go.RowKit
theorem Tryz.laidOutW : laidOutB Tryz.prog = true := by kernel_rfl
theorem Tryz.cellsW : Tryz.prog.cellsOf 3 = 1 := by kernel_rfl
theorem ints_arg {H : Type} {enc : TypeId × Value → H} {W : World} {a : Option Addr} {len cap : Nat} {d : DataW H} {ps : List MemPlace}
    {fuel : Nat} (hf : DataW.trod enc Tryz.prog W 0 (fun _ => true) true fuel 22 (Value.slice a len cap).cells.toList = some (d, ps)) : Bl W a len ∧ len ≤ maxLen := by
  rcases open_ints Tryz.underlying22 Tryz.underlying3 Tryz.cellsW hf with ⟨hcs, _⟩ | ⟨x, l, c, zs, hcs, _, hl, hm, hz, _, hcell, hwz⟩
  · simp [Value.cells] at hcs
    obtain ⟨rfl, rfl, rfl⟩ := hcs
    exact ⟨fun i hi => absurd hi (by omega), by unfold maxLen; omega⟩
  · simp [Value.cells] at hcs
    obtain ⟨rfl, rfl, rfl⟩ := hcs
    have hz' : zs.length = cap := by simpa using hz
    refine ⟨fun i hi => ?_, by omega⟩
    obtain ⟨b, off, spot⟩ := x
    have hc := hcell i (by omega)
    have hc0 := hcell 0 (by omega)
    have hspot : spot = none := by simpa [Addr.add] using World.cell?_spot hc0
    subst hspot
    rw [Addr.add_lit] at hc
    refine ⟨b, off, _, rfl, ?_, hc⟩
    rcases Nat.lt_or_ge b W.heap.size with h1 | h1
    · exact h1
    · simp [World.cell?, Array.getElem?_eq_none h1] at hc
end Go.Proofs.YtkofhmmnlapnnaaGreatDoor
