/-
  What class.Range answers, and that the small case comes out right. Conditions: those that each theorem names.
-/
import Derived.Test.YtcdkgcacmlolnaaDoorKMem
namespace Go.Proofs.YtcdkgcacmlolnaaDoor
open Go.RowKit
set_option linter.unusedVariables false
set_option maxRecDepth 100000 in
set_option maxHeartbeats 1000000 in
theorem range_ok (lo hi : Nat) (w : World) (h1 : lo ≤ hi) (h2 : hi < 256) :
    Calls Tryd.prog 9 #[.int .i64 (lo : Int), .int .i64 (hi : Int)] w fun e w' => e = .returned (.tuple #[cv (seg lo (hi + 1)), .nilIface]) ∧ Below w.heap.size w w' := by
  have a1 : decide ((lo : Int) < 0) = false := by simp
  have a2 : decide ((hi : Int) < (lo : Int)) = false := by simp; omega
  have a2' : decide (hi < lo) = false := by simp; omega
  have a3 : decide (256 ≤ (hi : Int)) = false := by simp; omega
  go_enter Tryd.func9, Tryd.ntmps9
  go_wp2_with fail
  refine (span_any lo hi _ h1 h2).mono ?_
  rintro e w1 ⟨rfl, hb1⟩
  have hk : Blk w1 w.heap.size 0 := (Blk.new0 w).below hb1 (by simp)
  obtain ⟨c0, c1, c2, c3⟩ := hk.cells
  obtain ⟨f0, f1, f2, f3⟩ := hk.thaw
  obtain ⟨r0, r1, r2, r3⟩ := (hk.st4 (seg lo (hi + 1))).cells
  have HB : Hid (Below w.heap.size w (st4 w1 w.heap.size (seg lo (hi + 1)))) := Below.st4 (((Below.refl _ _).alloc (Nat.le_refl _) _).trans (hb1.mono (by simp))) (Nat.le_refl _) _
  clear hb1 hk
  unfold st4 at r0 r1 r2 r3
  show _
  rw [show spn lo (hi + 1 - lo) = seg lo (hi + 1) from rfl]
  dsimp only [cv]
  go_wp2_with fail
  refine bodyPost_ret (v := .tuple #[cv (seg lo (hi + 1)), .nilIface]) (by simp [results, Tryd.results9, go_sem, r0, r1, r2, r3]) rfl ⟨rfl, HB.out⟩
set_option maxRecDepth 100000 in
set_option maxHeartbeats 1000000 in
theorem range_bad (lo hi : Int) (w : World) (h : lo < 0 ∨ hi < lo ∨ 256 ≤ hi) :
    Calls Tryd.prog 9 #[.int .i64 lo, .int .i64 hi] w fun e w' => e = .returned (.tuple #[cv 0, .iface 30 (.int .i64 1)]) ∧ Below w.heap.size w w' := by
  by_cases g1 : lo < 0
  · have a1 : decide (lo < 0) = true := by simp [g1]
    go_enter Tryd.func9, Tryd.ntmps9
    go_wp2_with fail
    refine bodyPost_ret (v := .tuple #[cv 0, .iface 30 (.int .i64 1)]) (by simp [results, Tryd.results9, go_sem, wd_zero]) rfl ⟨rfl, (Below.refl _ _).alloc (Nat.le_refl _) _⟩
  · have a1 : decide (lo < 0) = false := by simp [g1]
    by_cases g2 : hi < lo
    · have a2 : decide (hi < lo) = true := by simp [g2]
      go_enter Tryd.func9, Tryd.ntmps9
      go_wp2_with fail
      refine bodyPost_ret (v := .tuple #[cv 0, .iface 30 (.int .i64 1)]) (by simp [results, Tryd.results9, go_sem, wd_zero]) rfl ⟨rfl, (Below.refl _ _).alloc (Nat.le_refl _) _⟩
    · have a2 : decide (hi < lo) = false := by simp [g2]
      have a3 : decide (256 ≤ hi) = true := by simp; omega
      go_enter Tryd.func9, Tryd.ntmps9
      go_wp2_with fail
      refine bodyPost_ret (v := .tuple #[cv 0, .iface 30 (.int .i64 1)]) (by simp [results, Tryd.results9, go_sem, wd_zero]) rfl ⟨rfl, (Below.refl _ _).alloc (Nat.le_refl _) _⟩
end Go.Proofs.YtcdkgcacmlolnaaDoor
