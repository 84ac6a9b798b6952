/-
  That the small case comes out right.
-/
import Derived.Test.YtcdkgcacmlolnaaDoorK3
namespace Go.Proofs.YtcdkgcacmlolnaaDoor
open Go.RowKit
set_option linter.unusedVariables false
set_option maxRecDepth 100000 in
set_option maxHeartbeats 1000000 in
theorem small_ok (w : World) : Calls Tryd.prog 8 #[] w fun e w' => e = .returned (.bool true) ∧ Below w.heap.size w w' := by
  have hb : (seg 97 (122 + 1)).testBit 98 = true := by decide +kernel
  have hp : pc 256 (seg 97 (122 + 1)) = 26 := by decide +kernel
  have hr := fun w => range_ok 97 122 w (by omega) (by omega)
  have hh := fun w => has_any (seg 97 (122 + 1)) 98 w (by omega)
  have hc := fun w => count_any (seg 97 (122 + 1)) w
  rw [hb] at hh
  rw [hp] at hc
  have HR : Hid (∀ w, _) := hr
  have HH : Hid (∀ w, _) := hh
  have HC : Hid (∀ w, _) := hc
  clear hr hh hc hb hp
  go_enter Tryd.func8, Tryd.ntmps8
  go_wp2_with fail
  refine (HR.out _).mono ?_
  rintro e w1 ⟨rfl, hb1⟩
  have HB : Hid (Below w.heap.size w w1) := hb1
  clear hb1
  generalize hS : seg 97 (122 + 1) = S at *
  dsimp only [cv]
  go_wp2_with fail
  refine (HH.out _).mono ?_
  rintro e w2 ⟨rfl, hb2⟩
  have HB2 : Hid (Below w.heap.size w w2) := (HB.out.alloc HB.out.size _).trans (hb2.mono (by have := HB.out.size; simp; omega))
  obtain ⟨c0, c1, c2, c3⟩ := ((Blk.new w1 S).below hb2 (by simp)).cells
  clear hb2
  go_wp2_with fail
  refine (HC.out _).mono ?_
  rintro e w3 ⟨rfl, hb3⟩
  have HB3 : Hid (Below w.heap.size w w3) := HB2.out.trans (hb3.mono HB2.out.size)
  clear hb3 c0 c1 c2 c3
  go_wp2_with fail
  go_ret
  exact ⟨rfl, HB3.out⟩
end Go.Proofs.YtcdkgcacmlolnaaDoor
