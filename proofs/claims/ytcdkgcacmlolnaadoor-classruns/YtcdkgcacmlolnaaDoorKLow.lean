/-
  What math/bits.TrailingZeros64 and class.lowest answer: the least byte of a class. Conditions: the table of package bits is as its text lays it.
-/
import Derived.Test.YtcdkgcacmlolnaaDoorKEq
import Derived.Lib.TrailingZeros
namespace Go.Proofs.YtcdkgcacmlolnaaDoor
open Go.RowKit
set_option linter.unusedVariables false
/-- The table in its variable. -/
def TabIs (w : World) : Prop := ∀ j, j < 64 → w.cell? ⟨1, j, none⟩ = some (.int .u8 ((Lib.deBruijn64tab.getD j 0 : Nat) : Int))
theorem TabIs.lt {w : World} (h : TabIs w) : 1 < w.heap.size := World.block_lt_of_cell? w _ (h 0 (by omega))
theorem TabIs.below {w w' : World} {B : Nat} (h : TabIs w) (hb : Below B w w') (hB : 1 < B) : TabIs w' := fun j hj => (hb.cell (p := ⟨1, j, none⟩) hB).trans (h j hj)
theorem TabIs.alloc {w : World} (h : TabIs w) (o : Obj) : TabIs (w.alloc o) := h.below ((Below.refl _ _).alloc (Nat.le_refl _) o) h.lt

theorem tz_key (x a : Nat) (hx : x < 18446744073709551616) (hx0 : x ≠ 0) (hlow : x &&& (18446744073709551616 - x) = a) :
    IntKind.u64.wrap (bits BinOp.and IntKind.u64 (x : Int) (IntKind.u64.wrap (-(x : Int))) * 285870213051353865) / 288230376151711744 = ((a * 285870213051353865 % 18446744073709551616 / 288230376151711744 : Nat) : Int) := by
  have e1 : IntKind.u64.wrap (-(x : Int)) = ((18446744073709551616 - x : Nat) : Int) := by rw [IntKind.wrap_u64]; omega
  rw [e1, Go.bits_and_u64_nat x _ hx (by omega), hlow, IntKind.wrap_u64]
  omega
set_option maxRecDepth 100000 in
set_option maxHeartbeats 1000000 in
theorem tz_core (x k idx : Nat) (w : World) (hx0 : ((x : Int) == 0) = false)
    (key : IntKind.u64.wrap (bits BinOp.and IntKind.u64 (x : Int) (IntKind.u64.wrap (-(x : Int))) * 285870213051353865) / 288230376151711744 = (idx : Int))
    (hi : idx < 64) (hk : k < 64) (hcell : w.cell? ⟨1, idx, none⟩ = some (.int .u8 k)) :
    Calls Tryd.prog 43 #[.int .u64 x] w fun e w' => e = .returned (.int .i64 k) ∧ w' = w := by
  go_enter Tryd.func43, Tryd.ntmps43
  go_wp2_with (simp only [key])
  go_ret
  exact ⟨rfl, rfl⟩
/-- Of a word that is not 0: the place of its lowest bit. -/
theorem tz_any (x : Nat) (w : World) (hx : x < 18446744073709551616) (hx0 : x ≠ 0) (hT : TabIs w) :
    Calls Tryd.prog 43 #[.int .u64 x] w fun e w' => e = .returned (.int .i64 ((Lib.ctz 64 x : Nat) : Int)) ∧ w' = w := by
  obtain ⟨hlow, hk⟩ := Lib.lowest_bit 64 x hx0 hx
  obtain ⟨hi, htab⟩ := Lib.deBruijn64_at _ hk
  have hcell := hT _ hi
  rw [htab] at hcell
  exact tz_core x _ _ w (by simp; omega) (tz_key x _ hx hx0 hlow) hi hk hcell
theorem ctz_spec (x : Nat) (hx : x < 18446744073709551616) (hx0 : x ≠ 0) : Lib.ctz 64 x < 64 ∧ x.testBit (Lib.ctz 64 x) = true ∧ ∀ j, j < Lib.ctz 64 x → x.testBit j = false := by
  obtain ⟨m, hm, hk⟩ := Lib.ctzFrom_spec 64 x (by omega) hx
  have e : Lib.ctz 64 x = Lib.ctzFrom 64 x := by simp [Lib.ctz, hx0]
  rw [← e] at hm hk
  obtain ⟨k, hkd⟩ : ∃ k, k = Lib.ctz 64 x := ⟨_, rfl⟩
  rw [← hkd] at hm hk ⊢
  clear hkd e
  refine ⟨hk, ?_, fun j hj => ?_⟩
  · rw [hm, Nat.testBit_two_pow_mul]
    simp
  · rw [hm, Nat.testBit_two_pow_mul]
    simp; omega
/-- n is the least byte of C. -/
def Least (C n : Nat) : Prop := n < 256 ∧ C.testBit n = true ∧ ∀ j, j < n → C.testBit j = false
/-- n is the least byte of C, or 256 where there is none. -/
def LowOf (C n : Nat) : Prop := (C = 0 ∧ n = 256) ∨ Least C n
theorem least_word (C i : Nat) (hi : i < 4) (hz : ∀ q, q < i → wd C q = 0) (hn : wd C i ≠ 0) : Least C (64 * i + Lib.ctz 64 (wd C i)) := by
  obtain ⟨h1, h2, h3⟩ := ctz_spec (wd C i) (wd_lt C i) hn
  refine ⟨by omega, ?_, fun j hj => ?_⟩
  · rw [wd_bit] at h2
    simpa [h1] using h2
  · by_cases hq : j / 64 < i
    · have := wd_bit C (j / 64) (j % 64)
      rw [hz _ hq, Nat.zero_testBit, show 64 * (j / 64) + j % 64 = j by omega] at this
      simpa [show j % 64 < 64 by omega] using this.symm
    · have e : j = 64 * i + j % 64 := by omega
      have := h3 (j % 64) (by omega)
      rw [wd_bit, ← e] at this
      simpa [show j % 64 < 64 by omega] using this
set_option maxRecDepth 100000 in
set_option maxHeartbeats 2000000 in
theorem lowest_any (C : Nat) (w : World) (hC : C < 2 ^ 256) (hT : TabIs w) :
    Calls Tryd.prog 32 #[cv C] w fun e w' => (∃ n : Nat, e = .returned (.int .i64 (n : Int)) ∧ LowOf C n) ∧ Below w.heap.size w w' := by
  have HT : Hid (TabIs w) := hT
  clear hT
  have i0 : ∀ w : World, (Instr.index 24 (.agg #[.int .u64 (wd C 0 : Nat), .int .u64 (wd C 1 : Nat), .int .u64 (wd C 2 : Nat), .int .u64 (wd C 3 : Nat)]) (.int .i64 0)).run Tryd.prog w = .ok (.int .u64 (wd C 0 : Nat)) w := fun _ => by kernel_rfl
  have i1 : ∀ w : World, (Instr.index 24 (.agg #[.int .u64 (wd C 0 : Nat), .int .u64 (wd C 1 : Nat), .int .u64 (wd C 2 : Nat), .int .u64 (wd C 3 : Nat)]) (.int .i64 1)).run Tryd.prog w = .ok (.int .u64 (wd C 1 : Nat)) w := fun _ => by kernel_rfl
  have i2 : ∀ w : World, (Instr.index 24 (.agg #[.int .u64 (wd C 0 : Nat), .int .u64 (wd C 1 : Nat), .int .u64 (wd C 2 : Nat), .int .u64 (wd C 3 : Nat)]) (.int .i64 2)).run Tryd.prog w = .ok (.int .u64 (wd C 2 : Nat)) w := fun _ => by kernel_rfl
  have i3 : ∀ w : World, (Instr.index 24 (.agg #[.int .u64 (wd C 0 : Nat), .int .u64 (wd C 1 : Nat), .int .u64 (wd C 2 : Nat), .int .u64 (wd C 3 : Nat)]) (.int .i64 3)).run Tryd.prog w = .ok (.int .u64 (wd C 3 : Nat)) w := fun _ => by kernel_rfl
  by_cases z0 : wd C 0 = 0
  · have b0 : ((wd C 0 : Int) == 0) = true := by simp; omega
    by_cases z1 : wd C 1 = 0
    · have b1 : ((wd C 1 : Int) == 0) = true := by simp; omega
      by_cases z2 : wd C 2 = 0
      · have b2 : ((wd C 2 : Int) == 0) = true := by simp; omega
        by_cases z3 : wd C 3 = 0
        · have b3 : ((wd C 3 : Int) == 0) = true := by simp; omega
          have HZ : Hid (C = 0) := class_ext C 0 hC (by decide +kernel) (by rw [z0]; decide +kernel) (by rw [z1]; decide +kernel) (by rw [z2]; decide +kernel) (by rw [z3]; decide +kernel)
          clear z0 z1 z2 z3
          go_enter Tryd.func32, Tryd.ntmps32
          go_wp2_with fail
          refine wp_loop_rounds 5 ?_
          rw [rounds_succ]
          go_wp2_with fail
          rw [rounds_succ]
          go_wp2_with fail
          rw [rounds_succ]
          go_wp2_with fail
          rw [rounds_succ]
          go_wp2_with fail
          rw [rounds_succ]
          go_wp2_with fail
          go_ret
          exact ⟨⟨256, rfl, .inl ⟨HZ.out, rfl⟩⟩, (Below.refl _ _).alloc (Nat.le_refl _) _⟩
        · have b3 : ((wd C 3 : Int) == 0) = false := by simp; omega
          have HL : Hid (Least C (64 * 3 + Lib.ctz 64 (wd C 3))) := least_word C 3 (by omega) (fun q hq => by have : q = 0 ∨ q = 1 ∨ q = 2 := (by omega); rcases this with rfl | rfl | rfl <;> assumption) z3
          have hk := (ctz_spec (wd C 3) (wd_lt C 3) z3).1
          clear z0
          clear z1
          clear z2
          have Z : Hid (wd C 3 ≠ 0) := z3
          clear z3
          go_enter Tryd.func32, Tryd.ntmps32
          go_wp2_with fail
          refine wp_loop_rounds 4 ?_
          rw [rounds_succ]
          go_wp2_with fail
          rw [rounds_succ]
          go_wp2_with fail
          rw [rounds_succ]
          go_wp2_with fail
          rw [rounds_succ]
          go_wp2_with fail
          refine (tz_any _ _ (wd_lt C 3) Z.out (HT.out.alloc _)).mono ?_
          rintro e w1 ⟨rfl, rfl⟩
          go_wp2_with fail
          go_ret
          exact ⟨⟨_, congrArg (fun n => Ending.returned (Value.int .i64 n)) (by first | rfl | (push_cast; omega)), .inr HL.out⟩, (Below.refl _ _).alloc (Nat.le_refl _) _⟩
      · have b2 : ((wd C 2 : Int) == 0) = false := by simp; omega
        have HL : Hid (Least C (64 * 2 + Lib.ctz 64 (wd C 2))) := least_word C 2 (by omega) (fun q hq => by have : q = 0 ∨ q = 1 := (by omega); rcases this with rfl | rfl <;> assumption) z2
        have hk := (ctz_spec (wd C 2) (wd_lt C 2) z2).1
        clear z0
        clear z1
        have Z : Hid (wd C 2 ≠ 0) := z2
        clear z2
        go_enter Tryd.func32, Tryd.ntmps32
        go_wp2_with fail
        refine wp_loop_rounds 3 ?_
        rw [rounds_succ]
        go_wp2_with fail
        rw [rounds_succ]
        go_wp2_with fail
        rw [rounds_succ]
        go_wp2_with fail
        refine (tz_any _ _ (wd_lt C 2) Z.out (HT.out.alloc _)).mono ?_
        rintro e w1 ⟨rfl, rfl⟩
        go_wp2_with fail
        go_ret
        exact ⟨⟨_, congrArg (fun n => Ending.returned (Value.int .i64 n)) (by first | rfl | (push_cast; omega)), .inr HL.out⟩, (Below.refl _ _).alloc (Nat.le_refl _) _⟩
    · have b1 : ((wd C 1 : Int) == 0) = false := by simp; omega
      have HL : Hid (Least C (64 * 1 + Lib.ctz 64 (wd C 1))) := least_word C 1 (by omega) (fun q hq => by obtain rfl : q = 0 := (by omega); assumption) z1
      have hk := (ctz_spec (wd C 1) (wd_lt C 1) z1).1
      clear z0
      have Z : Hid (wd C 1 ≠ 0) := z1
      clear z1
      go_enter Tryd.func32, Tryd.ntmps32
      go_wp2_with fail
      refine wp_loop_rounds 2 ?_
      rw [rounds_succ]
      go_wp2_with fail
      rw [rounds_succ]
      go_wp2_with fail
      refine (tz_any _ _ (wd_lt C 1) Z.out (HT.out.alloc _)).mono ?_
      rintro e w1 ⟨rfl, rfl⟩
      go_wp2_with fail
      go_ret
      exact ⟨⟨_, congrArg (fun n => Ending.returned (Value.int .i64 n)) (by first | rfl | (push_cast; omega)), .inr HL.out⟩, (Below.refl _ _).alloc (Nat.le_refl _) _⟩
  · have b0 : ((wd C 0 : Int) == 0) = false := by simp; omega
    have HL : Hid (Least C (64 * 0 + Lib.ctz 64 (wd C 0))) := least_word C 0 (by omega) (fun q hq => by omega) z0
    have hk := (ctz_spec (wd C 0) (wd_lt C 0) z0).1
    have Z : Hid (wd C 0 ≠ 0) := z0
    clear z0
    go_enter Tryd.func32, Tryd.ntmps32
    go_wp2_with fail
    refine wp_loop_rounds 1 ?_
    rw [rounds_succ]
    go_wp2_with fail
    refine (tz_any _ _ (wd_lt C 0) Z.out (HT.out.alloc _)).mono ?_
    rintro e w1 ⟨rfl, rfl⟩
    go_wp2_with fail
    go_ret
    exact ⟨⟨_, congrArg (fun n => Ending.returned (Value.int .i64 n)) (by first | rfl | (push_cast; omega)), .inr HL.out⟩, (Below.refl _ _).alloc (Nat.le_refl _) _⟩
end Go.Proofs.YtcdkgcacmlolnaaDoor
