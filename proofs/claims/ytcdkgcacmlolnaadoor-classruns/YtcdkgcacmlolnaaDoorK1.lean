/-
  What math/bits.OnesCount64 and class.Has, Not, Both, Either answer: counts and bits of classes as numbers below 2^256. Conditions: those that each theorem names.
-/
import Derived.Test.YtcdkgcacmlolnaaDoorKPlain
import Derived.Test.YtcdkgcacmlolnaaDoorProg
import Derived.WalkKit
import Derived.WalkLawsBesides
import Derived.Deep.QuietTactic
import Derived.BigQuiet
import Derived.BigRegion
namespace Go.Proofs.YtcdkgcacmlolnaaDoor
open Go.RowKit
set_option linter.unusedVariables false
/-- A class as a value. -/
@[reducible] def cv (C : Nat) : Value := .agg #[.int .u64 (wd C 0 : Nat), .int .u64 (wd C 1 : Nat), .int .u64 (wd C 2 : Nat), .int .u64 (wd C 3 : Nat)]
theorem and1 (n : Nat) (h : n < 18446744073709551616) : bits BinOp.and IntKind.u64 (n : Int) 1 = ((n % 2 : Nat) : Int) := by
  have := Go.bits_and_u64_nat n 1 h (by omega)
  rw [Nat.and_one_is_mod] at this
  exact this

theorem and127 (v : Nat) (h : v < 9223372036854775808) : bits BinOp.and IntKind.i64 (v : Int) 127 = ((v % 128 : Nat) : Int) := by
  have h1 : (BitVec.ofInt 64 (v : Int)).toNat = v := by rw [BitVec.ofInt_natCast, BitVec.toNat_ofNat]; exact Nat.mod_eq_of_lt (by omega)
  have h2 : (BitVec.ofInt 64 (127 : Int)).toNat = 127 := by decide +kernel
  show IntKind.i64.wrap ((BitVec.ofInt 64 (v : Int) &&& BitVec.ofInt 64 (127 : Int)).toNat : Int) = _
  rw [BitVec.toNat_and, h1, h2, show (127 : Nat) = 2 ^ 7 - 1 from rfl, Nat.and_two_pow_sub_one_eq_mod, IntKind.wrap_i64]
  omega
set_option maxRecDepth 100000 in
set_option maxHeartbeats 1000000 in
theorem ones_any (x : Nat) (w : World) (hx : x < 18446744073709551616) :
    Calls Tryd.prog 31 #[.int .u64 (x : Int)] w fun e w' => e = .returned (.int .i64 (pc 64 x : Nat)) ∧ w' = w := by
  obtain ⟨y, hy⟩ : ∃ y, y = ((x / 2) &&& 6148914691236517205) + (x &&& 6148914691236517205) := ⟨_, rfl⟩
  obtain ⟨z, hz⟩ : ∃ z, z = ((y / 4) &&& 3689348814741910323) + (y &&& 3689348814741910323) := ⟨_, rfl⟩
  obtain ⟨s, hs⟩ : ∃ s, s = (z / 16 + z) &&& 1085102592571150095 := ⟨_, rfl⟩
  obtain ⟨t, ht⟩ : ∃ t, t = s + s / 256 := ⟨_, rfl⟩
  obtain ⟨u, hu⟩ : ∃ u, u = t + t / 65536 := ⟨_, rfl⟩
  obtain ⟨v, hv⟩ : ∃ v, v = u + u / 4294967296 := ⟨_, rfl⟩
  obtain ⟨lt, lu, lv, hpc⟩ := ones64 x y z s t u v hy hz hs ht hu hv
  obtain ⟨ly, lz, lzz⟩ := ones64_lt x y z hx hy hz
  have ls : s < 18446744073709551616 := by omega
  have k1 : IntKind.u64.wrap (bits BinOp.and IntKind.u64 ((x : Int) / 2) 6148914691236517205 + bits BinOp.and IntKind.u64 (x : Int) 6148914691236517205) = (y : Int) := by
    have a := Go.bits_and_u64_nat (x / 2) 6148914691236517205 (by omega) (by omega)
    have b := Go.bits_and_u64_nat x 6148914691236517205 (by omega) (by omega)
    rw [show (((x / 2 : Nat)) : Int) = (x : Int) / 2 by omega] at a
    rw [show bits BinOp.and IntKind.u64 ((x : Int) / 2) 6148914691236517205 = _ from a, show bits BinOp.and IntKind.u64 (x : Int) 6148914691236517205 = _ from b, IntKind.wrap_u64]
    omega
  have k2 : IntKind.u64.wrap (bits BinOp.and IntKind.u64 ((y : Int) / 4) 3689348814741910323 + bits BinOp.and IntKind.u64 (y : Int) 3689348814741910323) = (z : Int) := by
    have a := Go.bits_and_u64_nat (y / 4) 3689348814741910323 (by omega) (by omega)
    have b := Go.bits_and_u64_nat y 3689348814741910323 (by omega) (by omega)
    rw [show (((y / 4 : Nat)) : Int) = (y : Int) / 4 by omega] at a
    rw [show bits BinOp.and IntKind.u64 ((y : Int) / 4) 3689348814741910323 = _ from a, show bits BinOp.and IntKind.u64 (y : Int) 3689348814741910323 = _ from b, IntKind.wrap_u64]
    omega
  have k3 : bits BinOp.and IntKind.u64 (IntKind.u64.wrap ((z : Int) / 16 + (z : Int))) 1085102592571150095 = (s : Int) := by
    have a := Go.bits_and_u64_nat (z / 16 + z) 1085102592571150095 (by omega) (by omega)
    rw [show IntKind.u64.wrap ((z : Int) / 16 + (z : Int)) = ((z / 16 + z : Nat) : Int) by rw [IntKind.wrap_u64]; omega, show bits BinOp.and IntKind.u64 (((z / 16 + z : Nat)) : Int) 1085102592571150095 = _ from a, hs]
  have k4 : IntKind.u64.wrap ((s : Int) + (s : Int) / 256) = (t : Int) := by rw [IntKind.wrap_u64]; omega
  have k5 : IntKind.u64.wrap ((t : Int) + (t : Int) / 65536) = (u : Int) := by rw [IntKind.wrap_u64]; omega
  have k6 : IntKind.u64.wrap ((u : Int) + (u : Int) / 4294967296) = (v : Int) := by rw [IntKind.wrap_u64]; omega
  have k7 : wrap64 (v : Int) = (v : Int) := Go.IntWalk.wrap64_in _ (by omega)
  have k8 : bits BinOp.and IntKind.i64 (v : Int) 127 = (pc 64 x : Int) := by rw [← hpc]; exact and127 v lv
  clear hy hz hs ht hu hv lt lu lv ly lz lzz ls hx
  go_enter Tryd.func31, Tryd.ntmps31
  go_wp2
  go_ret
  exact ⟨rfl, rfl⟩

theorem has_cell (C b : Nat) (hb : b < 256) : [Value.int IntKind.u64 (wd C 0 : Nat), .int .u64 (wd C 1 : Nat), .int .u64 (wd C 2 : Nat), .int .u64 (wd C 3 : Nat)][b / 64]? = some (.int .u64 (wd C (b / 64) : Nat)) := by
  have : b / 64 = 0 ∨ b / 64 = 1 ∨ b / 64 = 2 ∨ b / 64 = 3 := by omega
  rcases this with e | e | e | e <;> rw [e] <;> rfl
set_option maxRecDepth 100000 in
set_option maxHeartbeats 1000000 in
theorem has_any (C : Nat) (b : Nat) (w : World) (hx : b < 256) :
    Calls Tryd.prog 12 #[cv C, .int .u8 (b : Int)] w fun e w' => e = .returned (.bool (C.testBit b)) ∧ Below w.heap.size w w' := by
  have hc := has_cell C b hx
  unfold cv
  have hd : bits BinOp.and IntKind.u64 ((wd C (b / 64) : Int) / 2 ^ (b % 64)) 1 = ((wd C (b / 64) / 2 ^ (b % 64) % 2 : Nat) : Int) := by
    have := and1 (wd C (b / 64) / 2 ^ (b % 64)) (Nat.lt_of_le_of_lt (Nat.div_le_self _ _) (wd_lt _ _))
    rw [← this]
    congr 1
  have hT : ((((wd C (b / 64) / 2 ^ (b % 64) % 2 : Nat) : Int)) == 1) = C.testBit b := by
    have e1 := wd_bit C (b / 64) (b % 64)
    rw [show 64 * (b / 64) + b % 64 = b by omega, Nat.testBit_eq_decide_div_mod_eq] at e1
    simp only [show b % 64 < 64 by omega, decide_true, Bool.true_and] at e1
    rw [← e1]
    rcases Nat.mod_two_eq_zero_or_one (wd C (b / 64) / 2 ^ (b % 64)) with h | h <;> rw [h] <;> rfl
  go_enter Tryd.func12, Tryd.ntmps12
  go_wp2
  go_ret
  exact ⟨by rw [← hT]; rfl, (Below.refl _ _).alloc (Nat.le_refl _) _⟩
set_option maxRecDepth 100000 in
set_option maxHeartbeats 1000000 in
theorem both_any (C D : Nat) (w : World) :
    Calls Tryd.prog 14 #[cv C, cv D] w fun e w' => e = .returned (cv (C &&& D)) ∧ Below w.heap.size w w' := by
  have b0 : bits BinOp.and IntKind.u64 (wd C 0 : Nat) (wd D 0 : Nat) = (wd (C &&& D) 0 : Nat) := by rw [wd_and]; exact Go.bits_and_u64_nat _ _ (wd_lt _ _) (wd_lt _ _)
  have b1 : bits BinOp.and IntKind.u64 (wd C 1 : Nat) (wd D 1 : Nat) = (wd (C &&& D) 1 : Nat) := by rw [wd_and]; exact Go.bits_and_u64_nat _ _ (wd_lt _ _) (wd_lt _ _)
  have b2 : bits BinOp.and IntKind.u64 (wd C 2 : Nat) (wd D 2 : Nat) = (wd (C &&& D) 2 : Nat) := by rw [wd_and]; exact Go.bits_and_u64_nat _ _ (wd_lt _ _) (wd_lt _ _)
  have b3 : bits BinOp.and IntKind.u64 (wd C 3 : Nat) (wd D 3 : Nat) = (wd (C &&& D) 3 : Nat) := by rw [wd_and]; exact Go.bits_and_u64_nat _ _ (wd_lt _ _) (wd_lt _ _)
  unfold cv
  go_enter Tryd.func14, Tryd.ntmps14
  go_wp2
  refine wp_loop_rounds 5 ?_
  rw [rounds_succ]
  go_wp2
  go_region
  go_wp2
  rw [rounds_succ]
  go_wp2
  go_region
  go_wp2
  rw [rounds_succ]
  go_wp2
  go_region
  go_wp2
  rw [rounds_succ]
  go_wp2
  go_region
  go_wp2
  rw [rounds_succ]
  go_wp2
  refine bodyPost_ret (v := .agg #[.int .u64 (wd (C &&& D) 0 : Nat), .int .u64 (wd (C &&& D) 1 : Nat), .int .u64 (wd (C &&& D) 2 : Nat), .int .u64 (wd (C &&& D) 3 : Nat)]) (by simp [results, Tryd.results14, go_sem]) rfl ⟨rfl, ?_⟩
  exact ((((Below.refl _ _).alloc (Nat.le_refl _) _).alloc (by simp) _).alloc (by simp; omega) _).drew.drew.drew.drew
set_option maxRecDepth 100000 in
set_option maxHeartbeats 1000000 in
theorem either_any (C D : Nat) (w : World) :
    Calls Tryd.prog 16 #[cv C, cv D] w fun e w' => e = .returned (cv (C ||| D)) ∧ Below w.heap.size w w' := by
  have b0 : bits BinOp.or IntKind.u64 (wd C 0 : Nat) (wd D 0 : Nat) = (wd (C ||| D) 0 : Nat) := by rw [wd_or]; exact Go.bits_or_u64_nat _ _ (wd_lt _ _) (wd_lt _ _)
  have b1 : bits BinOp.or IntKind.u64 (wd C 1 : Nat) (wd D 1 : Nat) = (wd (C ||| D) 1 : Nat) := by rw [wd_or]; exact Go.bits_or_u64_nat _ _ (wd_lt _ _) (wd_lt _ _)
  have b2 : bits BinOp.or IntKind.u64 (wd C 2 : Nat) (wd D 2 : Nat) = (wd (C ||| D) 2 : Nat) := by rw [wd_or]; exact Go.bits_or_u64_nat _ _ (wd_lt _ _) (wd_lt _ _)
  have b3 : bits BinOp.or IntKind.u64 (wd C 3 : Nat) (wd D 3 : Nat) = (wd (C ||| D) 3 : Nat) := by rw [wd_or]; exact Go.bits_or_u64_nat _ _ (wd_lt _ _) (wd_lt _ _)
  unfold cv
  go_enter Tryd.func16, Tryd.ntmps16
  go_wp2
  refine wp_loop_rounds 5 ?_
  rw [rounds_succ]
  go_wp2
  go_region
  go_wp2
  rw [rounds_succ]
  go_wp2
  go_region
  go_wp2
  rw [rounds_succ]
  go_wp2
  go_region
  go_wp2
  rw [rounds_succ]
  go_wp2
  go_region
  go_wp2
  rw [rounds_succ]
  go_wp2
  refine bodyPost_ret (v := .agg #[.int .u64 (wd (C ||| D) 0 : Nat), .int .u64 (wd (C ||| D) 1 : Nat), .int .u64 (wd (C ||| D) 2 : Nat), .int .u64 (wd (C ||| D) 3 : Nat)]) (by simp [results, Tryd.results16, go_sem]) rfl ⟨rfl, ?_⟩
  exact ((((Below.refl _ _).alloc (Nat.le_refl _) _).alloc (by simp) _).alloc (by simp; omega) _).drew.drew.drew.drew
theorem has_val (C b : Nat) (v : Bool) (w : World) (h : C.testBit b = v) (hx : b < 256) :
    Calls Tryd.prog 12 #[cv C, .int .u8 (b : Int)] w fun e w' => e = .returned (.bool v) ∧ Below w.heap.size w w' := h ▸ has_any C b w hx
end Go.Proofs.YtcdkgcacmlolnaaDoor
