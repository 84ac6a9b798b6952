/-
  Plain facts on classes as numbers below 2^256: bits, words, counts. Nothing of the program stands here.
  What class.Either answers. Conditions: none.
  What class.Not answers. Condition: the class is below 2^256.
  What class.span answers. Conditions: those that each theorem names.
  A class that lies in a block of memory: what it reads, and what a store of it does. Plain facts on worlds; conditions: those that each theorem names.
-/
import Derived.WalkKit
import Derived.Test.YtggmoneicdkamaaGreatDoorProg
import Derived.WalkLawsBesides
import Derived.Deep.QuietTactic
import Derived.BigQuiet
import Derived.BigRegion
namespace Go.Proofs.YtggmoneicdkamaaGreatDoor
set_option linter.unusedVariables false
/-! A class as a number: its words. -/
def wd (C i : Nat) : Nat := C / 2 ^ (64 * i) % 18446744073709551616
theorem wd_lt (C i : Nat) : wd C i < 18446744073709551616 := Nat.mod_lt _ (by decide)
theorem wd_bit (C i j : Nat) : (wd C i).testBit j = (decide (j < 64) && C.testBit (64 * i + j)) := by
  unfold wd
  rw [show (18446744073709551616 : Nat) = 2 ^ 64 from rfl, Nat.testBit_mod_two_pow, Nat.testBit_div_two_pow, Nat.add_comm j]
theorem wd_and (C D i : Nat) : wd (C &&& D) i = wd C i &&& wd D i := by
  apply Nat.eq_of_testBit_eq
  intro j
  rw [Nat.testBit_and, wd_bit, wd_bit, wd_bit, Nat.testBit_and]
  cases decide (j < 64) <;> simp
theorem wd_or (C D i : Nat) : wd (C ||| D) i = wd C i ||| wd D i := by
  apply Nat.eq_of_testBit_eq
  intro j
  rw [Nat.testBit_or, wd_bit, wd_bit, wd_bit, Nat.testBit_or]
  cases decide (j < 64) <;> simp
/-- All bytes. -/
def all256 : Nat := 2 ^ 256 - 1
def cnot (C : Nat) : Nat := all256 - C
theorem cnot_bit (C : Nat) (h : C < 2 ^ 256) (j : Nat) : (cnot C).testBit j = (decide (j < 256) && !C.testBit j) := by
  unfold cnot all256
  rw [Nat.sub_sub, Nat.add_comm 1 C, Nat.testBit_two_pow_sub_succ h]
theorem wd_not (C : Nat) (h : C < 2 ^ 256) (i : Nat) (hi : i < 4) : wd (cnot C) i = 18446744073709551615 - wd C i := by
  apply Nat.eq_of_testBit_eq
  intro j
  rw [wd_bit, cnot_bit C h, show 18446744073709551615 - wd C i = 2 ^ 64 - (wd C i + 1) by have := wd_lt C i; omega, Nat.testBit_two_pow_sub_succ (by have := wd_lt C i; omega), wd_bit]
  by_cases hj : j < 64
  · simp [hj, show 64 * i + j < 256 by omega]
  · simp [hj]
theorem class_ext (C D : Nat) (hC : C < 2 ^ 256) (hD : D < 2 ^ 256) (h0 : wd C 0 = wd D 0) (h1 : wd C 1 = wd D 1) (h2 : wd C 2 = wd D 2) (h3 : wd C 3 = wd D 3) : C = D := by
  apply Nat.eq_of_testBit_eq
  intro j
  by_cases hj : j < 256
  · have hw : wd C (j / 64) = wd D (j / 64) := by
      have : j / 64 = 0 ∨ j / 64 = 1 ∨ j / 64 = 2 ∨ j / 64 = 3 := by omega
      rcases this with e | e | e | e <;> rw [e] <;> assumption
    have a := wd_bit C (j / 64) (j % 64)
    have b := wd_bit D (j / 64) (j % 64)
    rw [hw] at a
    rw [a] at b
    have e : 64 * (j / 64) + j % 64 = j := by omega
    simpa [show j % 64 < 64 by omega, e] using b
  · rw [Nat.testBit_lt_two_pow (Nat.lt_of_lt_of_le hC (Nat.pow_le_pow_right (by decide) (by omega))), Nat.testBit_lt_two_pow (Nat.lt_of_lt_of_le hD (Nat.pow_le_pow_right (by decide) (by omega)))]
/-- The class of four words. -/
def cls (a b c d : Nat) : Nat := a + 18446744073709551616 * (b + 18446744073709551616 * (c + 18446744073709551616 * d))
theorem cls_lt (a b c d : Nat) (ha : a < 18446744073709551616) (hb : b < 18446744073709551616) (hc : c < 18446744073709551616) (hd : d < 18446744073709551616) : cls a b c d < 2 ^ 256 := by
  unfold cls
  rw [show (2 : Nat) ^ 256 = 18446744073709551616 * (18446744073709551616 * (18446744073709551616 * 18446744073709551616)) from by decide +kernel]
  omega
theorem cls_wd (a b c d : Nat) (ha : a < 18446744073709551616) (hb : b < 18446744073709551616) (hc : c < 18446744073709551616) (hd : d < 18446744073709551616) :
    wd (cls a b c d) 0 = a ∧ wd (cls a b c d) 1 = b ∧ wd (cls a b c d) 2 = c ∧ wd (cls a b c d) 3 = d := by
  have e1 : (2 : Nat) ^ (64 * 1) = 18446744073709551616 := by decide +kernel
  have e2 : (2 : Nat) ^ (64 * 2) = 18446744073709551616 * 18446744073709551616 := by decide +kernel
  have e3 : (2 : Nat) ^ (64 * 3) = 18446744073709551616 * 18446744073709551616 * 18446744073709551616 := by decide +kernel
  unfold wd cls
  rw [e1, e2, e3, ← Nat.div_div_eq_div_mul, ← Nat.div_div_eq_div_mul, ← Nat.div_div_eq_div_mul, Nat.mul_zero, Nat.pow_zero, Nat.div_one]
  refine ⟨by omega, by omega, by omega, by omega⟩
/-- The bytes from lo on, below lo + n. -/
def spn (lo n : Nat) : Nat := 2 ^ lo * (2 ^ n - 1)
theorem spn_bit (lo n j : Nat) : (spn lo n).testBit j = (decide (lo ≤ j) && decide (j < lo + n)) := by
  unfold spn
  rw [Nat.testBit_two_pow_mul, Nat.testBit_two_pow_sub_one]
  by_cases h : lo ≤ j
  · simp [h, show j - lo < n ↔ j < lo + n by omega]
  · simp [h]
theorem spn_lt (lo n : Nat) (h : lo + n ≤ 256) : spn lo n < 2 ^ 256 := by
  unfold spn
  have h1 : 2 ^ lo * 2 ^ n ≤ 2 ^ 256 := by rw [← Nat.pow_add]; exact Nat.pow_le_pow_right (by decide) h
  have h2 : 0 < 2 ^ lo := Nat.pow_pos (by decide)
  have h3 : 2 ^ lo * (2 ^ n - 1) < 2 ^ lo * 2 ^ n := Nat.mul_lt_mul_of_pos_left (by have : 0 < 2 ^ n := Nat.pow_pos (by decide); omega) h2
  omega
end Go.Proofs.YtggmoneicdkamaaGreatDoor
namespace Go.Proofs.YtggmoneicdkamaaGreatDoor
open Go.RowKit
set_option linter.unusedVariables false
/-- A class as a value. -/
@[reducible] def cv (C : Nat) : Value := .agg #[.int .u64 (wd C 0 : Nat), .int .u64 (wd C 1 : Nat), .int .u64 (wd C 2 : Nat), .int .u64 (wd C 3 : Nat)]
set_option maxRecDepth 100000 in
set_option maxHeartbeats 1000000 in
theorem either_any (C D : Nat) (w : World) :
    Calls Tryz.prog 149 #[cv C, cv D] w fun e w' => e = .returned (cv (C ||| D)) ∧ Below w.heap.size w w' := by
  have b0 : bits BinOp.or IntKind.u64 (wd C 0 : Nat) (wd D 0 : Nat) = (wd (C ||| D) 0 : Nat) := by rw [wd_or]; exact Go.bits_or_u64_nat _ _ (wd_lt _ _) (wd_lt _ _)
  have b1 : bits BinOp.or IntKind.u64 (wd C 1 : Nat) (wd D 1 : Nat) = (wd (C ||| D) 1 : Nat) := by rw [wd_or]; exact Go.bits_or_u64_nat _ _ (wd_lt _ _) (wd_lt _ _)
  have b2 : bits BinOp.or IntKind.u64 (wd C 2 : Nat) (wd D 2 : Nat) = (wd (C ||| D) 2 : Nat) := by rw [wd_or]; exact Go.bits_or_u64_nat _ _ (wd_lt _ _) (wd_lt _ _)
  have b3 : bits BinOp.or IntKind.u64 (wd C 3 : Nat) (wd D 3 : Nat) = (wd (C ||| D) 3 : Nat) := by rw [wd_or]; exact Go.bits_or_u64_nat _ _ (wd_lt _ _) (wd_lt _ _)
  unfold cv
  go_enter Tryz.func149, Tryz.ntmps149
  go_wp2
  refine wp_loop_rounds 5 ?_
  rw [rounds_succ]
  go_wp2
  go_region
  go_wp2
  rw [rounds_succ]
  go_wp2
  go_region
  go_wp2
  rw [rounds_succ]
  go_wp2
  go_region
  go_wp2
  rw [rounds_succ]
  go_wp2
  go_region
  go_wp2
  rw [rounds_succ]
  go_wp2
  refine bodyPost_ret (v := .agg #[.int .u64 (wd (C ||| D) 0 : Nat), .int .u64 (wd (C ||| D) 1 : Nat), .int .u64 (wd (C ||| D) 2 : Nat), .int .u64 (wd (C ||| D) 3 : Nat)]) (by simp [results, Tryz.results149, go_sem]) rfl ⟨rfl, ?_⟩
  exact ((((Below.refl _ _).alloc (Nat.le_refl _) _).alloc (by simp) _).alloc (by simp; omega) _).drew.drew.drew.drew
end Go.Proofs.YtggmoneicdkamaaGreatDoor
namespace Go.Proofs.YtggmoneicdkamaaGreatDoor
open Go.RowKit
set_option linter.unusedVariables false
theorem xor_max (x : Nat) (h : x < 18446744073709551616) : 18446744073709551615 ^^^ x = 18446744073709551615 - x := by
  apply Nat.eq_of_testBit_eq
  intro j
  rw [show 18446744073709551615 - x = 2 ^ 64 - (x + 1) by omega, Nat.testBit_two_pow_sub_succ (by omega), Nat.testBit_xor, show (18446744073709551615 : Nat) = 2 ^ 64 - 1 from rfl, Nat.testBit_two_pow_sub_one]
  by_cases hj : j < 64
  · simp [hj]
  · rw [Nat.testBit_lt_two_pow (Nat.lt_of_lt_of_le h (show 2 ^ 64 ≤ 2 ^ j from Nat.pow_le_pow_right (by decide) (by omega)))]
    simp [hj]
theorem not_word (C : Nat) (hC : C < 2 ^ 256) (i : Nat) (hi : i < 4) : bits BinOp.xor IntKind.u64 IntKind.u64.max (wd C i : Nat) = (wd (cnot C) i : Nat) := by
  rw [wd_not C hC i hi, ← xor_max _ (wd_lt C i)]
  exact Go.bits_xor_u64_nat 18446744073709551615 _ (by omega) (wd_lt C i)
set_option maxRecDepth 100000 in
set_option maxHeartbeats 1000000 in
theorem not_any (C : Nat) (hC : C < 2 ^ 256) (w : World) :
    Calls Tryz.prog 150 #[cv C] w fun e w' => e = .returned (cv (cnot C)) ∧ Below w.heap.size w w' := by
  have b0 : bits BinOp.xor IntKind.u64 IntKind.u64.max (wd C 0 : Nat) = (wd (cnot C) 0 : Nat) := not_word C hC 0 (by omega)
  have b1 : bits BinOp.xor IntKind.u64 IntKind.u64.max (wd C 1 : Nat) = (wd (cnot C) 1 : Nat) := not_word C hC 1 (by omega)
  have b2 : bits BinOp.xor IntKind.u64 IntKind.u64.max (wd C 2 : Nat) = (wd (cnot C) 2 : Nat) := not_word C hC 2 (by omega)
  have b3 : bits BinOp.xor IntKind.u64 IntKind.u64.max (wd C 3 : Nat) = (wd (cnot C) 3 : Nat) := not_word C hC 3 (by omega)
  unfold cv
  go_enter Tryz.func150, Tryz.ntmps150
  go_wp2
  refine wp_loop_rounds 5 ?_
  rw [rounds_succ]
  go_wp2
  rw [rounds_succ]
  go_wp2
  rw [rounds_succ]
  go_wp2
  rw [rounds_succ]
  go_wp2
  rw [rounds_succ]
  go_wp2
  refine bodyPost_ret (v := .agg #[.int .u64 (wd (cnot C) 0 : Nat), .int .u64 (wd (cnot C) 1 : Nat), .int .u64 (wd (cnot C) 2 : Nat), .int .u64 (wd (cnot C) 3 : Nat)]) (by simp [results, Tryz.results150, go_sem]) rfl ⟨rfl, ?_⟩
  exact (((Below.refl _ _).alloc (Nat.le_refl _) _).alloc (by simp) _)
end Go.Proofs.YtggmoneicdkamaaGreatDoor
namespace Go.Proofs.YtggmoneicdkamaaGreatDoor
open Go.RowKit
set_option linter.unusedVariables false
/-- The bytes from lo on, below b. -/
def seg (lo b : Nat) : Nat := spn lo (b - lo)
theorem seg_bit (lo b j : Nat) : (seg lo b).testBit j = (decide (lo ≤ j) && decide (j < b)) := by
  unfold seg
  rw [spn_bit]
  by_cases h1 : lo ≤ j
  · by_cases h2 : j < b
    · simp [h1, h2, show j < lo + (b - lo) by omega]
    · simp [h1, h2, show ¬ j < lo + (b - lo) by omega]
  · simp [h1]
theorem seg_zero (lo : Nat) : seg lo lo = 0 := by simp [seg, spn]
theorem seg_succ (lo b : Nat) (h : lo ≤ b) : seg lo (b + 1) = seg lo b ||| 2 ^ b := by
  apply Nat.eq_of_testBit_eq
  intro j
  rw [Nat.testBit_or, seg_bit, seg_bit, Nat.testBit_two_pow]
  by_cases h1 : lo ≤ j <;> by_cases h2 : j < b <;> by_cases h3 : b = j <;> simp [h1, h2, h3] <;> omega
theorem seg_lt (lo b : Nat) (h : b ≤ 256) : seg lo b < 2 ^ 256 := by
  by_cases h1 : lo ≤ b
  · exact spn_lt _ _ (by omega)
  · simp [seg, show b - lo = 0 by omega, spn]
/-- What one byte more does to the words. -/
theorem wd_put (C b i : Nat) (hb : b < 256) (hi : i < 4) : wd (C ||| 2 ^ b) i = if b / 64 = i then wd C i ||| 2 ^ (b % 64) else wd C i := by
  apply Nat.eq_of_testBit_eq
  intro j
  rw [wd_bit, Nat.testBit_or, Nat.testBit_two_pow]
  split
  · rename_i h
    rw [Nat.testBit_or, wd_bit, Nat.testBit_two_pow]
    by_cases hj : j < 64
    · have : (b = 64 * i + j) ↔ (b % 64 = j) := by omega
      simp [hj, this]
    · simp [hj]; omega
  · rename_i h
    rw [wd_bit]
    by_cases hj : j < 64
    · have : ¬ (b = 64 * i + j) := by omega
      simp [hj, this]
    · simp [hj]
theorem put_cells (C b k : Nat) (hb : b < 256) (hk : b / 64 = k) :
    (#[.int .u64 (wd C 0 : Nat), .int .u64 (wd C 1 : Nat), .int .u64 (wd C 2 : Nat), .int .u64 (wd C 3 : Nat)] : Array Value).setIfInBounds k (.int .u64 (bits BinOp.or IntKind.u64 (wd C k : Nat) (IntKind.u64.wrap (2 ^ (b % 64))))) =
    #[.int .u64 (wd (C ||| 2 ^ b) 0 : Nat), .int .u64 (wd (C ||| 2 ^ b) 1 : Nat), .int .u64 (wd (C ||| 2 ^ b) 2 : Nat), .int .u64 (wd (C ||| 2 ^ b) 3 : Nat)] := by
  have hp : 2 ^ (b % 64) < 2 ^ 64 := Nat.pow_lt_pow_right (by decide) (by omega)
  have hw : IntKind.u64.wrap (2 ^ (b % 64)) = ((2 ^ (b % 64) : Nat) : Int) := by
    rw [IntKind.wrap_u64]
    have : ((2 : Int) ^ (b % 64)) = ((2 ^ (b % 64) : Nat) : Int) := (Int.natCast_pow 2 (b % 64)).symm
    rw [this]
    exact Int.emod_eq_of_lt (Int.natCast_nonneg _) (Int.ofNat_lt.2 hp)
  have h := Go.bits_or_u64_nat (wd C k) (2 ^ (b % 64)) (wd_lt _ _) hp
  rw [hw, h, wd_put C b 0 hb (by omega), wd_put C b 1 hb (by omega), wd_put C b 2 hb (by omega), wd_put C b 3 hb (by omega)]
  subst hk
  have : b / 64 = 0 ∨ b / 64 = 1 ∨ b / 64 = 2 ∨ b / 64 = 3 := by omega
  rcases this with e | e | e | e <;> rw [e] <;> rfl
theorem put_world (W : World) (C b k q n : Nat) (hb : b < 256) (hk : b / 64 = k) (hn : n = W.heap.size) :
    ((W.alloc (.cells #[.int .u64 (wd C 0 : Nat), .int .u64 (wd C 1 : Nat), .int .u64 (wd C 2 : Nat), .int .u64 (wd C 3 : Nat)] 55)).drewN q).setCell ⟨n, k, none⟩ (.int .u64 (bits BinOp.or IntKind.u64 (wd C k : Nat) (IntKind.u64.wrap (2 ^ (b % 64))))) =
    (W.alloc (.cells #[.int .u64 (wd (C ||| 2 ^ b) 0 : Nat), .int .u64 (wd (C ||| 2 ^ b) 1 : Nat), .int .u64 (wd (C ||| 2 ^ b) 2 : Nat), .int .u64 (wd (C ||| 2 ^ b) 3 : Nat)] 55)).drewN q := by
  rw [← put_cells C b k hb hk]
  exact congrArg (World.drewN · q) (World.setCell_alloc_at _ _ _ _ _ hn)
set_option maxRecDepth 100000 in
set_option maxHeartbeats 1000000 in
theorem span_any (lo hi : Nat) (w : World) (h1 : lo ≤ hi) (h2 : hi < 256) :
    Calls Tryz.prog 167 #[.int .i64 (lo : Int), .int .i64 (hi : Int)] w fun e w' => e = .returned (cv (spn lo (hi + 1 - lo))) ∧ Below w.heap.size w w' := by
  go_enter Tryz.func167, Tryz.ntmps167
  go_wp2_with fail
  go_loopw [6] (fun i wr => ∃ b q : Nat, lo ≤ b ∧ b ≤ hi + 1 ∧ i = .int .i64 (b : Int) ∧ wr = ((w.alloc (.cells #[.int .u64 0, .int .u64 0, .int .u64 0, .int .u64 0] 55)).alloc (.cells #[.int .u64 (wd (seg lo b) 0 : Nat), .int .u64 (wd (seg lo b) 1 : Nat), .int .u64 (wd (seg lo b) 2 : Nat), .int .u64 (wd (seg lo b) 3 : Nat)] 55)).drewN q) (fun i _ => hi + 1 - (intOf i).toNat)
  case atStart => exact ⟨lo, 0, Nat.le_refl _, by omega, rfl, by rw [seg_zero]; rfl⟩
  case round =>
    obtain ⟨b, q, hb1, hb2, rfl, rfl⟩ := hrel
    by_cases hbh : b ≤ hi
    · have hd : b / 64 = 0 ∨ b / 64 = 1 ∨ b / 64 = 2 ∨ b / 64 = 3 := by omega
      rcases hd with hd | hd | hd | hd
      · have hdI : (b : Int) / 64 = 0 := by omega
        go_wp2_with fail
        go_region
        go_wp2_with fail
        exact ⟨⟨b + 1, q + 1, by omega, by omega, by push_cast; rfl, by rw [seg_succ lo b hb1]; exact put_world _ _ b 0 _ _ (by omega) hd (by simp)⟩, by simp [intOf]; omega⟩
      · have hdI : (b : Int) / 64 = 1 := by omega
        go_wp2_with fail
        go_region
        go_wp2_with fail
        exact ⟨⟨b + 1, q + 1, by omega, by omega, by push_cast; rfl, by rw [seg_succ lo b hb1]; exact put_world _ _ b 1 _ _ (by omega) hd (by simp)⟩, by simp [intOf]; omega⟩
      · have hdI : (b : Int) / 64 = 2 := by omega
        go_wp2_with fail
        go_region
        go_wp2_with fail
        exact ⟨⟨b + 1, q + 1, by omega, by omega, by push_cast; rfl, by rw [seg_succ lo b hb1]; exact put_world _ _ b 2 _ _ (by omega) hd (by simp)⟩, by simp [intOf]; omega⟩
      · have hdI : (b : Int) / 64 = 3 := by omega
        go_wp2_with fail
        go_region
        go_wp2_with fail
        exact ⟨⟨b + 1, q + 1, by omega, by omega, by push_cast; rfl, by rw [seg_succ lo b hb1]; exact put_world _ _ b 3 _ _ (by omega) hd (by simp)⟩, by simp [intOf]; omega⟩
    · have hbe : b = hi + 1 := by omega
      subst hbe
      have hdec : decide (((hi + 1 : Nat) : Int) ≤ (hi : Int)) = false := by simp; omega
      have sd : ∀ (w : World) (q : Nat) (a : Addr) (v : Value), (w.drewN q).setCell a v = (w.setCell a v).drewN q := fun _ _ _ _ => rfl
      go_wp2_with fail
      refine bodyPost_ret (v := .agg #[.int .u64 (wd (seg lo (hi + 1)) 0 : Nat), .int .u64 (wd (seg lo (hi + 1)) 1 : Nat), .int .u64 (wd (seg lo (hi + 1)) 2 : Nat), .int .u64 (wd (seg lo (hi + 1)) 3 : Nat)]) (by simp [results, Tryz.results167, go_sem]) rfl ⟨rfl, ?_⟩
      exact below_drewN (((Below.refl _ _).alloc (Nat.le_refl _) _).alloc (by simp) _) _
end Go.Proofs.YtggmoneicdkamaaGreatDoor
namespace Go.Proofs.YtggmoneicdkamaaGreatDoor
open Go.RowKit
set_option linter.unusedVariables false
/-- Block g holds the class C. -/
def Blk (w : World) (g C : Nat) : Prop := w.heap[g]? = some (.cells #[.int .u64 (wd C 0 : Nat), .int .u64 (wd C 1 : Nat), .int .u64 (wd C 2 : Nat), .int .u64 (wd C 3 : Nat)] 55)
/-- The four stores. -/
def st4 (w : World) (g D : Nat) : World := (((w.setCell ⟨g, 0, none⟩ (.int .u64 (wd D 0 : Nat))).setCell ⟨g, 1, none⟩ (.int .u64 (wd D 1 : Nat))).setCell ⟨g, 2, none⟩ (.int .u64 (wd D 2 : Nat))).setCell ⟨g, 3, none⟩ (.int .u64 (wd D 3 : Nat))
theorem Blk.cells {w : World} {g C : Nat} (h : Blk w g C) : w.cell? ⟨g, 0, none⟩ = some (.int .u64 (wd C 0 : Nat)) ∧ w.cell? ⟨g, 1, none⟩ = some (.int .u64 (wd C 1 : Nat)) ∧ w.cell? ⟨g, 2, none⟩ = some (.int .u64 (wd C 2 : Nat)) ∧ w.cell? ⟨g, 3, none⟩ = some (.int .u64 (wd C 3 : Nat)) := by
  unfold Blk at h
  simp [World.cell?, h]
theorem Blk.thaw {w : World} {g C : Nat} (h : Blk w g C) : w.frozen? ⟨g, 0, none⟩ = false ∧ w.frozen? ⟨g, 1, none⟩ = false ∧ w.frozen? ⟨g, 2, none⟩ = false ∧ w.frozen? ⟨g, 3, none⟩ = false := by
  unfold Blk at h
  simp [World.frozen?, h]
theorem Blk.lt {w : World} {g C : Nat} (h : Blk w g C) : g < w.heap.size := by
  unfold Blk at h
  rcases Nat.lt_or_ge g w.heap.size with h2 | h2
  · exact h2
  · rw [Array.getElem?_eq_none h2] at h; cases h
theorem Blk.below {w w' : World} {g C B : Nat} (h : Blk w g C) (hb : Below B w w') (hg : g < B) : Blk w' g C := (hb.block g hg).trans h
theorem Blk.alloc {w : World} {g C : Nat} (h : Blk w g C) (o : Obj) : Blk (w.alloc o) g C := (Below.heap_alloc w o g h.lt).trans h
theorem Blk.new (w : World) (C : Nat) : Blk (w.alloc (.cells #[.int .u64 (wd C 0 : Nat), .int .u64 (wd C 1 : Nat), .int .u64 (wd C 2 : Nat), .int .u64 (wd C 3 : Nat)] 55)) w.heap.size C := by
  show (w.heap.push _)[w.heap.size]? = _
  simp
theorem wd_zero (i : Nat) : wd 0 i = 0 := by simp [wd]
theorem cv_zero : cv 0 = .agg #[.int .u64 0, .int .u64 0, .int .u64 0, .int .u64 0] := by simp [cv, wd_zero]
theorem Blk.new0 (w : World) : Blk (w.alloc (.cells #[.int .u64 0, .int .u64 0, .int .u64 0, .int .u64 0] 55)) w.heap.size 0 := by
  show (w.heap.push _)[w.heap.size]? = _
  simp [wd_zero]
theorem Blk.other {w : World} {g g' C D : Nat} (h : Blk w g C) (hne : g ≠ g') : Blk (st4 w g' D) g C := by
  unfold Blk st4 at *
  rw [Below.heap_setCell _ _ _ _ hne, Below.heap_setCell _ _ _ _ hne, Below.heap_setCell _ _ _ _ hne, Below.heap_setCell _ _ _ _ hne]
  exact h
theorem Blk.st4 {w : World} {g C : Nat} (h : Blk w g C) (D : Nat) : Blk (st4 w g D) g D := by
  unfold Blk at *
  unfold Proofs.YtggmoneicdkamaaGreatDoor.st4
  simp only [World.setCell, Array.getElem?_modify, if_true, Option.map_map]
  rw [h]
  simp
theorem st4_size (w : World) (g D : Nat) : (st4 w g D).heap.size = w.heap.size := by simp [st4, World.setCell]
theorem Below.st4 {B : Nat} {a w : World} (h : Below B a w) {g : Nat} (hg : B ≤ g) (D : Nat) : Below B a (st4 w g D) :=
  ((((h.setCell (p := ⟨g, 0, none⟩) hg _).setCell (p := ⟨g, 1, none⟩) hg _).setCell (p := ⟨g, 2, none⟩) hg _).setCell (p := ⟨g, 3, none⟩) hg _)
theorem below_drewN {B : Nat} {a w : World} (h : Below B a w) (q : Nat) : Below B a (w.drewN q) := ⟨h.os, h.tape, h.output, h.size, h.block⟩
end Go.Proofs.YtggmoneicdkamaaGreatDoor
