/-
  What class.span answers. Conditions: those that each theorem names.
-/
import Derived.Test.YtkofhmmnlapnnaaGreatDoorJNot
namespace Go.Proofs.YtkofhmmnlapnnaaGreatDoor
open Go.RowKit
set_option linter.unusedVariables false
/-- The bytes from lo on, below b. -/
def seg (lo b : Nat) : Nat := spn lo (b - lo)
theorem seg_bit (lo b j : Nat) : (seg lo b).testBit j = (decide (lo ≤ j) && decide (j < b)) := by
  unfold seg
  rw [spn_bit]
  by_cases h1 : lo ≤ j
  · by_cases h2 : j < b
    · simp [h1, h2, show j < lo + (b - lo) by omega]
    · simp [h1, h2, show ¬ j < lo + (b - lo) by omega]
  · simp [h1]
theorem seg_zero (lo : Nat) : seg lo lo = 0 := by simp [seg, spn]
theorem seg_succ (lo b : Nat) (h : lo ≤ b) : seg lo (b + 1) = seg lo b ||| 2 ^ b := by
  apply Nat.eq_of_testBit_eq
  intro j
  rw [Nat.testBit_or, seg_bit, seg_bit, Nat.testBit_two_pow]
  by_cases h1 : lo ≤ j <;> by_cases h2 : j < b <;> by_cases h3 : b = j <;> simp [h1, h2, h3] <;> omega
theorem seg_lt (lo b : Nat) (h : b ≤ 256) : seg lo b < 2 ^ 256 := by
  by_cases h1 : lo ≤ b
  · exact spn_lt _ _ (by omega)
  · simp [seg, show b - lo = 0 by omega, spn]
/-- What one byte more does to the words. -/
theorem wd_put (C b i : Nat) (hb : b < 256) (hi : i < 4) : wd (C ||| 2 ^ b) i = if b / 64 = i then wd C i ||| 2 ^ (b % 64) else wd C i := by
  apply Nat.eq_of_testBit_eq
  intro j
  rw [wd_bit, Nat.testBit_or, Nat.testBit_two_pow]
  split
  · rename_i h
    rw [Nat.testBit_or, wd_bit, Nat.testBit_two_pow]
    by_cases hj : j < 64
    · have : (b = 64 * i + j) ↔ (b % 64 = j) := by omega
      simp [hj, this]
    · simp [hj]; omega
  · rename_i h
    rw [wd_bit]
    by_cases hj : j < 64
    · have : ¬ (b = 64 * i + j) := by omega
      simp [hj, this]
    · simp [hj]
theorem put_word (C b : Nat) (hb : b < 256) : bits BinOp.or IntKind.u64 (wd C (b / 64) : Nat) (2 ^ (b % 64)) = (wd (C ||| 2 ^ b) (b / 64) : Nat) := by
  have h := Go.bits_or_u64_nat (wd C (b / 64)) (2 ^ (b % 64)) (wd_lt _ _) (show 2 ^ (b % 64) < 2 ^ 64 from Nat.pow_lt_pow_right (by decide) (by omega))
  rw [wd_put C b (b / 64) hb (by omega), if_pos rfl, ← h]
  congr 1
theorem put_cells (C b k : Nat) (hb : b < 256) (hk : b / 64 = k) :
    (#[.int .u64 (wd C 0 : Nat), .int .u64 (wd C 1 : Nat), .int .u64 (wd C 2 : Nat), .int .u64 (wd C 3 : Nat)] : Array Value).setIfInBounds k (.int .u64 (bits BinOp.or IntKind.u64 (wd C k : Nat) (IntKind.u64.wrap (2 ^ (b % 64))))) =
    #[.int .u64 (wd (C ||| 2 ^ b) 0 : Nat), .int .u64 (wd (C ||| 2 ^ b) 1 : Nat), .int .u64 (wd (C ||| 2 ^ b) 2 : Nat), .int .u64 (wd (C ||| 2 ^ b) 3 : Nat)] := by
  have hp : 2 ^ (b % 64) < 2 ^ 64 := Nat.pow_lt_pow_right (by decide) (by omega)
  have hw : IntKind.u64.wrap (2 ^ (b % 64)) = ((2 ^ (b % 64) : Nat) : Int) := by
    rw [IntKind.wrap_u64]
    have : ((2 : Int) ^ (b % 64)) = ((2 ^ (b % 64) : Nat) : Int) := (Int.natCast_pow 2 (b % 64)).symm
    rw [this]
    exact Int.emod_eq_of_lt (Int.natCast_nonneg _) (Int.ofNat_lt.2 hp)
  have h := Go.bits_or_u64_nat (wd C k) (2 ^ (b % 64)) (wd_lt _ _) hp
  rw [hw, h, wd_put C b 0 hb (by omega), wd_put C b 1 hb (by omega), wd_put C b 2 hb (by omega), wd_put C b 3 hb (by omega)]
  subst hk
  have : b / 64 = 0 ∨ b / 64 = 1 ∨ b / 64 = 2 ∨ b / 64 = 3 := by omega
  rcases this with e | e | e | e <;> rw [e] <;> rfl
theorem put_world (W : World) (C b k q n : Nat) (hb : b < 256) (hk : b / 64 = k) (hn : n = W.heap.size) :
    ((W.alloc (.cells #[.int .u64 (wd C 0 : Nat), .int .u64 (wd C 1 : Nat), .int .u64 (wd C 2 : Nat), .int .u64 (wd C 3 : Nat)] 30)).drewN q).setCell ⟨n, k, none⟩ (.int .u64 (bits BinOp.or IntKind.u64 (wd C k : Nat) (IntKind.u64.wrap (2 ^ (b % 64))))) =
    (W.alloc (.cells #[.int .u64 (wd (C ||| 2 ^ b) 0 : Nat), .int .u64 (wd (C ||| 2 ^ b) 1 : Nat), .int .u64 (wd (C ||| 2 ^ b) 2 : Nat), .int .u64 (wd (C ||| 2 ^ b) 3 : Nat)] 30)).drewN q := by
  rw [← put_cells C b k hb hk]
  exact congrArg (World.drewN · q) (World.setCell_alloc_at _ _ _ _ _ hn)
set_option maxRecDepth 100000 in
set_option maxHeartbeats 1000000 in
theorem span_any (lo hi : Nat) (w : World) (h1 : lo ≤ hi) (h2 : hi < 256) :
    Calls Tryz.prog 76 #[.int .i64 (lo : Int), .int .i64 (hi : Int)] w fun e w' => e = .returned (cv (spn lo (hi + 1 - lo))) ∧ Below w.heap.size w w' := by
  go_enter Tryz.func76, Tryz.ntmps76
  go_wp2_with fail
  go_loopw [6] (fun i wr => ∃ b q : Nat, lo ≤ b ∧ b ≤ hi + 1 ∧ i = .int .i64 (b : Int) ∧ wr = ((w.alloc (.cells #[.int .u64 0, .int .u64 0, .int .u64 0, .int .u64 0] 30)).alloc (.cells #[.int .u64 (wd (seg lo b) 0 : Nat), .int .u64 (wd (seg lo b) 1 : Nat), .int .u64 (wd (seg lo b) 2 : Nat), .int .u64 (wd (seg lo b) 3 : Nat)] 30)).drewN q) (fun i _ => hi + 1 - (intOf i).toNat)
  case atStart => exact ⟨lo, 0, Nat.le_refl _, by omega, rfl, by rw [seg_zero]; rfl⟩
  case round =>
    obtain ⟨b, q, hb1, hb2, rfl, rfl⟩ := hrel
    by_cases hbh : b ≤ hi
    · have hd : b / 64 = 0 ∨ b / 64 = 1 ∨ b / 64 = 2 ∨ b / 64 = 3 := by omega
      rcases hd with hd | hd | hd | hd
      · have hdI : (b : Int) / 64 = 0 := by omega
        go_wp2_with fail
        go_region
        go_wp2_with fail
        exact ⟨⟨b + 1, q + 1, by omega, by omega, by push_cast; rfl, by rw [seg_succ lo b hb1]; exact put_world _ _ b 0 _ _ (by omega) hd (by simp)⟩, by simp [intOf]; omega⟩
      · have hdI : (b : Int) / 64 = 1 := by omega
        go_wp2_with fail
        go_region
        go_wp2_with fail
        exact ⟨⟨b + 1, q + 1, by omega, by omega, by push_cast; rfl, by rw [seg_succ lo b hb1]; exact put_world _ _ b 1 _ _ (by omega) hd (by simp)⟩, by simp [intOf]; omega⟩
      · have hdI : (b : Int) / 64 = 2 := by omega
        go_wp2_with fail
        go_region
        go_wp2_with fail
        exact ⟨⟨b + 1, q + 1, by omega, by omega, by push_cast; rfl, by rw [seg_succ lo b hb1]; exact put_world _ _ b 2 _ _ (by omega) hd (by simp)⟩, by simp [intOf]; omega⟩
      · have hdI : (b : Int) / 64 = 3 := by omega
        go_wp2_with fail
        go_region
        go_wp2_with fail
        exact ⟨⟨b + 1, q + 1, by omega, by omega, by push_cast; rfl, by rw [seg_succ lo b hb1]; exact put_world _ _ b 3 _ _ (by omega) hd (by simp)⟩, by simp [intOf]; omega⟩
    · have hbe : b = hi + 1 := by omega
      subst hbe
      have hdec : decide (((hi + 1 : Nat) : Int) ≤ (hi : Int)) = false := by simp; omega
      have sd : ∀ (w : World) (q : Nat) (a : Addr) (v : Value), (w.drewN q).setCell a v = (w.setCell a v).drewN q := fun _ _ _ _ => rfl
      go_wp2_with fail
      refine bodyPost_ret (v := .agg #[.int .u64 (wd (seg lo (hi + 1)) 0 : Nat), .int .u64 (wd (seg lo (hi + 1)) 1 : Nat), .int .u64 (wd (seg lo (hi + 1)) 2 : Nat), .int .u64 (wd (seg lo (hi + 1)) 3 : Nat)]) (by simp [results, Tryz.results76, go_sem]) rfl ⟨rfl, ?_⟩
      exact below_drewN (((Below.refl _ _).alloc (Nat.le_refl _) _).alloc (by simp) _) _
end Go.Proofs.YtkofhmmnlapnnaaGreatDoor
