/-
  What the document's own answer for classes says of single bytes: Has and With. Conditions: those that each theorem names.
-/
import Derived.Test.YtbdhgfblkgkekaaDoorXK2
namespace Go.Proofs.YtbdhgfblkgkekaaDoor
open Go.RowKit
set_option linter.unusedVariables false
theorem and1 (n : Nat) (h : n < 18446744073709551616) : bits BinOp.and IntKind.u64 (n : Int) 1 = ((n % 2 : Nat) : Int) := by
  have := Go.bits_and_u64_nat n 1 h (by omega)
  rw [Nat.and_one_is_mod] at this
  exact this

theorem has_cell (C b : Nat) (hb : b < 256) : [Value.int IntKind.u64 (wd C 0 : Nat), .int .u64 (wd C 1 : Nat), .int .u64 (wd C 2 : Nat), .int .u64 (wd C 3 : Nat)][b / 64]? = some (.int .u64 (wd C (b / 64) : Nat)) := by
  have : b / 64 = 0 ∨ b / 64 = 1 ∨ b / 64 = 2 ∨ b / 64 = 3 := by omega
  rcases this with e | e | e | e <;> rw [e] <;> rfl
set_option maxRecDepth 100000 in
set_option maxHeartbeats 1000000 in
theorem rhas_any (C : Nat) (b : Nat) (w : World) (hx : b < 256) :
    Calls Tryd.prog 72 #[cv C, .int .i64 (b : Int)] w fun e w' => e = .returned (.bool (C.testBit b)) ∧ Below w.heap.size w w' := by
  have hc := has_cell C b hx
  unfold cv
  have hd : bits BinOp.and IntKind.u64 ((wd C (b / 64) : Int) / 2 ^ (b % 64)) 1 = ((wd C (b / 64) / 2 ^ (b % 64) % 2 : Nat) : Int) := by
    have := and1 (wd C (b / 64) / 2 ^ (b % 64)) (Nat.lt_of_le_of_lt (Nat.div_le_self _ _) (wd_lt _ _))
    rw [← this]
    congr 1
  have hT : ((((wd C (b / 64) / 2 ^ (b % 64) % 2 : Nat) : Int)) == 1) = C.testBit b := by
    have e1 := wd_bit C (b / 64) (b % 64)
    rw [show 64 * (b / 64) + b % 64 = b by omega, Nat.testBit_eq_decide_div_mod_eq] at e1
    simp only [show b % 64 < 64 by omega, decide_true, Bool.true_and] at e1
    rw [← e1]
    rcases Nat.mod_two_eq_zero_or_one (wd C (b / 64) / 2 ^ (b % 64)) with h | h <;> rw [h] <;> rfl
  go_enter Tryd.func72, Tryd.ntmps72
  go_wp2
  go_ret
  exact ⟨by rw [← hT]; rfl, (Below.refl _ _).alloc (Nat.le_refl _) _⟩
theorem rhas_val (C b : Nat) (v : Bool) (w : World) (h : C.testBit b = v) (hx : b < 256) :
    Calls Tryd.prog 72 #[cv C, .int .i64 (b : Int)] w fun e w' => e = .returned (.bool v) ∧ Below w.heap.size w w' := h ▸ rhas_any C b w hx
set_option maxRecDepth 100000 in
set_option maxHeartbeats 2000000 in
theorem rwith_any (C : Nat) (b : Nat) (w : World) (hx : b < 256) :
    Calls Tryd.prog 56 #[cv C, .int .i64 (b : Int)] w fun e w' => e = .returned (cv (C ||| 2 ^ b)) ∧ Below w.heap.size w w' := by
  unfold cv
  have hd : b / 64 = 0 ∨ b / 64 = 1 ∨ b / 64 = 2 ∨ b / 64 = 3 := by omega
  have hp := put_cells C b
  have pw : ∀ k, b / 64 = k → bits BinOp.or IntKind.u64 (wd C k : Nat) (IntKind.u64.wrap (2 ^ (b % 64))) = (wd (C ||| 2 ^ b) k : Nat) := by
    intro k hk
    subst hk
    have h := put_word C b hx
    have hpp : 2 ^ (b % 64) < 2 ^ 64 := Nat.pow_lt_pow_right (by decide) (by omega)
    have hw : IntKind.u64.wrap (2 ^ (b % 64)) = 2 ^ (b % 64) := by
      rw [IntKind.wrap_u64]
      have : ((2 : Int) ^ (b % 64)) = ((2 ^ (b % 64) : Nat) : Int) := (Int.natCast_pow 2 (b % 64)).symm
      rw [this]
      exact Int.emod_eq_of_lt (Int.natCast_nonneg _) (Int.ofNat_lt.2 hpp)
    rw [hw]; exact h
  have ne : ∀ k, k < 4 → b / 64 ≠ k → wd (C ||| 2 ^ b) k = wd C k := fun k hk h => by rw [wd_put C b k hx hk, if_neg h]
  clear hp
  rcases hd with hd | hd | hd | hd
  · have hdI : (b : Int) / 64 = 0 := by omega
    have u := pw 0 hd
    have e1 := ne 1 (by omega) (by omega)
    have e2 := ne 2 (by omega) (by omega)
    have e3 := ne 3 (by omega) (by omega)
    clear pw ne
    go_enter Tryd.func56, Tryd.ntmps56
    go_wp2
    go_region
    go_wp2
    refine bodyPost_ret (v := .agg #[.int .u64 (wd (C ||| 2 ^ b) 0 : Nat), .int .u64 (wd (C ||| 2 ^ b) 1 : Nat), .int .u64 (wd (C ||| 2 ^ b) 2 : Nat), .int .u64 (wd (C ||| 2 ^ b) 3 : Nat)]) (by simp [results, Tryd.results56, go_sem, e1, e2, e3]) rfl ⟨rfl, ?_⟩
    exact (((Below.refl _ _).alloc (Nat.le_refl _) _).alloc (by simp) _).drew
  · have hdI : (b : Int) / 64 = 1 := by omega
    have u := pw 1 hd
    have e0 := ne 0 (by omega) (by omega)
    have e2 := ne 2 (by omega) (by omega)
    have e3 := ne 3 (by omega) (by omega)
    clear pw ne
    go_enter Tryd.func56, Tryd.ntmps56
    go_wp2
    go_region
    go_wp2
    refine bodyPost_ret (v := .agg #[.int .u64 (wd (C ||| 2 ^ b) 0 : Nat), .int .u64 (wd (C ||| 2 ^ b) 1 : Nat), .int .u64 (wd (C ||| 2 ^ b) 2 : Nat), .int .u64 (wd (C ||| 2 ^ b) 3 : Nat)]) (by simp [results, Tryd.results56, go_sem, e0, e2, e3]) rfl ⟨rfl, ?_⟩
    exact (((Below.refl _ _).alloc (Nat.le_refl _) _).alloc (by simp) _).drew
  · have hdI : (b : Int) / 64 = 2 := by omega
    have u := pw 2 hd
    have e0 := ne 0 (by omega) (by omega)
    have e1 := ne 1 (by omega) (by omega)
    have e3 := ne 3 (by omega) (by omega)
    clear pw ne
    go_enter Tryd.func56, Tryd.ntmps56
    go_wp2
    go_region
    go_wp2
    refine bodyPost_ret (v := .agg #[.int .u64 (wd (C ||| 2 ^ b) 0 : Nat), .int .u64 (wd (C ||| 2 ^ b) 1 : Nat), .int .u64 (wd (C ||| 2 ^ b) 2 : Nat), .int .u64 (wd (C ||| 2 ^ b) 3 : Nat)]) (by simp [results, Tryd.results56, go_sem, e0, e1, e3]) rfl ⟨rfl, ?_⟩
    exact (((Below.refl _ _).alloc (Nat.le_refl _) _).alloc (by simp) _).drew
  · have hdI : (b : Int) / 64 = 3 := by omega
    have u := pw 3 hd
    have e0 := ne 0 (by omega) (by omega)
    have e1 := ne 1 (by omega) (by omega)
    have e2 := ne 2 (by omega) (by omega)
    clear pw ne
    go_enter Tryd.func56, Tryd.ntmps56
    go_wp2
    go_region
    go_wp2
    refine bodyPost_ret (v := .agg #[.int .u64 (wd (C ||| 2 ^ b) 0 : Nat), .int .u64 (wd (C ||| 2 ^ b) 1 : Nat), .int .u64 (wd (C ||| 2 ^ b) 2 : Nat), .int .u64 (wd (C ||| 2 ^ b) 3 : Nat)]) (by simp [results, Tryd.results56, go_sem, e0, e1, e2]) rfl ⟨rfl, ?_⟩
    exact (((Below.refl _ _).alloc (Nat.le_refl _) _).alloc (by simp) _).drew
end Go.Proofs.YtbdhgfblkgkekaaDoor
