/-
  Two classes held against each other as wholes: equal just if they are one class. Conditions: both are below 2^256.
-/
import Derived.Test.YtcdkgcacmlolnaaDoorKKeep
import Derived.ChangeKeysEq
namespace Go.Proofs.YtcdkgcacmlolnaaDoor
open Go.RowKit
set_option linter.unusedVariables false
theorem Tryd.cellsOf22 : Tryd.prog.cellsOf 22 = 1 := by kernel_rfl
theorem Tryd.info22 : (Tryd.prog.info? 22).map (fun i => (i.zero, i.size, i.bytes)) = some (some (.int .u64 0), 1, 8) := by kernel_rfl
theorem eq_words (w : World) (a b c d a' b' c' d' : Int) :
    (Op.equalIn 10000 24 (.agg #[.int .u64 a, .int .u64 b, .int .u64 c, .int .u64 d]) (.agg #[.int .u64 a', .int .u64 b', .int .u64 c', .int .u64 d'])).run Tryd.prog w = .ok (a == a' && (b == b' && (c == c' && d == d'))) w := by
  obtain ⟨i, hi⟩ : ∃ i, Tryd.prog.info? 22 = some i := by
    cases h : Tryd.prog.info? 22 with
    | none => have := Tryd.info22; rw [h] at this; cases this
    | some i => exact ⟨i, rfl⟩
  have hu : Tryd.prog.underlying 24 = some (.array 4 22) := by kernel_rfl
  rw [run_equalIn_array w 9999 _ _ hu hi, Tryd.cellsOf22]
  have p : ∀ (x y z t : Value) (w : World), (part 22 #[x, y, z, t] 0).run Tryd.prog w = .ok x w := fun _ _ _ _ _ => by kernel_rfl
  have p1 : ∀ (x y z t : Value) (w : World), (part 22 #[x, y, z, t] 1).run Tryd.prog w = .ok y w := fun _ _ _ _ _ => by kernel_rfl
  have p2 : ∀ (x y z t : Value) (w : World), (part 22 #[x, y, z, t] 2).run Tryd.prog w = .ok z w := fun _ _ _ _ _ => by kernel_rfl
  have p3 : ∀ (x y z t : Value) (w : World), (part 22 #[x, y, z, t] 3).run Tryd.prog w = .ok t w := fun _ _ _ _ _ => by kernel_rfl
  have e : ∀ (x y : Int) (w : World), (Op.equalIn 9999 22 (.int .u64 x) (.int .u64 y)).run Tryd.prog w = .ok (x == y) w := fun x y w => run_equalIn_int w 9998 22 .u64 .u64 x y Tryd.underlying22
  rw [show List.range 4 = [0, 1, 2, 3] from rfl]
  simp only [Op.eqItems, Sem.run_bind, Nat.mul_one, p, e, Result.andThen_ok]
  cases h1 : a == a' <;> cases h2 : b == b' <;> cases h3 : c == c' <;> cases h4 : d == d' <;> simp [Result.andThen, p1, p2, p3, e, h2, h3, h4, -beq_iff_eq, -beq_eq_false_iff_ne]
theorem eq24 (C D : Nat) (hC : C < 2 ^ 256) (hD : D < 2 ^ 256) (w : World) :
    (Op.equalIn 10000 24 (.agg #[.int .u64 (wd C 0 : Nat), .int .u64 (wd C 1 : Nat), .int .u64 (wd C 2 : Nat), .int .u64 (wd C 3 : Nat)]) (.agg #[.int .u64 (wd D 0 : Nat), .int .u64 (wd D 1 : Nat), .int .u64 (wd D 2 : Nat), .int .u64 (wd D 3 : Nat)])).run Tryd.prog w = .ok (decide (C = D)) w := by
  rw [eq_words]
  congr 1
  by_cases h : C = D
  · subst h; simp
  · rw [decide_eq_false h]
    cases h0 : ((wd C 0 : Nat) : Int) == (wd D 0 : Nat) <;> cases h1 : ((wd C 1 : Nat) : Int) == (wd D 1 : Nat) <;> cases h2 : ((wd C 2 : Nat) : Int) == (wd D 2 : Nat) <;> cases h3 : ((wd C 3 : Nat) : Int) == (wd D 3 : Nat) <;> try rfl
    simp at h0 h1 h2 h3
    exact absurd (class_ext C D hC hD (by omega) (by omega) (by omega) (by omega)) h
theorem eq_self (C : Nat) (w : World) :
    (Op.equalIn 10000 24 (.agg #[.int .u64 (wd C 0 : Nat), .int .u64 (wd C 1 : Nat), .int .u64 (wd C 2 : Nat), .int .u64 (wd C 3 : Nat)]) (.agg #[.int .u64 (wd C 0 : Nat), .int .u64 (wd C 1 : Nat), .int .u64 (wd C 2 : Nat), .int .u64 (wd C 3 : Nat)])).run Tryd.prog w = .ok true w := by
  rw [eq_words]
  simp
end Go.Proofs.YtcdkgcacmlolnaaDoor
