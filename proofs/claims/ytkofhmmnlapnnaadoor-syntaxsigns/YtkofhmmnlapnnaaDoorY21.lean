/-
  What the sources of muntinlaw04.SyntaxSigns are read as, reckoned. Nothing of the program stands here.
-/
import Derived.Test.YtkofhmmnlapnnaaDoorY20
namespace Go.Proofs.YtkofhmmnlapnnaaDoor
open Go.RowKit
set_option linter.unusedVariables false
/-- The tree that the statement makes. -/
def sgN (A B : Nat) : Nd :=
  let n := Nd.mk 5 { data := #[98] } 0 [] 0
  let n := if B = 0 then n else Nd.mk (7 + B) { data := #[] } 0 [n] 0
  if A = 0 then n else Nd.mk (10 + A) { data := #[] } 0 [n] 0
/-- The tree that is read. -/
def sgX (A B : Nat) : Nd :=
  let p := if A = 0 then 5 else 6
  let n := Nd.mk 5 { data := #[98] } 0 [] p
  let n := if B = 0 then n else Nd.mk (7 + B) { data := #[] } 0 [n] p
  if A = 0 then n else Nd.mk (10 + A) { data := #[] } 0 [n] 5
def sU (A : Nat) : ByteArray := if A = 1 then { data := #[38] } else if A = 2 then { data := #[33] } else { data := #[] }
def sV (B : Nat) : ByteArray := if B = 1 then { data := #[63] } else if B = 2 then { data := #[42] } else if B = 3 then { data := #[43] } else { data := #[] }
def sgTx (A B : Nat) : ByteArray := { data := #[114, 32, 60, 45, 32] } ++ sU A ++ { data := #[98] } ++ sV B
theorem par_sg : ∀ A B, A < 3 → B < 4 → parS (sgTx A B) = .inr [({ data := #[114] }, sgX A B, 0)]
  | 0, 0, _, _ => by kernel_rfl
  | 0, 1, _, _ => by kernel_rfl
  | 0, 2, _, _ => by kernel_rfl
  | 0, 3, _, _ => by kernel_rfl
  | 1, 0, _, _ => by kernel_rfl
  | 1, 1, _, _ => by kernel_rfl
  | 1, 2, _, _ => by kernel_rfl
  | 1, 3, _, _ => by kernel_rfl
  | 2, 0, _, _ => by kernel_rfl
  | 2, 1, _, _ => by kernel_rfl
  | 2, 2, _, _ => by kernel_rfl
  | 2, 3, _, _ => by kernel_rfl
  | A + 3, _, h, _ => absurd h (by omega)
  | _, B + 4, _, h => absurd h (by omega)
theorem sm_sg (A B : Nat) : Sm (sgX A B) (sgN A B) := by
  unfold sgX sgN
  by_cases hA : A = 0 <;> by_cases hB : B = 0 <;> simp [hA, hB, Sm, SmL]
theorem sU_at : ∀ A, A < 3 → (#[.string { data := #[] }, .string { data := #[38] }, .string { data := #[33] }] : Array Value)[A]? = some (.string (sU A))
  | 0, _ => rfl
  | 1, _ => rfl
  | 2, _ => rfl
  | A + 3, h => absurd h (by omega)
theorem sV_at : ∀ B, B < 4 → (#[.string { data := #[] }, .string { data := #[63] }, .string { data := #[42] }, .string { data := #[43] }] : Array Value)[B]? = some (.string (sV B))
  | 0, _ => rfl
  | 1, _ => rfl
  | 2, _ => rfl
  | 3, _ => rfl
  | B + 4, h => absurd h (by omega)
theorem sU_size (A : Nat) : (sU A).size ≤ 1 := by
  unfold sU
  split
  · decide
  · split
    · decide
    · decide
theorem sV_size (B : Nat) : (sV B).size ≤ 1 := by
  unfold sV
  split
  · decide
  · split
    · decide
    · split
      · decide
      · decide
theorem sgTx_size (A B : Nat) : (sgTx A B).size ≤ 8192 := by
  unfold sgTx
  rw [ByteArray.size_append, ByteArray.size_append, ByteArray.size_append]
  have h1 := sU_size A
  have h2 := sV_size B
  show 5 + _ + 1 + _ ≤ 8192
  omega
end Go.Proofs.YtkofhmmnlapnnaaDoor
