/-
  What some short sources are read as, reckoned. Nothing of the program stands here.
-/
import Derived.Test.YtkofhmmnlapnnaaGreatDoorY16
namespace Go.Proofs.YtkofhmmnlapnnaaGreatDoor
open Go.RowKit
set_option linter.unusedVariables false
/-- The small case. -/
@[reducible] def smT : ByteArray := { data := #[97, 32, 60, 45, 32, 39, 120, 39, 32, 98, 42, 32, 98, 32, 60, 45, 32, 91, 48, 45, 57, 93] }
theorem par_small : parS smT = .inr [({ data := #[97] }, .mk 6 { data := #[] } 0 [.mk 2 { data := #[120] } 0 [] 5, .mk 9 { data := #[] } 0 [.mk 5 { data := #[98] } 0 [] 9] 9] 5, 0), ({ data := #[98] }, .mk 3 { data := #[] } 287948901175001088 [] 17, 12)] := by kernel_rfl
def nst (n : Nat) : ByteArray := nb ([97, 32, 60, 45, 32] ++ (List.replicate n 40 ++ ([39, 120, 39] ++ List.replicate n 41)))
def Nd.kd : Nd → Nat
  | .mk k _ _ _ _ => k
def nstB (n : Nat) : Bool := match parS (nst n) with
  | .inr [x] => decide (n ≤ 24) && (x.2.1.kd == 2 && x.2.1.at' == 5 + n)
  | .inl c => decide (24 < n) && (c.1 == 2 && c.2 == 29)
  | _ => false
theorem nst_all : ∀ n, n < 32 → nstB n = true := by decide +kernel
end Go.Proofs.YtkofhmmnlapnnaaGreatDoor
