/-
  muntinlaw04.SyntaxSigns answers true, whatever its arguments. Conditions: those that each theorem names.
-/
import Derived.Test.YtkofhmmnlapnnaaDoorY22
import Derived.Laws.BitsLemmas
import Derived.Laws.Bits128
namespace Go.Proofs.YtkofhmmnlapnnaaDoor
open Go.RowKit
set_option linter.unusedVariables false
theorem i64_and3 (n : Int) : bits .and .i64 n 3 = n % 4 := by
  have h127 : (BitVec.ofInt 64 3).toNat = 2 ^ 2 - 1 := by decide
  have key : (BitVec.ofInt 64 n &&& BitVec.ofInt 64 3).toNat = (n % ((2 ^ 64 : Nat) : Int)).toNat % 2 ^ 2 := by
    rw [BitVec.toNat_and, BitVec.toNat_ofInt, h127, Nat.and_two_pow_sub_one_eq_mod]
  show IntKind.i64.wrap ((BitVec.ofInt 64 n &&& BitVec.ofInt 64 3).toNat : Nat) = n % 4
  rw [key, IntKind.wrap_i64]
  omega
theorem ysigns_any (a b : Int) (w : World) (h : ErrIs w) : Calls Tryd.prog 6 #[.int .i64 a, .int .i64 b] w fun e w' => e = .returned (.bool true) ∧ Below w.heap.size w w' := by
  obtain ⟨A0, hA0⟩ : ∃ A0 : Nat, A0 = (a % 4).toNat := ⟨_, rfl⟩
  obtain ⟨B, hB⟩ : ∃ B : Nat, B = (b % 4).toNat := ⟨_, rfl⟩
  have hA4 : A0 < 4 := by omega
  have hB4 : B < 4 := by omega
  have ha : bits .and .i64 a 3 = (A0 : Int) := by rw [i64_and3]; omega
  have hb : bits .and .i64 b 3 = (B : Int) := by rw [i64_and3]; omega
  have hr : Int.tmod (A0 : Int) 3 = ((A0 % 3 : Nat) : Int) := by
    have : A0 = 0 ∨ A0 = 1 ∨ A0 = 2 ∨ A0 = 3 := by omega
    clear ha hA0
    rcases this with rfl | rfl | rfl | rfl <;> rfl
  refine signs_walk a b A0 (A0 % 3) B (sU (A0 % 3)) (sV B) w h ha hb hr (by omega) hB4 (sU_at _ (by omega)) (sV_at _ hB4) (sU_size _) (sV_size _) ({ data := #[114] }, sgX (A0 % 3) B, 0) (sm_sg _ _) (fun W hW => ?_)
  obtain ⟨X, hX⟩ : ∃ X, X = parS (sgTx (A0 % 3) B) := ⟨_, rfl⟩
  have hY := hid (yparse_any (sgTx (A0 % 3) B) W (h.below hW h.lt) (sgTx_size _ _))
  rw [← hX] at hY
  have HX := hid (hX.trans (par_sg _ _ (by omega) hB4))
  clear hX
  refine hY.out.mono fun e w' hA => ?_
  rw [HX.out] at hA
  obtain ⟨g, cap, he, HR, HB⟩ := hA
  exact ⟨g, cap, he, hid ⟨hW.trans (HB.out.mono hW.size), HR.out.low hW.size, HR.out, HB.out⟩⟩
end Go.Proofs.YtkofhmmnlapnnaaDoor
