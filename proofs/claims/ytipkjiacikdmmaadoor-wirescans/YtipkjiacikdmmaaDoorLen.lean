/-
  What math/bits.Len64 answers: for a number x from 0 to the greatest int, how many binary digits x has. Condition: x is within these bounds.
-/
import Derived.Test.YtipkjiacikdmmaaDoorPlain
import Derived.Test.YtipkjiacikdmmaaDoorProg
import Derived.WalkKit
import Derived.WalkLawsBesides
namespace Go.Proofs.YtipkjiacikdmmaaDoor
open Go.RowKit

def tabL : List UInt8 := (List.range 256).map fun i => UInt8.ofNat (if i = 0 then 0 else Nat.log2 i + 1)
theorem tab_ok : ∀ y, y < 256 → (tabL.getD y 0).toNat ≤ 8 ∧ y < 2 ^ (tabL.getD y 0).toNat ∧ ((tabL.getD y 0).toNat = 0 ∨ 2 ^ ((tabL.getD y 0).toNat - 1) ≤ y) := by decide +kernel

theorem len_plain (x y : Int) (c t : Nat) (hx : 0 ≤ x) (hxy : y = x / ((2 ^ c : Nat) : Int)) (h1 : c = 0 ∨ 1 ≤ y) (ht : y.toNat < 2 ^ t) (hl : t = 0 ∨ 2 ^ (t - 1) ≤ y.toNat) :
    x < ((2 ^ (c + t) : Nat) : Int) ∧ (c + t = 0 ∨ ((2 ^ (c + t - 1) : Nat) : Int) ≤ x) := by
  obtain ⟨n, rfl⟩ := Int.eq_ofNat_of_zero_le hx
  have hy : y.toNat = n / 2 ^ c := by
    rw [hxy]
    have : ((n : Int) / ((2 ^ c : Nat) : Int)) = ((n / 2 ^ c : Nat) : Int) := by simp
    rw [this, Int.toNat_natCast]
  rw [hy] at ht hl
  have hp : 0 < 2 ^ c := Nat.pow_pos (by omega)
  constructor
  · have := (Nat.div_lt_iff_lt_mul hp).1 ht
    rw [Nat.mul_comm, ← Nat.pow_add] at this
    exact_mod_cast this
  · rcases Nat.eq_zero_or_pos t with rfl | h
    · rcases h1 with rfl | h1
      · exact .inl rfl
      · exfalso
        omega
    · right
      rcases hl with rfl | hl
      · omega
      · have := (Nat.le_div_iff_mul_le hp).1 hl
        rw [Nat.mul_comm, ← Nat.pow_add, show c + (t - 1) = c + t - 1 by omega] at this
        exact_mod_cast this

theorem len_fin (T : ByteArray) (x y C : Int) (c : Nat) (hi : y.toNat < T.size) (hT : T.data.toList = tabL) (hxy : y = x / ((2 ^ c : Nat) : Int)) (hC : C = (c : Int)) (hc : c ≤ 56) (hx : 0 ≤ x) (h1 : c = 0 ∨ 1 ≤ y) (w : World) :
    ∃ L : Nat, Ending.returned (.int .i64 (wrap64 (C + wrap64 ((T[y.toNat]'hi).toNat : Int)))) = .returned (.int .i64 (L : Int)) ∧ w = w ∧ L ≤ 64 ∧ x < ((2 ^ L : Nat) : Int) ∧ (L = 0 ∨ ((2 ^ (L - 1) : Nat) : Int) ≤ x) := by
  have hs : T.size = 256 := by
    have : T.data.toList.length = 256 := by rw [hT]; simp [tabL]
    simpa using this
  have hg : T[y.toNat]'hi = tabL.getD y.toNat 0 := by
    rw [← hT]
    simp [List.getD, ByteArray.getElem_eq_getElem_data, Array.getElem?_eq_getElem (show y.toNat < T.data.size from hi)]
  obtain ⟨a1, a2, a3⟩ := tab_ok y.toNat (by omega)
  rw [hg]
  generalize (tabL.getD y.toNat 0).toNat = t at *
  have e1 : wrap64 (C + wrap64 (t : Int)) = ((c + t : Nat) : Int) := by
    rw [hC, Go.IntWalk.wrap64_in (t : Int) (by omega), Go.IntWalk.wrap64_in _ (by omega)]; simp
  rw [e1]
  exact ⟨c + t, rfl, rfl, by omega, len_plain x y c t hx hxy h1 a2 a3⟩

theorem len_fin0 (T : ByteArray) (y : Int) (hi : y.toNat < T.size) (hT : T.data.toList = tabL) (hy : 0 ≤ y) (w : World) :
    ∃ L : Nat, Ending.returned (.int .i64 (wrap64 (wrap64 ((T[y.toNat]'hi).toNat : Int)))) = .returned (.int .i64 (L : Int)) ∧ w = w ∧ L ≤ 64 ∧ y < ((2 ^ L : Nat) : Int) ∧ (L = 0 ∨ ((2 ^ (L - 1) : Nat) : Int) ≤ y) := by
  obtain ⟨L, a, b⟩ := len_fin T y y 0 0 hi hT (by simp) rfl (by omega) hy (.inl rfl) w
  refine ⟨L, ?_, b⟩
  rw [← a, Int.zero_add]

set_option maxRecDepth 100000 in
set_option maxHeartbeats 1000000 in
theorem len64_any (x : Int) (w : World) (h0 : 0 ≤ x) (h1 : x ≤ 9223372036854775807) :
    Calls Tryd.prog 28 #[.int .u64 x] w fun e w' => ∃ L : Nat, e = .returned (.int .i64 (L : Int)) ∧ w' = w ∧ L ≤ 64 ∧ x < ((2 ^ L : Nat) : Int) ∧ (L = 0 ∨ ((2 ^ (L - 1) : Nat) : Int) ≤ x) := by
  by_cases c1 : 4294967296 ≤ x
  · by_cases c2 : 65536 ≤ x / 4294967296
    · by_cases c3 : 256 ≤ x / 4294967296 / 65536
      · go_enter Tryd.func28, Tryd.ntmps28
        go_wp2
        go_ret
        exact len_fin _ x _ _ 56 _ (by kernel_rfl) (by simp; omega) rfl (by omega) h0 (.inr (by omega)) w
      · go_enter Tryd.func28, Tryd.ntmps28
        go_wp2
        go_ret
        exact len_fin _ x _ _ 48 _ (by kernel_rfl) (by simp; omega) rfl (by omega) h0 (.inr (by omega)) w
    · by_cases c3 : 256 ≤ x / 4294967296
      · go_enter Tryd.func28, Tryd.ntmps28
        go_wp2
        go_ret
        exact len_fin _ x _ _ 40 _ (by kernel_rfl) (by simp; omega) rfl (by omega) h0 (.inr (by omega)) w
      · go_enter Tryd.func28, Tryd.ntmps28
        go_wp2
        go_ret
        exact len_fin _ x _ _ 32 _ (by kernel_rfl) (by simp) rfl (by omega) h0 (.inr (by omega)) w
  · by_cases c2 : 65536 ≤ x
    · by_cases c3 : 256 ≤ x / 65536
      · go_enter Tryd.func28, Tryd.ntmps28
        go_wp2
        go_ret
        exact len_fin _ x _ _ 24 _ (by kernel_rfl) (by simp; omega) rfl (by omega) h0 (.inr (by omega)) w
      · go_enter Tryd.func28, Tryd.ntmps28
        go_wp2
        go_ret
        exact len_fin _ x _ _ 16 _ (by kernel_rfl) (by simp) rfl (by omega) h0 (.inr (by omega)) w
    · by_cases c3 : 256 ≤ x
      · go_enter Tryd.func28, Tryd.ntmps28
        go_wp2
        go_ret
        exact len_fin _ x _ _ 8 _ (by kernel_rfl) (by simp) rfl (by omega) h0 (.inr (by omega)) w
      · go_enter Tryd.func28, Tryd.ntmps28
        go_wp2
        go_ret
        exact len_fin0 _ x _ (by kernel_rfl) (by omega) w
end Go.Proofs.YtipkjiacikdmmaaDoor
