/-
  What wire.Sum answers for any bytes that memory holds: their check sum. Condition: the table that the program lays is in its place; the slice holds the bytes.
-/
import Derived.Test.YtipkjiacikdmmaaDoorCrc
import Derived.Test.YtipkjiacikdmmaaDoorMem
import Derived.Laws.BitsAllLaws
namespace Go.Proofs.YtipkjiacikdmmaaDoor
open Go.RowKit
set_option linter.unusedVariables false

/-- The table lies where the program lays it. -/
def TabIs (w : World) : Prop := ∀ i, i < 16 → w.cell? ⟨0, i, none⟩ = some (.int .u32 ((tab.getD i 0 : Nat) : Int))
theorem TabIs.below {w w' : World} {B : Nat} (h : TabIs w) (hb : Below B w w') (hB : 0 < B) : TabIs w' := fun i hi => (hb.cell (p := ⟨0, i, none⟩) hB).trans (h i hi)
theorem TabIs.drewN {w : World} (h : TabIs w) (q : Nat) : TabIs (w.drewN q) := fun i hi => by have := h i hi; simpa using this
theorem TabIs.lt {w : World} (h : TabIs w) : 0 < w.heap.size := by
  have h0 := h 0 (by omega)
  rcases Nat.lt_or_ge 0 w.heap.size with h1 | h1
  · exact h1
  · simp [World.cell?, Array.getElem?_eq_none h1] at h0

theorem retI {k : IntKind} {a b : Int} (h : a = b) : Ending.returned (.int k a) = .returned (.int k b) := by rw [h]
theorem valI {k : IntKind} {a b : Int} (h : a = b) : Value.int k a = .int k b := by rw [h]
theorem u32_xorN (a b c : Nat) (ha : a < 4294967296) (hb : b < 4294967296) (h : a ^^^ b = c) : bits .xor .u32 (a : Int) (b : Int) = (c : Int) := by rw [u32_xor_nat a b ha hb, h]
theorem u32_xorD (a b c : Nat) (ha : a < 4294967296) (hb : b < 4294967296) (h : a / 16 ^^^ b = c) : bits .xor .u32 ((a : Int) / 16) (b : Int) = (c : Int) := by
  have := u32_xorN (a / 16) b c (by omega) hb h
  rw [show ((a / 16 : Nat) : Int) = (a : Int) / 16 by omega] at this
  exact this
theorem not32 (a c : Nat) (ha : a < 4294967296) (h : 4294967295 - a = c) : wrap64 (bits .xor .u32 IntKind.u32.max (a : Int)) = (c : Int) := by
  have e : IntKind.u32.max = ((4294967295 : Nat) : Int) := by decide
  have hx : (4294967295 : Nat) ^^^ a = 4294967295 - a := by
    apply Nat.eq_of_testBit_eq
    intro i
    rw [Nat.testBit_xor, show (4294967295 : Nat) - a = 2 ^ 32 - (a + 1) by omega, Nat.testBit_two_pow_sub_succ (by omega), show (4294967295 : Nat) = 2 ^ 32 - 1 from rfl, Nat.testBit_two_pow_sub_one]
    by_cases hi : i < 32
    · simp [hi]
    · have : a.testBit i = false := Nat.testBit_lt_two_pow (Nat.lt_of_lt_of_le ha (by rw [show (4294967296 : Nat) = 2 ^ 32 from rfl]; exact Nat.pow_le_pow_right (by omega) (by omega)))
      simp [hi, this]
  rw [e, u32_xor_nat _ _ (by omega) ha, hx, h]
  exact Go.IntWalk.wrap64_in _ (by omega)
theorem u32_and15 (a c : Nat) (ha : a < 4294967296) (h : a % 16 = c) : bits .and .u32 (a : Int) 15 = (c : Int) := by
  have := u32_and_nat a 15 ha (by omega)
  rw [show ((15 : Nat) : Int) = 15 from rfl] at this
  rw [this, show (15 : Nat) = 2 ^ 4 - 1 from rfl, Nat.and_two_pow_sub_one_eq_mod, show 2 ^ 4 = 16 from rfl, h]
theorem tab_lt (i : Nat) (h : i < 16) : tab.getD i 0 < 4294967296 := by
  have : ∀ i, i < 16 → tab.getD i 0 < 4294967296 := by decide +kernel
  exact this i h

set_option maxRecDepth 100000 in
set_option maxHeartbeats 1000000 in
theorem sum_some (b off cap : Nat) (l : List UInt8) (w : World) (hc : ∀ i (h : i < l.length), w.cell? ⟨b, off + i, none⟩ = some (bv l[i])) (hT : TabIs w) (hm : l.length ≤ 140737488355328) :
    Calls Tryd.prog 20 #[.slice (some ⟨b, off, none⟩) l.length cap] w fun e w' => e = .returned (.int .i64 (crc l : Int)) ∧ w' = w := by
  have HT : Hid (TabIs w) := hT
  clear hT
  have hm' : (l.length : Int) ≤ 140737488355328 := by omega
  go_enter Tryd.func20, Tryd.ntmps20
  go_wp2
  go_loop [3, 8] (fun n i => ∃ k : Nat, k ≤ l.length ∧ i = .int .i64 k ∧ n = .int .u32 (reg 4294967295 (l.take k) : Int)) (fun _ i => l.length - (intOf i).toNat)
  case atStart => exact ⟨0, Nat.zero_le _, rfl, rfl⟩
  case round =>
    obtain ⟨k, hk, rfl, rfl⟩ := hrel
    by_cases hlt : k < l.length
    · have h1 := reg_take_step l k hlt 4294967295
      have hs := reg_lt (l.take k) 4294967295 (by omega)
      have hcx := hc k hlt
      have hd := (l[k]).toNat_lt
      unfold bv at hcx
      generalize (l[k]).toNat = d at *
      generalize reg 4294967295 (l.take k) = s at *
      have H1 : Hid (reg 4294967295 (l.take (k + 1)) = st8 (s ^^^ d)) := h1
      clear h1 hc
      obtain ⟨y, hy⟩ : ∃ y, s ^^^ d = y := ⟨_, rfl⟩
      obtain ⟨i1, hi1⟩ : ∃ i, y % 16 = i := ⟨_, rfl⟩
      obtain ⟨t1, ht1⟩ : ∃ t, tab.getD i1 0 = t := ⟨_, rfl⟩
      obtain ⟨y2, hy2⟩ : ∃ y2, y / 16 ^^^ t1 = y2 := ⟨_, rfl⟩
      obtain ⟨i2, hi2⟩ : ∃ i, y2 % 16 = i := ⟨_, rfl⟩
      obtain ⟨t2, ht2⟩ : ∃ t, tab.getD i2 0 = t := ⟨_, rfl⟩
      obtain ⟨y3, hy3⟩ : ∃ y3, y2 / 16 ^^^ t2 = y3 := ⟨_, rfl⟩
      have bi1 : i1 < 16 := by omega
      have bi2 : i2 < 16 := by omega
      have bt1 : t1 < 4294967296 := by rw [← ht1]; exact tab_lt i1 bi1
      have bt2 : t2 < 4294967296 := by rw [← ht2]; exact tab_lt i2 bi2
      have by1 : y < 4294967296 := by rw [← hy]; exact xor_lt32 _ _ hs (by omega)
      have by2 : y2 < 4294967296 := by rw [← hy2]; exact xor_lt32 _ _ (by omega) bt1
      have by3 : y3 < 4294967296 := by rw [← hy3]; exact xor_lt32 _ _ (by omega) bt2
      have HF : Hid (st8 (s ^^^ d) = y3) := by
        show st8 (s ^^^ d) = y3
        rw [hy, st8, st4_eq y, hi1, ht1, hy2, st4_eq y2, hi2, ht2, hy3]
      have e1 := u32_xorN s d y hs (by omega) hy
      have e2 := u32_and15 y i1 by1 hi1
      have c1 : w.cell? ⟨0, i1, none⟩ = some (.int .u32 (t1 : Int)) := by rw [← ht1]; exact HT.out i1 bi1
      have e3 := u32_xorD y t1 y2 by1 bt1 hy2
      have e4 := u32_and15 y2 i2 by2 hi2
      have c2 : w.cell? ⟨0, i2, none⟩ = some (.int .u32 (t2 : Int)) := by rw [← ht2]; exact HT.out i2 bi2
      have e5 := u32_xorD y2 t2 y3 by2 bt2 hy3
      have bi1' : (i1 : Int) < 16 := by omega
      have bi2' : (i2 : Int) < 16 := by omega
      have by1' : (y : Int) < 4294967296 := by omega
      have by2' : (y2 : Int) < 4294967296 := by omega
      have hd' : (d : Int) < 256 := by omega
      clear hy hi1 ht1 hy2 hi2 ht2 hy3 HT
      go_wp2
      go_round
      case rel => exact ⟨k + 1, by omega, by go_num, valI (by rw [H1.out, HF.out])⟩
      case measure => simp [intOf]; omega
    · have hs := reg_lt l 4294967295 (by omega)
      go_wp2
      go_ret
      exact ⟨retI (by rw [List.take_of_length_le (by omega)]; exact not32 _ _ hs rfl), rfl⟩

set_option maxRecDepth 100000 in
theorem sum_none (a : Option Addr) (cap : Nat) (w : World) :
    Calls Tryd.prog 20 #[.slice a 0 cap] w fun e w' => e = .returned (.int .i64 0) ∧ w' = w := by
  go_enter Tryd.func20, Tryd.ntmps20
  go_wp2
  refine wp_loop_rounds 1 ?_
  rw [rounds_succ]
  go_wp2
  go_ret
  exact ⟨retI (not32 4294967295 0 (by omega) rfl), rfl⟩

theorem sum_any (a : Option Addr) (len cap : Nat) (l : List UInt8) (w : World) (h : Has w a len cap l) (hT : TabIs w) (hm : len ≤ 140737488355328) :
    Calls Tryd.prog 20 #[.slice a len cap] w fun e w' => e = .returned (.int .i64 (crc l : Int)) ∧ w' = w := by
  obtain ⟨rfl, h2, h3, h4, h5⟩ := h
  rcases Nat.eq_zero_or_pos l.length with h0 | h0
  · obtain rfl := List.eq_nil_of_length_eq_zero h0
    exact sum_none a cap w
  · obtain ⟨b, off, rfl, _, hc⟩ := h5 h0
    exact sum_some b off cap l w hc hT hm
end Go.Proofs.YtipkjiacikdmmaaDoor
