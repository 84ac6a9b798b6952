/-
  What the document's own sum is for any bytes that memory holds. Condition: the slice holds the bytes.
-/
import Derived.Test.YtipkjiacikdmmaaDoorSum
namespace Go.Proofs.YtipkjiacikdmmaaDoor
open Go.RowKit
set_option linter.unusedVariables false

theorem u32_and1 (a c : Nat) (ha : a < 4294967296) (h : a % 2 = c) : bits .and .u32 (a : Int) 1 = (c : Int) := by
  have := u32_and_nat a 1 ha (by omega)
  rw [show ((1 : Nat) : Int) = 1 from rfl] at this
  rw [this, show (1 : Nat) = 2 ^ 1 - 1 from rfl, Nat.and_two_pow_sub_one_eq_mod, show 2 ^ 1 = 2 from rfl, h]
theorem u32_xorP (a c : Nat) (ha : a < 4294967296) (h : a / 2 ^^^ 2197175160 = c) : bits .xor .u32 ((a : Int) / 2) 2197175160 = (c : Int) := by
  have := u32_xorN (a / 2) 2197175160 c (by omega) (by omega) h
  rw [show ((a / 2 : Nat) : Int) = (a : Int) / 2 by omega] at this
  exact this
/-- j steps. -/
def stN : Nat → Nat → Nat
  | 0, s => s
  | j + 1, s => st (stN j s)
theorem stN_lt : ∀ j s, s < 4294967296 → stN j s < 4294967296
  | 0, _, h => h
  | j + 1, s, h => st_lt _ (stN_lt j s h)
theorem stN_eight (s : Nat) : stN 8 s = st8 s := rfl

set_option maxRecDepth 100000 in
set_option maxHeartbeats 1000000 in
theorem rsum_some (b off cap : Nat) (l : List UInt8) (w : World) (hc : ∀ i (h : i < l.length), w.cell? ⟨b, off + i, none⟩ = some (bv l[i])) (hm : l.length ≤ 140737488355328) :
    Calls Tryd.prog 21 #[.slice (some ⟨b, off, none⟩) l.length cap] w fun e w' => e = .returned (.int .i64 (crc l : Int)) ∧ w' = w := by
  have hm' : (l.length : Int) ≤ 140737488355328 := by omega
  go_enter Tryd.func21, Tryd.ntmps21
  go_wp2
  go_loop [3, 4] (fun n i => ∃ k : Nat, k ≤ l.length ∧ i = .int .i64 k ∧ n = .int .u32 (reg 4294967295 (l.take k) : Int)) (fun _ i => l.length - (intOf i).toNat)
  case atStart => exact ⟨0, Nat.zero_le _, rfl, rfl⟩
  case round =>
    obtain ⟨k, hk, rfl, rfl⟩ := hrel
    by_cases hlt : k < l.length
    · have h1 := reg_take_step l k hlt 4294967295
      have hs := reg_lt (l.take k) 4294967295 (by omega)
      have hcx := hc k hlt
      have hd := (l[k]).toNat_lt
      unfold bv at hcx
      generalize (l[k]).toNat = d at *
      generalize reg 4294967295 (l.take k) = s at *
      have H1 : Hid (reg 4294967295 (l.take (k + 1)) = st8 (s ^^^ d)) := h1
      clear h1 hc
      obtain ⟨y, hy⟩ : ∃ y, s ^^^ d = y := ⟨_, rfl⟩
      have by1 : y < 4294967296 := by rw [← hy]; exact xor_lt32 _ _ hs (by omega)
      have e1 := u32_xorN s d y hs (by omega) hy
      have HY : Hid (s ^^^ d = y) := hy
      clear hy
      have hd' : (d : Int) < 256 := by omega
      go_wp2
      go_loop [3, 5] (fun n i => ∃ j : Nat, j ≤ 8 ∧ i = .int .i64 j ∧ n = .int .u32 (stN j y : Int)) (fun _ i => 8 - (intOf i).toNat)
      case atStart => exact ⟨0, Nat.zero_le _, rfl, rfl⟩
      case round =>
        obtain ⟨j, hj, rfl, rfl⟩ := hrel
        by_cases hj8 : j < 8
        · have hz := stN_lt j y by1
          have HN : Hid (stN (j + 1) y = st (stN j y)) := rfl
          generalize stN j y = z at *
          have hj8' : (j : Int) < 8 := by omega
          obtain ⟨o, ho⟩ : ∃ o, z % 2 = o := ⟨_, rfl⟩
          have e2 := u32_and1 z o hz ho
          have hz' : (z : Int) < 4294967296 := by omega
          by_cases h1 : o = 1
          · obtain ⟨y2, hy2⟩ : ∃ y2, z / 2 ^^^ 2197175160 = y2 := ⟨_, rfl⟩
            have e3 := u32_xorP z y2 hz hy2
            have HF : Hid (st z = y2) := by
              show st z = y2
              unfold st; rw [ho, if_pos h1, hy2]
            have ho1 : ((o : Int) == 1) = true := by rw [h1]; rfl
            clear ho hy2 h1
            go_wp2
            go_round
            case rel => exact ⟨j + 1, by omega, by go_num, valI (by rw [HN.out, HF.out])⟩
            case measure => simp [intOf]; omega
          · have HF : Hid (st z = z / 2) := by
              show st z = z / 2
              unfold st; rw [ho, if_neg h1, Nat.xor_zero]
            have ho1 : ((o : Int) == 1) = false := by rw [beq_eq_false_iff_ne]; omega
            clear ho h1
            go_wp2
            go_round
            case rel => exact ⟨j + 1, by omega, by go_num, valI (by rw [HN.out, HF.out]; omega)⟩
            case measure => simp [intOf]; omega
        · obtain rfl : j = 8 := by omega
          go_wp2
          go_round
          case rel => exact ⟨k + 1, by omega, by go_num, valI (by rw [H1.out, HY.out, stN_eight])⟩
          case measure => simp [intOf]; omega
    · have hs := reg_lt l 4294967295 (by omega)
      go_wp2
      go_ret
      exact ⟨retI (by rw [List.take_of_length_le (by omega)]; exact not32 _ _ hs rfl), rfl⟩
set_option maxRecDepth 100000 in
theorem rsum_none (a : Option Addr) (cap : Nat) (w : World) :
    Calls Tryd.prog 21 #[.slice a 0 cap] w fun e w' => e = .returned (.int .i64 0) ∧ w' = w := by
  go_enter Tryd.func21, Tryd.ntmps21
  go_wp2
  refine wp_loop_rounds 1 ?_
  rw [rounds_succ]
  go_wp2
  go_ret
  exact ⟨retI (not32 4294967295 0 (by omega) rfl), rfl⟩

theorem rsum_any (a : Option Addr) (len cap : Nat) (l : List UInt8) (w : World) (h : Has w a len cap l) (hm : len ≤ 140737488355328) :
    Calls Tryd.prog 21 #[.slice a len cap] w fun e w' => e = .returned (.int .i64 (crc l : Int)) ∧ w' = w := by
  obtain ⟨rfl, h2, h3, h4, h5⟩ := h
  rcases Nat.eq_zero_or_pos l.length with h0 | h0
  · obtain rfl := List.eq_nil_of_length_eq_zero h0
    exact rsum_none a cap w
  · obtain ⟨b, off, rfl, _, hc⟩ := h5 h0
    exact rsum_some b off cap l w hc hm
end Go.Proofs.YtipkjiacikdmmaaDoor
