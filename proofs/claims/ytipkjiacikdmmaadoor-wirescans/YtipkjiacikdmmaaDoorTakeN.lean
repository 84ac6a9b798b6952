/-
  What wire.TakeNum answers for any bytes that memory holds: the number with which they begin, how many bytes it has, or the error. Condition: the slice holds the bytes.
-/
import Derived.Test.YtipkjiacikdmmaaDoorTake
namespace Go.Proofs.YtipkjiacikdmmaaDoor
open Go.RowKit
set_option linter.unusedVariables false

/-- An error's value, by its number; 0: none. -/
def errV (c : Nat) : Value := if c = 0 then .nilIface else .iface 30 (.int .i64 (c : Int))

/-- Which number bytes begin with, how many bytes it has, and the error's number. -/
def tkNum : List UInt8 → Nat × Nat × Nat
  | [] => (0, 0, 3)
  | k :: r => if 8 < k.toNat then (0, 0, 4) else if r.length < k.toNat then (0, 0, 3) else
      if k.toNat = 0 ∨ goodD (r.headD 0).toNat k.toNat = true then (valFrom 0 (r.take k.toNat), 1 + k.toNat, 0) else (0, 0, 4)


theorem good_val (l : List UInt8) (h8 : l.length ≤ 8) (h : l = [] ∨ goodD (l.headD 0).toNat l.length = true) : valFrom 0 l ≤ 9223372036854775807 := by
  cases l with
  | nil => simp [valFrom]
  | cons d r =>
    have h1 := valFrom_lt r
    have e : valFrom 0 (d :: r) = d.toNat * 256 ^ r.length + valFrom 0 r := by
      rw [valFrom, valFrom_eq]; simp
    have hd : d.toNat < 256 := d.toNat_lt
    simp only [List.length_cons] at h8
    rcases Nat.lt_or_ge r.length 7 with h7 | h7
    · have hp : 256 ^ r.length ≤ 256 ^ 6 := Nat.pow_le_pow_right (by omega) (by omega)
      have h2 : d.toNat * 256 ^ r.length ≤ 255 * 256 ^ 6 := Nat.mul_le_mul (by omega) hp
      rw [e]; omega
    · have h7' : r.length = 7 := by omega
      rcases h with h | h
      · cases h
      · simp [goodD, h7'] at h
        have h3 := h.2
        rw [h7'] at h1 e
        rw [e]; omega

set_option maxRecDepth 100000 in
set_option maxHeartbeats 400000 in
theorem takeNum_some (b off len cap k : Nat) (r : List UInt8) (w : World) (hl : r.length + 1 = len) (hlc : len ≤ cap) (hcm : cap ≤ maxLen) (hk0 : w.cell? ⟨b, off, none⟩ = some (.int .u8 (k : Int)))
    (hr : ∀ i (h : i < r.length), w.cell? ⟨b, off + (i + 1), none⟩ = some (bv r[i])) (hk : (k : Int) < 256) (hb : b < w.heap.size) (h8 : k ≤ 8) (hrk : k ≤ r.length) (hk1 : 1 ≤ k) :
    Calls Tryd.prog 10 #[.slice (some ⟨b, off, none⟩) len cap] w fun e w' => (e = .returned (.tuple #[.int .i64 (valFrom 0 (r.take k) : Int), .int .i64 (1 + (k : Int)), .nilIface]) ∧ goodD (r.headD 0).toNat k = true ∨
      e = .returned (.tuple #[.int .i64 0, .int .i64 0, .iface 30 (.int .i64 4)]) ∧ goodD (r.headD 0).toNat k = false) ∧ w' = w := by
  have hcm' := hcm
  unfold maxLen at hcm
  have hlen0 : ((len : Int) == 0) = false := by rw [beq_eq_false_iff_ne]; omega
  have hk9 : ¬ (8 : Int) < (k : Int) := by omega
  have hlk : ¬ (len : Int) - 1 < (k : Int) := by omega
  have hc1 : ¬ cap = 1 := by omega
  have h0 : 0 < r.length := by omega
  have hc0 : w.cell? ⟨b, off + 1, none⟩ = some (.int .u8 ((r.headD 0).toNat : Int)) := by
    have := hr 0 h0
    cases r with
    | nil => simp at h0
    | cons d r => exact this
  have hd0 : (((r.headD 0).toNat : Nat) : Int) < 256 := by have := (r.headD 0).toNat_lt; omega
  have hHas : Has w (some ⟨b, off + 1, none⟩) k (cap - 1) (r.take k) := by
    refine ⟨by simp; omega, by omega, by omega, fun e => (by cases e), fun _ => ⟨b, off + 1, rfl, hb, fun i hi => ?_⟩⟩
    have hi' : i < r.length := by simp at hi; omega
    have := hr i hi'
    rw [show off + 1 + i = off + (i + 1) by omega, this]
    simp
  have hgv : goodD (r.headD 0).toNat k = true → valFrom 0 (r.take k) ≤ 9223372036854775807 := by
    intro hg
    refine good_val _ (by simp; omega) (.inr ?_)
    rw [List.length_take, Nat.min_eq_left hrk]
    cases r with
    | nil => simp at h0
    | cons d r => cases k with
      | zero => omega
      | succ k => exact hg
  have hll : (r.take k).length ≤ 8 := by simp; omega
  have HR := right_some b (off + 1) k (cap - 1) (r.headD 0).toNat w hc0 hd0 hk1 h8
  cases hg : goodD (r.headD 0).toNat k with
  | true =>
    have hj := join_any (some ⟨b, off + 1, none⟩) k (cap - 1) (r.take k) w hHas (hgv hg) hll
    rw [hg] at HR
    clear hg hgv hHas hr hc0 hd0 hll hl
    go_enter Tryd.func10, Tryd.ntmps10
    go_wp2_with fail
    refine HR.mono ?_
    rintro e w' ⟨rfl, rfl⟩
    go_wp2_with fail
    refine hj.mono ?_
    rintro e w'' ⟨rfl, rfl⟩
    go_wp2
    go_ret3
    exact ⟨.inl ⟨rfl, trivial⟩, rfl⟩
  | false =>
    rw [hg] at HR
    clear hg hgv hHas hr hc0 hd0 hll hl
    go_enter Tryd.func10, Tryd.ntmps10
    go_wp2_with fail
    refine HR.mono ?_
    rintro e w' ⟨rfl, rfl⟩
    go_wp2
    go_ret3
    exact ⟨.inr ⟨rfl, trivial⟩, rfl⟩

set_option maxRecDepth 100000 in
set_option maxHeartbeats 400000 in
theorem takeNum_zero (b off len cap : Nat) (w : World) (hl : 1 ≤ len) (hlc : len ≤ cap) (hcm : cap ≤ maxLen) (hk0 : w.cell? ⟨b, off, none⟩ = some (.int .u8 0)) :
    Calls Tryd.prog 10 #[.slice (some ⟨b, off, none⟩) len cap] w fun e w' => e = .returned (.tuple #[.int .i64 0, .int .i64 1, .nilIface]) ∧ w' = w := by
  unfold maxLen at hcm
  have hlen0 : ((len : Int) == 0) = false := by rw [beq_eq_false_iff_ne]; omega
  have hlk : ¬ (len : Int) - 1 < 0 := by omega
  go_enter Tryd.func10, Tryd.ntmps10
  go_wp2_with (first
    | (go_at_call 29; refine (right_none _ _ _).mono ?_; rintro e w' ⟨rfl, rfl⟩)
    | (go_at_call 30; refine (join_none _ _ _).mono ?_; rintro e w' ⟨rfl, rfl⟩))
  all_goals
    go_ret3
    exact ⟨rfl, rfl⟩

set_option maxRecDepth 100000 in
theorem takeNum_wide (b off len cap k : Nat) (w : World) (hl : 1 ≤ len) (hlc : len ≤ cap) (hcm : cap ≤ maxLen) (hk0 : w.cell? ⟨b, off, none⟩ = some (.int .u8 (k : Int))) (hk : (k : Int) < 256) (h9 : (8 : Int) < (k : Int)) :
    Calls Tryd.prog 10 #[.slice (some ⟨b, off, none⟩) len cap] w fun e w' => e = .returned (.tuple #[.int .i64 0, .int .i64 0, .iface 30 (.int .i64 4)]) ∧ w' = w := by
  unfold maxLen at hcm
  have hlen0 : ((len : Int) == 0) = false := by rw [beq_eq_false_iff_ne]; omega
  go_enter Tryd.func10, Tryd.ntmps10
  go_wp2
  go_ret3
  exact ⟨rfl, rfl⟩

set_option maxRecDepth 100000 in
theorem takeNum_short (b off len cap k : Nat) (w : World) (hl : 1 ≤ len) (hlc : len ≤ cap) (hcm : cap ≤ maxLen) (hk0 : w.cell? ⟨b, off, none⟩ = some (.int .u8 (k : Int))) (hk : (k : Int) < 256) (h8 : (k : Int) ≤ 8) (hs : (len : Int) - 1 < (k : Int)) :
    Calls Tryd.prog 10 #[.slice (some ⟨b, off, none⟩) len cap] w fun e w' => e = .returned (.tuple #[.int .i64 0, .int .i64 0, .iface 30 (.int .i64 3)]) ∧ w' = w := by
  unfold maxLen at hcm
  have hlen0 : ((len : Int) == 0) = false := by rw [beq_eq_false_iff_ne]; omega
  go_enter Tryd.func10, Tryd.ntmps10
  go_wp2
  go_ret3
  exact ⟨rfl, rfl⟩

set_option maxRecDepth 100000 in
theorem takeNum_nil (a : Option Addr) (cap : Nat) (w : World) :
    Calls Tryd.prog 10 #[.slice a 0 cap] w fun e w' => e = .returned (.tuple #[.int .i64 0, .int .i64 0, .iface 30 (.int .i64 3)]) ∧ w' = w := by
  go_enter Tryd.func10, Tryd.ntmps10
  go_wp2
  go_ret3
  exact ⟨rfl, rfl⟩

/-- TakeNum on any bytes. -/
theorem takeNum_any (a : Option Addr) (len cap : Nat) (l : List UInt8) (w : World) (h : Has w a len cap l) :
    Calls Tryd.prog 10 #[.slice a len cap] w fun e w' => e = .returned (.tuple #[.int .i64 ((tkNum l).1 : Int), .int .i64 ((tkNum l).2.1 : Int), errV (tkNum l).2.2]) ∧ w' = w := by
  obtain ⟨rfl, h2, h3, h4, h5⟩ := h
  cases l with
  | nil => exact takeNum_nil a cap w
  | cons k r =>
    obtain ⟨b, off, rfl, hb, hc⟩ := h5 (by simp)
    have hk0 : w.cell? ⟨b, off, none⟩ = some (.int .u8 (k.toNat : Int)) := hc 0 (by simp)
    have hr : ∀ i (h : i < r.length), w.cell? ⟨b, off + (i + 1), none⟩ = some (bv r[i]) := fun i hi => hc (i + 1) (by simpa using hi)
    have hk : (k.toNat : Int) < 256 := by have := k.toNat_lt; omega
    have hln : (k :: r).length = r.length + 1 := rfl
    by_cases h9 : 8 < k.toNat
    · have e : tkNum (k :: r) = (0, 0, 4) := by simp [tkNum, h9]
      rw [e]
      exact takeNum_wide b off _ cap k.toNat w (by simp) h2 h3 hk0 hk (by omega)
    · by_cases hs : r.length < k.toNat
      · have e : tkNum (k :: r) = (0, 0, 3) := by simp [tkNum, h9, hs]
        rw [e]
        exact takeNum_short b off _ cap k.toNat w (by simp) h2 h3 hk0 hk (by omega) (by omega)
      · by_cases hz : k.toNat = 0
        · have e : tkNum (k :: r) = (0, 1, 0) := by simp [tkNum, hz, valFrom]
          rw [e]
          rw [hz] at hk0
          exact takeNum_zero b off _ cap w (by simp) h2 h3 hk0
        · refine (takeNum_some b off _ cap k.toNat r w rfl h2 h3 hk0 hr hk hb (by omega) (by omega) (by omega)).mono ?_
          rintro e w' ⟨⟨rfl, hg⟩ | ⟨rfl, hg⟩, rfl⟩
          · have e : tkNum (k :: r) = (valFrom 0 (r.take k.toNat), 1 + k.toNat, 0) := by simp only [tkNum, if_neg h9, if_neg hs, hg]; simp
            rw [e]
            exact ⟨by simp [errV], rfl⟩
          · have e : tkNum (k :: r) = (0, 0, 4) := by simp only [tkNum, if_neg h9, if_neg hs, hg]; simp [hz]
            rw [e]
            exact ⟨rfl, rfl⟩
end Go.Proofs.YtipkjiacikdmmaaDoor
