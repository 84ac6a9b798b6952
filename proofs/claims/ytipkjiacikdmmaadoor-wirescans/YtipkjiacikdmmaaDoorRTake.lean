/-
  What the document's own TakeNum answers, for any bytes that memory holds. Condition: the slice holds the bytes.
-/
import Derived.Test.YtipkjiacikdmmaaDoorRNum
namespace Go.Proofs.YtipkjiacikdmmaaDoor
open Go.RowKit
set_option linter.unusedVariables false

theorem val_big (d : UInt8) (r : List UInt8) (h7 : r.length = 7) (hd : 127 < d.toNat) : 9223372036854775807 < valFrom 0 (d :: r) := by
  have e : valFrom 0 (d :: r) = d.toNat * 256 ^ r.length + valFrom 0 r := by rw [valFrom, valFrom_eq]; simp
  rw [e, h7]
  have : 128 * 256 ^ 7 ≤ d.toNat * 256 ^ 7 := Nat.mul_le_mul_right _ (by omega)
  have h2 : (128 : Nat) * 256 ^ 7 = 9223372036854775808 := rfl
  omega
theorem val8_lt (l : List UInt8) (h : l.length ≤ 8) : valFrom 0 l ≤ 18446744073709551615 := by
  have h1 := valFrom_lt l
  have h2 : 256 ^ l.length ≤ 256 ^ 8 := Nat.pow_le_pow_right (by omega) h
  have h3 : (256 : Nat) ^ 8 = 18446744073709551616 := rfl
  omega

def RTk (d0 v k : Nat) (e : Ending) : Prop :=
  (d0 ≠ 0 ∧ v ≤ 9223372036854775807 ∧ e = .returned (.tuple #[.int .i64 (v : Int), .int .i64 (1 + (k : Int)), .int .i64 0])) ∨
  ((d0 = 0 ∨ 9223372036854775807 < v) ∧ e = .returned (.tuple #[.int .i64 0, .int .i64 0, .int .i64 4]))
set_option maxRecDepth 100000 in
set_option maxHeartbeats 1000000 in
theorem rtake_some (b off len cap k : Nat) (r : List UInt8) (w : World) (hl : r.length + 1 = len) (hlm : len ≤ 9223372036854775807) (hk0 : w.cell? ⟨b, off, none⟩ = some (.int .u8 (k : Int)))
    (hr : ∀ i (h : i < r.length), w.cell? ⟨b, off + (i + 1), none⟩ = some (bv r[i])) (hk : (k : Int) < 256) (h8 : k ≤ 8) (hrk : k ≤ r.length) (hk1 : 1 ≤ k) :
    Calls Tryd.prog 12 #[.slice (some ⟨b, off, none⟩) len cap] w fun e w' => RTk (r.headD 0).toNat (valFrom 0 (r.take k)) k e ∧ w' = w := by
  have hlen0 : ((len : Int) == 0) = false := by rw [beq_eq_false_iff_ne]; omega
  have hk9 : ¬ (8 : Int) < (k : Int) := by omega
  have hlk : ¬ (len : Int) < 1 + (k : Int) := by omega
  have hk1' : (0 : Int) < (k : Int) := by omega
  have hl1 : (1 : Int) < (len : Int) := by omega
  have h0 : 0 < r.length := by omega
  have hc0 : w.cell? ⟨b, off + 1, none⟩ = some (.int .u8 ((r.headD 0).toNat : Int)) := by
    have := hr 0 h0
    cases r with
    | nil => simp at h0
    | cons d r => exact this
  have HR : Hid (∀ i (h : i < r.length), w.cell? ⟨b, off + (i + 1), none⟩ = some (bv r[i])) := hr
  have HL : Hid (r.length + 1 = len) := hl
  have hrk' : k ≤ r.length := hrk
  have hv8 := val8_lt (r.take k) (by simp; omega)
  have hlm' : (len : Int) ≤ 9223372036854775807 := by omega
  obtain ⟨d0, hd0⟩ : ∃ d0, (r.headD 0).toNat = d0 := ⟨_, rfl⟩
  rw [hd0] at hc0 ⊢
  clear hr hl hd0
  by_cases hz : d0 = 0
  · subst hz
    go_enter Tryd.func12, Tryd.ntmps12
    go_wp2
    go_ret3
    exact ⟨.inr ⟨.inl rfl, rfl⟩, rfl⟩
  · have hz' : ((d0 : Int) == 0) = false := by rw [beq_eq_false_iff_ne]; omega
    have HZ : Hid (¬ d0 = 0) := hz
    clear hz
    go_enter Tryd.func12, Tryd.ntmps12
    go_wp2_with fail
    go_loop [6, 7] (fun u i => ∃ t : Nat, t ≤ k ∧ i = .int .i64 (1 + (t : Int)) ∧ u = .int .u64 (valFrom 0 (r.take t) : Int)) (fun _ i => k + 1 - (intOf i).toNat)
    case atStart => exact ⟨0, Nat.zero_le _, rfl, rfl⟩
    case round =>
      obtain ⟨t, ht, rfl, rfl⟩ := hrel
      by_cases htk : t < k
      · have htr : t < r.length := by omega
        have h1 := val_take_step r t htr
        have h2 := val8_lt (r.take (t + 1)) (by simp; omega)
        have hcx := HR.out t htr
        have hd := (r[t]).toNat_lt
        unfold bv at hcx
        rw [show off + (t + 1) = off + (1 + t) by omega] at hcx
        generalize (r[t]).toNat = d at *
        generalize valFrom 0 (r.take t) = v at *
        have H1 : Hid (valFrom 0 (r.take (t + 1)) = v * 256 + d) := h1
        rw [h1] at h2
        have hv2 : (v : Int) * 256 + d ≤ 18446744073709551615 := by omega
        have hd2 : (d : Int) < 256 := by omega
        have ht1 : 1 + (t : Int) ≤ (k : Int) := by omega
        have ht2 : 1 + (t : Int) < (len : Int) := by have := HL.out; omega
        clear h1 h2 hc0
        go_wp2
        go_round
        case rel => exact ⟨t + 1, by omega, by go_num, val_int (by rw [H1.out]; omega)⟩
        case measure => simp [intOf]; omega
      · obtain rfl : k = t := by omega
        obtain ⟨v, hv⟩ : ∃ v, valFrom 0 (r.take k) = v := ⟨_, rfl⟩
        rw [hv] at hv8 ⊢
        have HV : Hid (valFrom 0 (r.take k) = v) := hv
        clear hv hc0
        by_cases hbig : (9223372036854775807 : Int) < (v : Int)
        · go_wp2
          go_ret3
          exact ⟨.inr ⟨.inr (by have := HV.out; omega), rfl⟩, rfl⟩
        · go_wp2
          go_ret3
          exact ⟨.inl ⟨HZ.out, by have := HV.out; omega, by rw [HV.out]; rfl⟩, rfl⟩

set_option maxRecDepth 100000 in
set_option maxHeartbeats 1000000 in
theorem rtake_zero (b off len cap : Nat) (w : World) (hl : 1 ≤ len) (hlm : len ≤ 9223372036854775807) (hk0 : w.cell? ⟨b, off, none⟩ = some (.int .u8 0)) :
    Calls Tryd.prog 12 #[.slice (some ⟨b, off, none⟩) len cap] w fun e w' => e = .returned (.tuple #[.int .i64 0, .int .i64 1, .int .i64 0]) ∧ w' = w := by
  have hlen0 : ((len : Int) == 0) = false := by rw [beq_eq_false_iff_ne]; omega
  have hlk : ¬ (len : Int) < 1 := by omega
  go_enter Tryd.func12, Tryd.ntmps12
  go_wp2_with fail
  refine wp_loop_rounds 1 ?_
  rw [rounds_succ]
  go_wp2
  go_ret3
  exact ⟨rfl, rfl⟩
set_option maxRecDepth 100000 in
theorem rtake_wide (b off len cap k : Nat) (w : World) (hl : 1 ≤ len) (hk0 : w.cell? ⟨b, off, none⟩ = some (.int .u8 (k : Int))) (hk : (k : Int) < 256) (h9 : (8 : Int) < (k : Int)) :
    Calls Tryd.prog 12 #[.slice (some ⟨b, off, none⟩) len cap] w fun e w' => e = .returned (.tuple #[.int .i64 0, .int .i64 0, .int .i64 4]) ∧ w' = w := by
  have hlen0 : ((len : Int) == 0) = false := by rw [beq_eq_false_iff_ne]; omega
  go_enter Tryd.func12, Tryd.ntmps12
  go_wp2
  go_ret3
  exact ⟨rfl, rfl⟩
set_option maxRecDepth 100000 in
theorem rtake_short (b off len cap k : Nat) (w : World) (hl : 1 ≤ len) (hk0 : w.cell? ⟨b, off, none⟩ = some (.int .u8 (k : Int))) (hk : (k : Int) < 256) (h8 : (k : Int) ≤ 8) (hs : (len : Int) < 1 + (k : Int)) :
    Calls Tryd.prog 12 #[.slice (some ⟨b, off, none⟩) len cap] w fun e w' => e = .returned (.tuple #[.int .i64 0, .int .i64 0, .int .i64 3]) ∧ w' = w := by
  have hlen0 : ((len : Int) == 0) = false := by rw [beq_eq_false_iff_ne]; omega
  go_enter Tryd.func12, Tryd.ntmps12
  go_wp2
  go_ret3
  exact ⟨rfl, rfl⟩
set_option maxRecDepth 100000 in
theorem rtake_nil (a : Option Addr) (cap : Nat) (w : World) :
    Calls Tryd.prog 12 #[.slice a 0 cap] w fun e w' => e = .returned (.tuple #[.int .i64 0, .int .i64 0, .int .i64 3]) ∧ w' = w := by
  go_enter Tryd.func12, Tryd.ntmps12
  go_wp2
  go_ret3
  exact ⟨rfl, rfl⟩

/-- The document's own TakeNum on any bytes. -/
theorem rtake_any (a : Option Addr) (len cap : Nat) (l : List UInt8) (w : World) (h : Has w a len cap l) :
    Calls Tryd.prog 12 #[.slice a len cap] w fun e w' => e = .returned (.tuple #[.int .i64 ((tkNum l).1 : Int), .int .i64 ((tkNum l).2.1 : Int), .int .i64 ((tkNum l).2.2 : Int)]) ∧ w' = w := by
  obtain ⟨rfl, h2, h3, h4, h5⟩ := h
  have hm : l.length ≤ 9223372036854775807 := by have : maxLen = 9223372036854775807 := rfl; omega
  cases l with
  | nil => exact rtake_nil a cap w
  | cons k r =>
    obtain ⟨b, off, rfl, hb, hc⟩ := h5 (by simp)
    have hk0 : w.cell? ⟨b, off, none⟩ = some (.int .u8 (k.toNat : Int)) := hc 0 (by simp)
    have hr : ∀ i (h : i < r.length), w.cell? ⟨b, off + (i + 1), none⟩ = some (bv r[i]) := fun i hi => hc (i + 1) (by simpa using hi)
    have hk : (k.toNat : Int) < 256 := by have := k.toNat_lt; omega
    have hln : (k :: r).length = r.length + 1 := rfl
    by_cases h9 : 8 < k.toNat
    · have e : tkNum (k :: r) = (0, 0, 4) := by simp [tkNum, h9]
      rw [e]
      exact rtake_wide b off _ cap k.toNat w (by simp) hk0 hk (by omega)
    · by_cases hs : r.length < k.toNat
      · have e : tkNum (k :: r) = (0, 0, 3) := by simp [tkNum, h9, hs]
        rw [e]
        exact rtake_short b off _ cap k.toNat w (by simp) hk0 hk (by omega) (by omega)
      · by_cases hz : k.toNat = 0
        · have e : tkNum (k :: r) = (0, 1, 0) := by simp [tkNum, hz, valFrom]
          rw [e]
          rw [hz] at hk0
          exact rtake_zero b off _ cap w (by simp) hm hk0
        · refine (rtake_some b off _ cap k.toNat r w rfl hm hk0 hr hk (by omega) (by omega) (by omega)).mono ?_
          have hgood : goodD (r.headD 0).toNat k.toNat = true ↔ ((r.headD 0).toNat ≠ 0 ∧ valFrom 0 (r.take k.toNat) ≤ 9223372036854775807) := by
            cases r with
            | nil => exact absurd (show ([] : List UInt8).length < k.toNat from Nat.pos_of_ne_zero hz) hs
            | cons d r =>
              obtain ⟨j, hj⟩ : ∃ j, k.toNat = j + 1 := ⟨k.toNat - 1, by omega⟩
              simp only [List.headD_cons]
              have hjl : j ≤ r.length := by simp at hs; omega
              constructor
              · intro hg
                refine ⟨fun e0 => by simp [goodD, e0] at hg, ?_⟩
                refine good_val _ (by simp; omega) (.inr ?_)
                have hlt : (List.take k.toNat (d :: r)).length = k.toNat := by simp; omega
                rw [hlt, hj, List.take_succ_cons, List.headD_cons, ← hj]
                exact hg
              · rintro ⟨h1, h2⟩
                unfold goodD
                have e1 : (d.toNat == 0) = false := by rw [beq_eq_false_iff_ne]; exact h1
                rw [e1]
                by_cases h8 : k.toNat = 8
                · have hj7 : j = 7 := by omega
                  subst hj7
                  have : ¬ 127 < d.toNat := by
                    intro h3
                    rw [hj, List.take_succ_cons] at h2
                    have := val_big d (r.take 7) (by simp; omega) h3
                    omega
                  simp
                  omega
                · have : (k.toNat == 8) = false := by rw [beq_eq_false_iff_ne]; exact h8
                  rw [this]; simp
          rintro e w' ⟨⟨h1, h2, rfl⟩ | ⟨h1, rfl⟩, rfl⟩
          · have hg := hgood.2 ⟨h1, h2⟩
            have e : tkNum (k :: r) = (valFrom 0 (r.take k.toNat), 1 + k.toNat, 0) := by simp only [tkNum, if_neg h9, if_neg hs, hg]; simp
            rw [e]
            exact ⟨by simp, rfl⟩
          · have hg : goodD (r.headD 0).toNat k.toNat = false := by
              cases hgg : goodD (r.headD 0).toNat k.toNat with
              | false => rfl
              | true => have := hgood.1 hgg; omega
            have e : tkNum (k :: r) = (0, 0, 4) := by simp only [tkNum, if_neg h9, if_neg hs, hg]; simp [hz]
            rw [e]
            exact ⟨rfl, rfl⟩
end Go.Proofs.YtipkjiacikdmmaaDoor
