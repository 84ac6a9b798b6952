/-
  What wire.join, wire.rightDigits and wire.TakeNum answer, for any slice of bytes that memory holds. Conditions: those that each theorem names.
-/
import Derived.Test.YtipkjiacikdmmaaDoorNum
import Derived.Laws.BitsLemmas
namespace Go.Proofs.YtipkjiacikdmmaaDoor
open Go.RowKit

theorem valFrom_mono (l : List UInt8) : ∀ (r : List UInt8) (a : Nat), valFrom a l ≤ valFrom a (l ++ r) := by
  intro r
  induction r generalizing l with
  | nil => intro a; simp
  | cons d r ih =>
    intro a
    have h := ih (l ++ [d]) a
    rw [valFrom_append l d (l ++ [d]) a rfl] at h
    rw [List.append_assoc] at h
    simp only [List.singleton_append] at h
    omega
theorem val_take_step (l : List UInt8) (k : Nat) (h : k < l.length) : valFrom 0 (l.take (k + 1)) = valFrom 0 (l.take k) * 256 + (l[k]).toNat := by
  rw [List.take_succ_eq_append_getElem h]
  exact valFrom_append _ _ _ _ rfl
theorem val_take_le (l : List UInt8) (k : Nat) : valFrom 0 (l.take k) ≤ valFrom 0 l := by
  have := valFrom_mono (l.take k) (l.drop k) 0
  rwa [List.take_append_drop] at this

theorem wraps_i64 (n : Int) (h₀ : 0 ≤ n) (h₁ : n < 2 ^ 63) : IntKind.i64.wrap n = n := by rw [IntKind.wrap_i64]; omega
theorem or_byte (v d : Nat) (h : (v : Int) * 256 + d ≤ 9223372036854775807) (hd : (d : Int) < 256) : bits .or .i64 ((v : Int) * 256) (d : Int) = ((v * 256 + d : Nat) : Int) := by
  rw [bits_join .i64 63 (by decide) wraps_i64 8 _ _ (by omega) (by omega) (by omega) (by omega) (by omega) (by omega)]
  simp

theorem ret_int {k : IntKind} {a b : Int} (h : a = b) : Ending.returned (.int k a) = .returned (.int k b) := by rw [h]
theorem val_int {k : IntKind} {a b : Int} (h : a = b) : Value.int k a = .int k b := by rw [h]

set_option maxRecDepth 100000 in
set_option maxHeartbeats 400000 in
theorem join_some (b off cap : Nat) (l : List UInt8) (w : World) (hc : ∀ i (h : i < l.length), w.cell? ⟨b, off + i, none⟩ = some (bv l[i])) (hv : valFrom 0 l ≤ 9223372036854775807) (hm : l.length ≤ 8) :
    Calls Tryd.prog 30 #[.slice (some ⟨b, off, none⟩) l.length cap] w fun e w' => e = .returned (.int .i64 (valFrom 0 l : Int)) ∧ w' = w := by
  go_enter Tryd.func30, Tryd.ntmps30
  go_wp2
  go_loop [3, 8] (fun n i => ∃ k : Nat, k ≤ l.length ∧ i = .int .i64 k ∧ n = .int .i64 (valFrom 0 (l.take k) : Int)) (fun _ i => l.length - (intOf i).toNat)
  case atStart => exact ⟨0, Nat.zero_le _, rfl, rfl⟩
  case round =>
    obtain ⟨k, hk, rfl, rfl⟩ := hrel
    by_cases hlt : k < l.length
    · have h1 := val_take_step l k hlt
      have h2 := val_take_le l (k + 1)
      have hcx := hc k hlt
      have hd := (l[k]).toNat_lt
      unfold bv at hcx
      generalize hdd : (l[k]).toNat = d at *
      generalize hvv : valFrom 0 (l.take k) = v at *
      have H1 : Hid (valFrom 0 (l.take (k + 1)) = v * 256 + d) := h1
      clear hvv hdd
      rw [h1] at h2
      have hv2 : (v : Int) * 256 + d ≤ 9223372036854775807 := by omega
      have hd2 : (d : Int) < 256 := by omega
      clear h1 h2 hc
      go_wp2
      go_round
      case rel => exact ⟨k + 1, by omega, by go_num, val_int (by rw [or_byte v d hv2 hd2, H1.out])⟩
      case measure => simp [intOf]; omega
    · go_wp2
      go_ret
      exact ⟨ret_int (by rw [List.take_of_length_le (by omega)]), rfl⟩

set_option maxRecDepth 100000 in
set_option maxHeartbeats 400000 in
theorem join_none (a : Option Addr) (cap : Nat) (w : World) :
    Calls Tryd.prog 30 #[.slice a 0 cap] w fun e w' => e = .returned (.int .i64 0) ∧ w' = w := by
  go_enter Tryd.func30, Tryd.ntmps30
  go_wp2
  refine wp_loop_rounds 1 ?_
  rw [rounds_succ]
  go_wp2
  go_ret
  exact ⟨rfl, rfl⟩

theorem join_any (a : Option Addr) (len cap : Nat) (l : List UInt8) (w : World) (h : Has w a len cap l) (hv : valFrom 0 l ≤ 9223372036854775807) (hm : l.length ≤ 8) :
    Calls Tryd.prog 30 #[.slice a len cap] w fun e w' => e = .returned (.int .i64 (valFrom 0 l : Int)) ∧ w' = w := by
  obtain ⟨rfl, h2, h3, h4, h5⟩ := h
  rcases Nat.eq_zero_or_pos l.length with h0 | h0
  · obtain rfl := List.eq_nil_of_length_eq_zero h0
    exact join_none a cap w
  · obtain ⟨b, off, rfl, _, hc⟩ := h5 h0
    exact join_some b off cap l w hc hv hm

/-- Are these the digits of a number? -/
def goodD (d : Nat) (len : Nat) : Bool := !(d == 0) && !(len == 8 && decide (127 < d))

set_option maxRecDepth 100000 in
set_option maxHeartbeats 1000000 in
theorem right_some (b off len cap d : Nat) (w : World) (hc : w.cell? ⟨b, off, none⟩ = some (.int .u8 (d : Int))) (hd : (d : Int) < 256) (h1 : 1 ≤ len) (h8 : len ≤ 8) :
    Calls Tryd.prog 29 #[.slice (some ⟨b, off, none⟩) len cap] w fun e w' => e = .returned (.bool (goodD d len)) ∧ w' = w := by
  have hl : len = 1 ∨ len = 2 ∨ len = 3 ∨ len = 4 ∨ len = 5 ∨ len = 6 ∨ len = 7 ∨ len = 8 := by omega
  rcases Nat.eq_zero_or_pos d with rfl | h0
  · rcases hl with rfl | rfl | rfl | rfl | rfl | rfl | rfl | rfl <;>
    · go_enter Tryd.func29, Tryd.ntmps29
      go_wp2
      go_ret
      exact ⟨rfl, rfl⟩
  · have hz : ((d : Int) == 0) = false := by rw [beq_eq_false_iff_ne]; omega
    have hz' : (d == 0) = false := by rw [beq_eq_false_iff_ne]; omega
    by_cases hb : (127 : Int) < (d : Int)
    · have hb' : decide (127 < d) = true := by simp; omega
      have Hg : ∀ n, goodD d n = !(n == 8) := by intro n; unfold goodD; rw [hz', hb']; simp
      have HG : Hid (∀ n, goodD d n = !(n == 8)) := Hg
      clear Hg hz' hb'
      rcases hl with rfl | rfl | rfl | rfl | rfl | rfl | rfl | rfl <;>
      · go_enter Tryd.func29, Tryd.ntmps29
        go_wp2
        go_ret
        rw [HG.out]
        exact ⟨rfl, rfl⟩
    · have hb' : decide (127 < d) = false := by simp; omega
      have Hg : ∀ n, goodD d n = true := by intro n; unfold goodD; rw [hz', hb']; simp
      have HG : Hid (∀ n, goodD d n = true) := Hg
      clear Hg hz' hb'
      rcases hl with rfl | rfl | rfl | rfl | rfl | rfl | rfl | rfl <;>
      · go_enter Tryd.func29, Tryd.ntmps29
        go_wp2
        go_ret
        rw [HG.out]
        exact ⟨rfl, rfl⟩

set_option maxRecDepth 100000 in
theorem right_none (a : Option Addr) (cap : Nat) (w : World) :
    Calls Tryd.prog 29 #[.slice a 0 cap] w fun e w' => e = .returned (.bool true) ∧ w' = w := by
  go_enter Tryd.func29, Tryd.ntmps29
  go_wp2
  go_ret
  exact ⟨rfl, rfl⟩
end Go.Proofs.YtipkjiacikdmmaaDoor
