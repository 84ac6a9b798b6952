/-
  What wire.Num answers: ErrArg below 0; else new memory that holds the number's bytes. Condition: the number is an int.
-/
import Derived.Test.YtipkjiacikdmmaaDoorLen
import Derived.Test.YtipkjiacikdmmaaDoorMem
namespace Go.Proofs.YtipkjiacikdmmaaDoor
open Go.RowKit

theorem wid_len (n L : Nat) (h1 : L ≤ 64) (h2 : (n : Int) < ((2 ^ L : Nat) : Int)) (h3 : L = 0 ∨ ((2 ^ (L - 1) : Nat) : Int) ≤ (n : Int)) : ((L : Int) + 7) / 8 = (wid n : Int) := by
  have e : (L + 7) / 8 = wid n := by
    symm
    apply wid_of
    · omega
    · have : 2 ^ L ≤ 2 ^ (8 * ((L + 7) / 8)) := Nat.pow_le_pow_right (by omega) (by omega)
      rw [Nat.pow_mul, show (2 : Nat) ^ 8 = 256 from rfl] at this
      have h4 : n < 2 ^ L := by exact_mod_cast h2
      omega
    · rcases h3 with rfl | h3
      · left; rfl
      · rcases Nat.eq_zero_or_pos ((L + 7) / 8) with h | h
        · left; exact h
        · right
          have : 2 ^ (8 * ((L + 7) / 8 - 1)) ≤ 2 ^ (L - 1) := Nat.pow_le_pow_right (by omega) (by omega)
          rw [Nat.pow_mul, show (2 : Nat) ^ 8 = 256 from rfl] at this
          have h4 : 2 ^ (L - 1) ≤ n := by exact_mod_cast h3
          omega
  omega

theorem dig_get (n : Nat) : ∀ k j (h : j < (dig n k).length), (dig n k)[j] = UInt8.ofNat (n / 256 ^ (k - 1 - j))
  | 0, _, h => by simp [dig] at h
  | k + 1, 0, _ => by simp [dig]
  | k + 1, j + 1, h => by
    simp only [dig, List.getElem_cons_succ]
    rw [dig_get n k j]
    congr 3
    omega

theorem numB_step (n l : Nat) (h1 : 1 ≤ l) (h2 : l ≤ wid n) :
    ((numB n).take l).map bv ++ [Value.int .u8 ((n : Int) / 2 ^ (8 * (wid n - l)) % 256)] = ((numB n).take (l + 1)).map bv := by
  have hl : l < (numB n).length := by rw [numB_length]; omega
  rw [List.take_succ_eq_append_getElem hl, List.map_append, List.map_singleton]
  congr 2
  have e : (numB n)[l] = UInt8.ofNat (n / 256 ^ (wid n - l)) := by
    obtain ⟨j, rfl⟩ : ∃ j, l = j + 1 := ⟨l - 1, by omega⟩
    have hj : j < (dig n (wid n)).length := by rw [dig_length]; omega
    have : (numB n)[j + 1] = (dig n (wid n))[j] := rfl
    rw [this, dig_get]
    congr 3
    omega
  rw [e, bv]
  congr 1
  simp only [UInt8.toNat_ofNat']
  have hp : (2 : Int) ^ (8 * (wid n - l)) = ((256 ^ (wid n - l) : Nat) : Int) := by
    rw [show (256 : Nat) ^ (wid n - l) = 2 ^ (8 * (wid n - l)) from (Nat.pow_mul 2 8 _).symm]
    simp
  rw [hp, ← Int.natCast_ediv]
  generalize n / 256 ^ (wid n - l) = q
  omega

theorem numB_one (n : Nat) : [Value.int .u8 (wid n : Int)] = ((numB n).take 1).map bv := by
  have := wid_le n
  simp [numB, bv]
  omega

theorem num_neg (n : Int) (w : World) (h : n < 0) :
    Calls Tryd.prog 9 #[.int .i64 n] w fun e w' => e = .returned (.tuple #[.slice none 0 0, .iface 30 (.int .i64 1)]) ∧ w' = w := by
  go_enter Tryd.func9, Tryd.ntmps9
  go_wp2
  go_ret2
  exact ⟨rfl, rfl⟩

set_option maxRecDepth 100000 in
set_option maxHeartbeats 400000 in
theorem num_pos (n : Nat) (w : World) (h : n ≤ 9223372036854775807) :
    Calls Tryd.prog 9 #[.int .i64 (n : Int)] w fun e w' => e = .returned (.tuple #[.slice (some ⟨w.heap.size, 0, none⟩) (1 + wid n) (1 + wid n), .nilIface]) ∧
      w'.ownsRow w.heap.size 5 1 (.slice (some ⟨w.heap.size, 0, none⟩) (1 + wid n) (1 + wid n)) (1 + wid n) ((numB n).map bv) ∧ Below w.heap.size w w' := by
  have hn : (n : Int) ≤ 9223372036854775807 := by omega
  obtain ⟨i0, hi, hz0, hz1, hz2⟩ := info_parts Tryd.info5
  have hwl : wid n ≤ 8 := wid_le n
  have hwl' : (wid n : Int) ≤ 8 := by omega
  go_enter Tryd.func9, Tryd.ntmps9
  go_wp2_with (first
    | (go_at_call 28; refine (len64_any _ _ (by omega) (by omega)).mono ?_; rintro e w' ⟨L, rfl, rfl, hL, hx, hlo⟩; have hwd := wid_len n L hL hx hlo; clear hx hlo hL)
    | (at_make; refine wpList_make_own _ rfl _ _ 22 rfl w'.heap.size 5 i0 (.int .u8 0) 1 Tryd.underlying22 hi hz0 hz1 _ _ _ (1 + wid n) rfl rfl (by omega) (by rw [hz2]; omega) (by unfold maxLen; omega) (Nat.le_refl _) ?_; intro w1 hown1 hgr1)
    | (at_builtin; refine wpList_append_fits _ rfl (.tmp 18) (.tmp 21) 22 rfl w'.heap.size 5 i0 1 Tryd.underlying22 hi hz1 _ _ _ _ rfl (hown1.alloc _) ⟨w1.heap.size, 0, none⟩ 1 1 [.int .u8 (wid n : Int)] rfl rfl (one_new _ _ _) (one_ok _ _) (by omega) ?_; intro w2 hown2 hgr2))
  have hb1 : Below w'.heap.size w' w1 := (Below.refl _ _).grown hgr1 (Nat.le_refl _) (fun k e => by cases e)
  have hb2 : Below w'.heap.size w' w2 := (hb1.alloc hb1.size _).grown hgr2 (by have := hb1.size; simp; omega) (fun k e => by cases e; exact Nat.le_refl _)
  rw [List.nil_append, Nat.zero_add, numB_one] at hown2
  clear hown1 hgr1 hgr2 hb1
  go_loopw [5, 6] (fun v i wr => ∃ l : Nat, 1 ≤ l ∧ l ≤ 1 + wid n ∧ i = .int .i64 ((wid n : Int) - l) ∧ v = .slice (some ⟨w'.heap.size, 0, none⟩) l (1 + wid n) ∧
      wr.ownsRow w'.heap.size 5 1 (.slice (some ⟨w'.heap.size, 0, none⟩) l (1 + wid n)) l (((numB n).take l).map bv) ∧ Below w'.heap.size w' wr) (fun _ i _ => (intOf i + 1).toNat)
  case atStart => exact ⟨1, by omega, by omega, by go_num, rfl, hown2, hb2⟩
  case round =>
    obtain ⟨l, hl1, hl2, rfl, rfl, hown, hbel⟩ := hrel
    clear hown2 hb2
    by_cases hlt : l ≤ wid n
    · go_wp2_with (first
        | (at_builtin; refine wpList_append_fits _ rfl (.tmp 29) (.tmp 35) 22 rfl w'.heap.size 5 i0 1 Tryd.underlying22 hi hz1 _ _ _ _ rfl (hown.alloc _) ⟨wr.heap.size, 0, none⟩ 1 1 [.int .u8 _] rfl rfl (one_new _ _ _) (one_ok _ _) (by omega) ?_; intro w3 hown3 hgr3))
      have hb3 : Below w'.heap.size w' w3 := (hbel.alloc hbel.size _).grown hgr3 (by have := hbel.size; simp; omega) (fun k e => by cases e; exact Nat.le_refl _)
      rw [numB_step n l hl1 hlt] at hown3
      go_roundw
      case rel => exact ⟨l + 1, by omega, by omega, by go_num, rfl, hown3, hb3⟩
      case measure => simp [intOf]; omega
    · have hl : l = 1 + wid n := by omega
      subst hl
      rw [List.take_of_length_le (by rw [numB_length]; omega)] at hown
      go_wp2
      go_ret2
      exact ⟨rfl, hown, hbel⟩
end Go.Proofs.YtipkjiacikdmmaaDoor
