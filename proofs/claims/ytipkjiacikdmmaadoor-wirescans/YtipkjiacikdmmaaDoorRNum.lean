/-
  What the document's own Num and TakeNum answer. Conditions: those that each theorem names.
-/
import Derived.Test.YtipkjiacikdmmaaDoorApp
import Derived.Test.YtipkjiacikdmmaaDoorTakeN
namespace Go.Proofs.YtipkjiacikdmmaaDoor
open Go.RowKit
set_option linter.unusedVariables false

theorem wid_div (n : Nat) (h1 : 1 ≤ n) (h2 : n ≤ 9223372036854775807) : wid n = wid (n / 256) + 1 := by
  have a1 := wid_hi (n / 256) (by omega)
  have a2 := wid_lo (n / 256)
  have a3 : wid (n / 256) ≤ 7 := by
    rcases Nat.lt_or_ge (wid (n / 256)) 8 with h | h
    · omega
    · have h8 := wid_le (n / 256)
      have : wid (n / 256) = 8 := by omega
      rw [this] at a2
      simp at a2
      omega
  refine wid_of n _ (by omega) ?_ ?_
  · rw [Nat.pow_succ]; omega
  · right
    simp only [Nat.add_sub_cancel]
    rcases a2 with a2 | a2
    · rw [a2]; simpa using h1
    · obtain ⟨k, hk⟩ : ∃ k, wid (n / 256) = k + 1 := by
        rcases Nat.eq_zero_or_pos (wid (n / 256)) with h0 | h0
        · exfalso
          rw [h0] at a1
          simp at a1
          rw [h0] at a2
          simp at a2
          omega
        · exact ⟨wid (n / 256) - 1, by omega⟩
      rw [hk] at a2 ⊢
      simp only [Nat.add_sub_cancel] at a2
      rw [Nat.pow_succ]
      omega
theorem dig_snoc (n : Nat) : ∀ k, dig n (k + 1) = dig (n / 256) k ++ [UInt8.ofNat n]
  | 0 => by simp [dig]
  | k + 1 => by
    have ih := dig_snoc n k
    have e : dig n (k + 1 + 1) = UInt8.ofNat (n / 256 ^ (k + 1)) :: dig n (k + 1) := rfl
    rw [e, ih]
    have e2 : dig (n / 256) (k + 1) = UInt8.ofNat (n / 256 / 256 ^ k) :: dig (n / 256) k := rfl
    rw [e2, Nat.div_div_eq_div_mul, Nat.pow_succ, Nat.mul_comm 256]
    rfl

theorem digits_zero (w : World) :
    Calls Tryd.prog 31 #[.int .i64 ((0 : Nat) : Int)] w fun e w' => ∃ v, e = .returned v ∧ w'.ownsRow w.heap.size 5 1 v (wid 0) ((dig 0 (wid 0)).map bv) ∧ Below w.heap.size w w' := by
  go_enter Tryd.func31, Tryd.ntmps31
  go_wp2
  go_ret
  exact ⟨_, rfl, World.ownsRow_nil _ _ _ _, Below.refl _ _⟩
set_option maxRecDepth 100000 in
set_option maxHeartbeats 1000000 in
theorem digits_any (f : Nat) : ∀ (m : Nat) (w : World), m < 256 ^ f → m ≤ 9223372036854775807 →
    Calls Tryd.prog 31 #[.int .i64 (m : Int)] w fun e w' => ∃ v, e = .returned v ∧ w'.ownsRow w.heap.size 5 1 v (wid m) ((dig m (wid m)).map bv) ∧ Below w.heap.size w w' := by
  induction f with
  | zero =>
    intro m w h _
    obtain rfl : m = 0 := by simpa using h
    exact digits_zero w
  | succ f ihf =>
    intro m w h hm
    rcases Nat.eq_zero_or_pos m with h0 | h0
    · subst h0
      exact digits_zero w
    obtain ⟨i0, hi, hz0, hz1, hz2⟩ := info_parts Tryd.info5
    have ih := ihf (m / 256) w (by rw [Nat.pow_succ] at h; exact Nat.div_lt_of_lt_mul (by rw [Nat.mul_comm]; exact h)) (by omega)
    have HW : Hid (wid m = wid (m / 256) + 1) := wid_div m h0 hm
    have hw8 := wid_le (m / 256)
    have HD : Hid (dig m (wid m) = dig (m / 256) (wid (m / 256)) ++ [UInt8.ofNat m]) := by
      show dig m (wid m) = _
      rw [HW.out, dig_snoc]
    clear ihf
    have hz : ((m : Int) == 0) = false := by rw [beq_eq_false_iff_ne]; omega
    have e1 : (m : Int) / 256 = ((m / 256 : Nat) : Int) := by omega
    have hm' : (m : Int) ≤ 9223372036854775807 := by omega
    clear h
    obtain ⟨d, hd⟩ : ∃ d, m / 256 = d := ⟨_, rfl⟩
    rw [hd] at ih HW HD e1 hw8
    clear hd
    go_enter Tryd.func31, Tryd.ntmps31
    go_wp2_with fail
    refine ih.mono ?_
    rintro e w1 ⟨v, rfl, hown, hb⟩
    clear ih
    go_wp2_with (at_builtin; refine wpList_append_own _ rfl (.tmp 7) (.tmp 11) 22 rfl w.heap.size 5 i0 (.int .u8 0) 1 1 Tryd.underlying22 hi hz0 hz1 hz2 rfl (by decide) _ _ _ rfl (hown.alloc _) ⟨w1.heap.size, 0, none⟩ 1 1 [.int .u8 _] rfl rfl (one_new _ _ _) (one_ok _ _) (by unfold maxLen; omega) (by omega) (by have := hb.size; simp; omega) ?_; intro v2 w2 hown2 hgr2 hnil2)
    go_ret
    refine ⟨_, rfl, ?_, (hb.alloc hb.size _).grown hgr2 (by have := hb.size; simp; omega) (fun k e => (hown.lt k e).1)⟩
    rw [HD.out, HW.out, List.map_append, List.map_singleton]
    have e2 : bv (UInt8.ofNat m) = .int .u8 ((m : Int) % 256) := by simp [bv]
    rw [e2]
    exact hown2

theorem owns_one (w : World) (base : Nat) (hb : base ≤ w.heap.size) (x : UInt8) : (w.alloc (.cells #[bv x] 5)).ownsRow base 5 1 (.slice (some ⟨w.heap.size, 0, none⟩) 1 1) 1 [bv x] :=
  ⟨rfl, .inr ⟨w.heap.size, 1, #[bv x], rfl, hb, by show (w.heap.push _)[w.heap.size]? = _; simp, Nat.le_refl _, by unfold maxLen; omega, rfl, rfl⟩⟩

theorem rnum_neg (n : Int) (w : World) (h : n < 0) :
    Calls Tryd.prog 11 #[.int .i64 n] w fun e w' => e = .returned (.tuple #[.slice none 0 0, .int .i64 1]) ∧ w' = w := by
  go_enter Tryd.func11, Tryd.ntmps11
  go_wp2
  go_ret2
  exact ⟨rfl, rfl⟩
set_option maxRecDepth 100000 in
set_option maxHeartbeats 1000000 in
theorem rnum_pos (n : Nat) (w : World) (h : n ≤ 9223372036854775807) :
    Calls Tryd.prog 11 #[.int .i64 (n : Int)] w fun e w' => ∃ g cap, e = .returned (.tuple #[.slice (some ⟨g, 0, none⟩) (1 + wid n) cap, .int .i64 0]) ∧ w.heap.size ≤ g ∧
      w'.ownsRow w.heap.size 5 1 (.slice (some ⟨g, 0, none⟩) (1 + wid n) cap) (1 + wid n) ((numB n).map bv) ∧ Below w.heap.size w w' := by
  have hn : (n : Int) ≤ 9223372036854775807 := by omega
  have hn0 : ¬ (n : Int) < 0 := by omega
  have hw8 := wid_le n
  have hd := digits_any 8 n w (by have : (256 : Nat) ^ 8 = 18446744073709551616 := rfl; omega) h
  go_enter Tryd.func11, Tryd.ntmps11
  go_wp2_with fail
  refine hd.mono ?_
  rintro e w1 ⟨v, rfl, hown, hb⟩
  clear hd
  obtain ⟨a, c, hv⟩ : ∃ a c, v = .slice a (wid n) c := by
    obtain ⟨_, ⟨rfl, h0⟩ | ⟨g, c, cur, rfl, _⟩⟩ := hown
    · exact ⟨none, 0, by rw [h0]⟩
    · exact ⟨_, _, rfl⟩
  rw [hv] at hown ⊢
  clear hv
  have HH : Hid (Has w1 a (wid n) c (dig n (wid n))) := by
    show Has w1 a (wid n) c (dig n (wid n))
    obtain ⟨hl, hx | hx⟩ := id hown
    · obtain ⟨e, h0⟩ := hx
      simp at e
      obtain ⟨rfl, _, rfl⟩ := e
      rw [h0]
      exact ⟨rfl, Nat.le_refl _, by unfold maxLen; omega, fun _ => rfl, fun h => absurd h (by omega)⟩
    · obtain ⟨g', cap', cur, e, _⟩ := hx
      simp at e
      obtain ⟨rfl, rfl⟩ := e
      exact Has.of_row hown
  have HB : Hid (Below w.heap.size w w1) := hb
  have HO : Hid (∀ (X : Value), X = bv (UInt8.ofNat (wid n)) → (w1.alloc (.cells #[X] 5)).ownsRow w.heap.size 5 1 (.slice (some ⟨w1.heap.size, 0, none⟩) 1 1) 1 [bv (UInt8.ofNat (wid n))]) := fun X e => by subst e; exact owns_one w1 _ hb.size _
  have HV : Hid (Value.int .u8 (wid n : Int) = bv (UInt8.ofNat (wid n))) := by show Value.int .u8 (wid n : Int) = _; simp [bv]; omega
  clear hown hb
  have hw8' : (wid n : Int) ≤ 8 := by omega
  go_wp2_with (at_builtin; refine wpList_app rfl (.tmp 12) (.tmp 13) rfl w.heap.size w1.heap.size 1 1 _ rfl (HO.out _ HV.out) _ _ _ (dig n (wid n)) rfl (HH.out.below ((Below.refl _ _).alloc (Nat.le_refl _) _)) (by omega) (by have := HB.out.size; simp; omega) ?_; intro g2 c2 w2 hg2 hown2 hgr2)
  go_ret2
  refine ⟨g2, c2, rfl, hg2, ?_, (HB.out.alloc HB.out.size _).grown hgr2 (by have := HB.out.size; simp; omega) (fun k e => by cases e; exact HB.out.size)⟩
  have : (numB n).map bv = [bv (UInt8.ofNat (wid n))] ++ (dig n (wid n)).map bv := rfl
  rw [this]
  exact hown2
end Go.Proofs.YtipkjiacikdmmaaDoor
