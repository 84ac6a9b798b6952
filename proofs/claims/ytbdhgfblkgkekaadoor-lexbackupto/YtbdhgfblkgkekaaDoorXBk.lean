/-
  For any bytes, at most 2^20 of them: muntinlaw03.LexBack answers true. Conditions: those that each theorem names.
-/
import Derived.Test.YtbdhgfblkgkekaaDoorXBp
import Derived.Test.YtbdhgfblkgkekaaDoorXEq
namespace Go.Proofs.YtbdhgfblkgkekaaDoor
open Go.RowKit
set_option linter.unusedVariables false
set_option maxRecDepth 100000 in
set_option maxHeartbeats 4000000 in
theorem lback_any (P : ByteArray) (w : World) (hE : ErrIs w) (hP : P.size ≤ 1048576) :
    Calls Tryd.prog 5 #[.string P] w fun e w' => e = .returned (.bool true) ∧ Below w.heap.size w w' := by
  have HE : Hid (ErrIs w) := hE
  have HQ : Hid (∀ w : World, Calls Tryd.prog 17 #[.string P] w fun e w' => e = .returned (.string (nb (qt P))) ∧ Below w.heap.size w w') := fun w => xquote_any P w hP
  have hT := tkS_quote P
  have hq : (nb (qt P)).size ≤ 4 * P.size + 2 := by
    rw [nb_size]; unfold qt; rw [List.length_append]
    have := (qp_len P P.size).1
    simp; omega
  obtain ⟨Q, hQ⟩ : ∃ Q, Q = nb (qt P) := ⟨_, rfl⟩
  rw [← hQ] at HQ hT hq
  clear hE hQ
  by_cases h5 : P.size ≤ 255
  · rw [if_pos h5] at hT
    have HT : Hid (∀ w : World, ErrIs w → Calls Tryd.prog 10 #[.string Q] w fun e w' => AnsT (.inr [(3, P, 0, 0), (6, { data := #[] }, 0, Q.size)]) w e w') := fun w h => by
      have := xtokens_any Q w h (by omega)
      rw [hT] at this
      exact this
    have c0 : decide ((255 : Int) < (P.size : Int)) = false := by simp; omega
    have e3 : ∀ w : World, (Op.equalIn 9999 36 (.agg #[.int .u64 0, .int .u64 0, .int .u64 0, .int .u64 0]) (.agg #[.int .u64 0, .int .u64 0, .int .u64 0, .int .u64 0])).run Tryd.prog w = .ok true w := fun w => by simpa using eq_words 9997 w 0 0 0 0 0 0 0 0
    clear hT
    go_enter Tryd.func5, Tryd.ntmps5
    go_wp2_with fail
    refine (HQ.out _).mono ?_
    rintro e w1 ⟨rfl, hb1⟩
    have HB1 : Hid (Below w.heap.size w w1) := hb1
    clear hb1
    go_wp2_with fail
    refine (HT.out w1 (HE.out.below HB1.out HE.out.lt)).mono ?_
    rintro e w3 ⟨v, rfl, HO, hb3⟩
    have HB3 : Hid (Below w.heap.size w w3) := HB1.out.trans (hb3.out.mono HB1.out.size)
    obtain ⟨g, cap, rfl⟩ := own_shape HO.out (by simp)
    have d0 := HO.out.cellAt 0 (by simp)
    have d1 := HO.out.cellAt 1 (by simp)
    have d2 := HO.out.cellAt 2 (by simp)
    have d3 := HO.out.cellAt 3 (by simp)
    have d4 := HO.out.cellAt 4 (by simp)
    have d5 := HO.out.cellAt 5 (by simp)
    have d6 := HO.out.cellAt 6 (by simp)
    have d7 := HO.out.cellAt 7 (by simp)
    have d8 := HO.out.cellAt 8 (by simp)
    have d9 := HO.out.cellAt 9 (by simp)
    have da := HO.out.cellAt 10 (by simp)
    have db := HO.out.cellAt 11 (by simp)
    have dc := HO.out.cellAt 12 (by simp)
    have dd := HO.out.cellAt 13 (by simp)
    simp [tvs, wd_zero] at d0 d1 d2 d3 d4 d5 d6 d7 d8 d9 da db dc dd
    clear hb3 HB1 HT HO HQ
    go_wp2_with fail
    go_ret
    exact ⟨rfl, HB3.out⟩
  · rw [if_neg h5] at hT
    have c0 : decide ((255 : Int) < (P.size : Int)) = true := by simp; omega
    by_cases h8 : Q.size ≤ 8192
    · have HT : Hid (∀ w : World, ErrIs w → Calls Tryd.prog 10 #[.string Q] w fun e w' => AnsT (.inl (2, 0)) w e w') := fun w h => by
        have := xtokens_any Q w h h8
        rw [hT] at this
        exact this
      clear hT
      go_enter Tryd.func5, Tryd.ntmps5
      go_wp2_with fail
      refine (HQ.out _).mono ?_
      rintro e w1 ⟨rfl, hb1⟩
      have HB1 : Hid (Below w.heap.size w w1) := hb1
      clear hb1
      go_wp2_with fail
      refine (HT.out w1 (HE.out.below HB1.out HE.out.lt)).mono ?_
      rintro e w3 ⟨q, rfl, HP⟩
      have HB3 : Hid (Below w.heap.size w w3) := HB1.out.trans (HP.out.2.2.mono HB1.out.size)
      have HC := hid (code_fault q 2 0 w3 (HE.out.below HB3.out HE.out.lt) HP.out.2.1)
      have HF : Hid (Flt w3 q (2, 0)) := HP.out.2.1
      clear HP HB1 HT HQ
      unfold flv
      go_wp2_with fail
      refine HC.out.mono ?_
      rintro e w4 ⟨rfl, hb4⟩
      have HB4 : Hid (Below w.heap.size w w4) := HB3.out.trans (hb4.mono HB3.out.size)
      have HA := hid (at_fault q 2 0 w4 (HE.out.below HB4.out HE.out.lt) ((hb4.block q HF.out.lt).trans HF.out))
      clear hb4 HC HF
      go_wp2_with fail
      refine HA.out.mono ?_
      rintro e w5 ⟨rfl, hb5⟩
      have HB5 : Hid (Below w.heap.size w w5) := HB4.out.trans (hb5.mono HB4.out.size)
      clear hb5 HA
      go_wp2_with fail
      go_ret
      exact ⟨rfl, HB5.out⟩
    · have HT : Hid (∀ w : World, Calls Tryd.prog 10 #[.string Q] w fun e w' => e = .returned (.tuple #[.slice none 0 0, flv w.heap.size]) ∧ w' = w.alloc (.cells #[.int .i64 2, .int .i64 (-1)] 44)) := fun w => xtokens_long Q w (by omega)
      have c1 : decide ((8192 : Int) < (Q.size : Int)) = true := by simp; omega
      clear hT
      go_enter Tryd.func5, Tryd.ntmps5
      go_wp2_with fail
      refine (HQ.out _).mono ?_
      rintro e w1 ⟨rfl, hb1⟩
      have HB1 : Hid (Below w.heap.size w w1) := hb1
      clear hb1
      go_wp2_with fail
      refine (HT.out w1).mono ?_
      rintro e w3 ⟨rfl, hw3⟩
      have HB3 : Hid (Below w.heap.size w w3) := by rw [hw3]; exact HB1.out.alloc HB1.out.size _
      have HF : Hid (w3.heap[w1.heap.size]? = some (.cells #[.int .i64 2, .int .i64 (-1)] 44)) := by show _ = _; rw [hw3]; exact new_block_at w1 _ rfl
      have hq3 : w1.heap.size < w3.heap.size := by rw [hw3]; simp
      have HC := hid (code_fault w1.heap.size 2 (-1) w3 (HE.out.below HB3.out HE.out.lt) HF.out)
      clear HB1 HT HQ hw3
      unfold flv
      go_wp2_with fail
      refine HC.out.mono ?_
      rintro e w4 ⟨rfl, hb4⟩
      have HB4 : Hid (Below w.heap.size w w4) := HB3.out.trans (hb4.mono HB3.out.size)
      have HA := hid (at_fault w1.heap.size 2 (-1) w4 (HE.out.below HB4.out HE.out.lt) ((hb4.block _ hq3).trans HF.out))
      clear hb4 HC HF
      go_wp2_with fail
      refine HA.out.mono ?_
      rintro e w5 ⟨rfl, hb5⟩
      have HB5 : Hid (Below w.heap.size w w5) := HB4.out.trans (hb5.mono HB4.out.size)
      clear hb5 HA
      go_wp2_with fail
      go_ret
      exact ⟨rfl, HB5.out⟩
end Go.Proofs.YtbdhgfblkgkekaaDoor
