/-
  For any text: muntinlaw03.LexNamed answers true. Conditions: those that each theorem names.
-/
import Derived.Test.YtbdhgfblkgkekabDoorX18
import Derived.Test.YtbdhgfblkgkekabDoorX19
namespace Go.Proofs.YtbdhgfblkgkekabDoor
open Go.RowKit
set_option linter.unusedVariables false
theorem AnsT.inr_shape {S : ByteArray} {l : List Tok} (h : tkS S = .inr l) : 0 < l.length := by
  obtain ⟨m, _, rfl⟩ := tkS_inv h
  simp
set_option maxRecDepth 100000 in
set_option maxHeartbeats 4000000 in
theorem lnamed_any (S : ByteArray) (w : World) (hE : ErrIs w) (hz : S.size ≤ 140737488351232) :
    Calls Tryd.prog 3 #[.string S] w fun e w' => e = .returned (.bool true) ∧ Below w.heap.size w w' := by
  have HE : Hid (ErrIs w) := hE
  have HSm : Hid (Calls Tryd.prog 4 #[] w fun e w' => e = .returned (.bool true) ∧ Below w.heap.size w w') := small_ok w hE
  have HNm : Hid (∀ w : World, Calls Tryd.prog 5 #[.string S] w fun e w' => e = .returned (.bool (nmS S)) ∧ w' = w) := fun w => xName_any S w (by omega)
  clear hE
  by_cases hl : 8192 < S.size
  · have hn : nmS S = false := by
      cases hn : nmS S with
      | false => rfl
      | true => have := (named_toks hn).2.1; omega
    rw [hn] at HNm
    have c0 : decide ((8192 : Int) < (S.size : Int)) = true := by simp; omega
    go_enter Tryd.func3, Tryd.ntmps3
    go_wp2_with fail
    refine HSm.out.mono ?_
    rintro e w1 ⟨rfl, hb1⟩
    have HB1 : Hid (Below w.heap.size w w1) := hb1
    clear hb1 HSm
    go_wp2_with fail
    refine (HNm.out _).mono ?_
    rintro e w2 ⟨rfl, hw2⟩
    rw [hw2]
    clear hw2 HNm
    go_wp2_with fail
    go_ret
    exact ⟨rfl, HB1.out⟩
  · have c0 : decide ((8192 : Int) < (S.size : Int)) = false := by simp; omega
    have HT : Hid (∀ w : World, ErrIs w → Calls Tryd.prog 6 #[.string S] w fun e w' => AnsT (tkS S) w e w') := fun w h => xtokens_any S w h (by omega)
    have hl2 : S.size ≤ 8192 := by omega
    clear hl
    cases hn : nmS S with
    | true =>
      obtain ⟨ht, h32, h0⟩ := named_toks hn
      have HNx : Hid (∀ w : World, Calls Tryd.prog 5 #[.string (S ++ { data := #[120] })] w fun e w' => e = .returned (.bool (decide (S.size < 32))) ∧ w' = w) := fun w => by
        have := xName_any (S ++ { data := #[120] }) w (by rw [ByteArray.size_append]; have : ({ data := #[120] } : ByteArray).size = 1 := rfl; omega)
        rw [named_more hn] at this
        exact this
      rw [hn] at HNm
      rw [ht] at HT
      clear hn ht
      go_enter Tryd.func3, Tryd.ntmps3
      go_wp2_with fail
      refine HSm.out.mono ?_
      rintro e w1 ⟨rfl, hb1⟩
      have HB1 : Hid (Below w.heap.size w w1) := hb1
      clear hb1 HSm
      go_wp2_with fail
      refine (HNm.out _).mono ?_
      rintro e w2 ⟨rfl, hw2⟩
      rw [hw2]
      clear hw2
      go_wp2_with fail
      refine (HT.out w1 (HE.out.below HB1.out HE.out.lt)).mono ?_
      rintro e w3 ⟨v, rfl, HO, hb3⟩
      have HB3 : Hid (Below w.heap.size w w3) := HB1.out.trans (hb3.out.mono HB1.out.size)
      obtain ⟨g, cap, rfl⟩ := own_shape HO.out (by simp)
      have d0 := HO.out.cellAt 0 (by simp)
      have d1 := HO.out.cellAt 1 (by simp)
      simp [tvs] at d0 d1
      clear hb3 HB1 HO HT HNm
      by_cases h5 : S.size < 32
      · rw [decide_eq_true h5] at HNx
        have a1 : decide ((S.size : Int) < 32) = true := by simp; omega
        go_wp2_with fail
        refine (HNx.out _).mono ?_
        rintro e w4 ⟨rfl, hw4⟩
        rw [hw4]
        clear hw4 HNx
        go_wp2_with fail
        go_ret
        exact ⟨rfl, HB3.out⟩
      · rw [decide_eq_false h5] at HNx
        have a1 : decide ((S.size : Int) < 32) = false := by simp; omega
        go_wp2_with fail
        refine (HNx.out _).mono ?_
        rintro e w4 ⟨rfl, hw4⟩
        rw [hw4]
        clear hw4 HNx
        go_wp2_with fail
        go_ret
        exact ⟨rfl, HB3.out⟩
    | false =>
      rw [hn] at HNm
      cases hr : tkS S with
      | inl c =>
        rw [hr] at HT
        clear hn hr
        go_enter Tryd.func3, Tryd.ntmps3
        go_wp2_with fail
        refine HSm.out.mono ?_
        rintro e w1 ⟨rfl, hb1⟩
        have HB1 : Hid (Below w.heap.size w w1) := hb1
        clear hb1 HSm
        go_wp2_with fail
        refine (HNm.out _).mono ?_
        rintro e w2 ⟨rfl, hw2⟩
        rw [hw2]
        clear hw2
        go_wp2_with fail
        refine (HT.out w1 (HE.out.below HB1.out HE.out.lt)).mono ?_
        rintro e w3 ⟨q, rfl, HP⟩
        have HB3 : Hid (Below w.heap.size w w3) := HB1.out.trans (HP.out.2.2.mono HB1.out.size)
        clear HP HB1 HT HNm
        unfold flv
        go_wp2_with fail
        go_ret
        exact ⟨rfl, HB3.out⟩
      | inr l =>
        have hl0 := AnsT.inr_shape hr
        have key : ((l.length : Int) == 2) = false ∨ ∃ a b, l = [a, b] ∧ (((a.1 : Int) == 1) = false ∨ (((a.1 : Int) == 1) = true ∧ ¬ a.2.1 = S)) := by
          match l, hr with
          | [a, b], hr =>
            refine .inr ⟨a, b, rfl, ?_⟩
            by_cases h1 : a.1 = 1
            · refine .inr ⟨by simp; omega, fun h2 => ?_⟩
              rw [toks_named hr h1 h2] at hn
              cases hn
            · exact .inl (by simp; omega)
          | [], _ => exact .inl rfl
          | [_], _ => exact .inl rfl
          | _ :: _ :: _ :: _, _ => exact .inl (by simp; omega)
        rw [hr] at HT
        clear hn hr
        go_enter Tryd.func3, Tryd.ntmps3
        go_wp2_with fail
        refine HSm.out.mono ?_
        rintro e w1 ⟨rfl, hb1⟩
        have HB1 : Hid (Below w.heap.size w w1) := hb1
        clear hb1 HSm
        go_wp2_with fail
        refine (HNm.out _).mono ?_
        rintro e w2 ⟨rfl, hw2⟩
        rw [hw2]
        clear hw2
        go_wp2_with fail
        refine (HT.out w1 (HE.out.below HB1.out HE.out.lt)).mono ?_
        rintro e w3 ⟨v, rfl, HO, hb3⟩
        have HB3 : Hid (Below w.heap.size w w3) := HB1.out.trans (hb3.out.mono HB1.out.size)
        obtain ⟨g, cap, rfl⟩ := own_shape HO.out hl0
        clear hb3 HB1 HT HNm
        rcases key with h2 | ⟨a, b, rfl, h3⟩
        · clear HO
          go_wp2_with fail
          go_ret
          exact ⟨rfl, HB3.out⟩
        · have d0 := HO.out.cellAt 0 (by simp)
          have d1 := HO.out.cellAt 1 (by simp)
          simp [tvs] at d0 d1
          clear HO
          rcases h3 with h3 | ⟨h3, h4⟩
          · go_wp2_with fail
            go_ret
            exact ⟨rfl, HB3.out⟩
          · have h5 : (a.2.1.toList == S.toList) = false := str_ne h4
            go_wp2_with fail
            go_ret
            exact ⟨rfl, HB3.out⟩
end Go.Proofs.YtbdhgfblkgkekabDoor
