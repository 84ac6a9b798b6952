/-
  For any two texts: muntinlaw03.LexNotes answers true. Conditions: those that each theorem names.
-/
import Derived.Test.YtbdhgfblkgkekaaDoorXMw
import Derived.Test.YtbdhgfblkgkekaaDoorXSm
import Derived.Test.YtbdhgfblkgkekaaDoorX18
namespace Go.Proofs.YtbdhgfblkgkekaaDoor
open Go.RowKit
set_option linter.unusedVariables false
theorem tkS_split {S : ByteArray} {l : List Tok} (h : tkS S = .inr l) : ∃ m, tks S (sb S 0) [] = .inr m ∧ tkS S = .inr (m ++ [(6, { data := #[] }, 0, S.size)]) := by
  obtain ⟨m, h1, h2⟩ := tkS_inv h
  exact ⟨m, h1, by rw [h, h2]⟩
theorem own_low {w : World} {base e size n g cap : Nat} {xs : List Value} (h : w.ownsRow base e size (.slice (some ⟨g, 0, none⟩) n cap) n xs) : base ≤ g ∧ g < w.heap.size := by
  have := h.lt g rfl
  exact this
theorem own_other {w : World} {base e size n g j : Nat} {v u : Value} {xs : List Value} (h : w.ownsRow base e size v n xs) (hg : g < base) : (w.setCell ⟨g, j, none⟩ u).ownsRow base e size v n xs :=
  h.kept (row := some g) ⟨rfl, rfl, rfl, by simp, fun i hi hne => Below.heap_setCell _ _ _ _ (fun e => hne (by rw [e]))⟩ (.inr (fun e => by have := (h.lt g e).1; omega))
theorem tvs_set (m : List Tok) (t : Tok) (p : Nat) : (tvs (m ++ [t])).set (m.length * 7 + 6) (.int .i64 (p : Int)) = tvs (m ++ [(t.1, t.2.1, t.2.2.1, p)]) := by
  rw [tvs_append, tvs_append]
  have := tvs_length m
  rw [List.set_append_right _ _ (by omega)]
  rw [this, Nat.add_sub_cancel_left]
  rfl
theorem tkl_len (S : ByteArray) : ∀ (f k : Nat) (acc m : List Tok), k ≤ S.size → tkl S f k acc = .inr m → m.length ≤ acc.length + (S.size - k)
  | 0, k, acc, m, hk, h => by rw [tkl] at h; cases h; omega
  | f + 1, k, acc, m, hk, h => by
    rw [tkl] at h
    cases hb : bt S k with
    | none => rw [hb] at h; cases h; omega
    | some x =>
      rw [hb] at h
      simp only at h
      cases ht : tokAt S k x with
      | inl c => rw [ht] at h; cases h
      | inr r =>
        obtain ⟨t, n⟩ := r
        rw [ht] at h
        simp only at h
        have h1 := tokAt_ok hb ht
        have h2 := sb_ge (S := S) (n := n) h1.2.1
        have := tkl_len S f _ _ m h2.2 h
        simp at this
        omega
theorem tks_len {S : ByteArray} {m : List Tok} (h : tks S (sb S 0) [] = .inr m) : m.length ≤ S.size := by
  have := tkl_len S _ _ [] m (sb_ge (Nat.zero_le _)).2 h
  simp at this
  omega
set_option maxRecDepth 100000 in
set_option maxHeartbeats 8000000 in
theorem lnotes_any (S N : ByteArray) (w : World) (hE : ErrIs w) (hzS : S.size ≤ 140737488351232) (hzN : N.size ≤ 140737488351232) :
    Calls Tryd.prog 8 #[.string S, .string N] w fun e w' => e = .returned (.bool true) ∧ Below w.heap.size w w' := by
  have HE : Hid (ErrIs w) := hE
  have HSm : Hid (Calls Tryd.prog 9 #[] w fun e w' => e = .returned (.bool true) ∧ Below w.heap.size w w') := small_ok w hE
  clear hE
  by_cases hl : 8192 < S.size
  · have c0 : decide ((8192 : Int) < (S.size : Int)) = true := by simp; omega
    go_enter Tryd.func8, Tryd.ntmps8
    go_wp2_with fail
    refine HSm.out.mono ?_
    rintro e w1 ⟨rfl, hb1⟩
    have HB1 : Hid (Below w.heap.size w w1) := hb1
    clear hb1 HSm
    go_wp2_with fail
    go_ret
    exact ⟨rfl, HB1.out⟩
  have c0 : decide ((8192 : Int) < (S.size : Int)) = false := by simp; omega
  by_cases hl2 : 8192 < N.size
  · have c1 : decide ((8192 : Int) < (N.size : Int)) = true := by simp; omega
    go_enter Tryd.func8, Tryd.ntmps8
    go_wp2_with fail
    refine HSm.out.mono ?_
    rintro e w1 ⟨rfl, hb1⟩
    have HB1 : Hid (Below w.heap.size w w1) := hb1
    clear hb1 HSm
    go_wp2_with fail
    go_ret
    exact ⟨rfl, HB1.out⟩
  have c1 : decide ((8192 : Int) < (N.size : Int)) = false := by simp; omega
  obtain ⟨X, hX⟩ : ∃ X, X = S ++ { data := #[10, 35] } ++ N := ⟨_, rfl⟩
  have hc : S ++ { data := #[10, 35] } ++ N = X := hX.symm
  have HXs : Hid (X.size = S.size + 2 + N.size) := by show _ = _; rw [hX, ByteArray.size_append, ByteArray.size_append]; rfl
  have hXz : X.size ≤ 20000 := by have := HXs.out; omega
  have HXd : Hid (X = S ++ { data := #[10, 35] } ++ N) := hX
  have HT : Hid (∀ w : World, ErrIs w → Calls Tryd.prog 10 #[.string S] w fun e w' => AnsT (tkS S) w e w') := fun w h => xtokens_any S w h (by omega)
  clear hX
  cases hr : tkS S with
  | inl c =>
    rw [hr] at HT
    clear hr
    go_enter Tryd.func8, Tryd.ntmps8
    go_wp2_with fail
    refine HSm.out.mono ?_
    rintro e w1 ⟨rfl, hb1⟩
    have HB1 : Hid (Below w.heap.size w w1) := hb1
    clear hb1 HSm
    go_wp2_with fail
    refine (HT.out w1 (HE.out.below HB1.out HE.out.lt)).mono ?_
    rintro e w2 ⟨q, rfl, HP⟩
    have HB2 : Hid (Below w.heap.size w w2) := HB1.out.trans (HP.out.2.2.mono HB1.out.size)
    clear HP HB1 HT
    unfold flv
    go_wp2_with fail
    go_ret
    exact ⟨rfl, HB2.out⟩
  | inr l =>
    obtain ⟨m, hm, hr2⟩ := tkS_split hr
    rw [hr2] at HT
    have HM : Hid (tks S (sb S 0) [] = .inr m) := hm
    have hml : (m ++ [((6 : Nat), ({ data := #[] } : ByteArray), (0 : Nat), S.size)]).length = m.length + 1 := by simp
    obtain ⟨k, hk⟩ : ∃ k, k = m.length := ⟨_, rfl⟩
    have hkS : k ≤ S.size := by rw [hk]; exact tks_len hm
    have hk0 : ((k : Int) + 1 == 0) = false := by simp; omega
    clear hr hr2 hm
    by_cases hbig : 8192 < X.size
    · have c2 : decide ((8192 : Int) < (X.size : Int)) = true := by simp; omega
      go_enter Tryd.func8, Tryd.ntmps8
      go_wp2_with fail
      refine HSm.out.mono ?_
      rintro e w1 ⟨rfl, hb1⟩
      have HB1 : Hid (Below w.heap.size w w1) := hb1
      clear hb1 HSm
      go_wp2_with fail
      refine (HT.out w1 (HE.out.below HB1.out HE.out.lt)).mono ?_
      rintro e w2 ⟨v, rfl, HO, hb2⟩
      have HB2 : Hid (Below w.heap.size w w2) := HB1.out.trans (hb2.out.mono HB1.out.size)
      obtain ⟨g, cap, rfl⟩ := own_shape HO.out (by simp)
      rw [hml, ← hk] at HO ⊢
      clear hb2 HB1 HT HO hml hk
      go_wp2_with fail
      go_ret
      exact ⟨rfl, HB2.out⟩
    · have c2 : decide ((8192 : Int) < (X.size : Int)) = false := by simp; omega
      go_enter Tryd.func8, Tryd.ntmps8
      go_wp2_with fail
      refine HSm.out.mono ?_
      rintro e w1 ⟨rfl, hb1⟩
      have HB1 : Hid (Below w.heap.size w w1) := hb1
      clear hb1 HSm
      go_wp2_with fail
      refine (HT.out w1 (HE.out.below HB1.out HE.out.lt)).mono ?_
      rintro e w2 ⟨v, rfl, HO, hb2⟩
      have HB2 : Hid (Below w.heap.size w w2) := HB1.out.trans (hb2.out.mono HB1.out.size)
      have HBw : Hid (w.heap.size ≤ w1.heap.size) := HB1.out.size
      obtain ⟨g, cap, rfl⟩ := own_shape HO.out (by simp)
      rw [hml, ← hk] at HO ⊢
      have HKm : Hid (k = m.length) := hk
      clear hb2 HB1 HT hml hk
      go_wp2_with fail
      go_loopw [9] (fun i wr => ∃ j : Nat, i = .int .i64 (j : Int) ∧ j ≤ N.size ∧ Hid (∀ i, i < j → ¬ bt N i = some 10) ∧ wr = w2) (fun i _ => N.size - (intOf i).toNat)
      case atStart => exact ⟨0, rfl, Nat.zero_le _, hid (fun i hi => by omega), rfl⟩
      case round =>
        obtain ⟨j, rfl, hj, HJ, rfl⟩ := hrel
        cases hb : bt N j with
        | some x =>
          obtain ⟨hkk, hxk⟩ := bt_at hb
          have hx := (bt_lt hb).2
          have a0 : decide ((j : Int) < (N.size : Int)) = true := by simp; omega
          have hkI : (j : Int) < (N.size : Int) := by omega
          by_cases h10 : x = 10
          · have a1 : ((x : Int) == 10) = true := by simp; omega
            clear hb h10
            go_wp2_with fail
            go_ret
            exact ⟨rfl, HB2.out⟩
          · have a1 : ((x : Int) == 10) = false := by simp; omega
            have HJ2 : Hid (∀ i, i < j + 1 → ¬ bt N i = some 10) := fun i hi => by
              rcases Nat.lt_or_ge i j with h1 | h1
              · exact HJ.out i h1
              · obtain rfl : i = j := by omega
                rw [hb]; simp; exact h10
            have HN : Hid (((j + 1 : Nat) : Int) = (j : Int) + 1) := by show _ = _; omega
            clear hb h10
            go_wp2_with fail
            go_roundw
            case rel => exact ⟨j + 1, by rw [HN.out], by omega, HJ2, trivial⟩
            case measure => simp [intOf]; omega
        | none =>
          have hge := bt_none hb
          have a0 : decide ((j : Int) < (N.size : Int)) = false := by simp; omega
          have hbt : ∀ i, bt X i = if i < S.size then bt S i else if i < S.size + 2 then bt { data := #[10, 35] } (i - S.size) else bt N (i - S.size - 2) := fun i => by
            rw [HXd.out, bt_app, ByteArray.size_append, show ({ data := #[10, 35] } : ByteArray).size = 2 from rfl]
            by_cases h1 : i < S.size
            · rw [if_pos h1, if_pos (by omega), bt_app, if_pos h1]
            · rw [if_neg h1]
              by_cases h2 : i < S.size + 2
              · rw [if_pos h2, if_pos h2, bt_app, if_neg h1]
              · rw [if_neg h2, if_neg h2, Nat.sub_sub]
          have hXt : tkS X = .inr (m ++ [(6, { data := #[] }, 0, X.size)]) := tkS_note
            (fun i hi => by rw [Nat.zero_add, hbt, if_pos hi])
            (by rw [hbt, if_neg (by omega), if_pos (by omega), Nat.sub_self]; rfl)
            (by rw [hbt, if_neg (by omega), if_pos (by omega), Nat.add_sub_cancel_left]; rfl)
            (fun i hi => by
              rw [hbt, if_neg (by omega)]
              by_cases h2 : i < S.size + 2
              · rw [if_pos h2, show i - S.size = 1 by omega]
                intro h; cases h
              · rw [if_neg h2]
                intro h
                have := (bt_lt h).1
                exact HJ.out _ (by omega) h)
            HM.out
          have HT2 : Hid (∀ w : World, ErrIs w → Calls Tryd.prog 10 #[.string X] w fun e w' => AnsT (.inr (m ++ [(6, { data := #[] }, 0, X.size)])) w e w') := fun w h => by
            have := xtokens_any X w h (by omega)
            rw [hXt] at this
            exact this
          have hml2 : (m ++ [((6 : Nat), ({ data := #[] } : ByteArray), (0 : Nat), X.size)]).length = k + 1 := by rw [HKm.out]; simp
          clear hb hbt hXt HJ
          go_wp2_with fail
          refine (HT2.out _ (HE.out.below HB2.out HE.out.lt)).mono ?_
          rintro e w3 ⟨v3, rfl, HO3, hb3⟩
          obtain ⟨g3, cap3, rfl⟩ := own_shape HO3.out (by simp)
          rw [hml2] at HO3 ⊢
          have hlow := own_low HO.out
          have HB3 : Hid (Below w.heap.size w w3) := HB2.out.trans (hb3.out.mono HB2.out.size)
          have HO4 : Hid (w3.ownsRow w1.heap.size 38 7 (.slice (some ⟨g, 0, none⟩) (k + 1) cap) (k + 1) (tvs (m ++ [(6, { data := #[] }, 0, S.size)]))) := own_keep HO.out hb3.out
          have HBw2 := HBw.out
          have d0 := HO4.out.cellAt (k * 7 + 6) (by omega)
          have hf0 := HO4.out.frozenAt (k * 7 + 6)
          have hd0 : (tvs (m ++ [((6 : Nat), ({ data := #[] } : ByteArray), (0 : Nat), S.size)]))[k * 7 + 6]? = some (.int .i64 (S.size : Int)) := by
            rw [HKm.out]; exact tvs_get m _ [] 6 _ rfl
          rw [hd0] at d0
          have HO5 : Hid ((w3.setCell ⟨g, k * 7 + 6, none⟩ (.int .i64 (X.size : Int))).ownsRow w1.heap.size 38 7 (.slice (some ⟨g, 0, none⟩) (k + 1) cap) (k + 1) (tvs (m ++ [(6, { data := #[] }, 0, X.size)]))) := by
            have := HO4.out.stored (k * 7 + 6) (.int .i64 (X.size : Int))
            have h2 := tvs_set m (6, { data := #[] }, 0, S.size) X.size
            rw [← HKm.out] at h2
            rw [h2] at this
            exact this.1
          have HO6 : Hid ((w3.setCell ⟨g, k * 7 + 6, none⟩ (.int .i64 (X.size : Int))).ownsRow wr.heap.size 38 7 (.slice (some ⟨g3, 0, none⟩) (k + 1) cap3) (k + 1) (tvs (m ++ [(6, { data := #[] }, 0, X.size)]))) := own_other HO3.out (by omega)
          have HSa : Hid (Calls Tryd.prog 14 #[.slice (some ⟨g, 0, none⟩) (k + 1) cap, .slice (some ⟨g3, 0, none⟩) (k + 1) cap3] (w3.setCell ⟨g, k * 7 + 6, none⟩ (.int .i64 (X.size : Int))) fun e w' => e = .returned (.bool true) ∧ Below (w3.setCell ⟨g, k * 7 + 6, none⟩ (.int .i64 (X.size : Int))).heap.size (w3.setCell ⟨g, k * 7 + 6, none⟩ (.int .i64 (X.size : Int))) w') := by
            have := qSame_any _ _ _ _ (m ++ [(6, { data := #[] }, 0, X.size)]) _ (by rw [hml2]; exact HO5.out) (by rw [hml2]; exact HO6.out) (by rw [hml2]; omega)
            exact this
          have HB4 : Hid (Below w.heap.size w (w3.setCell ⟨g, k * 7 + 6, none⟩ (.int .i64 (X.size : Int)))) := HB3.out.setCell (by show w.heap.size ≤ g; omega) _
          have hcap := own_cap HO4.out
          clear hb3 HO3 HO4 HO5 HO6 HO hd0 HT2
          go_wp2_with fail
          refine HSa.out.mono ?_
          rintro e w5 ⟨rfl, hb5⟩
          have HB5 : Hid (Below w.heap.size w w5) := HB4.out.trans (hb5.mono HB4.out.size)
          clear hb5 HSa
          go_wp2_with fail
          go_ret
          exact ⟨rfl, HB5.out⟩
end Go.Proofs.YtbdhgfblkgkekaaDoor
