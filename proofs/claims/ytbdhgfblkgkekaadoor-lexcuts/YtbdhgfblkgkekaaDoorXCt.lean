/-
  For any text: muntinlaw03.LexCuts answers true. Conditions: those that each theorem names.
-/
import Derived.Test.YtbdhgfblkgkekaaDoorX25
import Derived.Test.YtbdhgfblkgkekaaDoorXNt
import Derived.Maps.AppendAt
namespace Go.Proofs.YtbdhgfblkgkekaaDoor
open Go.RowKit
set_option linter.unusedVariables false
/-- What stays while a row is written over. -/
def Sp (w : World) (b1 b2 b3 : Nat) (v1 v2 v3 : Value) (n : Nat) (L : List Tok) (w' : World) : Prop :=
  Hid (Below w.heap.size w w') ∧ Hid (∃ xs, w'.ownsRow b1 38 7 v1 (n + 1) xs) ∧ Hid (w'.ownsRow b2 38 7 v2 n (tvs L)) ∧ Hid (w'.ownsRow b3 38 7 v3 n (tvs L))
theorem own_apart {w : World} {base e size n g j : Nat} {v u : Value} {xs : List Value} (h : w.ownsRow base e size v n xs) (hg : v.ownBlock ≠ some g) : (w.setCell ⟨g, j, none⟩ u).ownsRow base e size v n xs :=
  h.kept (row := some g) ⟨rfl, rfl, rfl, by simp, fun i hi hne => Below.heap_setCell _ _ _ _ (fun e => hne (by rw [e]))⟩ (.inr hg)
theorem Sp.store {w w' : World} {b1 b2 b3 g cap n j : Nat} {v2 v3 u : Value} {L : List Tok} (h : Sp w b1 b2 b3 (.slice (some ⟨g, 0, none⟩) (n + 1) cap) v2 v3 n L w') (hg : w.heap.size ≤ g) (h2 : v2.ownBlock ≠ some g) (h3 : v3.ownBlock ≠ some g) :
    Sp w b1 b2 b3 (.slice (some ⟨g, 0, none⟩) (n + 1) cap) v2 v3 n L (w'.setCell ⟨g, j, none⟩ u) := by
  obtain ⟨xs, hx⟩ := h.2.1.out
  exact ⟨hid (h.1.out.setCell hg _), hid ⟨_, (hx.stored j u).1⟩, hid (own_apart h.2.2.1.out h2), hid (own_apart h.2.2.2.out h3)⟩
theorem own_some {w : World} {base g n cap : Nat} {xs : List Value} (h : w.ownsRow base 38 7 (.slice (some ⟨g, 0, none⟩) n cap) n xs) (j : Nat) (hj : j < n * 7) : ∃ u, w.cell? ⟨g, j, none⟩ = some u := by
  rw [h.cellAt j hj]
  have hl := h.1
  exact ⟨_, List.getElem?_eq_getElem (by omega)⟩
theorem tkl_code (S : ByteArray) : ∀ (f k : Nat) (acc : List Tok) (c : Nat × Nat), tkl S f k acc = .inl c → ((c.1 : Nat) : Int) ≠ 0
  | 0, k, acc, c, h => by rw [tkl] at h; cases h
  | f + 1, k, acc, c, h => by
    rw [tkl] at h
    cases hb : bt S k with
    | none => rw [hb] at h; cases h
    | some x =>
      rw [hb] at h
      simp only at h
      cases ht : tokAt S k x with
      | inl b =>
        rw [ht] at h
        simp only [Sum.inl.injEq] at h
        rw [← h]
        exact wrg_code (tokAt_wrong hb ht).1
      | inr r =>
        obtain ⟨t, n⟩ := r
        rw [ht] at h
        exact tkl_code S f _ _ c h
theorem tkS_code {S : ByteArray} {c : Nat × Nat} (h : tkS S = .inl c) : ((c.1 : Nat) : Int) ≠ 0 := by
  unfold tkS at h
  cases hm : tks S (sb S 0) [] with
  | inl d =>
    rw [hm] at h
    simp only [tkE, Sum.inl.injEq] at h
    rw [← h]
    exact tkl_code S _ _ _ d hm
  | inr l => rw [hm] at h; cases h
set_option maxRecDepth 100000 in
set_option maxHeartbeats 8000000 in
theorem lcuts_any (S : ByteArray) (w : World) (hE : ErrIs w) (hzS : S.size ≤ 140737488351232) :
    Calls Tryd.prog 3 #[.string S] w fun e w' => e = .returned (.bool true) ∧ Below w.heap.size w w' := by
  obtain ⟨iT, hiT, hzT0, hzT1, hzT2⟩ := info_parts Tryd.infoTok
  have HE : Hid (ErrIs w) := hE
  have HSm : Hid (Calls Tryd.prog 9 #[] w fun e w' => e = .returned (.bool true) ∧ Below w.heap.size w w') := small_ok w hE
  clear hE
  by_cases hl : 8192 < S.size
  · have HT : Hid (∀ w : World, Calls Tryd.prog 10 #[.string S] w fun e w' => e = .returned (.tuple #[.slice none 0 0, flv w.heap.size]) ∧ w' = w.alloc (.cells #[.int .i64 2, .int .i64 (-1)] 44)) := fun w => xtokens_long S w hl
    have HQ : Hid (∀ w : World, Calls Tryd.prog 11 #[.string S] w fun e w' => e = .returned (.tuple #[.slice none 0 0, .int .i64 (-1), .int .i64 2]) ∧ w' = w) := fun w => qtokens_long S w hl
    go_enter Tryd.func3, Tryd.ntmps3
    go_wp2_with fail
    refine HSm.out.mono ?_
    rintro e w1 ⟨rfl, hb1⟩
    have HB1 : Hid (Below w.heap.size w w1) := hb1
    clear hb1 HSm
    go_wp2_with fail
    refine (HT.out w1).mono ?_
    rintro e w2 ⟨rfl, hw2⟩
    have HB2 : Hid (Below w.heap.size w w2) := by rw [hw2]; exact HB1.out.alloc HB1.out.size _
    have HF : Hid (w2.heap[w1.heap.size]? = some (.cells #[.int .i64 2, .int .i64 (-1)] 44)) := by show _ = _; rw [hw2]; exact new_block_at w1 _ rfl
    have hq2 : w1.heap.size < w2.heap.size := by rw [hw2]; simp
    clear hw2
    unfold flv
    go_wp2_with fail
    refine (HT.out w2).mono ?_
    rintro e w3 ⟨rfl, hw3⟩
    have HB3 : Hid (Below w.heap.size w w3) := by rw [hw3]; exact HB2.out.alloc HB2.out.size _
    have HF3 : Hid (w3.heap[w1.heap.size]? = some (.cells #[.int .i64 2, .int .i64 (-1)] 44)) := by show _ = _; rw [hw3]; exact (Below.heap_alloc w2 _ _ hq2).trans HF.out
    have hq3 : w1.heap.size < w3.heap.size := by rw [hw3]; simp; omega
    clear hw3 HF
    unfold flv
    go_wp2_with fail
    refine (HQ.out w3).mono ?_
    rintro e w4 ⟨rfl, hw4⟩
    rw [hw4]
    clear hw4
    have HC := hid (code_fault w1.heap.size 2 (-1) w3 (HE.out.below HB3.out HE.out.lt) HF3.out)
    clear HT HQ
    go_wp2_with fail
    refine HC.out.mono ?_
    rintro e w5 ⟨rfl, hb5⟩
    have HB5 : Hid (Below w.heap.size w w5) := HB3.out.trans (hb5.mono HB3.out.size)
    have HA := hid (at_fault w1.heap.size 2 (-1) w5 (HE.out.below HB5.out HE.out.lt) ((hb5.block _ hq3).trans HF3.out))
    clear hb5 HC HF3
    go_wp2_with fail
    refine HA.out.mono ?_
    rintro e w6 ⟨rfl, hb6⟩
    have HB6 : Hid (Below w.heap.size w w6) := HB5.out.trans (hb6.mono HB5.out.size)
    clear hb6 HA
    go_wp2_with fail
    go_ret
    exact ⟨rfl, HB6.out⟩
  have HT : Hid (∀ w : World, ErrIs w → Calls Tryd.prog 10 #[.string S] w fun e w' => AnsT (tkS S) w e w') := fun w h => xtokens_any S w h (by omega)
  have HQ : Hid (∀ w : World, Calls Tryd.prog 11 #[.string S] w fun e w' => AnsQ (tkS S) w e w') := fun w => qtokens_any S w (by omega)
  cases hr : tkS S with
  | inl c =>
    have hc0 : (((c.1 : Nat) : Int) != 0) = true := by rw [bne_iff_ne]; exact tkS_code hr
    rw [hr] at HT HQ
    clear hr
    go_enter Tryd.func3, Tryd.ntmps3
    go_wp2_with fail
    refine HSm.out.mono ?_
    rintro e w1 ⟨rfl, hb1⟩
    have HB1 : Hid (Below w.heap.size w w1) := hb1
    clear hb1 HSm
    go_wp2_with fail
    refine (HT.out w1 (HE.out.below HB1.out HE.out.lt)).mono ?_
    rintro e w2 ⟨q, rfl, HP⟩
    have HB2 : Hid (Below w.heap.size w w2) := HB1.out.trans (HP.out.2.2.mono HB1.out.size)
    have HF : Hid (Flt w2 q c) := HP.out.2.1
    clear HP HB1
    unfold flv
    go_wp2_with fail
    refine (HT.out w2 (HE.out.below HB2.out HE.out.lt)).mono ?_
    rintro e w3 ⟨q3, rfl, HP⟩
    have HB3 : Hid (Below w.heap.size w w3) := HB2.out.trans (HP.out.2.2.mono HB2.out.size)
    have HF3 : Hid (Flt w3 q c) := (HP.out.2.2.block q HF.out.lt).trans HF.out
    clear HP HF
    unfold flv
    go_wp2_with fail
    refine (HQ.out w3).mono ?_
    rintro e w4 ⟨rfl, hb4⟩
    have HB4 : Hid (Below w.heap.size w w4) := HB3.out.trans (hb4.mono HB3.out.size)
    have HF4 : Hid (Flt w4 q c) := (hb4.block q HF3.out.lt).trans HF3.out
    have HC := hid (code_fault q c.1 c.2 w4 (HE.out.below HB4.out HE.out.lt) HF4.out)
    clear HT HQ hb4 HF3
    go_wp2_with fail
    refine HC.out.mono ?_
    rintro e w5 ⟨rfl, hb5⟩
    have HB5 : Hid (Below w.heap.size w w5) := HB4.out.trans (hb5.mono HB4.out.size)
    have HA := hid (at_fault q c.1 c.2 w5 (HE.out.below HB5.out HE.out.lt) ((hb5.block _ HF4.out.lt).trans HF4.out))
    clear hb5 HC HF4
    go_wp2_with fail
    refine HA.out.mono ?_
    rintro e w6 ⟨rfl, hb6⟩
    have HB6 : Hid (Below w.heap.size w w6) := HB5.out.trans (hb6.mono HB5.out.size)
    clear hb6 HA
    go_wp2_with fail
    go_ret
    exact ⟨rfl, HB6.out⟩
  | inr L =>
    obtain ⟨m, hm, hL⟩ := tkS_inv hr
    have hLl : L.length ≤ 8193 := by rw [hL]; have := tks_len hm; simp; omega
    have hL0 : 0 < L.length := by rw [hL]; simp
    rw [hr] at HT HQ
    obtain ⟨n, hn⟩ : ∃ n, n = L.length := ⟨_, rfl⟩
    have HNl : Hid (n = L.length) := hn
    have hn1 : n ≤ 8193 := by omega
    have hn0 : 0 < n := by omega
    clear hr hm hL hn hLl
    go_enter Tryd.func3, Tryd.ntmps3
    go_wp2_with fail
    refine HSm.out.mono ?_
    rintro e w1 ⟨rfl, hb1⟩
    have HB1 : Hid (Below w.heap.size w w1) := hb1
    clear hb1 HSm
    go_wp2_with fail
    refine (HT.out w1 (HE.out.below HB1.out HE.out.lt)).mono ?_
    rintro e w2 ⟨v2, rfl, HO2, hb2⟩
    have HB2 : Hid (Below w.heap.size w w2) := HB1.out.trans (hb2.out.mono HB1.out.size)
    obtain ⟨g2, cap2, rfl⟩ := own_shape HO2.out hL0
    rw [← HNl.out] at HO2 ⊢
    have hg2 := own_low HO2.out
    have hw1 : w.heap.size ≤ w1.heap.size := HB1.out.size
    clear hb2 HB1
    go_wp2_with fail
    refine (HT.out w2 (HE.out.below HB2.out HE.out.lt)).mono ?_
    rintro e w3 ⟨v3, rfl, HO3, hb3⟩
    have HB3 : Hid (Below w.heap.size w w3) := HB2.out.trans (hb3.out.mono HB2.out.size)
    have HO23 : Hid (w3.ownsRow w1.heap.size 38 7 (.slice (some ⟨g2, 0, none⟩) n cap2) n (tvs L)) := own_keep HO2.out hb3.out
    obtain ⟨g3, cap3, rfl⟩ := own_shape HO3.out hL0
    rw [← HNl.out] at HO3 ⊢
    have hg3 := own_low HO3.out
    have hw3 : w2.heap.size ≤ w3.heap.size := hb3.out.size
    clear hb3 HO2
    go_wp2_with fail
    refine (HQ.out w3).mono ?_
    rintro e w4 ⟨v4, rfl, HO4, hb4⟩
    have HB4 : Hid (Below w.heap.size w w4) := HB3.out.trans (hb4.out.mono HB3.out.size)
    have HO24 : Hid (w4.ownsRow w1.heap.size 38 7 (.slice (some ⟨g2, 0, none⟩) n cap2) n (tvs L)) := own_keep HO23.out hb4.out
    have HO34 : Hid (w4.ownsRow w2.heap.size 38 7 (.slice (some ⟨g3, 0, none⟩) n cap3) n (tvs L)) := own_keep HO3.out hb4.out
    obtain ⟨g4, cap4, rfl⟩ := own_shape HO4.out hL0
    rw [← HNl.out] at HO4 ⊢
    have hg4 := own_low HO4.out
    have hw4 : w3.heap.size ≤ w4.heap.size := hb4.out.size
    have HS1 := hid (qSame_any _ _ _ _ L w4 (by rw [← HNl.out]; exact HO24.out) (by rw [← HNl.out]; exact HO4.out) (by rw [← HNl.out]; omega))
    clear hb4 HO23 HO3 HT HQ
    go_wp2_with fail
    refine HS1.out.mono ?_
    rintro e w5 ⟨rfl, hb5⟩
    have HB5 : Hid (Below w.heap.size w w5) := HB4.out.trans (hb5.mono HB4.out.size)
    have HO25 : Hid (w5.ownsRow w1.heap.size 38 7 (.slice (some ⟨g2, 0, none⟩) n cap2) n (tvs L)) := own_keep HO24.out hb5
    have HO35 : Hid (w5.ownsRow w2.heap.size 38 7 (.slice (some ⟨g3, 0, none⟩) n cap3) n (tvs L)) := own_keep HO34.out hb5
    have HO45 : Hid (w5.ownsRow w3.heap.size 38 7 (.slice (some ⟨g4, 0, none⟩) n cap4) n (tvs L)) := own_keep HO4.out hb5
    have hw5 : w4.heap.size ≤ w5.heap.size := hb5.size
    clear hb5 HS1 HO24 HO34 HO4
    go_wp2_with (first | (at_builtin; refine wpList_append_own_at _ rfl (.tmp 54) (.tmp 56) 23 rfl w1.heap.size 38 iT (.agg #[.int .i64 0, .string { data := #[] }, .int .u64 0, .int .u64 0, .int .u64 0, .int .u64 0, .int .i64 0]) 7 64 Tryd.underlying23 hiT hzT0 hzT1 hzT2 rfl (by decide) _ _ _ rfl (HO25.out.alloc _) ⟨w5.heap.size, 0, none⟩ 1 1 [.int .i64 0, .string { data := #[109, 111, 114, 101] }, .int .u64 0, .int .u64 0, .int .u64 0, .int .u64 0, .int .i64 0] rfl rfl (by simpa using seven_new w5 _ _ _ _ _ _ _ 38) (seven_ok _ _ _ _ _ _ _) (by unfold maxLen; omega) (by omega) (by simp; omega) ?_; intro v6 w6 hown6 hgr6 hnil6 hblk6))
    obtain ⟨g6, cap6, rfl⟩ := own_shape hown6 (by omega)
    have hg6 : g6 = g2 ∨ g6 = w5.heap.size + 1 := by
      have hblk7 : some g6 = some g2 ∨ some g6 = some (w5.alloc (.cells #[.int .i64 0, .string { data := #[109, 111, 114, 101] }, .int .u64 0, .int .u64 0, .int .u64 0, .int .u64 0, .int .i64 0] 38)).heap.size := hblk6
      rcases hblk7 with h | h
      · left; exact Option.some.inj h
      · right; simpa using Option.some.inj h
    have hgr7 : (w5.alloc (.cells #[.int .i64 0, .string { data := #[109, 111, 114, 101] }, .int .u64 0, .int .u64 0, .int .u64 0, .int .u64 0, .int .i64 0] 38)).grownBy w6 (some g2) := hgr6
    have h63 : g6 ≠ g3 ∧ g6 ≠ g4 ∧ w.heap.size ≤ g6 := by omega
    have HSp : Hid (Sp w w1.heap.size w2.heap.size w3.heap.size (.slice (some ⟨g6, 0, none⟩) (n + 1) cap6) (.slice (some ⟨g3, 0, none⟩) n cap3) (.slice (some ⟨g4, 0, none⟩) n cap4) n L w6) := by
      refine ⟨hid ((HB5.out.alloc HB5.out.size _).grown hgr7 (by simp; omega) (fun y e => by have := Option.some.inj e; omega)), hid ⟨_, hown6⟩, hid ((HO35.out.alloc _).kept hgr7 (.inr (fun e => by have : g3 = g2 := Option.some.inj e; omega))), hid ((HO45.out.alloc _).kept hgr7 (.inr (fun e => by have : g4 = g2 := Option.some.inj e; omega)))⟩
    have hcap6 := own_cap hown6
    clear hown6 hgr6 hgr7 hnil6 hblk6 hg6 HO25 HO35 HO45
    go_loopw [12] (fun i wr => ∃ j : Nat, i = .int .i64 (j : Int) ∧ j ≤ n + 1 ∧ Hid (Sp w w1.heap.size w2.heap.size w3.heap.size (.slice (some ⟨g6, 0, none⟩) (n + 1) cap6) (.slice (some ⟨g3, 0, none⟩) n cap3) (.slice (some ⟨g4, 0, none⟩) n cap4) n L wr)) (fun i _ => n + 1 - (intOf i).toNat)
    case atStart => exact ⟨0, rfl, Nat.zero_le _, HSp⟩
    case round =>
      obtain ⟨j, rfl, hj, HJ⟩ := hrel
      clear HSp
      by_cases hjn : j < n + 1
      · have hjI : (j : Int) < (n : Int) + 1 := by omega
        have a0 : decide ((j : Int) < (n : Int) + 1) = true := by simp; omega
        obtain ⟨xs, hx⟩ := HJ.out.2.1.out
        obtain ⟨u0, c0⟩ := own_some hx (j * 7) (by omega)
        obtain ⟨u1, c1⟩ := own_some hx (j * 7 + 1) (by omega)
        obtain ⟨u2', c2⟩ := own_some hx (j * 7 + 2) (by omega)
        obtain ⟨u3', c3⟩ := own_some hx (j * 7 + 3) (by omega)
        obtain ⟨u4', c4⟩ := own_some hx (j * 7 + 4) (by omega)
        obtain ⟨u5', c5⟩ := own_some hx (j * 7 + 5) (by omega)
        obtain ⟨u6', c6⟩ := own_some hx (j * 7 + 6) (by omega)
        have f0 := hx.frozenAt (j * 7)
        have f1 := hx.frozenAt (j * 7 + 1)
        have f2 := hx.frozenAt (j * 7 + 2)
        have f3 := hx.frozenAt (j * 7 + 3)
        have f4 := hx.frozenAt (j * 7 + 4)
        have f5 := hx.frozenAt (j * 7 + 5)
        have f6 := hx.frozenAt (j * 7 + 6)
        have HN : Hid (((j + 1 : Nat) : Int) = (j : Int) + 1) := by show _ = _; omega
        clear hx
        go_wp2_with fail
        have n2 : (Value.slice (some ⟨g3, 0, none⟩) n cap3).ownBlock ≠ some g6 := fun e => by have : g3 = g6 := Option.some.inj e; omega
        have n3 : (Value.slice (some ⟨g4, 0, none⟩) n cap4).ownBlock ≠ some g6 := fun e => by have : g4 = g6 := Option.some.inj e; omega
        go_roundw
        case rel => exact ⟨j + 1, by rw [HN.out], by omega, hid (((((((HJ.out.store h63.2.2 n2 n3).store h63.2.2 n2 n3).store h63.2.2 n2 n3).store h63.2.2 n2 n3).store h63.2.2 n2 n3).store h63.2.2 n2 n3).store h63.2.2 n2 n3)⟩
        case measure => simp [intOf]; omega
      · have a0 : decide ((j : Int) < (n : Int) + 1) = false := by simp; omega
        have hge : n + 1 ≤ j := by omega
        have HS2 := hid (qSame_any _ _ _ _ L wr (by rw [← HNl.out]; exact HJ.out.2.2.1.out) (by rw [← HNl.out]; exact HJ.out.2.2.2.out) (by rw [← HNl.out]; omega))
        have HB7 : Hid (Below w.heap.size w wr) := HJ.out.1
        clear HJ
        go_wp2_with fail
        refine HS2.out.mono ?_
        rintro e w8 ⟨rfl, hb8⟩
        have HB8 : Hid (Below w.heap.size w w8) := HB7.out.trans (hb8.mono HB7.out.size)
        clear hb8 HS2
        go_wp2_with fail
        go_ret
        exact ⟨rfl, HB8.out⟩
end Go.Proofs.YtbdhgfblkgkekaaDoor
