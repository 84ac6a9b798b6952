/-
  For any text: muntinlaw03.LexApart answers true. Conditions: those that each theorem names.
-/
import Derived.Test.YtbdhgfblkgkekaaDoorXAb
namespace Go.Proofs.YtbdhgfblkgkekaaDoor
open Go.RowKit
set_option linter.unusedVariables false
theorem pl_get (L : List Tok) (j : Nat) (h : j < L.length) : pl L j = (L[j]).2.2.2 := by
  unfold pl
  rw [List.getElem?_eq_getElem h]
set_option maxRecDepth 100000 in
set_option maxHeartbeats 16000000 in
theorem lapart_any (S : ByteArray) (w : World) (hE : ErrIs w) (hzS : S.size ≤ 140737488351232) :
    Calls Tryd.prog 6 #[.string S] w fun e w' => e = .returned (.bool true) ∧ Below w.heap.size w w' := by
  have HE : Hid (ErrIs w) := hE
  have HSm : Hid (Calls Tryd.prog 9 #[] w fun e w' => e = .returned (.bool true) ∧ Below w.heap.size w w') := small_ok w hE
  clear hE
  by_cases hl : 8192 < S.size
  · have HT : Hid (∀ w : World, Calls Tryd.prog 10 #[.string S] w fun e w' => e = .returned (.tuple #[.slice none 0 0, flv w.heap.size]) ∧ w' = w.alloc (.cells #[.int .i64 2, .int .i64 (-1)] 44)) := fun w => xtokens_long S w hl
    go_enter Tryd.func6, Tryd.ntmps6
    go_wp2_with fail
    refine HSm.out.mono ?_
    rintro e w1 ⟨rfl, hb1⟩
    have HB1 : Hid (Below w.heap.size w w1) := hb1
    clear hb1 HSm
    go_wp2_with fail
    refine (HT.out w1).mono ?_
    rintro e w2 ⟨rfl, hw2⟩
    have HB2 : Hid (Below w.heap.size w w2) := by rw [hw2]; exact HB1.out.alloc HB1.out.size _
    clear hw2 HT
    unfold flv
    go_wp2_with fail
    go_ret
    exact ⟨rfl, HB2.out⟩
  have HT : Hid (∀ w : World, ErrIs w → Calls Tryd.prog 10 #[.string S] w fun e w' => AnsT (tkS S) w e w') := fun w h => xtokens_any S w h (by omega)
  cases hr : tkS S with
  | inl c =>
    rw [hr] at HT
    clear hr
    go_enter Tryd.func6, Tryd.ntmps6
    go_wp2_with fail
    refine HSm.out.mono ?_
    rintro e w1 ⟨rfl, hb1⟩
    have HB1 : Hid (Below w.heap.size w w1) := hb1
    clear hb1 HSm
    go_wp2_with fail
    refine (HT.out w1 (HE.out.below HB1.out HE.out.lt)).mono ?_
    rintro e w2 ⟨q, rfl, HP⟩
    have HB2 : Hid (Below w.heap.size w w2) := HB1.out.trans (HP.out.2.2.mono HB1.out.size)
    clear HP HB1 HT
    unfold flv
    go_wp2_with fail
    go_ret
    exact ⟨rfl, HB2.out⟩
  | inr L =>
    obtain ⟨m, hCh⟩ := tkS_ch hr
    have HC : Hid (Ch S m L) := hCh
    obtain ⟨k, hk⟩ : ∃ k, k = m.length := ⟨_, rfl⟩
    have HK : Hid (k = m.length) := hk
    have HLl : Hid (L.length = k + 1) := by show _ = _; rw [hk]; exact hCh.len
    have hkS : k ≤ 8192 := by
      obtain ⟨m', h1, h2⟩ := tkS_inv hr
      have := tks_len h1
      have h3 := HLl.out
      rw [h2] at h3
      simp at h3
      omega
    have hk0 : ((k : Int) + 1 == 0) = false := by simp; omega
    rw [hr] at HT
    clear hr hCh hk
    obtain ⟨M, hM, hMc⟩ := tkS_tp HC.out
    rw [← HK.out] at hM
    have HMc : Hid (M.map core = L.map core) := hMc
    have HMl : Hid (M.length = k + 1) := by
      show _ = _
      have := congrArg List.length hMc
      simp at this
      rw [this, HLl.out]
    obtain ⟨X, hX⟩ : ∃ X, X = tp S L k := ⟨_, rfl⟩
    have HX : Hid (X = tp S L k) := hX
    rw [← hX] at hM
    have hXz : X.size ≤ 30000 := by
      have h1 := tp_le HC.out k (by rw [HK.out]; exact Nat.le_refl _)
      have h2 := HC.out.last
      rw [← HK.out] at h2
      rw [hX]; omega
    have HTX : Hid (∀ w : World, ErrIs w → X.size ≤ 8192 → Calls Tryd.prog 10 #[.string X] w fun e w' => AnsT (.inr M) w e w') := fun w h h8 => by
      have := xtokens_any X w h h8
      rw [hM] at this
      exact this
    obtain ⟨F, hF⟩ : ∃ F, F = sb S 0 := ⟨_, rfl⟩
    have hFS : F ≤ S.size := by rw [hF]; exact (sb_ge (Nat.zero_le _)).2
    have HBk : Hid (∀ w : World, Calls Tryd.prog 19 #[.string (S.extract 0 F)] w fun e w' => e = .returned (.bool true) ∧ w' = w) := fun w => by
      have := lblank_any (S.extract 0 F) w (by rw [ByteArray.size_extract]; omega)
      rw [hF, bk_first] at this
      rw [hF]
      exact this
    have HF0 : Hid (pl L 0 = F) := by show _ = _; rw [hF]; exact HC.out.2.1
    clear hM hMc hX hF
    go_enter Tryd.func6, Tryd.ntmps6
    go_wp2_with fail
    refine HSm.out.mono ?_
    rintro e w1 ⟨rfl, hb1⟩
    have HB1 : Hid (Below w.heap.size w w1) := hb1
    clear hb1 HSm
    go_wp2_with fail
    refine (HT.out w1 (HE.out.below HB1.out HE.out.lt)).mono ?_
    rintro e w2 ⟨v2, rfl, HO2, hb2⟩
    have HB2 : Hid (Below w.heap.size w w2) := HB1.out.trans (hb2.out.mono HB1.out.size)
    obtain ⟨g, cap, rfl⟩ := own_shape HO2.out (by rw [HLl.out]; omega)
    rw [HLl.out] at HO2 ⊢
    have hcap := own_cap HO2.out
    clear hb2 HB1 HT
    go_wp2_with fail
    go_loopw [6, 7] (fun t a wr => ∃ j q : Nat, t = .string (tp S L j) ∧ a = .int .i64 (j : Int) ∧ j ≤ k ∧ wr = w2.drewN q) (fun _ a _ => k - (intOf a).toNat)
    case atStart => exact ⟨0, 0, rfl, rfl, Nat.zero_le _, rfl⟩
    case round =>
      obtain ⟨j, q, rfl, rfl, hj, rfl⟩ := hrel
      by_cases hjk : j < k
      · have hjI : (j : Int) < (k : Int) := by omega
        have a0 : decide ((j : Int) < (k : Int)) = true := by simp; omega
        obtain ⟨s1, s2⟩ := HC.out.step j (by rw [← HK.out]; exact hjk)
        have e1 := (own_tok HO2.out j (by rw [HLl.out]; omega) HLl.out.symm).2.2.2.2.2.2
        obtain ⟨J, hJ⟩ : ∃ J, J = j + 1 := ⟨_, rfl⟩
        have e2 := (own_tok HO2.out J (by rw [HLl.out]; omega) HLl.out.symm).2.2.2.2.2.2
        rw [← pl_get] at e1 e2
        rw [← hJ] at s1 s2
        have HTp : Hid (tp S L J = tp S L j ++ S.extract (pl L j) (pl L J) ++ { data := #[10, 32] }) := by show _ = _; rw [hJ]; rfl
        obtain ⟨A, hA⟩ : ∃ A, A = pl L j := ⟨_, rfl⟩
        obtain ⟨B, hB⟩ : ∃ B, B = pl L J := ⟨_, rfl⟩
        rw [← hA] at e1 HTp s1
        rw [← hB] at e2 HTp s1 s2
        have g1 : decide ((A : Int) < 0) = false := by simp
        have g2 : decide ((B : Int) ≤ (A : Int)) = false := by simp; omega
        have g3 : decide ((S.size : Int) < (B : Int)) = false := by simp; omega
        have hj1 : (j : Int) < (k : Int) + 1 := by omega
        have hJI : (j : Int) + 1 = (J : Int) := by omega
        have hJ1 : (J : Int) < (k : Int) + 1 := by omega
        have hJk : J ≤ k := by omega
        have hwJ : IntKind.i64.wrap (J : Int) = (J : Int) := by rw [IntKind.wrap_i64]; omega
        have HjJ : Hid (J = j + 1) := hJ
        have hAB : (A : Int) ≤ (B : Int) := by omega
        have hBS : (B : Int) ≤ (S.size : Int) := by omega
        obtain ⟨Tj, hTj⟩ : ∃ T, T = tp S L j := ⟨_, rfl⟩
        rw [← hTj] at HTp ⊢
        obtain ⟨V, hV⟩ : ∃ V, V = S.extract A B := ⟨_, rfl⟩
        have hV2 : S.extract A B = V := hV.symm
        have hVs : V.size ≤ 8192 := by rw [hV, ByteArray.size_extract]; omega
        have hTs : Tj.size ≤ 30000 := by
          have h1 := tp_le HC.out j (by rw [← HK.out]; omega)
          have h2 := (HC.out.step j (by rw [← HK.out]; exact hjk))
          rw [hTj]; omega
        have ad1 : ∀ w : World, (Op.stringOp .add Tj V).run Tryd.prog w = .ok (.string (Tj ++ V)) w := fun w => run_string_add_sum w Tj V (by omega)
        have ad2 : ∀ w : World, (Op.stringOp .add (Tj ++ V) { data := #[10, 32] }).run Tryd.prog w = .ok (.string (Tj ++ V ++ { data := #[10, 32] })) w := fun w => run_string_add_sum w (Tj ++ V) { data := #[10, 32] } (by rw [ByteArray.size_append, show ({ data := #[10, 32] } : ByteArray).size = 2 from rfl]; omega)
        rw [← hV] at HTp
        clear hA hB hTj hJ hV
        go_wp2_with fail
        go_quiet (fail)
        go_wp2_with fail
        go_quiet (fail)
        go_wp2_with fail
        go_roundw
        case rel => exact ⟨J, _, by rw [HTp.out], rfl, hJk, rfl⟩
        case measure => have := HjJ.out; simp [intOf]; omega
      · have a0 : decide ((j : Int) < (k : Int)) = false := by simp; omega
        have hge : k ≤ j := by omega
        have hXj : tp S L j = X := by rw [HX.out, show j = k by omega]
        rw [hXj]
        obtain ⟨wz, hwz⟩ : ∃ wz, wz = w2.drewN q := ⟨_, rfl⟩
        rw [← hwz]
        have HBz2 : Hid (Below w2.heap.size w2 wz) := by rw [hwz]; exact below_drewN (Below.refl _ _) q
        have HBz : Hid (Below w.heap.size w wz) := HB2.out.trans (HBz2.out.mono HB2.out.size)
        have HOz : Hid (wz.ownsRow w1.heap.size 38 7 (.slice (some ⟨g, 0, none⟩) (k + 1) cap) (k + 1) (tvs L)) := own_keep HO2.out HBz2.out
        have eL := (own_tok HOz.out k (by rw [HLl.out]; omega) HLl.out.symm).2.2.2.2.2.2
        have eF := (own_tok HOz.out 0 (by rw [HLl.out]; omega) HLl.out.symm).2.2.2.2.2.2
        rw [← pl_get] at eL eF
        have hlast : pl L k = S.size := by rw [HK.out]; exact HC.out.last
        rw [hlast] at eL
        rw [HF0.out] at eF
        simp only [Nat.zero_mul, Nat.zero_add] at eF
        have hFI : (F : Int) ≤ (S.size : Int) := by omega
        clear hwz HBz2 HO2 HB2 hXj hlast
        go_wp2_with fail
        refine (HBk.out _).mono ?_
        rintro e w4 ⟨rfl, hw4⟩
        rw [hw4]
        clear hw4 eL eF
        by_cases h8 : 8192 < X.size
        · have c8 : decide ((8192 : Int) < (X.size : Int)) = true := by simp; omega
          have HTl := hid (xtokens_long X wz h8)
          go_wp2_with fail
          refine HTl.out.mono ?_
          rintro e w5 ⟨rfl, hw5⟩
          have HB5 : Hid (Below w.heap.size w w5) := by rw [hw5]; exact HBz.out.alloc HBz.out.size _
          have HFl : Hid (w5.heap[wz.heap.size]? = some (.cells #[.int .i64 2, .int .i64 (-1)] 44)) := by show _ = _; rw [hw5]; exact new_block_at wz _ rfl
          have HCf := hid (code_fault wz.heap.size 2 (-1) w5 (HE.out.below HB5.out HE.out.lt) HFl.out)
          clear hw5 HTl HFl
          unfold flv
          go_wp2_with fail
          refine HCf.out.mono ?_
          rintro e w6 ⟨rfl, hb6⟩
          have HB6 : Hid (Below w.heap.size w w6) := HB5.out.trans (hb6.mono HB5.out.size)
          clear hb6 HCf
          go_wp2_with fail
          go_ret
          exact ⟨rfl, HB6.out⟩
        · have c8 : decide ((8192 : Int) < (X.size : Int)) = false := by simp; omega
          have HTs := hid (HTX.out wz (HE.out.below HBz.out HE.out.lt) (by omega))
          go_wp2_with fail
          refine HTs.out.mono ?_
          rintro e w5 ⟨v5, rfl, HO5, hb5⟩
          have HB5 : Hid (Below w.heap.size w w5) := HBz.out.trans (hb5.out.mono HBz.out.size)
          obtain ⟨g5, cap5, rfl⟩ := own_shape HO5.out (by rw [HMl.out]; omega)
          rw [HMl.out] at HO5 ⊢
          have HOl : Hid (w5.ownsRow w1.heap.size 38 7 (.slice (some ⟨g, 0, none⟩) (k + 1) cap) (k + 1) (tvs L)) := own_keep HOz.out hb5.out
          have hcap5 := own_cap HO5.out
          clear hb5 HTs HOz
          go_wp2_with fail
          go_loopw [11] (fun a wr => ∃ i q : Nat, a = .int .i64 (i : Int) ∧ i ≤ k + 1 ∧ wr = w5.drewN q) (fun a _ => k + 1 - (intOf a).toNat)
          case atStart => exact ⟨0, 0, rfl, Nat.zero_le _, rfl⟩
          case round =>
            obtain ⟨i, q', rfl, hi, rfl⟩ := hrel
            by_cases hik : i < k + 1
            · have hiI : (i : Int) < (k : Int) + 1 := by omega
              have a1 : decide ((i : Int) < (k : Int) + 1) = true := by simp; omega
              have z1 := own_tok HO5.out i (by rw [HMl.out]; omega) HMl.out.symm
              have z2 := own_tok HOl.out i (by rw [HLl.out]; omega) HLl.out.symm
              have hco := core_at HMc.out i (by rw [HMl.out]; omega) (by rw [HLl.out]; omega)
              obtain ⟨t, ht⟩ : ∃ t, t = M[i]'(by rw [HMl.out]; omega) := ⟨_, rfl⟩
              obtain ⟨u, hu⟩ : ∃ u, u = L[i]'(by rw [HLl.out]; omega) := ⟨_, rfl⟩
              rw [← ht] at z1 hco
              rw [← hu] at z2 hco
              clear ht hu
              obtain ⟨kd, T, C, at'⟩ := t
              obtain ⟨kd', T', C', at''⟩ := u
              simp only [core, Prod.mk.injEq] at hco
              obtain ⟨rfl, rfl, rfl⟩ := hco
              obtain ⟨p0, p1, p2, p3, p4, p5, p6⟩ := z1
              obtain ⟨r0, r1, r2, r3, r4, r5, r6⟩ := z2
              have eqC : ∀ w : World, (Op.equalIn 10000 36 (.agg #[.int .u64 (wd C 0 : Nat), .int .u64 (wd C 1 : Nat), .int .u64 (wd C 2 : Nat), .int .u64 (wd C 3 : Nat)]) (.agg #[.int .u64 (wd C 0 : Nat), .int .u64 (wd C 1 : Nat), .int .u64 (wd C 2 : Nat), .int .u64 (wd C 3 : Nat)])).run Tryd.prog w = .ok true w := fun w => by simpa using eq_words 9998 w (wd C 0 : Nat) (wd C 1 : Nat) (wd C 2 : Nat) (wd C 3 : Nat) (wd C 0 : Nat) (wd C 1 : Nat) (wd C 2 : Nat) (wd C 3 : Nat)
              have HN : Hid (((i + 1 : Nat) : Int) = (i : Int) + 1) := by show _ = _; omega
              go_wp2_with fail
              go_quiet (fail)
              go_wp2_with fail
              go_roundw
              case rel => exact ⟨i + 1, _, by rw [HN.out], by omega, by first | rfl | (rw [World.drewN_drewN])⟩
              case measure => simp [intOf]; omega
            · have a1 : decide ((i : Int) < (k : Int) + 1) = false := by simp; omega
              have hik' : k + 1 ≤ i := by omega
              go_wp2_with fail
              go_ret
              exact ⟨rfl, below_drewN HB5.out q'⟩
end Go.Proofs.YtbdhgfblkgkekaaDoor
