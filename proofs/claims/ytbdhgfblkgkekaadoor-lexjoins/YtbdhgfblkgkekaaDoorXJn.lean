/-
  For any two texts: muntinlaw03.LexJoins answers true. Conditions: those that each theorem names.
-/
import Derived.Test.YtbdhgfblkgkekaaDoorXNt
namespace Go.Proofs.YtbdhgfblkgkekaaDoor
open Go.RowKit
set_option linter.unusedVariables false
theorem tkl_all (S : ByteArray) (Q : Tok → Prop) (hQ : ∀ p x t n, bt S p = some x → tokAt S p x = .inr (t, n) → Q t) : ∀ (f k : Nat) (acc m : List Tok), (∀ t ∈ acc, Q t) → tkl S f k acc = .inr m → ∀ t ∈ m, Q t
  | 0, k, acc, m, ha, h => by rw [tkl] at h; cases h; exact ha
  | f + 1, k, acc, m, ha, h => by
    rw [tkl] at h
    cases hb : bt S k with
    | none => rw [hb] at h; cases h; exact ha
    | some x =>
      rw [hb] at h
      simp only at h
      cases ht : tokAt S k x with
      | inl c => rw [ht] at h; cases h
      | inr r =>
        obtain ⟨t, n⟩ := r
        rw [ht] at h
        exact tkl_all S Q hQ f _ _ m (fun u hu => by
          rcases List.mem_append.1 hu with h1 | h1
          · exact ha u h1
          · simp at h1; subst h1; exact hQ k x u n hb ht) h
theorem tks_all {S : ByteArray} {k : Nat} {m : List Tok} (h : tks S k [] = .inr m) : ∀ t ∈ m, t.2.2.1 < 2 ^ 256 ∧ t.2.2.2 ≤ S.size :=
  tkl_all S _ (fun p x t n hb ht => by
    have h1 := tokAt_ok hb ht
    have h2 := (bt_lt hb).1
    exact ⟨h1.2.2.1, by rw [h1.2.2.2.1]; omega⟩) _ _ [] m (fun t ht => by simp at ht) h
theorem tvs_ok (L : List Tok) : ∀ u ∈ tvs L, u.oneCell' = true := by
  induction L with
  | nil => intro u hu; simp [tvs] at hu
  | cons t r ih =>
    intro u hu
    simp only [tvs, List.mem_cons] at hu
    rcases hu with rfl | rfl | rfl | rfl | rfl | rfl | rfl | hu
    · rfl
    · rfl
    · rfl
    · rfl
    · rfl
    · rfl
    · rfl
    · exact ih u hu
theorem own_front {w : World} {base g n cap : Nat} {m r : List Tok} (h : w.ownsRow base 38 7 (.slice (some ⟨g, 0, none⟩) n cap) n (tvs (m ++ r))) (hn : n = (m ++ r).length) : ∀ j x, (tvs m)[j]? = some x → w.cell? ((⟨g, 0, none⟩ : Addr).add j) = some x := by
  intro j x hj
  have hjl : j < (tvs m).length := by
    rcases Nat.lt_or_ge j (tvs m).length with h1 | h1
    · exact h1
    · rw [List.getElem?_eq_none h1] at hj; cases hj
  have h2 := tvs_length m
  rw [List.length_append] at hn
  rw [Addr.add_lit, Nat.zero_add, h.cellAt j (by omega), tvs_append, List.getElem?_append_left hjl]
  exact hj
theorem take_succ_map (f : Tok → Tok) (L : List Tok) (j : Nat) (hj : j < L.length) : (L.take (j + 1)).map f = (L.take j).map f ++ [f L[j]] := by
  rw [List.take_succ_eq_append_getElem hj, List.map_append]; rfl
set_option maxRecDepth 100000 in
set_option maxHeartbeats 8000000 in
theorem ljoins_any (S U : ByteArray) (w : World) (hE : ErrIs w) (hzS : S.size ≤ 140737488351232) (hzU : U.size ≤ 140737488351232) :
    Calls Tryd.prog 7 #[.string S, .string U] w fun e w' => e = .returned (.bool true) ∧ Below w.heap.size w w' := by
  obtain ⟨iT, hiT, hzT0, hzT1, hzT2⟩ := info_parts Tryd.infoTok
  have HE : Hid (ErrIs w) := hE
  have HSm : Hid (Calls Tryd.prog 9 #[] w fun e w' => e = .returned (.bool true) ∧ Below w.heap.size w w') := small_ok w hE
  clear hE
  by_cases hl : 8192 < S.size
  · have c0 : decide ((8192 : Int) < (S.size : Int)) = true := by simp; omega
    go_enter Tryd.func7, Tryd.ntmps7
    go_wp2_with fail
    refine HSm.out.mono ?_
    rintro e w1 ⟨rfl, hb1⟩
    have HB1 : Hid (Below w.heap.size w w1) := hb1
    clear hb1 HSm
    go_wp2_with fail
    go_ret
    exact ⟨rfl, HB1.out⟩
  have c0 : decide ((8192 : Int) < (S.size : Int)) = false := by simp; omega
  by_cases hl2 : 8192 < U.size
  · have c1 : decide ((8192 : Int) < (U.size : Int)) = true := by simp; omega
    go_enter Tryd.func7, Tryd.ntmps7
    go_wp2_with fail
    refine HSm.out.mono ?_
    rintro e w1 ⟨rfl, hb1⟩
    have HB1 : Hid (Below w.heap.size w w1) := hb1
    clear hb1 HSm
    go_wp2_with fail
    go_ret
    exact ⟨rfl, HB1.out⟩
  have c1 : decide ((8192 : Int) < (U.size : Int)) = false := by simp; omega
  have HT : Hid (∀ w : World, ErrIs w → Calls Tryd.prog 10 #[.string S] w fun e w' => AnsT (tkS S) w e w') := fun w h => xtokens_any S w h (by omega)
  have HU : Hid (∀ w : World, ErrIs w → Calls Tryd.prog 10 #[.string U] w fun e w' => AnsT (tkS U) w e w') := fun w h => xtokens_any U w h (by omega)
  cases hr : tkS S with
  | inl c =>
    rw [hr] at HT
    clear hr
    go_enter Tryd.func7, Tryd.ntmps7
    go_wp2_with fail
    refine HSm.out.mono ?_
    rintro e w1 ⟨rfl, hb1⟩
    have HB1 : Hid (Below w.heap.size w w1) := hb1
    clear hb1 HSm
    go_wp2_with fail
    refine (HT.out w1 (HE.out.below HB1.out HE.out.lt)).mono ?_
    rintro e w2 ⟨q, rfl, HP⟩
    have HB2 : Hid (Below w.heap.size w w2) := HB1.out.trans (HP.out.2.2.mono HB1.out.size)
    clear HP HB1 HT
    unfold flv
    go_wp2_with fail
    refine (HU.out w2 (HE.out.below HB2.out HE.out.lt)).mono ?_
    intro e w3 hA
    cases hu : tkS U with
    | inl c2 =>
      rw [hu] at hA
      obtain ⟨q2, rfl, HP⟩ := hA
      have HB3 : Hid (Below w.heap.size w w3) := HB2.out.trans (HP.out.2.2.mono HB2.out.size)
      clear HP HU hu
      unfold flv
      go_wp2_with fail
      go_ret
      exact ⟨rfl, HB3.out⟩
    | inr l2 =>
      rw [hu] at hA
      obtain ⟨v3, rfl, HO3, hb3⟩ := hA
      have HB3 : Hid (Below w.heap.size w w3) := HB2.out.trans (hb3.out.mono HB2.out.size)
      clear HU hu hb3
      go_wp2_with fail
      go_ret
      exact ⟨rfl, HB3.out⟩
  | inr l =>
    obtain ⟨m, hm, hr2⟩ := tkS_split hr
    rw [hr2] at HT
    have HM : Hid (tks S (sb S 0) [] = .inr m) := hm
    have hml : (m ++ [((6 : Nat), ({ data := #[] } : ByteArray), (0 : Nat), S.size)]).length = m.length + 1 := by simp
    obtain ⟨k, hk⟩ : ∃ k, k = m.length := ⟨_, rfl⟩
    have hkS : k ≤ S.size := by rw [hk]; exact tks_len hm
    have hk0 : ((k : Int) + 1 == 0) = false := by simp; omega
    have HKm : Hid (k = m.length) := hk
    rw [← hk] at hml
    clear hr hr2 hm hk
    cases hu : tkS U with
    | inl c =>
      rw [hu] at HU
      clear hu
      go_enter Tryd.func7, Tryd.ntmps7
      go_wp2_with fail
      refine HSm.out.mono ?_
      rintro e w1 ⟨rfl, hb1⟩
      have HB1 : Hid (Below w.heap.size w w1) := hb1
      clear hb1 HSm
      go_wp2_with fail
      refine (HT.out w1 (HE.out.below HB1.out HE.out.lt)).mono ?_
      rintro e w2 ⟨v, rfl, HO, hb2⟩
      have HB2 : Hid (Below w.heap.size w w2) := HB1.out.trans (hb2.out.mono HB1.out.size)
      obtain ⟨g, cap, rfl⟩ := own_shape HO.out (by simp)
      rw [hml] at HO ⊢
      clear hb2 HB1 HT HO hml
      go_wp2_with fail
      refine (HU.out w2 (HE.out.below HB2.out HE.out.lt)).mono ?_
      rintro e w3 ⟨q2, rfl, HP⟩
      have HB3 : Hid (Below w.heap.size w w3) := HB2.out.trans (HP.out.2.2.mono HB2.out.size)
      clear HP HU
      unfold flv
      go_wp2_with fail
      go_ret
      exact ⟨rfl, HB3.out⟩
    | inr l2 =>
      obtain ⟨n, hn, hu2⟩ := tkS_split hu
      rw [hu2] at HU
      have HNn : Hid (tks U (sb U 0) [] = .inr n) := hn
      have hnl : (n ++ [((6 : Nat), ({ data := #[] } : ByteArray), (0 : Nat), U.size)]).length = n.length + 1 := by simp
      obtain ⟨r, hrr⟩ : ∃ r, r = n.length := ⟨_, rfl⟩
      have hrU : r ≤ U.size := by rw [hrr]; exact tks_len hn
      have HRn : Hid (r = n.length) := hrr
      rw [← hrr] at hnl
      clear hu hu2 hn hrr
      by_cases hbig : 8192 < S.size + U.size + 1
      · have c2 : decide ((8192 : Int) < (S.size : Int) + (U.size : Int) + 1) = true := by simp; omega
        go_enter Tryd.func7, Tryd.ntmps7
        go_wp2_with fail
        refine HSm.out.mono ?_
        rintro e w1 ⟨rfl, hb1⟩
        have HB1 : Hid (Below w.heap.size w w1) := hb1
        clear hb1 HSm
        go_wp2_with fail
        refine (HT.out w1 (HE.out.below HB1.out HE.out.lt)).mono ?_
        rintro e w2 ⟨v, rfl, HO, hb2⟩
        have HB2 : Hid (Below w.heap.size w w2) := HB1.out.trans (hb2.out.mono HB1.out.size)
        obtain ⟨g, cap, rfl⟩ := own_shape HO.out (by simp)
        rw [hml] at HO ⊢
        clear hb2 HB1 HT HO hml
        go_wp2_with fail
        refine (HU.out w2 (HE.out.below HB2.out HE.out.lt)).mono ?_
        rintro e w3 ⟨v3, rfl, HO3, hb3⟩
        have HB3 : Hid (Below w.heap.size w w3) := HB2.out.trans (hb3.out.mono HB2.out.size)
        clear HO3 HU hb3
        go_wp2_with fail
        go_ret
        exact ⟨rfl, HB3.out⟩
      · have c2 : decide ((8192 : Int) < (S.size : Int) + (U.size : Int) + 1) = false := by simp; omega
        obtain ⟨X, hX⟩ : ∃ X, X = S ++ { data := #[10] } ++ U := ⟨_, rfl⟩
        have hc : S ++ { data := #[10] } ++ U = X := hX.symm
        have HXs : Hid (X.size = S.size + 1 + U.size) := by show _ = _; rw [hX, ByteArray.size_append, ByteArray.size_append]; rfl
        have hXz : X.size ≤ 8192 := by have := HXs.out; omega
        have hbt : ∀ i, bt X i = if i < S.size then bt S i else if i < S.size + 1 then bt { data := #[10] } (i - S.size) else bt U (i - S.size - 1) := fun i => by
          rw [hX, bt_app, ByteArray.size_append, show ({ data := #[10] } : ByteArray).size = 1 from rfl]
          by_cases h1 : i < S.size
          · rw [if_pos h1, if_pos (by omega), bt_app, if_pos h1]
          · rw [if_neg h1]
            by_cases h2 : i < S.size + 1
            · rw [if_pos h2, if_pos h2, bt_app, if_neg h1]
            · rw [if_neg h2, if_neg h2, Nat.sub_sub]
        obtain ⟨B, hB⟩ : ∃ B, B = n ++ [((6 : Nat), ({ data := #[] } : ByteArray), (0 : Nat), U.size)] := ⟨_, rfl⟩
        have hXt : tkS X = .inr (m ++ B.map (sh 0 (S.size + 1))) := by
          have := tkS_join (S := S) (U := U) (X := X) (fun i hi => by rw [Nat.zero_add, hbt, if_pos hi])
            (by rw [hbt, if_neg (by omega), if_pos (by omega), Nat.sub_self]; rfl)
            (fun i hi => by rw [hbt, if_neg (by omega), if_neg (by omega)]; congr 1; omega)
            HXs.out HM.out HNn.out
          rw [this, hB, List.map_append, List.append_assoc]
          simp only [List.map_cons, List.map_nil, sh]
          rw [HXs.out, show U.size - 0 + (S.size + 1) = S.size + 1 + U.size by omega]
        have HTX : Hid (∀ w : World, ErrIs w → Calls Tryd.prog 10 #[.string X] w fun e w' => AnsT (.inr (m ++ B.map (sh 0 (S.size + 1)))) w e w') := fun w h => by
          have := xtokens_any X w h hXz
          rw [hXt] at this
          exact this
        have HBq : Hid (∀ t ∈ B, t.2.2.2 ≤ 8192) := fun t ht => by
          rw [hB] at ht
          rcases List.mem_append.1 ht with h1 | h1
          · have := (tks_all HNn.out t h1).2; omega
          · simp at h1; subst h1; show U.size ≤ 8192; omega
        have hBl : B.length = r + 1 := by rw [hB, hnl]
        rw [← hB] at HU
        clear hbt hXt hX hB
        go_enter Tryd.func7, Tryd.ntmps7
        go_wp2_with fail
        refine HSm.out.mono ?_
        rintro e w1 ⟨rfl, hb1⟩
        have HB1 : Hid (Below w.heap.size w w1) := hb1
        clear hb1 HSm
        go_wp2_with fail
        refine (HT.out w1 (HE.out.below HB1.out HE.out.lt)).mono ?_
        rintro e w2 ⟨v, rfl, HO, hb2⟩
        have HB2 : Hid (Below w.heap.size w w2) := HB1.out.trans (hb2.out.mono HB1.out.size)
        obtain ⟨g, cap, rfl⟩ := own_shape HO.out (by simp)
        rw [hml] at HO ⊢
        clear hb2 HB1 HT
        go_wp2_with fail
        refine (HU.out w2 (HE.out.below HB2.out HE.out.lt)).mono ?_
        rintro e w3 ⟨v3, rfl, HO3, hb3⟩
        have HB3 : Hid (Below w.heap.size w w3) := HB2.out.trans (hb3.out.mono HB2.out.size)
        have HOa3 : Hid (w3.ownsRow w1.heap.size 38 7 (.slice (some ⟨g, 0, none⟩) (k + 1) cap) (k + 1) (tvs (m ++ [(6, { data := #[] }, 0, S.size)]))) := own_keep HO.out hb3.out
        obtain ⟨g3, cap3, rfl⟩ := own_shape HO3.out (by rw [hBl]; omega)
        rw [hBl] at HO3 ⊢
        clear hb3 HU HO
        go_wp2_with fail
        refine (HTX.out w3 (HE.out.below HB3.out HE.out.lt)).mono ?_
        rintro e w4 ⟨v4, rfl, HO4, hb4⟩
        have HB4 : Hid (Below w.heap.size w w4) := HB3.out.trans (hb4.out.mono HB3.out.size)
        have HOa4 : Hid (w4.ownsRow w1.heap.size 38 7 (.slice (some ⟨g, 0, none⟩) (k + 1) cap) (k + 1) (tvs (m ++ [(6, { data := #[] }, 0, S.size)]))) := own_keep HOa3.out hb4.out
        have HOb4 : Hid (w4.ownsRow w2.heap.size 38 7 (.slice (some ⟨g3, 0, none⟩) (r + 1) cap3) (r + 1) (tvs B)) := own_keep HO3.out hb4.out
        have hcap := own_cap HOa4.out
        have hcap3 := own_cap HOb4.out
        have HFr := hid (own_front HOa4.out (by rw [hml]))
        have hkcap : k ≤ cap := by
          obtain ⟨_, ⟨h1, _⟩ | ⟨g', cap', cur, e, _, _, hc4, _⟩⟩ := HOa4.out
          · cases h1
          · cases e; omega
        have HTl : Hid ((tvs m).length = k * 7) := by show _ = _; rw [tvs_length, HKm.out]
        have HBl : Hid (B.length = r + 1) := hBl
        clear hb4 HTX HOa3 HO3 hml hnl hBl
        go_wp2_with (first | (at_builtin; refine wpList_append_own _ rfl (.tmp 78) (.tmp 83) 23 rfl w4.heap.size 38 iT (.agg #[.int .i64 0, .string { data := #[] }, .int .u64 0, .int .u64 0, .int .u64 0, .int .u64 0, .int .i64 0]) 7 64 Tryd.underlying23 hiT hzT0 hzT1 hzT2 rfl (by decide) _ _ _ rfl (World.ownsRow_nil _ _ _ _) ⟨g, 0, none⟩ k cap (tvs m) rfl HTl.out HFr.out (tvs_ok m) (by unfold maxLen; omega) (by omega) (Nat.le_refl _) ?_; intro v5 w5 hown5 hgr5 hnil5))
        have HL0 : Hid (Lt w4 v5 (m ++ (B.take 0).map (sh 0 (S.size + 1))) w5) := by
          refine ⟨hid ((Below.refl _ _).grown hgr5 (Nat.le_refl _) (fun y e => by cases e)), hid ?_⟩
          rw [List.take_zero, List.map_nil, List.append_nil, ← HKm.out]
          simpa using hown5
        clear hown5 hgr5 hnil5 HFr HTl HOa4
        go_loopw [12, 13] (fun v i wr => ∃ j : Nat, i = .int .i64 (j : Int) ∧ j ≤ r + 1 ∧ Hid (Lt w4 v (m ++ (B.take j).map (sh 0 (S.size + 1))) wr)) (fun _ i _ => r + 1 - (intOf i).toNat)
        case atStart => exact ⟨0, rfl, Nat.zero_le _, HL0⟩
        case round =>
          obtain ⟨j, rfl, hj, HL⟩ := hrel
          have hsz : w4.heap.size ≤ wr.heap.size := HL.out.1.out.size
          clear HL0
          by_cases hjr : j < r + 1
          · have hjI : (j : Int) < (r : Int) + 1 := by omega
            have a0 : decide ((j : Int) < (r : Int) + 1) = true := by simp; omega
            have hjB : j < B.length := by rw [HBl.out]; exact hjr
            have z1 := own_tok (own_keep HOb4.out HL.out.1.out) j hjB HBl.out.symm
            have hq := HBq.out B[j] (List.getElem_mem hjB)
            have HS1 : Hid ((B.take (j + 1)).map (sh 0 (S.size + 1)) = (B.take j).map (sh 0 (S.size + 1)) ++ [sh 0 (S.size + 1) B[j]]) := take_succ_map _ B j hjB
            have HLn : Hid ((m ++ (B.take j).map (sh 0 (S.size + 1))).length = k + j) := by
              show _ = _
              rw [List.length_append, List.length_map, List.length_take, ← HKm.out, Nat.min_eq_left (by omega)]
            obtain ⟨t, ht⟩ : ∃ t, t = B[j] := ⟨_, rfl⟩
            rw [← ht] at z1 hq HS1
            clear ht hjB
            obtain ⟨kd, T, C, at'⟩ := t
            obtain ⟨p0, p1, p2, p3, p4, p5, p6⟩ := z1
            have hq' : at' ≤ 8192 := hq
            have HAt : Hid ((at' : Int) + (S.size : Int) + 1 = ((at' - 0 + (S.size + 1) : Nat) : Int)) := by show _ = _; omega
            have HN : Hid (((j + 1 : Nat) : Int) = (j : Int) + 1) := by show _ = _; omega
            have hL1 := HLn.out
            obtain ⟨A, hA⟩ : ∃ A : Int, A = (at' : Int) + (S.size : Int) + 1 := ⟨_, rfl⟩
            have HA : Hid (A = ((at' - 0 + (S.size + 1) : Nat) : Int)) := by show _ = _; rw [hA]; exact HAt.out
            have hA2 : (at' : Int) + (S.size : Int) + 1 = A := hA.symm
            clear hq hA hL1
            go_wp2_with (first | (at_builtin; refine wpList_append_own _ rfl (.tmp 102) (.tmp 104) 23 rfl w4.heap.size 38 iT (.agg #[.int .i64 0, .string { data := #[] }, .int .u64 0, .int .u64 0, .int .u64 0, .int .u64 0, .int .i64 0]) 7 64 Tryd.underlying23 hiT hzT0 hzT1 hzT2 rfl (by decide) _ _ _ rfl ((HL.out.2.out.alloc _).alloc _) ⟨wr.heap.size + 1, 0, none⟩ 1 1 [.int .i64 (kd : Int), .string T, .int .u64 (wd C 0 : Nat), .int .u64 (wd C 1 : Nat), .int .u64 (wd C 2 : Nat), .int .u64 (wd C 3 : Nat), .int .i64 A] rfl rfl (by have := seven_new (wr.alloc (.cells #[.int .i64 (kd : Int), .string T, .int .u64 (wd C 0 : Nat), .int .u64 (wd C 1 : Nat), .int .u64 (wd C 2 : Nat), .int .u64 (wd C 3 : Nat), .int .i64 A] 38)); simpa using this _ _ _ _ _ _ _ 38) (seven_ok _ _ _ _ _ _ _) (by rw [HLn.out]; unfold maxLen; omega) (by rw [HLn.out]; omega) (by simp; omega) ?_; intro v6 w6 hown6 hgr6 hnil6))
            have HL6 : Hid (Lt w4 v6 (m ++ (B.take (j + 1)).map (sh 0 (S.size + 1))) w6) := by
              refine ⟨hid (((HL.out.1.out.alloc hsz _).alloc (by simp; omega) _).grown hgr6 (by simp; omega) (fun y e => (HL.out.2.out.lt y e).1)), hid ?_⟩
              rw [HS1.out, ← List.append_assoc, tvs_append, List.length_append]
              rw [HA.out] at hown6
              exact hown6
            clear hown6 hgr6 hnil6
            go_roundw
            case rel => exact ⟨j + 1, by rw [HN.out], by omega, HL6⟩
            case measure => simp [intOf]; omega
          · have a0 : decide ((j : Int) < (r : Int) + 1) = false := by simp; omega
            have hge : r + 1 ≤ j := by omega
            have HTk : Hid (B.take j = B) := List.take_of_length_le (by rw [HBl.out]; omega)
            have HLw := HL.out.2.out
            rw [HTk.out] at HLw
            have HL4 : Hid (wr.ownsRow w3.heap.size 38 7 v4 (m ++ B.map (sh 0 (S.size + 1))).length (tvs (m ++ B.map (sh 0 (S.size + 1))))) := own_keep HO4.out HL.out.1.out
            have HSa := hid (qSame_any _ _ v4 u12 (m ++ B.map (sh 0 (S.size + 1))) wr HL4.out HLw (by rw [List.length_append, List.length_map, ← HKm.out, HBl.out]; omega))
            have HB5 : Hid (Below w.heap.size w wr) := HB4.out.trans (HL.out.1.out.mono HB4.out.size)
            clear HLw HL4 HL HO4 HTk
            go_wp2_with fail
            refine HSa.out.mono ?_
            rintro e w7 ⟨rfl, hb7⟩
            have HB7 : Hid (Below w.heap.size w w7) := HB5.out.trans (hb7.mono HB5.out.size)
            clear hb7 HSa
            go_wp2_with fail
            go_ret
            exact ⟨rfl, HB7.out⟩
end Go.Proofs.YtbdhgfblkgkekaaDoor
