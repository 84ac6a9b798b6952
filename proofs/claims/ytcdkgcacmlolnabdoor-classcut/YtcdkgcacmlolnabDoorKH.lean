/-
  A class's text is read as the class; a text that is cut off within it ends too early. Plain facts on the functions of KG. Conditions: those that each theorem names.
-/
import Derived.Test.YtcdkgcacmlolnabDoorKG5
namespace Go.Proofs.YtcdkgcacmlolnabDoor
open Go.RowKit
set_option linter.unusedVariables false
theorem dgv_hexd : ∀ d, d < 16 → dgv (hexd d) = some d := by decide +kernel
theorem dg_of {S : ByteArray} {k d : Nat} (hd : d < 16) (h : At S k (hexd d)) : dg S k = some d := by
  unfold dg
  rw [bt_of h]
  exact dgv_hexd d hd
theorem sg_sgn {S : ByteArray} {k b : Nat} (hb : b < 256) (h : Here S k (sgn b)) : sg S k = .inr (b, k + (sgn b).length) := by
  unfold sgn at h ⊢
  split at h
  · rename_i e; subst e
    have a0 := bt_of (h 0 92 rfl); have a1 := bt_of (h 1 110 rfl)
    simp only [Nat.add_zero] at a0
    unfold sg esc; rw [a0]; simp [a1, escv]
  · rename_i h1
    split at h
    · rename_i e; subst e
      have a0 := bt_of (h 0 92 rfl); have a1 := bt_of (h 1 114 rfl)
      simp only [Nat.add_zero] at a0
      unfold sg esc; rw [a0]; simp [a1, escv]
    · rename_i h2
      split at h
      · rename_i e; subst e
        have a0 := bt_of (h 0 92 rfl); have a1 := bt_of (h 1 116 rfl)
        simp only [Nat.add_zero] at a0
        unfold sg esc; rw [a0]; simp [a1, escv]
      · rename_i h3
        split at h
        · rename_i hm
          have a0 := bt_of (h 0 92 rfl); have a1 := bt_of (h 1 b rfl)
          simp only [Nat.add_zero] at a0
          have hn : b ≠ 110 ∧ b ≠ 114 ∧ b ≠ 116 := by
            unfold mark at hm
            simp at hm
            omega
          rw [if_neg h1, if_neg h2, if_neg h3, if_pos hm]
          unfold sg esc; rw [a0]; simp [a1, escv, hn.1, hn.2.1, hn.2.2, hm]
        · rename_i hm
          split at h
          · rename_i hp
            have a0 := bt_of (h 0 b rfl)
            simp only [Nat.add_zero] at a0
            have hmf : mark b = false := by simpa using hm
            have hn : b ≠ 92 := by intro e; subst e; simp [mark] at hmf
            rw [if_neg h1, if_neg h2, if_neg h3, if_neg hm, if_pos hp]
            unfold sg; rw [a0]; simp [hn, plain, hmf, hp.1, hp.2]
          · rename_i hp
            have a0 := bt_of (h 0 92 rfl); have a1 := bt_of (h 1 120 rfl)
            have a2 := dg_of (by omega) (h 2 _ rfl); have a3 := dg_of (by omega) (h 3 _ rfl)
            simp only [Nat.add_zero] at a0
            rw [if_neg h1, if_neg h2, if_neg h3, if_neg hm, if_neg hp]
            unfold sg esc; rw [a0]
            have hm120 : mark 120 = false := rfl
            simp only [if_true, a1, escv, hm120]
            unfold digs
            rw [show k + 1 + 1 = k + 2 from rfl, a2, show k + 2 + 1 = k + 3 from rfl, a3]
            simp
            omega
theorem mbr_itxt {S : ByteArray} {k y : Nat} {p : Nat × Nat} {t : List Nat} (h1 : p.1 ≤ p.2) (h2 : p.2 < 256) (hy : (y == 45) = false) (h : Here S k (itxt p ++ (y :: t))) : mbr S k = .inr (seg p.1 (p.2 + 1), k + (itxt p).length) := by
  have hl := h.left
  have hr := h.right
  unfold itxt at hl hr ⊢
  by_cases e : p.1 = p.2
  · rw [if_pos e] at hl hr ⊢
    unfold mbr
    rw [sg_sgn (by omega) hl]
    have hb := bt_of hr.head
    simp only
    rw [hb, if_neg (by simpa using hy), ← e]
  · rw [if_neg e] at hl ⊢
    have hl1 := hl.left
    have hl2 := hl.right
    have hb := bt_of hl2.head
    have hl3 : Here S (k + (sgn p.1).length + 1) (sgn p.2) := hl2.right
    unfold mbr
    rw [sg_sgn (by omega) hl1]
    simp only
    rw [hb, if_pos rfl, sg_sgn h2 hl3]
    simp only
    rw [if_neg (by omega)]
    simp
    omega
theorem mm_ibody {S : ByteArray} : ∀ (I : List (Nat × Nat)) (k acc : Nat), (∀ p ∈ I, p.1 ≤ p.2 ∧ p.2 < 256) → Here S k (ibody I ++ [93]) → mm S k acc = .inr (acc ||| uo I, k + (ibody I).length + 1)
  | [], k, acc, _, h => by
    rw [mm_end (bt_of h.head)]
    simp [uo, ibody]
  | p :: t, k, acc, hI, h => by
    obtain ⟨y, u, hyu, hy, _⟩ := ibody_head t
    have hp := hI p (List.mem_cons_self ..)
    have h' : Here S k (itxt p ++ (ibody t ++ [93])) := by rw [← List.append_assoc]; exact h
    have hr := h'.right
    rw [hyu] at h'
    have hm := mbr_itxt hp.1 hp.2 hy h'
    obtain ⟨z, v, hz, _, _, hz3⟩ := itxt_head p
    have h93 : ¬ bt S k = some 93 := by
      have h2 := h
      rw [ibody, hz] at h2
      rw [bt_of h2.head]
      simpa using hz3
    rw [mm_on h93 hm, mm_ibody t _ _ (fun q hq => hI q (List.mem_cons_of_mem _ hq)) hr]
    simp only [uo, ibody, List.length_append, Nat.or_assoc]
    simp
    omega
theorem clsP_txt {S : ByteArray} {I : List (Nat × Nat)} (hI : ∀ p ∈ I, p.1 ≤ p.2 ∧ p.2 < 256) (h : Here S 0 ([91] ++ (ibody I ++ [93]))) : clsP S = .inr (uo I, 1 + (ibody I).length + 1) := by
  have h1 : Here S 1 (ibody I ++ [93]) := h.right
  obtain ⟨y, u, hyu, _, hy⟩ := ibody_head I
  have h94 : ¬ bt S 1 = some 94 := by
    have h2 := h1
    rw [hyu] at h2
    rw [bt_of h2.head]
    simpa using hy
  unfold clsP
  rw [if_pos (bt_of h.head), if_neg h94, mm_ibody I 1 0 hI h1]
  simp

/-! A text that is cut off. -/
structure Pre (T S : ByteArray) (k : Nat) : Prop where
  size : T.size = k
  le : k ≤ S.size
  same : ∀ i, i < k → bt T i = bt S i
theorem Pre.end {T S : ByteArray} {k : Nat} (h : Pre T S k) : bt T k = none := bt_ge (by rw [h.size]; exact Nat.le_refl _)
theorem Pre.flt {T S : ByteArray} {k i : Nat} (h : Pre T S k) (hi : k ≤ i) : flt T i = (3, k) := by unfold Proofs.YtcdkgcacmlolnabDoor.flt; rw [if_pos (by rw [h.size]; exact hi), h.size]
theorem pre_dg {T S : ByteArray} {k i : Nat} (h : Pre T S k) (hi : i < k) : dg T i = dg S i := by unfold dg; rw [h.same i hi]
theorem pre_digs {T S : ByteArray} {k i b n : Nat} (h : Pre T S k) (hd : digs S i = .inr (b, n)) (hik : i ≤ k) : (n ≤ k → digs T i = .inr (b, n)) ∧ (k < n → digs T i = .inl (3, k)) := by
  obtain ⟨q, r, hq, hr, rfl, rfl⟩ := digs_ok hd
  have he : dg T k = none := by unfold dg; rw [h.end]; rfl
  constructor
  · intro hn
    unfold digs
    rw [pre_dg h (by omega), hq]
    simp only
    rw [pre_dg h (by omega), hr]
  · intro hn
    unfold digs
    rcases Nat.lt_or_ge i k with h1 | h1
    · obtain rfl : k = i + 1 := by omega
      rw [pre_dg h h1, hq]
      simp only
      rw [he, h.flt (Nat.le_refl _)]
    · obtain rfl : i = k := by omega
      rw [he, h.flt (Nat.le_refl _)]
theorem pre_esc {T S : ByteArray} {k i b n : Nat} (h : Pre T S k) (hd : esc S i = .inr (b, n)) (hik : i ≤ k) : (n ≤ k → esc T i = .inr (b, n)) ∧ (k < n → esc T i = .inl (3, k)) := by
  have hok := esc_ok hd
  rcases Nat.lt_or_ge i k with h1 | h1
  · have hs := h.same i h1
    unfold esc at hd ⊢
    rw [hs]
    cases hx : bt S i with
    | none => rw [hx] at hd; cases hd
    | some x =>
      rw [hx] at hd
      simp only at hd ⊢
      cases hv : escv x with
      | some b' =>
        rw [hv] at hd
        simp only [Sum.inr.injEq, Prod.mk.injEq] at hd
        obtain ⟨rfl, rfl⟩ := hd
        exact ⟨fun _ => rfl, fun hk => absurd hk (by omega)⟩
      | none =>
        rw [hv] at hd
        simp only at hd ⊢
        by_cases h4 : x = 120
        · rw [if_pos h4] at hd ⊢
          exact pre_digs h hd (by omega)
        · rw [if_neg h4] at hd; cases hd
  · obtain rfl : i = k := by omega
    refine ⟨fun hn => absurd hn (by omega), fun _ => ?_⟩
    unfold esc
    rw [h.end, h.flt (Nat.le_refl _)]
theorem pre_sg {T S : ByteArray} {k i b n : Nat} (h : Pre T S k) (hd : sg S i = .inr (b, n)) (hik : i ≤ k) : (n ≤ k → sg T i = .inr (b, n)) ∧ (k < n → sg T i = .inl (3, k)) := by
  have hok := sg_ok hd
  rcases Nat.lt_or_ge i k with h1 | h1
  · have hs := h.same i h1
    unfold sg at hd ⊢
    rw [hs]
    cases hx : bt S i with
    | none => rw [hx] at hd; cases hd
    | some x =>
      rw [hx] at hd
      simp only at hd ⊢
      by_cases h4 : x = 92
      · rw [if_pos h4] at hd ⊢
        exact pre_esc h hd (by omega)
      · rw [if_neg h4] at hd ⊢
        by_cases h5 : plain x = true
        · rw [if_pos h5] at hd ⊢
          simp only [Sum.inr.injEq, Prod.mk.injEq] at hd
          obtain ⟨rfl, rfl⟩ := hd
          exact ⟨fun _ => rfl, fun hk => absurd hk (by omega)⟩
        · rw [if_neg h5] at hd; cases hd
  · obtain rfl : i = k := by omega
    refine ⟨fun hn => absurd hn (by omega), fun _ => ?_⟩
    unfold sg
    rw [h.end, h.flt (Nat.le_refl _)]
theorem pre_mbr {T S : ByteArray} {k i X n : Nat} (h : Pre T S k) (hd : mbr S i = .inr (X, n)) (hik : i ≤ k) : (n ≤ k → mbr T i = .inr (X, n)) ∧ (k < n → mbr T i = .inl (3, k) ∨ ∃ Y, mbr T i = .inr (Y, k)) := by
  unfold mbr at hd ⊢
  cases hs : sg S i with
  | inl e => rw [hs] at hd; cases hd
  | inr q =>
    obtain ⟨lo, M⟩ := q
    rw [hs] at hd
    simp only at hd
    have hok := sg_ok hs
    obtain ⟨g1, g2⟩ := pre_sg h hs hik
    rcases Nat.lt_or_ge k M with hM | hM
    · rw [g2 hM]
      refine ⟨fun hn => ?_, fun _ => .inl rfl⟩
      exfalso
      by_cases hb : bt S M = some 45
      · rw [if_pos hb] at hd
        cases hs2 : sg S (M + 1) with
        | inl e => rw [hs2] at hd; cases hd
        | inr q2 =>
          obtain ⟨hi, N⟩ := q2
          rw [hs2] at hd
          simp only at hd
          have := sg_ok hs2
          by_cases hlt : hi < lo
          · rw [if_pos hlt] at hd; cases hd
          · rw [if_neg hlt] at hd
            simp only [Sum.inr.injEq, Prod.mk.injEq] at hd
            omega
      · rw [if_neg hb] at hd
        simp only [Sum.inr.injEq, Prod.mk.injEq] at hd
        omega
    · rw [g1 hM]
      simp only
      rcases Nat.lt_or_ge M k with hMk | hMk
      · rw [h.same M hMk]
        by_cases hb : bt S M = some 45
        · rw [if_pos hb] at hd ⊢
          cases hs2 : sg S (M + 1) with
          | inl e => rw [hs2] at hd; cases hd
          | inr q2 =>
            obtain ⟨hi, N⟩ := q2
            rw [hs2] at hd
            simp only at hd
            obtain ⟨e1, e2⟩ := pre_sg h hs2 (by omega)
            by_cases hlt : hi < lo
            · rw [if_pos hlt] at hd; cases hd
            · rw [if_neg hlt] at hd
              simp only [Sum.inr.injEq, Prod.mk.injEq] at hd
              obtain ⟨rfl, rfl⟩ := hd
              refine ⟨fun hn => ?_, fun hn => ?_⟩
              · rw [e1 hn]; simp only; rw [if_neg hlt]
              · rw [e2 hn]; exact .inl rfl
        · rw [if_neg hb] at hd ⊢
          simp only [Sum.inr.injEq, Prod.mk.injEq] at hd
          obtain ⟨rfl, rfl⟩ := hd
          exact ⟨fun _ => rfl, fun hn => absurd hn (by omega)⟩
      · obtain rfl : M = k := by omega
        rw [h.end, if_neg (by simp)]
        refine ⟨fun hn => ?_, fun _ => .inr ⟨_, rfl⟩⟩
        by_cases hb : bt S M = some 45
        · rw [if_pos hb] at hd
          cases hs2 : sg S (M + 1) with
          | inl e => rw [hs2] at hd; cases hd
          | inr q2 =>
            obtain ⟨hi, N⟩ := q2
            rw [hs2] at hd
            simp only at hd
            have := sg_ok hs2
            by_cases hlt : hi < lo
            · rw [if_pos hlt] at hd; cases hd
            · rw [if_neg hlt] at hd
              simp only [Sum.inr.injEq, Prod.mk.injEq] at hd
              omega
        · rw [if_neg hb] at hd
          exact hd
theorem pre_at {T S : ByteArray} {k acc : Nat} (h : Pre T S k) : mm T k acc = .inl (3, k) := by
  have hm : mbr T k = .inl (3, k) := by unfold mbr sg; rw [h.end, h.flt (Nat.le_refl _)]
  exact mm_bad (by rw [h.end]; simp) hm
theorem pre_mems {T S : ByteArray} {k : Nat} (h : Pre T S k) : ∀ (f i acc acc' C n : Nat), i ≤ k → k < n → mems S f i acc = .inr (C, n) → mm T i acc' = .inl (3, k)
  | 0, i, acc, acc', C, n, _, _, hd => by cases hd
  | f + 1, i, acc, acc', C, n, hik, hkn, hd => by
    rcases Nat.lt_or_ge i k with h1 | h1
    · rw [mems] at hd
      have hs := h.same i h1
      by_cases h93 : bt S i = some 93
      · rw [if_pos h93] at hd
        simp only [Sum.inr.injEq, Prod.mk.injEq] at hd
        omega
      · rw [if_neg h93] at hd
        cases hm : mbr S i with
        | inl e => rw [hm] at hd; cases hd
        | inr q =>
          obtain ⟨X, m⟩ := q
          rw [hm] at hd
          simp only at hd
          obtain ⟨g1, g2⟩ := pre_mbr h hm hik
          rcases Nat.lt_or_ge k m with h2 | h2
          · rcases g2 h2 with g | ⟨Y, g⟩
            · exact mm_bad (by rw [hs]; exact h93) g
            · rw [mm_on (by rw [hs]; exact h93) g]; exact pre_at h
          · rw [mm_on (by rw [hs]; exact h93) (g1 h2)]
            exact pre_mems h f m _ _ C n h2 hkn hd
    · obtain rfl : i = k := by omega
      exact pre_at h
/-- A text that is cut off within a class ends too early. -/
theorem cut_bad {T S : ByteArray} {k C n : Nat} (h : Pre T S k) (hd : clsP S = .inr (C, n)) (hkn : k < n) : clsP T = .inl (3, k) := by
  rcases Nat.eq_zero_or_pos k with hk0 | hk0
  · subst hk0
    unfold clsP
    rw [h.end, if_neg (by simp), h.flt (Nat.le_refl _)]
  · unfold clsP at hd ⊢
    by_cases h0 : bt S 0 = some 91
    · rw [if_pos h0] at hd
      rw [h.same 0 hk0, if_pos h0]
      by_cases h1 : bt S 1 = some 94
      · rw [if_pos h1] at hd
        cases hm : mm S 2 0 with
        | inl e => rw [hm] at hd; cases hd
        | inr q =>
          obtain ⟨D, m⟩ := q
          rw [hm] at hd
          simp only [Sum.inr.injEq, Prod.mk.injEq] at hd
          rcases Nat.lt_or_ge 1 k with hk1 | hk1
          · rw [h.same 1 hk1, if_pos h1, pre_mems h _ 2 0 0 D m (by omega) (by omega) hm]
          · obtain rfl : k = 1 := by omega
            rw [h.end, if_neg (by simp)]
            exact pre_at h
      · rw [if_neg h1] at hd
        have : ¬ bt T 1 = some 94 := by
          rcases Nat.lt_or_ge 1 k with hk1 | hk1
          · rw [h.same 1 hk1]; exact h1
          · rw [bt_ge (by rw [h.size]; exact hk1)]; simp
        rw [if_neg this]
        exact pre_mems h _ 1 0 0 C n (by omega) hkn hd
    · rw [if_neg h0] at hd; cases hd
end Go.Proofs.YtcdkgcacmlolnabDoor
