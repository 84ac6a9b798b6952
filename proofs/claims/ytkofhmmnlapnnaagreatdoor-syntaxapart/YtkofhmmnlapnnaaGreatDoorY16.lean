/-
  What syntax.Parse answers at any text that is no longer than a source may be. Conditions: those that each theorem names.
-/
import Derived.Test.YtkofhmmnlapnnaaGreatDoorY15
namespace Go.Proofs.YtkofhmmnlapnnaaGreatDoor
open Go.RowKit
set_option linter.unusedVariables false
/-- What a token but the last is. -/
def TokOk (t : Tok) : Prop := t.1 ≤ 5 ∧ (t.1 = 5 → ∃ x, x < 256 ∧ t.2.1 = nb [x])
theorem tokAt_tok {S : ByteArray} {p x n : Nat} {t : Tok} (hb : bt S p = some x) (h : tokAt S p x = .inr (t, n)) : TokOk t := by
  have hx := (bt_lt hb).2
  refine ⟨(tokAt_ok hb h).2.2.2.2.2.1, fun h5 => ?_⟩
  unfold tokAt at h
  split at h
  · split at h
    · cases h
    · simp only [Sum.inr.injEq, Prod.mk.injEq] at h
      rw [← h.1] at h5
      exact absurd h5 (by show ¬ (1 : Nat) = 5; decide)
  · split at h
    · split at h
      · cases h
      · simp only [Sum.inr.injEq, Prod.mk.injEq] at h
        rw [← h.1] at h5
        exact absurd h5 (by show ¬ (3 : Nat) = 5; decide)
    · split at h
      · split at h
        · cases h
        · simp only [Sum.inr.injEq, Prod.mk.injEq] at h
          rw [← h.1] at h5
          exact absurd h5 (by show ¬ (4 : Nat) = 5; decide)
      · split at h
        · simp only [Sum.inr.injEq, Prod.mk.injEq] at h
          rw [← h.1] at h5
          exact absurd h5 (by show ¬ (2 : Nat) = 5; decide)
        · split at h
          · simp only [Sum.inr.injEq, Prod.mk.injEq] at h
            exact ⟨x, hx, by rw [← h.1]⟩
          · cases h
theorem tkl_good (S : ByteArray) : ∀ (f k : Nat) (acc L : List Tok), tkl S f k acc = .inr L → (∀ t ∈ acc, TokOk t) → (∀ t ∈ L, TokOk t) ∧ L.length ≤ acc.length + (S.size - k)
  | 0, k, acc, L, h, ha => by
    rw [tkl] at h
    simp only [Sum.inr.injEq] at h
    subst h
    exact ⟨ha, by omega⟩
  | f + 1, k, acc, L, h, ha => by
    rw [tkl] at h
    split at h
    · simp only [Sum.inr.injEq] at h
      subst h
      exact ⟨ha, by omega⟩
    · rename_i x hb
      split at h
      · cases h
      · rename_i t n ht
        have h1 := tokAt_ok hb ht
        have h2 := sb_ge (S := S) (n := n) h1.2.1
        have h3 := (bt_lt hb).1
        have := tkl_good S f (sb S n) (acc ++ [t]) L h (fun u hu => by
          rcases List.mem_append.1 hu with h | h
          · exact ha u h
          · simp at h; rw [h]; exact tokAt_tok hb ht)
        refine ⟨this.1, ?_⟩
        have h4 := this.2
        simp at h4
        omega
theorem gL_left {a b : List Tok} {k : Nat} (h : k < a.length) : gL (a ++ b) k = a[k] := by
  unfold gL
  rw [List.getElem?_append_left h, List.getElem?_eq_getElem h]
  rfl
theorem gL_right {a b : List Tok} {k : Nat} (h : a.length ≤ k) : gL (a ++ b) k = gL b (k - a.length) := by
  unfold gL
  rw [List.getElem?_append_right h]
theorem good_end {m : List Tok} {p : Nat} (hm : ∀ t ∈ m, TokOk t) (hl : m.length ≤ 9000) : Good (m ++ [(6, { data := #[] }, 0, p)]) := by
  have hr : ∀ k, m.length ≤ k → (gL (m ++ [(6, { data := #[] }, 0, p)]) k).1 = 6 := fun k hk => by
    rw [gL_right hk]
    match k - m.length with
    | 0 => rfl
    | j + 1 => rfl
  refine ⟨by simp; omega, fun k hk h6 => ?_, fun k h5 => ?_⟩
  · rcases Nat.lt_or_ge k m.length with h | h
    · simp; omega
    · exact absurd (hr k h) h6
  · rcases Nat.lt_or_ge k m.length with h | h
    · rw [gL_left h] at h5 ⊢
      exact (hm _ (List.getElem_mem h)).2 h5
    · rw [hr k h] at h5
      cases h5
theorem tkS_good {S : ByteArray} {L : List Tok} (h : tkS S = .inr L) (hS : S.size ≤ 8192) : Good L ∧ 0 < L.length := by
  unfold tkS at h
  cases hm : tks S (sb S 0) [] with
  | inl c => rw [hm] at h; cases h
  | inr m =>
    rw [hm] at h
    simp only [tkE, Sum.inr.injEq] at h
    subst h
    have := tkl_good S _ _ _ _ hm (fun t ht => by simp at ht)
    exact ⟨good_end this.1 (by have h2 := this.2; simp at h2; omega), by simp⟩
/-- The grammar of a source, or what is wrong first. -/
def parE (r : Tr) : (Nat × Nat) ⊕ List Rl := match r with
  | .inl c => .inl c
  | .inr L => graS L
def parS (S : ByteArray) : (Nat × Nat) ⊕ List Rl := parE (tkS S)
theorem setQ {w W : World} {x : Value} (hb : Below (w.heap.size + 1) (w.alloc Zg) W) : W.heap[w.heap.size]? = some Zg ∧ Below w.heap.size w W ∧ Below w.heap.size w (W.setCell ⟨w.heap.size, 0, none⟩ x) := by
  have h1 : W.heap[w.heap.size]? = some Zg := (hb.block _ (by omega)).trans (new_block_at w _ rfl)
  have h2 : Below w.heap.size w W := ((Below.refl _ w).alloc (Nat.le_refl _) Zg).trans (hb.mono (by omega))
  exact ⟨h1, h2, Below.setNew h2 (Nat.le_refl _)⟩
set_option maxRecDepth 100000 in
set_option maxHeartbeats 8000000 in
theorem yparse_any (S : ByteArray) (w : World) (h : ErrIs w) (hS : S.size ≤ 8192) :
    Calls Tryz.prog 7 #[.string S] w fun e w' => AnsD (parS S) w e w' := by
  have HT := hid (xtokens_any S (w.alloc Zg) (h.below ((Below.refl _ w).alloc (Nat.le_refl _) Zg) h.lt) hS)
  unfold parS
  cases hs : tkS S with
  | inl c =>
    rw [hs] at HT
    clear hs h
    show Calls _ _ _ _ (fun e w' => AnsD (.inl c) w e w')
    go_enter Tryz.func7, Tryz.ntmps7
    go_wp2_with fail
    refine HT.out.mono ?_
    rintro e w1 ⟨q, rfl, HP⟩
    have hq : w.heap.size + 1 ≤ q := by have := HP.out.1; simp at this; omega
    have HA : Hid (AnsD (.inl c) w (.returned (.tuple #[.agg #[.slice none 0 0], flv q])) (w1.setCell ⟨w.heap.size, 0, none⟩ (.slice none 0 0))) := by
      have hb := HP.out.2.2
      simp at hb
      exact ⟨q, rfl, hid ⟨by omega, (Below.heap_setCell _ _ _ _ (show q ≠ w.heap.size by omega)).trans HP.out.2.1, (setQ hb).2.2⟩⟩
    have HQ : Hid (w1.heap[w.heap.size]? = some Zg) := by
      have hb := HP.out.2.2
      simp at hb
      exact (setQ (x := .nilIface) hb).1
    obtain ⟨e0, y0⟩ := one_cell HQ.out
    have hQl := node_lt HQ.out
    clear HP HT
    unfold flv at HA ⊢
    go_wp2_with fail
    (try simp only [Exit.inBlock, Exit.then])
    refine bodyPost_ret (v := .tuple #[.agg #[.slice none 0 0], .iface 64 (.pointer (some ⟨q, 0, none⟩))]) (by simp [results, Tryz.results7, go_sem, e0]) rfl ?_
    exact HA.out
  | inr L =>
    have hG := tkS_good hs hS
    have HG : Hid (Good L) := hG.1
    have hl0 := hG.2
    rw [hs] at HT
    clear hs h hG
    show Calls _ _ _ _ (fun e w' => AnsD (graS L) w e w')
    go_enter Tryz.func7, Tryz.ntmps7
    go_wp2_with fail
    refine HT.out.mono ?_
    rintro e w1 ⟨v, rfl, HO, HB⟩
    obtain ⟨g, cap, hv⟩ := own_shape HO.out hl0
    subst hv
    have HC := hid (yread_any _ _ L w1 HO.out HG.out hl0)
    have HB1 : Hid (Below (w.heap.size + 1) (w.alloc Zg) w1) := by have := HB.out; simp at this; exact this
    obtain ⟨n, hn⟩ : ∃ n, n = L.length := ⟨_, rfl⟩
    rw [← hn] at HC ⊢
    clear hn HO HB HT hl0 HG
    go_wp2_with fail
    refine HC.out.mono ?_
    clear HC
    cases hgs : graS L with
    | inl c =>
      have HGS := hid hgs
      clear hgs
      rintro e w2 ⟨q, rfl, HP⟩
      have hq : w.heap.size + 1 ≤ q := by have h1 := HP.out.1; have h2 := HB1.out.size; simp at h2; omega
      have HB2 : Hid (Below (w.heap.size + 1) (w.alloc Zg) w2) := HB1.out.trans (HP.out.2.2.mono (by have h2 := HB1.out.size; simp at h2; omega))
      have HA : Hid (AnsD (.inl c) w (.returned (.tuple #[.agg #[.slice none 0 0], flv q])) (w2.setCell ⟨w.heap.size, 0, none⟩ (.slice none 0 0))) :=
        ⟨q, rfl, hid ⟨by omega, (Below.heap_setCell _ _ _ _ (show q ≠ w.heap.size by omega)).trans HP.out.2.1, (setQ HB2.out).2.2⟩⟩
      have HQ : Hid (w2.heap[w.heap.size]? = some Zg) := (setQ (x := .nilIface) HB2.out).1
      obtain ⟨e0, y0⟩ := one_cell HQ.out
      have hQl := node_lt HQ.out
      clear HP HB1 HB2
      unfold flv at HA ⊢
      go_wp2_with fail
      (try simp only [Exit.inBlock, Exit.then])
      refine bodyPost_ret (v := .tuple #[.agg #[.slice none 0 0], .iface 64 (.pointer (some ⟨q, 0, none⟩))]) (by simp [results, Tryz.results7, go_sem, e0]) rfl ?_
      rw [HGS.out]
      exact HA.out
    | inr rs =>
      have HGS := hid hgs
      clear hgs
      rintro e w2 ⟨g4, cap4, rfl, HRo, HB3⟩
      obtain ⟨m, hm⟩ : ∃ m, m = rs.length := ⟨_, rfl⟩
      have HM : Hid (m = rs.length) := hm
      rw [← hm] at HRo ⊢
      clear hm
      have hw1 : w.heap.size + 1 ≤ w1.heap.size := by have h2 := HB1.out.size; simp at h2; omega
      have HB2 : Hid (Below (w.heap.size + 1) (w.alloc Zg) w2) := HB1.out.trans (HB3.out.mono (by omega))
      have HA : Hid (AnsD (.inr rs) w (.returned (.tuple #[.agg #[.slice (some ⟨g4, 0, none⟩) m cap4], .nilIface])) (w2.setCell ⟨w.heap.size, 0, none⟩ (.slice (some ⟨g4, 0, none⟩) m cap4))) := by
        have hr := HRo.out.grown (G.setR (u := .slice (some ⟨g4, 0, none⟩) m cap4) (j := 0) (G.refl w2 w.heap.size)) (by omega)
        have hm := HM.out
        subst hm
        exact ⟨g4, cap4, rfl, hid (hr.low (by omega)), hid (setQ HB2.out).2.2⟩
      have HQ : Hid (w2.heap[w.heap.size]? = some Zg) := (setQ (x := .nilIface) HB2.out).1
      obtain ⟨e0, y0⟩ := one_cell HQ.out
      have hQl := node_lt HQ.out
      clear HRo HB1 HB2 HB3
      go_wp2_with fail
      (try simp only [Exit.inBlock, Exit.then])
      refine bodyPost_ret (v := .tuple #[.agg #[.slice (some ⟨g4, 0, none⟩) m cap4], .nilIface]) (by simp [results, Tryz.results7, go_sem, e0]) rfl ?_
      rw [HGS.out]
      exact HA.out
end Go.Proofs.YtkofhmmnlapnnaaGreatDoor
