/-
  A token, blanks, a row of tokens that stand in another text too: they are read as they were. Plain facts on the functions of X15. Conditions: those that each theorem names.
  Two texts, one behind the other: their tokens. Plain facts on the functions of X15. Conditions: those that each theorem names.
  What is read of the tokens of a tree's text: the tree, but for places. Plain facts on tokens and trees.
  What is read of the tokens of a grammar's text: its rules, but for places. Plain facts on tokens and trees.
  Trees that are read may be printed: each node is what its kind may be. Plain facts on tokens and trees.
  The text of a tree, in pieces, and its tokens. Plain facts on texts, tokens and trees; what a name, a quote and a class's text are read as is asked for.
  A grammar's text: it is read as the grammar, but for places; it is the same for grammars that are one but for places; how many parentheses are open at once. Plain facts on texts, tokens and trees.
-/
import Derived.Test.YtggmoneicdkamaaGreatDoorVX19ToQ4
import Derived.Test.YtggmoneicdkamaaGreatDoorVY15ToR1
namespace Go.Proofs.YtggmoneicdkamaaGreatDoor
open Go.RowKit
set_option linter.unusedVariables false
theorem bt_ext (S : ByteArray) (p e j : Nat) (he : e ≤ S.size) : bt (S.extract p e) j = if p + j < e then bt S (p + j) else none := by
  have hsz : (S.extract p e).size = e - p := by rw [ByteArray.size_extract]; omega
  by_cases h : p + j < e
  · rw [if_pos h]
    unfold bt
    rw [dif_pos (by omega), dif_pos (by omega), ByteArray.getElem_extract]
  · rw [if_neg h, bt_ge (by omega)]
/-- S's bytes from a on stand in X from b on, L of them. -/
def Seg (S X : ByteArray) (a b L : Nat) : Prop := ∀ j, j < L → bt X (b + j) = bt S (a + j)
theorem Seg.dg {S X : ByteArray} {a b L i : Nat} (h : Seg S X a b L) (hi : i < L) : dg X (b + i) = dg S (a + i) := by
  show (bt X (b + i)).bind dgv = (bt S (a + i)).bind dgv
  rw [h i hi]
theorem Seg.digs {S X : ByteArray} {a b L i i' y : Nat} (h : Seg S X a b L) (hd : digs S (a + i) = .inr (y, a + i')) (hi : i' ≤ L) : digs X (b + i) = .inr (y, b + i') := by
  obtain ⟨q, r, h1, h2, h3, h4⟩ := digs_ok hd
  have e1 := h.dg (i := i) (by omega)
  have e2 := h.dg (i := i + 1) (by omega)
  unfold Proofs.YtggmoneicdkamaaGreatDoor.digs
  rw [e1, h1]
  simp only
  rw [show b + i + 1 = b + (i + 1) by omega, e2, show a + (i + 1) = a + i + 1 by omega, h2]
  simp only
  rw [h3, show b + i + 2 = b + i' by omega]
theorem Seg.lsg {S X : ByteArray} {a b L i i' y : Nat} (h : Seg S X a b L) (hd : lsg S (a + i) = .inr (y, a + i')) (hi : i' ≤ L) : lsg X (b + i) = .inr (y, b + i') := by
  have hok := lsg_ok hd
  have e0 := h i (by omega)
  unfold Proofs.YtggmoneicdkamaaGreatDoor.lsg at hd ⊢
  rw [e0]
  cases hb : bt S (a + i) with
  | none => rw [hb] at hd; cases hd
  | some x =>
    rw [hb] at hd
    simp only at hd ⊢
    split at hd
    · cases hd
    · rename_i hp
      rw [if_neg hp]
      split at hd
      · rename_i hx
        rw [if_pos hx]
        have hok2 := lesc_ok hd
        have e1 := h (i + 1) (by omega)
        unfold lesc at hd ⊢
        rw [show b + i + 1 = b + (i + 1) by omega, e1, show a + (i + 1) = a + i + 1 by omega]
        cases hb2 : bt S (a + i + 1) with
        | none => rw [hb2] at hd; cases hd
        | some z =>
          rw [hb2] at hd
          simp only at hd ⊢
          cases hv : lescv z with
          | some v =>
            rw [hv] at hd
            simp only [Sum.inr.injEq, Prod.mk.injEq] at hd ⊢
            omega
          | none =>
            rw [hv] at hd
            simp only at hd ⊢
            split at hd
            · rename_i hz
              rw [if_pos hz]
              rw [show b + (i + 1) + 1 = b + (i + 2) by omega]
              exact h.digs (by rw [show a + (i + 2) = a + i + 1 + 1 by omega]; exact hd) hi
            · cases hd
      · rename_i hx
        rw [if_neg hx]
        simp only [Sum.inr.injEq, Prod.mk.injEq] at hd ⊢
        omega
theorem Seg.llit {S X : ByteArray} {a b L q p p' i' : Nat} {l : List Nat} (h : Seg S X a b L) (hi : i' ≤ L) : ∀ (f i : Nat) (acc : List Nat), acc.length ≤ 255 → (∀ x ∈ acc, x < 256) →
    llit S q p f (a + i) acc = .inr (l, a + i') → ll X q p' (b + i) acc = .inr (l, b + i')
  | 0, i, acc, _, _, hd => by rw [Proofs.YtggmoneicdkamaaGreatDoor.llit] at hd; cases hd
  | f + 1, i, acc, ha, hx, hd => by
    have hok := llit_ok S q p _ _ _ _ _ hd hx ha
    have e0 := h i (by omega)
    rw [Proofs.YtggmoneicdkamaaGreatDoor.llit] at hd
    split at hd
    · rename_i hb
      simp only [Sum.inr.injEq, Prod.mk.injEq] at hd
      rw [ll_end (by rw [e0]; exact hb), hd.1, show b + i + 1 = b + i' by omega]
    · rename_i hb
      split at hd
      · cases hd
      · rename_i y n hs
        have hok1 := lsg_ok hs
        obtain ⟨i1, rfl⟩ : ∃ i1, n = a + i1 := ⟨n - a, by omega⟩
        split at hd
        · cases hd
        · rename_i h5
          have hx2 : ∀ x ∈ acc ++ [y], x < 256 := fun x hx' => by
            rcases List.mem_append.1 hx' with h | h
            · exact hx x h
            · simp at h; omega
          have hok2 := llit_ok S q p _ _ _ _ _ hd hx2 (by simp; omega)
          rw [ll_on (by rw [e0]; exact hb) (h.lsg hs (by omega)) h5]
          exact Seg.llit h hi f i1 (acc ++ [y]) (by simp; omega) hx2 hd
theorem Seg.ll {S X : ByteArray} {a b L q p p' i i' : Nat} {l : List Nat} (h : Seg S X a b L) (hi : i' ≤ L) (hd : ll S q p (a + i) [] = .inr (l, a + i')) : ll X q p' (b + i) [] = .inr (l, b + i') :=
  Seg.llit h hi _ i [] (by simp) (fun x hx => by simp at hx) hd
/-- Two texts that begin alike. -/
def Agr (T V : ByteArray) (M : Nat) : Prop := ∀ j, j < M → bt V j = bt T j
theorem Agr.digs {T V : ByteArray} {M k y n : Nat} (h : Agr T V M) (hd : digs T k = .inr (y, n)) (hn : n ≤ M) : digs V k = .inr (y, n) := by
  have := Seg.digs (S := T) (X := V) (a := 0) (b := 0) (L := M) (i := k) (i' := n) (y := y) (fun j hj => by simpa using h j hj) (by simpa using hd) hn
  simpa using this
theorem Agr.sg {T V : ByteArray} {M k y n : Nat} (h : Agr T V M) (hd : sg T k = .inr (y, n)) (hn : n ≤ M) : sg V k = .inr (y, n) := by
  have hok := sg_ok hd
  have e0 := h k (by omega)
  unfold Proofs.YtggmoneicdkamaaGreatDoor.sg at hd ⊢
  rw [e0]
  cases hb : bt T k with
  | none => rw [hb] at hd; cases hd
  | some x =>
    rw [hb] at hd
    simp only at hd ⊢
    split at hd
    · rename_i hx
      rw [if_pos hx]
      have hok2 := esc_ok hd
      have e1 := h (k + 1) (by omega)
      unfold esc at hd ⊢
      rw [e1]
      cases hb2 : bt T (k + 1) with
      | none => rw [hb2] at hd; cases hd
      | some z =>
        rw [hb2] at hd
        simp only at hd ⊢
        cases hv : escv z with
        | some v => rw [hv] at hd; exact hd
        | none =>
          rw [hv] at hd
          simp only at hd ⊢
          split at hd
          · rename_i hz
            rw [if_pos hz]
            exact h.digs hd hn
          · cases hd
    · rename_i hx
      rw [if_neg hx]
      split at hd
      · rename_i hp
        rw [if_pos hp]
        exact hd
      · cases hd
theorem Agr.mbr {T V : ByteArray} {M k y n : Nat} (h : Agr T V M) (hd : mbr T k = .inr (y, n)) (hn : n < M) : mbr V k = .inr (y, n) := by
  have hok := mbr_ok hd
  unfold Proofs.YtggmoneicdkamaaGreatDoor.mbr at hd ⊢
  cases hs : Proofs.YtggmoneicdkamaaGreatDoor.sg T k with
  | inl e => rw [hs] at hd; cases hd
  | inr r =>
    obtain ⟨lo, m⟩ := r
    have hok1 := sg_ok hs
    rw [hs] at hd
    simp only at hd
    split at hd
    · rename_i h45
      have hm : m < n := by
        split at hd
        · cases hd
        · rename_i hi m2 hs2
          have := sg_ok hs2
          split at hd
          · cases hd
          · simp only [Sum.inr.injEq, Prod.mk.injEq] at hd; omega
      rw [h.sg hs (by omega)]
      simp only
      rw [if_pos (by rw [h m (by omega)]; exact h45)]
      cases hs2 : Proofs.YtggmoneicdkamaaGreatDoor.sg T (m + 1) with
      | inl e => rw [hs2] at hd; cases hd
      | inr r2 =>
        obtain ⟨hi, m2⟩ := r2
        rw [hs2] at hd
        simp only at hd
        split at hd
        · cases hd
        · rename_i hle
          have hd2 := hd
          simp only [Sum.inr.injEq, Prod.mk.injEq] at hd2
          rw [h.sg hs2 (by omega)]
          simp only
          rw [if_neg hle]
          exact hd
    · rename_i h45
      have hd2 := hd
      simp only [Sum.inr.injEq, Prod.mk.injEq] at hd2
      rw [h.sg hs (by omega)]
      simp only
      rw [if_neg (by rw [h m (by omega)]; exact h45)]
      exact hd
theorem Agr.mems {T V : ByteArray} {M C n : Nat} (h : Agr T V M) (hn : n ≤ M) : ∀ (f k acc : Nat), mems T f k acc = .inr (C, n) → k < n ∧ n ≤ T.size ∧ mm V k acc = .inr (C, n)
  | 0, k, acc, hd => by rw [Proofs.YtggmoneicdkamaaGreatDoor.mems] at hd; cases hd
  | f + 1, k, acc, hd => by
    rw [Proofs.YtggmoneicdkamaaGreatDoor.mems] at hd
    split at hd
    · rename_i hb
      have h1 := (bt_lt hb).1
      have hd2 := hd
      simp only [Sum.inr.injEq, Prod.mk.injEq] at hd2
      refine ⟨by omega, by omega, ?_⟩
      rw [mm_eq, if_pos (by rw [h k (by omega)]; exact hb)]
      exact hd
    · rename_i hb
      cases hm : Proofs.YtggmoneicdkamaaGreatDoor.mbr T k with
      | inl e => rw [hm] at hd; cases hd
      | inr r =>
        obtain ⟨Y, m⟩ := r
        rw [hm] at hd
        have hok := mbr_ok hm
        obtain ⟨h1, h2, h3⟩ := Agr.mems h hn f m _ hd
        refine ⟨by omega, h2, ?_⟩
        rw [mm_eq, if_neg (by rw [h k (by omega)]; exact hb), h.mbr hm (by omega)]
        exact h3
theorem Agr.cls {T V : ByteArray} {M C n : Nat} (h : Agr T V M) (hd : clsP T = .inr (C, n)) (hn : n ≤ M) : clsP V = .inr (C, n) := by
  rw [clsP_ng] at hd ⊢
  split at hd
  · rename_i h0
    split at hd
    · rename_i h1
      cases hm : mm T 2 0 with
      | inl e => rw [hm] at hd; cases hd
      | inr r =>
        obtain ⟨D, m⟩ := r
        rw [hm] at hd
        have hd2 := hd
        simp only [ng, Sum.inr.injEq, Prod.mk.injEq] at hd2
        obtain ⟨a1, a2, a3⟩ := h.mems (n := m) (by omega) _ _ _ hm
        rw [if_pos (by rw [h 0 (by omega)]; exact h0), if_pos (by rw [h 1 (by omega)]; exact h1), a3]
        exact hd
    · rename_i h1
      obtain ⟨a1, a2, a3⟩ := h.mems hn _ _ _ hd
      rw [if_pos (by rw [h 0 (by omega)]; exact h0), if_neg (by rw [h 1 (by omega)]; exact h1), a3]
  · cases hd
end Go.Proofs.YtggmoneicdkamaaGreatDoor
namespace Go.Proofs.YtggmoneicdkamaaGreatDoor
open Go.RowKit
set_option linter.unusedVariables false
end Go.Proofs.YtggmoneicdkamaaGreatDoor
namespace Go.Proofs.YtggmoneicdkamaaGreatDoor
open Go.RowKit
set_option linter.unusedVariables false
end Go.Proofs.YtggmoneicdkamaaGreatDoor
namespace Go.Proofs.YtggmoneicdkamaaGreatDoor
open Go.RowKit
set_option linter.unusedVariables false
end Go.Proofs.YtggmoneicdkamaaGreatDoor
namespace Go.Proofs.YtggmoneicdkamaaGreatDoor
open Go.RowKit
set_option linter.unusedVariables false
mutual
/-- Texts and classes of a tree's nodes; Nm: what a name is. -/
def Wf (Nm : ByteArray → Prop) : Nd → Prop
  | .mk kd T C s p => (kd = 2 → T.size ≤ 255) ∧ (kd = 5 → Nm T) ∧ C < 2 ^ 256 ∧ WfL Nm s
def WfL (Nm : ByteArray → Prop) : List Nd → Prop
  | [] => True
  | n :: r => Wf Nm n ∧ WfL Nm r
end
/-- What a token is, but for its place. -/
def TokG (Nm : ByteArray → Prop) (t : Tok) : Prop := (t.1 = 1 → Nm t.2.1 ∧ t.2.2.1 = 0) ∧ (t.1 = 3 → t.2.1.size ≤ 255 ∧ t.2.2.1 = 0) ∧ (t.1 = 4 → t.2.1 = { data := #[] }) ∧ (t.1 = 5 → t.2.2.1 = 0) ∧ t.2.2.1 < 2 ^ 256
def Pq (Nm : ByteArray → Prop) (r : Pr) : Prop := ∀ n k, r = .inr (n, k) → Vk n ∧ Wf Nm n
theorem VkL.app : ∀ {a b : List Nd}, VkL a → VkL b → VkL (a ++ b)
  | [], b, _, h => h
  | n :: r, b, h1, h2 => by
    rw [VkL] at h1
    rw [List.cons_append, VkL]
    exact ⟨h1.1, VkL.app h1.2 h2⟩
theorem WfL.app {Nm : ByteArray → Prop} : ∀ {a b : List Nd}, WfL Nm a → WfL Nm b → WfL Nm (a ++ b)
  | [], b, _, h => h
  | n :: r, b, h1, h2 => by
    rw [WfL] at h1
    rw [List.cons_append, WfL]
    exact ⟨h1.1, WfL.app h1.2 h2⟩
section
variable {L : List Tok} {Nm : ByteArray → Prop}
theorem VkL_nil : VkL [] := by rw [VkL]; trivial
theorem WfL_nil : WfL Nm [] := by rw [WfL]; trivial
theorem two256 : (0 : Nat) < 2 ^ 256 := by decide
theorem wf_bare {kd p : Nat} {s : List Nd} (h2 : kd ≠ 2) (h5 : kd ≠ 5) (hs : WfL Nm s) : Wf Nm (.mk kd { data := #[] } 0 s p) := by
  rw [Wf]
  exact ⟨fun h => absurd h h2, fun h => absurd h h5, two256, hs⟩
theorem one_v (ht : ∀ k, TokG Nm (gL L k)) {inn : Nat → Pr} (hi : ∀ k, Pq Nm (inn k)) (k : Nat) : Pq Nm (oneS L inn k) := by
  intro n k' h
  obtain ⟨t1, t3, t4, t5, tc⟩ := ht k
  unfold oneS at h
  split at h
  · rename_i hc
    simp only [Sum.inr.injEq, Prod.mk.injEq] at h
    rw [← h.1]
    have := t1 hc.1
    refine ⟨?_, ?_⟩
    · rw [Vk]; exact ⟨.inr (.inr (.inr (.inr (.inl ⟨rfl, this.2, rfl⟩)))), VkL_nil⟩
    · rw [Wf]; exact ⟨fun h => by omega, fun _ => this.1, tc, WfL_nil⟩
  · split at h
    · rename_i hc
      simp only [Sum.inr.injEq, Prod.mk.injEq] at h
      rw [← h.1]
      have := t3 hc
      refine ⟨?_, ?_⟩
      · rw [Vk]; exact ⟨.inr (.inl ⟨rfl, this.2, rfl⟩), VkL_nil⟩
      · rw [Wf]; exact ⟨fun _ => this.1, fun h => by omega, tc, WfL_nil⟩
    · split at h
      · rename_i hc
        simp only [Sum.inr.injEq, Prod.mk.injEq] at h
        rw [← h.1]
        refine ⟨?_, ?_⟩
        · rw [Vk]; exact ⟨.inr (.inr (.inl ⟨rfl, t4 hc, rfl⟩)), VkL_nil⟩
        · rw [Wf]; exact ⟨fun h => by omega, fun h => by omega, tc, WfL_nil⟩
      · split at h
        · rename_i hs
          simp only [Sum.inr.injEq, Prod.mk.injEq] at h
          rw [← h.1]
          refine ⟨?_, ?_⟩
          · rw [Vk]; exact ⟨.inr (.inr (.inr (.inl ⟨rfl, rfl, t5 (sgT_five hs), rfl⟩))), VkL_nil⟩
          · rw [Wf]; exact ⟨fun h => by omega, fun h => by omega, tc, WfL_nil⟩
        · split at h
          · exact hi k n k' h
          · cases h
theorem rep_v {r : Pr} (hr : Pq Nm r) : Pq Nm (repE L r) := by
  intro n k' h
  cases r with
  | inl e => cases h
  | inr q =>
    obtain ⟨m, j⟩ := q
    have h1 := hr m j rfl
    unfold repE at h
    simp only at h
    split at h
    · simp only [Sum.inr.injEq, Prod.mk.injEq] at h
      rw [← h.1]
      exact h1
    · rename_i hs
      have hk : rpK (sgT (gL L j)) = 8 ∨ rpK (sgT (gL L j)) = 9 ∨ rpK (sgT (gL L j)) = 10 := by
        unfold rpK at hs ⊢
        split
        · exact .inl rfl
        · split
          · exact .inr (.inl rfl)
          · split
            · exact .inr (.inr rfl)
            · rename_i a b c
              rw [if_neg a, if_neg b, if_neg c] at hs
              exact absurd rfl hs
      simp only [Sum.inr.injEq, Prod.mk.injEq] at h
      rw [← h.1]
      refine ⟨?_, wf_bare (by omega) (by omega) (by rw [WfL]; exact ⟨h1.2, WfL_nil⟩)⟩
      rw [Vk]
      exact ⟨.inr (.inr (.inr (.inr (.inr (.inr ⟨by omega, by omega, rfl, rfl, rfl⟩))))), by rw [VkL]; exact ⟨h1.1, VkL_nil⟩⟩
theorem part_v (ht : ∀ k, TokG Nm (gL L k)) {inn : Nat → Pr} (hi : ∀ k, Pq Nm (inn k)) (k : Nat) : Pq Nm (partS L inn k) := by
  have ov : ∀ (kd p : Nat) (r : Pr), (kd = 11 ∨ kd = 12) → Pq Nm r → Pq Nm (ovS kd p r) := fun kd p r hk hr n k' h => by
    cases r with
    | inl e => cases h
    | inr q =>
      obtain ⟨m, j⟩ := q
      have h1 := hr m j rfl
      simp only [ovS, Sum.inr.injEq, Prod.mk.injEq] at h
      rw [← h.1]
      refine ⟨?_, wf_bare (by omega) (by omega) (by rw [WfL]; exact ⟨h1.2, WfL_nil⟩)⟩
      rw [Vk]
      exact ⟨.inr (.inr (.inr (.inr (.inr (.inr ⟨by omega, by omega, rfl, rfl, rfl⟩))))), by rw [VkL]; exact ⟨h1.1, VkL_nil⟩⟩
  unfold partS
  split
  · exact ov 12 _ _ (.inr rfl) (rep_v (one_v ht hi _))
  · split
    · exact ov 11 _ _ (.inl rfl) (rep_v (one_v ht hi _))
    · exact rep_v (one_v ht hi _)
theorem join_v {kd : Nat} (hk : kd = 6 ∨ kd = 7) : ∀ {l : List Nd}, l ≠ [] → VkL l → WfL Nm l → Vk (joinN kd l) ∧ Wf Nm (joinN kd l)
  | [], h, _, _ => absurd rfl h
  | [n], _, h1, h2 => by
    rw [VkL] at h1
    rw [WfL] at h2
    exact ⟨h1.1, h2.1⟩
  | n :: m :: r, _, h1, h2 => by
    refine ⟨?_, wf_bare (by omega) (by omega) h2⟩
    show Vk (.mk kd _ 0 (n :: m :: r) n.at')
    rw [Vk]
    exact ⟨.inr (.inr (.inr (.inr (.inr (.inl ⟨hk, rfl, rfl, by simp⟩))))), h1⟩
theorem row_v (ht : ∀ k, TokG Nm (gL L k)) {inn : Nat → Pr} (hi : ∀ k, Pq Nm (inn k)) : ∀ (f k : Nat) (acc : List Nd), VkL acc → WfL Nm acc → Pq Nm (rowS L inn f k acc)
  | 0, _, _, _, _ => fun n k' h => by rw [rowS] at h; cases h
  | f + 1, k, acc, h1, h2 => fun n k' h => by
    rw [rowS] at h
    split at h
    · split at h
      · cases h
      · rename_i m j hp
        have hm := part_v ht hi k m j hp
        exact row_v ht hi f j (acc ++ [m]) (h1.app (by rw [VkL]; exact ⟨hm.1, VkL_nil⟩)) (h2.app (by rw [WfL]; exact ⟨hm.2, WfL_nil⟩)) n k' h
    · split at h
      · simp only [Sum.inr.injEq, Prod.mk.injEq] at h
        rw [← h.1]
        refine ⟨?_, wf_bare (by decide) (by decide) WfL_nil⟩
        rw [Vk]
        exact ⟨.inl ⟨rfl, rfl, rfl, rfl⟩, VkL_nil⟩
      · rename_i hne
        simp only [Sum.inr.injEq, Prod.mk.injEq] at h
        rw [← h.1]
        exact join_v (.inl rfl) (fun e => hne (by rw [e]; rfl)) h1 h2
theorem alt_v (ht : ∀ k, TokG Nm (gL L k)) {inn : Nat → Pr} (hi : ∀ k, Pq Nm (inn k)) : ∀ (f k : Nat) (acc : List Nd), acc ≠ [] → VkL acc → WfL Nm acc → Pq Nm (altS L inn f k acc)
  | 0, _, _, _, _, _ => fun n k' h => by rw [altS] at h; cases h
  | f + 1, k, acc, hn, h1, h2 => fun n k' h => by
    rw [altS] at h
    split at h
    · split at h
      · cases h
      · rename_i m j hp
        have hm := row_v ht hi _ _ [] VkL_nil WfL_nil m j hp
        exact alt_v ht hi f j (acc ++ [m]) (by simp) (h1.app (by rw [VkL]; exact ⟨hm.1, VkL_nil⟩)) (h2.app (by rw [WfL]; exact ⟨hm.2, WfL_nil⟩)) n k' h
    · simp only [Sum.inr.injEq, Prod.mk.injEq] at h
      rw [← h.1]
      exact join_v (.inr rfl) hn h1 h2
theorem ch_v (ht : ∀ k, TokG Nm (gL L k)) {inn : Nat → Pr} (hi : ∀ k, Pq Nm (inn k)) (k : Nat) : Pq Nm (chS L inn k) := by
  intro n k' h
  unfold chS at h
  cases hr : rowS L inn L.length k [] with
  | inl e => rw [hr] at h; cases h
  | inr q =>
    obtain ⟨m, j⟩ := q
    rw [hr] at h
    have hm := row_v ht hi _ _ [] VkL_nil WfL_nil m j hr
    exact alt_v ht hi _ j [m] (by simp) (by rw [VkL]; exact ⟨hm.1, VkL_nil⟩) (by rw [WfL]; exact ⟨hm.2, WfL_nil⟩) n k' h
theorem inn_v (ht : ∀ k, TokG Nm (gL L k)) : ∀ (d k : Nat), Pq Nm (innS L d k)
  | 0, k => fun n k' h => by rw [innS] at h; cases h
  | d + 1, k => fun n k' h => by
    rw [innS] at h
    obtain ⟨j, h1, _⟩ := innE_inv h
    exact ch_v ht (inn_v ht d) (k + 1) n j h1
/-- What a rule is. -/
def Ruk (Nm : ByteArray → Prop) (x : Rl) : Prop := Nm x.1 ∧ Vk x.2.1 ∧ Wf Nm x.2.1
theorem ru_v (ht : ∀ k, TokG Nm (gL L k)) {ru k k' : Nat} {x : Rl} (h : ruS L ru k = .inr (x, k')) : Ruk Nm x := by
  obtain ⟨h1, h2⟩ := ruS_inv h
  have h3 := ch_v ht (inn_v ht 24) _ _ _ h1
  refine ⟨?_, h3.1, h3.2⟩
  unfold ruS at h
  split at h
  · cases h
  · rename_i c
    rw [h2]
    exact ((ht k).1 (by simpa using c)).1
theorem rls_v (ht : ∀ k, TokG Nm (gL L k)) : ∀ (f k : Nat) (acc rs : List Rl), rlsS L f k acc = .inr rs → (∀ x ∈ acc, Ruk Nm x) → ∀ x ∈ rs, Ruk Nm x
  | 0, _, _, _, h, _ => by rw [rlsS] at h; cases h
  | f + 1, k, acc, rs, h, ha => by
    rw [rlsS] at h
    split at h
    · simp only [Sum.inr.injEq] at h; subst h; exact ha
    · split at h
      · cases h
      · rename_i x k' hr
        refine rls_v ht f k' (acc ++ [x]) rs h (fun y hy => ?_)
        rcases List.mem_append.1 hy with hy | hy
        · exact ha y hy
        · simp at hy
          subst hy
          exact ru_v ht hr
theorem gra_v (ht : ∀ k, TokG Nm (gL L k)) {rs : List Rl} (h : graS L = .inr rs) : ∀ x ∈ rs, Ruk Nm x := by
  unfold graS at h
  cases hr : ruS L 0 0 with
  | inl c => rw [hr] at h; cases h
  | inr q =>
    obtain ⟨x, k'⟩ := q
    rw [hr] at h
    refine rls_v ht _ _ _ _ h (fun y hy => ?_)
    simp at hy
    subst hy
    exact ru_v ht hr
end
end Go.Proofs.YtggmoneicdkamaaGreatDoor
namespace Go.Proofs.YtggmoneicdkamaaGreatDoor
open Go.RowKit
set_option linter.unusedVariables false
def bO : ByteArray := { data := #[40] }
def bC : ByteArray := { data := #[41] }
def bSp : ByteArray := { data := #[32] }
def bSl : ByteArray := { data := #[32, 47, 32] }
def bAr : ByteArray := { data := #[32, 60, 45, 32] }
def bNl : ByteArray := { data := #[10] }
def bDot : ByteArray := { data := #[46] }
def bE : ByteArray := { data := #[] }
/-- A kind's sign. -/
def bsg (kd : Nat) : ByteArray := if kd = 11 then { data := #[38] } else if kd = 12 then { data := #[33] } else { data := #[rpS kd] }
section
variable (QT : ByteArray → ByteArray) (CT : Nat → ByteArray)
mutual
/-- The pieces of a tree's text. -/
def pN : Nd → List ByteArray
  | .mk kd T C s p => if kd = 1 then [bO, bC] else if kd = 2 then [QT T] else if kd = 3 then [CT C] else if kd = 4 then [bDot] else if kd = 5 then [T] else if kd = 6 then pS 6 bSp s else if kd = 7 then pS 7 bSl s
    else if kd = 11 ∨ kd = 12 then bsg kd :: pS kd bE s else pS kd bE s ++ [bsg kd]
def pS (over : Nat) (sep : ByteArray) : List Nd → List ByteArray
  | [] => []
  | n :: r => (if wr over n.kd = true then bO :: (pN n ++ [bC]) else pN n) ++ pB over sep r
def pB (over : Nat) (sep : ByteArray) : List Nd → List ByteArray
  | [] => []
  | n :: r => sep :: ((if wr over n.kd = true then bO :: (pN n ++ [bC]) else pN n) ++ pB over sep r)
end
def pP (over : Nat) (n : Nd) : List ByteArray := if wr over n.kd = true then bO :: (pN QT CT n ++ [bC]) else pN QT CT n
/-- The pieces of rules. -/
def pR : List Rl → List ByteArray
  | [] => []
  | x :: r => x.1 :: bAr :: (pN QT CT x.2.1 ++ (bNl :: pR r))
end
def sz : List ByteArray → Nat
  | [] => 0
  | p :: r => p.size + sz r
theorem sz_app : ∀ (a b : List ByteArray), sz (a ++ b) = sz a + sz b
  | [], b => by rw [List.nil_append, sz, Nat.zero_add]
  | p :: r, b => by rw [List.cons_append, sz, sz, sz_app r b, Nat.add_assoc]
def Pl (X : ByteArray) (a : Nat) (P : ByteArray) : Prop := a + P.size ≤ X.size ∧ ∀ i, i < P.size → bt X (a + i) = bt P i
section
variable {X : ByteArray}
/-- What names, quotes and class texts are. -/
structure Pcs (Nm : ByteArray → Prop) (QT : ByteArray → ByteArray) (CT : Nat → ByteArray) : Prop where
  nm : ∀ T, Nm T → T.size ≤ 32 ∧ (∃ x, bt T 0 = some x ∧ letB x = true) ∧ ∀ i x, bt T i = some x → (letB x || digB x) = true
  qt : ∀ T X a, T.size ≤ 255 → Pl X a (QT T) → ∃ p, bt X a = some 39 ∧ tokAt X a 39 = .inr ((3, T, 0, p), a + (QT T).size)
  ct : ∀ C X a, C < 2 ^ 256 → Pl X a (CT C) → ∃ p, bt X a = some 91 ∧ tokAt X a 91 = .inr ((4, { data := #[] }, C, p), a + (CT C).size)
variable {Nm : ByteArray → Prop} {QT : ByteArray → ByteArray} {CT : Nat → ByteArray}
theorem pS_cons (over : Nat) (sep : ByteArray) (n : Nd) (r : List Nd) : pS QT CT over sep (n :: r) = pP QT CT over n ++ pB QT CT over sep r := by rw [pS]; rfl
theorem pB_cons (over : Nat) (sep : ByteArray) (n : Nd) (r : List Nd) : pB QT CT over sep (n :: r) = sep :: (pP QT CT over n ++ pB QT CT over sep r) := by rw [pB]; rfl
theorem pB_nil (over : Nat) (sep : ByteArray) : pB QT CT over sep [] = [] := by rw [pB]
end
end Go.Proofs.YtggmoneicdkamaaGreatDoor
namespace Go.Proofs.YtggmoneicdkamaaGreatDoor
open Go.RowKit
set_option linter.unusedVariables false
def cat : List ByteArray → ByteArray
  | [] => { data := #[] }
  | p :: r => p ++ cat r
section
variable {Nm : ByteArray → Prop} {QT : ByteArray → ByteArray} {CT : Nat → ByteArray}
theorem first_ne {p q : ByteArray} {x y : Nat} (h1 : bt p 0 = some x) (h2 : bt q 0 = some y) (h : x ≠ y) : p ≠ q := fun e => by
  rw [e, h2] at h1
  cases h1
  exact h rfl
theorem bC_bO : bC ≠ bO := first_ne (x := 41) (y := 40) rfl rfl (by decide)
theorem bsg_ne (kd : Nat) : bsg kd ≠ bO ∧ bsg kd ≠ bC := by
  unfold bsg rpS
  split
  · exact ⟨first_ne (x := 38) (y := 40) rfl rfl (by decide), first_ne (x := 38) (y := 41) rfl rfl (by decide)⟩
  · split
    · exact ⟨first_ne (x := 33) (y := 40) rfl rfl (by decide), first_ne (x := 33) (y := 41) rfl rfl (by decide)⟩
    · split
      · exact ⟨first_ne (x := 63) (y := 40) rfl rfl (by decide), first_ne (x := 63) (y := 41) rfl rfl (by decide)⟩
      · split
        · exact ⟨first_ne (x := 42) (y := 40) rfl rfl (by decide), first_ne (x := 42) (y := 41) rfl rfl (by decide)⟩
        · exact ⟨first_ne (x := 43) (y := 40) rfl rfl (by decide), first_ne (x := 43) (y := 41) rfl rfl (by decide)⟩
theorem bE_ne : bE ≠ bO ∧ bE ≠ bC := ⟨fun e => by have := congrArg ByteArray.size e; simp [bE, bO, ByteArray.size] at this, fun e => by have := congrArg ByteArray.size e; simp [bE, bC, ByteArray.size] at this⟩
theorem bSp_ne : bSp ≠ bO ∧ bSp ≠ bC := ⟨first_ne (x := 32) (y := 40) rfl rfl (by decide), first_ne (x := 32) (y := 41) rfl rfl (by decide)⟩
theorem bSl_ne : bSl ≠ bO ∧ bSl ≠ bC := ⟨first_ne (x := 32) (y := 40) rfl rfl (by decide), first_ne (x := 32) (y := 41) rfl rfl (by decide)⟩
theorem pl_self (P : ByteArray) : Pl P 0 P := ⟨by omega, fun i _ => by rw [Nat.zero_add]⟩
theorem nm_ne (hP : Pcs Nm QT CT) {T : ByteArray} (h : Nm T) : T ≠ bO ∧ T ≠ bC := by
  obtain ⟨_, ⟨x, hx, hl⟩, _⟩ := hP.nm T h
  have : x ≠ 40 ∧ x ≠ 41 := by
    unfold letB at hl
    simp at hl
    omega
  exact ⟨first_ne hx (y := 40) rfl this.1, first_ne hx (y := 41) rfl this.2⟩
/-- The most that are open at once in a grammar's text. -/
def dR : List Rl → Nat
  | [] => 0
  | x :: r => max (dN x.2.1) (dR r)
end
end Go.Proofs.YtggmoneicdkamaaGreatDoor
