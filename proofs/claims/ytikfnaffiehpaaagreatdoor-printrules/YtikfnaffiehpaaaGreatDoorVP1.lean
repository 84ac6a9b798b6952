/-
  Two rows of tokens, one of them with a parenthesis ahead of its choice and one behind it: what is read of both is one tree but for places. Plain facts on tokens and trees.
  Rows, choices and parentheses in two rows of tokens, one of them with a parenthesis ahead and one behind: one tree but for places. Plain facts on tokens and trees.
  A rule, and the same one with parentheses around its body: what is read of both is one tree but for places. Plain facts on tokens and trees.
  A row of tokens that stands in another one: what is read of it is read there too, one tree but for places. Plain facts on tokens and trees.
  The tokens of a tree's text, and what is read of them: the tree, but for places. Plain facts on tokens and trees.
-/
import Derived.Test.YtikfnaffiehpaaaGreatDoorVY6
namespace Go.Proofs.YtikfnaffiehpaaaGreatDoor
open Go.RowKit
set_option linter.unusedVariables false
theorem Sm_mk {kd : Nat} {T : ByteArray} {C p p' : Nat} {s s' : List Nd} (h : SmL s s') (hl : s.length ≤ 1000000) : Sm (.mk kd T C s p) (.mk kd T C s' p') := by
  rw [Sm]
  exact ⟨rfl, rfl, rfl, h, hl⟩
theorem SmL_nil : SmL [] [] := by rw [SmL]; trivial
theorem SmL_one {a b : Nd} (h : Sm a b) : SmL [a] [b] := by rw [SmL]; exact ⟨h, SmL_nil⟩
theorem SmL_snoc : ∀ {s t : List Nd} {a b : Nd}, SmL s t → Sm a b → SmL (s ++ [a]) (t ++ [b])
  | [], [], a, b, _, h => SmL_one h
  | [], _ :: _, _, _, h, _ => by simp [SmL] at h
  | _ :: _, [], _, _, h, _ => by simp [SmL] at h
  | x :: s, y :: t, a, b, h, h2 => by
    rw [SmL] at h
    rw [List.cons_append, List.cons_append, SmL]
    exact ⟨h.1, SmL_snoc h.2 h2⟩
theorem Sm_join (kd : Nat) : ∀ {s t : List Nd}, SmL s t → s.length ≤ 1000000 → s ≠ [] → Sm (joinN kd s) (joinN kd t)
  | [], _, _, _, h => absurd rfl h
  | _ :: _, [], h, _, _ => by simp [SmL] at h
  | [a], [b], h, _, _ => by rw [SmL] at h; exact h.1
  | [a], b :: c :: t, h, _, _ => by simp [SmL] at h
  | a :: x :: s, [b], h, _, _ => by simp [SmL] at h
  | a :: x :: s, b :: y :: t, h, hl, _ => Sm_mk h hl
/-- What of a token is no place. -/
def tk3 (t : Tok) : Nat × ByteArray × Nat := (t.1, t.2.1, t.2.2.1)
/-- The row L2 is L1 with one more token ahead, from the third on; where L1 ends, L2 shuts a parenthesis. -/
structure Lk (L1 L2 : List Tok) (e : Nat) : Prop where
  low : 2 ≤ e
  big : e ≤ 10000
  same : ∀ k, 2 ≤ k → k < e → tk3 (gL L2 (k + 1)) = tk3 (gL L1 k)
  end1 : (gL L1 e).1 = 6
  end2 : tk3 (gL L2 (e + 1)) = (5, { data := #[41] }, 0)
def Rel (e : Nat) (r1 r2 : Pr) : Prop := ∀ n1 k1 n2 k2, r1 = .inr (n1, k1) → r2 = .inr (n2, k2) → k2 = k1 + 1 ∧ 2 ≤ k1 ∧ k1 ≤ e ∧ Sm n1 n2
theorem sgT_eq {t u : Tok} (h : tk3 u = tk3 t) : sgT u = sgT t := by
  unfold tk3 at h
  simp only [Prod.mk.injEq] at h
  unfold sgT
  rw [h.1, h.2.1]
section
variable {L1 L2 : List Tok} {e : Nat}
theorem Lk.kd (h : Lk L1 L2 e) {k : Nat} (h2 : 2 ≤ k) (hk : k < e) : (gL L2 (k + 1)).1 = (gL L1 k).1 ∧ (gL L2 (k + 1)).2.1 = (gL L1 k).2.1 ∧ (gL L2 (k + 1)).2.2.1 = (gL L1 k).2.2.1 := by
  have := h.same k h2 hk
  unfold tk3 at this
  simp only [Prod.mk.injEq] at this
  exact this
theorem Lk.sg1 (h : Lk L1 L2 e) : sgT (gL L1 e) = { data := #[] } := by unfold sgT; rw [h.end1]; rfl
theorem Lk.sg2 (h : Lk L1 L2 e) : sgT (gL L2 (e + 1)) = { data := #[41] } := by
  have := h.end2
  unfold tk3 at this
  simp only [Prod.mk.injEq] at this
  unfold sgT
  rw [if_pos this.1]
  exact this.2.1
/-- A sign that is neither none nor a shut parenthesis stands in both or in none. -/
theorem Lk.sgn (h : Lk L1 L2 e) {k : Nat} (h2 : 2 ≤ k) (hk : k ≤ e) {x : UInt8} (hx : x ≠ 41) : (sgT (gL L2 (k + 1)) = { data := #[x] }) ↔ (sgT (gL L1 k) = { data := #[x] }) := by
  rcases Nat.lt_or_ge k e with hl | hl
  · rw [sgT_eq (h.same k h2 hl)]
  · have : k = e := by omega
    subst this
    rw [h.sg1, h.sg2]
    constructor
    · intro he
      have := congrArg (fun a : ByteArray => a.data.toList) he
      simp at this
      exact absurd this.symm hx
    · intro he
      have := congrArg (fun a : ByteArray => a.data.size) he
      simp at this
theorem Lk.rp (h : Lk L1 L2 e) {k : Nat} (h2 : 2 ≤ k) (hk : k ≤ e) : rpK (sgT (gL L2 (k + 1))) = rpK (sgT (gL L1 k)) := by
  unfold rpK
  simp only [h.sgn h2 hk (x := 63) (by decide), h.sgn h2 hk (x := 42) (by decide), h.sgn h2 hk (x := 43) (by decide)]
theorem hdB_gL (L : List Tok) (k : Nat) (h : k + 1 < L.length) : hdB L k = ((gL L k).1 == 1 && (gL L (k + 1)).1 == 2) := by
  unfold hdB
  rw [gL_eq (show k < L.length by omega), gL_eq h, List.getElem?_eq_getElem (show k < L.length by omega), List.getElem?_eq_getElem h]
theorem Lk.hd (h : Lk L1 L2 e) (g1 : e + 1 = L1.length) (g2 : e + 1 < L2.length) {k : Nat} (h2 : 2 ≤ k) (hk : k < e) : hdB L2 (k + 1) = hdB L1 k := by
  rw [hdB_gL L1 k (by omega), hdB_gL L2 (k + 1) (by omega), (h.kd h2 hk).1]
  congr 1
  rcases Nat.lt_or_ge (k + 1) e with hl | hl
  · rw [(h.kd (k := k + 1) (by omega) hl).1]
  · have hke : k + 1 = e := by omega
    rw [hke, h.end1]
    have := h.end2
    unfold tk3 at this
    simp only [Prod.mk.injEq] at this
    rw [this.1]
    rfl
theorem Lk.pt (h : Lk L1 L2 e) (g1 : e + 1 = L1.length) (g2 : e + 1 < L2.length) {k : Nat} (h2 : 2 ≤ k) (hk : k ≤ e) : ptB L2 (k + 1) (gL L2 (k + 1)) = ptB L1 k (gL L1 k) := by
  rcases Nat.lt_or_ge k e with hl | hl
  · unfold ptB
    rw [(h.kd h2 hl).1, (h.kd h2 hl).2.1, h.hd g1 g2 h2 hl]
  · have : k = e := by omega
    subst this
    have hq := h.end2
    unfold tk3 at hq
    simp only [Prod.mk.injEq] at hq
    unfold ptB
    rw [h.end1, hq.1, hq.2.1]
    rfl
theorem one_rel (h : Lk L1 L2 e) (g1 : e + 1 = L1.length) (g2 : e + 1 < L2.length) {i1 i2 : Nat → Pr} (hi : ∀ k, 2 ≤ k → k < e → Rel e (i1 k) (i2 (k + 1))) {k : Nat} (h2 : 2 ≤ k) (hk : k ≤ e) : Rel e (oneS L1 i1 k) (oneS L2 i2 (k + 1)) := by
  rcases Nat.lt_or_ge k e with hl | hl
  · have q := h.kd h2 hl
    have s46 := h.sgn h2 hk (x := 46) (by decide)
    have s40 := h.sgn h2 hk (x := 40) (by decide)
    unfold oneS
    simp only [q.1, q.2.1, q.2.2, h.hd g1 g2 h2 hl, s46, s40]
    split
    · intro n1 k1 n2 k2 e1 e2
      simp only [Sum.inr.injEq, Prod.mk.injEq] at e1 e2
      refine ⟨by omega, by omega, by omega, ?_⟩
      rw [← e1.1, ← e2.1]
      exact Sm_mk SmL_nil (by simp)
    · split
      · intro n1 k1 n2 k2 e1 e2
        simp only [Sum.inr.injEq, Prod.mk.injEq] at e1 e2
        refine ⟨by omega, by omega, by omega, ?_⟩
        rw [← e1.1, ← e2.1]
        exact Sm_mk SmL_nil (by simp)
      · split
        · intro n1 k1 n2 k2 e1 e2
          simp only [Sum.inr.injEq, Prod.mk.injEq] at e1 e2
          refine ⟨by omega, by omega, by omega, ?_⟩
          rw [← e1.1, ← e2.1]
          exact Sm_mk SmL_nil (by simp)
        · split
          · intro n1 k1 n2 k2 e1 e2
            simp only [Sum.inr.injEq, Prod.mk.injEq] at e1 e2
            refine ⟨by omega, by omega, by omega, ?_⟩
            rw [← e1.1, ← e2.1]
            exact Sm_mk SmL_nil (by simp)
          · split
            · exact hi k h2 hl
            · intro n1 k1 n2 k2 e1 e2
              cases e1
  · have hke : k = e := by omega
    subst hke
    intro n1 k1 n2 k2 e1 e2
    unfold oneS at e1
    rw [h.end1, h.sg1] at e1
    simp at e1
theorem rep_rel (h : Lk L1 L2 e) {r1 r2 : Pr} (hr : Rel e r1 r2) : Rel e (repE L1 r1) (repE L2 r2) := by
  cases r1 with
  | inl c => intro n1 k1 n2 k2 e1 e2; cases e1
  | inr q1 =>
    cases r2 with
    | inl c => intro n1 k1 n2 k2 e1 e2; cases e2
    | inr q2 =>
      obtain ⟨m1, j1⟩ := q1
      obtain ⟨m2, j2⟩ := q2
      obtain ⟨hj, hlo, hhi, hs⟩ := hr m1 j1 m2 j2 rfl rfl
      subst hj
      unfold repE
      simp only [h.rp hlo hhi]
      split
      · exact hr
      · rename_i hne
        have hlt : j1 < e := by
          rcases Nat.lt_or_ge j1 e with hl | hl
          · exact hl
          · have : j1 = e := by omega
            subst this
            rw [h.sg1] at hne
            exact absurd (by decide) hne
        intro n1 k1 n2 k2 e1 e2
        simp only [Sum.inr.injEq, Prod.mk.injEq] at e1 e2
        refine ⟨by omega, by omega, by omega, ?_⟩
        rw [← e1.1, ← e2.1]
        exact Sm_mk (SmL_one hs) (by simp)
theorem ov_rel {kd p p' : Nat} {r1 r2 : Pr} (hr : Rel e r1 r2) : Rel e (ovS kd p r1) (ovS kd p' r2) := by
  cases r1 with
  | inl c => intro n1 k1 n2 k2 e1 e2; cases e1
  | inr q1 =>
    cases r2 with
    | inl c => intro n1 k1 n2 k2 e1 e2; cases e2
    | inr q2 =>
      obtain ⟨m1, j1⟩ := q1
      obtain ⟨m2, j2⟩ := q2
      obtain ⟨hj, hlo, hhi, hs⟩ := hr m1 j1 m2 j2 rfl rfl
      intro n1 k1 n2 k2 e1 e2
      simp only [ovS, Sum.inr.injEq, Prod.mk.injEq] at e1 e2
      refine ⟨by omega, by omega, by omega, ?_⟩
      rw [← e1.1, ← e2.1]
      exact Sm_mk (SmL_one hs) (by simp)
theorem sg_lt (h : Lk L1 L2 e) {k : Nat} (hk : k ≤ e) {x : UInt8} (hs : sgT (gL L1 k) = { data := #[x] }) : k < e := by
  rcases Nat.lt_or_ge k e with hl | hl
  · exact hl
  · have : k = e := by omega
    subst this
    rw [h.sg1] at hs
    have := congrArg (fun a : ByteArray => a.data.size) hs
    simp at this
theorem part_rel (h : Lk L1 L2 e) (g1 : e + 1 = L1.length) (g2 : e + 1 < L2.length) {i1 i2 : Nat → Pr} (hi : ∀ k, 2 ≤ k → k < e → Rel e (i1 k) (i2 (k + 1))) {k : Nat} (h2 : 2 ≤ k) (hk : k ≤ e) : Rel e (partS L1 i1 k) (partS L2 i2 (k + 1)) := by
  unfold partS
  simp only [h.sgn h2 hk (x := 33) (by decide), h.sgn h2 hk (x := 38) (by decide)]
  split
  · rename_i hs
    have := sg_lt h hk hs
    exact ov_rel (rep_rel h (one_rel h g1 g2 hi (k := k + 1) (by omega) (by omega)))
  · split
    · rename_i hs
      have := sg_lt h hk hs
      exact ov_rel (rep_rel h (one_rel h g1 g2 hi (k := k + 1) (by omega) (by omega)))
    · exact rep_rel h (one_rel h g1 g2 hi h2 hk)
end
end Go.Proofs.YtikfnaffiehpaaaGreatDoor
namespace Go.Proofs.YtikfnaffiehpaaaGreatDoor
open Go.RowKit
set_option linter.unusedVariables false
section
variable {L1 L2 : List Tok} {e : Nat}
theorem row_rel (h : Lk L1 L2 e) (g1 : e + 1 = L1.length) (g2 : e + 1 < L2.length) {i1 i2 : Nat → Pr} (hi : ∀ k, 2 ≤ k → k < e → Rel e (i1 k) (i2 (k + 1))) : ∀ (f1 f2 k : Nat) (a1 a2 : List Nd), 2 ≤ k → k ≤ e → SmL a1 a2 → a1.length + f1 ≤ 1000000 → Rel e (rowS L1 i1 f1 k a1) (rowS L2 i2 f2 (k + 1) a2)
  | 0, f2, k, a1, a2, _, _, _, _ => by intro n1 k1 n2 k2 e1 e2; rw [rowS] at e1; cases e1
  | f1 + 1, 0, k, a1, a2, _, _, _, _ => by intro n1 k1 n2 k2 e1 e2; rw [rowS] at e2; cases e2
  | f1 + 1, f2 + 1, k, a1, a2, h2, hk, ha, hl => by
    have hp := part_rel h g1 g2 hi h2 hk
    rw [rowS, rowS, h.pt g1 g2 h2 hk]
    split
    · cases hq1 : partS L1 i1 k with
      | inl c => intro n1 k1 n2 k2 e1 e2; cases e1
      | inr q1 =>
        cases hq2 : partS L2 i2 (k + 1) with
        | inl c => intro n1 k1 n2 k2 e1 e2; cases e2
        | inr q2 =>
          obtain ⟨m1, j1⟩ := q1
          obtain ⟨m2, j2⟩ := q2
          obtain ⟨hj, hlo, hhi, hs⟩ := hp m1 j1 m2 j2 hq1 hq2
          subst hj
          exact row_rel h g1 g2 hi f1 f2 j1 (a1 ++ [m1]) (a2 ++ [m2]) hlo hhi (SmL_snoc ha hs) (by simp; omega)
    · have hle := ha.len
      have hem : a2.isEmpty = a1.isEmpty := by
        cases a1 with
        | nil => cases a2 with
          | nil => rfl
          | cons _ _ => simp at hle
        | cons _ _ => cases a2 with
          | nil => simp at hle
          | cons _ _ => rfl
      rw [hem]
      split
      · intro n1 k1 n2 k2 e1 e2
        simp only [Sum.inr.injEq, Prod.mk.injEq] at e1 e2
        refine ⟨by omega, by omega, by omega, ?_⟩
        rw [← e1.1, ← e2.1]
        exact Sm_mk SmL_nil (by simp)
      · rename_i hne
        intro n1 k1 n2 k2 e1 e2
        simp only [Sum.inr.injEq, Prod.mk.injEq] at e1 e2
        refine ⟨by omega, by omega, by omega, ?_⟩
        rw [← e1.1, ← e2.1]
        exact Sm_join 6 ha (by omega) (fun he => hne (by rw [he]; rfl))
theorem alt_rel (h : Lk L1 L2 e) (g1 : e + 1 = L1.length) (g2 : e + 1 < L2.length) {i1 i2 : Nat → Pr} (hi : ∀ k, 2 ≤ k → k < e → Rel e (i1 k) (i2 (k + 1))) : ∀ (f1 f2 k : Nat) (a1 a2 : List Nd), 2 ≤ k → k ≤ e → SmL a1 a2 → a1 ≠ [] → a1.length + f1 ≤ 1000000 → Rel e (altS L1 i1 f1 k a1) (altS L2 i2 f2 (k + 1) a2)
  | 0, f2, k, a1, a2, _, _, _, _, _ => by intro n1 k1 n2 k2 e1 e2; rw [altS] at e1; cases e1
  | f1 + 1, 0, k, a1, a2, _, _, _, _, _ => by intro n1 k1 n2 k2 e1 e2; rw [altS] at e2; cases e2
  | f1 + 1, f2 + 1, k, a1, a2, h2, hk, ha, hne, hl => by
    have hbig := h.big
    rw [altS, altS]
    simp only [h.sgn h2 hk (x := 47) (by decide)]
    split
    · rename_i hs0
      have hlt := sg_lt h hk hs0
      have hp := row_rel h g1 g2 hi L1.length L2.length (k + 1) [] [] (by omega) (by omega) SmL_nil (by simp; omega)
      cases hq1 : rowS L1 i1 L1.length (k + 1) [] with
      | inl c => intro n1 k1 n2 k2 e1 e2; cases e1
      | inr q1 =>
        cases hq2 : rowS L2 i2 L2.length (k + 1 + 1) [] with
        | inl c => intro n1 k1 n2 k2 e1 e2; cases e2
        | inr q2 =>
          obtain ⟨m1, j1⟩ := q1
          obtain ⟨m2, j2⟩ := q2
          obtain ⟨hj, hlo, hhi, hs⟩ := hp m1 j1 m2 j2 hq1 hq2
          subst hj
          exact alt_rel h g1 g2 hi f1 f2 j1 (a1 ++ [m1]) (a2 ++ [m2]) hlo hhi (SmL_snoc ha hs) (by simp) (by simp; omega)
    · intro n1 k1 n2 k2 e1 e2
      simp only [Sum.inr.injEq, Prod.mk.injEq] at e1 e2
      refine ⟨by omega, by omega, by omega, ?_⟩
      rw [← e1.1, ← e2.1]
      exact Sm_join 7 ha (by omega) hne
theorem ch_rel (h : Lk L1 L2 e) (g1 : e + 1 = L1.length) (g2 : e + 1 < L2.length) {i1 i2 : Nat → Pr} (hi : ∀ k, 2 ≤ k → k < e → Rel e (i1 k) (i2 (k + 1))) {k : Nat} (h2 : 2 ≤ k) (hk : k ≤ e) : Rel e (chS L1 i1 k) (chS L2 i2 (k + 1)) := by
  have hbig := h.big
  have hp := row_rel h g1 g2 hi L1.length L2.length k [] [] h2 hk SmL_nil (by simp; omega)
  unfold chS
  cases hq1 : rowS L1 i1 L1.length k [] with
  | inl c => intro n1 k1 n2 k2 e1 e2; cases e1
  | inr q1 =>
    cases hq2 : rowS L2 i2 L2.length (k + 1) [] with
    | inl c => intro n1 k1 n2 k2 e1 e2; cases e2
    | inr q2 =>
      obtain ⟨m1, j1⟩ := q1
      obtain ⟨m2, j2⟩ := q2
      obtain ⟨hj, hlo, hhi, hs⟩ := hp m1 j1 m2 j2 hq1 hq2
      subst hj
      exact alt_rel h g1 g2 hi L1.length L2.length j1 [m1] [m2] hlo hhi (SmL_one hs) (by simp) (by simp; omega)
theorem inn_rel (h : Lk L1 L2 e) (g1 : e + 1 = L1.length) (g2 : e + 1 < L2.length) : ∀ (d1 d2 k : Nat), 2 ≤ k → k < e → Rel e (innS L1 d1 k) (innS L2 d2 (k + 1))
  | 0, d2, k, _, _ => by intro n1 k1 n2 k2 e1 e2; rw [innS] at e1; cases e1
  | d1 + 1, 0, k, _, _ => by intro n1 k1 n2 k2 e1 e2; rw [innS] at e2; cases e2
  | d1 + 1, d2 + 1, k, h2, hk => by
    have hp := ch_rel h g1 g2 (inn_rel h g1 g2 d1 d2) (k := k + 1) (by omega) (by omega)
    intro n1 k1 n2 k2 e1 e2
    rw [innS] at e1 e2
    obtain ⟨j1, a1, b1, c1⟩ := innE_inv e1
    obtain ⟨j2, a2, b2, c2⟩ := innE_inv e2
    obtain ⟨hj, hlo, hhi, hs⟩ := hp n1 j1 n2 j2 a1 a2
    have := sg_lt h hhi b1
    exact ⟨by omega, by omega, by omega, hs⟩
/-- With a parenthesis more around it a choice is one tree but for places. -/
theorem choice_rel (h : Lk L1 L2 e) (g1 : e + 1 = L1.length) (g2 : e + 1 < L2.length) (d1 d2 : Nat) : Rel e (chS L1 (innS L1 d1) 2) (chS L2 (innS L2 d2) 3) :=
  ch_rel h g1 g2 (inn_rel h g1 g2 d1 d2) (k := 2) (by omega) h.low
end
end Go.Proofs.YtikfnaffiehpaaaGreatDoor
namespace Go.Proofs.YtikfnaffiehpaaaGreatDoor
open Go.RowKit
set_option linter.unusedVariables false
theorem ruS_inv {L : List Tok} {ru k k' : Nat} {x : Rl} (h : ruS L ru k = .inr (x, k')) : chS L (innS L 24) (k + 2) = .inr (x.2.1, k') ∧ x.1 = (gL L k).2.1 := by
  unfold ruS at h
  split at h
  · cases h
  · split at h
    · cases h
    · split at h
      · cases h
      · cases hs : chS L (innS L 24) (k + 2) with
        | inl e => rw [hs] at h; cases h
        | inr q =>
          obtain ⟨n, j⟩ := q
          rw [hs] at h
          simp only [ruE, Sum.inr.injEq, Prod.mk.injEq] at h
          obtain ⟨rfl, rfl⟩ := h
          exact ⟨rfl, rfl⟩
theorem rls_len (L : List Tok) : ∀ (f k : Nat) (acc rs : List Rl), rlsS L f k acc = .inr rs → acc.length ≤ rs.length
  | 0, _, _, _, h => by rw [rlsS] at h; cases h
  | f + 1, k, acc, rs, h => by
    rw [rlsS] at h
    split at h
    · simp only [Sum.inr.injEq] at h; subst h; exact Nat.le_refl _
    · split at h
      · cases h
      · rename_i x k' _
        have := rls_len L f k' (acc ++ [x]) rs h
        simp at this
        omega
/-- One rule alone: its body ends where the tokens do. -/
theorem gra_one {L : List Tok} {x : Rl} (h : graS L = .inr [x]) : ∃ k', ruS L 0 0 = .inr (x, k') ∧ (gL L k').1 = 6 := by
  unfold graS at h
  cases hr : ruS L 0 0 with
  | inl c => rw [hr] at h; cases h
  | inr q =>
    obtain ⟨y, k'⟩ := q
    rw [hr] at h
    unfold graE at h
    simp only at h
    cases hf : L.length with
    | zero => rw [hf, rlsS] at h; cases h
    | succ f =>
      rw [hf, rlsS] at h
      split at h
      · rename_i h6
        simp only [Sum.inr.injEq, List.cons.injEq, and_true] at h
        exact ⟨k', by rw [h], h6⟩
      · split at h
        · cases h
        · rename_i z k2 _
          have := rls_len L f k2 _ _ h
          simp at this
theorem brackets_spec {L1 L2 : List Tok} {e : Nat} {x : Rl} {rs : List Rl} (h : Lk L1 L2 e) (g1 : e + 1 = L1.length) (g2 : e + 3 = L2.length) (only : ∀ k, k < e → (gL L1 k).1 ≠ 6)
    (open2 : tk3 (gL L2 2) = (5, { data := #[40] }, 0)) (last2 : (gL L2 (e + 2)).1 = 6) (h1 : graS L1 = .inr [x]) (h2 : graS L2 = .inr rs) : ∃ y, rs = [y] ∧ Sm x.2.1 y.2.1 ∧ x.1 = (gL L1 0).2.1 ∧ y.1 = (gL L2 0).2.1 := by
  obtain ⟨k1, hr1, h6⟩ := gra_one h1
  obtain ⟨c1, nm1⟩ := ruS_inv hr1
  have hs2 : sgT (gL L2 2) = { data := #[40] } := by
    unfold tk3 at open2
    simp only [Prod.mk.injEq] at open2
    unfold sgT
    rw [if_pos open2.1]
    exact open2.2.1
  have ho5 : (gL L2 2).1 = 5 ∧ (gL L2 2).2.1 = { data := #[40] } := by
    unfold tk3 at open2
    simp only [Prod.mk.injEq] at open2
    exact ⟨open2.1, open2.2.1⟩
  have hlast : sgT (gL L2 (e + 2)) = { data := #[] } := by unfold sgT; rw [last2]; rfl
  unfold graS at h2
  cases hr : ruS L2 0 0 with
  | inl c => rw [hr] at h2; cases h2
  | inr q =>
    obtain ⟨y, k2⟩ := q
    obtain ⟨c2, nm2⟩ := ruS_inv hr
    -- the choice of L2 opens a parenthesis
    have hinn : innS L2 24 2 = innE L2 (chS L2 (innS L2 23) 3) := by rw [innS]
    have hone : oneS L2 (innS L2 24) 2 = innE L2 (chS L2 (innS L2 23) 3) := by
      unfold oneS
      rw [if_neg (by rw [ho5.1]; simp), if_neg (by rw [ho5.1]; simp), if_neg (by rw [ho5.1]; simp), if_neg (by rw [hs2]; decide), if_pos hs2, hinn]
    have hpart : partS L2 (innS L2 24) 2 = repE L2 (innE L2 (chS L2 (innS L2 23) 3)) := by
      unfold partS repS
      rw [if_neg (by rw [hs2]; decide), if_neg (by rw [hs2]; decide), hone]
    have hpt : ptB L2 2 (gL L2 2) = true := by
      unfold ptB
      rw [ho5.1, ho5.2]
      rfl
    obtain ⟨f, hf⟩ : ∃ f, L2.length = f + 2 := ⟨e + 1, by omega⟩
    have c3 := c2
    unfold chS at c3
    rw [hf, rowS, if_pos hpt, hpart] at c3
    cases hi : innE L2 (chS L2 (innS L2 23) 3) with
    | inl c => rw [hi] at c3; simp only [repE, chE] at c3; cases c3
    | inr q2 =>
      obtain ⟨n2, j2⟩ := q2
      obtain ⟨j, a2, b2, rfl⟩ := innE_inv hi
      obtain ⟨hj, hlo, hhi, hsm⟩ := choice_rel h g1 (by omega) 24 23 x.2.1 k1 n2 j c1 a2
      have hke : k1 = e := by
        rcases Nat.lt_or_ge k1 e with hl | hl
        · exact absurd h6 (only k1 hl)
        · omega
      subst hke
      subst hj
      have hrp : rpK (sgT (gL L2 (k1 + 1 + 1))) = 0 := by rw [hlast]; decide
      rw [hi] at c3
      simp only [repE, hrp, if_true] at c3
      rw [rowS, if_neg (by unfold ptB; rw [last2]; simp)] at c3
      simp only [List.nil_append, List.isEmpty_cons, Bool.false_eq_true, if_false, chE] at c3
      rw [hf, altS, if_neg (by rw [hlast]; decide)] at c3
      simp only [Sum.inr.injEq, Prod.mk.injEq] at c3
      rw [hr] at h2
      unfold graE at h2
      simp only at h2
      rw [hf, rlsS, ← c3.2, if_pos last2] at h2
      simp only [Sum.inr.injEq] at h2
      refine ⟨y, h2.symm, ?_, nm1, nm2⟩
      rw [← c3.1]
      exact hsm
end Go.Proofs.YtikfnaffiehpaaaGreatDoor
namespace Go.Proofs.YtikfnaffiehpaaaGreatDoor
open Go.RowKit
set_option linter.unusedVariables false
/-- The tokens of L1 up to its end stand in L3 from d on; where L1 ends, no part goes on in L3. -/
structure LIn (L1 L3 : List Tok) (d e : Nat) : Prop where
  big : e ≤ 10000
  same : ∀ k, k < e → tk3 (gL L3 (k + d)) = tk3 (gL L1 k)
  len1 : e + 1 = L1.length
  len3 : e + d < L3.length
  end1 : (gL L1 e).1 = 6
  only : ∀ k, k < e → (gL L1 k).1 ≠ 6
  sg3 : sgT (gL L3 (e + d)) = { data := #[] }
  pt3 : ptB L3 (e + d) (gL L3 (e + d)) = false
  ar3 : (gL L3 (e + d)).1 ≠ 2
def Rl1 (d e : Nat) (r1 r3 : Pr) : Prop := ∀ n1 k1, r1 = .inr (n1, k1) → k1 ≤ e ∧ ∃ n3, r3 = .inr (n3, k1 + d) ∧ Sm n1 n3
section
variable {L1 L3 : List Tok} {d e : Nat}
theorem LIn.kd (h : LIn L1 L3 d e) {k : Nat} (hk : k < e) : (gL L3 (k + d)).1 = (gL L1 k).1 ∧ (gL L3 (k + d)).2.1 = (gL L1 k).2.1 ∧ (gL L3 (k + d)).2.2.1 = (gL L1 k).2.2.1 := by
  have := h.same k hk
  unfold tk3 at this
  simp only [Prod.mk.injEq] at this
  exact this
theorem LIn.sg1 (h : LIn L1 L3 d e) : sgT (gL L1 e) = { data := #[] } := by unfold sgT; rw [h.end1]; rfl
theorem LIn.sg (h : LIn L1 L3 d e) {k : Nat} (hk : k ≤ e) : sgT (gL L3 (k + d)) = sgT (gL L1 k) := by
  rcases Nat.lt_or_ge k e with hl | hl
  · exact sgT_eq (h.same k hl)
  · obtain rfl : k = e := by omega
    rw [h.sg1, h.sg3]
theorem LIn.hd (h : LIn L1 L3 d e) {k : Nat} (hk : k < e) : hdB L3 (k + d) = hdB L1 k := by
  have g1 := h.len1
  have g3 := h.len3
  rw [hdB_gL L1 k (by omega), hdB_gL L3 (k + d) (by omega), (h.kd hk).1]
  congr 1
  rcases Nat.lt_or_ge (k + 1) e with hl | hl
  · rw [show k + d + 1 = k + 1 + d by omega, (h.kd hl).1]
  · have hke : k + 1 = e := by omega
    have := h.ar3
    rw [show k + d + 1 = e + d by omega, hke, h.end1]
    simp [this]
theorem LIn.pt (h : LIn L1 L3 d e) {k : Nat} (hk : k ≤ e) : ptB L3 (k + d) (gL L3 (k + d)) = ptB L1 k (gL L1 k) := by
  rcases Nat.lt_or_ge k e with hl | hl
  · unfold ptB
    rw [(h.kd hl).1, (h.kd hl).2.1, h.hd hl]
  · obtain rfl : k = e := by omega
    rw [h.pt3]
    unfold ptB
    rw [h.end1]
    rfl
theorem LIn.lt (h : LIn L1 L3 d e) {k : Nat} (hk : k ≤ e) {x : UInt8} (hs : sgT (gL L1 k) = { data := #[x] }) : k < e := by
  rcases Nat.lt_or_ge k e with hl | hl
  · exact hl
  · obtain rfl : k = e := by omega
    rw [h.sg1] at hs
    have := congrArg (fun a : ByteArray => a.data.size) hs
    simp at this
theorem rl1_inr {k k3 : Nat} {n n3 : Nd} (hk : k ≤ e) (h3 : k3 = k + d) (hs : Sm n n3) : Rl1 d e (.inr (n, k)) (.inr (n3, k3)) := by
  intro n1 k1 e1
  simp only [Sum.inr.injEq, Prod.mk.injEq] at e1
  obtain ⟨rfl, rfl⟩ := e1
  exact ⟨hk, n3, by rw [h3], hs⟩
theorem one_rl (h : LIn L1 L3 d e) {i1 i3 : Nat → Pr} (hi : ∀ k, k < e → Rl1 d e (i1 k) (i3 (k + d))) {k : Nat} (hk : k ≤ e) : Rl1 d e (oneS L1 i1 k) (oneS L3 i3 (k + d)) := by
  rcases Nat.lt_or_ge k e with hl | hl
  · have q := h.kd hl
    unfold oneS
    simp only [q.1, q.2.1, q.2.2, h.hd hl, h.sg hk]
    split
    · exact rl1_inr (by omega) (by omega) (Sm_mk SmL_nil (by simp))
    · split
      · exact rl1_inr (by omega) (by omega) (Sm_mk SmL_nil (by simp))
      · split
        · exact rl1_inr (by omega) (by omega) (Sm_mk SmL_nil (by simp))
        · split
          · exact rl1_inr (by omega) (by omega) (Sm_mk SmL_nil (by simp))
          · split
            · exact hi k hl
            · intro n1 k1 e1
              cases e1
  · obtain rfl : k = e := by omega
    intro n1 k1 e1
    unfold oneS at e1
    rw [h.end1, h.sg1] at e1
    simp at e1
theorem rep_rl (h : LIn L1 L3 d e) {r1 r3 : Pr} (hr : Rl1 d e r1 r3) : Rl1 d e (repE L1 r1) (repE L3 r3) := by
  cases r1 with
  | inl c => intro n1 k1 e1; cases e1
  | inr q1 =>
    obtain ⟨m1, j1⟩ := q1
    obtain ⟨hle, m3, rfl, hs⟩ := hr m1 j1 rfl
    unfold repE
    simp only [h.sg hle]
    split
    · exact hr
    · rename_i hne
      have hlt : j1 < e := by
        rcases Nat.lt_or_ge j1 e with hl | hl
        · exact hl
        · obtain rfl : j1 = e := by omega
          rw [h.sg1] at hne
          exact absurd (by decide) hne
      exact rl1_inr (by omega) (by omega) (Sm_mk (SmL_one hs) (by simp))
theorem ov_rl {kd p p' : Nat} {r1 r3 : Pr} (hr : Rl1 d e r1 r3) : Rl1 d e (ovS kd p r1) (ovS kd p' r3) := by
  cases r1 with
  | inl c => intro n1 k1 e1; cases e1
  | inr q1 =>
    obtain ⟨m1, j1⟩ := q1
    obtain ⟨hle, m3, rfl, hs⟩ := hr m1 j1 rfl
    exact rl1_inr hle rfl (Sm_mk (SmL_one hs) (by simp))
theorem part_rl (h : LIn L1 L3 d e) {i1 i3 : Nat → Pr} (hi : ∀ k, k < e → Rl1 d e (i1 k) (i3 (k + d))) {k : Nat} (hk : k ≤ e) : Rl1 d e (partS L1 i1 k) (partS L3 i3 (k + d)) := by
  unfold partS
  simp only [h.sg hk]
  split
  · rename_i hs
    have := h.lt hk hs
    rw [show k + d + 1 = k + 1 + d by omega]
    exact ov_rl (rep_rl h (one_rl h hi (k := k + 1) (by omega)))
  · split
    · rename_i hs
      have := h.lt hk hs
      rw [show k + d + 1 = k + 1 + d by omega]
      exact ov_rl (rep_rl h (one_rl h hi (k := k + 1) (by omega)))
    · exact rep_rl h (one_rl h hi hk)
theorem row_rl (h : LIn L1 L3 d e) {i1 i3 : Nat → Pr} (hi : ∀ k, k < e → Rl1 d e (i1 k) (i3 (k + d))) : ∀ (f1 f3 k : Nat) (a1 a3 : List Nd), f1 ≤ f3 → k ≤ e → SmL a1 a3 → a1.length + f1 ≤ 1000000 → Rl1 d e (rowS L1 i1 f1 k a1) (rowS L3 i3 f3 (k + d) a3)
  | 0, f3, k, a1, a3, _, _, _, _ => by intro n1 k1 e1; rw [rowS] at e1; cases e1
  | f1 + 1, 0, k, a1, a3, hf, _, _, _ => by omega
  | f1 + 1, f3 + 1, k, a1, a3, hf, hk, ha, hl => by
    have hp := part_rl h hi hk
    rw [rowS, rowS, h.pt hk]
    split
    · cases hq1 : partS L1 i1 k with
      | inl c => intro n1 k1 e1; cases e1
      | inr q1 =>
        obtain ⟨m1, j1⟩ := q1
        obtain ⟨hle, m3, hq3, hs⟩ := hp m1 j1 hq1
        rw [hq3]
        exact row_rl h hi f1 f3 j1 (a1 ++ [m1]) (a3 ++ [m3]) (by omega) hle (SmL_snoc ha hs) (by simp; omega)
    · have hle := ha.len
      have hem : a3.isEmpty = a1.isEmpty := by
        cases a1 with
        | nil => cases a3 with
          | nil => rfl
          | cons _ _ => simp at hle
        | cons _ _ => cases a3 with
          | nil => simp at hle
          | cons _ _ => rfl
      rw [hem]
      split
      · exact rl1_inr hk rfl (Sm_mk SmL_nil (by simp))
      · rename_i hne
        exact rl1_inr hk rfl (Sm_join 6 ha (by omega) (fun he => hne (by rw [he]; rfl)))
theorem alt_rl (h : LIn L1 L3 d e) {i1 i3 : Nat → Pr} (hi : ∀ k, k < e → Rl1 d e (i1 k) (i3 (k + d))) : ∀ (f1 f3 k : Nat) (a1 a3 : List Nd), f1 ≤ f3 → k ≤ e → SmL a1 a3 → a1 ≠ [] → a1.length + f1 ≤ 1000000 → Rl1 d e (altS L1 i1 f1 k a1) (altS L3 i3 f3 (k + d) a3)
  | 0, f3, k, a1, a3, _, _, _, _, _ => by intro n1 k1 e1; rw [altS] at e1; cases e1
  | f1 + 1, 0, k, a1, a3, hf, _, _, _, _ => by omega
  | f1 + 1, f3 + 1, k, a1, a3, hf, hk, ha, hne, hl => by
    have hbig := h.big
    have g1 := h.len1
    have g3 := h.len3
    rw [altS, altS]
    simp only [h.sg hk]
    split
    · rename_i hs0
      have hlt := h.lt hk hs0
      have hp := row_rl h hi L1.length L3.length (k + 1) [] [] (by omega) (by omega) SmL_nil (by simp; omega)
      rw [show k + 1 + d = k + d + 1 by omega] at hp
      cases hq1 : rowS L1 i1 L1.length (k + 1) [] with
      | inl c => intro n1 k1 e1; cases e1
      | inr q1 =>
        obtain ⟨m1, j1⟩ := q1
        obtain ⟨hle, m3, hq3, hs⟩ := hp m1 j1 hq1
        rw [hq3]
        exact alt_rl h hi f1 f3 j1 (a1 ++ [m1]) (a3 ++ [m3]) (by omega) hle (SmL_snoc ha hs) (by simp) (by simp; omega)
    · exact rl1_inr hk rfl (Sm_join 7 ha (by omega) hne)
theorem ch_rl (h : LIn L1 L3 d e) {i1 i3 : Nat → Pr} (hi : ∀ k, k < e → Rl1 d e (i1 k) (i3 (k + d))) {k : Nat} (hk : k ≤ e) : Rl1 d e (chS L1 i1 k) (chS L3 i3 (k + d)) := by
  have hbig := h.big
  have g1 := h.len1
  have g3 := h.len3
  have hp := row_rl h hi L1.length L3.length k [] [] (by omega) hk SmL_nil (by simp; omega)
  unfold chS
  cases hq1 : rowS L1 i1 L1.length k [] with
  | inl c => intro n1 k1 e1; cases e1
  | inr q1 =>
    obtain ⟨m1, j1⟩ := q1
    obtain ⟨hle, m3, hq3, hs⟩ := hp m1 j1 hq1
    rw [hq3]
    exact alt_rl h hi L1.length L3.length j1 [m1] [m3] (by omega) hle (SmL_one hs) (by simp) (by simp; omega)
theorem inn_rl (h : LIn L1 L3 d e) : ∀ (f k : Nat), k < e → Rl1 d e (innS L1 f k) (innS L3 f (k + d))
  | 0, k, _ => by intro n1 k1 e1; rw [innS] at e1; cases e1
  | f + 1, k, hk => by
    have hp := ch_rl h (inn_rl h f) (k := k + 1) (by omega)
    intro n1 k1 e1
    rw [innS] at e1
    obtain ⟨j1, a1, b1, c1⟩ := innE_inv e1
    obtain ⟨hle, n3, h3, hs⟩ := hp n1 j1 a1
    have := h.lt hle b1
    refine ⟨by omega, n3, ?_, hs⟩
    rw [innS, show k + d + 1 = k + 1 + d by omega, h3]
    unfold innE
    simp only [h.sg hle]
    rw [if_pos b1, c1, show j1 + d + 1 = j1 + 1 + d by omega]
/-- Two rules that are one but for places. -/
def RlS (x y : Rl) : Prop := y.1 = x.1 ∧ Sm x.2.1 y.2.1
def RlL : List Rl → List Rl → Prop
  | [], [] => True
  | a :: r, b :: q => RlS a b ∧ RlL r q
  | _, _ => False
theorem RlL.len : ∀ {s t : List Rl}, RlL s t → t.length = s.length
  | [], [], _ => rfl
  | [], _ :: _, h => by simp [RlL] at h
  | _ :: _, [], h => by simp [RlL] at h
  | a :: r, b :: q, h => by
    rw [RlL] at h
    simp [RlL.len h.2]
theorem RlL.get : ∀ {s t : List Rl} (h : RlL s t) (j : Nat) (hj : j < s.length) (hj' : j < t.length), RlS s[j] t[j]
  | [], [], _, j, hj, _ => by simp at hj
  | [], _ :: _, h, _, _, _ => by simp [RlL] at h
  | _ :: _, [], h, _, _, _ => by simp [RlL] at h
  | a :: r, b :: q, h, 0, _, _ => by rw [RlL] at h; exact h.1
  | a :: r, b :: q, h, j + 1, hj, hj' => by
    rw [RlL] at h
    exact RlL.get h.2 j (by simp at hj; omega) (by simp at hj'; omega)
theorem RlL.app : ∀ {s t u v : List Rl}, RlL s t → RlL u v → RlL (s ++ u) (t ++ v)
  | [], [], u, v, _, h => h
  | [], _ :: _, _, _, h, _ => by simp [RlL] at h
  | _ :: _, [], _, _, h, _ => by simp [RlL] at h
  | a :: r, b :: q, u, v, h, h2 => by
    rw [RlL] at h
    rw [List.cons_append, List.cons_append, RlL]
    exact ⟨h.1, RlL.app h.2 h2⟩
theorem LIn.end6 (h : LIn L1 L3 d e) {k : Nat} (hk : e ≤ k) : (gL L1 k).1 = 6 := by
  rcases Nat.lt_or_ge e k with hl | hl
  · have g1 := h.len1
    unfold gL
    rw [List.getElem?_eq_none (by omega)]
    rfl
  · obtain rfl : k = e := by omega
    exact h.end1
theorem ru_rl (h : LIn L1 L3 d e) (hg : Good L1) {ru ru3 k k1 : Nat} {x : Rl} (hr : ruS L1 ru k = .inr (x, k1)) (h64 : ru3 ≠ 64) : k + 1 ≤ k1 ∧ k1 ≤ e ∧ ∃ y, ruS L3 ru3 (k + d) = .inr (y, k1 + d) ∧ RlS x y := by
  unfold ruS at hr
  split at hr
  · cases hr
  · rename_i c1
    split at hr
    · cases hr
    · split at hr
      · cases hr
      · rename_i c2
        have ke : k + 1 < e := by
          rcases Nat.lt_or_ge (k + 1) e with hl | hl
          · exact hl
          · have := h.end6 hl
            omega
        have hp := ch_rl h (inn_rl h 24) (k := k + 2) (by omega)
        cases hs : chS L1 (innS L1 24) (k + 2) with
        | inl c => rw [hs] at hr; cases hr
        | inr q =>
          obtain ⟨n, j⟩ := q
          rw [hs] at hr
          simp only [ruE, Sum.inr.injEq, Prod.mk.injEq] at hr
          obtain ⟨rfl, rfl⟩ := hr
          obtain ⟨hle, n3, h3, hsm⟩ := hp n j hs
          have hadv := (chS_adv hg (innS_adv hg 24) (show k + 2 < L1.length by have := h.len1; omega) hs).1
          refine ⟨by omega, hle, ((gL L3 (k + d)).2.1, n3, (gL L3 (k + d)).2.2.2), ?_, (h.kd (k := k) (by omega)).2.1, hsm⟩
          unfold ruS
          rw [if_neg (by rw [(h.kd (k := k) (by omega)).1]; exact c1), if_neg h64, show k + d + 1 = k + 1 + d by omega, if_neg (by rw [(h.kd ke).1]; exact c2), show k + d + 2 = k + 2 + d by omega, h3]
          rfl
theorem rls_rl (h : LIn L1 L3 d e) (hg : Good L1) : ∀ (f1 f3 k : Nat) (acc1 acc3 rs : List Rl), rlsS L1 f1 k acc1 = .inr rs → k ≤ e → acc3.length + rs.length ≤ 64 + acc1.length → e - k ≤ f3 → ∃ news news3, rs = acc1 ++ news ∧ RlL news news3 ∧ k + news.length ≤ e ∧ rlsS L3 f3 (k + d) acc3 = rlsS L3 (f3 - news.length) (e + d) (acc3 ++ news3)
  | 0, f3, k, acc1, acc3, rs, hr, _, _, _ => by rw [rlsS] at hr; cases hr
  | f1 + 1, f3, k, acc1, acc3, rs, hr, hk, h64, hf => by
    rw [rlsS] at hr
    split at hr
    · rename_i h6
      simp only [Sum.inr.injEq] at hr
      have hke : k = e := by
        rcases Nat.lt_or_ge k e with hl | hl
        · exact absurd h6 (h.only k hl)
        · omega
      subst hke
      exact ⟨[], [], by simp [hr], by rw [RlL]; trivial, by simp, by simp⟩
    · rename_i h6
      have hlt : k < e := by
        rcases Nat.lt_or_ge k e with hl | hl
        · exact hl
        · exact absurd (h.end6 hl) h6
      cases hru : ruS L1 acc1.length k with
      | inl c => rw [hru] at hr; cases hr
      | inr q =>
        obtain ⟨x, k1⟩ := q
        rw [hru] at hr
        simp only at hr
        have hlen := rls_len L1 f1 k1 (acc1 ++ [x]) rs hr
        simp at hlen
        obtain ⟨ha, hb, y, h3, hs⟩ := ru_rl h hg (ru3 := acc3.length) hru (by omega)
        obtain ⟨g, rfl⟩ : ∃ g, f3 = g + 1 := ⟨f3 - 1, by omega⟩
        obtain ⟨news, news3, e1, e2, e3, e4⟩ := rls_rl h hg f1 g k1 (acc1 ++ [x]) (acc3 ++ [y]) rs hr hb (by simp; omega) (by omega)
        refine ⟨x :: news, y :: news3, by rw [e1]; simp, by rw [RlL]; exact ⟨hs, e2⟩, by simp; omega, ?_⟩
        rw [rlsS, if_neg (by rw [(h.kd hlt).1]; exact h6), h3]
        simp only
        rw [e4]
        simp [Nat.add_sub_add_right]
end
theorem gra_eq {L : List Tok} (h0 : (gL L 0).1 ≠ 6) : graS L = rlsS L (L.length + 1) 0 [] := by
  rw [rlsS, if_neg h0]
  unfold graS
  cases hr : ruS L 0 0 with
  | inl c => rfl
  | inr q => rfl
theorem gra_head {L : List Tok} {rs : List Rl} (h : graS L = .inr rs) : (gL L 0).1 = 1 ∧ (gL L 1).1 = 2 := by
  unfold graS at h
  cases hr : ruS L 0 0 with
  | inl c => rw [hr] at h; cases h
  | inr q =>
    unfold ruS at hr
    split at hr
    · cases hr
    · rename_i c1
      split at hr
      · cases hr
      · split at hr
        · cases hr
        · rename_i c2
          exact ⟨by simpa using c1, by simpa using c2⟩
/-- Two rows of tokens, one behind the other: the rules of both. -/
theorem rows_spec {m1 m2 m3 : List Tok} {p1 p2 p3 : Nat} {rs1 rs2 : List Rl} (k1 : ∀ t ∈ m1, TokOk t) (k2 : ∀ t ∈ m2, TokOk t) (l1 : m1.length ≤ 9000) (l2 : m2.length ≤ 9000) (hl : m3.length = m2.length) (h3 : ∀ k, k < m2.length → tk3 (gL m3 k) = tk3 (gL m2 k))
    (g1 : graS (m1 ++ [(6, { data := #[] }, 0, p1)]) = .inr rs1) (g2 : graS (m2 ++ [(6, { data := #[] }, 0, p2)]) = .inr rs2) (h64 : rs1.length + rs2.length ≤ 64) :
    ∃ rs3, graS (m1 ++ m3 ++ [(6, { data := #[] }, 0, p3)]) = .inr rs3 ∧ RlL (rs1 ++ rs2) rs3 := by
  have hG1 := good_end (p := p1) k1 l1
  have hG2 := good_end (p := p2) k2 l2
  have end_ : ∀ (m : List Tok) (p k : Nat), m.length ≤ k → (gL (m ++ [(6, { data := #[] }, 0, p)]) k).1 = 6 := fun m p k hk => by
    rw [gL_right hk]
    match k - m.length with
    | 0 => rfl
    | j + 1 => rfl
  have mid_ : ∀ (m : List Tok) (p k : Nat), k < m.length → gL (m ++ [(6, { data := #[] }, 0, p)]) k = gL m k := fun m p k hk => by
    rw [gL_left hk, gL_eq hk]
  obtain ⟨a0, a1⟩ := gra_head g1
  obtain ⟨b0, b1⟩ := gra_head g2
  have hm2 : 1 < m2.length := by
    rcases Nat.lt_or_ge 1 m2.length with h | h
    · exact h
    · have := end_ m2 p2 1 h
      omega
  have hm1 : 0 < m1.length := by
    rcases Nat.lt_or_ge 0 m1.length with h | h
    · exact h
    · have := end_ m1 p1 0 h
      omega
  rw [mid_ _ _ _ (by omega)] at b0 b1
  have f1 : ∀ k, k < m1.length → gL (m1 ++ m3 ++ [(6, { data := #[] }, 0, p3)]) k = gL m1 k := fun k hk => by
    rw [List.append_assoc, gL_left hk, gL_eq hk]
  have f2 : ∀ k, k < m2.length → gL (m1 ++ m3 ++ [(6, { data := #[] }, 0, p3)]) (k + m1.length) = gL m3 k := fun k hk => by
    rw [List.append_assoc, gL_right (by omega), show k + m1.length - m1.length = k by omega, mid_ _ _ _ (by omega)]
  have f3 : (gL (m1 ++ m3 ++ [(6, { data := #[] }, 0, p3)]) (m2.length + m1.length)).1 = 6 := end_ _ _ _ (by simp; omega)
  have q0 := h3 0 (by omega)
  have q1 := h3 1 hm2
  unfold tk3 at q0 q1
  simp only [Prod.mk.injEq] at q0 q1
  have hlen3 : (m1 ++ m3 ++ [((6 : Nat), ({ data := #[] } : ByteArray), (0 : Nat), p3)]).length = m1.length + m2.length + 1 := by simp; omega
  have hd3 : hdB (m1 ++ m3 ++ [(6, { data := #[] }, 0, p3)]) m1.length = true := by
    have z0 := f2 0 (by omega)
    have z1 := f2 1 (by omega)
    rw [Nat.zero_add] at z0
    rw [hdB_gL _ _ (by omega), z0, Nat.add_comm, z1, q0.1, q1.1, b0, b1]
    rfl
  have t0 : (gL (m1 ++ m3 ++ [(6, { data := #[] }, 0, p3)]) m1.length).1 = 1 := by
    have z0 := f2 0 (by omega)
    rw [Nat.zero_add] at z0
    rw [z0, q0.1, b0]
  have A : LIn (m1 ++ [(6, { data := #[] }, 0, p1)]) (m1 ++ m3 ++ [(6, { data := #[] }, 0, p3)]) 0 m1.length := by
    refine ⟨by omega, fun k hk => ?_, by simp, by simp, end_ _ _ _ (Nat.le_refl _), fun k hk => ?_, ?_, ?_, ?_⟩
    · rw [Nat.add_zero, f1 k hk, mid_ _ _ _ hk]
    · rw [mid_ _ _ _ hk, gL_eq hk]
      have := (k1 _ (List.getElem_mem hk)).1
      omega
    · rw [Nat.add_zero]
      unfold sgT
      rw [if_neg (by rw [t0]; decide)]
    · rw [Nat.add_zero]
      unfold ptB
      rw [t0, hd3]
      rfl
    · rw [Nat.add_zero, t0]
      decide
  have B : LIn (m2 ++ [(6, { data := #[] }, 0, p2)]) (m1 ++ m3 ++ [(6, { data := #[] }, 0, p3)]) m1.length m2.length := by
    refine ⟨by omega, fun k hk => ?_, by simp, by omega, end_ _ _ _ (Nat.le_refl _), fun k hk => ?_, ?_, ?_, ?_⟩
    · rw [f2 k hk, mid_ _ _ _ hk, h3 k hk]
    · rw [mid_ _ _ _ hk, gL_eq hk]
      have := (k2 _ (List.getElem_mem hk)).1
      omega
    · unfold sgT
      rw [f3]
      rfl
    · unfold ptB
      rw [f3]
      rfl
    · rw [f3]
      decide
  rw [gra_eq (by rw [a0]; decide)] at g1
  rw [gra_eq (by rw [mid_ _ _ _ (by omega), b0]; decide)] at g2
  obtain ⟨F, hF⟩ : ∃ F, F = m1.length + m2.length + 2 := ⟨_, rfl⟩
  obtain ⟨n1, n13, e1, e2, e3, e4⟩ := rls_rl A hG1 _ F 0 [] [] rs1 g1 (Nat.zero_le _) (by simp; omega) (by omega)
  rw [List.nil_append] at e1 e4
  subst e1
  have hn13 := e2.len
  obtain ⟨n2, n23, c1, c2, c3, c4⟩ := rls_rl B hG2 _ (F - rs1.length) 0 [] n13 rs2 g2 (Nat.zero_le _) (by simp; omega) (by omega)
  rw [List.nil_append] at c1
  subst c1
  refine ⟨n13 ++ n23, ?_, e2.app c2⟩
  rw [gra_eq (by rw [f1 0 hm1]; rw [mid_ _ _ _ hm1] at a0; rw [a0]; decide), hlen3, show m1.length + m2.length + 1 + 1 = F by omega]
  simp only [Nat.add_zero] at e4
  simp only [Nat.zero_add] at c4
  rw [e4, c4]
  obtain ⟨g, hg⟩ : ∃ g, F - rs1.length - rs2.length = g + 1 := ⟨F - rs1.length - rs2.length - 1, by omega⟩
  rw [hg, rlsS, if_pos f3]
mutual
theorem Sm_symm : ∀ {n m : Nd}, Sm n m → Sm m n
  | .mk kd T C s p, .mk kd' T' C' s' p', h => by
    rw [Sm] at h ⊢
    obtain ⟨rfl, rfl, rfl, h2, h3⟩ := h
    exact ⟨rfl, rfl, rfl, SmL_symm h2, by rw [h2.len]; exact h3⟩
theorem SmL_symm : ∀ {s t : List Nd}, SmL s t → SmL t s
  | [], [], h => by rw [SmL]; trivial
  | [], _ :: _, h => by simp [SmL] at h
  | _ :: _, [], h => by simp [SmL] at h
  | a :: r, b :: q, h => by
    rw [SmL] at h ⊢
    exact ⟨Sm_symm h.1, SmL_symm h.2⟩
end
end Go.Proofs.YtikfnaffiehpaaaGreatDoor
namespace Go.Proofs.YtikfnaffiehpaaaGreatDoor
open Go.RowKit
set_option linter.unusedVariables false
/-- A sign, but for its place. -/
def sgc (x : UInt8) : Nat × ByteArray × Nat := (5, { data := #[x] }, 0)
/-- Does a part stand in parentheses? -/
def wr (over kd : Nat) : Bool :=
  if over = 8 ∨ over = 9 ∨ over = 10 then decide (6 ≤ kd)
  else if over = 11 ∨ over = 12 then decide (kd = 6 ∨ kd = 7 ∨ kd = 11 ∨ kd = 12)
  else if over = 6 then decide (kd = 6 ∨ kd = 7)
  else if over = 7 then decide (kd = 7) else false
def rpS (kd : Nat) : UInt8 := if kd = 8 then 63 else if kd = 9 then 42 else 43
mutual
/-- The tokens of a tree's text, but for places. -/
def kN : Nd → List (Nat × ByteArray × Nat)
  | .mk kd T C s p => if kd = 1 then [sgc 40, sgc 41] else if kd = 2 then [(3, T, C)] else if kd = 3 then [(4, T, C)] else if kd = 4 then [sgc 46] else if kd = 5 then [(1, T, C)] else if kd = 6 then kS 6 s else if kd = 7 then kA s
    else if kd = 11 then sgc 38 :: kS 11 s else if kd = 12 then sgc 33 :: kS 12 s else kS kd s ++ [sgc (rpS kd)]
/-- Parts, one behind another. -/
def kS (over : Nat) : List Nd → List (Nat × ByteArray × Nat)
  | [] => []
  | n :: r => (if wr over n.kd = true then sgc 40 :: (kN n ++ [sgc 41]) else kN n) ++ kS over r
/-- Parts of a choice. -/
def kA : List Nd → List (Nat × ByteArray × Nat)
  | [] => []
  | n :: r => (if wr 7 n.kd = true then sgc 40 :: (kN n ++ [sgc 41]) else kN n) ++ kB r
def kB : List Nd → List (Nat × ByteArray × Nat)
  | [] => []
  | n :: r => sgc 47 :: ((if wr 7 n.kd = true then sgc 40 :: (kN n ++ [sgc 41]) else kN n) ++ kB r)
end
/-- A part's tokens. -/
def kP (over : Nat) (n : Nd) : List (Nat × ByteArray × Nat) := if wr over n.kd = true then sgc 40 :: (kN n ++ [sgc 41]) else kN n
mutual
/-- How many parentheses are open at once. -/
def dN : Nd → Nat
  | .mk kd T C s p => if kd = 1 then 1 else dS kd s
def dS (over : Nat) : List Nd → Nat
  | [] => 0
  | n :: r => max (if wr over n.kd = true then dN n + 1 else dN n) (dS over r)
end
def dP (over : Nat) (n : Nd) : Nat := if wr over n.kd = true then dN n + 1 else dN n
mutual
/-- What a tree may be. -/
def Vk : Nd → Prop
  | .mk kd T C s p => ((kd = 1 ∧ T = { data := #[] } ∧ C = 0 ∧ s = []) ∨ (kd = 2 ∧ C = 0 ∧ s = []) ∨ (kd = 3 ∧ T = { data := #[] } ∧ s = []) ∨ (kd = 4 ∧ T = { data := #[] } ∧ C = 0 ∧ s = []) ∨ (kd = 5 ∧ C = 0 ∧ s = []) ∨
      ((kd = 6 ∨ kd = 7) ∧ T = { data := #[] } ∧ C = 0 ∧ 2 ≤ s.length) ∨ (8 ≤ kd ∧ kd ≤ 12 ∧ T = { data := #[] } ∧ C = 0 ∧ s.length = 1)) ∧ VkL s
def VkL : List Nd → Prop
  | [] => True
  | n :: r => Vk n ∧ VkL r
end
theorem VkL.mem : ∀ {s : List Nd}, VkL s → ∀ n ∈ s, Vk n
  | [], _, n, h => by simp at h
  | a :: r, h, n, hn => by
    rw [VkL] at h
    rcases List.mem_cons.1 hn with rfl | hn
    · exact h.1
    · exact VkL.mem h.2 n hn
theorem kS_cons (over : Nat) (n : Nd) (r : List Nd) : kS over (n :: r) = kP over n ++ kS over r := by rw [kS]; rfl
theorem kS_nil (over : Nat) : kS over [] = [] := by rw [kS]
theorem kA_cons (n : Nd) (r : List Nd) : kA (n :: r) = kP 7 n ++ kB r := by rw [kA]; rfl
theorem kB_cons (n : Nd) (r : List Nd) : kB (n :: r) = sgc 47 :: (kP 7 n ++ kB r) := by rw [kB]; rfl
theorem kB_nil : kB [] = [] := by rw [kB]
theorem dS_cons (over : Nat) (n : Nd) (r : List Nd) : dS over (n :: r) = max (dP over n) (dS over r) := by rw [dS]; rfl
/-- These tokens stand at k. -/
def AtK (L : List Tok) (k : Nat) (K : List (Nat × ByteArray × Nat)) : Prop := ∀ i c, K[i]? = some c → tk3 (gL L (k + i)) = c
section
variable {L : List Tok} {k : Nat}
theorem AtK.left {A B : List (Nat × ByteArray × Nat)} (h : AtK L k (A ++ B)) : AtK L k A := fun i c hi => h i c (by
  have : i < A.length := by
    rcases Nat.lt_or_ge i A.length with h | h
    · exact h
    · rw [List.getElem?_eq_none h] at hi; cases hi
  rw [List.getElem?_append_left this]; exact hi)
theorem AtK.right {A B : List (Nat × ByteArray × Nat)} (h : AtK L k (A ++ B)) : AtK L (k + A.length) B := fun i c hi => by
  have := h (A.length + i) c (by rw [List.getElem?_append_right (by omega), show A.length + i - A.length = i by omega]; exact hi)
  rw [Nat.add_assoc]
  exact this
theorem AtK.head {c : Nat × ByteArray × Nat} {B : List (Nat × ByteArray × Nat)} (h : AtK L k (c :: B)) : tk3 (gL L k) = c := h 0 c rfl
theorem AtK.tail {c : Nat × ByteArray × Nat} {B : List (Nat × ByteArray × Nat)} (h : AtK L k (c :: B)) : AtK L (k + 1) B := fun i d hi => by
  have := h (i + 1) d (by simpa using hi)
  rw [show k + 1 + i = k + (i + 1) by omega]
  exact this
theorem tk_sg {t : Tok} {x : UInt8} (h : tk3 t = sgc x) : sgT t = { data := #[x] } ∧ t.1 = 5 ∧ t.2.1 = { data := #[x] } ∧ t.2.2.1 = 0 := by
  unfold tk3 sgc at h
  simp only [Prod.mk.injEq] at h
  refine ⟨?_, h.1, h.2.1, h.2.2⟩
  unfold sgT
  rw [if_pos h.1]
  exact h.2.1
theorem tk_no {t : Tok} {c : Nat × ByteArray × Nat} (h : tk3 t = c) (h5 : c.1 ≠ 5) : sgT t = { data := #[] } ∧ t.1 = c.1 ∧ t.2.1 = c.2.1 ∧ t.2.2.1 = c.2.2 := by
  subst h
  refine ⟨?_, rfl, rfl, rfl⟩
  unfold sgT
  exact if_neg h5
end
/-- With what a part may begin. -/
def Bg0 (c : Nat × ByteArray × Nat) : Prop := c.1 = 1 ∨ c.1 = 3 ∨ c.1 = 4 ∨ c = sgc 40 ∨ c = sgc 46
def Bg (c : Nat × ByteArray × Nat) : Prop := Bg0 c ∨ c = sgc 38 ∨ c = sgc 33
theorem wr_rep {over : Nat} (h : over = 8 ∨ over = 9 ∨ over = 10) (kd : Nat) : wr over kd = wr 8 kd := by
  unfold wr
  rw [if_pos h, if_pos (.inl rfl)]
theorem wr_and {over : Nat} (h : over = 11 ∨ over = 12) (kd : Nat) : wr over kd = wr 11 kd := by
  unfold wr
  rw [if_neg (by omega), if_pos h, if_neg (by decide), if_pos (.inl rfl)]
theorem kP_rep {over : Nat} (h : over = 8 ∨ over = 9 ∨ over = 10) (n : Nd) : kP over n = kP 8 n := by unfold kP; rw [wr_rep h]
theorem kP_and {over : Nat} (h : over = 11 ∨ over = 12) (n : Nd) : kP over n = kP 11 n := by unfold kP; rw [wr_and h]
theorem dP_rep {over : Nat} (h : over = 8 ∨ over = 9 ∨ over = 10) (n : Nd) : dP over n = dP 8 n := by unfold dP; rw [wr_rep h]
theorem dP_and {over : Nat} (h : over = 11 ∨ over = 12) (n : Nd) : dP over n = dP 11 n := by unfold dP; rw [wr_and h]
theorem wr8 (kd : Nat) : wr 8 kd = decide (6 ≤ kd) := by unfold wr; rw [if_pos (.inl rfl)]
theorem wr11 (kd : Nat) : wr 11 kd = decide (kd = 6 ∨ kd = 7 ∨ kd = 11 ∨ kd = 12) := by unfold wr; rw [if_neg (by decide), if_pos (.inl rfl)]
theorem wr6 (kd : Nat) : wr 6 kd = decide (kd = 6 ∨ kd = 7) := by unfold wr; rw [if_neg (by decide), if_neg (by decide), if_pos rfl]
theorem wr7 (kd : Nat) : wr 7 kd = decide (kd = 7) := by unfold wr; rw [if_neg (by decide), if_neg (by decide), if_neg (by decide), if_pos rfl]
theorem Vk.kd {n : Nd} (h : Vk n) : 1 ≤ n.kd ∧ n.kd ≤ 12 := by
  obtain ⟨kd, T, C, s, p⟩ := n
  rw [Vk] at h
  show 1 ≤ kd ∧ kd ≤ 12
  omega
theorem kP_8_11 {n : Nd} (hv : Vk n) (h : ¬ (n.kd = 8 ∨ n.kd = 9 ∨ n.kd = 10)) : kP 11 n = kP 8 n ∧ dP 11 n = dP 8 n := by
  have := hv.kd
  have e : wr 11 n.kd = wr 8 n.kd := by rw [wr11, wr8]; congr 1; exact propext (by omega)
  unfold kP dP
  rw [e]
  exact ⟨rfl, rfl⟩
theorem kP_11_6 {n : Nd} (hv : Vk n) (h : ¬ (n.kd = 11 ∨ n.kd = 12)) : kP 6 n = kP 11 n ∧ dP 6 n = dP 11 n := by
  have := hv.kd
  have e : wr 6 n.kd = wr 11 n.kd := by rw [wr11, wr6]; congr 1; exact propext (by omega)
  unfold kP dP
  rw [e]
  exact ⟨rfl, rfl⟩
theorem kP_6_7 {n : Nd} (hv : Vk n) (h : n.kd ≠ 6) : kP 7 n = kP 6 n ∧ dP 7 n = dP 6 n := by
  have := hv.kd
  have e : wr 7 n.kd = wr 6 n.kd := by rw [wr7, wr6]; congr 1; exact propext (by omega)
  unfold kP dP
  rw [e]
  exact ⟨rfl, rfl⟩
theorem kP_7 {n : Nd} (h : n.kd ≠ 7) : kP 7 n = kN n ∧ dP 7 n = dN n := by
  unfold kP dP
  rw [wr7, decide_eq_false h]
  exact ⟨rfl, rfl⟩
theorem fst8 {n : Nd} (hv : Vk n) : ∃ c r, kP 8 n = c :: r ∧ Bg0 c := by
  unfold kP
  rw [wr8]
  by_cases h6 : 6 ≤ n.kd
  · rw [decide_eq_true h6]
    exact ⟨_, _, rfl, .inr (.inr (.inr (.inl rfl)))⟩
  · rw [decide_eq_false h6]
    obtain ⟨kd, T, C, s, p⟩ := n
    rw [Vk] at hv
    have h6' : ¬ 6 ≤ kd := h6
    simp only [Bool.false_eq_true, if_false]
    have : kd = 1 ∨ kd = 2 ∨ kd = 3 ∨ kd = 4 ∨ kd = 5 := by omega
    rw [kN]
    rcases this with rfl | rfl | rfl | rfl | rfl
    · exact ⟨_, _, rfl, .inr (.inr (.inr (.inl rfl)))⟩
    · exact ⟨_, _, rfl, .inr (.inl rfl)⟩
    · exact ⟨_, _, rfl, .inr (.inr (.inl rfl))⟩
    · exact ⟨_, _, rfl, .inr (.inr (.inr (.inr rfl)))⟩
    · exact ⟨_, _, rfl, .inl rfl⟩
theorem one_sub {s : List Nd} (h : s.length = 1) : ∃ m, s = [m] := by
  match s, h with
  | [m], _ => exact ⟨m, rfl⟩
theorem kN_rep {kd : Nat} {T : ByteArray} {C p : Nat} {m : Nd} (h : kd = 8 ∨ kd = 9 ∨ kd = 10) : kN (.mk kd T C [m] p) = kP 8 m ++ [sgc (rpS kd)] ∧ dN (.mk kd T C [m] p) = dP 8 m := by
  constructor
  · rw [kN, if_neg (by omega), if_neg (by omega), if_neg (by omega), if_neg (by omega), if_neg (by omega), if_neg (by omega), if_neg (by omega), if_neg (by omega), if_neg (by omega), kS_cons, kS_nil, List.append_nil, kP_rep h]
  · rw [dN, if_neg (by omega), dS_cons, dS, dP_rep h]
    exact Nat.max_eq_left (Nat.zero_le _)
theorem kN_and {kd : Nat} {T : ByteArray} {C p : Nat} {m : Nd} (h : kd = 11 ∨ kd = 12) : kN (.mk kd T C [m] p) = sgc (if kd = 11 then 38 else 33) :: kP 11 m ∧ dN (.mk kd T C [m] p) = dP 11 m := by
  constructor
  · rw [kN, if_neg (by omega), if_neg (by omega), if_neg (by omega), if_neg (by omega), if_neg (by omega), if_neg (by omega), if_neg (by omega)]
    rcases h with rfl | rfl
    · rw [if_pos rfl, kS_cons, kS_nil, List.append_nil]; rfl
    · rw [if_neg (by decide), if_pos rfl, kS_cons, kS_nil, List.append_nil, kP_and (.inr rfl)]; rfl
  · rw [dN, if_neg (by omega), dS_cons, dS, dP_and h]
    exact Nat.max_eq_left (Nat.zero_le _)
theorem fst11 {n : Nd} (hv : Vk n) : ∃ c r, kP 11 n = c :: r ∧ Bg0 c := by
  by_cases h : n.kd = 8 ∨ n.kd = 9 ∨ n.kd = 10
  · obtain ⟨kd, T, C, s, p⟩ := n
    have hk : kd = 8 ∨ kd = 9 ∨ kd = 10 := h
    rw [Vk] at hv
    obtain ⟨m, rfl⟩ := one_sub (s := s) (by omega)
    rw [VkL] at hv
    obtain ⟨c, r, e, hb⟩ := fst8 hv.2.1
    refine ⟨c, r ++ [sgc (rpS kd)], ?_, hb⟩
    unfold kP
    rw [wr11]
    show (if decide (kd = 6 ∨ kd = 7 ∨ kd = 11 ∨ kd = 12) = true then _ else _) = _
    rw [decide_eq_false (by omega)]
    simp only [Bool.false_eq_true, if_false]
    rw [(kN_rep hk).1, e]
    rfl
  · rw [(kP_8_11 hv h).1]
    exact fst8 hv
theorem fst6 {n : Nd} (hv : Vk n) : ∃ c r, kP 6 n = c :: r ∧ Bg c := by
  by_cases h : n.kd = 11 ∨ n.kd = 12
  · obtain ⟨kd, T, C, s, p⟩ := n
    have hk : kd = 11 ∨ kd = 12 := h
    rw [Vk] at hv
    obtain ⟨m, rfl⟩ := one_sub (s := s) (by omega)
    refine ⟨sgc (if kd = 11 then 38 else 33), kP 11 m, ?_, ?_⟩
    · unfold kP
      rw [wr6]
      show (if decide (kd = 6 ∨ kd = 7) = true then _ else _) = _
      rw [decide_eq_false (by omega)]
      simp only [Bool.false_eq_true, if_false]
      rw [(kN_and hk).1]
      rfl
    · rcases hk with rfl | rfl
      · exact .inr (.inl rfl)
      · exact .inr (.inr rfl)
  · rw [(kP_11_6 hv h).1]
    obtain ⟨c, r, e, hb⟩ := fst11 hv
    exact ⟨c, r, e, .inl hb⟩
end Go.Proofs.YtikfnaffiehpaaaGreatDoor
