/-
  Two rows of tokens that are one but for places: what is read of them is one but for places, or wrong alike. Plain facts on tokens and trees.
  What printer.Print answers at what syntax.Parse has read; the laws' own small case. Conditions: those that each theorem names.
  What the laws' own empties and nested answer. Conditions: those that each theorem names.
-/
import Derived.Test.YtikfnaffiehpaaaGreatDoorVP1
import Derived.Test.YtikfnaffiehpaaaGreatDoorVSa
namespace Go.Proofs.YtikfnaffiehpaaaGreatDoor
open Go.RowKit
set_option linter.unusedVariables false
structure Ly (L1 L2 : List Tok) : Prop where
  len : L2.length = L1.length
  same : ∀ k, tk3 (gL L2 k) = tk3 (gL L1 k)
  big : L1.length ≤ 10000
def Rq (r1 r2 : Pr) : Prop := match r1, r2 with
  | .inr (n, k), .inr (n', k') => k' = k ∧ Sm n n'
  | .inl c, .inl c' => c'.1 = c.1
  | _, _ => False
theorem Rq.cases {r1 r2 : Pr} (h : Rq r1 r2) : (∃ n n' k, r1 = .inr (n, k) ∧ r2 = .inr (n', k) ∧ Sm n n') ∨ (∃ c c', r1 = .inl c ∧ r2 = .inl c' ∧ c'.1 = c.1) := by
  cases r1 with
  | inl c => cases r2 with
    | inl c' => exact .inr ⟨c, c', rfl, rfl, h⟩
    | inr q => exact h.elim
  | inr p => cases r2 with
    | inl c' => exact h.elim
    | inr q =>
      obtain ⟨n, k⟩ := p
      obtain ⟨n', k'⟩ := q
      obtain ⟨h1, h2⟩ := h
      subst h1
      exact .inl ⟨n, n', k', rfl, rfl, h2⟩
section
variable {L1 L2 : List Tok}
theorem Ly.kd (h : Ly L1 L2) (k : Nat) : (gL L2 k).1 = (gL L1 k).1 ∧ (gL L2 k).2.1 = (gL L1 k).2.1 ∧ (gL L2 k).2.2.1 = (gL L1 k).2.2.1 := by
  have := h.same k
  unfold tk3 at this
  simp only [Prod.mk.injEq] at this
  exact this
theorem Ly.sg (h : Ly L1 L2) (k : Nat) : sgT (gL L2 k) = sgT (gL L1 k) := sgT_eq (h.same k)
theorem Ly.wr (h : Ly L1 L2) (k : Nat) : wrC (gL L2 k) = wrC (gL L1 k) := by unfold wrC; rw [(h.kd k).1]
theorem Ly.hd (h : Ly L1 L2) (k : Nat) : hdB L2 k = hdB L1 k := by
  have hl := h.len
  rcases Nat.lt_or_ge (k + 1) L1.length with h1 | h1
  · rw [hdB_gL L1 k h1, hdB_gL L2 k (by omega), (h.kd k).1, (h.kd (k + 1)).1]
  · unfold hdB
    rw [List.getElem?_eq_none (show L1.length ≤ k + 1 by omega), List.getElem?_eq_none (show L2.length ≤ k + 1 by omega)]
    cases L2[k]? <;> cases L1[k]? <;> rfl
theorem Ly.pt (h : Ly L1 L2) (k : Nat) : ptB L2 k (gL L2 k) = ptB L1 k (gL L1 k) := by
  unfold ptB
  rw [(h.kd k).1, (h.kd k).2.1, h.hd k]
theorem one_q (h : Ly L1 L2) {i1 i2 : Nat → Pr} (hi : ∀ k, Rq (i1 k) (i2 k)) (k : Nat) : Rq (oneS L1 i1 k) (oneS L2 i2 k) := by
  have q := h.kd k
  unfold oneS
  simp only [q.1, q.2.1, q.2.2, h.hd k, h.sg k, h.wr k]
  split
  · exact ⟨rfl, Sm_mk SmL_nil (by simp)⟩
  · split
    · exact ⟨rfl, Sm_mk SmL_nil (by simp)⟩
    · split
      · exact ⟨rfl, Sm_mk SmL_nil (by simp)⟩
      · split
        · exact ⟨rfl, Sm_mk SmL_nil (by simp)⟩
        · split
          · exact hi k
          · exact (rfl : wrC (gL L1 k) = wrC (gL L1 k))
theorem rep_q (h : Ly L1 L2) {r1 r2 : Pr} (hr : Rq r1 r2) : Rq (repE L1 r1) (repE L2 r2) := by
  rcases hr.cases with ⟨n, n', k, rfl, rfl, hs⟩ | ⟨c, c', rfl, rfl, hc⟩
  · unfold repE
    simp only [h.sg k]
    split
    · exact ⟨rfl, hs⟩
    · exact ⟨rfl, Sm_mk (SmL_one hs) (by simp)⟩
  · exact hc
theorem ov_q {kd p p' : Nat} {r1 r2 : Pr} (hr : Rq r1 r2) : Rq (ovS kd p r1) (ovS kd p' r2) := by
  rcases hr.cases with ⟨n, n', k, rfl, rfl, hs⟩ | ⟨c, c', rfl, rfl, hc⟩
  · exact ⟨rfl, Sm_mk (SmL_one hs) (by simp)⟩
  · exact hc
theorem part_q (h : Ly L1 L2) {i1 i2 : Nat → Pr} (hi : ∀ k, Rq (i1 k) (i2 k)) (k : Nat) : Rq (partS L1 i1 k) (partS L2 i2 k) := by
  unfold partS
  simp only [h.sg k]
  split
  · exact ov_q (rep_q h (one_q h hi (k + 1)))
  · split
    · exact ov_q (rep_q h (one_q h hi (k + 1)))
    · exact rep_q h (one_q h hi k)
theorem row_q (h : Ly L1 L2) {i1 i2 : Nat → Pr} (hi : ∀ k, Rq (i1 k) (i2 k)) : ∀ (f k : Nat) (a1 a2 : List Nd), SmL a1 a2 → a1.length + f ≤ 1000000 → Rq (rowS L1 i1 f k a1) (rowS L2 i2 f k a2)
  | 0, k, a1, a2, _, _ => by
    rw [rowS, rowS]
    exact (rfl : (0 : Nat) = 0)
  | f + 1, k, a1, a2, ha, hl => by
    have hp := part_q h hi k
    rw [rowS, rowS, h.pt k]
    split
    · rcases hp.cases with ⟨n, n', k', e1, e2, hs⟩ | ⟨c, c', e1, e2, hc⟩
      · rw [e1, e2]
        exact row_q h hi f k' (a1 ++ [n]) (a2 ++ [n']) (SmL_snoc ha hs) (by simp; omega)
      · rw [e1, e2]
        exact hc
    · have hle := ha.len
      have hem : a2.isEmpty = a1.isEmpty := by
        cases a1 with
        | nil => cases a2 with
          | nil => rfl
          | cons _ _ => simp at hle
        | cons _ _ => cases a2 with
          | nil => simp at hle
          | cons _ _ => rfl
      rw [hem]
      split
      · exact ⟨rfl, Sm_mk SmL_nil (by simp)⟩
      · rename_i hne
        exact ⟨rfl, Sm_join 6 ha (by omega) (fun he => hne (by rw [he]; rfl))⟩
theorem alt_q (h : Ly L1 L2) {i1 i2 : Nat → Pr} (hi : ∀ k, Rq (i1 k) (i2 k)) : ∀ (f k : Nat) (a1 a2 : List Nd), SmL a1 a2 → a1 ≠ [] → a1.length + f ≤ 1000000 → Rq (altS L1 i1 f k a1) (altS L2 i2 f k a2)
  | 0, k, a1, a2, _, _, _ => by
    rw [altS, altS]
    exact (rfl : (0 : Nat) = 0)
  | f + 1, k, a1, a2, ha, hne, hl => by
    have hbig := h.big
    have hp := row_q h hi L1.length (k + 1) [] [] SmL_nil (by simp; omega)
    rw [altS, altS, h.len]
    simp only [h.sg k]
    split
    · rcases hp.cases with ⟨n, n', k', e1, e2, hs⟩ | ⟨c, c', e1, e2, hc⟩
      · rw [e1, e2]
        exact alt_q h hi f k' (a1 ++ [n]) (a2 ++ [n']) (SmL_snoc ha hs) (by simp) (by simp; omega)
      · rw [e1, e2]
        exact hc
    · exact ⟨rfl, Sm_join 7 ha (by omega) hne⟩
theorem ch_q (h : Ly L1 L2) {i1 i2 : Nat → Pr} (hi : ∀ k, Rq (i1 k) (i2 k)) (k : Nat) : Rq (chS L1 i1 k) (chS L2 i2 k) := by
  have hbig := h.big
  have hp := row_q h hi L1.length k [] [] SmL_nil (by simp; omega)
  unfold chS
  rw [h.len]
  rcases hp.cases with ⟨n, n', k', e1, e2, hs⟩ | ⟨c, c', e1, e2, hc⟩
  · rw [e1, e2]
    unfold chE
    simp only
    rw [h.len]
    exact alt_q h hi L1.length k' [n] [n'] (SmL_one hs) (by simp) (by simp; omega)
  · rw [e1, e2]
    exact hc
theorem inn_q (h : Ly L1 L2) : ∀ (d k : Nat), Rq (innS L1 d k) (innS L2 d k)
  | 0, k => by
    rw [innS, innS]
    exact (rfl : (2 : Nat) = 2)
  | d + 1, k => by
    have hp := ch_q h (inn_q h d) (k + 1)
    rw [innS, innS]
    rcases hp.cases with ⟨n, n', k', e1, e2, hs⟩ | ⟨c, c', e1, e2, hc⟩
    · rw [e1, e2]
      unfold innE
      simp only [h.sg k', h.wr k']
      split
      · exact ⟨rfl, hs⟩
      · exact (rfl : wrC (gL L1 k') = wrC (gL L1 k'))
    · rw [e1, e2]
      exact hc
def Ru (r1 r2 : (Nat × Nat) ⊕ (Rl × Nat)) : Prop := (∃ x y k, r1 = .inr (x, k) ∧ r2 = .inr (y, k) ∧ RlS x y) ∨ (∃ c c', r1 = .inl c ∧ r2 = .inl c' ∧ c'.1 = c.1)
theorem ru_q (h : Ly L1 L2) (ru k : Nat) : Ru (ruS L1 ru k) (ruS L2 ru k) := by
  have hp := ch_q h (inn_q h 24) (k + 2)
  unfold ruS
  rw [(h.kd k).1, (h.kd (k + 1)).1, h.wr k, h.wr (k + 1)]
  split
  · exact .inr ⟨_, _, rfl, rfl, rfl⟩
  · split
    · exact .inr ⟨_, _, rfl, rfl, rfl⟩
    · split
      · exact .inr ⟨_, _, rfl, rfl, rfl⟩
      · rcases hp.cases with ⟨n, n', k', e1, e2, hs⟩ | ⟨c, c', e1, e2, hc⟩
        · rw [e1, e2]
          exact .inl ⟨_, _, _, rfl, rfl, (h.kd k).2.1, hs⟩
        · rw [e1, e2]
          exact .inr ⟨_, _, rfl, rfl, hc⟩
def Rg (r1 r2 : (Nat × Nat) ⊕ List Rl) : Prop := (∃ x y, r1 = .inr x ∧ r2 = .inr y ∧ RlL x y) ∨ (∃ c c', r1 = .inl c ∧ r2 = .inl c' ∧ c'.1 = c.1)
theorem rls_q (h : Ly L1 L2) : ∀ (f k : Nat) (a1 a2 : List Rl), RlL a1 a2 → Rg (rlsS L1 f k a1) (rlsS L2 f k a2)
  | 0, k, a1, a2, _ => by
    rw [rlsS, rlsS]
    exact .inr ⟨_, _, rfl, rfl, rfl⟩
  | f + 1, k, a1, a2, ha => by
    rw [rlsS, rlsS, (h.kd k).1, ha.len]
    split
    · exact .inl ⟨_, _, rfl, rfl, ha⟩
    · rcases ru_q h a1.length k with ⟨x, y, k', e1, e2, hs⟩ | ⟨c, c', e1, e2, hc⟩
      · rw [e1, e2]
        exact rls_q h f k' (a1 ++ [x]) (a2 ++ [y]) (ha.app (by rw [RlL]; exact ⟨hs, by rw [RlL]; trivial⟩))
      · rw [e1, e2]
        exact .inr ⟨_, _, rfl, rfl, hc⟩
theorem gra_q (h : Ly L1 L2) : Rg (graS L1) (graS L2) := by
  unfold graS
  rcases ru_q h 0 0 with ⟨x, y, k', e1, e2, hs⟩ | ⟨c, c', e1, e2, hc⟩
  · rw [e1, e2]
    unfold graE
    simp only
    rw [h.len]
    exact rls_q h L1.length k' [x] [y] (by rw [RlL]; exact ⟨hs, by rw [RlL]; trivial⟩)
  · rw [e1, e2]
    exact .inr ⟨_, _, rfl, rfl, hc⟩
theorem ly_of {L M : List Tok} (h : M.map tk3 = L.map tk3) (hl : L.length ≤ 10000) : Ly L M := by
  have hlen : M.length = L.length := by
    have := congrArg List.length h
    simpa using this
  refine ⟨hlen, fun k => ?_, hl⟩
  have hk : (M.map tk3)[k]? = (L.map tk3)[k]? := by rw [h]
  rw [List.getElem?_map, List.getElem?_map] at hk
  unfold gL
  cases h1 : M[k]? with
  | none => rw [h1] at hk; cases h2 : L[k]? with
    | none => rfl
    | some t => rw [h2] at hk; cases hk
  | some u => rw [h1] at hk; cases h2 : L[k]? with
    | none => rw [h2] at hk; cases hk
    | some t =>
      rw [h2] at hk
      simp only [Option.map_some, Option.some.injEq] at hk
      exact hk
end
end Go.Proofs.YtikfnaffiehpaaaGreatDoor
namespace Go.Proofs.YtikfnaffiehpaaaGreatDoor
open Go.RowKit Go.Shelf
set_option linter.unusedVariables false
theorem par_inv {S : ByteArray} {rs : List Rl} (h : parS S = .inr rs) : ∃ m, tks S (sb S 0) [] = .inr m ∧ (∀ t ∈ m, TokOk t) ∧ m.length ≤ S.size ∧ graS (m ++ [(6, { data := #[] }, 0, S.size)]) = .inr rs := by
  unfold parS at h
  cases ht : tkS S with
  | inl c => rw [ht] at h; cases h
  | inr L =>
    rw [ht] at h
    obtain ⟨m, hm, rfl⟩ := tkS_inv ht
    have hgood := tkl_good _ _ _ _ _ hm (fun t ht => by simp at ht)
    refine ⟨m, hm, hgood.1, ?_, h⟩
    have h2 := hgood.2
    simp at h2
    omega
theorem rls_le (L : List Tok) : ∀ (f k : Nat) (acc rs : List Rl), rlsS L f k acc = .inr rs → acc.length ≤ 64 → rs.length ≤ 64 ∧ acc.length ≤ rs.length
  | 0, _, _, _, h, _ => by rw [rlsS] at h; cases h
  | f + 1, k, acc, rs, h, ha => by
    rw [rlsS] at h
    split at h
    · simp only [Sum.inr.injEq] at h; subst h; exact ⟨ha, Nat.le_refl _⟩
    · split at h
      · cases h
      · rename_i x k' hr
        have := ruS_ne hr
        have h2 := rls_le L f k' (acc ++ [x]) rs h (by simp; omega)
        rw [List.length_append] at h2
        exact ⟨h2.1, by omega⟩
theorem par_le {S : ByteArray} {rs : List Rl} (h : parS S = .inr rs) : rs.length ≤ 64 ∧ 1 ≤ rs.length := by
  obtain ⟨m, _, _, _, hg⟩ := par_inv h
  unfold graS at hg
  cases hr : ruS (m ++ [(6, { data := #[] }, 0, S.size)]) 0 0 with
  | inl c => rw [hr] at hg; cases hg
  | inr q =>
    obtain ⟨x, k⟩ := q
    rw [hr] at hg
    exact rls_le _ _ _ _ _ hg (by simp)
theorem rll_mem : ∀ {s : List Rl}, RlL s s → ∀ x ∈ s, Sm x.2.1 x.2.1
  | [], _, x, hx => by simp at hx
  | a :: r, h, x, hx => by
    rw [RlL] at h
    rcases List.mem_cons.1 hx with rfl | hx
    · exact h.1.2
    · exact rll_mem h.2 x hx
theorem par_sm {S : ByteArray} {rs : List Rl} (hS : S.size ≤ 8192) (h : parS S = .inr rs) : RlL rs rs := by
  obtain ⟨m, _, _, hl, hg⟩ := par_inv h
  rcases gra_q (L1 := m ++ [(6, { data := #[] }, 0, S.size)]) ⟨rfl, fun _ => rfl, by simp; omega⟩ with ⟨x, y, e1, e2, hs⟩ | ⟨c, c', e1, _, _⟩
  · rw [hg] at e1 e2
    cases e1
    cases e2
    exact hs
  · rw [hg] at e1
    cases e1
/-- What was read, as it lies in memory. -/
def toG (rs : List Rl) : List Rr := rs.map fun x => (x.1, toR x.2.1, (x.2.2 : Int))
theorem toG_q : ∀ rs : List Rl, TqR (toG rs) rs
  | [] => by unfold toG; rw [List.map_nil, TqR]; trivial
  | x :: r => by
    have := toG_q r
    unfold toG at this ⊢
    rw [List.map_cons, TqR]
    exact ⟨rfl, tq_toR _, this⟩
theorem toG_is {W : World} {B g n cap : Nat} {rs : List Rl} (h : RoR B (.slice (some ⟨g, 0, none⟩) n cap) rs W) (hs : ∀ x ∈ rs, Sm x.2.1 x.2.1) (h64 : rs.length ≤ 64) : RgIs W W.heap.size (some ⟨g, 0, none⟩) n (toG rs) := by
  have hl : n = rs.length := h.len
  have hgl : (toG rs).length = rs.length := by unfold toG; rw [List.length_map]
  refine ⟨by omega, by unfold maxLen; omega, fun j hj => ?_⟩
  have hj' : j < rs.length := by omega
  obtain ⟨c, ⟨cs, rfl, hn⟩, h2⟩ := h.get j hj'
  have e : (toG rs)[j] = (rs[j].1, toR rs[j].2.1, (rs[j].2.2 : Int)) := List.getElem_map _
  have rt := nd_rt _ _ (hs _ (List.getElem_mem hj')) hn
  obtain ⟨k, T, a, b, c, d, so, n1, cap1, p, rfl⟩ := rt.shape
  refine ⟨g, 0, rfl, h.lt, ?_⟩
  rw [e, Nat.zero_add]
  exact ⟨k, T, a, b, c, d, so, n1, cap1, p, rt, h2 0 _ rfl, h2 1 _ rfl, h2 2 _ rfl, h2 3 _ rfl, h2 4 _ rfl, h2 5 _ rfl, h2 6 _ rfl, h2 7 _ rfl, h2 8 _ rfl, h2 9 _ rfl⟩
theorem ok_all : ∀ {rs : List Rr} {ns : List Rl}, TqR rs ns → (∀ x ∈ ns, Ruk Nmq x) → rs.all okR = true ∧ RgZ rs
  | [], [], _, _ => ⟨rfl, fun x hx => by simp at hx⟩
  | [], _ :: _, h, _ => by simp [TqR] at h
  | _ :: _, [], h, _ => by simp [TqR] at h
  | x :: r, y :: q, h, hx => by
    rw [TqR] at h
    obtain ⟨h1, h2⟩ := ok_all h.2.2 (fun z hz => hx z (by simp [hz]))
    obtain ⟨n1, n2, n3⟩ := hx y (by simp)
    obtain ⟨o1, o2⟩ := okT_of _ _ h.2.1 n2 n3
    have n1' : nmS x.1 = true := by rw [← h.1]; exact n1
    refine ⟨by rw [List.all_cons, h1]; unfold okR; rw [n1', o1]; rfl, fun z hz => ?_⟩
    rcases List.mem_cons.1 hz with rfl | hz
    · exact ⟨by have := nm_size n1'; omega, o2⟩
    · exact h2 z hz
theorem okG_of {rs : List Rr} {ns : List Rl} (h : TqR rs ns) (hx : ∀ x ∈ ns, Ruk Nmq x) (h1 : 1 ≤ ns.length) (h64 : ns.length ≤ 64) : okG rs = true := by
  unfold okG
  rw [(ok_all h hx).1, decide_eq_true (by have := h.len; omega), decide_eq_true (p := rs.length ≤ 64) (by have := h.len; omega)]
  rfl
/-- printer.Print at what was read. -/
theorem nprint_read {S : ByteArray} {rs : List Rl} (hS : S.size ≤ 8192) (h : parS S = .inr rs) (B g n cap : Nat) (W : World) (hr : RoR B (.slice (some ⟨g, 0, none⟩) n cap) rs W) (hT : TabIs W) :
    Calls Tryz.prog 11 #[.agg #[.slice (some ⟨g, 0, none⟩) n cap]] W fun e w' => e = .returned (ansT rs) ∧ Below W.heap.size W w' := by
  have hx : ∀ x ∈ rs, Ruk Nmq x := fun x hx => (par_ok h x hx).1
  have hl := par_le h
  exact nprint_ok _ n cap (toG rs) rs W.heap.size W (ok_all (toG_q rs) hx).2 (toG_is hr (rll_mem (par_sm hS h)) hl.1) (Nat.le_refl _) (okG_of (toG_q rs) hx hl.2 hl.1) (toG_q rs) hx hT
/-- The small case: its source and its text. -/
@[reducible] def smP : ByteArray := { data := #[97, 60, 45, 40, 40, 39, 120, 39, 41, 41, 47, 98, 42, 33, 40, 99, 32, 100, 41] }
@[reducible] def smQ : ByteArray := { data := #[97, 32, 60, 45, 32, 39, 120, 39, 32, 47, 32, 98, 42, 32, 33, 40, 99, 32, 100, 41, 10] }
def smB (x : Nat) : Bool := match parS smP with
  | .inr rs => decide (cat (pR qT cT rs) = smQ) && (decide (sz (pR qT cT rs) ≤ 8192) && decide (dR rs ≤ 24))
  | .inl _ => false
theorem smB_ok : ∀ x, x < 1 → smB x = true := by decide +kernel
theorem small_p : ∃ rs, parS smP = .inr rs ∧ ansT rs = .tuple #[.string smQ, .nilIface] := by
  have h := smB_ok 0 (by decide)
  unfold smB at h
  cases hp : parS smP with
  | inl c => rw [hp] at h; cases h
  | inr rs =>
    rw [hp] at h
    simp only [Bool.and_eq_true, decide_eq_true_eq] at h
    exact ⟨rs, rfl, by rw [ansT_ok h.2.1 h.2.2, h.1]⟩
end Go.Proofs.YtikfnaffiehpaaaGreatDoor
namespace Go.Proofs.YtikfnaffiehpaaaGreatDoor
open Go.RowKit Go.Shelf
set_option linter.unusedVariables false
mutual
/-- Is an Empty somewhere within? -/
def eT : RT → Bool
  | .mk k _ _ _ _ _ s _ => (k == 1) || eTs s
def eTs : List RT → Bool
  | [] => false
  | t :: r => eT t || eTs r
end
theorem eTs_hit : ∀ {s : List RT} (j : Nat) (hj : j < s.length), eT s[j] = true → eTs s = true
  | [], j, hj, _ => by simp at hj
  | t :: r, 0, _, h => by rw [eTs, show eT t = true from h]; rfl
  | t :: r, j + 1, hj, h => by rw [eTs, eTs_hit j (by simpa using hj) h, Bool.or_true]
theorem eTs_none : ∀ {s : List RT}, (∀ (j : Nat) (hj : j < s.length), eT s[j] = false) → eTs s = false
  | [], _ => by rw [eTs]
  | t :: r, h => by rw [eTs, show eT t = false from h 0 (by simp), eTs_none (s := r) (fun j hj => h (j + 1) (by simpa using hj))]; rfl
set_option maxRecDepth 100000 in
set_option maxHeartbeats 8000000 in
theorem empties_one (T : ByteArray) (a b c d p : Int) (so : Option Addr) (n cap : Nat) (w : World) :
    Calls Tryz.prog 30 #[.agg (r8 1 T a b c d so n cap p).toArray] w fun e w' => e = .returned (.bool true) ∧ Below w.heap.size w w' := by
  dsimp only [r8]
  go_enter Tryz.func30, Tryz.ntmps30
  go_wp2_with fail
  go_ret
  exact ⟨rfl, (Below.refl _ _).alloc (Nat.le_refl _) _⟩
set_option maxRecDepth 100000 in
set_option maxHeartbeats 8000000 in
theorem empties_row (k : Int) (T : ByteArray) (a b c d p : Int) (so : Option Addr) (n cap : Nat) (s : List RT) (w : World) (hk : (k == 1) = false) (hn : n ≤ 9223372036854775807) (HN : Hid (n = s.length))
    (HC : Hid (∀ j (hj : j < s.length), ∃ g o, so = some ⟨g, o, none⟩ ∧ g < w.heap.size ∧ ∃ k1 T1 a1 b1 c1 d1 so1 n1 cap1 p1, Rc w g (o + j * 8) k1 T1 a1 b1 c1 d1 (.slice so1 n1 cap1) p1 ∧
      ∀ W : World, Below w.heap.size w W → Calls Tryz.prog 30 #[.agg (r8 k1 T1 a1 b1 c1 d1 so1 n1 cap1 p1).toArray] W fun e w' => e = .returned (.bool (eT s[j])) ∧ Below W.heap.size W w')) :
    Calls Tryz.prog 30 #[.agg (r8 k T a b c d so n cap p).toArray] w fun e w' => e = .returned (.bool (eTs s)) ∧ Below w.heap.size w w' := by
  obtain ⟨R, hR⟩ : ∃ R, R = eTs s := ⟨_, rfl⟩
  have HR := hid hR
  rw [← hR]
  clear hR
  have HB1 : Hid (Below w.heap.size w (w.alloc (.cells #[.int .i64 k, .string T, .int .u64 a, .int .u64 b, .int .u64 c, .int .u64 d, .slice so n cap, .int .i64 p] 30))) := (Below.refl _ w).alloc (Nat.le_refl _) _
  have HC1 : Hid ((w.alloc (.cells #[.int .i64 k, .string T, .int .u64 a, .int .u64 b, .int .u64 c, .int .u64 d, .slice so n cap, .int .i64 p] 30)).heap[w.heap.size]? = some (.cells #[.int .i64 k, .string T, .int .u64 a, .int .u64 b, .int .u64 c, .int .u64 d, .slice so n cap, .int .i64 p] 30)) := new_block_at w _ rfl
  dsimp only [r8]
  go_enter Tryz.func30, Tryz.ntmps30
  go_wp2_with fail
  go_loopw [3] (fun i wr => ∃ j : Nat, i = .int .i64 (j : Int) ∧ j ≤ n ∧ Hid (Below w.heap.size w wr) ∧ Hid (wr.heap[w.heap.size]? = some (.cells #[.int .i64 k, .string T, .int .u64 a, .int .u64 b, .int .u64 c, .int .u64 d, .slice so n cap, .int .i64 p] 30)) ∧ Hid (∀ i (hi : i < s.length), i < j → eT s[i] = false)) (fun i _ => n - (intOf i).toNat)
  case atStart => exact ⟨0, rfl, Nat.zero_le _, HB1, HC1, fun i _ h => absurd h (by omega)⟩
  case round =>
    obtain ⟨j, rfl, hj, HB, HCb, HO⟩ := hrel
    clear HB1 HC1
    have c6 := rt8_cells HCb.out
    have hwl : w.heap.size < wr.heap.size := node_lt HCb.out
    by_cases hjn : j < n
    · have hjI : (j : Int) < (n : Int) := by omega
      have a0 : decide ((j : Int) < (n : Int)) = true := by simp; omega
      have hjs : j < s.length := by rw [← HN.out]; exact hjn
      obtain ⟨g, o, rfl, hg, k1, T1, a1, b1, c1, d1, so1, n1, cap1, p1, rc, hc⟩ := HC.out j hjs
      obtain ⟨z0, z1, z2, z3, z4, z5, z6, z7⟩ := rc.below HB.out hg
      have HG := hid (hc wr HB.out)
      obtain ⟨Q, hQ⟩ : ∃ Q, Q = eT s[j] := ⟨_, rfl⟩
      rw [← hQ] at HG
      have HQ := hid hQ
      clear hc rc hQ HC
      dsimp only [r8] at HG
      go_wp2_with (first | (go_at_call 30; refine HG.out.mono ?_; rintro e wz ⟨rfl, hbz⟩))
      · rename_i hq
        have hb2 := HB.out.trans (hbz.mono HB.out.size)
        go_ret
        refine ⟨?_, hb2⟩
        rw [HR.out, eTs_hit j hjs (by rw [← HQ.out]; exact hq)]
        rfl
      · rename_i hq
        have hb2 := HB.out.trans (hbz.mono HB.out.size)
        refine ⟨⟨j + 1, by go_num, by omega, hb2, hid ((hbz.block _ hwl).trans HCb.out), fun i hi hij => ?_⟩, ?_⟩
        · rcases Nat.lt_or_ge i j with h1 | h1
          · exact HO.out i hi h1
          · obtain rfl : i = j := by omega
            rw [← HQ.out]
            simpa using hq
        · simp [intOf]; omega
    · have a0 : decide ((j : Int) < (n : Int)) = false := by simp; omega
      clear HC
      go_wp2_with fail
      go_ret
      refine ⟨?_, HB.out⟩
      rw [HR.out, eTs_none fun i hi => HO.out i hi (by have := HN.out; omega)]
      rfl
theorem empties_all : ∀ (N : Nat) (t : RT) (cs : List Value) (B : Nat) (w : World), SizeOf.sizeOf t < N → RtIs w B t cs → B ≤ w.heap.size →
    Calls Tryz.prog 30 #[.agg cs.toArray] w fun e w' => e = .returned (.bool (eT t)) ∧ Below w.heap.size w w'
  | 0, t, _, _, _, h, _, _ => by omega
  | N + 1, .mk k T a b c d s p, cs, B, w, hN, ht, hB => by
    rw [RtIs] at ht
    obtain ⟨so, cap, rfl, ht⟩ := ht
    rw [eT]
    cases hk : (k == 1) with
    | true =>
      obtain rfl : k = 1 := by simpa using hk
      exact empties_one T a b c d p so (rtLen s) cap w
    | false =>
      rw [Bool.false_or]
      rcases ht with h1 | ⟨h1, g, o, rfl, hg, hm, hs⟩
      · have hs0 : s = [] := by simpa using h1
        subst hs0
        exact empties_row k T a b c d p so _ cap [] w hk (by rw [rtLen]; omega) (hid (by rw [rtLen]; rfl)) (hid (fun j hj => by simp at hj))
      · refine empties_row k T a b c d p _ _ cap s w hk (by unfold maxLen at hm; omega) (hid (rtLen_eq s)) (hid (fun j hj => ?_))
        obtain ⟨k1, T1, a1, b1, c1, d1, so1, n1, cap1, p1, r1, r2⟩ := rts_at hs j hj
        refine ⟨g, o, rfl, by omega, k1, T1, a1, b1, c1, d1, so1, n1, cap1, p1, r2, fun W hW => ?_⟩
        have hsz := List.sizeOf_lt_of_mem (List.getElem_mem hj)
        simp only [RT.mk.sizeOf_spec] at hN
        exact empties_all N s[j] _ B W (by omega) (r1.below (hW.mono hB)) (Nat.le_trans hB hW.size)
/-- Is an Empty somewhere within a rule? -/
def eG (rs : List Rr) : Bool := rs.any fun x => eT x.2.1
set_option maxRecDepth 100000 in
set_option maxHeartbeats 8000000 in
theorem nested_any (so : Option Addr) (n cap : Nat) (rs : List Rr) (B : Nat) (w : World) (h : RgIs w B so n rs) (hB : B ≤ w.heap.size) :
    Calls Tryz.prog 18 #[.agg #[.slice so n cap]] w fun e w' => e = .returned (.bool (eG rs)) ∧ Below w.heap.size w w' := by
  obtain ⟨R, hR⟩ : ∃ R, R = eG rs := ⟨_, rfl⟩
  have HR := hid hR
  rw [← hR]
  clear hR
  have HN : Hid (n = rs.length) := h.1
  have hm : n ≤ 9223372036854775807 := by have := h.2.1; unfold maxLen at this; omega
  have HG := hid h
  clear h
  have HB1 : Hid (Below w.heap.size w (w.alloc (.cells #[.slice so n cap] 24))) := (Below.refl _ w).alloc (Nat.le_refl _) _
  have HC1 : Hid ((w.alloc (.cells #[.slice so n cap] 24)).heap[w.heap.size]? = some (.cells #[.slice so n cap] 24)) := new_block_at w _ rfl
  go_enter Tryz.func18, Tryz.ntmps18
  go_wp2_with fail
  go_loopw [3] (fun i wr => ∃ j : Nat, i = .int .i64 (j : Int) ∧ j ≤ n ∧ Hid (Below w.heap.size w wr) ∧ Hid (wr.heap[w.heap.size]? = some (.cells #[.slice so n cap] 24)) ∧ Hid (∀ i (hi : i < rs.length), i < j → eT rs[i].2.1 = false)) (fun i _ => n - (intOf i).toNat)
  case atStart => exact ⟨0, rfl, Nat.zero_le _, HB1, HC1, fun i _ h => absurd h (by omega)⟩
  case round =>
    obtain ⟨j, rfl, hj, HB, HCb, HO⟩ := hrel
    clear HB1 HC1
    have c6 := (one_cell HCb.out).1
    have hwl : w.heap.size < wr.heap.size := node_lt HCb.out
    by_cases hjn : j < n
    · have hjI : (j : Int) < (n : Int) := by omega
      have a0 : decide ((j : Int) < (n : Int)) = true := by simp; omega
      have hjs : j < rs.length := by rw [← HN.out]; exact hjn
      have HGr := hid (HG.out.below (HB.out.mono hB))
      obtain ⟨g, o, rfl, hg, k1, T1, a1, b1, c1, d1, so1, n1, cap1, p1, rt, z0, z1, z2, z3, z4, z5, z6, z7, z8, z9⟩ := HGr.out.2.2 j hjs
      have HE := hid (empties_all _ rs[j].2.1 _ B wr (Nat.lt_succ_self _) rt (Nat.le_trans hB HB.out.size))
      obtain ⟨Q, hQ⟩ : ∃ Q, Q = eT rs[j].2.1 := ⟨_, rfl⟩
      obtain ⟨N0, hN0⟩ : ∃ N0, N0 = rs[j].1 := ⟨_, rfl⟩
      obtain ⟨p0, hp0⟩ : ∃ p0, p0 = rs[j].2.2 := ⟨_, rfl⟩
      rw [← hQ] at HE
      have HQ := hid hQ
      rw [← hN0] at z0
      rw [← hp0] at z9
      clear rt hQ hN0 hp0 HG HGr
      dsimp only [r8] at HE
      go_wp2_with (first | (go_at_call 30; refine HE.out.mono ?_; rintro e wz ⟨rfl, hbz⟩))
      · rename_i hq
        have hb2 := HB.out.trans (hbz.mono HB.out.size)
        go_ret
        refine ⟨?_, hb2⟩
        rw [HR.out, show eG rs = true from List.any_eq_true.2 ⟨rs[j], List.getElem_mem hjs, by rw [← HQ.out]; exact hq⟩]
        rfl
      · rename_i hq
        have hb2 := HB.out.trans (hbz.mono HB.out.size)
        refine ⟨⟨j + 1, by go_num, by omega, hb2, hid ((hbz.block _ hwl).trans HCb.out), fun i hi hij => ?_⟩, ?_⟩
        · rcases Nat.lt_or_ge i j with h1 | h1
          · exact HO.out i hi h1
          · obtain rfl : i = j := by omega
            rw [← HQ.out]
            simpa using hq
        · simp [intOf]; omega
    · have a0 : decide ((j : Int) < (n : Int)) = false := by simp; omega
      clear HG
      go_wp2_with fail
      go_ret
      refine ⟨?_, HB.out⟩
      rw [HR.out, show eG rs = false from List.any_eq_false.2 fun x hx => by
        obtain ⟨i, hi, rfl⟩ := List.mem_iff_getElem.1 hx
        rw [HO.out i hi (by have := HN.out; omega)]
        simp]
      rfl
mutual
theorem eT_nd : ∀ (t : RT) (n : Nd), Tq t n → eT t = eN n
  | .mk k T a b c d s p, .mk kd T' C s' pn, h => by
    rw [Tq] at h
    obtain ⟨rfl, _, _, _, _, _, hs⟩ := h
    rw [eT, eN, eTs_nd s s' hs]
    congr 1
    by_cases h1 : kd = 1
    · subst h1; rfl
    · rw [decide_eq_false h1]
      simp
      omega
theorem eTs_nd : ∀ (s : List RT) (q : List Nd), TqL s q → eTs s = eL q
  | [], [], _ => by rw [eTs, eL]
  | [], _ :: _, h => by simp [TqL] at h
  | _ :: _, [], h => by simp [TqL] at h
  | t :: r, n :: q, h => by
    rw [TqL] at h
    rw [eTs, eL, eT_nd t n h.1, eTs_nd r q h.2]
end
end Go.Proofs.YtikfnaffiehpaaaGreatDoor
