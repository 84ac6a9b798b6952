/-
  One more rule behind a grammar's rules: where the others lead stays as it was; the new row in memory. Conditions: those that each theorem names.
-/
import Derived.Test.YtplffhmefnnieaaGreatDoorVO15ToO18
import Derived.Test.YtplffhmefnnieaaGreatDoorVW4ToS9
import Derived.Deep.RegionHeld3
import Derived.Deep.AppendLies
namespace Go.Proofs.YtplffhmefnnieaaGreatDoor
open Go.RowKit Go.Shelf
set_option linter.unusedVariables false
theorem rch_lt {us : List (List Int)} {n a i : Nat} (hx : ∀ b x, x ∈ us.getD b [] → ∃ m : Nat, m < n ∧ x = (m : Int)) (ha : a < n) (h : Rch us a i) : i < n := by
  induction h with
  | refl => exact ha
  | step _ hm ih =>
    obtain ⟨m, h1, h2⟩ := hx _ _ hm
    omega
theorem us_lt {rs : List Rr} (h1 : 1 ≤ rs.length) (b : Nat) (x : Int) (hx : x ∈ (rs.map (usR (nmL rs))).getD b []) : ∃ m : Nat, m < rs.length ∧ x = (m : Int) := by
  rw [List.getD_eq_getElem?_getD, List.getElem?_map] at hx
  cases hb : rs[b]? with
  | none => rw [hb] at hx; simp at hx
  | some y =>
    rw [hb] at hx
    have hl : (nmL rs).length = rs.length := List.length_map _
    have := us_mem (l := nmL rs) (y := y) (by rw [hl]; exact h1) hx
    rw [hl] at this
    exact this
theorem RowM.below {W W' : World} {B S : Nat} {rv : Value} {u : List Int} (h : RowM W B rv u) (hb : Below S W W') (hS : B ≤ S) : RowM W' B rv u := by
  obtain ⟨so, cap, h1, h2, h3⟩ := h
  refine ⟨so, cap, h1, h2, fun j hj => ?_⟩
  obtain ⟨g, o, e1, e2, e3⟩ := h3 j hj
  exact ⟨g, o, e1, e2, (hb.cell (p := ⟨g, o + j, none⟩) (by show g < S; omega)).trans e3⟩
section
variable {H : Type} {enc : TypeId × Value → H} {W : World} {sp : Nat → Bool} {hl : Bool}
open Go.ChangeShapes Go.WideShapes Go.ChangeAt
set_option maxRecDepth 100000 in
/-- An argument that is a node. -/
theorem node_arg {base : Nat} {v : Value} {d : DataW H} {ps : List MemPlace} (hv : Value.okWide Tryz.prog W .any base 58 v) (h : DataW.Trod enc Tryz.prog W 0 sp hl 58 v d ps) :
    ∃ k T a b c e so n cap p t, v = .agg (r8 k T a b c e so n cap p).toArray ∧ RtIs W W.heap.size t (r8 k T a b c e so n cap p) ∧ RtZ t ∧ RtU t := by
  obtain ⟨cs, rfl, hsz⟩ := okWide_struct Tryz.structNode hv
  obtain ⟨l⟩ := cs
  obtain ⟨fuel, hf⟩ := h
  have hf' : DataW.trod enc Tryz.prog W 0 sp hl fuel 58 l = some (d, ps) := hf
  obtain ⟨t, i1, i2, i3⟩ := open_node _ fuel _ _ (Nat.lt_succ_self _) hf'
  obtain ⟨k, T, a, b, c, e, so, n1, cap, p, rfl⟩ := i1.shape
  exact ⟨k, T, a, b, c, e, so, n1, cap, p, t, rfl, i1, i2, i3⟩
end
theorem ixV_in {s x : ByteArray} {l : List ByteArray} (h : inN s l = true) : ixV (l ++ [x]) s = ixV l s := by
  unfold ixV
  rw [if_pos h, if_pos (by rw [inN_snoc, h]; rfl), ixN_snoc, if_pos h]
theorem lost_mem {l : List ByteArray} : ∀ {q : List (ByteArray × Int)}, lostR l q = none → ∀ y ∈ q, inN y.1 l = true
  | [], _, y, hy => by simp at hy
  | x :: r, h, y, hy => by
    rw [lostR] at h
    by_cases hx : inN x.1 l = true
    · rw [if_pos hx] at h
      rcases List.mem_cons.1 hy with rfl | hy
      · exact hx
      · exact lost_mem h y hy
    · rw [if_neg hx] at h; cases h
theorem rfG_mem : ∀ {rs : List Rr} {x : Rr}, x ∈ rs → ∀ y ∈ rfT x.2.1, y ∈ rfG rs
  | a :: r, x, h, y, hy => by
    rw [rfG, List.mem_append]
    rcases List.mem_cons.1 h with rfl | h
    · exact .inl hy
    · exact .inr (rfG_mem h y hy)
theorem ck_lost {rs : List Rr} (h : ckR rs = none) : lostR (nmL rs) (rfG rs) = none := by
  unfold ckR at h
  cases hd : dupL rs with
  | some p => rw [hd] at h; cases h
  | none =>
    rw [hd] at h
    cases hl : lostR (nmL rs) (rfG rs) with
    | some p => rw [hl] at h; cases h
    | none => rfl
theorem us_more {rs : List Rr} (h : ckR rs = none) (x : Rr) : (rs ++ [x]).map (usR (nmL (rs ++ [x]))) = rs.map (usR (nmL rs)) ++ [usR (nmL (rs ++ [x])) x] := by
  rw [List.map_append]
  congr 1
  refine List.map_congr_left fun y hy => ?_
  have hn : nmL (rs ++ [x]) = nmL rs ++ [x.1] := by unfold nmL; rw [List.map_append]; rfl
  unfold usR
  congr 2
  unfold ixL
  refine List.map_congr_left fun q hq => ?_
  rw [hn, ixV_in (lost_mem (ck_lost h) q (rfG_mem hy q hq))]
theorem getD_app {us : List (List Int)} {u : List Int} {b : Nat} (h : b < us.length) : (us ++ [u]).getD b [] = us.getD b [] := by
  rw [List.getD_eq_getElem?_getD, List.getD_eq_getElem?_getD, List.getElem?_append_left h]
theorem rch_more {us : List (List Int)} {u : List Int} {a i : Nat} (hx : ∀ b x, x ∈ us.getD b [] → ∃ m : Nat, m < us.length ∧ x = (m : Int)) (ha : a < us.length) : Rch (us ++ [u]) a i ↔ Rch us a i := by
  constructor
  · intro h
    induction h with
    | refl => exact .refl
    | step _ hm ih =>
      have hb := rch_lt hx ha ih
      rw [getD_app hb] at hm
      exact ih.step hm
  · intro h
    induction h with
    | refl => exact .refl
    | step h0 hm ih =>
      have hb := rch_lt hx ha h0
      rw [← getD_app (u := u) hb] at hm
      exact ih.step hm
/-- Where a rule leads is the same, with one rule more behind the others. -/
theorem ld_more {rs : List Rr} {x : Rr} {k : Nat} {A B : List Int} (h : ckR rs = none) (hk : k < rs.length) (hA : LdIs (rs.map (usR (nmL rs))) k A) (hB : LdIs ((rs ++ [x]).map (usR (nmL (rs ++ [x])))) k B) : A = B := by
  rw [us_more h] at hB
  refine lt_unique hA.1 hB.1 fun y => (hA.2 y).trans (Iff.trans ?_ (hB.2 y).symm)
  have hl : (rs.map (usR (nmL rs))).length = rs.length := List.length_map _
  constructor
  · rintro ⟨i, e, hi⟩
    exact ⟨i, e, (rch_more (fun b x hx => by rw [hl]; exact us_lt (by omega) b x hx) (by rw [hl]; exact hk)).2 hi⟩
  · rintro ⟨i, e, hi⟩
    exact ⟨i, e, (rch_more (fun b x hx => by rw [hl]; exact us_lt (by omega) b x hx) (by rw [hl]; exact hk)).1 hi⟩
/-- A rule, moved. -/
theorem Rk.move {w w' : World} {B B' g o g' o' : Nat} {x : Rr} (h : Rk w B g o x) (hc : ∀ q, q < 10 → w'.cell? ⟨g', o' + q, none⟩ = w.cell? ⟨g, o + q, none⟩) (hb : Below B w w') (hB : B ≤ B') : Rk w' B' g' o' x := by
  obtain ⟨k, T, a, b, c, d, so, n, cap, p, h1, z0, z1, z2, z3, z4, z5, z6, z7, z8, z9⟩ := h
  exact ⟨k, T, a, b, c, d, so, n, cap, p, RtIs.upto hB _ _ (h1.below hb), (hc 0 (by omega)).trans z0, (hc 1 (by omega)).trans z1, (hc 2 (by omega)).trans z2, (hc 3 (by omega)).trans z3, (hc 4 (by omega)).trans z4, (hc 5 (by omega)).trans z5, (hc 6 (by omega)).trans z6, (hc 7 (by omega)).trans z7, (hc 8 (by omega)).trans z8, (hc 9 (by omega)).trans z9⟩
theorem Rk.ok {w : World} {B g o : Nat} {x : Rr} (h : Rk w B g o x) (q : Nat) (hq : q < 10) : ∃ v, w.cell? ⟨g, o + q, none⟩ = some v ∧ v.oneCell' = true := by
  obtain ⟨k, T, a, b, c, d, so, n, cap, p, h1, z0, z1, z2, z3, z4, z5, z6, z7, z8, z9⟩ := h
  match q, hq with
  | 0, _ => exact ⟨_, z0, rfl⟩
  | 1, _ => exact ⟨_, z1, rfl⟩
  | 2, _ => exact ⟨_, z2, rfl⟩
  | 3, _ => exact ⟨_, z3, rfl⟩
  | 4, _ => exact ⟨_, z4, rfl⟩
  | 5, _ => exact ⟨_, z5, rfl⟩
  | 6, _ => exact ⟨_, z6, rfl⟩
  | 7, _ => exact ⟨_, z7, rfl⟩
  | 8, _ => exact ⟨_, z8, rfl⟩
  | 9, _ => exact ⟨_, z9, rfl⟩
/-- The cells of a row of rules. -/
theorem rows_cells {w : World} {B g o n : Nat} {rs : List Rr} (h : RgIs w B (some ⟨g, o, none⟩) n rs) : ∃ xs : List Value, xs.length = n * 10 ∧ (∀ i u, xs[i]? = some u → w.cell? ⟨g, o + i, none⟩ = some u) ∧ ∀ u ∈ xs, u.oneCell' = true := by
  have hk : ∀ i, i < n * 10 → ∃ v, w.cell? ⟨g, o + i, none⟩ = some v ∧ v.oneCell' = true := fun i hi => by
    obtain ⟨g', o', e, _, hr⟩ := h.2.2 (i / 10) (by have := h.1; omega)
    simp only [Option.some.injEq, Addr.mk.injEq, and_true] at e
    obtain ⟨rfl, rfl⟩ := e
    have := hr.ok (i % 10) (by omega)
    rw [Nat.add_assoc, show i / 10 * 10 + i % 10 = i by omega] at this
    exact this
  refine ⟨(List.range (n * 10)).map fun i => (w.cell? ⟨g, o + i, none⟩).getD .nilIface, by simp, fun i u hu => ?_, fun u hu => ?_⟩
  · rw [List.getElem?_map] at hu
    rcases Nat.lt_or_ge i (n * 10) with hi | hi
    · rw [List.getElem?_range hi] at hu
      obtain ⟨v, hv, _⟩ := hk i hi
      have hu' : (w.cell? ⟨g, o + i, none⟩).getD .nilIface = u := Option.some.inj hu
      rw [hv] at hu' ⊢
      exact congrArg some hu'
    · rw [List.getElem?_eq_none (by simpa using hi)] at hu
      cases hu
  · obtain ⟨i, hi, rfl⟩ := List.mem_map.1 hu
    obtain ⟨v, hv, ho⟩ := hk i (List.mem_range.1 hi)
    rw [hv]
    exact ho
/-- One rule more, behind the others, in a row of one's own. -/
theorem rows_more {w w' : World} {B B' base g o n g6 cap6 : Nat} {rs : List Rr} {xs news : List Value} {x : Rr} (h : RgIs w B (some ⟨g, o, none⟩) n rs) (hl : xs.length = n * 10) (hx : ∀ i u, xs[i]? = some u → w.cell? ⟨g, o + i, none⟩ = some u) (hb : Below B w w') (hB : B ≤ B') (hn : n + 1 ≤ maxLen) (hg6 : g6 < B')
    (hown : w'.ownsRow base 60 10 (.slice (some ⟨g6, 0, none⟩) (n + 1) cap6) (n + 1) (xs ++ news)) (hR : ∀ o', (∀ q u, news[q]? = some u → w'.cell? ⟨g6, o' + q, none⟩ = some u) → Rk w' B' g6 o' x) : RgIs w' B' (some ⟨g6, 0, none⟩) (n + 1) (rs ++ [x]) := by
  have hc := hown.cells (g := g6) rfl
  have hc2 : ∀ j u, (xs ++ news)[j]? = some u → w'.cell? ⟨g6, 0 + j, none⟩ = some u := fun j u hj => by
    have := hc j u hj
    simp only [Addr.add] at this
    by_cases h0 : j = 0
    · subst h0; simpa using this
    · rw [if_neg h0] at this; exact this
  refine ⟨by rw [List.length_append, ← h.1]; rfl, hn, fun j hj => ⟨g6, 0, rfl, hg6, ?_⟩⟩
  by_cases hjn : j < rs.length
  · rw [List.getElem_append_left hjn]
    obtain ⟨g', o', e, _, hr⟩ := h.2.2 j hjn
    simp only [Option.some.injEq, Addr.mk.injEq, and_true] at e
    obtain ⟨rfl, rfl⟩ := e
    refine hr.move (fun q hq => ?_) hb hB
    have hlt : j * 10 + q < xs.length := by rw [hl, h.1]; omega
    have e1 := hx (j * 10 + q) _ (List.getElem?_eq_getElem hlt)
    have e2 := hc2 (j * 10 + q) xs[j * 10 + q] (by rw [List.getElem?_append_left hlt, List.getElem?_eq_getElem hlt])
    rw [Nat.add_assoc, Nat.add_assoc, e1, e2]
  · have ej : j = rs.length := by rw [List.length_append] at hj; simp at hj; omega
    subst ej
    rw [List.getElem_append_right (Nat.le_refl _)]
    simp only [Nat.sub_self, List.getElem_cons_zero]
    refine hR _ fun q u hq => ?_
    have e2 := hc2 (rs.length * 10 + q) u (by rw [List.getElem?_append_right (by rw [hl, h.1]; omega), hl, h.1, Nat.add_sub_cancel_left]; exact hq)
    rw [Nat.add_assoc]
    exact e2
end Go.Proofs.YtplffhmefnnieaaGreatDoor
