/-
  Rows of files in memory. Conditions: those that each theorem names.
-/
import Derived.Test.YtmddcdaodlnnhaaGreatDoorVDKU
namespace Go.Proofs.YtmddcdaodlnnhaaGreatDoor
open Go.RowKit Go.Maps
set_option linter.unusedVariables false
/-- A file in a row: its name, where its bytes lie, how many, their room; the bytes; how many are sure. -/
structure Gx where
  n : Nm
  o : Option Addr
  k : Nat
  c : Nat
  b : List UInt8
  s : Nat
instance : Nmd Gx := ⟨Gx.n⟩
theorem nm_gx (f : Gx) : nm f = f.n := rfl
def pg (f : Gx) : Pf := ⟨f.n, f.b, f.s⟩
theorem nm_pg (f : Gx) : nm (pg f) = nm f := rfl
@[reducible] def gsl (f : Gx) : Value := .slice f.o f.k f.c
def c3 (f : Gx) : List Value := [.string ⟨f.n.toArray⟩, .slice f.o f.k f.c, .int .i64 (f.s : Int)]
def cl (l : List Gx) : List Value := l.flatMap c3
theorem cl_app (a b : List Gx) : cl (a ++ b) = cl a ++ cl b := by simp [cl, List.flatMap_append]
theorem cl_snoc (l : List Gx) (s : Gx) : cl (l ++ [s]) = cl l ++ c3 s := by simp [cl, List.flatMap_append]
theorem cl_len : ∀ l : List Gx, (cl l).length = l.length * 3
  | [] => rfl
  | a :: r => by
    have ih := cl_len r
    show (c3 a ++ cl r).length = _
    rw [List.length_append, ih, List.length_cons]
    show 3 + _ = _
    omega
theorem cl_at : ∀ (l : List Gx) (i : Nat) (h : i < l.length) (j : Nat), j < 3 → (cl l)[i * 3 + j]? = (c3 l[i])[j]?
  | a :: r, 0, _, j, hj => by
    show (c3 a ++ cl r)[0 * 3 + j]? = _
    rw [List.getElem?_append_left (by show _ < 3; omega)]
    simp
  | a :: r, i + 1, h, j, hj => by
    show (c3 a ++ cl r)[(i + 1) * 3 + j]? = _
    rw [List.getElem?_append_right (by show 3 ≤ _; omega)]
    have ih := cl_at r i (by simpa using h) j hj
    rw [show (i + 1) * 3 + j - (c3 a).length = i * 3 + j by show _ - 3 = _; omega, ih]
    rfl
theorem cl_take : ∀ (l : List Gx) (k : Nat), cl (l.take k) = (cl l).take (k * 3)
  | [], k => by simp [cl]
  | a :: r, 0 => by simp [cl]
  | a :: r, k + 1 => by
    have ih := cl_take r k
    rw [show (k + 1) * 3 = k * 3 + 3 by omega]
    show Value.string _ :: .slice a.o a.k a.c :: .int .i64 _ :: cl (r.take k) = Value.string _ :: .slice a.o a.k a.c :: .int .i64 _ :: (cl r).take (k * 3)
    rw [ih]
theorem cl_drop : ∀ (l : List Gx) (k : Nat), cl (l.drop k) = (cl l).drop (k * 3)
  | [], k => by simp [cl]
  | a :: r, 0 => by simp [cl]
  | a :: r, k + 1 => by
    have ih := cl_drop r k
    rw [show (k + 1) * 3 = k * 3 + 3 by omega]
    exact ih
theorem cl_one {l : List Gx} : ∀ u ∈ cl l, u.oneCell' = true := by
  intro u hu
  obtain ⟨s, _, hs⟩ := List.mem_flatMap.1 hu
  simp only [c3, List.mem_cons, List.not_mem_nil, or_false] at hs
  rcases hs with rfl | rfl | rfl <;> rfl
theorem cl_set (s : Gx) : ∀ (l : List Gx) (k : Nat), k < l.length → cl (l.set k s) = (((cl l).set (k * 3) (.string ⟨s.n.toArray⟩)).set (k * 3 + 1) (.slice s.o s.k s.c)).set (k * 3 + 2) (.int .i64 (s.s : Int))
  | [], k, h => absurd h (by simp)
  | a :: r, 0, _ => rfl
  | a :: r, k + 1, h => by
    have ih := cl_set s r k (by simpa using h)
    rw [show (k + 1) * 3 = k * 3 + 3 by omega]
    show Value.string _ :: .slice a.o a.k a.c :: .int .i64 _ :: cl (r.set k s) = Value.string _ :: .slice a.o a.k a.c :: .int .i64 _ :: (((cl r).set (k * 3) (.string ⟨s.n.toArray⟩)).set (k * 3 + 1) (.slice s.o s.k s.c)).set (k * 3 + 2) (.int .i64 (s.s : Int))
    rw [ih]
/-- A row that is owned, its bytes too. -/
structure RowG (m : Nat) (w : World) (v : Value) (l : List Gx) : Prop where
  own : w.ownsRow m 40 3 v l.length (cl l)
  rep : ∀ g ∈ l, w.ownsRow m 5 1 (.slice g.o g.k g.c) g.k (g.b.map bv) ∧ g.s ≤ g.k
def OR (v : Value) (l : List Gx) : Nat → Prop := fun g => v.ownBlock = some g ∨ ∃ x ∈ l, (gsl x).ownBlock = some g
section
variable {m : Nat} {w w' : World} {v : Value} {l : List Gx}
theorem RowG.lt (h : RowG m w v l) (g : Nat) (hg : OR v l g) : m ≤ g ∧ g < w.heap.size := by
  rcases hg with hg | ⟨x, hx, hg⟩
  · obtain ⟨h1, h2, _⟩ := own_lt h.own g hg
    exact ⟨h1, h2⟩
  · obtain ⟨h1, h2, _⟩ := own_lt (h.rep x hx).1 g hg
    exact ⟨h1, h2⟩
theorem RowG.kx {L : Nat → Prop} (h : RowG m w v l) (hk : Kx L w w') (hL : ∀ g, OR v l g → ¬ L g) : RowG m w' v l :=
  ⟨own_kx h.own hk fun g e => hL g (.inl e), fun x hx => ⟨own_kx (h.rep x hx).1 hk fun g e => hL g (.inr ⟨x, hx, e⟩), (h.rep x hx).2⟩⟩
theorem RowG.below (h : RowG m w v l) (hb : Below w.heap.size w w') : RowG m w' v l := h.kx (L := fun _ => False) (.below hb) fun _ _ e => e
theorem own_mono {base base' e size n : Nat} {v : Value} {xs : List Value} (h : w.ownsRow base e size v n xs) (hb : base' ≤ base) : w.ownsRow base' e size v n xs := by
  obtain ⟨k1, k2 | ⟨g, cap, cur, k2, k3, k4⟩⟩ := h
  · exact ⟨k1, .inl k2⟩
  · exact ⟨k1, .inr ⟨g, cap, cur, k2, Nat.le_trans hb k3, k4⟩⟩
theorem RowG.mono {m' : Nat} (h : RowG m w v l) (hb : m' ≤ m) : RowG m' w v l := ⟨own_mono h.own hb, fun x hx => ⟨own_mono (h.rep x hx).1 hb, (h.rep x hx).2⟩⟩
theorem RowG.blen (h : RowG m w v l) {g : Gx} (hg : g ∈ l) : g.b.length = g.k := by have := (h.rep g hg).1.1; simpa using this
theorem RowG.has (h : RowG m w v l) {g : Gx} (hg : g ∈ l) : Has w g.o g.k g.c g.b := Has.of_owned (h.rep g hg).1
end
/-- What a row's cells say, wherever it lies. -/
structure RSrc (w : World) (so : Option Addr) (cp : Nat) (l : List Gx) : Prop where
  le : l.length ≤ cp
  max : cp ≤ maxLen
  nil : so = none → cp = 0
  form : so = none ∨ ∃ g, so = some ⟨g, 0, none⟩
  at' : ∀ g, so = some ⟨g, 0, none⟩ → g < w.heap.size ∧ ∀ j u, (cl l)[j]? = some u → w.cell? ⟨g, j, none⟩ = some u
theorem RSrc.below {w w' : World} {so : Option Addr} {cp : Nat} {l : List Gx} (h : RSrc w so cp l) (hb : Below w.heap.size w w') : RSrc w' so cp l :=
  ⟨h.le, h.max, h.nil, h.form, fun g e => by
    obtain ⟨h1, h2⟩ := h.at' g e
    exact ⟨Nat.lt_of_lt_of_le h1 hb.size, fun j u hj => (hb.cell (p := ⟨g, j, none⟩) h1).trans (h2 j u hj)⟩⟩
theorem RowG.src {w : World} {m : Nat} {v : Value} {l : List Gx} (h : RowG m w v l) : ∃ so cp, v = .slice so l.length cp ∧ RSrc w so cp l := by
  obtain ⟨hll, h1 | ⟨g, cap, cur, rfl, hm, hg, hn, hmx, hsz, htk⟩⟩ := h.own
  · obtain ⟨rfl, h0⟩ := h1
    exact ⟨none, 0, by rw [h0], by omega, Nat.zero_le _, fun _ => rfl, .inl rfl, fun g e => by cases e⟩
  · refine ⟨_, cap, rfl, hn, hmx, (fun e => by cases e), .inr ⟨g, rfl⟩, fun g' e => ?_⟩
    cases e
    refine ⟨node_lt hg, fun j u hj => ?_⟩
    rw [← htk] at hj
    have hj2 : j < l.length * 3 := by
      have := (List.getElem?_eq_some_iff.1 hj).1
      rw [List.length_take] at this
      omega
    rw [List.getElem?_take_of_lt hj2] at hj
    exact (cell_in hg j u (by simpa using hj)).1
/-- The cells of one of a row. -/
theorem RSrc.cell {w : World} {so : Option Addr} {cp : Nat} {l : List Gx} (h : RSrc w so cp l) (k : Nat) (hk : k < l.length) : ∃ g, so = some ⟨g, 0, none⟩ ∧ g < w.heap.size ∧ w.cell? ⟨g, k * 3, none⟩ = some (.string ⟨l[k].n.toArray⟩) ∧ w.cell? ⟨g, k * 3 + 1, none⟩ = some (.slice l[k].o l[k].k l[k].c) ∧ w.cell? ⟨g, k * 3 + 2, none⟩ = some (.int .i64 (l[k].s : Int)) := by
  rcases h.form with rfl | ⟨g, rfl⟩
  · have := h.nil rfl
    have := h.le
    omega
  · obtain ⟨h1, h2⟩ := h.at' g rfl
    exact ⟨g, rfl, h1, h2 _ _ (by have := cl_at l k hk 0 (by omega); rw [Nat.add_zero] at this; rw [this]; rfl), h2 _ _ (by rw [cl_at l k hk 1 (by omega)]; rfl), h2 _ _ (by rw [cl_at l k hk 2 (by omega)]; rfl)⟩
theorem RSrc.hi {w : World} {so : Option Addr} {cp k : Nat} {l : List Gx} (h : RSrc w so cp l) (hk : k ≤ l.length) : Src w so k (cl (l.take k)) := by
  rcases h.form with rfl | ⟨g, rfl⟩
  · have h1 := h.nil rfl
    have h2 := h.le
    exact .inl ⟨rfl, by omega⟩
  · refine .inr ⟨_, rfl, fun j u hj => ?_⟩
    rw [cl_take] at hj
    have hj2 : j < k * 3 := by
      have := (List.getElem?_eq_some_iff.1 hj).1
      rw [List.length_take] at this
      omega
    rw [List.getElem?_take_of_lt hj2] at hj
    rw [Addr.add_lit, Nat.zero_add]
    exact (h.at' g rfl).2 j u hj
theorem RSrc.lo {w : World} {so so' : Option Addr} {cp k : Nat} {l : List Gx} (h : RSrc w so cp l) (hk : k ≤ l.length) (h1 : so = none → so' = none) (h2 : ∀ g, so = some ⟨g, 0, none⟩ → k < l.length → so' = some ⟨g, k * 3, none⟩) : Src w so' (l.length - k) (cl (l.drop k)) := by
  rcases Nat.lt_or_eq_of_le hk with hlt | he
  · rcases h.form with rfl | ⟨g, rfl⟩
    · have h3 := h.nil rfl
      have h4 := h.le
      omega
    · rw [h2 g rfl hlt]
      refine .inr ⟨_, rfl, fun j u hj => ?_⟩
      rw [cl_drop, List.getElem?_drop] at hj
      rw [Addr.add_lit]
      exact (h.at' g rfl).2 _ u hj
  · subst he
    have : cl (l.drop l.length) = [] := by rw [List.drop_length]; rfl
    rw [this]
    cases so' with
    | none => exact .inl ⟨rfl, by omega⟩
    | some ad => exact .inr ⟨ad, rfl, fun j u hj => by simp at hj⟩
theorem app_row {W : World} {base : Nat} {v : Value} {ls ps : List Gx} {N M : Nat} (hown : W.ownsRow base 40 3 v N (cl ls)) (hN : N = ls.length) {so : Option Addr} (c : Nat) (hM : M = ps.length) (hs : Src W so M (cl ps)) (hc : so = none → c = 0) (hbase : base ≤ W.heap.size) (hlen : N + M ≤ 1099511627776) :
    ∃ v' W', (Builtin.append_ #[33, 33] 33 #[v, .slice so M c]).run Tryz.prog W = .ok v' W' ∧ W'.ownsRow base 40 3 v' (N + M) (cl (ls ++ ps)) ∧ W.grownBy W' v.ownBlock ∧ Below base W W' := by
  subst hN hM
  obtain ⟨iT, hiT, hzT0, hzT1, hzT2⟩ := info_parts Tryz.infoFile
  obtain ⟨v', W', hr, ho, hg, _⟩ := app_any Tryz.underlying33 hiT hzT0 hzT1 hzT2 rfl (by decide) hown c (cl_len ps) hs cl_one (by unfold maxLen; omega) (by omega) hbase 33 hc
  refine ⟨v', W', hr, ?_, hg, (Below.refl base W).grown hg hbase (fun k e => (hown.lt k e).1)⟩
  rw [cl_app]
  exact ho
theorem put_at {α : Type} [Nmd α] {l : List α} (hr : Rise l) {k : Nat} (hk : k < l.length) {s : α} (h : nm l[k] = nm s) : put l s = l.set k s := by
  unfold put
  refine List.ext_getElem (by simp) fun j h1 h2 => ?_
  have hj : j < l.length := by simpa using h1
  rw [List.getElem_map, List.getElem_set]
  by_cases e : k = j
  · subst e
    rw [if_pos h, if_pos rfl]
  · rw [if_neg e, if_neg]
    intro e2
    have := List.pairwise_iff_getElem.1 hr
    rcases Nat.lt_or_gt_of_ne e with hlt | hlt
    · exact before_ne (this k j hk hj hlt) (h.trans e2.symm)
    · exact before_ne (this j k hj hk hlt) (e2.trans h.symm)
theorem del_at {α : Type} [Nmd α] {l : List α} (hr : Rise l) {j : Nat} (hj : j < l.length) : del l (nm l[j]) = l.take j ++ l.drop (j + 1) := by
  have hp := List.pairwise_iff_getElem.1 hr
  have e : l = l.take j ++ l[j] :: l.drop (j + 1) := by
    rw [← List.drop_eq_getElem_cons hj, List.take_append_drop]
  have h1 : del (l.take j) (nm l[j]) = l.take j := by
    unfold del
    rw [List.filter_eq_self]
    intro t ht
    obtain ⟨a, ha, rfl⟩ := List.getElem_of_mem ht
    have ha2 : a < j := by rw [List.length_take] at ha; omega
    have := before_ne (hp a j (by omega) hj ha2)
    rw [List.getElem_take]
    simpa using this
  have h2 : del (l.drop (j + 1)) (nm l[j]) = l.drop (j + 1) := by
    unfold del
    rw [List.filter_eq_self]
    intro t ht
    obtain ⟨a, ha, rfl⟩ := List.getElem_of_mem ht
    have ha2 : j + 1 + a < l.length := by rw [List.length_drop] at ha; omega
    have := before_ne (hp j (j + 1 + a) hj ha2 (by omega))
    rw [List.getElem_drop]
    simpa using Ne.symm this
  have h3 : del l (nm l[j]) = del (l.take j ++ l[j] :: l.drop (j + 1)) (nm l[j]) := by rw [← e]
  rw [h3]
  unfold del at h1 h2 ⊢
  rw [List.filter_append, List.filter_cons, h1, h2]
  simp
theorem ins_at {α : Type} [Nmd α] {s : α} : ∀ {l : List α} {k : Nat}, k ≤ l.length → (∀ j (hj : j < l.length), j < k → bytesBefore (nm l[j]) (nm s) = true) → (∀ hk : k < l.length, ¬ bytesBefore (nm l[k]) (nm s) = true) → ins l s = l.take k ++ s :: l.drop k
  | [], k, h, _, _ => by
    have : k = 0 := by simpa using h
    subst this
    rfl
  | a :: r, 0, _, _, h2 => by
    have := h2 (by simp)
    unfold ins
    rw [if_neg (by simpa using this)]
    rfl
  | a :: r, k + 1, h, h1, h2 => by
    have h0 := h1 0 (by simp) (by omega)
    unfold ins
    rw [if_pos (by simpa using h0), ins_at (l := r) (k := k) (by simpa using h) (fun j hj hk => h1 (j + 1) (by simpa using hj) (by omega)) (fun hk => h2 (by simpa using hk))]
    rfl
theorem fnd_first {α : Type} [Nmd α] {l : List α} {x : Nm} {k : Nat} (hk : k < l.length) (h1 : ∀ j (hj : j < l.length), j < k → nm l[j] ≠ x) (h2 : nm l[k] = x) : fnd l x = some l[k] := by
  unfold fnd
  rw [List.find?_eq_some_iff_getElem]
  refine ⟨by simpa using h2, k, hk, rfl, fun j hj => ?_⟩
  simpa using h1 j (by omega) hj
theorem fnd_no {α : Type} [Nmd α] {l : List α} {x : Nm} (h : ∀ t ∈ l, nm t ≠ x) : fnd l x = none := by
  unfold fnd
  rw [List.find?_eq_none]
  intro t ht
  simpa using h t ht
end Go.Proofs.YtmddcdaodlnnhaaGreatDoor
