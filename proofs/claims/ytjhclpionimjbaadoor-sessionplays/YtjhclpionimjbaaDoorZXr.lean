/-
  Pieces of the document's row, appended to a new one. Conditions: those that each theorem names.
-/
import Derived.Test.YtjhclpionimjbaaDoorZXn
namespace Go.Proofs.YtjhclpionimjbaaDoor
open Go.RowKit Go.Maps
set_option linter.unusedVariables false
theorem cl_app (a b : List Sx) : cl (a ++ b) = cl a ++ cl b := by simp [cl, List.flatMap_append]
theorem cl_take : ∀ (l : List Sx) (k : Nat), cl (l.take k) = (cl l).take (k * 4)
  | [], k => by simp [cl]
  | a :: r, 0 => by simp [cl]
  | a :: r, k + 1 => by
    have ih := cl_take r k
    rw [show (k + 1) * 4 = k * 4 + 4 by omega]
    show Value.int .i64 a.i :: .int .i64 a.l :: .int .i64 a.u :: .slice a.o a.n a.c :: cl (r.take k) = Value.int .i64 a.i :: .int .i64 a.l :: .int .i64 a.u :: .slice a.o a.n a.c :: (cl r).take (k * 4)
    rw [ih]
theorem cl_drop : ∀ (l : List Sx) (k : Nat), cl (l.drop k) = (cl l).drop (k * 4)
  | [], k => by simp [cl]
  | a :: r, 0 => by simp [cl]
  | a :: r, k + 1 => by
    have ih := cl_drop r k
    rw [show (k + 1) * 4 = k * 4 + 4 by omega]
    exact ih
theorem cl_one {l : List Sx} : ∀ u ∈ cl l, u.oneCell' = true := by
  intro u hu
  obtain ⟨s, _, hs⟩ := List.mem_flatMap.1 hu
  simp only [c4, List.mem_cons, List.not_mem_nil, or_false] at hs
  rcases hs with rfl | rfl | rfl | rfl <;> rfl
/-- What a row's cells say, wherever it lies. -/
structure RSrc (w : World) (so : Option Addr) (cp : Nat) (l : List Sx) : Prop where
  le : l.length ≤ cp
  nil : so = none → cp = 0
  form : so = none ∨ ∃ g, so = some ⟨g, 0, none⟩
  at' : ∀ g, so = some ⟨g, 0, none⟩ → g < w.heap.size ∧ ∀ j u, (cl l)[j]? = some u → w.cell? ⟨g, j, none⟩ = some u
theorem RSrc.below {w w' : World} {so : Option Addr} {cp : Nat} {l : List Sx} (h : RSrc w so cp l) (hb : Below w.heap.size w w') : RSrc w' so cp l :=
  ⟨h.le, h.nil, h.form, fun g e => by
    obtain ⟨h1, h2⟩ := h.at' g e
    exact ⟨Nat.lt_of_lt_of_le h1 hb.size, fun j u hj => (hb.cell (p := ⟨g, j, none⟩) h1).trans (h2 j u hj)⟩⟩
theorem RowS.src {w : World} {m : Nat} {v : Value} {l : List Sx} (h : RowS w m v l) : ∃ so cp, v = .slice so l.length cp ∧ RSrc w so cp l := by
  obtain ⟨hll, h1 | ⟨g, cap, cur, rfl, hm, hg, hn, hmx, hsz, htk⟩⟩ := h.own
  · obtain ⟨rfl, h0⟩ := h1
    exact ⟨none, 0, by rw [h0], by omega, fun _ => rfl, .inl rfl, fun g e => by cases e⟩
  · refine ⟨_, cap, rfl, hn, (fun e => by cases e), .inr ⟨g, rfl⟩, fun g' e => ?_⟩
    cases e
    refine ⟨node_lt hg, fun j u hj => ?_⟩
    rw [← htk] at hj
    have hj2 : j < l.length * 4 := by
      have := (List.getElem?_eq_some_iff.1 hj).1
      rw [List.length_take] at this
      omega
    rw [List.getElem?_take_of_lt hj2] at hj
    exact (cell_in hg j u (by simpa using hj)).1
theorem RSrc.hi {w : World} {so : Option Addr} {cp k : Nat} {l : List Sx} (h : RSrc w so cp l) (hk : k ≤ l.length) : Src w so k (cl (l.take k)) := by
  rcases h.form with rfl | ⟨g, rfl⟩
  · have h1 := h.nil rfl
    have h2 := h.le
    exact .inl ⟨rfl, by omega⟩
  · refine .inr ⟨_, rfl, fun j u hj => ?_⟩
    rw [cl_take] at hj
    have hj2 : j < k * 4 := by
      have := (List.getElem?_eq_some_iff.1 hj).1
      rw [List.length_take] at this
      omega
    rw [List.getElem?_take_of_lt hj2] at hj
    rw [Addr.add_lit, Nat.zero_add]
    exact (h.at' g rfl).2 j u hj
theorem RSrc.lo {w : World} {so so' : Option Addr} {cp k : Nat} {l : List Sx} (h : RSrc w so cp l) (hk : k ≤ l.length) (h1 : so = none → so' = none) (h2 : ∀ g, so = some ⟨g, 0, none⟩ → k < l.length → so' = some ⟨g, k * 4, none⟩) : Src w so' (l.length - k) (cl (l.drop k)) := by
  rcases Nat.lt_or_eq_of_le hk with hlt | he
  · rcases h.form with rfl | ⟨g, rfl⟩
    · have h3 := h.nil rfl
      have h4 := h.le
      omega
    · rw [h2 g rfl hlt]
      refine .inr ⟨_, rfl, fun j u hj => ?_⟩
      rw [cl_drop, List.getElem?_drop] at hj
      rw [Addr.add_lit]
      exact (h.at' g rfl).2 _ u hj
  · subst he
    have : cl (l.drop l.length) = [] := by rw [List.drop_length]; rfl
    rw [this]
    cases so' with
    | none => exact .inl ⟨rfl, by omega⟩
    | some ad => exact .inr ⟨ad, rfl, fun j u hj => by simp at hj⟩
theorem app_row {W : World} {base : Nat} {v : Value} {ls ps : List Sx} {N M : Nat} (hown : W.ownsRow base 59 4 v N (cl ls)) (hN : N = ls.length) {so : Option Addr} (c : Nat) (hM : M = ps.length) (hs : Src W so M (cl ps)) (hc : so = none → c = 0) (hbase : base ≤ W.heap.size) (hlen : N + M ≤ 100) :
    ∃ v' W', (Builtin.append_ #[22, 22] 22 #[v, .slice so M c]).run Tryd.prog W = .ok v' W' ∧ W'.ownsRow base 59 4 v' (N + M) (cl (ls ++ ps)) ∧ W.grownBy W' v.ownBlock ∧ Below base W W' := by
  subst hN hM
  obtain ⟨iT, hiT, hzT0, hzT1, hzT2⟩ := info_parts Tryd.infoSess
  obtain ⟨v', W', hr, ho, hg, _⟩ := app_any Tryd.underlying22 hiT hzT0 hzT1 hzT2 rfl (by decide) hown c (cl_len ps) hs cl_one (by unfold maxLen; omega) (by omega) hbase 22 hc
  refine ⟨v', W', hr, ?_, hg, (Below.refl base W).grown hg hbase (fun k e => (hown.lt k e).1)⟩
  rw [cl_app]
  exact ho
/-- A new row put in the place of the old one. -/
theorem Xt.turn {w W : World} {m xb base : Nat} {v v' : Value} {l l' : List Sx} {ck : Int} (h : Xt w m xb v l ck) (hb : Below w.heap.size w W) (hbase : m ≤ base) (ho : W.ownsRow base 59 4 v' l'.length (cl l')) (hl : l'.length ≤ 8) (hs : ∀ s ∈ l', s ∈ l ∨ (inI s.i ∧ inI s.l ∧ inI s.u) ∧ s.n = 0 ∧ Has W s.o s.n s.c s.b ∧ Fr m W s.o s.c) :
    Xt (W.setCell ⟨xb, 0, none⟩ v') m xb v' l' ck ∧ Kx (fun g => g = xb) w (W.setCell ⟨xb, 0, none⟩ v') := by
  have hX := h.below hb
  have hk : Kx (fun x => x = xb) W (W.setCell ⟨xb, 0, none⟩ v') := Kx.set (P := fun x => x = xb) rfl _
  have hL : ∀ x, x < W.heap.size → x = xb → NoT W x := fun x _ e => by rw [e]; exact NoT.cells hX.blk (by decide)
  have hrow : RowS W m v' l' := by
    refine ⟨by
      obtain ⟨k1, e | ⟨g, cap, cur, rfl, h1, h2⟩⟩ := ho
      · exact ⟨k1, .inl e⟩
      · exact ⟨k1, .inr ⟨g, cap, cur, rfl, Nat.le_trans hbase h1, h2⟩⟩, fun s hs' => ?_⟩
    rcases hs s hs' with h1 | ⟨_, h2, h3, h4⟩
    · exact hX.row.has s h1
    · exact ⟨h3, h4, by omega⟩
  refine ⟨⟨by rw [set_in hX.blk 0 _]; rfl, hrow.kx hk hL (fun g e e2 => ?_), h.le, Nat.le_trans hX.ms hk.size, hl, fun s hs' => ?_, h.ckI⟩, (Kx.below hb).trans hk⟩
  · obtain ⟨cur, hg⟩ := row_blk hrow e
    rw [e2, hX.blk] at hg
    cases hg
  · rcases hs s hs' with h1 | ⟨h1, _⟩
    · exact h.idI s h1
    · exact h1
theorem del_at {l : List Sx} (hr : Rise l) {j : Nat} (hj : j < l.length) : del l l[j].i = l.take j ++ l.drop (j + 1) := by
  have hp := List.pairwise_iff_getElem.1 hr
  have e : l = l.take j ++ l[j] :: l.drop (j + 1) := by
    rw [← List.drop_eq_getElem_cons hj, List.take_append_drop]
  have h1 : del (l.take j) l[j].i = l.take j := by
    unfold del
    rw [List.filter_eq_self]
    intro t ht
    obtain ⟨a, ha, rfl⟩ := List.getElem_of_mem ht
    have ha2 : a < j := by rw [List.length_take] at ha; omega
    have := hp a j (by omega) hj ha2
    rw [List.getElem_take]
    simp; omega
  have h2 : del (l.drop (j + 1)) l[j].i = l.drop (j + 1) := by
    unfold del
    rw [List.filter_eq_self]
    intro t ht
    obtain ⟨a, ha, rfl⟩ := List.getElem_of_mem ht
    have ha2 : j + 1 + a < l.length := by rw [List.length_drop] at ha; omega
    have := hp j (j + 1 + a) hj ha2 (by omega)
    rw [List.getElem_drop]
    simp; omega
  have h3 : del l l[j].i = del (l.take j ++ l[j] :: l.drop (j + 1)) l[j].i := by rw [← e]
  rw [h3]
  unfold del at h1 h2 ⊢
  rw [List.filter_append, List.filter_cons, h1, h2]
  simp
theorem ins_at {s : Sx} : ∀ {l : List Sx} {k : Nat}, k ≤ l.length → (∀ j (hj : j < l.length), j < k → l[j].i < s.i) → (∀ hk : k < l.length, ¬ l[k].i < s.i) → ins l s = l.take k ++ s :: l.drop k
  | [], k, h, _, _ => by
    have : k = 0 := by simpa using h
    subst this
    rfl
  | a :: r, 0, _, _, h2 => by
    have := h2 (by simp)
    unfold ins
    rw [if_neg (by simpa using this)]
    rfl
  | a :: r, k + 1, h, h1, h2 => by
    have h0 := h1 0 (by simp) (by omega)
    unfold ins
    rw [if_pos (by simpa using h0), ins_at (l := r) (k := k) (by simpa using h) (fun j hj hk => h1 (j + 1) (by simpa using hj) (by omega)) (fun hk => h2 (by simpa using hk))]
    rfl
end Go.Proofs.YtjhclpionimjbaaDoor
