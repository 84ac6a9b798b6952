/-
  Rows of rules that were copied, in memory. Conditions: those that each theorem names.
  What an expression may come to, as plain functions; rounds over the rules rise, and end. Conditions: those that each theorem names.
  An error in memory that is kept; what a right grammar's rules have. Conditions: those that each theorem names.
  What scope.Prune answers. Conditions: those that each theorem names.
-/
import Derived.Test.YtggmoneicdkamaaGreatDoorVO23ToO26
import Derived.Maps.AppendAt
import Derived.Test.YtggmoneicdkamaaGreatDoorVS1ToO4
import Derived.Test.YtggmoneicdkamaaGreatDoorVS5ToO22
import Derived.Test.YtggmoneicdkamaaGreatDoorVW4ToS9
namespace Go.Proofs.YtggmoneicdkamaaGreatDoor
open Go.RowKit Go.Shelf
set_option linter.unusedVariables false
/-- These ten cells are that rule. -/
def RqR (w : World) (P : Nat → Prop) (x : Rr) (cs : List Value) : Prop := ∃ c, cs = .string x.1 :: (c ++ [.int .i64 x.2.2]) ∧ RqIs w P x.2.1 c
def RqRs (w : World) (P : Nat → Prop) : List Rr → List Value → Prop
  | [], _ => True
  | x :: r, vs => ∃ c rest, vs = c ++ rest ∧ RqR w P x c ∧ RqRs w P r rest
theorem RqR.len {w : World} {P : Nat → Prop} {x : Rr} {c : List Value} (h : RqR w P x c) : c.length = 10 := by
  obtain ⟨c1, rfl, h2⟩ := h
  have := h2.len
  simp
  omega
theorem RqRs.kept {w w' : World} {P Q : Nat → Prop} (hk : ∀ g cur, P g → w.heap[g]? = some (.cells cur 58) → w'.heap[g]? = w.heap[g]? ∧ Q g) : ∀ (l : List Rr) (vs : List Value), RqRs w P l vs → RqRs w' Q l vs
  | [], vs, h => by rw [RqRs]; trivial
  | n :: r, vs, h => by
    rw [RqRs] at h ⊢
    obtain ⟨c, rest, h1, ⟨c1, h2, h3⟩, h4⟩ := h
    exact ⟨c, rest, h1, ⟨c1, h2, RqIs.kept hk _ _ h3⟩, RqRs.kept hk r rest h4⟩
theorem RqRs.append {w : World} {P : Nat → Prop} : ∀ (l : List Rr) (vs : List Value) (n : Rr) (c : List Value), RqRs w P l vs → vs.length = l.length * 10 → RqR w P n c → RqRs w P (l ++ [n]) (vs ++ c)
  | [], vs, n, c, _, hl, hn => by
    have : vs = [] := List.eq_nil_of_length_eq_zero (by simpa using hl)
    subst this
    rw [List.nil_append, RqRs]
    exact ⟨c, [], by simp, hn, by rw [RqRs]; trivial⟩
  | m :: r, vs, n, c, h, hl, hn => by
    rw [RqRs] at h
    obtain ⟨d, rest, rfl, h2, h3⟩ := h
    have hd := h2.len
    rw [List.cons_append, RqRs]
    refine ⟨d, rest ++ c, by rw [List.append_assoc], h2, RqRs.append r rest n c h3 ?_ hn⟩
    simp at hl
    omega
mutual
theorem RqIs.is {w : World} {P : Nat → Prop} : ∀ (t : RT) (c : List Value), RqIs w P t c → RtIs w w.heap.size t c
  | .mk k T a b c d s p, cs, h => by
    rw [RqIs] at h
    rw [RtIs]
    obtain ⟨so, cap, h1, h2⟩ := h
    refine ⟨so, cap, h1, ?_⟩
    rcases h2 with h2 | ⟨h3, g, cur, h4, h5, h6, h7, h8⟩
    · exact .inl h2
    · exact .inr ⟨h3, g, 0, h4, node_lt h6, h7, RqsIs.is s cur.toList g 0 cur h6 (fun i u hu => by rw [Nat.zero_add]; simpa using hu) h8⟩
theorem RqsIs.is {w : World} {P : Nat → Prop} : ∀ (s : List RT) (vs : List Value) (g o : Nat) (cur : Array Value), w.heap[g]? = some (.cells cur 58) → (∀ i u, vs[i]? = some u → cur[o + i]? = some u) → RqsIs w P s vs → RtsIs w w.heap.size g o s
  | [], _, _, _, _, _, _, _ => by rw [RtsIs]; trivial
  | t :: r, vs, g, o, cur, hg, hv, h => by
    rw [RqsIs] at h
    rw [RtsIs]
    obtain ⟨c, rest, rfl, h2, h3⟩ := h
    have hc := h2.len
    refine ⟨⟨c, RqIs.is t c h2, fun j u hu => ?_⟩, RqsIs.is r rest g (o + 8) cur hg (fun i u hu => ?_) h3⟩
    · have hj : j < c.length := by
        rcases Nat.lt_or_ge j c.length with h | h
        · exact h
        · rw [List.getElem?_eq_none h] at hu; cases hu
      have := hv j u (by rw [List.getElem?_append_left hj]; exact hu)
      simp [World.cell?, hg, this]
    · have := hv (8 + i) u (by rw [List.getElem?_append_right (by omega), hc, Nat.add_sub_cancel_left]; exact hu)
      rw [Nat.add_assoc]
      exact this
end
theorem RqRs.get {w : World} {P : Nat → Prop} : ∀ (l : List Rr) (vs : List Value), RqRs w P l vs → ∀ (j : Nat) (hj : j < l.length), ∃ c, RqR w P l[j] c ∧ ∀ i u, c[i]? = some u → vs[j * 10 + i]? = some u
  | [], _, _, j, hj => by simp at hj
  | x :: r, vs, h, 0, _ => by
    rw [RqRs] at h
    obtain ⟨c, rest, rfl, h2, _⟩ := h
    refine ⟨c, h2, fun i u hu => ?_⟩
    have hi : i < c.length := by
      rcases Nat.lt_or_ge i c.length with h | h
      · exact h
      · rw [List.getElem?_eq_none h] at hu; cases hu
    rw [Nat.zero_mul, Nat.zero_add, List.getElem?_append_left hi]
    exact hu
  | x :: r, vs, h, j + 1, hj => by
    rw [RqRs] at h
    obtain ⟨c, rest, rfl, h2, h3⟩ := h
    obtain ⟨c', h4, h5⟩ := RqRs.get r rest h3 j (by simpa using hj)
    have hc := h2.len
    refine ⟨c', h4, fun i u hu => ?_⟩
    rw [List.getElem?_append_right (by omega), hc, show (j + 1) * 10 + i - 10 = j * 10 + i by omega]
    exact h5 i u hu
theorem RqRs.is {w : World} {base n : Nat} {P : Nat → Prop} {a : Value} {xs : List Value} {rs : List Rr} (ho : w.ownsRow base 60 10 a n xs) (hn : n = rs.length) (h : RqRs w P rs xs) : ∃ so cap, a = .slice so n cap ∧ RgIs w w.heap.size so n rs := by
  obtain ⟨hx, ⟨h1, h0⟩ | ⟨g, cap, cur, e1, hg1, hg2, hc1, hc2, hc3, ht⟩⟩ := ho
  · exact ⟨none, 0, by rw [h1, h0], hn, by rw [h0]; unfold maxLen; omega, fun j hj => by omega⟩
  · refine ⟨some ⟨g, 0, none⟩, cap, e1, hn, by omega, fun j hj => ⟨g, 0, rfl, node_lt hg2, ?_⟩⟩
    obtain ⟨c, ⟨c1, rfl, h2⟩, h3⟩ := RqRs.get rs xs h j hj
    have rt := h2.is
    obtain ⟨k, T, a, b, c, d, so, n1, cap1, p, rfl⟩ := rt.shape
    have hcell : ∀ i u, (Value.string rs[j].1 :: (r8 k T a b c d so n1 cap1 p ++ [.int .i64 rs[j].2.2]))[i]? = some u → w.cell? ⟨g, 0 + j * 10 + i, none⟩ = some u := fun i u hu => by
      have h4 := h3 i u hu
      rw [← ht] at h4
      have hlt : j * 10 + i < n * 10 := by
        rcases Nat.lt_or_ge (j * 10 + i) (n * 10) with h | h
        · exact h
        · rw [List.getElem?_eq_none (by rw [List.length_take]; omega)] at h4; cases h4
      rw [List.getElem?_take_of_lt hlt] at h4
      have h5 : cur[j * 10 + i]? = some u := by simpa using h4
      rw [Nat.zero_add]
      simp [World.cell?, hg2, h5]
    exact ⟨k, T, a, b, c, d, so, n1, cap1, p, rt, hcell 0 _ rfl, hcell 1 _ rfl, hcell 2 _ rfl, hcell 3 _ rfl, hcell 4 _ rfl, hcell 5 _ rfl, hcell 6 _ rfl, hcell 7 _ rfl, hcell 8 _ rfl, hcell 9 _ rfl⟩
theorem own_far {w : World} {base e size n i : Nat} {v : Value} {xs : List Value} {o : Obj} (h : w.ownsRow base e size v n xs) (ho : w.heap[i]? = some o) (hne : ∀ cur, o ≠ .cells cur e (0, 0)) : v.ownBlock ≠ some i := by
  obtain ⟨_, ⟨h1, _⟩ | ⟨g, cap, cur, rfl, _, hg, _⟩⟩ := h
  · subst h1; simp [Value.ownBlock]
  · intro e2
    simp [Value.ownBlock] at e2
    subst e2
    rw [hg] at ho
    cases ho
    exact hne cur rfl
theorem ten_okP (N : ByteArray) (a : Int) (T : ByteArray) (c0 c1 c2 c3 : Int) (so : Option Addr) (sl sc : Nat) (p q : Int) : ∀ u ∈ [Value.string N, Value.int .i64 a, .string T, .int .u64 c0, .int .u64 c1, .int .u64 c2, .int .u64 c3, .slice so sl sc, .int .i64 p, .int .i64 q], u.oneCell' = true := ten_ok N a T c0 c1 c2 c3 so sl sc p q
end Go.Proofs.YtggmoneicdkamaaGreatDoor
namespace Go.Proofs.YtggmoneicdkamaaGreatDoor
open Go.RowKit Go.Shelf
set_option linter.unusedVariables false
end Go.Proofs.YtggmoneicdkamaaGreatDoor
namespace Go.Proofs.YtggmoneicdkamaaGreatDoor
open Go.RowKit Go.Shelf
set_option linter.unusedVariables false
theorem errV.kept {X : Option (Int ⊕ (Int × Int))} {S R : Nat} {w w' : World} {v : Value} (h : errV X S w v) (hg : w.grownBy w' (some R)) (hR : R < S) : errV X S w' v := by
  unfold errV at h ⊢
  match X, h with
  | none, h => exact h
  | some (.inl c), h => exact h
  | some (.inr q), h =>
    obtain ⟨g, h1, h2, h3⟩ := h
    exact ⟨g, h1, h2, (hg.block g (node_lt h3) (fun e => by have := Option.some.inj e; omega)).trans h3⟩
theorem ok_trees {rs : List Rr} (h : okG rs = true) : ∀ x ∈ rs, nmS x.1 = true ∧ okT x.2.1 = true := fun x hx => by
  unfold okG at h
  rw [Bool.and_eq_true, Bool.and_eq_true] at h
  have := List.all_eq_true.1 h.2.2 x hx
  unfold okR at this
  rw [Bool.and_eq_true] at this
  exact this
end Go.Proofs.YtggmoneicdkamaaGreatDoor
namespace Go.Proofs.YtggmoneicdkamaaGreatDoor
open Go.RowKit Go.Shelf
set_option linter.unusedVariables false
theorem mkrules (k : Nat) (hk : k ≤ 1048576) (W : World) : (Instr.makeSlice 22 (.int .i64 0) (.int .i64 (k : Int))).run Tryz.prog W = .ok (.slice (some ⟨W.heap.size, 0, none⟩) 0 k) (W.alloc (.cells (madeCells #[.string { data := #[] }, .int .i64 0, .string { data := #[] }, .int .u64 0, .int .u64 0, .int .u64 0, .int .u64 0, .slice none 0 0, .int .i64 0, .int .i64 0] (k * 10)) 60)) := by
  obtain ⟨iT, hiT, hzT0, hzT1, hzT2⟩ := info_parts Tryz.infoRl
  rw [run_make W 22 60 iT _ Tryz.underlying22 hiT hzT0 .i64 .i64 0 k (by omega) (by omega) (by rw [hzT2]; omega) (by omega), hzT1]
  simp [Value.cells]
/-- What Prune's loop keeps: the first of the rules that stay. -/
structure PqR (w2 : World) (j : Nat) (ps : List Rr) (xs : List Value) (a : Value) (W : World) : Prop where
  be : Below w2.heap.size w2 W
  ow : W.ownsRow w2.heap.size 60 10 a j xs
  rq : RqRs W (fun g => w2.heap.size ≤ g) (ps.take j) xs
theorem PqR.step {w2 : World} {j : Nat} {ps : List Rr} {xs cs : List Value} {a a' : Value} {wr w3 W4 w6 : World} {x : Rr}
    (h : PqR w2 j ps xs a wr) (hj : j < ps.length) (hx : x = ps[j]) (hb : Below wr.heap.size wr w3) (hq : RqR w3 (fun g => wr.heap.size ≤ g) x cs)
    (h4 : Below w3.heap.size w3 W4) (hown : w6.ownsRow w2.heap.size 60 10 a' (j + 1) (xs ++ cs)) (hgr : W4.grownBy w6 a.ownBlock) : PqR w2 (j + 1) ps (xs ++ cs) a' w6 := by
  have hs2 := h.be.size
  have hs3 := hb.size
  have hs4 := h4.size
  have hbe := h.be.trans ((hb.trans (h4.mono hs3)).mono hs2)
  have key : ∀ g cur, g < w3.heap.size → w2.heap.size ≤ g → w3.heap[g]? = some (.cells cur 58) → w6.heap[g]? = w3.heap[g]? := fun g cur h1 h3 h5 => by
    refine (hgr.block g (by omega) (fun e => ?_)).trans (h4.block g h1)
    have hl := (h.ow.lt g e.symm).2
    have h6 : wr.heap[g]? = some (.cells cur 58) := (hb.block g hl).symm.trans h5
    exact own_far h.ow h6 (fun cur e => by cases e) e.symm
  refine ⟨hbe.grown hgr hbe.size (fun j ej => (h.ow.lt j ej).1), hown, ?_⟩
  rw [List.take_succ_eq_append_getElem hj, ← hx]
  refine RqRs.append _ _ _ _ (RqRs.kept (fun g cur hp hq => ?_) _ _ h.rq) (by rw [List.length_take, Nat.min_eq_left (by omega)]; exact h.ow.1) ?_
  · have hlt := node_lt hq
    exact ⟨(key g cur (by omega) hp ((hb.block g hlt).trans hq)).trans (hb.block g hlt), hp⟩
  · obtain ⟨c, h1, h2⟩ := hq
    exact ⟨c, h1, RqIs.kept (fun g cur hp hq => ⟨key g cur (node_lt hq) (by omega) hq, by omega⟩) _ _ h2⟩
theorem ocrule_any (nm : ByteArray) (k : Int) (T : ByteArray) (a b c d : Int) (so : Option Addr) (n cap : Nat) (p q : Int) (t : RT) (B : Nat) (w : World) (hS : nm.size ≤ 281474976710656) (hR : RtB t) (ht : RtIs w B t (r8 k T a b c d so n cap p)) (hB : B ≤ w.heap.size) :
    Calls Tryz.prog 40 #[.agg #[.string nm, .int .i64 k, .string T, .int .u64 a, .int .u64 b, .int .u64 c, .int .u64 d, .slice so n cap, .int .i64 p, .int .i64 q]] w (CrA (nm, t, q) w) := by
  refine ocrule_walk nm k T a b c d so n cap p q t w hS (hid fun W hW => ?_)
  have ht2 := ht.below (hW.mono hB)
  obtain ⟨k', T', a', b', c', d', s', p'⟩ := t
  rw [RtIs] at ht2
  obtain ⟨so', cap', e, hso⟩ := ht2
  simp only [r8, List.cons.injEq, Value.int.injEq, Value.string.injEq, Value.slice.injEq, true_and, and_true] at e
  obtain ⟨rfl, rfl, rfl, rfl, rfl, rfl, ⟨rfl, rfl, rfl⟩, rfl⟩ := e
  exact ocopied_all _ k T a b c d s' p so cap B W (Nat.lt_succ_self _) hR hso (Nat.le_trans hB hW.size)
/-- The rules at these places. -/
def prn (rs : List Rr) (L : List Int) : List Rr := L.filterMap fun x => rs[x.toNat]?
theorem prn_len {rs : List Rr} : ∀ {L : List Int}, (∀ x ∈ L, ∃ m : Nat, m < rs.length ∧ x = (m : Int)) → (prn rs L).length = L.length
  | [], _ => rfl
  | x :: r, h => by
    obtain ⟨m, hm, rfl⟩ := h x (by simp)
    have := prn_len (L := r) (fun y hy => h y (by simp [hy]))
    unfold prn at this ⊢
    simp [hm, this]
theorem prn_get {rs : List Rr} : ∀ {L : List Int} (h : ∀ x ∈ L, ∃ m : Nat, m < rs.length ∧ x = (m : Int)) (j : Nat) (hj : j < L.length) (hj' : j < (prn rs L).length), ∃ m : Nat, ∃ hm : m < rs.length, L[j] = (m : Int) ∧ (prn rs L)[j] = rs[m]
  | x :: r, h, 0, _, hj' => by
    obtain ⟨m, hm, rfl⟩ := h x (by simp)
    refine ⟨m, hm, rfl, ?_⟩
    unfold prn
    simp [hm]
  | x :: r, h, j + 1, hj, hj' => by
    obtain ⟨m, hm, rfl⟩ := h x (by simp)
    have e : prn rs ((m : Int) :: r) = rs[m] :: prn rs r := by unfold prn; simp [hm]
    obtain ⟨k, hk, h1, h2⟩ := prn_get (L := r) (fun y hy => h y (by simp [hy])) j (by simpa using hj) (by rw [e] at hj'; simpa using hj')
    refine ⟨k, hk, by simpa using h1, ?_⟩
    simp only [e, List.getElem_cons_succ]
    exact h2
set_option maxRecDepth 100000 in
set_option maxHeartbeats 8000000 in
theorem prune_err (so : Option Addr) (n cap : Nat) (X : Option (Int ⊕ (Int × Int))) (w : World)
    (HC : Hid (∀ W : World, Below w.heap.size w W → Calls Tryz.prog 13 #[.agg #[.slice so n cap], .int .i64 0] W fun e w' => ∃ tt uu, e = .returned (.tuple #[.slice none 0 0, .iface tt uu]) ∧ errV X W.heap.size w' (.iface tt uu) ∧ Below W.heap.size W w')) :
    Calls Tryz.prog 23 #[.agg #[.slice so n cap]] w fun e w' => ∃ v, e = .returned (.tuple #[.agg #[.slice none 0 0], v]) ∧ errV X w.heap.size w' v ∧ Below w.heap.size w w' := by
  obtain ⟨W1, hW1⟩ : ∃ W1, W1 = (w.alloc (.cells #[.slice so n cap] 24)).alloc (.cells #[.slice none 0 0] 24) := ⟨_, rfl⟩
  have hB1 : Below w.heap.size w W1 := by rw [hW1]; exact ((Below.refl _ w).alloc (Nat.le_refl _) _).alloc (by simp) _
  have HR1 : Hid (W1.heap[w.heap.size + 1]? = some (.cells #[.slice none 0 0] 24)) := by rw [hW1]; exact new_block_at _ _ (by simp)
  have HS := hid (HC.out W1 hB1)
  have HB1 := hid hB1
  have hs1 := node_lt HR1.out
  have HW1 := hid hW1
  clear hW1 hB1 HC
  go_enter Tryz.func23, Tryz.ntmps23
  go_wp2_with fail
  rw [← HW1.out]
  refine HS.out.mono ?_
  rintro e w2 ⟨tt, uu, rfl, hv, hb2⟩
  have hr2 := (hb2.block _ (node_lt HR1.out)).trans HR1.out
  obtain ⟨u0, f0⟩ := one_cell hr2
  have lr := node_lt hr2
  have HR2 := hid hr2
  have HV := hid hv
  have HB2 := hid (HB1.out.trans (hb2.mono HB1.out.size))
  have HSz := hid HB1.out.size
  clear hv hb2 hr2 HS HW1 HR1 HB1
  go_wp2_with fail
  have r0 := (one_cell (set_in HR2.out 0 (.slice none 0 0))).1
  refine bodyPost_ret (v := .tuple #[.agg #[.slice none 0 0], .iface tt uu]) (by simp [results, Tryz.results23, go_sem, r0]) rfl ?_
  exact ⟨_, rfl, (HV.out.kept (grownBy_setCell' _ _ _) hs1).lo HSz.out, HB2.out.setCell (p := ⟨w.heap.size + 1, 0, none⟩) (by show w.heap.size ≤ _ + 1; omega) _⟩
set_option maxRecDepth 100000 in
set_option maxHeartbeats 8000000 in
theorem prune_ok (so : Option Addr) (n cap : Nat) (rs : List Rr) (L : List Int) (w : World) (h : RgIs w w.heap.size so n rs) (HL : Hid (∀ x ∈ L, ∃ m : Nat, m < rs.length ∧ x = (m : Int))) (hLl : L.length ≤ 1048576) (HZ : Hid (∀ x ∈ rs, x.1.size ≤ 281474976710656 ∧ RtB x.2.1))
    (HC : Hid (∀ W : World, Below w.heap.size w W → Calls Tryz.prog 13 #[.agg #[.slice so n cap], .int .i64 0] W fun e w' => ∃ v, e = .returned (.tuple #[v, .nilIface]) ∧ w'.ownsRow W.heap.size 3 1 v L.length (L.map (Value.int .i64)) ∧ Below W.heap.size W w')) :
    Calls Tryz.prog 23 #[.agg #[.slice so n cap]] w fun e w' => ∃ so' cap', e = .returned (.tuple #[.agg #[.slice so' L.length cap'], .nilIface]) ∧ Hid (RgIs w' w'.heap.size so' L.length (prn rs L)) ∧ Hid (Below w.heap.size w w') := by
  obtain ⟨iT, hiT, hzT0, hzT1, hzT2⟩ := info_parts Tryz.infoRl
  obtain ⟨W1, hW1⟩ : ∃ W1, W1 = (w.alloc (.cells #[.slice so n cap] 24)).alloc (.cells #[.slice none 0 0] 24) := ⟨_, rfl⟩
  have hB1 : Below w.heap.size w W1 := by rw [hW1]; exact ((Below.refl _ w).alloc (Nat.le_refl _) _).alloc (by simp) _
  have HR1 : Hid (W1.heap[w.heap.size + 1]? = some (.cells #[.slice none 0 0] 24)) := by rw [hW1]; exact new_block_at _ _ (by simp)
  have HG1 : Hid (W1.heap[w.heap.size]? = some (.cells #[.slice so n cap] 24)) := by rw [hW1]; exact (Below.heap_alloc _ _ _ (by simp)).trans (new_block_at w _ rfl)
  have HS := hid (HC.out W1 hB1)
  have HB1 := hid hB1
  have HW1 := hid hW1
  obtain ⟨k, hk⟩ : ∃ k, k = L.length := ⟨_, rfl⟩
  have HPl : Hid ((prn rs L).length = k) := (prn_len HL.out).trans hk.symm
  rw [← hk] at HS hLl ⊢
  have HK : Hid (k = L.length) := hk
  have hmk := mkrules k hLl
  have HG := hid h
  clear hW1 hB1 HC hk h
  go_enter Tryz.func23, Tryz.ntmps23
  go_wp2_with fail
  rw [← HW1.out]
  refine HS.out.mono ?_
  rintro e w2 ⟨v, rfl, hrow, hb2⟩
  obtain ⟨sv, scv, rfl⟩ := own_any_shape hrow
  have HB2 := hid (HB1.out.trans (hb2.mono HB1.out.size))
  have HR2 := hid ((hb2.block _ (node_lt HR1.out)).trans HR1.out)
  have HG2 := hid ((hb2.block _ (node_lt HG1.out)).trans HG1.out)
  have HRow := hid (row_M (u := L) (by rw [← HK.out]; exact hrow) (by rw [← HK.out]; exact hLl))
  clear HS HW1 HR1 HG1 HB1 hb2 hrow
  obtain ⟨W3, hW3⟩ : ∃ W3, W3 = w2.alloc (.cells (madeCells #[.string { data := #[] }, .int .i64 0, .string { data := #[] }, .int .u64 0, .int .u64 0, .int .u64 0, .int .u64 0, .slice none 0 0, .int .i64 0, .int .i64 0] (k * 10)) 60) := ⟨_, rfl⟩
  have HC0 : Hid (PqR w2 0 (prn rs L) [] (.slice (some ⟨w2.heap.size, 0, none⟩) 0 k) W3) := by
    rw [hW3]
    exact ⟨(Below.refl _ _).alloc (Nat.le_refl _) _, World.ownsRow_made w2 _ k (Nat.le_refl _) (by unfold maxLen; omega) (size_madeCells _ _), by rw [List.take_zero, RqRs]; trivial⟩
  go_wp2_with fail
  rw [← hW3]
  clear hW3 hmk
  go_loopw [6, 23] (fun a i wr => ∃ (j : Nat) (xs : List Value), i = .int .i64 (j : Int) ∧ j ≤ k ∧ Hid (PqR w2 j (prn rs L) xs a wr)) (fun a i _ => k - (intOf i).toNat)
  case atStart => exact ⟨0, [], rfl, Nat.zero_le _, HC0⟩
  case round =>
    obtain ⟨j, xs, rfl, hj, HP⟩ := hrel
    clear HC0
    have HBw := hid (HB2.out.trans (HP.out.be.mono HB2.out.size))
    obtain ⟨sa, sca, rfl⟩ := own_any_shape HP.out.ow
    by_cases hjn : j < k
    · have hjI : (j : Int) < (k : Int) := by omega
      have a0 : decide ((j : Int) < (k : Int)) = true := by simp; omega
      have hjL : j < L.length := by rw [← HK.out]; exact hjn
      have hjp : j < (prn rs L).length := by rw [HPl.out]; exact hjn
      obtain ⟨m, hm, eL, ep⟩ := prn_get HL.out j hjL hjp
      obtain ⟨so0, cap0, e0, _, hc0⟩ := HRow.out
      simp only [Value.slice.injEq] at e0
      obtain ⟨rfl, -, rfl⟩ := e0
      obtain ⟨gv, ov', rfl, hgv, cv⟩ := hc0 j hjL
      rw [eL] at cv
      have cv2 := (HP.out.be.cell (p := ⟨gv, ov' + j, none⟩) hgv).trans cv
      have lgv : gv < wr.heap.size := World.block_lt_of_cell? wr _ cv2
      obtain ⟨gg, _⟩ := one_cell ((HP.out.be.block _ (node_lt HG2.out)).trans HG2.out)
      have lgg := node_lt ((HP.out.be.block _ (node_lt HG2.out)).trans HG2.out)
      obtain ⟨g, o, rfl, hg, k1, T1, a1, b1, c1, d1, so1, n1, cap1, p1, rt, r0⟩ := (HG.out.below HBw.out).2.2 m hm
      obtain ⟨z0, z1, z2, z3, z4, z5, z6, z7, z8, z9⟩ := r0
      have hgl : g < wr.heap.size := World.block_lt_of_cell? wr _ z0
      have hmn : m < n := by rw [HG.out.1]; exact hm
      have hmI : (m : Int) < (n : Int) := by omega
      have hn63 : n ≤ 9223372036854775807 := by have := HG.out.2.1; unfold maxLen at this; omega
      obtain ⟨N0, hN0⟩ : ∃ N0, N0 = rs[m].1 := ⟨_, rfl⟩
      obtain ⟨q1, hq1⟩ : ∃ q1, q1 = rs[m].2.2 := ⟨_, rfl⟩
      obtain ⟨t1, ht1⟩ : ∃ t1, t1 = rs[m].2.1 := ⟨_, rfl⟩
      have HXx : Hid ((N0, t1, q1) = (prn rs L)[j]) := by show _ = _; rw [ep, hN0, hq1, ht1]
      have hzz := HZ.out _ (List.getElem_mem hm)
      rw [← ht1] at rt hzz
      rw [← hN0] at z0 hzz
      rw [← hq1] at z9
      have HCr := hid (ocrule_any N0 k1 T1 a1 b1 c1 d1 so1 n1 cap1 p1 q1 t1 w.heap.size wr hzz.1 hzz.2 rt (by have := HBw.out.size; omega))
      clear hN0 hq1 ht1 ep eL rt hzz cv
      have HO := hid HP.out.ow
      have hbw2 := HP.out.be.size
      go_wp2_with (first
        | (go_at_call 40; refine HCr.out.mono ?_; clear HCr; rintro e w3 ⟨k3, T3, a3, b3, c3, d3, so3, n3, cap3, p3, rfl, HQ3, HB3⟩; have HO3 := hid (own_keep HO.out HB3.out); have hs3 := HB3.out.size)
        | (at_builtin; refine wpList_append_own_at _ rfl (.tmp 27) (.tmp 34) 22 rfl w2.heap.size 60 iT (.agg #[.string { data := #[] }, .int .i64 0, .string { data := #[] }, .int .u64 0, .int .u64 0, .int .u64 0, .int .u64 0, .slice none 0 0, .int .i64 0, .int .i64 0]) 10 112 Tryz.underlying22 hiT hzT0 hzT1 hzT2 rfl (by decide) _ _ _ rfl (HO3.out.alloc _) ⟨w3.heap.size, 0, none⟩ 1 1 [.string N0, .int .i64 k3, .string T3, .int .u64 a3, .int .u64 b3, .int .u64 c3, .int .u64 d3, .slice so3 n3 cap3, .int .i64 p3, .int .i64 q1] rfl rfl (ten_new w3 (.string N0) (.int .i64 k3) (.string T3) (.int .u64 a3) (.int .u64 b3) (.int .u64 c3) (.int .u64 d3) (.slice so3 n3 cap3) (.int .i64 p3) (.int .i64 q1) 60) (ten_okP _ _ _ _ _ _ _ _ _ _ _ _) (by unfold maxLen; omega) (by omega) (by simp; omega) ?_; intro v6 w6 hown6 hgr6 hnil6 hat6; obtain ⟨sa7, sc7, rfl⟩ := own_any_shape hown6))
      have hst := PqR.step HP.out hjp HXx.out HB3.out ⟨r8 k3 T3 a3 b3 c3 d3 so3 n3 cap3 p3, rfl, HQ3.out⟩ ((Below.refl _ w3).alloc (Nat.le_refl _) _) hown6 hgr6
      go_roundw
      case rel => exact ⟨j + 1, _, by go_num, by omega, hid hst⟩
      case measure => simp [intOf]; omega
    · have a0 : decide ((j : Int) < (k : Int)) = false := by simp; omega
      obtain rfl : j = k := by omega
      have hq := HP.out.rq
      rw [List.take_of_length_le (by rw [HPl.out]; exact Nat.le_refl _)] at hq
      obtain ⟨so', cap', ea, hrg⟩ := RqRs.is HP.out.ow HPl.out.symm hq
      simp only [Value.slice.injEq] at ea
      obtain ⟨rfl, -, rfl⟩ := ea
      have hR3 := (HP.out.be.block _ (node_lt HR2.out)).trans HR2.out
      obtain ⟨u0, f0⟩ := one_cell hR3
      have lr := node_lt hR3
      have HR3 := hid hR3
      have hset : wr.grownBy (wr.setCell ⟨w.heap.size + 1, 0, none⟩ (.slice sa j sca)) (some (w.heap.size + 1)) := grownBy_setCell' _ _ _
      have HFin : Hid (RgIs (wr.setCell ⟨w.heap.size + 1, 0, none⟩ (.slice sa j sca)) (wr.setCell ⟨w.heap.size + 1, 0, none⟩ (.slice sa j sca)).heap.size sa j (prn rs L)) := by
        have ho' := HP.out.ow.kept hset (.inr (fun e => by have := (HP.out.ow.lt _ e).1; have := node_lt HR2.out; omega))
        have hq' : RqRs (wr.setCell ⟨w.heap.size + 1, 0, none⟩ (.slice sa j sca)) (fun g => w2.heap.size ≤ g) (prn rs L) xs := RqRs.kept (fun g cur hp _ => ⟨Below.heap_setCell _ _ _ _ (fun e => by have e2 : g = w.heap.size + 1 := e; have := node_lt HR2.out; omega), hp⟩) _ _ hq
        obtain ⟨so', cap', ea, hrg⟩ := RqRs.is ho' HPl.out.symm hq'
        simp only [Value.slice.injEq] at ea
        obtain ⟨rfl, -, rfl⟩ := ea
        exact hrg
      have HBf : Hid (Below w.heap.size w (wr.setCell ⟨w.heap.size + 1, 0, none⟩ (.slice sa j sca))) := HBw.out.setCell (p := ⟨w.heap.size + 1, 0, none⟩) (by show w.heap.size ≤ _ + 1; omega) _
      clear hq hrg hset hR3
      go_wp2_with fail
      have r0 := (one_cell (set_in HR3.out 0 (.slice sa j sca))).1
      refine bodyPost_ret (v := .tuple #[.agg #[.slice sa j sca], .nilIface]) (by simp [results, Tryz.results23, go_sem, r0]) rfl ?_
      exact ⟨sa, sca, rfl, HFin, HBf⟩
end Go.Proofs.YtggmoneicdkamaaGreatDoor
