/-
  A right grammar has no more Refs than its text has bytes; what printer.Right answers at any grammar. Conditions: those that each theorem names.
  What scope.Check, scope.Uses and scope.Reach answer at any grammar. Conditions: those that each theorem names.
  What scope.Check, scope.Uses and scope.Reach answer at any grammar. Conditions: those that each theorem names.
  What scope.Reach answers at any grammar. Conditions: those that each theorem names.
-/
import Derived.Test.YtggmoneicdkamaaGreatDoorVO11ToS3
import Derived.Test.YtggmoneicdkamaaGreatDoorVW4ToS9
namespace Go.Proofs.YtggmoneicdkamaaGreatDoor
open Go.RowKit Go.Shelf
set_option linter.unusedVariables false
theorem nmq_pos {M : ByteArray} (h : nmS M = true) : 1 ≤ M.size := by
  rcases Nat.lt_or_ge 0 M.size with h1 | h1
  · exact h1
  · have e : M = { data := #[] } := by
      apply ByteArray.ext
      apply Array.ext'
      exact List.eq_nil_of_length_eq_zero (by have : M.data.size = M.size := rfl; rw [Array.length_toList]; omega)
    subst e
    revert h
    decide +kernel
theorem sz_pP (over : Nat) (n : Nd) : sz (pN qT cT n) ≤ sz (pP qT cT over n) := by
  unfold pP
  split
  · rw [sz, sz_app]; omega
  · exact Nat.le_refl _
mutual
theorem rf_le : ∀ (t : RT) (n : Nd), Tq t n → Vk n → Wf Nmq n → (rfT t).length ≤ sz (pN qT cT n)
  | .mk k T a b c d s p, .mk kd T' C s' p', hq, hv, hw => by
    rw [Tq] at hq
    obtain ⟨hk, hT, _, _, _, _, hs⟩ := hq
    rw [Wf] at hw
    rw [Vk] at hv
    rw [rfT]
    by_cases h5 : kd = 5
    · rw [if_pos (by omega)]
      have h1 : 1 ≤ T'.size := nmq_pos (hw.2.1 h5)
      rw [h5, pN]
      simp [sz]
      exact h1
    · rw [if_neg (by omega)]
      have hB : ∀ over sep, (rfL s).length ≤ sz (pS qT cT over sep s') := fun over sep => by
        cases s with
        | nil => rw [rfL]; exact Nat.zero_le _
        | cons t r =>
          cases s' with
          | nil => simp [TqL] at hs
          | cons n q =>
            rw [TqL] at hs
            have hvl := hv.2
            rw [VkL] at hvl
            have hwl := hw.2.2.2
            rw [WfL] at hwl
            have i1 := rf_le t n hs.1 hvl.1 hwl.1
            have i2 := rfB_le r q over sep hs.2 hvl.2 hwl.2
            have i3 := sz_pP over n
            rw [rfL, List.length_append, pS_cons, sz_app]
            omega
      have h0 : kd ≤ 4 → (rfL s).length = 0 := fun h => by
        have e : s' = [] := by
          rcases hv.1 with h1 | h1 | h1 | h1 | h1 | h1 | h1
          · exact h1.2.2.2
          · exact h1.2.2
          · exact h1.2.2
          · exact h1.2.2.2
          · omega
          · omega
          · omega
        have := hB 0 bE
        rw [e, pS, sz] at this
        omega
      rw [pN]
      repeat' split
      all_goals first
        | (rw [h0 (by omega)]; exact Nat.zero_le _)
        | exact hB _ _
        | (rw [sz]; exact Nat.le_trans (hB _ _) (Nat.le_add_left _ _))
        | (rw [sz_app]; exact Nat.le_trans (hB _ _) (Nat.le_add_right _ _))
        | omega
theorem rfB_le : ∀ (s : List RT) (q : List Nd) (over : Nat) (sep : ByteArray), TqL s q → VkL q → WfL Nmq q → (rfL s).length ≤ sz (pB qT cT over sep q)
  | [], _, _, _, _, _, _ => by rw [rfL]; exact Nat.zero_le _
  | t :: r, [], _, _, h, _, _ => by simp [TqL] at h
  | t :: r, n :: q, over, sep, h, hv, hw => by
    rw [TqL] at h
    rw [VkL] at hv
    rw [WfL] at hw
    have i1 := rf_le t n h.1 hv.1 hw.1
    have i2 := rfB_le r q over sep h.2 hv.2 hw.2
    have i3 := sz_pP over n
    rw [rfL, List.length_append, pB_cons, sz, sz_app]
    omega
end
theorem rf_mem : ∀ {rs : List Rr} {ns : List Rl}, TqR rs ns → (∀ x ∈ ns, Ruk Nmq x) → ∀ x ∈ rs, (rfT x.2.1).length ≤ sz (pR qT cT ns)
  | [], _, _, _, x, hx => by simp at hx
  | a :: r, [], h, _, _, _ => by simp [TqR] at h
  | a :: r, b :: q, h, hk, x, hx => by
    rw [TqR] at h
    rw [pR, sz, sz, sz_app, sz]
    rcases List.mem_cons.1 hx with rfl | hx
    · have hb := hk b (by simp)
      have := rf_le _ _ h.2.1 hb.2.1 hb.2.2
      omega
    · have := rf_mem h.2.2 (fun y hy => hk y (List.mem_cons_of_mem _ hy)) x hx
      omega
set_option maxRecDepth 100000 in
set_option maxHeartbeats 8000000 in
theorem oright_of (so : Option Addr) (n cap : Nat) (A E : Value) (w : World)
    (HP : Hid (∀ W : World, Below w.heap.size w W → Calls Tryz.prog 64 #[.agg #[.slice so n cap]] W fun e w' => e = .returned (.tuple #[A, E]) ∧ Below W.heap.size W w')) :
    Calls Tryz.prog 44 #[.agg #[.slice so n cap]] w fun e w' => e = .returned E ∧ Below w.heap.size w w' := by
  have HB1 : Hid (Below w.heap.size w (w.alloc (.cells #[.slice so n cap] 24))) := (Below.refl _ w).alloc (Nat.le_refl _) _
  go_enter Tryz.func44, Tryz.ntmps44
  go_wp2_with (first | (go_at_call 64; refine (HP.out _ HB1.out).mono ?_; rintro e wq ⟨rfl, hbq⟩; have HBq : Hid (Below w.heap.size w wq) := HB1.out.trans (hbq.mono HB1.out.size)))
  go_ret
  exact ⟨rfl, HBq.out⟩
/-- What printer.Right answers: an Errno, or nil at a grammar that is right. -/
def RtA (rs : List Rr) (E : Value) : Prop := (∃ c : Int, (c = 2 ∨ c = 20) ∧ E = .iface 36 (.int .i64 c)) ∨ (E = .nilIface ∧ okG rs = true ∧ ∀ x ∈ rs, (rfT x.2.1).length ≤ 8192)
end Go.Proofs.YtggmoneicdkamaaGreatDoor
namespace Go.Proofs.YtggmoneicdkamaaGreatDoor
open Go.RowKit Go.Shelf Go.Maps
set_option linter.unusedVariables false
attribute [local go_sem] Oper.semAt_some
set_option maxRecDepth 100000 in
set_option maxHeartbeats 8000000 in
theorem checked_err (so : Option Addr) (n cap : Nat) (c : Int) (w : World)
    (HP : Hid (∀ W : World, Below w.heap.size w W → Calls Tryz.prog 44 #[.agg #[.slice so n cap]] W fun e w' => e = .returned (.iface 36 (.int .i64 c)) ∧ Below W.heap.size W w')) (m : Nat) :
    CallsIn Fence.wide (m + 5) Tryz.prog 29 #[.agg #[.slice so n cap]] w fun e w' => e = .returned (.tuple #[.map none, .iface 36 (.int .i64 c)]) ∧ Below w.heap.size w w' := by
  obtain ⟨W0, hW0⟩ : ∃ W0, W0 = ((w.alloc (.cells #[.slice so n cap] 24)).alloc (.cells #[.map none] 65)).alloc (.cells #[.nilIface] 28) := ⟨_, rfl⟩
  have hB0 : Below w.heap.size w W0 := by rw [hW0]; exact (((Below.refl _ w).alloc (Nat.le_refl _) _).alloc (by simp) _).alloc (by simp; omega) _
  have c2 : W0.heap[w.heap.size + 1]? = some (.cells #[.map none] 65) := by
    rw [hW0]
    exact (Below.heap_alloc _ _ _ (by simp)).trans (new_block_at _ _ (by simp))
  have c3 : W0.heap[w.heap.size + 1 + 1]? = some (.cells #[.nilIface] 28) := by
    rw [hW0]
    exact new_block_at _ _ (by simp)
  have hs0 : W0.heap.size = w.heap.size + 1 + 1 + 1 := by rw [hW0]; simp
  have HP0 := hid (HP.out W0 hB0)
  refine callsIn_of_wp_marks Tryz.func29 rfl trivial ?_ rfl
  simp only [Tryz.ntmps29, List.size_toArray, List.length_cons, List.length_nil, Nat.reduceAdd, Nat.reduceSub, Array.replicate_succ, Array.replicate_zero, List.push_toArray, List.append_toArray, List.nil_append, List.cons_append]
  gi_wp2
  rw [← hW0]
  clear hW0
  refine ⟨trivial, ?_⟩
  refine (callsIn_wide.2 HP0.out).mono ?_
  rintro e W1 ⟨rfl, hb1⟩
  have d2 := (hb1.block _ (by omega)).trans c2
  have d3 := (hb1.block _ (by omega)).trans c3
  have hs1 := hb1.size
  have HBw : Hid (Below w.heap.size w W1) := hB0.trans (hb1.mono hB0.size)
  obtain ⟨x2, e2⟩ := one_cell d2
  obtain ⟨x3, e3⟩ := one_cell d3
  have l2 := node_lt d2
  have l3 := node_lt d3
  clear HP0 HP c2 c3
  gi_wp2
  have b2 : Boxed W1 (w.heap.size + 1) 65 (.map none) := d2
  have b3 : Boxed W1 (w.heap.size + 1 + 1) 28 .nilIface := d3
  have y1 := ((b2.set (.map none)).other (B' := w.heap.size + 1 + 1) (by omega) (.iface 36 (.int .i64 c))).cell
  have y2 := ((b3.other (B' := w.heap.size + 1) (by omega) (.map none)).set (.iface 36 (.int .i64 c))).cell
  refine ⟨.tuple #[.map none, .iface 36 (.int .i64 c)], by simp [results, Tryz.f29, go_sem, y1, y2], rfl, ?_⟩
  exact (HBw.out.setCell (p := ⟨w.heap.size + 1, 0, none⟩) (by show w.heap.size ≤ _ + 1; omega) _).setCell (p := ⟨w.heap.size + 1 + 1, 0, none⟩) (by show w.heap.size ≤ _ + 1 + 1; omega) _
/-- An error, as a value: none, an Errno, or a Fault of a code and a place, in memory that is new since S. -/
def errV (X : Option (Int ⊕ (Int × Int))) (S : Nat) (w' : World) (v : Value) : Prop := match X with
  | none => v = .nilIface
  | some (.inl c) => v = .iface 36 (.int .i64 c)
  | some (.inr q) => ∃ g, v = .iface 77 (.pointer (some ⟨g, 0, none⟩)) ∧ S ≤ g ∧ w'.heap[g]? = some (.cells #[.int .i64 q.1, .int .i64 q.2] 80)
/-- Which error it is. -/
def CkX (rs : List Rr) (X : Option (Int ⊕ (Int × Int))) : Prop := match X with
  | none => okG rs = true ∧ ckR rs = none ∧ ∀ x ∈ rs, (rfT x.2.1).length ≤ 8192
  | some (.inl c) => c = 2 ∨ c = 20
  | some (.inr q) => okG rs = true ∧ ckR rs = some q
theorem errV.shape {X : Option (Int ⊕ (Int × Int))} {S : Nat} {w' : World} {v : Value} (h : errV X S w' v) (hX : X ≠ none) : ∃ t u, v = .iface t u := by
  match X, hX with
  | some (.inl c), _ => exact ⟨_, _, h⟩
  | some (.inr q), _ =>
    obtain ⟨g, h1, _⟩ := h
    exact ⟨_, _, h1⟩
mutual
theorem RtIs.upto {w : World} {B B' : Nat} (hB : B ≤ B') : ∀ (t : RT) (cs : List Value), RtIs w B t cs → RtIs w B' t cs
  | .mk k T a b c d s p, cs, ht => by
    rw [RtIs] at ht ⊢
    obtain ⟨so, cap, rfl, ht⟩ := ht
    refine ⟨so, cap, rfl, ?_⟩
    rcases ht with h1 | ⟨h1, g, o, h2, h3, h4, h5⟩
    · exact .inl h1
    · exact .inr ⟨h1, g, o, h2, by omega, h4, RtsIs.upto hB s g o h5⟩
theorem RtsIs.upto {w : World} {B B' : Nat} (hB : B ≤ B') : ∀ (s : List RT) (g o : Nat), RtsIs w B g o s → RtsIs w B' g o s
  | [], g, o, _ => by rw [RtsIs]; trivial
  | t :: r, g, o, ht => by
    rw [RtsIs] at ht ⊢
    obtain ⟨⟨cs, h1, h2⟩, h3⟩ := ht
    exact ⟨⟨cs, RtIs.upto hB t cs h1, h2⟩, RtsIs.upto hB r g _ h3⟩
end
theorem RgIs.upto {w : World} {B B' n : Nat} {so : Option Addr} {rs : List Rr} (h : RgIs w B so n rs) (hB : B ≤ B') : RgIs w B' so n rs :=
  ⟨h.1, h.2.1, fun j hj => by
    obtain ⟨g, o, h1, h2, k, T, a, b, c, d, s', n', cap, p, h3, h4⟩ := h.2.2 j hj
    exact ⟨g, o, h1, by omega, k, T, a, b, c, d, s', n', cap, p, RtIs.upto hB _ _ h3, h4⟩⟩
end Go.Proofs.YtggmoneicdkamaaGreatDoor
namespace Go.Proofs.YtggmoneicdkamaaGreatDoor
open Go.RowKit Go.Shelf Go.Maps
set_option linter.unusedVariables false
theorem errV.lo {X : Option (Int ⊕ (Int × Int))} {S S' : Nat} {w' : World} {v : Value} (h : errV X S w' v) (hS : S' ≤ S) : errV X S' w' v := by
  match X with
  | none => exact h
  | some (.inl c) => exact h
  | some (.inr q) =>
    obtain ⟨g, h1, h2, h3⟩ := h
    exact ⟨g, h1, by omega, h3⟩
set_option maxRecDepth 100000 in
set_option maxHeartbeats 8000000 in
theorem check_of (so : Option Addr) (n cap : Nat) (rs : List Rr) (X : Option (Int ⊕ (Int × Int))) (W : World)
    (HC : Hid (∀ W' : World, Below W.heap.size W W' → Calls Tryz.prog 29 #[.agg #[.slice so n cap]] W' fun e w' => ∃ m v, e = .returned (.tuple #[m, v]) ∧ errV X W'.heap.size w' v ∧ (X = none → ∃ M, m = .map (some M) ∧ W'.heap.size ≤ M ∧ Pm w' M (nmL rs)) ∧ (X ≠ none → m = .map none) ∧ Below W'.heap.size W' w')) :
    Calls Tryz.prog 11 #[.agg #[.slice so n cap]] W fun e w' => ∃ v, e = .returned v ∧ errV X W.heap.size w' v ∧ Below W.heap.size W w' := by
  have HB1 : Hid (Below W.heap.size W (W.alloc (.cells #[.slice so n cap] 24))) := (Below.refl _ W).alloc (Nat.le_refl _) _
  have HB0 : Hid (Below W.heap.size W W) := Below.refl _ W
  go_enter Tryz.func11, Tryz.ntmps11
  go_wp2_with fail
  first
    | (refine (HC.out _ HB1.out).mono ?_; rintro e w1 ⟨m, v, rfl, h1, -, -, h2⟩; have h3 := HB1.out.trans (h2.mono HB1.out.size); have h4 := h1.lo (S' := W.heap.size) HB1.out.size)
    | (refine (HC.out _ HB0.out).mono ?_; rintro e w1 ⟨m, v, rfl, h1, -, -, h2⟩; have h3 := h2; have h4 := h1)
  clear HC HB1 HB0 h1 h2
  have H3 := hid h3
  have H4 := hid h4
  clear h3 h4
  go_wp2_with fail
  go_ret
  exact ⟨_, rfl, H4.out, H3.out⟩
/-- A row that stands alone is a row in memory. -/
theorem row_M {W : World} {s : Nat} {v : Value} {u : List Int} (h : W.ownsRow s 3 1 v u.length (u.map (Value.int .i64))) (hl : u.length ≤ 1048576) : RowM W W.heap.size v u := by
  rcases h.2 with ⟨rfl, h0⟩ | ⟨g, cap, cur, rfl, h1, h2, h3, h4, h5, h6⟩
  · cases u with
    | nil => exact ⟨none, 0, rfl, hl, fun j hj => by simp at hj⟩
    | cons _ _ => simp at h0
  · refine ⟨_, cap, rfl, hl, fun j hj => ⟨g, 0, rfl, (Array.getElem?_eq_some_iff.1 h2).1, ?_⟩⟩
    refine (cell_in h2 (0 + j) _ ?_).1
    have e : (cur.toList.take (u.length * 1))[j]? = (u.map (Value.int .i64))[j]? := by rw [h6]
    rw [List.getElem?_take_of_lt (by omega)] at e
    rw [Nat.zero_add, ← Array.getElem?_toList, e]
    simp [hj]
theorem uw_M {w : World} {ub n : Nat} {vs : List Value} {us : List (List Int)} {W : World} (h : Uw w ub n vs us W) (hn : vs.length = n) (hl : ∀ u ∈ us, u.length ≤ 1048576) (hn2 : n ≤ 1048576) : UsM W W.heap.size (.slice (some ⟨ub, 0, none⟩) n n) us := by
  have hu : us.length = n := by rw [← h.len]; exact hn
  refine ⟨_, n, by rw [hu], by omega, fun i hi => ⟨ub, 0, vs[i]'(by rw [h.len]; exact hi), rfl, node_lt h.blk, ?_, row_M (h.row i (by rw [h.len]; exact hi) hi) (hl _ (List.getElem_mem hi))⟩⟩
  refine (cell_in h.blk (0 + i) _ ?_).1
  have hv : i < vs.length := by rw [h.len]; exact hi
  rw [Nat.zero_add, List.getElem?_toArray, List.getElem?_append_left hv, List.getElem?_eq_getElem hv]
theorem mem_compact {zs : List Int} {x : Int} (h : x ∈ Lib.compact zs) : x ∈ zs := by
  unfold Lib.compact Lib.compactUpTo at h
  obtain ⟨i, hi, rfl⟩ := List.mem_map.1 h
  have hi2 : i < zs.length := List.mem_range.1 (List.mem_filter.1 hi).1
  rw [getElem!_pos _ i (by simpa using hi2)]
  simp
theorem us_mem {l : List ByteArray} {y : Rr} {x : Int} (hl : 1 ≤ l.length) (h : x ∈ usR l y) : ∃ m : Nat, m < l.length ∧ x = (m : Int) := by
  have h1 : x ∈ ixL l (rfT y.2.1) := (srt_perm _).mem_iff.1 (mem_compact h)
  obtain ⟨q, _, rfl⟩ := List.mem_map.1 h1
  refine ⟨ixV l q.1, ?_, rfl⟩
  unfold ixV
  cases hin : inN q.1 l with
  | true => exact ixN_lt _ _ hin
  | false => exact hl
theorem us_len {l : List ByteArray} {y : Rr} : (usR l y).length ≤ (rfT y.2.1).length := by
  unfold usR
  refine Nat.le_trans (compact_le _) ?_
  rw [srt_len, ixL_len]
  exact Nat.le_refl _
theorem okG_len {rs : List Rr} (h : okG rs = true) : 1 ≤ rs.length ∧ rs.length ≤ 64 := by
  unfold okG at h
  simp only [Bool.and_eq_true, decide_eq_true_eq] at h
  exact ⟨h.1, h.2.1⟩
@[reducible] def CkC (so : Option Addr) (n cap : Nat) (rs : List Rr) (X : Option (Int ⊕ (Int × Int))) (W : World) : Prop := ∀ W' : World, Below W.heap.size W W' → Calls Tryz.prog 29 #[.agg #[.slice so n cap]] W' fun e w' => ∃ m v, e = .returned (.tuple #[m, v]) ∧ errV X W'.heap.size w' v ∧ (X = none → ∃ M, m = .map (some M) ∧ W'.heap.size ≤ M ∧ Pm w' M (nmL rs)) ∧ (X ≠ none → m = .map none) ∧ Below W'.heap.size W' w'
set_option maxRecDepth 100000 in
set_option maxHeartbeats 8000000 in
theorem uses_err (so : Option Addr) (n cap : Nat) (rs : List Rr) (X : Option (Int ⊕ (Int × Int))) (W : World) (hX : X ≠ none) (HC : Hid (CkC so n cap rs X W)) :
    Calls Tryz.prog 12 #[.agg #[.slice so n cap]] W fun e w' => ∃ v, e = .returned (.tuple #[.slice none 0 0, v]) ∧ errV X W.heap.size w' v ∧ Below W.heap.size W w' := by
  have HB1 : Hid (Below W.heap.size W (W.alloc (.cells #[.slice so n cap] 24))) := (Below.refl _ W).alloc (Nat.le_refl _) _
  have HX := hid hX
  clear hX
  go_enter Tryz.func12, Tryz.ntmps12
  go_wp2_with fail
  refine (HC.out _ HB1.out).mono ?_
  rintro e w1 ⟨m, v, rfl, h1, -, h5, h2⟩
  have H3 := hid (HB1.out.trans (h2.mono HB1.out.size))
  have H4 := hid (h1.lo (S' := W.heap.size) HB1.out.size)
  obtain ⟨t, u, rfl⟩ := h1.shape HX.out
  obtain rfl := h5 HX.out
  clear HC HB1 h1 h2 h5
  go_wp2_with fail
  refine bodyPost_ret (v := .tuple #[.slice none 0 0, .iface t u]) (by simp [results, Tryz.results12, go_sem]) rfl ?_
  exact ⟨_, rfl, H4.out, H3.out⟩
theorem uses_of (so : Option Addr) (n cap : Nat) (rs : List Rr) (X : Option (Int ⊕ (Int × Int))) (B : Nat) (W : World) (hX : CkX rs X) (HC : CkC so n cap rs X W) (h : RgIs W B so n rs) (hB : B ≤ W.heap.size) (hz : RgZ rs) (hTg : 2 < W.heap.size) :
    Calls Tryz.prog 12 #[.agg #[.slice so n cap]] W fun e w' => ∃ uv v, e = .returned (.tuple #[uv, v]) ∧ errV X W.heap.size w' v ∧ Below W.heap.size W w' ∧ (X ≠ none → uv = .slice none 0 0) ∧ (X = none → ∃ ub vs, uv = .slice (some ⟨ub, 0, none⟩) n n ∧ vs.length = n ∧ Uw W ub n vs (rs.map (usR (nmL rs))) w') := by
  cases X with
  | some q =>
    refine (uses_err so n cap rs (some q) W (fun h => by cases h) (hid HC)).mono fun e w' he => ?_
    obtain ⟨v, h1, h2, h3⟩ := he
    exact ⟨_, v, h1, h2, h3, fun _ => rfl, fun h => by cases h⟩
  | none =>
    obtain ⟨hk, hc, hl⟩ := hX
    have hlen := okG_len hk
    have hn := h.1
    refine (uses_ok so n cap rs W (h.upto hB) hTg (hid hz) (hid fun x hx => Nat.le_trans (hl x hx) (by omega)) (by omega) (hid fun W' hW' => (HC W' hW').mono fun e w' he => ?_)).mono fun e w' he => ?_
    · obtain ⟨m, v, h1, h2, h3, _, h5⟩ := he
      obtain ⟨M, rfl, h6, h7⟩ := h3 rfl
      obtain rfl : v = .nilIface := h2
      exact ⟨M, h1, h6, h7, h5⟩
    · obtain ⟨ub, vs, h1, h2, h3⟩ := he
      exact ⟨_, _, h1, rfl, h3.be, fun h => absurd rfl h, fun _ => ⟨ub, vs, rfl, h2, h3⟩⟩
end Go.Proofs.YtggmoneicdkamaaGreatDoor
namespace Go.Proofs.YtggmoneicdkamaaGreatDoor
open Go.RowKit Go.Shelf Go.Maps
set_option linter.unusedVariables false
set_option maxRecDepth 100000 in
set_option maxHeartbeats 8000000 in
theorem reach_err (so : Option Addr) (n cap : Nat) (X : Option (Int ⊕ (Int × Int))) (a : Int) (W : World) (hX : X ≠ none)
    (HC : Hid (∀ W' : World, Below W.heap.size W W' → Calls Tryz.prog 12 #[.agg #[.slice so n cap]] W' fun e w' => ∃ v, e = .returned (.tuple #[.slice none 0 0, v]) ∧ errV X W'.heap.size w' v ∧ Below W'.heap.size W' w')) :
    Calls Tryz.prog 13 #[.agg #[.slice so n cap], .int .i64 a] W fun e w' => ∃ v, e = .returned (.tuple #[.slice none 0 0, v]) ∧ errV X W.heap.size w' v ∧ Below W.heap.size W w' := by
  have HB1 : Hid (Below W.heap.size W (W.alloc (.cells #[.slice so n cap] 24))) := (Below.refl _ W).alloc (Nat.le_refl _) _
  have HB0 : Hid (Below W.heap.size W W) := Below.refl _ W
  have HX := hid hX
  clear hX
  go_enter Tryz.func13, Tryz.ntmps13
  go_wp2_with fail
  first
    | (refine (HC.out _ HB1.out).mono ?_; rintro e w1 ⟨v, rfl, h1, h2⟩; have H3 := hid (HB1.out.trans (h2.mono HB1.out.size)); have H4 := hid (h1.lo (S' := W.heap.size) HB1.out.size))
    | (refine (HC.out _ HB0.out).mono ?_; rintro e w1 ⟨v, rfl, h1, h2⟩; have H3 := hid h2; have H4 := hid h1)
  obtain ⟨t, u, rfl⟩ := h1.shape HX.out
  clear HC HB1 HB0 h1 h2
  go_wp2_with fail
  refine bodyPost_ret (v := .tuple #[.slice none 0 0, .iface t u]) (by simp [results, Tryz.results13, go_sem]) rfl ?_
  exact ⟨_, rfl, H4.out, H3.out⟩
set_option maxRecDepth 100000 in
set_option maxHeartbeats 8000000 in
theorem reach_arg (so : Option Addr) (n cap : Nat) (us : List (List Int)) (a : Int) (W : World) (hn : n ≤ 1048576) (ha : a < 0 ∨ (n : Int) ≤ a)
    (HC : Hid (∀ W' : World, Below W.heap.size W W' → Calls Tryz.prog 12 #[.agg #[.slice so n cap]] W' fun e w' => ∃ ub vs, e = .returned (.tuple #[.slice (some ⟨ub, 0, none⟩) n n, .nilIface]) ∧ vs.length = n ∧ Uw W' ub n vs us w')) :
    Calls Tryz.prog 13 #[.agg #[.slice so n cap], .int .i64 a] W fun e w' => e = .returned (.tuple #[.slice none 0 0, .iface 36 (.int .i64 1)]) ∧ Below W.heap.size W w' := by
  have HB1 : Hid (Below W.heap.size W (W.alloc (.cells #[.slice so n cap] 24))) := (Below.refl _ W).alloc (Nat.le_refl _) _
  have HB0 : Hid (Below W.heap.size W W) := Below.refl _ W
  rcases Int.lt_or_le a 0 with h0 | h0
  · have a0 : decide (a < 0) = true := by simp; omega
    go_enter Tryz.func13, Tryz.ntmps13
    go_wp2_with fail
    first
      | (refine (HC.out _ HB1.out).mono ?_; rintro e w1 ⟨ub, vs, rfl, h1, h2⟩; have H3 := hid (HB1.out.trans (h2.be.mono HB1.out.size)))
      | (refine (HC.out _ HB0.out).mono ?_; rintro e w1 ⟨ub, vs, rfl, h1, h2⟩; have H3 := hid h2.be)
    clear HC HB1 HB0 h1 h2
    go_wp2_with fail
    refine bodyPost_ret (v := .tuple #[.slice none 0 0, .iface 36 (.int .i64 1)]) (by simp [results, Tryz.results13, go_sem]) rfl ?_
    exact ⟨rfl, H3.out⟩
  · have a0 : decide (a < 0) = false := by simp; omega
    have a1 : decide ((n : Int) ≤ a) = true := by simp; omega
    go_enter Tryz.func13, Tryz.ntmps13
    go_wp2_with fail
    first
      | (refine (HC.out _ HB1.out).mono ?_; rintro e w1 ⟨ub, vs, rfl, h1, h2⟩; have H3 := hid (HB1.out.trans (h2.be.mono HB1.out.size)))
      | (refine (HC.out _ HB0.out).mono ?_; rintro e w1 ⟨ub, vs, rfl, h1, h2⟩; have H3 := hid h2.be)
    clear HC HB1 HB0 h1 h2
    go_wp2_with fail
    refine bodyPost_ret (v := .tuple #[.slice none 0 0, .iface 36 (.int .i64 1)]) (by simp [results, Tryz.results13, go_sem]) rfl ?_
    exact ⟨rfl, H3.out⟩
set_option maxRecDepth 100000 in
set_option maxHeartbeats 8000000 in
theorem reach_ok (so : Option Addr) (n cap : Nat) (us : List (List Int)) (a : Nat) (W : World) (hn : n ≤ 1048576) (ha : a < n) (HN : Hid (us.length = n)) (HX : Hid (∀ u ∈ us, ∀ x ∈ u, ∃ m : Nat, m < n ∧ x = (m : Int))) (HL : Hid (∀ u ∈ us, u.length ≤ 1048576))
    (HC : Hid (∀ W' : World, Below W.heap.size W W' → Calls Tryz.prog 12 #[.agg #[.slice so n cap]] W' fun e w' => ∃ ub vs, e = .returned (.tuple #[.slice (some ⟨ub, 0, none⟩) n n, .nilIface]) ∧ vs.length = n ∧ Uw W' ub n vs us w')) :
    Calls Tryz.prog 13 #[.agg #[.slice so n cap], .int .i64 (a : Int)] W fun e w' => ∃ v L, e = .returned (.tuple #[v, .nilIface]) ∧ LdIs us a L ∧ L.length ≤ n ∧ w'.ownsRow W.heap.size 3 1 v L.length (L.map (Value.int .i64)) ∧ Below W.heap.size W w' := by
  have HB1 : Hid (Below W.heap.size W (W.alloc (.cells #[.slice so n cap] 24))) := (Below.refl _ W).alloc (Nat.le_refl _) _
  have HB0 : Hid (Below W.heap.size W W) := Below.refl _ W
  have a0 : decide ((a : Int) < 0) = false := by simp
  have a1 : decide ((n : Int) ≤ (a : Int)) = false := by simp; omega
  go_enter Tryz.func13, Tryz.ntmps13
  go_wp2_with fail
  first
    | (refine (HC.out _ HB1.out).mono ?_; rintro e w1 ⟨ub, vs, rfl, h1, h2⟩; have H3 := hid (HB1.out.trans (h2.be.mono HB1.out.size)))
    | (refine (HC.out _ HB0.out).mono ?_; rintro e w1 ⟨ub, vs, rfl, h1, h2⟩; have H3 := hid h2.be)
  have HR := hid (reached_ok _ us n a w1 (uw_M h2 h1 HL.out hn) HN.out HX.out hn ha)
  clear HC HB1 HB0 h1 h2
  go_wp2_with fail
  refine HR.out.mono ?_
  rintro e w2 ⟨v2, L, rfl, g1, g2, g3, g4⟩
  have H5 := hid (H3.out.trans (g4.mono H3.out.size))
  have H6 := hid (row_lo g3 H3.out.size)
  have H7 := hid g1
  obtain ⟨so2, sc2, rfl⟩ := own_any g3
  clear HR g1 g3 g4
  go_wp2_with fail
  refine bodyPost_ret (v := .tuple #[.slice so2 L.length sc2, .nilIface]) (by simp [results, Tryz.results13, go_sem]) rfl ?_
  exact ⟨_, L, rfl, H7.out, g2, H6.out, H5.out⟩
/-- What Reach answers. -/
def ReP (rs : List Rr) (X : Option (Int ⊕ (Int × Int))) (a : Int) (W : World) (e : Ending) (w' : World) : Prop := Below W.heap.size W w' ∧
  ((X ≠ none ∧ ∃ v, e = .returned (.tuple #[.slice none 0 0, v]) ∧ errV X W.heap.size w' v) ∨
   (X = none ∧ (a < 0 ∨ (rs.length : Int) ≤ a) ∧ e = .returned (.tuple #[.slice none 0 0, .iface 36 (.int .i64 1)])) ∨
   (X = none ∧ ∃ (k : Nat) (v : Value) (L : List Int), a = (k : Int) ∧ k < rs.length ∧ e = .returned (.tuple #[v, .nilIface]) ∧ LdIs (rs.map (usR (nmL rs))) k L ∧ L.length ≤ rs.length ∧ w'.ownsRow W.heap.size 3 1 v L.length (L.map (Value.int .i64))))
theorem CkC.from {so : Option Addr} {n cap : Nat} {rs : List Rr} {X : Option (Int ⊕ (Int × Int))} {W W' : World} (h : CkC so n cap rs X W) (hW : Below W.heap.size W W') : CkC so n cap rs X W' := fun W2 h2 => h W2 (hW.trans (h2.mono hW.size))
theorem reach_of (so : Option Addr) (n cap : Nat) (rs : List Rr) (X : Option (Int ⊕ (Int × Int))) (B : Nat) (a : Int) (W : World) (hX : CkX rs X) (HC : CkC so n cap rs X W) (h : RgIs W B so n rs) (hB : B ≤ W.heap.size) (hz : RgZ rs) (hTg : 2 < W.heap.size) :
    Calls Tryz.prog 13 #[.agg #[.slice so n cap], .int .i64 a] W (ReP rs X a W) := by
  have hU : ∀ W' : World, Below W.heap.size W W' → _ := fun W' hW' => uses_of so n cap rs X B W' hX (HC.from hW') (h.below (hW'.mono hB)) (Nat.le_trans hB hW'.size) hz (Nat.lt_of_lt_of_le hTg hW'.size)
  have hnr : n = rs.length := h.1
  cases X with
  | some q =>
    refine (reach_err so n cap (some q) a W (fun h => by cases h) (hid fun W' hW' => (hU W' hW').mono fun e w' he => ?_)).mono fun e w' he => ?_
    · obtain ⟨uv, v, h1, h2, h3, h4, _⟩ := he
      exact ⟨v, by rw [h1, h4 (fun h => by cases h)], h2, h3⟩
    · obtain ⟨v, h1, h2, h3⟩ := he
      exact ⟨h3, .inl ⟨(fun h => by cases h), v, h1, h2⟩⟩
  | none =>
    obtain ⟨hk, hc, hl⟩ := hX
    have hlen := okG_len hk
    have hUs : Hid (∀ W' : World, Below W.heap.size W W' → Calls Tryz.prog 12 #[.agg #[.slice so n cap]] W' fun e w' => ∃ ub vs, e = .returned (.tuple #[.slice (some ⟨ub, 0, none⟩) n n, .nilIface]) ∧ vs.length = n ∧ Uw W' ub n vs (rs.map (usR (nmL rs))) w') := hid fun W' hW' => (hU W' hW').mono fun e w' he => by
      obtain ⟨uv, v, h1, h2, h3, _, h5⟩ := he
      obtain ⟨ub, vs, rfl, h6, h7⟩ := h5 rfl
      obtain rfl : v = .nilIface := h2
      exact ⟨ub, vs, h1, h6, h7⟩
    by_cases ha : a < 0 ∨ (n : Int) ≤ a
    · exact (reach_arg so n cap _ a W (by omega) ha hUs).mono fun e w' he => ⟨he.2, .inr (.inl ⟨rfl, by rw [← hnr]; exact ha, he.1⟩)⟩
    · obtain ⟨k, rfl⟩ : ∃ k : Nat, a = (k : Int) := ⟨a.toNat, by omega⟩
      have hkn : k < n := by omega
      have hnl : (nmL rs).length = n := by unfold nmL; rw [List.length_map, hnr]
      refine (reach_ok so n cap _ k W (by omega) hkn (by rw [List.length_map, hnr]; rfl) (hid fun u hu x hx => ?_) (hid fun u hu => ?_) hUs).mono fun e w' he => ?_
      · obtain ⟨y, _, rfl⟩ := List.mem_map.1 hu
        have := us_mem (by rw [hnl]; omega) hx
        rw [hnl] at this
        exact this
      · obtain ⟨y, hy, rfl⟩ := List.mem_map.1 hu
        exact Nat.le_trans us_len (Nat.le_trans (hl y hy) (by omega))
      · obtain ⟨v, L, h1, h2, h3, h4, h5⟩ := he
        exact ⟨h5, .inr (.inr ⟨rfl, k, v, L, rfl, by omega, h1, h2, by omega, h4⟩)⟩
end Go.Proofs.YtggmoneicdkamaaGreatDoor
