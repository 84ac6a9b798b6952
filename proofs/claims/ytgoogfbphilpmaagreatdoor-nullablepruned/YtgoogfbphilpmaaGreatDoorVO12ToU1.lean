/-
  A right grammar has no more Refs than its text has bytes; what printer.Right answers at any grammar. Conditions: those that each theorem names.
  What scope.Check, scope.Uses and scope.Reach answer at any grammar. Conditions: those that each theorem names.
  What scope.Check, scope.Uses and scope.Reach answer at any grammar. Conditions: those that each theorem names.
  What an expression may come to, as plain functions; rounds over the rules rise, and end. Conditions: those that each theorem names.
-/
import Derived.Test.YtgoogfbphilpmaaGreatDoorVO6ToS4
import Derived.Test.YtgoogfbphilpmaaGreatDoorVS9
import Derived.Test.YtgoogfbphilpmaaGreatDoorVS1ToO4
namespace Go.Proofs.YtgoogfbphilpmaaGreatDoor
open Go.RowKit Go.Shelf
set_option linter.unusedVariables false
theorem nmq_pos {M : ByteArray} (h : nmS M = true) : 1 ≤ M.size := by
  rcases Nat.lt_or_ge 0 M.size with h1 | h1
  · exact h1
  · have e : M = { data := #[] } := by
      apply ByteArray.ext
      apply Array.ext'
      exact List.eq_nil_of_length_eq_zero (by have : M.data.size = M.size := rfl; rw [Array.length_toList]; omega)
    subst e
    revert h
    decide +kernel
theorem sz_pP (over : Nat) (n : Nd) : sz (pN qT cT n) ≤ sz (pP qT cT over n) := by
  unfold pP
  split
  · rw [sz, sz_app]; omega
  · exact Nat.le_refl _
mutual
theorem rf_le : ∀ (t : RT) (n : Nd), Tq t n → Vk n → Wf Nmq n → (rfT t).length ≤ sz (pN qT cT n)
  | .mk k T a b c d s p, .mk kd T' C s' p', hq, hv, hw => by
    rw [Tq] at hq
    obtain ⟨hk, hT, _, _, _, _, hs⟩ := hq
    rw [Wf] at hw
    rw [Vk] at hv
    rw [rfT]
    by_cases h5 : kd = 5
    · rw [if_pos (by omega)]
      have h1 : 1 ≤ T'.size := nmq_pos (hw.2.1 h5)
      rw [h5, pN]
      simp [sz]
      exact h1
    · rw [if_neg (by omega)]
      have hB : ∀ over sep, (rfL s).length ≤ sz (pS qT cT over sep s') := fun over sep => by
        cases s with
        | nil => rw [rfL]; exact Nat.zero_le _
        | cons t r =>
          cases s' with
          | nil => simp [TqL] at hs
          | cons n q =>
            rw [TqL] at hs
            have hvl := hv.2
            rw [VkL] at hvl
            have hwl := hw.2.2.2
            rw [WfL] at hwl
            have i1 := rf_le t n hs.1 hvl.1 hwl.1
            have i2 := rfB_le r q over sep hs.2 hvl.2 hwl.2
            have i3 := sz_pP over n
            rw [rfL, List.length_append, pS_cons, sz_app]
            omega
      have h0 : kd ≤ 4 → (rfL s).length = 0 := fun h => by
        have e : s' = [] := by
          rcases hv.1 with h1 | h1 | h1 | h1 | h1 | h1 | h1
          · exact h1.2.2.2
          · exact h1.2.2
          · exact h1.2.2
          · exact h1.2.2.2
          · omega
          · omega
          · omega
        have := hB 0 bE
        rw [e, pS, sz] at this
        omega
      rw [pN]
      repeat' split
      all_goals first
        | (rw [h0 (by omega)]; exact Nat.zero_le _)
        | exact hB _ _
        | (rw [sz]; exact Nat.le_trans (hB _ _) (Nat.le_add_left _ _))
        | (rw [sz_app]; exact Nat.le_trans (hB _ _) (Nat.le_add_right _ _))
        | omega
theorem rfB_le : ∀ (s : List RT) (q : List Nd) (over : Nat) (sep : ByteArray), TqL s q → VkL q → WfL Nmq q → (rfL s).length ≤ sz (pB qT cT over sep q)
  | [], _, _, _, _, _, _ => by rw [rfL]; exact Nat.zero_le _
  | t :: r, [], _, _, h, _, _ => by simp [TqL] at h
  | t :: r, n :: q, over, sep, h, hv, hw => by
    rw [TqL] at h
    rw [VkL] at hv
    rw [WfL] at hw
    have i1 := rf_le t n h.1 hv.1 hw.1
    have i2 := rfB_le r q over sep h.2 hv.2 hw.2
    have i3 := sz_pP over n
    rw [rfL, List.length_append, pB_cons, sz, sz_app]
    omega
end
theorem rf_mem : ∀ {rs : List Rr} {ns : List Rl}, TqR rs ns → (∀ x ∈ ns, Ruk Nmq x) → ∀ x ∈ rs, (rfT x.2.1).length ≤ sz (pR qT cT ns)
  | [], _, _, _, x, hx => by simp at hx
  | a :: r, [], h, _, _, _ => by simp [TqR] at h
  | a :: r, b :: q, h, hk, x, hx => by
    rw [TqR] at h
    rw [pR, sz, sz, sz_app, sz]
    rcases List.mem_cons.1 hx with rfl | hx
    · have hb := hk b (by simp)
      have := rf_le _ _ h.2.1 hb.2.1 hb.2.2
      omega
    · have := rf_mem h.2.2 (fun y hy => hk y (List.mem_cons_of_mem _ hy)) x hx
      omega
set_option maxRecDepth 100000 in
set_option maxHeartbeats 8000000 in
theorem oright_of (so : Option Addr) (n cap : Nat) (A E : Value) (w : World)
    (HP : Hid (∀ W : World, Below w.heap.size w W → Calls Tryz.prog 46 #[.agg #[.slice so n cap]] W fun e w' => e = .returned (.tuple #[A, E]) ∧ Below W.heap.size W w')) :
    Calls Tryz.prog 67 #[.agg #[.slice so n cap]] w fun e w' => e = .returned E ∧ Below w.heap.size w w' := by
  have HB1 : Hid (Below w.heap.size w (w.alloc (.cells #[.slice so n cap] 24))) := (Below.refl _ w).alloc (Nat.le_refl _) _
  go_enter Tryz.func67, Tryz.ntmps67
  go_wp2_with (first | (go_at_call 46; refine (HP.out _ HB1.out).mono ?_; rintro e wq ⟨rfl, hbq⟩; have HBq : Hid (Below w.heap.size w wq) := HB1.out.trans (hbq.mono HB1.out.size)))
  go_ret
  exact ⟨rfl, HBq.out⟩
/-- What printer.Right answers: an Errno, or nil at a grammar that is right. -/
def RtA (rs : List Rr) (E : Value) : Prop := (∃ c : Int, (c = 2 ∨ c = 20) ∧ E = .iface 43 (.int .i64 c)) ∨ (E = .nilIface ∧ okG rs = true ∧ ∀ x ∈ rs, (rfT x.2.1).length ≤ 8192)
theorem right_any (so : Option Addr) (n cap : Nat) (rs : List Rr) (B : Nat) (w : World) (hz : RgZ rs) (hu : RgU rs) (h : RgIs w B so n rs) (hB : B ≤ w.heap.size) (hT : TabIs w) :
    ∃ E, RtA rs E ∧ ∀ W : World, Below w.heap.size w W → Calls Tryz.prog 67 #[.agg #[.slice so n cap]] W fun e w' => e = .returned E ∧ Below W.heap.size W w' := by
  cases hk : okG rs with
  | false =>
    refine ⟨_, .inl ⟨20, .inr rfl, rfl⟩, fun W hW => oright_of so n cap (.string { data := #[] }) _ W (hid fun W' hW' => ?_)⟩
    have hb : Below w.heap.size w W' := hW.trans (hW'.mono hW.size)
    exact nprint_bad so n cap rs B W' hz (h.below (hb.mono hB)) (Nat.le_trans hB hb.size) hk
  | true =>
    obtain ⟨ns, hq, hx, _, _⟩ := of_okG hk hu
    have hp : ∀ A E, ansT ns = .tuple #[A, E] → ∀ W : World, Below w.heap.size w W → Calls Tryz.prog 67 #[.agg #[.slice so n cap]] W fun e w' => e = .returned E ∧ Below W.heap.size W w' := fun A E he W hW => oright_of so n cap A E W (hid fun W' hW' => by
      have hb : Below w.heap.size w W' := hW.trans (hW'.mono hW.size)
      have := nprint_ok so n cap rs ns B W' hz (h.below (hb.mono hB)) (Nat.le_trans hB hb.size) hk hq hx (hT.below hb hT.lt)
      rw [he] at this
      exact this)
    rcases Nat.lt_or_ge 8192 (sz (pR qT cT ns)) with h1 | h1
    · exact ⟨_, .inl ⟨2, .inl rfl, rfl⟩, hp _ _ (ansT_long h1)⟩
    · rcases Nat.lt_or_ge 24 (dR ns) with h2 | h2
      · exact ⟨_, .inl ⟨20, .inr rfl, rfl⟩, hp _ _ (ansT_deep h1 h2)⟩
      · exact ⟨_, .inr ⟨rfl, hk, fun x hx' => Nat.le_trans (rf_mem hq hx x hx') h1⟩, hp _ _ (ansT_ok h1 h2)⟩
end Go.Proofs.YtgoogfbphilpmaaGreatDoor
namespace Go.Proofs.YtgoogfbphilpmaaGreatDoor
open Go.RowKit Go.Shelf Go.Maps
set_option linter.unusedVariables false
attribute [local go_sem] Oper.semAt_some
set_option maxRecDepth 100000 in
set_option maxHeartbeats 8000000 in
theorem checked_err (so : Option Addr) (n cap : Nat) (c : Int) (w : World)
    (HP : Hid (∀ W : World, Below w.heap.size w W → Calls Tryz.prog 67 #[.agg #[.slice so n cap]] W fun e w' => e = .returned (.iface 43 (.int .i64 c)) ∧ Below W.heap.size W w')) (m : Nat) :
    CallsIn Fence.wide (m + 5) Tryz.prog 44 #[.agg #[.slice so n cap]] w fun e w' => e = .returned (.tuple #[.map none, .iface 43 (.int .i64 c)]) ∧ Below w.heap.size w w' := by
  obtain ⟨W0, hW0⟩ : ∃ W0, W0 = ((w.alloc (.cells #[.slice so n cap] 24)).alloc (.cells #[.map none] 89)).alloc (.cells #[.nilIface] 35) := ⟨_, rfl⟩
  have hB0 : Below w.heap.size w W0 := by rw [hW0]; exact (((Below.refl _ w).alloc (Nat.le_refl _) _).alloc (by simp) _).alloc (by simp; omega) _
  have c2 : W0.heap[w.heap.size + 1]? = some (.cells #[.map none] 89) := by
    rw [hW0]
    exact (Below.heap_alloc _ _ _ (by simp)).trans (new_block_at _ _ (by simp))
  have c3 : W0.heap[w.heap.size + 1 + 1]? = some (.cells #[.nilIface] 35) := by
    rw [hW0]
    exact new_block_at _ _ (by simp)
  have hs0 : W0.heap.size = w.heap.size + 1 + 1 + 1 := by rw [hW0]; simp
  have HP0 := hid (HP.out W0 hB0)
  refine callsIn_of_wp_marks Tryz.func44 rfl trivial ?_ rfl
  simp only [Tryz.ntmps44, List.size_toArray, List.length_cons, List.length_nil, Nat.reduceAdd, Nat.reduceSub, Array.replicate_succ, Array.replicate_zero, List.push_toArray, List.append_toArray, List.nil_append, List.cons_append]
  gi_wp2
  rw [← hW0]
  clear hW0
  refine ⟨trivial, ?_⟩
  refine (callsIn_wide.2 HP0.out).mono ?_
  rintro e W1 ⟨rfl, hb1⟩
  have d2 := (hb1.block _ (by omega)).trans c2
  have d3 := (hb1.block _ (by omega)).trans c3
  have hs1 := hb1.size
  have HBw : Hid (Below w.heap.size w W1) := hB0.trans (hb1.mono hB0.size)
  obtain ⟨x2, e2⟩ := one_cell d2
  obtain ⟨x3, e3⟩ := one_cell d3
  have l2 := node_lt d2
  have l3 := node_lt d3
  clear HP0 HP c2 c3
  gi_wp2
  have b2 : Boxed W1 (w.heap.size + 1) 89 (.map none) := d2
  have b3 : Boxed W1 (w.heap.size + 1 + 1) 35 .nilIface := d3
  have y1 := ((b2.set (.map none)).other (B' := w.heap.size + 1 + 1) (by omega) (.iface 43 (.int .i64 c))).cell
  have y2 := ((b3.other (B' := w.heap.size + 1) (by omega) (.map none)).set (.iface 43 (.int .i64 c))).cell
  refine ⟨.tuple #[.map none, .iface 43 (.int .i64 c)], by simp [results, Tryz.f44, go_sem, y1, y2], rfl, ?_⟩
  exact (HBw.out.setCell (p := ⟨w.heap.size + 1, 0, none⟩) (by show w.heap.size ≤ _ + 1; omega) _).setCell (p := ⟨w.heap.size + 1 + 1, 0, none⟩) (by show w.heap.size ≤ _ + 1 + 1; omega) _
/-- An error, as a value: none, an Errno, or a Fault of a code and a place, in memory that is new since S. -/
def errV (X : Option (Int ⊕ (Int × Int))) (S : Nat) (w' : World) (v : Value) : Prop := match X with
  | none => v = .nilIface
  | some (.inl c) => v = .iface 43 (.int .i64 c)
  | some (.inr q) => ∃ g, v = .iface 73 (.pointer (some ⟨g, 0, none⟩)) ∧ S ≤ g ∧ w'.heap[g]? = some (.cells #[.int .i64 q.1, .int .i64 q.2] 76)
/-- Which error it is. -/
def CkX (rs : List Rr) (X : Option (Int ⊕ (Int × Int))) : Prop := match X with
  | none => okG rs = true ∧ ckR rs = none ∧ ∀ x ∈ rs, (rfT x.2.1).length ≤ 8192
  | some (.inl c) => c = 2 ∨ c = 20
  | some (.inr q) => okG rs = true ∧ ckR rs = some q
theorem errV.shape {X : Option (Int ⊕ (Int × Int))} {S : Nat} {w' : World} {v : Value} (h : errV X S w' v) (hX : X ≠ none) : ∃ t u, v = .iface t u := by
  match X, hX with
  | some (.inl c), _ => exact ⟨_, _, h⟩
  | some (.inr q), _ =>
    obtain ⟨g, h1, _⟩ := h
    exact ⟨_, _, h1⟩
mutual
theorem RtIs.upto {w : World} {B B' : Nat} (hB : B ≤ B') : ∀ (t : RT) (cs : List Value), RtIs w B t cs → RtIs w B' t cs
  | .mk k T a b c d s p, cs, ht => by
    rw [RtIs] at ht ⊢
    obtain ⟨so, cap, rfl, ht⟩ := ht
    refine ⟨so, cap, rfl, ?_⟩
    rcases ht with h1 | ⟨h1, g, o, h2, h3, h4, h5⟩
    · exact .inl h1
    · exact .inr ⟨h1, g, o, h2, by omega, h4, RtsIs.upto hB s g o h5⟩
theorem RtsIs.upto {w : World} {B B' : Nat} (hB : B ≤ B') : ∀ (s : List RT) (g o : Nat), RtsIs w B g o s → RtsIs w B' g o s
  | [], g, o, _ => by rw [RtsIs]; trivial
  | t :: r, g, o, ht => by
    rw [RtsIs] at ht ⊢
    obtain ⟨⟨cs, h1, h2⟩, h3⟩ := ht
    exact ⟨⟨cs, RtIs.upto hB t cs h1, h2⟩, RtsIs.upto hB r g _ h3⟩
end
theorem RgIs.upto {w : World} {B B' n : Nat} {so : Option Addr} {rs : List Rr} (h : RgIs w B so n rs) (hB : B ≤ B') : RgIs w B' so n rs :=
  ⟨h.1, h.2.1, fun j hj => by
    obtain ⟨g, o, h1, h2, k, T, a, b, c, d, s', n', cap, p, h3, h4⟩ := h.2.2 j hj
    exact ⟨g, o, h1, by omega, k, T, a, b, c, d, s', n', cap, p, RtIs.upto hB _ _ h3, h4⟩⟩
theorem checked_all (so : Option Addr) (n cap : Nat) (rs : List Rr) (B : Nat) (w : World) (hz : RgZ rs) (hu : RgU rs) (h : RgIs w B so n rs) (hB : B ≤ w.heap.size) (hT : TabIs w) :
    ∃ X, CkX rs X ∧ ∀ W : World, Below w.heap.size w W → Calls Tryz.prog 44 #[.agg #[.slice so n cap]] W fun e w' => ∃ m v, e = .returned (.tuple #[m, v]) ∧ errV X W.heap.size w' v ∧ (X = none → ∃ M, m = .map (some M) ∧ W.heap.size ≤ M ∧ Pm w' M (nmL rs)) ∧ (X ≠ none → m = .map none) ∧ Below W.heap.size W w' := by
  obtain ⟨E, hE, hR⟩ := right_any so n cap rs B w hz hu h hB hT
  have hTg : 2 < w.heap.size := hT.lt
  have hRW : ∀ W : World, Below w.heap.size w W → Hid (∀ W' : World, Below W.heap.size W W' → Calls Tryz.prog 67 #[.agg #[.slice so n cap]] W' fun e w' => e = .returned E ∧ Below W'.heap.size W' w') := fun W hW => hid fun W' hW' => hR W' (hW.trans (hW'.mono hW.size))
  rcases hE with ⟨c, hc, rfl⟩ | ⟨rfl, hok, hl⟩
  · refine ⟨some (.inl c), hc, fun W hW => (callsIn_wide.1 (checked_err so n cap c W (hRW W hW) 0)).mono fun e w' he => ?_⟩
    exact ⟨_, _, he.1, rfl, (fun h => by cases h), fun _ => rfl, he.2⟩
  · have hC : ∀ W : World, Below w.heap.size w W → Calls Tryz.prog 44 #[.agg #[.slice so n cap]] W (CkP W rs) := fun W hW => callsIn_wide.1 (checked_ok so n cap rs W ((h.below (hW.mono hB)).upto (Nat.le_trans hB hW.size)) (by have := hW.size; omega) (hid hz) (hRW W hW) 0)
    cases hk : ckR rs with
    | none =>
      refine ⟨none, ⟨hok, hk, hl⟩, fun W hW => (hC W hW).mono fun e w' he => ?_⟩
      obtain ⟨hb, ⟨c, p, g, h1, _⟩ | ⟨M, _, h2, h3, h4⟩⟩ := he
      · rw [hk] at h1; cases h1
      · exact ⟨_, _, h2, rfl, fun _ => ⟨M, rfl, h3, h4⟩, fun h => absurd rfl h, hb⟩
    | some q =>
      refine ⟨some (.inr q), ⟨hok, hk⟩, fun W hW => (hC W hW).mono fun e w' he => ?_⟩
      obtain ⟨hb, ⟨c, p, g, h1, h2, h3, h4⟩ | ⟨M, h1, _⟩⟩ := he
      · rw [hk] at h1
        cases h1
        exact ⟨_, _, h2, ⟨g, rfl, h3, h4⟩, (fun h => by cases h), fun _ => rfl, hb⟩
      · rw [hk] at h1; cases h1
end Go.Proofs.YtgoogfbphilpmaaGreatDoor
namespace Go.Proofs.YtgoogfbphilpmaaGreatDoor
open Go.RowKit Go.Shelf Go.Maps
set_option linter.unusedVariables false
theorem errV.lo {X : Option (Int ⊕ (Int × Int))} {S S' : Nat} {w' : World} {v : Value} (h : errV X S w' v) (hS : S' ≤ S) : errV X S' w' v := by
  match X with
  | none => exact h
  | some (.inl c) => exact h
  | some (.inr q) =>
    obtain ⟨g, h1, h2, h3⟩ := h
    exact ⟨g, h1, by omega, h3⟩
set_option maxRecDepth 100000 in
set_option maxHeartbeats 8000000 in
theorem check_of (so : Option Addr) (n cap : Nat) (rs : List Rr) (X : Option (Int ⊕ (Int × Int))) (W : World)
    (HC : Hid (∀ W' : World, Below W.heap.size W W' → Calls Tryz.prog 44 #[.agg #[.slice so n cap]] W' fun e w' => ∃ m v, e = .returned (.tuple #[m, v]) ∧ errV X W'.heap.size w' v ∧ (X = none → ∃ M, m = .map (some M) ∧ W'.heap.size ≤ M ∧ Pm w' M (nmL rs)) ∧ (X ≠ none → m = .map none) ∧ Below W'.heap.size W' w')) :
    Calls Tryz.prog 23 #[.agg #[.slice so n cap]] W fun e w' => ∃ v, e = .returned v ∧ errV X W.heap.size w' v ∧ Below W.heap.size W w' := by
  have HB1 : Hid (Below W.heap.size W (W.alloc (.cells #[.slice so n cap] 24))) := (Below.refl _ W).alloc (Nat.le_refl _) _
  have HB0 : Hid (Below W.heap.size W W) := Below.refl _ W
  go_enter Tryz.func23, Tryz.ntmps23
  go_wp2_with fail
  first
    | (refine (HC.out _ HB1.out).mono ?_; rintro e w1 ⟨m, v, rfl, h1, -, -, h2⟩; have h3 := HB1.out.trans (h2.mono HB1.out.size); have h4 := h1.lo (S' := W.heap.size) HB1.out.size)
    | (refine (HC.out _ HB0.out).mono ?_; rintro e w1 ⟨m, v, rfl, h1, -, -, h2⟩; have h3 := h2; have h4 := h1)
  clear HC HB1 HB0 h1 h2
  have H3 := hid h3
  have H4 := hid h4
  clear h3 h4
  go_wp2_with fail
  go_ret
  exact ⟨_, rfl, H4.out, H3.out⟩
theorem okG_len {rs : List Rr} (h : okG rs = true) : 1 ≤ rs.length ∧ rs.length ≤ 64 := by
  unfold okG at h
  simp only [Bool.and_eq_true, decide_eq_true_eq] at h
  exact ⟨h.1, h.2.1⟩
@[reducible] def CkC (so : Option Addr) (n cap : Nat) (rs : List Rr) (X : Option (Int ⊕ (Int × Int))) (W : World) : Prop := ∀ W' : World, Below W.heap.size W W' → Calls Tryz.prog 44 #[.agg #[.slice so n cap]] W' fun e w' => ∃ m v, e = .returned (.tuple #[m, v]) ∧ errV X W'.heap.size w' v ∧ (X = none → ∃ M, m = .map (some M) ∧ W'.heap.size ≤ M ∧ Pm w' M (nmL rs)) ∧ (X ≠ none → m = .map none) ∧ Below W'.heap.size W' w'
end Go.Proofs.YtgoogfbphilpmaaGreatDoor
namespace Go.Proofs.YtgoogfbphilpmaaGreatDoor
open Go.RowKit Go.Shelf
set_option linter.unusedVariables false
/-- Zero, Some, Fail. -/
@[reducible] def Ot := Bool × Bool × Bool
def suc (x : Ot) : Bool := x.1 || x.2.1
def seqO (a n : Ot) : Ot := (a.1 && n.1, a.2.1 && suc n || a.1 && n.2.1, a.2.2 || suc a && n.2.2)
def altO (a n : Ot) : Ot := (a.1 || a.2.2 && n.1, a.2.1 || a.2.2 && n.2.1, a.2.2 && n.2.2)
def oneO (k : Int) (x : Ot) : Ot :=
  if k = 8 then (x.1 || x.2.2, x.2.1, false) else if k = 9 then (x.2.2, x.2.1, false) else if k = 10 then (x.1 && x.2.2, x.2.1, x.2.2) else if k = 11 then (suc x, false, x.2.2) else if k = 12 then (x.2.2, false, suc x) else (false, false, false)
mutual
/-- What a tree may come to, if the rules may come to that. -/
def ofT (K : ByteArray → Ot) : RT → Ot
  | .mk k T a b c d s p =>
    if k = 1 then (true, false, false) else if k = 2 then (if T.size = 0 then (true, false, false) else (false, true, true)) else if k = 3 then (if a = 0 ∧ b = 0 ∧ c = 0 ∧ d = 0 then (false, false, true) else (false, true, true)) else if k = 4 then (false, true, true) else if k = 5 then K T else if k = 6 then ofS K (true, false, false) s else if k = 7 then ofA K (false, false, true) s else oneO k (ofH K s)
def ofS (K : ByteArray → Ot) (acc : Ot) : List RT → Ot
  | [] => acc
  | t :: r => ofS K (seqO acc (ofT K t)) r
def ofA (K : ByteArray → Ot) (acc : Ot) : List RT → Ot
  | [] => acc
  | t :: r => ofA K (altO acc (ofT K t)) r
def ofH (K : ByteArray → Ot) : List RT → Ot
  | [] => (false, false, false)
  | t :: r => ofT K t
end
/-- No more than. -/
def leO (x y : Ot) : Bool := (!x.1 || y.1) && ((!x.2.1 || y.2.1) && (!x.2.2 || y.2.2))
theorem leO_refl (x : Ot) : leO x x = true := by obtain ⟨a, b, c⟩ := x; revert a b c; decide
theorem leO_trans {x y z : Ot} : leO x y = true → leO y z = true → leO x z = true := by
  obtain ⟨a, b, c⟩ := x
  obtain ⟨d, e, f⟩ := y
  obtain ⟨g, h, i⟩ := z
  revert a b c d e f g h i
  decide
theorem seqO_mono {x y a b : Ot} : leO x y = true → leO a b = true → leO (seqO x a) (seqO y b) = true := by
  obtain ⟨x1, x2, x3⟩ := x
  obtain ⟨y1, y2, y3⟩ := y
  obtain ⟨a1, a2, a3⟩ := a
  obtain ⟨b1, b2, b3⟩ := b
  revert x1 x2 x3 y1 y2 y3 a1 a2 a3 b1 b2 b3
  decide +kernel
theorem altO_mono {x y a b : Ot} : leO x y = true → leO a b = true → leO (altO x a) (altO y b) = true := by
  obtain ⟨x1, x2, x3⟩ := x
  obtain ⟨y1, y2, y3⟩ := y
  obtain ⟨a1, a2, a3⟩ := a
  obtain ⟨b1, b2, b3⟩ := b
  revert x1 x2 x3 y1 y2 y3 a1 a2 a3 b1 b2 b3
  decide +kernel
theorem oneO_mono (k : Int) {x y : Ot} : leO x y = true → leO (oneO k x) (oneO k y) = true := by
  obtain ⟨x1, x2, x3⟩ := x
  obtain ⟨y1, y2, y3⟩ := y
  unfold oneO
  by_cases h8 : k = 8
  · rw [if_pos h8, if_pos h8]; revert x1 x2 x3 y1 y2 y3; decide
  rw [if_neg h8, if_neg h8]
  by_cases h9 : k = 9
  · rw [if_pos h9, if_pos h9]; revert x1 x2 x3 y1 y2 y3; decide
  rw [if_neg h9, if_neg h9]
  by_cases h10 : k = 10
  · rw [if_pos h10, if_pos h10]; revert x1 x2 x3 y1 y2 y3; decide
  rw [if_neg h10, if_neg h10]
  by_cases h11 : k = 11
  · rw [if_pos h11, if_pos h11]; revert x1 x2 x3 y1 y2 y3; decide
  rw [if_neg h11, if_neg h11]
  by_cases h12 : k = 12
  · rw [if_pos h12, if_pos h12]; revert x1 x2 x3 y1 y2 y3; decide
  rw [if_neg h12, if_neg h12]
  intro _
  exact leO_refl _
mutual
theorem ofT_mono {K K' : ByteArray → Ot} (h : ∀ s, leO (K s) (K' s) = true) : ∀ t : RT, leO (ofT K t) (ofT K' t) = true
  | .mk k T a b c d s p => by
    rw [ofT, ofT]
    by_cases h1 : k = 1
    · rw [if_pos h1, if_pos h1]; exact leO_refl _
    rw [if_neg h1, if_neg h1]
    by_cases h2 : k = 2
    · rw [if_pos h2, if_pos h2]; exact leO_refl _
    rw [if_neg h2, if_neg h2]
    by_cases h3 : k = 3
    · rw [if_pos h3, if_pos h3]; exact leO_refl _
    rw [if_neg h3, if_neg h3]
    by_cases h4 : k = 4
    · rw [if_pos h4, if_pos h4]; exact leO_refl _
    rw [if_neg h4, if_neg h4]
    by_cases h5 : k = 5
    · rw [if_pos h5, if_pos h5]; exact h T
    rw [if_neg h5, if_neg h5]
    by_cases h6 : k = 6
    · rw [if_pos h6, if_pos h6]; exact ofS_mono h s _ _ (leO_refl _)
    rw [if_neg h6, if_neg h6]
    by_cases h7 : k = 7
    · rw [if_pos h7, if_pos h7]; exact ofA_mono h s _ _ (leO_refl _)
    rw [if_neg h7, if_neg h7]
    exact oneO_mono k (ofH_mono h s)
theorem ofS_mono {K K' : ByteArray → Ot} (h : ∀ s, leO (K s) (K' s) = true) : ∀ (l : List RT) (x y : Ot), leO x y = true → leO (ofS K x l) (ofS K' y l) = true
  | [], x, y, hx => by rw [ofS, ofS]; exact hx
  | t :: r, x, y, hx => by rw [ofS, ofS]; exact ofS_mono h r _ _ (seqO_mono hx (ofT_mono h t))
theorem ofA_mono {K K' : ByteArray → Ot} (h : ∀ s, leO (K s) (K' s) = true) : ∀ (l : List RT) (x y : Ot), leO x y = true → leO (ofA K x l) (ofA K' y l) = true
  | [], x, y, hx => by rw [ofA, ofA]; exact hx
  | t :: r, x, y, hx => by rw [ofA, ofA]; exact ofA_mono h r _ _ (altO_mono hx (ofT_mono h t))
theorem ofH_mono {K K' : ByteArray → Ot} (h : ∀ s, leO (K s) (K' s) = true) : ∀ (l : List RT), leO (ofH K l) (ofH K' l) = true
  | [] => by rw [ofH, ofH]; exact leO_refl _
  | t :: r => by rw [ofH, ofH]; exact ofT_mono h t
end
/-- One rule's answer, put in. -/
def updO (K : ByteArray → Ot) (s : ByteArray) (x : Ot) : ByteArray → Ot := fun t => if t = s then x else K t
def stpR (K : ByteArray → Ot) (x : Rr) : ByteArray → Ot := updO K x.1 (ofT K x.2.1)
/-- A round, from the back. -/
def swp (K : ByteArray → Ot) : List Rr → (ByteArray → Ot)
  | [] => K
  | x :: r => stpR (swp K r) x
def z0O : ByteArray → Ot := fun _ => (false, false, false)
def itr (rs : List Rr) : Nat → (ByteArray → Ot)
  | 0 => z0O
  | n + 1 => swp (itr rs n) rs
/-- Nothing new is found. -/
def FixO (K : ByteArray → Ot) (rs : List Rr) : Prop := ∀ x ∈ rs, ofT K x.2.1 = K x.1
theorem upd_same {K : ByteArray → Ot} {s : ByteArray} {x : Ot} (h : x = K s) : updO K s x = K := by
  funext t
  unfold updO
  by_cases e : t = s
  · rw [if_pos e, h, e]
  · rw [if_neg e]
theorem swp_fix {K : ByteArray → Ot} : ∀ {rs : List Rr}, FixO K rs → swp K rs = K
  | [], _ => rfl
  | x :: r, h => by
    rw [swp, swp_fix (fun y hy => h y (List.mem_cons_of_mem _ hy)), stpR]
    exact upd_same (h x (List.mem_cons_self ..))
theorem itr_fix {rs : List Rr} {n : Nat} (h : FixO (itr rs n) rs) : ∀ m, itr rs (n + m) = itr rs n
  | 0 => rfl
  | m + 1 => by rw [← Nat.add_assoc, itr, itr_fix h m, swp_fix h]
/-- Two rounds that find nothing new have found the same. -/
theorem itr_one {rs : List Rr} {n m : Nat} (h : FixO (itr rs n) rs) (k : FixO (itr rs m) rs) : itr rs n = itr rs m := by
  rcases Nat.le_total n m with e | e
  · rw [← Nat.add_sub_cancel' e, itr_fix h]
  · rw [← Nat.add_sub_cancel' e, itr_fix k]
/-- What is known is no more than what is found. -/
def InvO (K : ByteArray → Ot) (rs : List Rr) : Prop := ∀ x ∈ rs, leO (K x.1) (ofT K x.2.1) = true
theorem stp_le {K : ByteArray → Ot} {x : Rr} (h : leO (K x.1) (ofT K x.2.1) = true) : ∀ s, leO (K s) (stpR K x s) = true := fun s => by
  unfold stpR updO
  by_cases e : s = x.1
  · rw [if_pos e, e]; exact h
  · rw [if_neg e]; exact leO_refl _
theorem stp_inv {K : ByteArray → Ot} {rs : List Rr} {x : Rr} (hu : ∀ y ∈ rs, y.1 = x.1 → y = x) (hx : x ∈ rs) (h : InvO K rs) : InvO (stpR K x) rs := fun y hy => by
  have hle := stp_le (h x hx)
  by_cases e : y.1 = x.1
  · rw [hu y hy e]
    refine leO_trans ?_ (ofT_mono hle x.2.1)
    unfold stpR updO
    rw [if_pos rfl]
    exact leO_refl _
  · refine leO_trans ?_ (leO_trans (h y hy) (ofT_mono hle y.2.1))
    unfold stpR updO
    rw [if_neg e]
    exact leO_refl _
/-- How many answers are still lacking. -/
def bitO (x : Ot) : Nat := x.1.toNat + (x.2.1.toNat + x.2.2.toNat)
theorem bitO_le (x : Ot) : bitO x ≤ 3 := by obtain ⟨a, b, c⟩ := x; revert a b c; decide
theorem bitO_mono {x y : Ot} : leO x y = true → bitO x ≤ bitO y := by
  obtain ⟨a, b, c⟩ := x
  obtain ⟨d, e, f⟩ := y
  revert a b c d e f
  decide
theorem bitO_lt {x y : Ot} : leO x y = true → x ≠ y → bitO x < bitO y := by
  obtain ⟨a, b, c⟩ := x
  obtain ⟨d, e, f⟩ := y
  revert a b c d e f
  decide
def lck (K : ByteArray → Ot) : List Rr → Nat
  | [] => 0
  | x :: r => (3 - bitO (K x.1)) + lck K r
theorem lck_mono {K K' : ByteArray → Ot} (h : ∀ s, leO (K s) (K' s) = true) : ∀ rs : List Rr, lck K' rs ≤ lck K rs
  | [] => Nat.le_refl _
  | x :: r => by
    have h1 := lck_mono h r
    have h2 := bitO_mono (h x.1)
    rw [lck, lck]
    omega
theorem lck_lt {K K' : ByteArray → Ot} (h : ∀ s, leO (K s) (K' s) = true) : ∀ {rs : List Rr} {x : Rr}, x ∈ rs → K x.1 ≠ K' x.1 → lck K' rs < lck K rs
  | y :: r, x, hx, hne => by
    have h1 := lck_mono h r
    have h2 := bitO_mono (h y.1)
    have h4 := bitO_le (K y.1)
    have h5 := bitO_le (K' y.1)
    rw [lck, lck]
    rcases List.mem_cons.1 hx with rfl | hx
    · have h3 := bitO_lt (h x.1) hne
      omega
    · have h3 := lck_lt h hx hne
      omega
end Go.Proofs.YtgoogfbphilpmaaGreatDoor
