/-
  What nullable.Expr answers at any grammar and any tree. Conditions: those that each theorem names.
  What nullable.Rules answers. Conditions: those that each theorem names.
  The small case of layer 7's laws comes out right. Conditions: those that each theorem names.
  What nullable.Expr hands back, short; two answers held against each other. Conditions: those that each theorem names.
  A Ref of a rule as an expression under its grammar. Conditions: those that each theorem names.
  What the given list of variables gives a walk that comes to errors.As: the variable of package errors holds the handle of the type error. Condition: the list is met.
  What the given list of variables gives a walk: the table of package bits and the variable of package errors, in their places. Condition: the list is met.
  What the laws of layer 7 stand on. Conditions: those that each theorem names.
-/
import Derived.Test.YtgoogfbphilpmaaGreatDoorVU13
import Derived.Test.YtgoogfbphilpmaaGreatDoorVO15ToSC
import Derived.Test.YtgoogfbphilpmaaGreatDoorVEAsToX11
import Derived.Test.YtgoogfbphilpmaaGreatDoorRows
import Derived.ProofKit
import Derived.OpenShut
import Derived.Carry
import Derived.Test.YtgoogfbphilpmaaGreatDoorCards
import Derived.Test.YtgoogfbphilpmaaGreatDoorTie
import Derived.LaidMore
import Derived.LaidHandle
import Derived.Stop.Joined
import Derived.SizedLaws
import Derived.Lib.LaidTab
import Derived.Test.YtgoogfbphilpmaaGreatDoorVX17ToQ1
import Derived.Deep.DeepCutAuto
namespace Go.Proofs.YtgoogfbphilpmaaGreatDoor
open Go.RowKit Go.Shelf Go.Maps
set_option linter.unusedVariables false
/-- What printer.Expr answers of a tree. -/
def ExV (t : RT) (V : ByteArray) : Prop := (okT t = false → V.size = 0) ∧ (okT t = true → ∃ nd, Tq t nd ∧ Vk nd ∧ Wf Nmq nd ∧ V = exS nd)
/-- What nullable.Expr answers. -/
def ExP (rs : List Rr) (t : RT) (X : Option (Int ⊕ (Int × Int))) (V : ByteArray) (W : World) (e : Ending) (w' : World) : Prop := Below W.heap.size W w' ∧
  ((X ≠ none ∧ ∃ v, e = .returned (.tuple #[ov (false, false, false), v]) ∧ errV X W.heap.size w' v) ∨
   (X = none ∧ (V.size = 0 ∨ hrT (nmL rs) t = false) ∧ e = .returned (.tuple #[ov (false, false, false), .iface 43 (.int .i64 1)])) ∨
   (X = none ∧ V.size ≠ 0 ∧ hrT (nmL rs) t = true ∧ ∃ m, FixO (itr rs m) rs ∧ e = .returned (.tuple #[ov (ofT (itr rs m) t), .nilIface])))
theorem ck_uniq {rs : List Rr} (h : ckR rs = none) : ∀ x ∈ rs, ∀ y ∈ rs, y.1 = x.1 → y = x := fun x hx y hy e => by
  obtain ⟨i, hi, rfl⟩ := List.getElem_of_mem hx
  obtain ⟨j, hj, rfl⟩ := List.getElem_of_mem hy
  have h1 := fd_at h i hi
  have h2 := fd_at h j hj
  rw [e, h1] at h2
  obtain rfl : i = j := by omega
  rfl
theorem ok_trees {rs : List Rr} (h : okG rs = true) : ∀ x ∈ rs, nmS x.1 = true ∧ okT x.2.1 = true := fun x hx => by
  unfold okG at h
  rw [Bool.and_eq_true, Bool.and_eq_true] at h
  have := List.all_eq_true.1 h.2.2 x hx
  unfold okR at this
  rw [Bool.and_eq_true] at this
  exact this
theorem str_empty {V : ByteArray} (h : V.size = 0) : V = { data := #[] } := by
  apply ByteArray.ext
  exact Array.eq_empty_of_size_eq_zero h
theorem str_some {V : ByteArray} (h : V.size ≠ 0) : V.toList.isEmpty = false := by
  cases e : V.toList with
  | nil =>
    exfalso
    apply h
    have := congrArg List.length e
    rw [ByteArray.toList_eq] at this
    simpa using this
  | cons x r => rfl
theorem least_any (so : Option Addr) (n cap : Nat) (rs : List Rr) (B : Nat) (W : World) (h : RgIs W B so n rs) (hB : B ≤ W.heap.size) (hz : RgZ rs) (hok : okG rs = true) (hck : ckR rs = none) : Calls Tryz.prog 24 #[.agg #[.slice so n cap]] W (LsP rs W) :=
  callsIn_wide.1 (least_ok so n cap rs W (h.upto hB) hz (fun x hx => (ok_trees hok x hx).2) (ck_uniq hck) (okG_len hok).2 0)
theorem expr_text (k : Int) (T : ByteArray) (a b c d p : Int) (so : Option Addr) (n cap : Nat) (t : RT) (w : World) (hT : TabIs w) (ht : RtIs w w.heap.size t (r8 k T a b c d so n cap p)) (hz : RtZ t) (hu : RtU t) :
    ∃ V, ExV t V ∧ ∀ W : World, Below w.heap.size w W → Calls Tryz.prog 25 #[.agg (r8 k T a b c d so n cap p).toArray] W fun e w' => e = .returned (.string V) ∧ Below W.heap.size W w' := by
  cases hk : okT t with
  | false =>
    refine ⟨{ data := #[] }, ⟨fun _ => rfl, (fun h => by rw [hk] at h; cases h)⟩, fun W hW => ?_⟩
    exact nexpr_bad k T a b c d p so n cap t W (RtIs.upto hW.size t _ (ht.below hW)) hz hk
  | true =>
    obtain ⟨nd, h1, h2, h3⟩ := of_okT t hk hu
    refine ⟨exS nd, ⟨(fun h => by rw [hk] at h; cases h), fun _ => ⟨nd, h1, h2, h3, rfl⟩⟩, fun W hW => ?_⟩
    exact nexpr_ok k T a b c d p so n cap t nd W (hT.below hW hT.lt) (RtIs.upto hW.size t _ (ht.below hW)) hz h1 h2 h3
theorem uexpr_any (so : Option Addr) (n cap : Nat) (rs : List Rr) (X : Option (Int ⊕ (Int × Int))) (k : Int) (T : ByteArray) (a b c d p : Int) (so1 : Option Addr) (n1 cap1 : Nat) (t : RT) (B : Nat) (w : World) (hX : CkX rs X) (hC : CkC so n cap rs X w) (hT : TabIs w) (hz : RgZ rs) (h : RgIs w B so n rs) (hB : B ≤ w.heap.size) (ht : RtIs w w.heap.size t (r8 k T a b c d so1 n1 cap1 p)) (htz : RtZ t) (htu : RtU t) :
    ∃ V, ExV t V ∧ ∀ W : World, Below w.heap.size w W → Calls Tryz.prog 11 #[.agg #[.slice so n cap], .agg (r8 k T a b c d so1 n1 cap1 p).toArray] W (ExP rs t X V W) := by
  obtain ⟨V, hV, hE⟩ := expr_text k T a b c d p so1 n1 cap1 t w hT ht htz htu
  refine ⟨V, hV, fun W hW => ?_⟩
  have hCh : ∀ W' : World, Below W.heap.size W W' → Calls Tryz.prog 23 #[.agg #[.slice so n cap]] W' fun e w' => ∃ v, e = .returned v ∧ errV X W'.heap.size w' v ∧ Below W'.heap.size W' w' := fun W' hW' => check_of so n cap rs X W' (hC.from (hW.trans (hW'.mono hW.size)))
  have hup : ∀ {W'}, Below W.heap.size W W' → Below w.heap.size w W' := fun hW' => hW.trans (hW'.mono hW.size)
  cases X with
  | some x =>
    refine (uexpr_err so n cap (some x) k T a b c d so1 n1 cap1 p W (by simp) hCh).mono fun e w' he => ?_
    obtain ⟨v, h1, h2, h3⟩ := he
    exact ⟨h3, .inl ⟨by simp, v, h1, h2⟩⟩
  | none =>
    have hN : ∀ W' : World, Below W.heap.size W W' → Calls Tryz.prog 23 #[.agg #[.slice so n cap]] W' fun e w' => e = .returned .nilIface ∧ Below W'.heap.size W' w' := fun W' hW' => (hCh W' hW').mono fun e w' he => by
      obtain ⟨v, h1, h2, h3⟩ := he
      have h2 : v = .nilIface := h2
      rw [h1, h2]
      exact ⟨rfl, h3⟩
    have hE2 := fun (W' : World) (hW' : Below W.heap.size W W') => hE W' (hup hW')
    have hH : ∀ W' : World, Below W.heap.size W W' → Calls Tryz.prog 26 #[.agg #[.slice so n cap], .agg (r8 k T a b c d so1 n1 cap1 p).toArray] W' fun e w' => e = .returned (.bool (hrT (nmL rs) t)) ∧ Below W'.heap.size W' w' := fun W' hW' =>
      uhas_all (nmL rs) rs rfl so n cap B _ t _ w.heap.size W' (Nat.lt_succ_self _) (ht.below (hup hW')) (hup hW').size (h.below ((hup hW').mono hB)) (Nat.le_trans hB (hup hW').size)
    by_cases h0 : V.size = 0
    · refine (uexpr_arg so n cap k T a b c d so1 n1 cap1 p W V _ (.inl (str_empty h0)) hN hE2 hH).mono fun e w' he => ?_
      exact ⟨he.2, .inr (.inl ⟨rfl, .inl h0, he.1⟩)⟩
    · cases hh : hrT (nmL rs) t with
      | false =>
        refine (uexpr_arg so n cap k T a b c d so1 n1 cap1 p W V _ (.inr ⟨str_some h0, hh⟩) hN hE2 hH).mono fun e w' he => ?_
        exact ⟨he.2, .inr (.inl ⟨rfl, .inr hh, he.1⟩)⟩
      | true =>
        rw [hh] at hH
        obtain ⟨hok, hck, _⟩ := hX
        have hokT : okT t = true := by
          cases e : okT t with
          | true => rfl
          | false => exact absurd (hV.1 e) h0
        refine (uexpr_ok so n cap rs k T a b c d so1 n1 cap1 p t W V (str_some h0) hN hE2 hH (fun W' hW' => least_any so n cap rs B W' (h.below ((hup hW').mono hB)) (Nat.le_trans hB (hup hW').size) hz hok hck) (fun W' M nn m hW' hNm => uof_any M nn (itr rs m) t _ W' w.heap.size (ht.below (hup hW')) (hup hW').size htz hokT hNm)).mono fun e w' he => ?_
        obtain ⟨m, h1, h2, h3⟩ := he
        exact ⟨h3, .inr (.inr ⟨rfl, h0, hh, m, h1, h2⟩)⟩
end Go.Proofs.YtgoogfbphilpmaaGreatDoor
namespace Go.Proofs.YtgoogfbphilpmaaGreatDoor
open Go.RowKit Go.Shelf Go.Maps
set_option linter.unusedVariables false
theorem Tryz.infoOut : (Tryz.prog.info? 39).map (fun i => (i.zero, i.size, i.bytes)) = some (some (.agg #[.bool false, .bool false, .bool false]), 3, 3) := by kernel_rfl
theorem Tryz.sliceOuts : Tryz.prog.underlying 33 = some (.slice 39) := by kernel_rfl
theorem mkouts (n : Nat) (hn : n ≤ 1048576) (W : World) : (Instr.makeSlice 33 (.int .i64 (n : Int)) (.int .i64 (n : Int))).run Tryz.prog W = .ok (.slice (some ⟨W.heap.size, 0, none⟩) n n) (W.alloc (.cells (madeCells #[.bool false, .bool false, .bool false] (n * 3)) 39)) := by
  obtain ⟨i0, hi0, hz0, hz1, hz2⟩ := info_parts Tryz.infoOut
  rw [run_make W 33 39 i0 _ Tryz.sliceOuts hi0 hz0 .i64 .i64 n n (by omega) (by omega) (by rw [hz2]; omega) (by omega), hz1]
  simp [Value.cells]
/-- The first rules' answers, three cells each. -/
def OuC (cs : Array Value) (rs : List Rr) (K : ByteArray → Ot) (j : Nat) : Prop := cs.size = rs.length * 3 ∧ ∀ i (hi : i < rs.length), i < j → cs[i * 3]? = some (.bool (K rs[i].1).1) ∧ cs[i * 3 + 1]? = some (.bool (K rs[i].1).2.1) ∧ cs[i * 3 + 2]? = some (.bool (K rs[i].1).2.2)
theorem OuC.old {cs : Array Value} {rs : List Rr} {K : ByteArray → Ot} {j : Nat} (h : OuC cs rs K j) (hj : j < rs.length) : ∃ v0 v1 v2, cs[j * 3]? = some v0 ∧ cs[j * 3 + 1]? = some v1 ∧ cs[j * 3 + 2]? = some v2 :=
  ⟨_, _, _, Array.getElem?_eq_getElem (by rw [h.1]; omega), Array.getElem?_eq_getElem (by rw [h.1]; omega), Array.getElem?_eq_getElem (by rw [h.1]; omega)⟩
theorem OuC.step {cs : Array Value} {rs : List Rr} {K : ByteArray → Ot} {j : Nat} (h : OuC cs rs K j) (hj : j < rs.length) {y1 y2 y3 : Bool} (hy : (y1, y2, y3) = K rs[j].1) : OuC (((cs.setIfInBounds (j * 3) (.bool y1)).setIfInBounds (j * 3 + 1) (.bool y2)).setIfInBounds (j * 3 + 2) (.bool y3)) rs K (j + 1) := by
  have hs := h.1
  refine ⟨by simp [hs], fun i hi hij => ?_⟩
  have g : ∀ k v, k < cs.size → k ≠ j * 3 → k ≠ j * 3 + 1 → k ≠ j * 3 + 2 → cs[k]? = some v → (((cs.setIfInBounds (j * 3) (.bool y1)).setIfInBounds (j * 3 + 1) (.bool y2)).setIfInBounds (j * 3 + 2) (.bool y3))[k]? = some v := fun k v hk h0 h1 h2 hv => by
    rw [Array.getElem?_setIfInBounds_ne (fun e => h2 e.symm), Array.getElem?_setIfInBounds_ne (fun e => h1 e.symm), Array.getElem?_setIfInBounds_ne (fun e => h0 e.symm)]
    exact hv
  rcases Nat.lt_or_ge i j with h1 | h1
  · obtain ⟨a, b, c⟩ := h.2 i hi h1
    exact ⟨g _ _ (by omega) (by omega) (by omega) (by omega) a, g _ _ (by omega) (by omega) (by omega) (by omega) b, g _ _ (by omega) (by omega) (by omega) (by omega) c⟩
  · obtain rfl : i = j := by omega
    rw [← hy]
    refine ⟨?_, ?_, ?_⟩
    · rw [Array.getElem?_setIfInBounds_ne (by omega), Array.getElem?_setIfInBounds_ne (by omega), Array.getElem?_setIfInBounds_self_of_lt (by omega)]
    · rw [Array.getElem?_setIfInBounds_ne (by omega), Array.getElem?_setIfInBounds_self_of_lt (by simp; omega)]
    · rw [Array.getElem?_setIfInBounds_self_of_lt (by simp; omega)]
/-- What nullable.Rules answers. -/
def RuP (rs : List Rr) (X : Option (Int ⊕ (Int × Int))) (W : World) (e : Ending) (w' : World) : Prop := Below W.heap.size W w' ∧
  ((X ≠ none ∧ ∃ v, e = .returned (.tuple #[.slice none 0 0, v]) ∧ errV X W.heap.size w' v) ∨
   (X = none ∧ ∃ ub m cs, e = .returned (.tuple #[.slice (some ⟨ub, 0, none⟩) rs.length rs.length, .nilIface]) ∧ W.heap.size ≤ ub ∧ FixO (itr rs m) rs ∧ w'.heap[ub]? = some (.cells cs 39) ∧ OuC cs rs (itr rs m) rs.length))
set_option maxRecDepth 100000 in
set_option maxHeartbeats 8000000 in
theorem urules_err (so : Option Addr) (n cap : Nat) (X : Option (Int ⊕ (Int × Int))) (w : World) (hX : X ≠ none)
    (HC : Hid (∀ W : World, Below w.heap.size w W → Calls Tryz.prog 23 #[.agg #[.slice so n cap]] W fun e w' => ∃ v, e = .returned v ∧ errV X W.heap.size w' v ∧ Below W.heap.size W w')) :
    Calls Tryz.prog 10 #[.agg #[.slice so n cap]] w fun e w' => ∃ v, e = .returned (.tuple #[.slice none 0 0, v]) ∧ errV X w.heap.size w' v ∧ Below w.heap.size w w' := by
  obtain ⟨W1, hW1⟩ : ∃ W1, W1 = w.alloc (.cells #[.slice so n cap] 24) := ⟨_, rfl⟩
  have hB1 : Below w.heap.size w W1 := by rw [hW1]; exact (Below.refl _ w).alloc (Nat.le_refl _) _
  have HS := hid (HC.out W1 hB1)
  have HB1 := hid hB1
  have HW1 := hid hW1
  clear hW1 hB1 HC
  go_enter Tryz.func10, Tryz.ntmps10
  go_wp2_with fail
  rw [← HW1.out]
  refine HS.out.mono ?_
  rintro e w2 ⟨v, rfl, hv, hb2⟩
  obtain ⟨tt, uu, rfl⟩ := hv.shape hX
  have HV := hid hv
  have HB2 := hid (HB1.out.trans (hb2.mono HB1.out.size))
  have HSz := hid HB1.out.size
  clear hv hb2 HS HW1 HB1
  go_wp2_with fail
  go_ret2
  exact ⟨_, rfl, HV.out.lo HSz.out, HB2.out⟩
set_option maxRecDepth 100000 in
set_option maxHeartbeats 8000000 in
theorem urules_ok (so : Option Addr) (n cap : Nat) (rs : List Rr) (w : World) (h : RgIs w w.heap.size so n rs) (HZ : Hid (RgZ rs)) (hn : n ≤ 1048576)
    (HC : Hid (∀ W : World, Below w.heap.size w W → Calls Tryz.prog 23 #[.agg #[.slice so n cap]] W fun e w' => e = .returned .nilIface ∧ Below W.heap.size W w'))
    (HL : Hid (∀ W : World, Below w.heap.size w W → Calls Tryz.prog 24 #[.agg #[.slice so n cap]] W (LsP rs W))) :
    Calls Tryz.prog 10 #[.agg #[.slice so n cap]] w (RuP rs none w) := by
  obtain ⟨W1, hW1⟩ : ∃ W1, W1 = w.alloc (.cells #[.slice so n cap] 24) := ⟨_, rfl⟩
  have hB1 : Below w.heap.size w W1 := by rw [hW1]; exact (Below.refl _ w).alloc (Nat.le_refl _) _
  have HG1 : Hid (W1.heap[w.heap.size]? = some (.cells #[.slice so n cap] 24)) := by rw [hW1]; exact new_block_at w _ rfl
  have HS := hid (HC.out W1 hB1)
  have HB1 := hid hB1
  have HW1 := hid hW1
  have hmk := mkouts n hn
  have HR := hid h
  have HNl : Hid (n = rs.length) := h.1
  clear hW1 hB1 HC h
  go_enter Tryz.func10, Tryz.ntmps10
  go_wp2_with fail
  rw [← HW1.out]
  refine HS.out.mono ?_
  rintro e w2 ⟨rfl, hb2⟩
  have HB2 := hid (HB1.out.trans (hb2.mono HB1.out.size))
  have HG2 := hid ((hb2.block _ (node_lt HG1.out)).trans HG1.out)
  obtain ⟨g2, _⟩ := one_cell HG2.out
  have lg2 := node_lt HG2.out
  clear hb2 HS HW1 HB1 HG1
  go_wp2_with (first
    | (go_at_call 24; refine (HL.out _ HB2.out).mono ?_; rintro e w3 ⟨M, nn, m, rfl, hM, hNm, hFx, hb3⟩; have HB3 := hid (HB2.out.trans (hb3.mono HB2.out.size)); have HG3 := hid ((hb3.block _ lg2).trans HG2.out); obtain ⟨g3, _⟩ := one_cell HG3.out; have lg3 := node_lt HG3.out; have HNm := hid hNm; have HFx := hid hFx; clear hNm hFx hb3))
  obtain ⟨ub, hub⟩ : ∃ ub, ub = w3.heap.size := ⟨_, rfl⟩
  obtain ⟨W4, hW4⟩ : ∃ W4, W4 = w3.alloc (.cells (madeCells #[.bool false, .bool false, .bool false] (n * 3)) 39) := ⟨_, rfl⟩
  have HB4 : Hid (Below w.heap.size w W4) := by rw [hW4]; exact HB3.out.alloc HB3.out.size _
  have HN4 : Hid (Nm W4 M nn (itr rs m)) := by rw [hW4]; exact HNm.out.kept (World.grownBy_alloc _ _ none) (by simp)
  have HU4 : Hid (W4.heap[ub]? = some (.cells (madeCells #[.bool false, .bool false, .bool false] (n * 3)) 39)) := by rw [hW4, hub]; exact new_block_at _ _ rfl
  have HO4 : Hid (OuC (madeCells #[.bool false, .bool false, .bool false] (n * 3)) rs (itr rs m) 0) := ⟨by rw [size_madeCells, HNl.out], fun i hi h0 => by omega⟩
  have hMu : M < ub := by rw [hub]; exact HNm.out.lt
  have hwu : w.heap.size ≤ ub := by rw [hub]; exact HB3.out.size
  rw [← hW4, ← hub]
  clear hW4 hub HB3 HG3 g3 lg3 HNm hmk HB2 HG2 g2 lg2 HL
  go_loopw [23] (fun i wr => ∃ j : Nat, i = .int .i64 (j : Int) ∧ j ≤ n ∧ Hid (Below w.heap.size w wr) ∧ Hid (Nm wr M nn (itr rs m)) ∧ Hid (∃ cs, wr.heap[ub]? = some (.cells cs 39) ∧ OuC cs rs (itr rs m) j)) (fun i _ => n - (intOf i).toNat)
  case atStart => exact ⟨0, rfl, Nat.zero_le _, HB4, HN4, ⟨_, HU4.out, HO4.out⟩⟩
  case round =>
    obtain ⟨j, rfl, hj, HB, HN, HC⟩ := hrel
    by_cases hjn : j < n
    · have hjI : (j : Int) < (n : Int) := by omega
      have a0 : decide ((j : Int) < (n : Int)) = true := by simp; omega
      have hjs : j < rs.length := by rw [← HNl.out]; exact hjn
      obtain ⟨g, o, rfl, hg, k1, T1, a1, b1, c1, d1, so1, n1, cap1, p1, hrt, r0⟩ := HR.out.2.2 j hjs
      have hce : ∀ q, wr.cell? ⟨g, q, none⟩ = w.cell? ⟨g, q, none⟩ := fun q => HB.out.cell (p := ⟨g, q, none⟩) hg
      simp only [← hce] at r0
      obtain ⟨z0, z1, z2, z3, z4, z5, z6, z7, z8, z9⟩ := r0
      have hgl : g < wr.heap.size := World.block_lt_of_cell? wr _ z0
      obtain ⟨N0, hN0⟩ : ∃ N0, N0 = rs[j].1 := ⟨_, rfl⟩
      obtain ⟨q1, hq1⟩ : ∃ q1, q1 = rs[j].2.2 := ⟨_, rfl⟩
      rw [← hN0] at z0
      rw [← hq1] at z9
      have hNz : N0.size ≤ maxLen := by rw [hN0]; exact (HZ.out _ (List.getElem_mem hjs)).1
      obtain ⟨⟨y1, y2, y3⟩, hy⟩ : ∃ y, y = itr rs m N0 := ⟨_, rfl⟩
      have hbA := (Below.refl _ wr).alloc (Nat.le_refl _) (.cells #[.string N0, .int .i64 k1, .string T1, .int .u64 a1, .int .u64 b1, .int .u64 c1, .int .u64 d1, .slice so1 n1 cap1, .int .i64 p1, .int .i64 q1] 52)
      have hNA := HN.out.below hbA HN.out.lt
      have hL := hNA.look hNz
      rw [← hy] at hL
      dsimp only [ov] at hL
      obtain ⟨cs, hcs, hou⟩ := HC.out
      have hcA := (hbA.block _ (node_lt hcs)).trans hcs
      obtain ⟨v0, v1, v2, e0, e1, e2⟩ := hou.old hjs
      obtain ⟨x0, f0⟩ := cell_in hcA _ _ e0
      obtain ⟨x1, f1⟩ := cell_in hcA _ _ e1
      obtain ⟨x2, f2⟩ := cell_in hcA _ _ e2
      have lu := node_lt hcA
      have HY : Hid ((y1, y2, y3) = itr rs m rs[j].1) := by rw [← hN0]; exact hy
      have HCA := hid hcA
      have HOU := hid hou
      have HNA := hid hNA
      have HBA := hid (HB.out.alloc HB.out.size (.cells #[.string N0, .int .i64 k1, .string T1, .int .u64 a1, .int .u64 b1, .int .u64 c1, .int .u64 d1, .slice so1 n1 cap1, .int .i64 p1, .int .i64 q1] 52))
      clear hce hN0 hq1 hy hbA hNA hcs hou hcA e0 e1 e2 HC hrt
      go_wp2_with fail
      have hgs : ∀ (W : World) (a b c : Value), W.grownBy (((W.setCell ⟨ub, j * 3, none⟩ a).setCell ⟨ub, j * 3 + 1, none⟩ b).setCell ⟨ub, j * 3 + 2, none⟩ c) (some ub) := fun W a b c => G.setR (G.setR (G.setR (G.refl _ _)))
      exact ⟨⟨j + 1, by go_num, by omega, hid (HBA.out.grown (hgs _ _ _ _) HBA.out.size (fun g e => by have := Option.some.inj e; omega)), hid (HNA.out.kept (hgs _ _ _ _) (fun e => by have := Option.some.inj e; omega)), hid ⟨_, set_in (set_in (set_in HCA.out _ _) _ _) _ _, HOU.out.step hjs HY.out⟩⟩, by simp [intOf]; omega⟩
    · have a0 : decide ((j : Int) < (n : Int)) = false := by simp; omega
      obtain ⟨cs, hcs, hou⟩ := HC.out
      have HCS := hid hcs
      have hjn2 : j = n := by omega
      subst hjn2
      have HOU := hid hou
      rw [HNl.out] at HOU
      clear hcs hou HC
      go_wp2_with fail
      go_ret2
      exact ⟨HB.out, .inr ⟨rfl, ub, m, cs, by rw [← HNl.out]; rfl, hwu, HFx.out, HCS.out, HOU.out⟩⟩
theorem urules_any (so : Option Addr) (n cap : Nat) (rs : List Rr) (X : Option (Int ⊕ (Int × Int))) (B : Nat) (w : World) (hX : CkX rs X) (hC : CkC so n cap rs X w) (hz : RgZ rs) (h : RgIs w B so n rs) (hB : B ≤ w.heap.size) : ∀ W : World, Below w.heap.size w W → Calls Tryz.prog 10 #[.agg #[.slice so n cap]] W (RuP rs X W) := fun W hW => by
  have hup : ∀ {W'}, Below W.heap.size W W' → Below w.heap.size w W' := fun hW' => hW.trans (hW'.mono hW.size)
  have hCh : ∀ W' : World, Below W.heap.size W W' → Calls Tryz.prog 23 #[.agg #[.slice so n cap]] W' fun e w' => ∃ v, e = .returned v ∧ errV X W'.heap.size w' v ∧ Below W'.heap.size W' w' := fun W' hW' => check_of so n cap rs X W' (hC.from (hup hW'))
  cases X with
  | some x =>
    refine (urules_err so n cap (some x) W (by simp) hCh).mono fun e w' he => ?_
    obtain ⟨v, h1, h2, h3⟩ := he
    exact ⟨h3, .inl ⟨by simp, v, h1, h2⟩⟩
  | none =>
    obtain ⟨hok, hck, _⟩ := hX
    have hlen := (okG_len hok).2
    refine urules_ok so n cap rs W ((h.below (hW.mono hB)).upto (Nat.le_trans hB hW.size)) hz (by have := h.1; omega) (fun W' hW' => (hCh W' hW').mono fun e w' he => ?_) (fun W' hW' => least_any so n cap rs B W' (h.below ((hup hW').mono hB)) (Nat.le_trans hB (hup hW').size) hz hok hck)
    obtain ⟨v, h1, h2, h3⟩ := he
    have h2 : v = .nilIface := h2
    rw [h1, h2]
    exact ⟨rfl, h3⟩
end Go.Proofs.YtgoogfbphilpmaaGreatDoor
namespace Go.Proofs.YtgoogfbphilpmaaGreatDoor
open Go.RowKit Go.Shelf Go.Maps
set_option linter.unusedVariables false
@[reducible] def smN : ByteArray := { data := #[97, 32, 60, 45, 32, 98, 42, 32, 39, 120, 39, 63, 32, 98, 32, 60, 45, 32, 91, 48, 45, 57, 93] }
def smBN (x : Nat) : Bool := match parS smN with
  | .inr rs => decide (sz (pR qT cT rs) ≤ 8192) && (decide (dR rs ≤ 24) && (decide (ckR (toG rs) = none) && (decide ((toG rs).length = 2) && ((toG rs).all (fun x => decide (ofT (itr (toG rs) 3) x.2.1 = itr (toG rs) 3 x.1)) && decide ((toG rs).map (fun x => itr (toG rs) 3 x.1) = [(true, true, false), (false, true, true)])))))
  | .inl _ => false
theorem smBN_ok : ∀ x, x < 1 → smBN x = true := by decide +kernel
theorem small_N : ∃ rs, parS smN = .inr rs ∧ sz (pR qT cT rs) ≤ 8192 ∧ dR rs ≤ 24 ∧ ckR (toG rs) = none ∧ (toG rs).length = 2 ∧ FixO (itr (toG rs) 3) (toG rs) ∧ (toG rs).map (fun x => itr (toG rs) 3 x.1) = [(true, true, false), (false, true, true)] := by
  have h := smBN_ok 0 (by decide)
  unfold smBN at h
  cases hp : parS smN with
  | inl c => rw [hp] at h; cases h
  | inr rs =>
    rw [hp] at h
    simp only [Bool.and_eq_true, decide_eq_true_eq] at h
    obtain ⟨h1, h2, h3, h4, h5, h6⟩ := h
    exact ⟨rs, rfl, h1, h2, h3, h4, fun x hx => by simpa using List.all_eq_true.1 h5 x hx, h6⟩
set_option maxRecDepth 100000 in
set_option maxHeartbeats 8000000 in
theorem usmall_ok (w : World) (h : ErrIs w) (hT : TabIs w) : Calls Tryz.prog 8 #[] w fun e w' => e = .returned (.bool true) ∧ Hid (Below w.heap.size w w') := by
  obtain ⟨rs, hp, hs1, hs2, hck, hl2, hfx, hmp⟩ := small_N
  have HPA := hid (yparse_any smN w h (by decide))
  rw [hp] at HPA
  have HR := hid (fun (g n cap : Nat) (W : World) (hr : RoR w.heap.size (.slice (some ⟨g, 0, none⟩) n cap) rs W) (hb : Below w.heap.size w W) => checked_read (by decide) hp hs1 hs2 _ g n cap W hr (hT.below hb hT.lt))
  have HXA : Hid (xOf (toG rs) = none) := by show _ = _; unfold xOf; rw [hck]; rfl
  have HFx := hid hfx
  have HMp := hid hmp
  have HL2 : Hid ((toG rs).length = 2) := hl2
  obtain ⟨n, hn⟩ : ∃ n, n = rs.length := ⟨_, rfl⟩
  unfold AnsD at HPA
  simp only at HPA
  rw [← hn] at HPA
  have he0 := eq_out (true, true, false) (true, true, false)
  have he1 := eq_out (false, true, true) (false, true, true)
  dsimp only [ov] at he0 he1
  rw [decide_eq_true rfl] at he0 he1
  clear h hT hp hs1 hs2 hck hfx hmp hl2 hn
  go_enter Tryz.func8, Tryz.ntmps8
  go_wp2_with fail
  refine HPA.out.mono ?_
  rintro e w1 ⟨g, cap, rfl, HRo, HB⟩
  obtain ⟨u1, hu1⟩ : ∃ u1, u1 = w1.alloc (.cells #[.slice (some ⟨g, 0, none⟩) n cap] 24) := ⟨_, rfl⟩
  have hb11 : Below w1.heap.size w1 u1 := by rw [hu1]; exact (Below.refl _ w1).alloc (Nat.le_refl _) _
  have HBu := hid (HB.out.trans (hb11.mono HB.out.size))
  obtain ⟨hi, hz, hX, hC⟩ := HR.out g n cap u1 (HRo.out.below hb11) HBu.out
  have HRu := hid (urules_any _ n cap _ _ u1.heap.size u1 hX hC hz hi (Nat.le_refl _) u1 (Below.refl _ _))
  rw [HXA.out] at HRu
  clear HPA HRo hi hz hX hC HR hb11
  go_wp2_with fail
  rw [← hu1]
  refine HRu.out.mono ?_
  rintro e w2 ⟨hb2, hre⟩
  rcases hre with ⟨hx, _⟩ | ⟨_, ub, m, cs, rfl, hub, hfx, hcs, hou⟩
  · exact absurd rfl hx
  have eK : itr (toG rs) m = itr (toG rs) 3 := itr_one hfx HFx.out
  rw [eK] at hou
  have h2 := HL2.out
  obtain ⟨r1, r2, er⟩ : ∃ r1 r2, toG rs = [r1, r2] := by
    cases e : toG rs with
    | nil => rw [e] at h2; cases h2
    | cons a r => cases r with
      | nil => rw [e] at h2; cases h2
      | cons b r => cases r with
        | nil => exact ⟨a, b, rfl⟩
        | cons c r => rw [e] at h2; simp at h2
  have hm := HMp.out
  have k1 : itr (toG rs) 3 r1.1 = (true, true, false) := by
    rw [er] at hm ⊢
    exact (List.cons.inj hm).1
  have k2 : itr (toG rs) 3 r2.1 = (false, true, true) := by
    rw [er] at hm ⊢
    exact (List.cons.inj (List.cons.inj hm).2).1
  have o1 := hou.2 0 (by omega) (by omega)
  have o2 := hou.2 1 (by omega) (by omega)
  have g1 : (toG rs)[0]'(by omega) = r1 := by simp [er]
  have g2 : (toG rs)[1]'(by omega) = r2 := by simp [er]
  rw [g1, k1] at o1
  rw [g2, k2] at o2
  have c0 := (cell_in hcs _ _ o1.1).1
  have c1 := (cell_in hcs _ _ o1.2.1).1
  have c2 := (cell_in hcs _ _ o1.2.2).1
  have c3 := (cell_in hcs _ _ o2.1).1
  have c4 := (cell_in hcs _ _ o2.2.1).1
  have c5 := (cell_in hcs _ _ o2.2.2).1
  simp only [Nat.zero_mul, Nat.one_mul, Nat.zero_add, Nat.reduceAdd] at c0 c1 c2 c3 c4 c5
  have lu := node_lt hcs
  rw [h2]
  have HB2 := hid (HBu.out.trans (hb2.mono HBu.out.size))
  clear HRu hu1 HB HBu hb2 hub hfx hou hcs h2 er hm k1 k2 o1 o2 g1 g2 eK HFx HMp HL2 HXA
  go_wp2_with fail
  go_ret
  exact ⟨rfl, HB2⟩
end Go.Proofs.YtgoogfbphilpmaaGreatDoor
namespace Go.Proofs.YtgoogfbphilpmaaGreatDoor
open Go.RowKit Go.Shelf Go.Maps
set_option linter.unusedVariables false
theorem eq_same (a b c : Bool) (w : World) : (Op.equalIn 10000 39 (.agg #[.bool a, .bool b, .bool c]) (.agg #[.bool a, .bool b, .bool c])).run Tryz.prog w = .ok true w := by
  have := eq_out (a, b, c) (a, b, c) w
  rw [decide_eq_true rfl] at this
  exact this
/-- What nullable.Expr hands back, short. -/
def ExW (rs : List Rr) (t : RT) (W : World) (e : Ending) (w' : World) : Prop := ∃ (x1 x2 x3 : Bool) (v : Value), e = .returned (.tuple #[.agg #[.bool x1, .bool x2, .bool x3], v]) ∧ Hid (Below W.heap.size W w') ∧ ((∃ tt uu, v = .iface tt uu) ∨ (v = .nilIface ∧ Hid (∃ m, FixO (itr rs m) rs ∧ (x1, x2, x3) = ofT (itr rs m) t)))
theorem ExP.short {rs : List Rr} {t : RT} {X : Option (Int ⊕ (Int × Int))} {V : ByteArray} {W : World} {e : Ending} {w' : World} (h : ExP rs t X V W e w') : ExW rs t W e w' := by
  obtain ⟨hb, ⟨hX, v, h1, h2⟩ | ⟨_, _, h1⟩ | ⟨_, _, _, m, h1, h2⟩⟩ := h
  · obtain ⟨tt, uu, rfl⟩ := h2.shape hX
    exact ⟨false, false, false, _, h1, hb, .inl ⟨tt, uu, rfl⟩⟩
  · exact ⟨false, false, false, _, h1, hb, .inl ⟨_, _, rfl⟩⟩
  · exact ⟨_, _, _, _, h2, hb, .inr ⟨rfl, m, h1, rfl⟩⟩
theorem blk_keep {W W' : World} {B : Nat} {o : Obj} (h : Hid (W.heap[B]? = some o)) (hb : Below W.heap.size W W') : Hid (W'.heap[B]? = some o) := (hb.block _ (node_lt h.out)).trans h.out
end Go.Proofs.YtgoogfbphilpmaaGreatDoor
namespace Go.Proofs.YtgoogfbphilpmaaGreatDoor
open Go.RowKit Go.Shelf Go.Maps
set_option linter.unusedVariables false
theorem ref_some {T : ByteArray} (hT : nmS T = true) {V : ByteArray} (hV : ExV (.mk 5 T 0 0 0 0 [] 0) V) : V.size ≠ 0 := by
  have hok : okT (.mk 5 T 0 0 0 0 [] 0) = true := by
    rw [okT, okL, Bool.and_true]
    unfold okN
    rw [if_neg (by decide), if_neg (by decide), if_neg (by decide), if_pos rfl, hT]
    rfl
  obtain ⟨nd, hq, hv, hw, rfl⟩ := hV.2 hok
  obtain ⟨kd, T', C, s', p'⟩ := nd
  rw [Tq] at hq
  obtain ⟨hk, rfl, _, _, _, _, hs⟩ := hq
  obtain rfl : kd = 5 := by omega
  have h1 := nmq_pos hT
  have h32 : T'.size ≤ 32 := by
    unfold nmS at hT
    cases hb : bt T' 0 with
    | none => rw [hb] at hT; cases hT
    | some x =>
      rw [hb] at hT
      simp only [Bool.and_eq_true, decide_eq_true_eq] at hT
      exact hT.1.1
  cases s' with
  | cons a r => simp [TqL] at hs
  | nil =>
    have hp : pN qT cT (.mk 5 T' C [] p') = [T'] := by rw [pN]; simp
    have hd : dN (.mk 5 T' C [] p') = 0 := by rw [dN, if_neg (by decide), dS]
    have hz : sz (pR qT cT [(bA, .mk 5 T' C [] p', 0)]) ≤ 8192 := by
      rw [pR, hp, pR]
      simp only [sz, List.cons_append, List.nil_append]
      have e1 : bA.size = 1 := rfl
      have e2 : bAr.size ≤ 10 := by decide
      have e3 : bNl.size ≤ 10 := by decide
      omega
    have hdr : dR [(bA, Nd.mk 5 T' C [] p', 0)] ≤ 24 := by
      rw [dR, dR, hd]
      decide
    unfold exS
    rw [if_neg (by omega), hp]
    have := cat_size [T']
    rw [sz, sz] at this
    omega
theorem ref_z {T : ByteArray} (h : T.size ≤ 9223372036854775807) : RtZ (.mk 5 T 0 0 0 0 [] 0) := by rw [RtZ, RtsZ]; exact ⟨h, trivial⟩
theorem ref_u (T : ByteArray) : RtU (.mk 5 T 0 0 0 0 [] 0) := by rw [RtU, RtsU]; exact ⟨by decide, by decide, by decide, by decide, trivial⟩
theorem ref_is (T : ByteArray) (W : World) : RtIs W W.heap.size (.mk 5 T 0 0 0 0 [] 0) (r8 5 T 0 0 0 0 none 0 0 0) := by
  rw [RtIs]
  exact ⟨none, 0, rfl, .inl rfl⟩
theorem inN_mem {s : ByteArray} : ∀ {l : List ByteArray}, s ∈ l → inN s l = true
  | [], h => by simp at h
  | a :: r, h => by
    rw [inN]
    by_cases e : a = s
    · rw [if_pos e]
    · rw [if_neg e]
      rcases List.mem_cons.1 h with h | h
      · exact absurd h.symm e
      · exact inN_mem h
end Go.Proofs.YtgoogfbphilpmaaGreatDoor
namespace Go.Proofs.YtgoogfbphilpmaaGreatDoor
open Go.ChangeShapes Go.WideShapes Go.RowKit
set_option linter.unusedVariables false
theorem Tryz.own : ownKnob Tryz.prog.godebug = none := by kernel_rfl
theorem Tryz.et : Tryz.prog.globalNamed "errors.errorType" = some 0 := by kernel_rfl
theorem Tryz.rt : (Tryz.prog.cutTypes.find? (·.1 == "internal/reflectlite.rtype")).map (·.2) = some 154 := by kernel_rfl
theorem Tryz.oneRow : ((List.range 283).filter fun t => Tryz.prog.rowNamed t [101, 114, 114, 111, 114]) = [35] := by kernel_rfl
theorem Tryz.nTypes : Tryz.prog.types.size = 283 := by kernel_rfl
theorem err_laid {W : World} {l : List (String × DataW Unit)} (h : handlesMet Tryz.prog l W) (hm : ("errors.errorType", Rows.laid_errors_errorType) ∈ l) : ErrIs W := by
  obtain ⟨name, u, ty, e1, e2, e3, e4, e5⟩ := h _ hm
  have en : name = [101, 114, 114, 111, 114] := (Option.some.inj e1).symm
  subst en
  obtain rfl := Option.some.inj (Tryz.rt.symm.trans e2)
  have hm : ty ∈ (List.range 283).filter fun t => Tryz.prog.rowNamed t [101, 114, 114, 111, 114] := List.mem_filter.2 ⟨List.mem_range.2 (by rw [← Tryz.nTypes]; exact e3), e4⟩
  rw [Tryz.oneRow] at hm
  obtain rfl := List.mem_singleton.1 hm
  have hh : typeHandle Tryz.prog 35 = .pointer (some ⟨3, 35, none⟩) := by kernel_rfl
  rw [hh] at e5
  have := World.var?_cell Tryz.et e5 0
  unfold ErrIs
  simpa using this
end Go.Proofs.YtgoogfbphilpmaaGreatDoor
namespace Go.Proofs.YtgoogfbphilpmaaGreatDoor
open Go.ChangeShapes Go.WideShapes Go.RowKit
set_option linter.unusedVariables false
theorem Tryz.laidOutW : laidOutB Tryz.prog = true := by kernel_rfl
theorem Tryz.gT : Tryz.prog.globalNamed "math/bits.deBruijn64tab" = some 2 := by kernel_rfl
theorem Tryz.gTType : (Tryz.prog.globals[2]?).map (·.type) = some 252 := by kernel_rfl
theorem Tryz.cellsTab : Tryz.prog.cellsOf 252 = 64 := by kernel_rfl
theorem Tryz.cellsU8 : Tryz.prog.cellsOf 5 = 1 := by kernel_rfl
theorem tab_laid {W : World} {rest : List (String × DataW Unit)} (h : laidMet Tryz.prog (("math/bits.deBruijn64tab", Rows.laid_math_bits_deBruijn64tab) :: rest) W) : TabIs W := by
  have hT : Lib.TabIs Tryz.prog W "math/bits.deBruijn64tab" .u8 (Lib.deBruijn64tab.map fun n : Nat => (n : Int)) := Lib.tabIs_of_head (rest := rest) Tryz.gT Tryz.gTType Tryz.underlying252 Tryz.underlying5 Tryz.cellsU8 Tryz.cellsTab h
  intro i hi
  have := hT.cell Tryz.gT i (by simp [Lib.deBruijn64tab]; omega)
  rw [this]
  congr 2
  simp only [List.getD, List.getElem?_map]
  cases Lib.deBruijn64tab[i]? <;> rfl
theorem two_laid {W : World} (h : laidMetH Tryz.prog [("math/bits.deBruijn64tab", Rows.laid_math_bits_deBruijn64tab), ("errors.errorType", Rows.laid_errors_errorType)] W) : ErrIs W ∧ TabIs W := by
  have h' : laidMet Tryz.prog [("math/bits.deBruijn64tab", Rows.laid_math_bits_deBruijn64tab)] W ∧ handlesMet Tryz.prog [("errors.errorType", Rows.laid_errors_errorType)] W := h
  exact ⟨err_laid h'.2 (List.mem_singleton.2 rfl), tab_laid (rest := []) h'.1⟩
end Go.Proofs.YtgoogfbphilpmaaGreatDoor
namespace Go.Proofs.YtgoogfbphilpmaaGreatDoor
open Go.RowKit Go.Shelf
set_option linter.unusedVariables false
theorem nbase_true : True := trivial
end Go.Proofs.YtgoogfbphilpmaaGreatDoor
