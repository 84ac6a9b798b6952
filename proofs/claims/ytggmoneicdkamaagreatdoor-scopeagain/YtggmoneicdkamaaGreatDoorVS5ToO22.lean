/-
  What errors.As and api.Code answer at an Errno. Condition: package errors' own variable holds the handle of the type error.
  The small case of layer 6's laws. Conditions: those that each theorem names.
  The small case of layer 6's laws comes out right. Conditions: those that each theorem names.
  What scope.Find answers at any grammar. Conditions: those that each theorem names.
  muntinlaw06.ScopeFinds answers true at any grammar and name. Conditions: those that each theorem names.
  muntinlaw06.has: is a place in a row? Conditions: those that each theorem names.
  What scope.copiedNode answers: the same tree in new memory. Conditions: those that each theorem names.
-/
import Derived.Test.YtggmoneicdkamaaGreatDoorVEAs2ToX12
import Derived.Test.YtggmoneicdkamaaGreatDoorVO12ToO15
import Derived.Deep.RegionHeld3
import Derived.Deep.AppendLies
namespace Go.Proofs.YtggmoneicdkamaaGreatDoor
open Go.RowKit Go.Extern.Stop Go.Stop Go.Extern
set_option linter.unusedVariables false
end Go.Proofs.YtggmoneicdkamaaGreatDoor
namespace Go.Proofs.YtggmoneicdkamaaGreatDoor
open Go.RowKit Go.Shelf
set_option linter.unusedVariables false
def xOf (rs : List Rr) : Option (Int ⊕ (Int × Int)) := (ckR rs).map .inr
theorem checked_nil (so : Option Addr) (n cap : Nat) (rs : List Rr) (B : Nat) (w : World) (hz : RgZ rs) (h : RgIs w B so n rs) (hB : B ≤ w.heap.size) (hTg : 2 < w.heap.size) (hok : okG rs = true) (hl : ∀ x ∈ rs, (rfT x.2.1).length ≤ 8192)
    (hR : ∀ W : World, Below w.heap.size w W → Calls Tryz.prog 44 #[.agg #[.slice so n cap]] W fun e w' => e = .returned .nilIface ∧ Below W.heap.size W w') : CkX rs (xOf rs) ∧ CkC so n cap rs (xOf rs) w := by
  have hC : ∀ W : World, Below w.heap.size w W → Calls Tryz.prog 29 #[.agg #[.slice so n cap]] W (CkP W rs) := fun W hW => callsIn_wide.1 (checked_ok so n cap rs W ((h.below (hW.mono hB)).upto (Nat.le_trans hB hW.size)) (by have := hW.size; omega) (hid hz) (hid fun W' hW' => hR W' (hW.trans (hW'.mono hW.size))) 0)
  unfold xOf
  cases hk : ckR rs with
  | none =>
    refine ⟨⟨hok, hk, hl⟩, fun W hW => (hC W hW).mono fun e w' he => ?_⟩
    obtain ⟨hb, ⟨c, p, g, h1, _⟩ | ⟨M, _, h2, h3, h4⟩⟩ := he
    · rw [hk] at h1; cases h1
    · exact ⟨_, _, h2, rfl, fun _ => ⟨M, rfl, h3, h4⟩, fun h => absurd rfl h, hb⟩
  | some q =>
    refine ⟨⟨hok, hk⟩, fun W hW => (hC W hW).mono fun e w' he => ?_⟩
    obtain ⟨hb, ⟨c, p, g, h1, h2, h3, h4⟩ | ⟨M, h1, _⟩⟩ := he
    · rw [hk] at h1
      cases h1
      exact ⟨_, _, h2, ⟨g, rfl, h3, h4⟩, (fun h => by cases h), fun _ => rfl, hb⟩
    · rw [hk] at h1; cases h1
/-- The same at what was read. -/
theorem checked_read {S : ByteArray} {rs : List Rl} (hS : S.size ≤ 8192) (hp : parS S = .inr rs) (h1 : sz (pR qT cT rs) ≤ 8192) (h2 : dR rs ≤ 24) (B g n cap : Nat) (W : World) (hr : RoR B (.slice (some ⟨g, 0, none⟩) n cap) rs W) (hT : TabIs W) :
    RgIs W W.heap.size (some ⟨g, 0, none⟩) n (toG rs) ∧ RgZ (toG rs) ∧ CkX (toG rs) (xOf (toG rs)) ∧ CkC (some ⟨g, 0, none⟩) n cap (toG rs) (xOf (toG rs)) W := by
  have hx : ∀ x ∈ rs, Ruk Nmq x := fun x hx => (par_ok hp x hx).1
  have hl := par_le hp
  have hi := toG_is hr (rll_mem (par_sm hS hp)) hl.1
  have hz := (ok_all (toG_q rs) hx).2
  have hT' := hT.lt
  refine ⟨hi, hz, checked_nil _ n cap (toG rs) W.heap.size W hz hi (Nat.le_refl _) hT' (okG_of (toG_q rs) hx hl.2 hl.1) (fun x hx' => Nat.le_trans (rf_mem (toG_q rs) hx x hx') h1) fun W' hW' => oright_of _ n cap (.string (cat (pR qT cT rs))) _ W' (hid fun W2 hW2 => ?_)⟩
  have hb : Below W.heap.size W W2 := hW'.trans (hW2.mono hW'.size)
  have := nprint_read hS hp B g n cap W2 (hr.below hb) (hT.below hb hT.lt)
  rw [ansT_ok h1 h2] at this
  exact this
theorem compact_at (zs : List Int) : ∀ (i : Nat) (hi : i < zs.length), zs[i] ∈ Lib.compact zs
  | 0, hi => by
    unfold Lib.compact Lib.compactUpTo
    refine List.mem_map.2 ⟨0, List.mem_filter.2 ⟨List.mem_range.2 hi, Lib.keeps_lt_one _ 0 (by omega)⟩, ?_⟩
    rw [getElem!_pos _ 0 (by simpa using hi)]
    simp
  | i + 1, hi => by
    by_cases hk : Lib.keeps zs.toArray (i + 1) = true
    · unfold Lib.compact Lib.compactUpTo
      refine List.mem_map.2 ⟨i + 1, List.mem_filter.2 ⟨List.mem_range.2 hi, hk⟩, ?_⟩
      rw [getElem!_pos _ (i + 1) (by simpa using hi)]
      simp
    · have e : zs.toArray[i + 1]! = zs.toArray[i]! := Classical.byContradiction fun hne => hk (Lib.keeps_pos (by simpa using hne))
      rw [getElem!_pos _ (i + 1) (by simpa using hi), getElem!_pos _ i (by simp; omega)] at e
      have e' : zs[i + 1] = zs[i] := by simpa using e
      rw [e']
      exact compact_at zs i (by omega)
theorem compact_mem {zs : List Int} {x : Int} (h : x ∈ zs) : x ∈ Lib.compact zs := by
  obtain ⟨i, hi, rfl⟩ := List.getElem_of_mem h
  exact compact_at zs i hi
theorem us_iff {l : List ByteArray} {y : Rr} {x : Int} : x ∈ usR l y ↔ x ∈ ixL l (rfT y.2.1) := ⟨fun h => (srt_perm _).mem_iff.1 (mem_compact h), fun h => compact_mem ((srt_perm _).mem_iff.2 h)⟩
theorem rch_same {us vs : List (List Int)} (h : ∀ b x, x ∈ us.getD b [] ↔ x ∈ vs.getD b []) {a i : Nat} (hr : Rch us a i) : Rch vs a i := by
  induction hr with
  | refl => exact .refl
  | step _ hm ih => exact ih.step ((h _ _).1 hm)
/-- The places that each rule uses, as they come. -/
def us0 (rs : List Rr) : List (List Int) := rs.map fun y => ixL (nmL rs) (rfT y.2.1)
theorem us0_iff (rs : List Rr) (b : Nat) (x : Int) : x ∈ (rs.map (usR (nmL rs))).getD b [] ↔ x ∈ (us0 rs).getD b [] := by
  unfold us0
  simp only [List.getD_eq_getElem?_getD, List.getElem?_map]
  cases rs[b]? with
  | none => simp
  | some y => simp only [Option.map_some, Option.getD_some]; exact us_iff
theorem ld_same {us vs : List (List Int)} (h : ∀ b x, x ∈ us.getD b [] ↔ x ∈ vs.getD b []) {a : Nat} {L : List Int} (hl : LdIs us a L) : LdIs vs a L :=
  ⟨hl.1, fun x => (hl.2 x).trans ⟨fun ⟨i, e, hi⟩ => ⟨i, e, rch_same h hi⟩, fun ⟨i, e, hi⟩ => ⟨i, e, rch_same (fun b x => (h b x).symm) hi⟩⟩⟩
theorem lt_unique : ∀ {A B : List Int}, A.Pairwise (· < ·) → B.Pairwise (· < ·) → (∀ x, x ∈ A ↔ x ∈ B) → A = B
  | [], [], _, _, _ => rfl
  | [], b :: B, _, _, h => by have := (h b).2 (by simp); simp at this
  | a :: A, [], _, _, h => by have := (h a).1 (by simp); simp at this
  | a :: A, b :: B, ha, hb, h => by
    rw [List.pairwise_cons] at ha hb
    have e : a = b := by
      have h1 := (h a).1 (by simp)
      have h2 := (h b).2 (by simp)
      rcases List.mem_cons.1 h1 with h1 | h1
      · exact h1
      · rcases List.mem_cons.1 h2 with h2 | h2
        · exact h2.symm
        · have := hb.1 a h1
          have := ha.1 b h2
          omega
    subst e
    rw [lt_unique ha.2 hb.2 fun x => ⟨fun hx => by
      have := (h x).1 (List.mem_cons_of_mem _ hx)
      rcases List.mem_cons.1 this with e | h'
      · have := ha.1 x hx; omega
      · exact h', fun hx => by
      have := (h x).2 (List.mem_cons_of_mem _ hx)
      rcases List.mem_cons.1 this with e | h'
      · have := hb.1 x hx; omega
      · exact h'⟩]
theorem ld_unique {us : List (List Int)} {a : Nat} {A B : List Int} (h : LdIs us a A) (k : LdIs us a B) : A = B := lt_unique h.1 k.1 fun x => (h.2 x).trans (k.2 x).symm
end Go.Proofs.YtggmoneicdkamaaGreatDoor
namespace Go.Proofs.YtggmoneicdkamaaGreatDoor
open Go.RowKit Go.Shelf
set_option linter.unusedVariables false
@[reducible] def smA : ByteArray := { data := #[97, 32, 60, 45, 32, 98, 32, 99, 32, 98, 32, 60, 45, 32, 99, 32, 99, 32, 60, 45, 32, 46, 32, 100, 32, 60, 45, 32, 97] }
@[reducible] def smH : ByteArray := { data := #[97, 32, 60, 45, 32, 120, 32, 47, 32, 121] }
def smBA (x : Nat) : Bool := match parS smA with
  | .inr rs => decide (sz (pR qT cT rs) ≤ 8192) && (decide (dR rs ≤ 24) && (decide (ckR (toG rs) = none) && (decide (us0 (toG rs) = [[1, 2], [2], [], [0]]))))
  | .inl _ => false
def smBH (x : Nat) : Bool := match parS smH with
  | .inr rs => decide (sz (pR qT cT rs) ≤ 8192) && (decide (dR rs ≤ 24) && decide (ckR (toG rs) = some (31, 5)))
  | .inl _ => false
theorem smBA_ok : ∀ x, x < 1 → smBA x = true := by decide +kernel
theorem smBH_ok : ∀ x, x < 1 → smBH x = true := by decide +kernel
theorem small_A : ∃ rs, parS smA = .inr rs ∧ sz (pR qT cT rs) ≤ 8192 ∧ dR rs ≤ 24 ∧ ckR (toG rs) = none ∧ us0 (toG rs) = [[1, 2], [2], [], [0]] := by
  have h := smBA_ok 0 (by decide)
  unfold smBA at h
  cases hp : parS smA with
  | inl c => rw [hp] at h; cases h
  | inr rs =>
    rw [hp] at h
    simp only [Bool.and_eq_true, decide_eq_true_eq] at h
    exact ⟨rs, rfl, h⟩
theorem small_H : ∃ rs, parS smH = .inr rs ∧ sz (pR qT cT rs) ≤ 8192 ∧ dR rs ≤ 24 ∧ ckR (toG rs) = some (31, 5) := by
  have h := smBH_ok 0 (by decide)
  unfold smBH at h
  cases hp : parS smH with
  | inl c => rw [hp] at h; cases h
  | inr rs =>
    rw [hp] at h
    simp only [Bool.and_eq_true, decide_eq_true_eq] at h
    exact ⟨rs, rfl, h⟩
theorem small_L : LdIs [[1, 2], [2], [], [0]] 0 [0, 1, 2] := by
  refine ⟨by decide, fun x => ⟨fun hx => ?_, fun ⟨i, e, hi⟩ => ?_⟩⟩
  · have h1 : Rch [[1, 2], [2], [], [0]] 0 1 := Rch.refl.step (by decide)
    have h2 : Rch [[1, 2], [2], [], [0]] 0 2 := Rch.refl.step (by decide)
    rcases List.mem_cons.1 hx with rfl | hx
    · exact ⟨0, rfl, .refl⟩
    · rcases List.mem_cons.1 hx with rfl | hx
      · exact ⟨1, rfl, h1⟩
      · obtain rfl : x = 2 := by simpa using hx
        exact ⟨2, rfl, h2⟩
  · have key : ∀ {i : Nat}, Rch [[1, 2], [2], [], [0]] 0 i → i < 3 := fun {i} hi => by
      induction hi with
      | refl => omega
      | @step b c _ hm ih =>
        rcases (by omega : b = 0 ∨ b = 1 ∨ b = 2) with rfl | rfl | rfl <;> simp at hm <;> omega
    have := key hi
    rcases (by omega : i = 0 ∨ i = 1 ∨ i = 2) with rfl | rfl | rfl <;> subst e <;> decide
set_option maxRecDepth 100000 in
set_option maxHeartbeats 8000000 in
theorem osmall_ok (w : World) (h : ErrIs w) (hT : TabIs w) : Calls Tryz.prog 9 #[] w fun e w' => e = .returned (.bool true) ∧ Hid (Below w.heap.size w w') := by
  obtain ⟨rs, hp, hs1, hs2, hck, hus⟩ := small_A
  obtain ⟨qs, kp, ks1, ks2, kck⟩ := small_H
  have HPA := hid (yparse_any smA w h (by decide))
  rw [hp] at HPA
  have HR := hid (fun (g n cap : Nat) (W : World) (hr : RoR w.heap.size (.slice (some ⟨g, 0, none⟩) n cap) rs W) (hb : Below w.heap.size w W) => checked_read (by decide) hp hs1 hs2 _ g n cap W hr (hT.below hb hT.lt))
  have HPH := hid (fun (W : World) (hb : Below w.heap.size w W) => yparse_any smH W (h.below hb h.lt) (by decide))
  rw [kp] at HPH
  have HK := hid (fun (B g n cap : Nat) (W : World) (hr : RoR B (.slice (some ⟨g, 0, none⟩) n cap) qs W) (hb : Below w.heap.size w W) => checked_read (by decide) kp ks1 ks2 B g n cap W hr (hT.below hb hT.lt))
  have HE := hid h
  have HTl : Hid (2 < w.heap.size) := hT.lt
  have HXA : Hid (xOf (toG rs) = none) := by show _ = _; unfold xOf; rw [hck]; rfl
  have HXH : Hid (xOf (toG qs) = some (.inr (31, 5))) := by show _ = _; unfold xOf; rw [kck]; rfl
  have HU : Hid (us0 (toG rs) = [[1, 2], [2], [], [0]]) := hus
  obtain ⟨n, hn⟩ : ∃ n, n = rs.length := ⟨_, rfl⟩
  obtain ⟨m, hm⟩ : ∃ m, m = qs.length := ⟨_, rfl⟩
  unfold AnsD at HPA HPH
  simp only at HPA HPH
  rw [← hn] at HPA
  rw [← hm] at HPH
  have HN4 : Hid ((toG rs).length = 4) := by
    show _ = _
    have := congrArg List.length hus
    unfold us0 at this
    rw [List.length_map] at this
    exact this
  clear h hT hp hs1 hs2 hck hus kp ks1 ks2 kck hn hm
  go_enter Tryz.func9, Tryz.ntmps9
  go_wp2_with fail
  refine HPA.out.mono ?_
  rintro e w1 ⟨g, cap, rfl, HRo, HB⟩
  obtain ⟨u1, hu1⟩ : ∃ u1, u1 = w1.alloc (.cells #[.slice (some ⟨g, 0, none⟩) n cap] 24) := ⟨_, rfl⟩
  have hb11 : Below w1.heap.size w1 u1 := by rw [hu1]; exact (Below.refl _ w1).alloc (Nat.le_refl _) _
  have HBu := hid (HB.out.trans (hb11.mono HB.out.size))
  obtain ⟨hi, hz, hX, hC⟩ := HR.out g n cap u1 (HRo.out.below hb11) HBu.out
  have HRe := hid (reach_of _ n cap _ _ u1.heap.size 0 u1 hX hC hi (Nat.le_refl _) hz (Nat.lt_of_lt_of_le HTl.out HBu.out.size))
  clear HPA HRo hi hz hX hC HR hb11
  go_wp2_with fail
  rw [← hu1]
  refine HRe.out.mono ?_
  rintro e w2 ⟨hb2, hre⟩
  rcases hre with ⟨hx, _⟩ | ⟨_, ha, _⟩ | ⟨_, k, v, L, ek, hk, rfl, hL, hl, hr⟩
  · exact absurd HXA.out hx
  · rw [HN4.out] at ha; omega
  obtain rfl : k = 0 := by omega
  have eL : L = [0, 1, 2] := ld_unique (by have := ld_same (us0_iff (toG rs)) hL; rw [HU.out] at this; exact this) small_L
  subst eL
  obtain ⟨so, sc, rfl⟩ := own_any hr
  have HB2 := hid (HBu.out.trans (hb2.mono HBu.out.size))
  have HP2 := hid (HPH.out w2 HB2.out)
  have HRw := hid hr
  clear HRe hb2 hL hl hr HPH ek hk hu1 HB HBu
  go_wp2_with fail
  refine HP2.out.mono ?_
  rintro e w3 ⟨g3, cap3, rfl, HRo3, HB3⟩
  obtain ⟨u3, hu3⟩ : ∃ u3, u3 = w3.alloc (.cells #[.slice (some ⟨g3, 0, none⟩) m cap3] 24) := ⟨_, rfl⟩
  have hb33 : Below w3.heap.size w3 u3 := by rw [hu3]; exact (Below.refl _ w3).alloc (Nat.le_refl _) _
  have HB3u := hid (HB3.out.trans (hb33.mono HB3.out.size))
  have HB23 := hid (HB2.out.trans (HB3u.out.mono HB2.out.size))
  obtain ⟨hi, hz, hX, hC⟩ := HK.out _ g3 m cap3 u3 (HRo3.out.below hb33) HB23.out
  rw [HXH.out] at hX hC
  have HCk := hid (check_of _ m cap3 _ _ u3 (hid hC))
  have HRw3 := hid (own_keep HRw.out HB3u.out)
  clear HP2 HRo3 hi hz hX hC HK HRw hb33 HB3 HB3u
  go_wp2_with fail
  rw [← hu3]
  clear hu3
  refine HCk.out.mono ?_
  rintro e w4 ⟨v4, rfl, ⟨g4, rfl, hg4, hb4⟩, hb34⟩
  have HB4 := hid (HB23.out.trans (hb34.mono HB23.out.size))
  have hr4 := own_keep HRw3.out hb34
  have HCo := hid (code_fault g4 31 5 w4 (HE.out.below HB4.out HE.out.lt) hb4)
  have HAt := hid (fun (W : World) (hb : Below w4.heap.size w4 W) => at_fault g4 31 5 W (HE.out.below (HB4.out.trans (hb.mono HB4.out.size)) HE.out.lt) ((hb.block g4 (node_lt hb4)).trans hb4))
  have c2 : ∃ gg, so = some ⟨gg, 0, none⟩ ∧ w4.cell? ⟨gg, 2, none⟩ = some (.int .i64 2) := by
    rcases hr4.2 with ⟨h0, _⟩ | ⟨gg, cap', cur, h1, h2, h3, h4, h5, h6, h7⟩
    · cases h0
    · cases h1
      refine ⟨gg, rfl, (cell_in h3 2 _ ?_).1⟩
      have e : (cur.toList.take (3 * 1))[2]? = some (.int .i64 2) := by rw [show (3 * 1 : Nat) = [(0 : Int), 1, 2].length * 1 from rfl, h7]; rfl
      rw [List.getElem?_take_of_lt (by omega), Array.getElem?_toList] at e
      exact e
  obtain ⟨gg, rfl, c2⟩ := c2
  clear HCk HRw3 hr4 hb34 hb4 hg4
  go_wp2_with (first
    | (go_at_call 16; refine HCo.out.mono ?_; clear HCo; rintro e w5 ⟨rfl, hb5⟩)
    | (go_at_call 17; refine (HAt.out _ hb5).mono ?_; clear HAt; rintro e w6 ⟨rfl, hb6⟩))
  go_ret
  exact ⟨rfl, hid (HB4.out.trans ((hb5.trans (hb6.mono hb5.size)).mono HB4.out.size))⟩
end Go.Proofs.YtggmoneicdkamaaGreatDoor
namespace Go.Proofs.YtggmoneicdkamaaGreatDoor
open Go.RowKit Go.Shelf
set_option linter.unusedVariables false
end Go.Proofs.YtggmoneicdkamaaGreatDoor
namespace Go.Proofs.YtggmoneicdkamaaGreatDoor
open Go.RowKit Go.Shelf
set_option linter.unusedVariables false
end Go.Proofs.YtggmoneicdkamaaGreatDoor
namespace Go.Proofs.YtggmoneicdkamaaGreatDoor
open Go.RowKit Go.Shelf
set_option linter.unusedVariables false
end Go.Proofs.YtggmoneicdkamaaGreatDoor
namespace Go.Proofs.YtggmoneicdkamaaGreatDoor
open Go.RowKit Go.Shelf
set_option linter.unusedVariables false
mutual
/-- These eight cells are that tree; its blocks are whole rows that P holds of. -/
def RqIs (w : World) (P : Nat → Prop) : RT → List Value → Prop
  | .mk k T a b c d s p, cs => ∃ so cap, cs = r8 k T a b c d so (rtLen s) cap p ∧ (s.isEmpty = true ∨ (s.isEmpty = false ∧ ∃ g cur, so = some ⟨g, 0, none⟩ ∧ P g ∧ w.heap[g]? = some (.cells cur 58) ∧ rtLen s ≤ maxLen ∧ RqsIs w P s cur.toList))
def RqsIs (w : World) (P : Nat → Prop) : List RT → List Value → Prop
  | [], _ => True
  | t :: r, vs => ∃ c rest, vs = c ++ rest ∧ RqIs w P t c ∧ RqsIs w P r rest
end
theorem RqIs.len {w : World} {P : Nat → Prop} {t : RT} {c : List Value} (h : RqIs w P t c) : c.length = 8 := by
  obtain ⟨k, T, a, b, c0, d, s, p⟩ := t
  rw [RqIs] at h
  obtain ⟨so, cap, rfl, _⟩ := h
  rfl
mutual
theorem RqIs.kept {w w' : World} {P Q : Nat → Prop} (hk : ∀ g cur, P g → w.heap[g]? = some (.cells cur 58) → w'.heap[g]? = w.heap[g]? ∧ Q g) : ∀ (t : RT) (c : List Value), RqIs w P t c → RqIs w' Q t c
  | .mk k T a b c d s p, cs, h => by
    rw [RqIs] at h ⊢
    obtain ⟨so, cap, h1, h2⟩ := h
    refine ⟨so, cap, h1, ?_⟩
    rcases h2 with h2 | ⟨h3, g, cur, h4, h5, h6, h7, h8⟩
    · exact .inl h2
    · have := hk g cur h5 h6
      exact .inr ⟨h3, g, cur, h4, this.2, this.1.trans h6, h7, RqsIs.kept hk s cur.toList h8⟩
theorem RqsIs.kept {w w' : World} {P Q : Nat → Prop} (hk : ∀ g cur, P g → w.heap[g]? = some (.cells cur 58) → w'.heap[g]? = w.heap[g]? ∧ Q g) : ∀ (l : List RT) (vs : List Value), RqsIs w P l vs → RqsIs w' Q l vs
  | [], vs, h => by rw [RqsIs]; trivial
  | n :: r, vs, h => by
    rw [RqsIs] at h ⊢
    obtain ⟨c, rest, h1, h2, h3⟩ := h
    exact ⟨c, rest, h1, RqIs.kept hk n c h2, RqsIs.kept hk r rest h3⟩
end
theorem RqsIs.append {w : World} {P : Nat → Prop} : ∀ (l : List RT) (vs : List Value) (n : RT) (c : List Value), RqsIs w P l vs → vs.length = l.length * 8 → RqIs w P n c → RqsIs w P (l ++ [n]) (vs ++ c)
  | [], vs, n, c, _, hl, hn => by
    have : vs = [] := List.eq_nil_of_length_eq_zero (by simpa using hl)
    subst this
    rw [List.nil_append, RqsIs]
    exact ⟨c, [], by simp, hn, by rw [RqsIs]; trivial⟩
  | m :: r, vs, n, c, h, hl, hn => by
    rw [RqsIs] at h
    obtain ⟨d, rest, rfl, h2, h3⟩ := h
    have hd := h2.len
    rw [List.cons_append, RqsIs]
    refine ⟨d, rest ++ c, by rw [List.append_assoc], h2, RqsIs.append r rest n c h3 ?_ hn⟩
    simp at hl
    omega
theorem RqsIs.more {w : World} {P : Nat → Prop} : ∀ (l : List RT) (vs us : List Value), RqsIs w P l vs → RqsIs w P l (vs ++ us)
  | [], _, _, _ => by rw [RqsIs]; trivial
  | n :: r, vs, us, h => by
    rw [RqsIs] at h ⊢
    obtain ⟨c, rest, rfl, h2, h3⟩ := h
    exact ⟨c, rest ++ us, by rw [List.append_assoc], h2, RqsIs.more r rest us h3⟩
/-- What copiedNode answers at a tree. -/
def CnA (t : RT) (w : World) (e : Ending) (w' : World) : Prop := ∃ k T a b c d so n cap p, e = .returned (.agg #[.int .i64 k, .string T, .int .u64 a, .int .u64 b, .int .u64 c, .int .u64 d, .slice so n cap, .int .i64 p]) ∧ Hid (RqIs w' (fun g => w.heap.size ≤ g) t (r8 k T a b c d so n cap p)) ∧ Hid (Below w.heap.size w w')
theorem Rq.app2 {base j : Nat} {a a' : Value} {xs cs : List Value} {acc : List RT} {t : RT} {wr w2 W4 w6 : World}
    (ho : wr.ownsRow base 58 8 a j xs) (hl : acc.length = j) (hr : RqsIs wr (fun g => base ≤ g ∧ a.ownBlock ≠ some g) acc xs) (hb0 : base ≤ wr.heap.size) (hb : Below wr.heap.size wr w2)
    (hq : RqIs w2 (fun g => wr.heap.size ≤ g) t cs) (h4 : w2.heap.size ≤ W4.heap.size) (h4b : ∀ g, g < w2.heap.size → W4.heap[g]? = w2.heap[g]?) (hgr : W4.grownBy w6 a.ownBlock) (hat : a'.ownBlock = a.ownBlock ∨ a'.ownBlock = some W4.heap.size) :
    RqsIs w6 (fun g => base ≤ g ∧ a'.ownBlock ≠ some g) (acc ++ [t]) (xs ++ cs) := by
  have key : ∀ g, g < w2.heap.size → a.ownBlock ≠ some g → w6.heap[g]? = w2.heap[g]? ∧ a'.ownBlock ≠ some g := fun g hl hne => by
    refine ⟨(hgr.block g (by omega) (fun e => hne e.symm)).trans (h4b g hl), ?_⟩
    rcases hat with h | h
    · rw [h]; exact hne
    · rw [h]; intro e; have := Option.some.inj e; omega
  refine RqsIs.append _ _ _ _ (RqsIs.kept (fun g cur hp hq => ?_) _ _ hr) (by rw [hl]; exact ho.1) (RqIs.kept (fun g cur hp hq => ?_) _ _ hq)
  · have hlt := node_lt hq
    have := hb.size
    have h := key g (by omega) hp.2
    exact ⟨h.1.trans (hb.block g hlt), hp.1, h.2⟩
  · have h := key g (node_lt hq) (fun e => by have := (ho.lt g e).2; omega)
    exact ⟨h.1, by omega, h.2⟩
theorem cn_step {w wr w2 w6 : World} {j g6 cap6 : Nat} {k a b c d p : Int} {T : ByteArray} {v : Value} {xs cs : List Value} {acc : List RT} {t : RT} {X : Obj}
    (hs : w.heap.size + 2 ≤ wr.heap.size) (ho : wr.ownsRow (w.heap.size + 2) 58 8 v j xs) (hl : acc.length = j) (hr : RqsIs wr (fun g => w.heap.size + 2 ≤ g ∧ v.ownBlock ≠ some g) acc xs) (hB : Below w.heap.size w wr) (hb : Below wr.heap.size wr w2)
    (hq : RqIs w2 (fun g => wr.heap.size ≤ g) t cs) (hz : wr.heap[w.heap.size + 1]? = some (.cells #[.int .i64 0, .string { data := #[] }, .int .u64 0, .int .u64 0, .int .u64 0, .int .u64 0, .slice none 0 0, .int .i64 0] 58)) (hown : w6.ownsRow (w.heap.size + 2) 58 8 (.slice (some ⟨g6, 0, none⟩) (j + 1) cap6) (j + 1) (xs ++ cs)) (hgr : (w2.alloc X).grownBy w6 v.ownBlock) (hat : v.ownBlock = some g6 ∨ g6 = w2.heap.size + 1)
    (hv6 : w6.heap[w.heap.size]? = some (.cells #[.int .i64 k, .string T, .int .u64 a, .int .u64 b, .int .u64 c, .int .u64 d, v, .int .i64 p] 58)) :
    w.heap.size + 2 ≤ (w6.setCell ⟨w.heap.size, 6, none⟩ (.slice (some ⟨g6, 0, none⟩) (j + 1) cap6)).heap.size ∧ (w6.setCell ⟨w.heap.size, 6, none⟩ (.slice (some ⟨g6, 0, none⟩) (j + 1) cap6)).heap[w.heap.size]? = some (.cells #[.int .i64 k, .string T, .int .u64 a, .int .u64 b, .int .u64 c, .int .u64 d, .slice (some ⟨g6, 0, none⟩) (j + 1) cap6, .int .i64 p] 58) ∧ (w6.setCell ⟨w.heap.size, 6, none⟩ (.slice (some ⟨g6, 0, none⟩) (j + 1) cap6)).heap[w.heap.size + 1]? = some (.cells #[.int .i64 0, .string { data := #[] }, .int .u64 0, .int .u64 0, .int .u64 0, .int .u64 0, .slice none 0 0, .int .i64 0] 58) ∧ (w6.setCell ⟨w.heap.size, 6, none⟩ (.slice (some ⟨g6, 0, none⟩) (j + 1) cap6)).ownsRow (w.heap.size + 2) 58 8 (.slice (some ⟨g6, 0, none⟩) (j + 1) cap6) (j + 1) (xs ++ cs) ∧ RqsIs (w6.setCell ⟨w.heap.size, 6, none⟩ (.slice (some ⟨g6, 0, none⟩) (j + 1) cap6)) (fun g => w.heap.size + 2 ≤ g ∧ (Value.slice (some ⟨g6, 0, none⟩) (j + 1) cap6).ownBlock ≠ some g) (acc ++ [t]) (xs ++ cs) ∧ Below w.heap.size w (w6.setCell ⟨w.heap.size, 6, none⟩ (.slice (some ⟨g6, 0, none⟩) (j + 1) cap6)) := by
  have hlt : ∀ g, v.ownBlock = some g → w.heap.size + 2 ≤ g ∧ g < wr.heap.size := fun g e => ho.lt g e
  have h2 := hb.size
  have ea : (w2.alloc X).heap.size = w2.heap.size + 1 := World.size_alloc _ _
  have h6 := hgr.size
  have hB2 : Below w.heap.size w (w2.alloc X) := (hB.trans (hb.mono hB.size)).alloc (Nat.le_trans hB.size h2) _
  have hB6 : Below w.heap.size w w6 := hB2.grown hgr hB2.size (fun g e => by have := hlt g e; omega)
  refine ⟨by rw [World.size_setCell]; omega, set_in hv6 6 _, ?_, hown.kept (row := some w.heap.size) ⟨rfl, rfl, rfl, by simp, fun i hi hne => Below.heap_setCell _ _ _ _ (fun e => hne (by rw [e]))⟩ (.inr (fun e => by have := (hown.lt _ e).1; omega)), ?_, hB6.setCell (p := ⟨w.heap.size, 6, none⟩) (Nat.le_refl _) _⟩
  · refine (Below.heap_setCell _ _ _ _ (by simp)).trans ((hgr.block _ (by omega) (fun e => by have := hlt _ e.symm; omega)).trans ((Below.heap_alloc _ _ _ (by omega)).trans ((hb.block _ (by omega)).trans hz)))
  · refine RqsIs.kept (fun g cur hp hq => ⟨Below.heap_setCell _ _ _ _ (fun e => by have := hp.1; simp at e; omega), hp⟩) _ _ (Rq.app2 (W4 := w2.alloc X) ho hl hr hs hb hq (by omega) (fun g hg => Below.heap_alloc _ _ _ hg) hgr ?_)
    rcases hat with h | h
    · exact .inl h.symm
    · exact .inr (by rw [h, ea]; rfl)
theorem sz_le {w : World} {o : Obj} {b : Nat} (h : b ≤ w.heap.size) : b ≤ (w.alloc o).heap.size := by rw [World.size_alloc]; omega
set_option maxRecDepth 100000 in
set_option maxHeartbeats 8000000 in
theorem ocopied_walk (k : Int) (T : ByteArray) (a b c d p : Int) (so : Option Addr) (n cap : Nat) (s : List RT) (w : World) (hT : T.size ≤ 281474976710656) (HN : Hid (n = s.length)) (hn : n * 88 ≤ 140737488351232)
    (HC : Hid (∀ j (hj : j < s.length), ∃ g o, so = some ⟨g, o, none⟩ ∧ g < w.heap.size ∧ ∃ k1 T1 a1 b1 c1 d1 so1 n1 cap1 p1, Rc w g (o + j * 8) k1 T1 a1 b1 c1 d1 (.slice so1 n1 cap1) p1 ∧
      ∀ W : World, Below w.heap.size w W → Calls Tryz.prog 58 #[.agg #[.int .i64 k1, .string T1, .int .u64 a1, .int .u64 b1, .int .u64 c1, .int .u64 d1, .slice so1 n1 cap1, .int .i64 p1]] W (CnA s[j] W))) :
    Calls Tryz.prog 58 #[.agg #[.int .i64 k, .string T, .int .u64 a, .int .u64 b, .int .u64 c, .int .u64 d, .slice so n cap, .int .i64 p]] w (CnA (.mk k T a b c d s p) w) := by
  obtain ⟨iT, hiT, hzT0, hzT1, hzT2⟩ := info_parts Tryz.infoNd
  have hn63 : n ≤ 9223372036854775807 := by omega
  obtain ⟨W0, hW0⟩ : ∃ W0, W0 = (w.alloc (.cells #[.int .i64 k, .string T, .int .u64 a, .int .u64 b, .int .u64 c, .int .u64 d, .slice so n cap, .int .i64 p] 58)).alloc (.cells #[.int .i64 0, .string { data := #[] }, .int .u64 0, .int .u64 0, .int .u64 0, .int .u64 0, .slice none 0 0, .int .i64 0] 58) := ⟨_, rfl⟩
  have hB0 : Below w.heap.size w W0 := by rw [hW0]; exact ((Below.refl _ w).alloc (Nat.le_refl _) _).alloc (by simp) _
  have c0 : W0.heap[w.heap.size]? = some (.cells #[.int .i64 k, .string T, .int .u64 a, .int .u64 b, .int .u64 c, .int .u64 d, .slice so n cap, .int .i64 p] 58) := by rw [hW0]; exact (Below.heap_alloc _ _ _ (by simp)).trans (new_block_at w _ rfl)
  have c1 : W0.heap[w.heap.size + 1]? = some (.cells #[.int .i64 0, .string { data := #[] }, .int .u64 0, .int .u64 0, .int .u64 0, .int .u64 0, .slice none 0 0, .int .i64 0] 58) := by rw [hW0]; exact new_block_at _ _ (by simp)
  have hs0 : W0.heap.size = w.heap.size + 1 + 1 := by rw [hW0]; simp
  have HCl := hid (clone_any T W0 hT)
  go_enter Tryz.func58, Tryz.ntmps58
  go_wp2_with fail
  rw [← hW0]
  clear hW0
  refine HCl.out.mono ?_
  rintro e w1 ⟨rfl, hb1⟩
  have d0 := (hb1.block _ (by omega)).trans c0
  have d1' := (hb1.block _ (by omega)).trans c1
  obtain ⟨⟨y0, y1, y2, y3, y4, y5, y6, y7⟩, yf⟩ := eight_cells d0
  obtain ⟨⟨q0, q1, q2, q3, q4, q5, q6, q7⟩, qf⟩ := eight_cells d1'
  have l0 := node_lt d0
  have l1 := node_lt d1'
  have hs1 := hb1.size
  have HBw := hid (hB0.trans (hb1.mono hB0.size))
  obtain ⟨wA, hwA⟩ : ∃ wA, wA = (w1.setCell ⟨w.heap.size, 1, none⟩ (.string T)).setCell ⟨w.heap.size, 6, none⟩ (.slice none 0 0) := ⟨_, rfl⟩
  have HA0 : Hid (wA.heap[w.heap.size]? = some (.cells #[.int .i64 k, .string T, .int .u64 a, .int .u64 b, .int .u64 c, .int .u64 d, .slice none 0 0, .int .i64 p] 58)) := by rw [hwA]; exact set_in (set_in d0 1 _) 6 _
  have HA1 : Hid (wA.heap[w.heap.size + 1]? = some (.cells #[.int .i64 0, .string { data := #[] }, .int .u64 0, .int .u64 0, .int .u64 0, .int .u64 0, .slice none 0 0, .int .i64 0] 58)) := by
    rw [hwA]
    exact (Below.heap_setCell _ _ _ _ (by simp)).trans ((Below.heap_setCell _ _ _ _ (by simp)).trans d1')
  have HAB : Hid (Below w.heap.size w wA) := by
    rw [hwA]
    exact (HBw.out.setCell (p := ⟨w.heap.size, 1, none⟩) (Nat.le_refl _) _).setCell (p := ⟨w.heap.size, 6, none⟩) (Nat.le_refl _) _
  have HAS : Hid (w.heap.size + 2 ≤ wA.heap.size) := hid (by
    rw [hwA]
    simp only [World.size_setCell]
    omega)
  clear HCl c0 c1
  go_wp2_with fail
  rw [← hwA]
  clear hwA d0 d1' yf qf y0 y1 y2 y3 y4 y5 y6 y7 q0 q1 q2 q3 q4 q5 q6 q7 HBw hb1 l0 l1 hs1 hB0 hs0
  go_loopw [15] (fun i wr => ∃ (j : Nat) (v : Value) (xs : List Value), i = .int .i64 (j : Int) ∧ j ≤ n ∧ Hid (w.heap.size + 2 ≤ wr.heap.size) ∧ Hid (wr.heap[w.heap.size]? = some (.cells #[.int .i64 k, .string T, .int .u64 a, .int .u64 b, .int .u64 c, .int .u64 d, v, .int .i64 p] 58)) ∧ Hid (wr.heap[w.heap.size + 1]? = some (.cells #[.int .i64 0, .string { data := #[] }, .int .u64 0, .int .u64 0, .int .u64 0, .int .u64 0, .slice none 0 0, .int .i64 0] 58)) ∧ Hid (wr.ownsRow (w.heap.size + 2) 58 8 v j xs) ∧ Hid (RqsIs wr (fun g => w.heap.size + 2 ≤ g ∧ v.ownBlock ≠ some g) (s.take j) xs) ∧ Hid (Below w.heap.size w wr)) (fun i _ => n - (intOf i).toNat)
  case atStart => exact ⟨0, .slice none 0 0, [], rfl, Nat.zero_le _, HAS, HA0, HA1, World.ownsRow_nil _ _ _ _, (by rw [List.take_zero, RqsIs]; trivial), HAB⟩
  case round =>
    obtain ⟨j, v, xs, rfl, hj, HS, HV, HZ, HO, HR, HB⟩ := hrel
    by_cases hjn : j < n
    · have hjI : (j : Int) < (n : Int) := by omega
      have a0 : decide ((j : Int) < (n : Int)) = true := by simp; omega
      have hjs : j < s.length := by rw [← HN.out]; exact hjn
      obtain ⟨g, o, rfl, hg, k1, T1, a1, b1, c1, d1, so1, n1, cap1, p1, rc, hc⟩ := HC.out j hjs
      obtain ⟨z0, z1, z2, z3, z4, z5, z6, z7⟩ := rc.below HB.out hg
      obtain ⟨t, ht⟩ : ∃ t, t = s[j] := ⟨_, rfl⟩
      rw [← ht] at hc
      have HT := hid ht
      have HG := hid hc
      clear hc rc ht HC
      go_wp2_with fail
      obtain ⟨W1, hW1⟩ : ∃ W1, W1 = wr.alloc (.cells #[.int .i64 k1, .string T1, .int .u64 a1, .int .u64 b1, .int .u64 c1, .int .u64 d1, .slice so1 n1 cap1, .int .i64 p1] 58) := ⟨_, rfl⟩
      have hZ1 : W1.heap.size = wr.heap.size + 1 := by rw [hW1]; exact World.size_alloc _ _
      have HC1 : Hid (W1.heap[wr.heap.size]? = some (.cells #[.int .i64 k1, .string T1, .int .u64 a1, .int .u64 b1, .int .u64 c1, .int .u64 d1, .slice so1 n1 cap1, .int .i64 p1] 58)) := by rw [hW1]; exact new_block_at wr _ rfl
      have HB1 : Hid (Below wr.heap.size wr W1) := by rw [hW1]; exact (Below.refl _ wr).alloc (Nat.le_refl _) _
      have HO1 : Hid (W1.ownsRow (w.heap.size + 2) 58 8 v j xs) := by rw [hW1]; exact HO.out.alloc _
      rw [← hW1]
      clear hW1 z0 z1 z2 z3 z4 z5 z6 z7
      have hsz := HS.out
      have hV1 := (HB1.out.block _ (by omega)).trans HV.out
      have HZ1 := hid ((HB1.out.block _ (by omega)).trans HZ.out)
      obtain ⟨⟨y0, y1, y2, y3, y4, y5, y6, y7⟩, yf⟩ := eight_cells HC1.out
      obtain ⟨⟨_, _, _, _, _, _, x6, _⟩, _⟩ := eight_cells hV1
      have HV1 := hid hV1
      have HGd := hid (HG.out W1.drew (HB.out.trans (HB1.out.mono HB.out.size)).drew)
      have l0 : w.heap.size < W1.heap.size := by omega
      have l1 : wr.heap.size < W1.heap.size := by omega
      obtain ⟨sa, sc, rfl⟩ := own_any_shape HO.out
      have HK2 : Hid (∀ w2, Hid (Below W1.drew.heap.size W1.drew w2) → w2.cell? ⟨w.heap.size, 6, none⟩ = some (.slice sa j sc) ∧ w.heap.size < w2.heap.size ∧ w2.ownsRow (w.heap.size + 2) 58 8 (.slice sa j sc) j xs ∧ w2.heap[w.heap.size]? = some (.cells #[.int .i64 k, .string T, .int .u64 a, .int .u64 b, .int .u64 c, .int .u64 d, .slice sa j sc, .int .i64 p] 58) ∧ Below wr.heap.size wr w2 ∧ w.heap.size + 2 ≤ w2.heap.size) := fun w2 h => by
        have hs := h.out.size
        have e : W1.drew.heap.size = W1.heap.size := rfl
        have hb := (h.out.block w.heap.size (by omega)).trans (show W1.drew.heap[w.heap.size]? = _ from HV1.out)
        have ho : W1.drew.ownsRow (w.heap.size + 2) 58 8 (.slice sa j sc) j xs := HO1.out
        refine ⟨(eight_cells hb).1.2.2.2.2.2.2.1, by omega, own_keep ho h.out, hb, HB1.out.drew.trans (h.out.mono (by omega)), by omega⟩
      clear hV1 HG HO1
      have HNe : Hid (some w.heap.size ≠ (Value.slice sa j sc).ownBlock) := fun e => by have := (HO.out.lt _ e.symm).1; omega
      have HNf : Hid (some wr.heap.size ≠ (Value.slice sa j sc).ownBlock) := fun e => by have := (HO.out.lt _ e.symm).2; omega
      have HNg : Hid (wr.heap.size ≠ w.heap.size) := fun e => by omega
      have m0 : 0 < (8 : Nat) := by decide
      have m3 : 0 < (1 : Nat) := by decide
      have m1 : j + 1 ≤ maxLen := by unfold maxLen; omega
      have m2 : (j + 1) * 88 ≤ 140737488355328 := by omega
      go_region_law (first
        | (go_simp; go_at_call 58; refine HGd.out.mono ?_; rintro e w2 ⟨k2, T2, a2, b2, c2, d2, so2, n2, cap2, p2, rfl, HQ2, HB2⟩; have hw2 := HK2.out w2 HB2; have q6 := hw2.1; have l2 := hw2.2.1; have l3 := hw2.2.2.2.2.2)
        | (refine step_append_lies _ rfl (.tmp 20) (.tmp 23) 56 rfl (w.heap.size + 2) 58 iT (.agg #[.int .i64 0, .string { data := #[] }, .int .u64 0, .int .u64 0, .int .u64 0, .int .u64 0, .slice none 0 0, .int .i64 0]) 8 88 Tryz.underlying56 hiT hzT0 hzT1 hzT2 rfl m0 (.slice sa j sc) j xs (by rfl) (hw2.2.2.1.alloc _) ⟨w2.heap.size, 0, none⟩ 1 1 [.int .i64 k2, .string T2, .int .u64 a2, .int .u64 b2, .int .u64 c2, .int .u64 d2, .slice so2 n2 cap2, .int .i64 p2] (by rfl) rfl (eight_new _ _ _ _ _ _ _ _ _ _) (eight_ok _ _ _ _ _ _ _ _ _ _) m3 m1 m2 (sz_le l3) (w2.heap.size + 1) (World.size_alloc _ _) ?_; intro g6 cap6 w6 hown6 hgr6 hat6 hlt6; have hv6 := (hgr6.block w.heap.size (by rw [World.size_alloc]; omega) HNe.out).trans ((Below.heap_alloc _ _ _ l2).trans hw2.2.2.2.1); have f6 := (eight_cells hv6).2.2.2.2.2.2.2.1; have c6 := (eight_cells hv6).1.2.2.2.2.2.2.1))
      all_goals
        have HEnd := hid (cn_step (acc := s.take j) HS.out HO.out (by rw [List.length_take]; omega) HR.out HB.out hw2.2.2.2.2.1 (RqIs.kept (w' := w2) (Q := fun g => wr.heap.size ≤ g) (fun g cur hp _ => ⟨rfl, Nat.le_trans (by rw [← hZ1] at *; exact Nat.le_trans (Nat.le_of_lt l1) (Nat.le_refl _)) hp⟩) _ _ HQ2.out) HZ.out hown6 hgr6 hat6 hv6)
        clear hown6 hgr6 hat6 hlt6 hv6 hw2 HQ2 HB2 HO HR HS HZ HV HB
        go_wp2_with fail
        obtain ⟨e1, e2, e3, e4, e5, e6⟩ := HEnd.out
        refine ⟨⟨j + 1, _, _, by go_num, by omega, e1, e2, e3, e4, ?_, e6⟩, ?_⟩
        · rw [List.take_succ_eq_append_getElem hjs, ← HT.out]
          exact e5
        · simp [intOf]; omega
    · have a0 : decide ((j : Int) < (n : Int)) = false := by simp; omega
      have hjn' : j = s.length := by have := HN.out; omega
      obtain ⟨sa, sc, rfl⟩ := own_any_shape HO.out
      have HFin : Hid (∀ W, wr.grownBy W (some (w.heap.size + 1)) → CnA (.mk k T a b c d s p) w (.returned (.agg #[.int .i64 k, .string T, .int .u64 a, .int .u64 b, .int .u64 c, .int .u64 d, .slice sa j sc, .int .i64 p])) W) := fun W hW => by
        have hr := HR.out
        rw [hjn', List.take_length] at hr
        refine ⟨k, T, a, b, c, d, sa, j, sc, p, rfl, hid ?_, hid (HB.out.grown hW HB.out.size (fun g e => by have := Option.some.inj e; omega))⟩
        rw [RqIs]
        refine ⟨sa, sc, by rw [rtLen_eq, hjn'], ?_⟩
        cases s with
        | nil => exact .inl rfl
        | cons t r =>
          refine .inr ⟨rfl, ?_⟩
          have hO := HO.out
          obtain ⟨_, ⟨_, h0⟩ | ⟨g, cap', cur, e1, hg1, hg2, _, _, _, ht⟩⟩ := hO
          · rw [hjn'] at h0; simp at h0
          · obtain ⟨rfl, _, _⟩ := Value.slice.inj e1
            have kk : ∀ g', w.heap.size + 2 ≤ g' → ∀ cur', wr.heap[g']? = some (.cells cur' 58) → W.heap[g']? = wr.heap[g']? := fun g' h1 cur' h2 => hW.block g' (node_lt h2) (fun e => by have := Option.some.inj e; omega)
            refine ⟨g, cur, rfl, by omega, (kk g hg1 cur hg2).trans hg2, by rw [rtLen_eq, ← hjn']; unfold maxLen; omega, ?_⟩
            have h2 := RqsIs.more _ _ (cur.toList.drop (j * 8)) (RqsIs.kept (w' := W) (Q := fun g => w.heap.size ≤ g) (fun g cur hp hq => ⟨kk g hp.1 cur hq, by have := hp.1; omega⟩) _ _ hr)
            rw [← ht, List.take_append_drop] at h2
            exact h2
      obtain ⟨⟨y0, y1, y2, y3, y4, y5, y6, y7⟩, yf⟩ := eight_cells HV.out
      obtain ⟨⟨q0, q1, q2, q3, q4, q5, q6, q7⟩, qf0, qf1, qf2, qf3, qf4, qf5, qf6, qf7⟩ := eight_cells HZ.out
      have l0 := node_lt HV.out
      have l1 := node_lt HZ.out
      obtain ⟨W8, hW8⟩ : ∃ W8, W8 = ((((((((wr.setCell ⟨w.heap.size + 1, 0, none⟩ (.int .i64 k)).setCell ⟨w.heap.size + 1, 1, none⟩ (.string T)).setCell ⟨w.heap.size + 1, 2, none⟩ (.int .u64 a)).setCell ⟨w.heap.size + 1, 3, none⟩ (.int .u64 b)).setCell ⟨w.heap.size + 1, 4, none⟩ (.int .u64 c)).setCell ⟨w.heap.size + 1, 5, none⟩ (.int .u64 d)).setCell ⟨w.heap.size + 1, 6, none⟩ (.slice sa j sc)).setCell ⟨w.heap.size + 1, 7, none⟩ (.int .i64 p)) := ⟨_, rfl⟩
      have h8 : W8.heap[w.heap.size + 1]? = some (.cells #[.int .i64 k, .string T, .int .u64 a, .int .u64 b, .int .u64 c, .int .u64 d, .slice sa j sc, .int .i64 p] 58) := by rw [hW8]; exact (set_in (set_in (set_in (set_in (set_in (set_in (set_in (set_in HZ.out 0 _) 1 _) 2 _) 3 _) 4 _) 5 _) 6 _) 7 _)
      have HF8 := hid (HFin.out W8 (by rw [hW8]; exact (G.setR (G.setR (G.setR (G.setR (G.setR (G.setR (G.setR (G.setR (G.refl _ _)))))))))))
      have HE8 := hid h8
      have HW8 := hid hW8
      clear HR HC HO HV HZ HS HB HFin hjn' h8 hW8
      go_wp2_with fail
      rw [← HW8.out]
      clear HW8 y0 y1 y2 y3 y4 y5 y6 y7 q0 q1 q2 q3 q4 q5 q6 q7 qf0 qf1 qf2 qf3 qf4 qf5 qf6 qf7 yf
      obtain ⟨⟨e0, e1, e2, e3, e4, e5, e6, e7⟩, _⟩ := eight_cells HE8.out
      refine bodyPost_ret (v := .agg #[.int .i64 k, .string T, .int .u64 a, .int .u64 b, .int .u64 c, .int .u64 d, .slice sa j sc, .int .i64 p]) (by simp [results, Tryz.results58, go_sem, e0, e1, e2, e3, e4, e5, e6, e7]) rfl ?_
      exact HF8.out
end Go.Proofs.YtggmoneicdkamaaGreatDoor
