/-
  What scope.Reach answers at any grammar. Conditions: those that each theorem names.
  What errors.As and api.Code answer at an Errno. Condition: package errors' own variable holds the handle of the type error.
  The small case of layer 6's laws. Conditions: those that each theorem names.
  The small case of layer 6's laws comes out right. Conditions: those that each theorem names.
  What scope.Find answers at any grammar. Conditions: those that each theorem names.
-/
import Derived.Test.YtplffhmefnnieaaGreatDoorVO12ToO14
import Derived.Test.YtplffhmefnnieaaGreatDoorVEAs2ToX12
namespace Go.Proofs.YtplffhmefnnieaaGreatDoor
open Go.RowKit Go.Shelf Go.Maps
set_option linter.unusedVariables false
set_option maxRecDepth 100000 in
set_option maxHeartbeats 8000000 in
theorem reach_err (so : Option Addr) (n cap : Nat) (X : Option (Int ⊕ (Int × Int))) (a : Int) (W : World) (hX : X ≠ none)
    (HC : Hid (∀ W' : World, Below W.heap.size W W' → Calls Tryz.prog 12 #[.agg #[.slice so n cap]] W' fun e w' => ∃ v, e = .returned (.tuple #[.slice none 0 0, v]) ∧ errV X W'.heap.size w' v ∧ Below W'.heap.size W' w')) :
    Calls Tryz.prog 13 #[.agg #[.slice so n cap], .int .i64 a] W fun e w' => ∃ v, e = .returned (.tuple #[.slice none 0 0, v]) ∧ errV X W.heap.size w' v ∧ Below W.heap.size W w' := by
  have HB1 : Hid (Below W.heap.size W (W.alloc (.cells #[.slice so n cap] 24))) := (Below.refl _ W).alloc (Nat.le_refl _) _
  have HB0 : Hid (Below W.heap.size W W) := Below.refl _ W
  have HX := hid hX
  clear hX
  go_enter Tryz.func13, Tryz.ntmps13
  go_wp2_with fail
  first
    | (refine (HC.out _ HB1.out).mono ?_; rintro e w1 ⟨v, rfl, h1, h2⟩; have H3 := hid (HB1.out.trans (h2.mono HB1.out.size)); have H4 := hid (h1.lo (S' := W.heap.size) HB1.out.size))
    | (refine (HC.out _ HB0.out).mono ?_; rintro e w1 ⟨v, rfl, h1, h2⟩; have H3 := hid h2; have H4 := hid h1)
  obtain ⟨t, u, rfl⟩ := h1.shape HX.out
  clear HC HB1 HB0 h1 h2
  go_wp2_with fail
  refine bodyPost_ret (v := .tuple #[.slice none 0 0, .iface t u]) (by simp [results, Tryz.results13, go_sem]) rfl ?_
  exact ⟨_, rfl, H4.out, H3.out⟩
set_option maxRecDepth 100000 in
set_option maxHeartbeats 8000000 in
theorem reach_arg (so : Option Addr) (n cap : Nat) (us : List (List Int)) (a : Int) (W : World) (hn : n ≤ 1048576) (ha : a < 0 ∨ (n : Int) ≤ a)
    (HC : Hid (∀ W' : World, Below W.heap.size W W' → Calls Tryz.prog 12 #[.agg #[.slice so n cap]] W' fun e w' => ∃ ub vs, e = .returned (.tuple #[.slice (some ⟨ub, 0, none⟩) n n, .nilIface]) ∧ vs.length = n ∧ Uw W' ub n vs us w')) :
    Calls Tryz.prog 13 #[.agg #[.slice so n cap], .int .i64 a] W fun e w' => e = .returned (.tuple #[.slice none 0 0, .iface 36 (.int .i64 1)]) ∧ Below W.heap.size W w' := by
  have HB1 : Hid (Below W.heap.size W (W.alloc (.cells #[.slice so n cap] 24))) := (Below.refl _ W).alloc (Nat.le_refl _) _
  have HB0 : Hid (Below W.heap.size W W) := Below.refl _ W
  rcases Int.lt_or_le a 0 with h0 | h0
  · have a0 : decide (a < 0) = true := by simp; omega
    go_enter Tryz.func13, Tryz.ntmps13
    go_wp2_with fail
    first
      | (refine (HC.out _ HB1.out).mono ?_; rintro e w1 ⟨ub, vs, rfl, h1, h2⟩; have H3 := hid (HB1.out.trans (h2.be.mono HB1.out.size)))
      | (refine (HC.out _ HB0.out).mono ?_; rintro e w1 ⟨ub, vs, rfl, h1, h2⟩; have H3 := hid h2.be)
    clear HC HB1 HB0 h1 h2
    go_wp2_with fail
    refine bodyPost_ret (v := .tuple #[.slice none 0 0, .iface 36 (.int .i64 1)]) (by simp [results, Tryz.results13, go_sem]) rfl ?_
    exact ⟨rfl, H3.out⟩
  · have a0 : decide (a < 0) = false := by simp; omega
    have a1 : decide ((n : Int) ≤ a) = true := by simp; omega
    go_enter Tryz.func13, Tryz.ntmps13
    go_wp2_with fail
    first
      | (refine (HC.out _ HB1.out).mono ?_; rintro e w1 ⟨ub, vs, rfl, h1, h2⟩; have H3 := hid (HB1.out.trans (h2.be.mono HB1.out.size)))
      | (refine (HC.out _ HB0.out).mono ?_; rintro e w1 ⟨ub, vs, rfl, h1, h2⟩; have H3 := hid h2.be)
    clear HC HB1 HB0 h1 h2
    go_wp2_with fail
    refine bodyPost_ret (v := .tuple #[.slice none 0 0, .iface 36 (.int .i64 1)]) (by simp [results, Tryz.results13, go_sem]) rfl ?_
    exact ⟨rfl, H3.out⟩
set_option maxRecDepth 100000 in
set_option maxHeartbeats 8000000 in
theorem reach_ok (so : Option Addr) (n cap : Nat) (us : List (List Int)) (a : Nat) (W : World) (hn : n ≤ 1048576) (ha : a < n) (HN : Hid (us.length = n)) (HX : Hid (∀ u ∈ us, ∀ x ∈ u, ∃ m : Nat, m < n ∧ x = (m : Int))) (HL : Hid (∀ u ∈ us, u.length ≤ 1048576))
    (HC : Hid (∀ W' : World, Below W.heap.size W W' → Calls Tryz.prog 12 #[.agg #[.slice so n cap]] W' fun e w' => ∃ ub vs, e = .returned (.tuple #[.slice (some ⟨ub, 0, none⟩) n n, .nilIface]) ∧ vs.length = n ∧ Uw W' ub n vs us w')) :
    Calls Tryz.prog 13 #[.agg #[.slice so n cap], .int .i64 (a : Int)] W fun e w' => ∃ v L, e = .returned (.tuple #[v, .nilIface]) ∧ LdIs us a L ∧ L.length ≤ n ∧ w'.ownsRow W.heap.size 3 1 v L.length (L.map (Value.int .i64)) ∧ Below W.heap.size W w' := by
  have HB1 : Hid (Below W.heap.size W (W.alloc (.cells #[.slice so n cap] 24))) := (Below.refl _ W).alloc (Nat.le_refl _) _
  have HB0 : Hid (Below W.heap.size W W) := Below.refl _ W
  have a0 : decide ((a : Int) < 0) = false := by simp
  have a1 : decide ((n : Int) ≤ (a : Int)) = false := by simp; omega
  go_enter Tryz.func13, Tryz.ntmps13
  go_wp2_with fail
  first
    | (refine (HC.out _ HB1.out).mono ?_; rintro e w1 ⟨ub, vs, rfl, h1, h2⟩; have H3 := hid (HB1.out.trans (h2.be.mono HB1.out.size)))
    | (refine (HC.out _ HB0.out).mono ?_; rintro e w1 ⟨ub, vs, rfl, h1, h2⟩; have H3 := hid h2.be)
  have HR := hid (reached_ok _ us n a w1 (uw_M h2 h1 HL.out hn) HN.out HX.out hn ha)
  clear HC HB1 HB0 h1 h2
  go_wp2_with fail
  refine HR.out.mono ?_
  rintro e w2 ⟨v2, L, rfl, g1, g2, g3, g4⟩
  have H5 := hid (H3.out.trans (g4.mono H3.out.size))
  have H6 := hid (row_lo g3 H3.out.size)
  have H7 := hid g1
  obtain ⟨so2, sc2, rfl⟩ := own_any g3
  clear HR g1 g3 g4
  go_wp2_with fail
  refine bodyPost_ret (v := .tuple #[.slice so2 L.length sc2, .nilIface]) (by simp [results, Tryz.results13, go_sem]) rfl ?_
  exact ⟨_, L, rfl, H7.out, g2, H6.out, H5.out⟩
/-- What Reach answers. -/
def ReP (rs : List Rr) (X : Option (Int ⊕ (Int × Int))) (a : Int) (W : World) (e : Ending) (w' : World) : Prop := Below W.heap.size W w' ∧
  ((X ≠ none ∧ ∃ v, e = .returned (.tuple #[.slice none 0 0, v]) ∧ errV X W.heap.size w' v) ∨
   (X = none ∧ (a < 0 ∨ (rs.length : Int) ≤ a) ∧ e = .returned (.tuple #[.slice none 0 0, .iface 36 (.int .i64 1)])) ∨
   (X = none ∧ ∃ (k : Nat) (v : Value) (L : List Int), a = (k : Int) ∧ k < rs.length ∧ e = .returned (.tuple #[v, .nilIface]) ∧ LdIs (rs.map (usR (nmL rs))) k L ∧ L.length ≤ rs.length ∧ w'.ownsRow W.heap.size 3 1 v L.length (L.map (Value.int .i64))))
theorem CkC.from {so : Option Addr} {n cap : Nat} {rs : List Rr} {X : Option (Int ⊕ (Int × Int))} {W W' : World} (h : CkC so n cap rs X W) (hW : Below W.heap.size W W') : CkC so n cap rs X W' := fun W2 h2 => h W2 (hW.trans (h2.mono hW.size))
theorem reach_of (so : Option Addr) (n cap : Nat) (rs : List Rr) (X : Option (Int ⊕ (Int × Int))) (B : Nat) (a : Int) (W : World) (hX : CkX rs X) (HC : CkC so n cap rs X W) (h : RgIs W B so n rs) (hB : B ≤ W.heap.size) (hz : RgZ rs) (hTg : 2 < W.heap.size) :
    Calls Tryz.prog 13 #[.agg #[.slice so n cap], .int .i64 a] W (ReP rs X a W) := by
  have hU : ∀ W' : World, Below W.heap.size W W' → _ := fun W' hW' => uses_of so n cap rs X B W' hX (HC.from hW') (h.below (hW'.mono hB)) (Nat.le_trans hB hW'.size) hz (Nat.lt_of_lt_of_le hTg hW'.size)
  have hnr : n = rs.length := h.1
  cases X with
  | some q =>
    refine (reach_err so n cap (some q) a W (fun h => by cases h) (hid fun W' hW' => (hU W' hW').mono fun e w' he => ?_)).mono fun e w' he => ?_
    · obtain ⟨uv, v, h1, h2, h3, h4, _⟩ := he
      exact ⟨v, by rw [h1, h4 (fun h => by cases h)], h2, h3⟩
    · obtain ⟨v, h1, h2, h3⟩ := he
      exact ⟨h3, .inl ⟨(fun h => by cases h), v, h1, h2⟩⟩
  | none =>
    obtain ⟨hk, hc, hl⟩ := hX
    have hlen := okG_len hk
    have hUs : Hid (∀ W' : World, Below W.heap.size W W' → Calls Tryz.prog 12 #[.agg #[.slice so n cap]] W' fun e w' => ∃ ub vs, e = .returned (.tuple #[.slice (some ⟨ub, 0, none⟩) n n, .nilIface]) ∧ vs.length = n ∧ Uw W' ub n vs (rs.map (usR (nmL rs))) w') := hid fun W' hW' => (hU W' hW').mono fun e w' he => by
      obtain ⟨uv, v, h1, h2, h3, _, h5⟩ := he
      obtain ⟨ub, vs, rfl, h6, h7⟩ := h5 rfl
      obtain rfl : v = .nilIface := h2
      exact ⟨ub, vs, h1, h6, h7⟩
    by_cases ha : a < 0 ∨ (n : Int) ≤ a
    · exact (reach_arg so n cap _ a W (by omega) ha hUs).mono fun e w' he => ⟨he.2, .inr (.inl ⟨rfl, by rw [← hnr]; exact ha, he.1⟩)⟩
    · obtain ⟨k, rfl⟩ : ∃ k : Nat, a = (k : Int) := ⟨a.toNat, by omega⟩
      have hkn : k < n := by omega
      have hnl : (nmL rs).length = n := by unfold nmL; rw [List.length_map, hnr]
      refine (reach_ok so n cap _ k W (by omega) hkn (by rw [List.length_map, hnr]; rfl) (hid fun u hu x hx => ?_) (hid fun u hu => ?_) hUs).mono fun e w' he => ?_
      · obtain ⟨y, _, rfl⟩ := List.mem_map.1 hu
        have := us_mem (by rw [hnl]; omega) hx
        rw [hnl] at this
        exact this
      · obtain ⟨y, hy, rfl⟩ := List.mem_map.1 hu
        exact Nat.le_trans us_len (Nat.le_trans (hl y hy) (by omega))
      · obtain ⟨v, L, h1, h2, h3, h4, h5⟩ := he
        exact ⟨h5, .inr (.inr ⟨rfl, k, v, L, rfl, by omega, h1, h2, by omega, h4⟩)⟩
end Go.Proofs.YtplffhmefnnieaaGreatDoor
namespace Go.Proofs.YtplffhmefnnieaaGreatDoor
open Go.RowKit Go.Extern.Stop Go.Stop Go.Extern
set_option linter.unusedVariables false
end Go.Proofs.YtplffhmefnnieaaGreatDoor
namespace Go.Proofs.YtplffhmefnnieaaGreatDoor
open Go.RowKit Go.Shelf
set_option linter.unusedVariables false
def xOf (rs : List Rr) : Option (Int ⊕ (Int × Int)) := (ckR rs).map .inr
theorem checked_nil (so : Option Addr) (n cap : Nat) (rs : List Rr) (B : Nat) (w : World) (hz : RgZ rs) (h : RgIs w B so n rs) (hB : B ≤ w.heap.size) (hTg : 2 < w.heap.size) (hok : okG rs = true) (hl : ∀ x ∈ rs, (rfT x.2.1).length ≤ 8192)
    (hR : ∀ W : World, Below w.heap.size w W → Calls Tryz.prog 44 #[.agg #[.slice so n cap]] W fun e w' => e = .returned .nilIface ∧ Below W.heap.size W w') : CkX rs (xOf rs) ∧ CkC so n cap rs (xOf rs) w := by
  have hC : ∀ W : World, Below w.heap.size w W → Calls Tryz.prog 29 #[.agg #[.slice so n cap]] W (CkP W rs) := fun W hW => callsIn_wide.1 (checked_ok so n cap rs W ((h.below (hW.mono hB)).upto (Nat.le_trans hB hW.size)) (by have := hW.size; omega) (hid hz) (hid fun W' hW' => hR W' (hW.trans (hW'.mono hW.size))) 0)
  unfold xOf
  cases hk : ckR rs with
  | none =>
    refine ⟨⟨hok, hk, hl⟩, fun W hW => (hC W hW).mono fun e w' he => ?_⟩
    obtain ⟨hb, ⟨c, p, g, h1, _⟩ | ⟨M, _, h2, h3, h4⟩⟩ := he
    · rw [hk] at h1; cases h1
    · exact ⟨_, _, h2, rfl, fun _ => ⟨M, rfl, h3, h4⟩, fun h => absurd rfl h, hb⟩
  | some q =>
    refine ⟨⟨hok, hk⟩, fun W hW => (hC W hW).mono fun e w' he => ?_⟩
    obtain ⟨hb, ⟨c, p, g, h1, h2, h3, h4⟩ | ⟨M, h1, _⟩⟩ := he
    · rw [hk] at h1
      cases h1
      exact ⟨_, _, h2, ⟨g, rfl, h3, h4⟩, (fun h => by cases h), fun _ => rfl, hb⟩
    · rw [hk] at h1; cases h1
/-- The same at what was read. -/
theorem checked_read {S : ByteArray} {rs : List Rl} (hS : S.size ≤ 8192) (hp : parS S = .inr rs) (h1 : sz (pR qT cT rs) ≤ 8192) (h2 : dR rs ≤ 24) (B g n cap : Nat) (W : World) (hr : RoR B (.slice (some ⟨g, 0, none⟩) n cap) rs W) (hT : TabIs W) :
    RgIs W W.heap.size (some ⟨g, 0, none⟩) n (toG rs) ∧ RgZ (toG rs) ∧ CkX (toG rs) (xOf (toG rs)) ∧ CkC (some ⟨g, 0, none⟩) n cap (toG rs) (xOf (toG rs)) W := by
  have hx : ∀ x ∈ rs, Ruk Nmq x := fun x hx => (par_ok hp x hx).1
  have hl := par_le hp
  have hi := toG_is hr (rll_mem (par_sm hS hp)) hl.1
  have hz := (ok_all (toG_q rs) hx).2
  have hT' := hT.lt
  refine ⟨hi, hz, checked_nil _ n cap (toG rs) W.heap.size W hz hi (Nat.le_refl _) hT' (okG_of (toG_q rs) hx hl.2 hl.1) (fun x hx' => Nat.le_trans (rf_mem (toG_q rs) hx x hx') h1) fun W' hW' => oright_of _ n cap (.string (cat (pR qT cT rs))) _ W' (hid fun W2 hW2 => ?_)⟩
  have hb : Below W.heap.size W W2 := hW'.trans (hW2.mono hW'.size)
  have := nprint_read hS hp B g n cap W2 (hr.below hb) (hT.below hb hT.lt)
  rw [ansT_ok h1 h2] at this
  exact this
theorem compact_at (zs : List Int) : ∀ (i : Nat) (hi : i < zs.length), zs[i] ∈ Lib.compact zs
  | 0, hi => by
    unfold Lib.compact Lib.compactUpTo
    refine List.mem_map.2 ⟨0, List.mem_filter.2 ⟨List.mem_range.2 hi, Lib.keeps_lt_one _ 0 (by omega)⟩, ?_⟩
    rw [getElem!_pos _ 0 (by simpa using hi)]
    simp
  | i + 1, hi => by
    by_cases hk : Lib.keeps zs.toArray (i + 1) = true
    · unfold Lib.compact Lib.compactUpTo
      refine List.mem_map.2 ⟨i + 1, List.mem_filter.2 ⟨List.mem_range.2 hi, hk⟩, ?_⟩
      rw [getElem!_pos _ (i + 1) (by simpa using hi)]
      simp
    · have e : zs.toArray[i + 1]! = zs.toArray[i]! := Classical.byContradiction fun hne => hk (Lib.keeps_pos (by simpa using hne))
      rw [getElem!_pos _ (i + 1) (by simpa using hi), getElem!_pos _ i (by simp; omega)] at e
      have e' : zs[i + 1] = zs[i] := by simpa using e
      rw [e']
      exact compact_at zs i (by omega)
theorem compact_mem {zs : List Int} {x : Int} (h : x ∈ zs) : x ∈ Lib.compact zs := by
  obtain ⟨i, hi, rfl⟩ := List.getElem_of_mem h
  exact compact_at zs i hi
theorem us_iff {l : List ByteArray} {y : Rr} {x : Int} : x ∈ usR l y ↔ x ∈ ixL l (rfT y.2.1) := ⟨fun h => (srt_perm _).mem_iff.1 (mem_compact h), fun h => compact_mem ((srt_perm _).mem_iff.2 h)⟩
theorem rch_same {us vs : List (List Int)} (h : ∀ b x, x ∈ us.getD b [] ↔ x ∈ vs.getD b []) {a i : Nat} (hr : Rch us a i) : Rch vs a i := by
  induction hr with
  | refl => exact .refl
  | step _ hm ih => exact ih.step ((h _ _).1 hm)
/-- The places that each rule uses, as they come. -/
def us0 (rs : List Rr) : List (List Int) := rs.map fun y => ixL (nmL rs) (rfT y.2.1)
theorem us0_iff (rs : List Rr) (b : Nat) (x : Int) : x ∈ (rs.map (usR (nmL rs))).getD b [] ↔ x ∈ (us0 rs).getD b [] := by
  unfold us0
  simp only [List.getD_eq_getElem?_getD, List.getElem?_map]
  cases rs[b]? with
  | none => simp
  | some y => simp only [Option.map_some, Option.getD_some]; exact us_iff
theorem ld_same {us vs : List (List Int)} (h : ∀ b x, x ∈ us.getD b [] ↔ x ∈ vs.getD b []) {a : Nat} {L : List Int} (hl : LdIs us a L) : LdIs vs a L :=
  ⟨hl.1, fun x => (hl.2 x).trans ⟨fun ⟨i, e, hi⟩ => ⟨i, e, rch_same h hi⟩, fun ⟨i, e, hi⟩ => ⟨i, e, rch_same (fun b x => (h b x).symm) hi⟩⟩⟩
theorem lt_unique : ∀ {A B : List Int}, A.Pairwise (· < ·) → B.Pairwise (· < ·) → (∀ x, x ∈ A ↔ x ∈ B) → A = B
  | [], [], _, _, _ => rfl
  | [], b :: B, _, _, h => by have := (h b).2 (by simp); simp at this
  | a :: A, [], _, _, h => by have := (h a).1 (by simp); simp at this
  | a :: A, b :: B, ha, hb, h => by
    rw [List.pairwise_cons] at ha hb
    have e : a = b := by
      have h1 := (h a).1 (by simp)
      have h2 := (h b).2 (by simp)
      rcases List.mem_cons.1 h1 with h1 | h1
      · exact h1
      · rcases List.mem_cons.1 h2 with h2 | h2
        · exact h2.symm
        · have := hb.1 a h1
          have := ha.1 b h2
          omega
    subst e
    rw [lt_unique ha.2 hb.2 fun x => ⟨fun hx => by
      have := (h x).1 (List.mem_cons_of_mem _ hx)
      rcases List.mem_cons.1 this with e | h'
      · have := ha.1 x hx; omega
      · exact h', fun hx => by
      have := (h x).2 (List.mem_cons_of_mem _ hx)
      rcases List.mem_cons.1 this with e | h'
      · have := hb.1 x hx; omega
      · exact h'⟩]
theorem ld_unique {us : List (List Int)} {a : Nat} {A B : List Int} (h : LdIs us a A) (k : LdIs us a B) : A = B := lt_unique h.1 k.1 fun x => (h.2 x).trans (k.2 x).symm
end Go.Proofs.YtplffhmefnnieaaGreatDoor
namespace Go.Proofs.YtplffhmefnnieaaGreatDoor
open Go.RowKit Go.Shelf
set_option linter.unusedVariables false
@[reducible] def smA : ByteArray := { data := #[97, 32, 60, 45, 32, 98, 32, 99, 32, 98, 32, 60, 45, 32, 99, 32, 99, 32, 60, 45, 32, 46, 32, 100, 32, 60, 45, 32, 97] }
@[reducible] def smH : ByteArray := { data := #[97, 32, 60, 45, 32, 120, 32, 47, 32, 121] }
def smBA (x : Nat) : Bool := match parS smA with
  | .inr rs => decide (sz (pR qT cT rs) ≤ 8192) && (decide (dR rs ≤ 24) && (decide (ckR (toG rs) = none) && (decide (us0 (toG rs) = [[1, 2], [2], [], [0]]))))
  | .inl _ => false
def smBH (x : Nat) : Bool := match parS smH with
  | .inr rs => decide (sz (pR qT cT rs) ≤ 8192) && (decide (dR rs ≤ 24) && decide (ckR (toG rs) = some (31, 5)))
  | .inl _ => false
theorem smBA_ok : ∀ x, x < 1 → smBA x = true := by decide +kernel
theorem smBH_ok : ∀ x, x < 1 → smBH x = true := by decide +kernel
theorem small_A : ∃ rs, parS smA = .inr rs ∧ sz (pR qT cT rs) ≤ 8192 ∧ dR rs ≤ 24 ∧ ckR (toG rs) = none ∧ us0 (toG rs) = [[1, 2], [2], [], [0]] := by
  have h := smBA_ok 0 (by decide)
  unfold smBA at h
  cases hp : parS smA with
  | inl c => rw [hp] at h; cases h
  | inr rs =>
    rw [hp] at h
    simp only [Bool.and_eq_true, decide_eq_true_eq] at h
    exact ⟨rs, rfl, h⟩
theorem small_H : ∃ rs, parS smH = .inr rs ∧ sz (pR qT cT rs) ≤ 8192 ∧ dR rs ≤ 24 ∧ ckR (toG rs) = some (31, 5) := by
  have h := smBH_ok 0 (by decide)
  unfold smBH at h
  cases hp : parS smH with
  | inl c => rw [hp] at h; cases h
  | inr rs =>
    rw [hp] at h
    simp only [Bool.and_eq_true, decide_eq_true_eq] at h
    exact ⟨rs, rfl, h⟩
theorem small_L : LdIs [[1, 2], [2], [], [0]] 0 [0, 1, 2] := by
  refine ⟨by decide, fun x => ⟨fun hx => ?_, fun ⟨i, e, hi⟩ => ?_⟩⟩
  · have h1 : Rch [[1, 2], [2], [], [0]] 0 1 := Rch.refl.step (by decide)
    have h2 : Rch [[1, 2], [2], [], [0]] 0 2 := Rch.refl.step (by decide)
    rcases List.mem_cons.1 hx with rfl | hx
    · exact ⟨0, rfl, .refl⟩
    · rcases List.mem_cons.1 hx with rfl | hx
      · exact ⟨1, rfl, h1⟩
      · obtain rfl : x = 2 := by simpa using hx
        exact ⟨2, rfl, h2⟩
  · have key : ∀ {i : Nat}, Rch [[1, 2], [2], [], [0]] 0 i → i < 3 := fun {i} hi => by
      induction hi with
      | refl => omega
      | @step b c _ hm ih =>
        rcases (by omega : b = 0 ∨ b = 1 ∨ b = 2) with rfl | rfl | rfl <;> simp at hm <;> omega
    have := key hi
    rcases (by omega : i = 0 ∨ i = 1 ∨ i = 2) with rfl | rfl | rfl <;> subst e <;> decide
set_option maxRecDepth 100000 in
set_option maxHeartbeats 8000000 in
theorem osmall_ok (w : World) (h : ErrIs w) (hT : TabIs w) : Calls Tryz.prog 9 #[] w fun e w' => e = .returned (.bool true) ∧ Hid (Below w.heap.size w w') := by
  obtain ⟨rs, hp, hs1, hs2, hck, hus⟩ := small_A
  obtain ⟨qs, kp, ks1, ks2, kck⟩ := small_H
  have HPA := hid (yparse_any smA w h (by decide))
  rw [hp] at HPA
  have HR := hid (fun (g n cap : Nat) (W : World) (hr : RoR w.heap.size (.slice (some ⟨g, 0, none⟩) n cap) rs W) (hb : Below w.heap.size w W) => checked_read (by decide) hp hs1 hs2 _ g n cap W hr (hT.below hb hT.lt))
  have HPH := hid (fun (W : World) (hb : Below w.heap.size w W) => yparse_any smH W (h.below hb h.lt) (by decide))
  rw [kp] at HPH
  have HK := hid (fun (B g n cap : Nat) (W : World) (hr : RoR B (.slice (some ⟨g, 0, none⟩) n cap) qs W) (hb : Below w.heap.size w W) => checked_read (by decide) kp ks1 ks2 B g n cap W hr (hT.below hb hT.lt))
  have HE := hid h
  have HTl : Hid (2 < w.heap.size) := hT.lt
  have HXA : Hid (xOf (toG rs) = none) := by show _ = _; unfold xOf; rw [hck]; rfl
  have HXH : Hid (xOf (toG qs) = some (.inr (31, 5))) := by show _ = _; unfold xOf; rw [kck]; rfl
  have HU : Hid (us0 (toG rs) = [[1, 2], [2], [], [0]]) := hus
  obtain ⟨n, hn⟩ : ∃ n, n = rs.length := ⟨_, rfl⟩
  obtain ⟨m, hm⟩ : ∃ m, m = qs.length := ⟨_, rfl⟩
  unfold AnsD at HPA HPH
  simp only at HPA HPH
  rw [← hn] at HPA
  rw [← hm] at HPH
  have HN4 : Hid ((toG rs).length = 4) := by
    show _ = _
    have := congrArg List.length hus
    unfold us0 at this
    rw [List.length_map] at this
    exact this
  clear h hT hp hs1 hs2 hck hus kp ks1 ks2 kck hn hm
  go_enter Tryz.func9, Tryz.ntmps9
  go_wp2_with fail
  refine HPA.out.mono ?_
  rintro e w1 ⟨g, cap, rfl, HRo, HB⟩
  obtain ⟨u1, hu1⟩ : ∃ u1, u1 = w1.alloc (.cells #[.slice (some ⟨g, 0, none⟩) n cap] 24) := ⟨_, rfl⟩
  have hb11 : Below w1.heap.size w1 u1 := by rw [hu1]; exact (Below.refl _ w1).alloc (Nat.le_refl _) _
  have HBu := hid (HB.out.trans (hb11.mono HB.out.size))
  obtain ⟨hi, hz, hX, hC⟩ := HR.out g n cap u1 (HRo.out.below hb11) HBu.out
  have HRe := hid (reach_of _ n cap _ _ u1.heap.size 0 u1 hX hC hi (Nat.le_refl _) hz (Nat.lt_of_lt_of_le HTl.out HBu.out.size))
  clear HPA HRo hi hz hX hC HR hb11
  go_wp2_with fail
  rw [← hu1]
  refine HRe.out.mono ?_
  rintro e w2 ⟨hb2, hre⟩
  rcases hre with ⟨hx, _⟩ | ⟨_, ha, _⟩ | ⟨_, k, v, L, ek, hk, rfl, hL, hl, hr⟩
  · exact absurd HXA.out hx
  · rw [HN4.out] at ha; omega
  obtain rfl : k = 0 := by omega
  have eL : L = [0, 1, 2] := ld_unique (by have := ld_same (us0_iff (toG rs)) hL; rw [HU.out] at this; exact this) small_L
  subst eL
  obtain ⟨so, sc, rfl⟩ := own_any hr
  have HB2 := hid (HBu.out.trans (hb2.mono HBu.out.size))
  have HP2 := hid (HPH.out w2 HB2.out)
  have HRw := hid hr
  clear HRe hb2 hL hl hr HPH ek hk hu1 HB HBu
  go_wp2_with fail
  refine HP2.out.mono ?_
  rintro e w3 ⟨g3, cap3, rfl, HRo3, HB3⟩
  obtain ⟨u3, hu3⟩ : ∃ u3, u3 = w3.alloc (.cells #[.slice (some ⟨g3, 0, none⟩) m cap3] 24) := ⟨_, rfl⟩
  have hb33 : Below w3.heap.size w3 u3 := by rw [hu3]; exact (Below.refl _ w3).alloc (Nat.le_refl _) _
  have HB3u := hid (HB3.out.trans (hb33.mono HB3.out.size))
  have HB23 := hid (HB2.out.trans (HB3u.out.mono HB2.out.size))
  obtain ⟨hi, hz, hX, hC⟩ := HK.out _ g3 m cap3 u3 (HRo3.out.below hb33) HB23.out
  rw [HXH.out] at hX hC
  have HCk := hid (check_of _ m cap3 _ _ u3 (hid hC))
  have HRw3 := hid (own_keep HRw.out HB3u.out)
  clear HP2 HRo3 hi hz hX hC HK HRw hb33 HB3 HB3u
  go_wp2_with fail
  rw [← hu3]
  clear hu3
  refine HCk.out.mono ?_
  rintro e w4 ⟨v4, rfl, ⟨g4, rfl, hg4, hb4⟩, hb34⟩
  have HB4 := hid (HB23.out.trans (hb34.mono HB23.out.size))
  have hr4 := own_keep HRw3.out hb34
  have HCo := hid (code_fault g4 31 5 w4 (HE.out.below HB4.out HE.out.lt) hb4)
  have HAt := hid (fun (W : World) (hb : Below w4.heap.size w4 W) => at_fault g4 31 5 W (HE.out.below (HB4.out.trans (hb.mono HB4.out.size)) HE.out.lt) ((hb.block g4 (node_lt hb4)).trans hb4))
  have c2 : ∃ gg, so = some ⟨gg, 0, none⟩ ∧ w4.cell? ⟨gg, 2, none⟩ = some (.int .i64 2) := by
    rcases hr4.2 with ⟨h0, _⟩ | ⟨gg, cap', cur, h1, h2, h3, h4, h5, h6, h7⟩
    · cases h0
    · cases h1
      refine ⟨gg, rfl, (cell_in h3 2 _ ?_).1⟩
      have e : (cur.toList.take (3 * 1))[2]? = some (.int .i64 2) := by rw [show (3 * 1 : Nat) = [(0 : Int), 1, 2].length * 1 from rfl, h7]; rfl
      rw [List.getElem?_take_of_lt (by omega), Array.getElem?_toList] at e
      exact e
  obtain ⟨gg, rfl, c2⟩ := c2
  clear HCk HRw3 hr4 hb34 hb4 hg4
  go_wp2_with (first
    | (go_at_call 16; refine HCo.out.mono ?_; clear HCo; rintro e w5 ⟨rfl, hb5⟩)
    | (go_at_call 17; refine (HAt.out _ hb5).mono ?_; clear HAt; rintro e w6 ⟨rfl, hb6⟩))
  go_ret
  exact ⟨rfl, hid (HB4.out.trans ((hb5.trans (hb6.mono hb5.size)).mono HB4.out.size))⟩
end Go.Proofs.YtplffhmefnnieaaGreatDoor
namespace Go.Proofs.YtplffhmefnnieaaGreatDoor
open Go.RowKit Go.Shelf
set_option linter.unusedVariables false
/-- The place of the first rule of a name; -1: there is none. -/
def fdI (s : ByteArray) (l : List ByteArray) : Int := if inN s l then (ixN s l : Int) else -1
theorem inN_at {s : ByteArray} : ∀ {l : List ByteArray} {j : Nat} (hj : j < l.length), (∀ i (hi : i < l.length), i < j → l[i] ≠ s) → l[j] = s → inN s l = true ∧ ixN s l = j
  | [], j, hj, _, _ => by simp at hj
  | a :: r, 0, _, _, h => by
    have h : a = s := h
    rw [inN, ixN, if_pos h, if_pos h]
    exact ⟨rfl, rfl⟩
  | a :: r, j + 1, hj, hb, h => by
    have h0 : a ≠ s := hb 0 (by simp) (by omega)
    obtain ⟨i1, i2⟩ := inN_at (l := r) (j := j) (by simpa using hj) (fun i hi hij => hb (i + 1) (by simpa using hi) (by omega)) h
    rw [inN, ixN, if_neg h0, if_neg h0, i2]
    exact ⟨i1, rfl⟩
theorem inN_not {s : ByteArray} : ∀ {l : List ByteArray}, (∀ i (hi : i < l.length), l[i] ≠ s) → inN s l = false
  | [], _ => rfl
  | a :: r, h => by
    have h0 : a ≠ s := h 0 (by simp)
    rw [inN, if_neg h0]
    exact inN_not fun i hi => h (i + 1) (by simpa using hi)
theorem beq_str (a b : ByteArray) : (a.toList == b.toList) = decide (a = b) := by
  by_cases h : a = b
  · subst h; simp
  · have : a.toList ≠ b.toList := fun e => h (by
      rw [Go.ByteArray.toList_eq, Go.ByteArray.toList_eq] at e
      exact ByteArray.ext (Array.toList_inj.1 e))
    simp [h, this]
set_option maxRecDepth 100000 in
set_option maxHeartbeats 8000000 in
theorem find_is (N0 T1 s : ByteArray) (k1 a1 b1 c1 d1 p1 q1 : Int) (so1 : Option Addr) (n1 cap1 nB : Nat) (W : World) (hb : Boxed W nB 9 (.string s)) :
    Calls Tryz.prog 37 #[.agg #[.string N0, .int .i64 k1, .string T1, .int .u64 a1, .int .u64 b1, .int .u64 c1, .int .u64 d1, .slice so1 n1 cap1, .int .i64 p1, .int .i64 q1], .pointer (some ⟨nB, 0, none⟩)] W fun e w' => e = .returned (.bool (decide (N0 = s))) ∧ Below W.heap.size W w' := by
  have cn := hb.cell
  have lb := hb.lt
  go_enter Tryz.func37, Tryz.ntmps37
  go_wp2_with fail
  go_ret
  refine ⟨?_, (Below.refl _ W).alloc (Nat.le_refl _) _⟩
  show Ending.returned (.bool (N0.toList == s.toList)) = _
  rw [beq_str]
set_option maxRecDepth 100000 in
set_option maxHeartbeats 8000000 in
theorem oindex_any (s : ByteArray) (so : Option Addr) (n cap : Nat) (rs : List Rr) (B nB : Nat) (W : World) (h : RgIs W B so n rs) (hB : B ≤ W.heap.size) (hb : Boxed W nB 9 (.string s)) (hnB : nB < W.heap.size) :
    Calls Tryz.prog 36 #[.slice so n cap, .func (.func 37) #[] #[.pointer (some ⟨nB, 0, none⟩)]] W fun e w' => e = .returned (.int .i64 (fdI s (nmL rs))) ∧ Below W.heap.size W w' := by
  have HR := hid h
  have HNl : Hid (n = rs.length) := h.1
  have hn6 : n ≤ 9223372036854775807 := by have := h.2.1; unfold maxLen at this; omega
  have HBx := hid hb
  have HBB : Hid (B ≤ W.heap.size) := hB
  clear h hb hB
  go_enter Tryz.func36, Tryz.ntmps36
  go_wp2_with fail
  go_loopw [8] (fun i wr => ∃ j : Nat, i = .int .i64 (j : Int) ∧ j ≤ n ∧ Hid (∀ i (hi : i < rs.length), i < j → rs[i].1 ≠ s) ∧ Hid (Below W.heap.size W wr)) (fun i _ => n - (intOf i).toNat)
  case atStart => exact ⟨0, rfl, Nat.zero_le _, fun i hi h0 => by omega, Below.refl _ _⟩
  case round =>
    obtain ⟨j, rfl, hj, HA, HBj⟩ := hrel
    have hnl : (nmL rs).length = rs.length := List.length_map _
    by_cases hjn : j < n
    · have hjI : (j : Int) < (n : Int) := by omega
      have a0 : decide ((j : Int) < (n : Int)) = true := by simp; omega
      have hjs : j < rs.length := by rw [← HNl.out]; exact hjn
      obtain ⟨g, o, rfl, hg, k1, T1, a1, b1, c1, d1, so1, n1, cap1, p1, hrt, r0⟩ := HR.out.2.2 j hjs
      have hce : ∀ q, wr.cell? ⟨g, q, none⟩ = W.cell? ⟨g, q, none⟩ := fun q => HBj.out.cell (p := ⟨g, q, none⟩) (Nat.lt_of_lt_of_le hg HBB.out)
      simp only [← hce] at r0
      obtain ⟨z0, z1, z2, z3, z4, z5, z6, z7, z8, z9⟩ := r0
      obtain ⟨N0, hN0⟩ : ∃ N0, N0 = rs[j].1 := ⟨_, rfl⟩
      obtain ⟨q1, hq1⟩ : ∃ q1, q1 = rs[j].2.2 := ⟨_, rfl⟩
      rw [← hN0] at z0
      rw [← hq1] at z9
      have HN0 : Hid (N0 = rs[j].1) := hN0
      have HF := hid (find_is N0 T1 s k1 a1 b1 c1 d1 p1 q1 so1 n1 cap1 nB wr ((HBj.out.block nB hnB).trans HBx.out))
      clear hce hrt hN0 hq1
      by_cases e : N0 = s
      · rw [decide_eq_true e] at HF
        have HE : Hid (N0 = s) := e
        clear e
        go_wp2_with (first
          | (go_at_call 37; refine HF.out.mono ?_; clear HF; rintro e w5 ⟨rfl, hb5⟩))
        go_ret
        refine ⟨?_, HBj.out.trans (hb5.mono HBj.out.size)⟩
        obtain ⟨i1, i2⟩ := inN_at (s := s) (l := nmL rs) (j := j) (by omega) (fun i hi hij => by have := HA.out i (by omega) hij; simpa [nmL] using this) (by have := HE.out; rw [HN0.out] at this; simpa [nmL] using this)
        unfold fdI
        rw [i1, i2]
        rfl
      · rw [decide_eq_false e] at HF
        have HE : Hid (N0 ≠ s) := e
        clear e
        go_wp2_with (first
          | (go_at_call 37; refine HF.out.mono ?_; clear HF; rintro e w5 ⟨rfl, hb5⟩))
        refine ⟨⟨j + 1, by go_num, by omega, hid (fun i hi hij => ?_), hid (HBj.out.trans (hb5.mono HBj.out.size))⟩, by simp [intOf]; omega⟩
        by_cases e : i = j
        · subst e
          have := HE.out
          rw [HN0.out] at this
          exact this
        · exact HA.out i hi (by omega)
    · have a0 : decide ((j : Int) < (n : Int)) = false := by simp; omega
      go_wp2_with fail
      go_ret
      refine ⟨?_, HBj.out⟩
      unfold fdI
      rw [inN_not (s := s) (l := nmL rs) fun i hi => by have := HA.out i (by omega) (by have := HNl.out; omega); simpa [nmL] using this]
      rfl
end Go.Proofs.YtplffhmefnnieaaGreatDoor
