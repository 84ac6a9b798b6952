/-
  slices.Sort at a row of numbers of one's own; whether numbers rise; whether a session may be one. Conditions: those that each theorem names.
-/
import Derived.Test.YtjhclpionimjbaaDoorZL
import Derived.Sort.OwnSortedInts
import Derived.Deep.QuietTactic
import Derived.BigQuiet
namespace Go.Proofs.YtjhclpionimjbaaDoor
open Go.RowKit Go.Maps Go.Sort
set_option linter.unusedVariables false
def iv (xs : List Int) : List Value := xs.map (Value.int .i64)
theorem sort_ok {w : World} {base : Nat} {v : Value} {xs : List Int} (h : w.ownsRow base 3 1 v xs.length (iv xs)) (hl : xs.length ≤ 8) :
    Calls Tryd.prog 36 #[v] w fun e w' => e = .returned (.tuple #[]) ∧ w'.ownsRow base 3 1 v xs.length (iv (xs.mergeSort (fun x y => decide (x ≤ y)))) ∧ w.grownBy w' v.ownBlock := by
  have h0 := h
  obtain ⟨hll, ⟨rfl, hz⟩ | ⟨g, cap, cur, rfl, hb, hg, hn, hm, hs, ht⟩⟩ := h
  · refine (AnyM.slices_Sort_int_none Tryd.sortA none 0 w).mono ?_
    rintro e w' ⟨rfl, rfl⟩
    have hx : xs = [] := List.eq_nil_of_length_eq_zero hz
    subst hx
    exact ⟨rfl, by simpa using h0, ⟨rfl, rfl, rfl, Nat.le_refl _, fun _ _ _ => rfl⟩⟩
  · refine (AnyM.slices_Sort_int Tryd.sortA g 0 cap xs w (holds_of_blockI hg (by rw [Nat.mul_one] at ht; exact ht)) (node_lt hg) (by omega)).mono ?_
    rintro e w' ⟨rfl, n, os, rfl⟩
    refine ⟨rfl, ?_, grownBy_sortedI _⟩
    exact ownsRow_sortedI (List.length_mergeSort xs) hb hg hn hm hs
theorem chain_pw {xs : List Int} (h : ∀ t (h : t + 1 < xs.length), xs[t] < xs[t + 1]) : xs.Pairwise (· < ·) := by
  rw [List.pairwise_iff_getElem]
  intro i j hi hj hij
  induction j with
  | zero => omega
  | succ k ih =>
    have h1 := h k hj
    rcases Nat.lt_or_ge i k with h2 | h2
    · have := ih (by omega) h2; omega
    · obtain rfl : i = k := by omega
      exact h1
theorem row_ints {w : World} {base n : Nat} {v : Value} {xs : List Int} (h : w.ownsRow base 3 1 v n (iv xs)) : ∃ so cp, v = .slice so n cp ∧ xs.length = n ∧ n ≤ maxLen ∧ (0 < n → ∃ g, so = some ⟨g, 0, none⟩ ∧ base ≤ g ∧ g < w.heap.size ∧ ∀ k (hk : k < xs.length), w.cell? ⟨g, k, none⟩ = some (.int .i64 xs[k])) := by
  obtain ⟨hl, ⟨rfl, h0⟩ | ⟨g, cap, cur, rfl, hb, hg, hn, hm, hs, ht⟩⟩ := h
  · exact ⟨none, 0, by rw [h0], by simpa [iv] using hl, by omega, fun h => absurd h (by omega)⟩
  · have hl' : xs.length = n := by simpa [iv] using hl
    refine ⟨_, cap, rfl, hl', by omega, fun _ => ⟨g, rfl, hb, node_lt hg, fun k hk => ?_⟩⟩
    have h1 : (cur.toList.take (n * 1))[k]? = some (.int .i64 xs[k]) := by rw [ht]; simp [iv, hk]
    rw [List.getElem?_take_of_lt (by omega)] at h1
    exact (cell_in hg _ _ (by simpa using h1)).1
/-- Do numbers rise? -/
def riB (xs : List Int) : Bool := decide (xs.Pairwise (· < ·))
set_option maxRecDepth 100000 in
set_option maxHeartbeats 4000000 in
theorem rise_ok {w : World} {base n : Nat} {v : Value} {xs : List Int} (h : w.ownsRow base 3 1 v n (iv xs)) :
    Calls Tryd.prog 37 #[v] w fun e w' => e = .returned (.bool (riB xs)) ∧ Below w.heap.size w w' := by
  obtain ⟨so, cp, rfl, hxl, hmx, hcs⟩ := row_ints h
  have HC := hid hcs
  have HL := hid hxl
  have hnI : (n : Int) ≤ 9223372036854775807 := by unfold maxLen at hmx; omega
  obtain ⟨R, hR⟩ : ∃ R, R = riB xs := ⟨_, rfl⟩
  have HRi := hid hR
  rw [← hR]
  clear h hcs hxl hmx hR
  go_enter Tryd.func37, Tryd.ntmps37
  go_wp2_with fail
  go_loopw [3] (fun i wr => ∃ k : Nat, i = .int .i64 (k : Int) ∧ 1 ≤ k ∧ (k ≤ n ∨ k = 1) ∧ Hid (∀ t (h : t + 1 < xs.length), t + 1 < k → xs[t] < xs[t + 1]) ∧ Hid (Below w.heap.size w wr)) (fun i _ => n - (intOf i).toNat)
  case atStart => exact ⟨1, rfl, Nat.le_refl _, .inr rfl, fun t _ h => absurd h (by omega), Below.refl _ _⟩
  case round =>
    obtain ⟨k, rfl, hk1, hkn0, HR, HB⟩ := hrel
    by_cases hkn : k < n
    · have hkI : (k : Int) < (n : Int) := by omega
      obtain ⟨p, hp⟩ : ∃ p, k = p + 1 := ⟨k - 1, by omega⟩
      obtain ⟨g, rfl, _, hg, hc⟩ := HC.out (by omega)
      have hkx : k < xs.length := by rw [HL.out]; exact hkn
      have hpx : p < xs.length := by omega
      have q0 := (HB.out.cell (p := ⟨g, k, none⟩) hg).trans (hc k hkx)
      have q1 := (HB.out.cell (p := ⟨g, p, none⟩) hg).trans (hc p hpx)
      have hw7 : IntKind.i64.wrap ((k : Int) - 1) = (p : Int) := by rw [IntKind.wrap_i64]; omega
      have hw8 : IntKind.i64.wrap ((k : Int) + 1) = (k : Int) + 1 := by rw [IntKind.wrap_i64]; omega
      have hpI : (p : Int) < (n : Int) := by omega
      have hpn : p < n := by omega
      have HY : Hid (xs[p] < xs[k] → ∀ t (h : t + 1 < xs.length), t + 1 < k + 1 → xs[t] < xs[t + 1]) := fun h t ht hlt => by
        by_cases e : t = p
        · subst e; simpa [hp] using h
        · exact HR.out t ht (by omega)
      have HN : Hid (¬ xs[p] < xs[k] → ¬ xs.Pairwise (· < ·)) := fun h hpw => h (List.pairwise_iff_getElem.1 hpw p k hpx hkx (by omega))
      have HP := hid hp
      generalize xs[k] = ik at *
      generalize xs[p] = ip at *
      clear hp hc hkx hpx
      by_cases hle : ik ≤ ip
      · have hle2 : decide (ik ≤ ip) = true := by simpa using hle
        have HN2 := hid (HN.out (by omega))
        clear HN HY
        go_wp2_with fail
        go_quiet (fail)
        go_wp2_with fail
        go_ret
        exact ⟨by rw [HRi.out, show riB xs = false from decide_eq_false HN2.out]; rfl, HB.out.trans ⟨rfl, rfl, rfl, Nat.le_refl _, fun _ _ => rfl⟩⟩
      · have hle2 : decide (ik ≤ ip) = false := by simpa using hle
        have HY2 := hid (HY.out (by omega))
        clear HN HY
        go_wp2_with fail
        go_quiet (fail)
        go_wp2_with fail
        exact ⟨⟨k + 1, by go_num, by omega, .inl (by omega), HY2, HB.out.trans ⟨rfl, rfl, rfl, Nat.le_refl _, fun _ _ => rfl⟩⟩, by simp [intOf]; omega⟩
    · have hkI : ¬ (k : Int) < (n : Int) := by omega
      have hkd : decide ((k : Int) < (n : Int)) = false := by simpa using hkI
      have hkd2 : decide (k < n) = false := by simpa using hkn
      have HF : Hid (xs.Pairwise (· < ·)) := chain_pw fun t ht => HR.out t ht (by rw [HL.out] at ht; omega)
      go_wp2_with fail
      go_ret
      exact ⟨by rw [HRi.out, show riB xs = true from decide_eq_true HF.out]; rfl, HB.out⟩
/-- May a session be one, when the clock shows that? -/
def MayB (s : Sx) (ck : Int) : Prop := (s.l = 0 → s.n = 0) ∧ 1 ≤ s.i ∧ 0 ≤ s.l ∧ 1 ≤ s.u ∧ s.u ≤ ck ∧ s.n ≤ 16384
def mayB (s : Sx) (ck : Int) : Bool := (s.l != 0 || s.n == 0) && decide (1 ≤ s.i) && decide (0 ≤ s.l) && decide (1 ≤ s.u) && decide (s.u ≤ ck) && decide (s.n ≤ 16384)
theorem mayB_iff (s : Sx) (ck : Int) : mayB s ck = true ↔ MayB s ck := by
  unfold mayB MayB
  simp only [Bool.and_eq_true, Bool.or_eq_true, bne_iff_ne, beq_iff_eq, decide_eq_true_eq]
  constructor
  · rintro ⟨⟨⟨⟨⟨h0, h1⟩, h2⟩, h3⟩, h4⟩, h5⟩
    exact ⟨fun e => h0.resolve_left (fun h => h e), h1, h2, h3, h4, h5⟩
  · rintro ⟨h0, h1, h2, h3, h4, h5⟩
    refine ⟨⟨⟨⟨⟨?_, h1⟩, h2⟩, h3⟩, h4⟩, h5⟩
    by_cases e : s.l = 0
    · exact .inr (h0 e)
    · exact .inl e
theorem mayB_not {s : Sx} {ck : Int} (h : ¬ MayB s ck) : mayB s ck = false := by
  cases e : mayB s ck
  · rfl
  · exact absurd ((mayB_iff s ck).1 e) h
set_option maxRecDepth 100000 in
set_option maxHeartbeats 4000000 in
theorem mayBe_ok (s : Sx) (ck : Int) (w : World) : Calls Tryd.prog 35 #[sxv s, .int .i64 ck] w fun e w' => e = .returned (.bool (mayB s ck)) ∧ Below w.heap.size w w' := by
  have HB := hid (fun (i l u : Int) (o : Option Addr) (n c : Nat) => below_al w (.cells #[.int .i64 i, .int .i64 l, .int .i64 u, .slice o n c] 59))
  obtain ⟨M, hM⟩ : ∃ M, M = mayB s ck := ⟨_, rfl⟩
  have HM := hid hM
  rw [← hM]
  clear hM
  obtain ⟨i, l, u, o, n, c, b⟩ := s
  by_cases h0 : l = 0 ∧ ¬ n = 0
  · obtain ⟨hl, hn⟩ := h0
    have a1 : (0 : Int) < (n : Int) := by omega
    have a2 : decide ((0 : Int) < (n : Int)) = true := by simpa using a1
    have a3 : decide (0 < n) = true := by simp; omega
    have al : (l == 0) = true := by simpa using hl
    have HL := hid hl
    have HNn := hid hn
    clear hl hn
    go_enter Tryd.func35, Tryd.ntmps35
    go_wp2_with fail
    all_goals (
      go_ret
      exact ⟨by rw [HM.out, show mayB ⟨i, l, u, o, n, c, b⟩ ck = false from mayB_not (fun h => absurd (h.1 HL.out) HNn.out)]; rfl, HB.out _ _ _ _ _ _⟩)
  · have HZ : Hid (l = 0 → n = 0) := fun h => Decidable.byContradiction fun hn => h0 ⟨h, hn⟩
    have hor : ((l == 0) = true ∧ n = 0) ∨ (l == 0) = false := by
      by_cases e : l = 0
      · exact .inl ⟨by simpa using e, HZ.out e⟩
      · exact .inr (by simpa using e)
    have HZ2 : Hid (Hid (l = 0 → n = 0)) := HZ
    clear h0
    by_cases h1 : 1 ≤ i
    rotate_left
    · have dh1 : decide (1 ≤ i) = false := by simpa using h1
      have HNh1 := hid h1
      rcases hor with ⟨al, hn0⟩ | al
      · have z1 : ¬ (0 : Int) < (n : Int) := by omega
        have z2 : decide ((0 : Int) < (n : Int)) = false := by simpa using z1
        have z3 : decide (0 < n) = false := by simp; omega
        clear hn0
        go_enter Tryd.func35, Tryd.ntmps35
        go_wp2_with fail
        all_goals (
          go_ret
          exact ⟨by rw [HM.out, show mayB ⟨i, l, u, o, n, c, b⟩ ck = false from mayB_not (fun h => by have q : 1 ≤ i := h.2.1; have q2 := HNh1.out; omega)]; rfl, HB.out _ _ _ _ _ _⟩)
      · skip
        go_enter Tryd.func35, Tryd.ntmps35
        go_wp2_with fail
        all_goals (
          go_ret
          exact ⟨by rw [HM.out, show mayB ⟨i, l, u, o, n, c, b⟩ ck = false from mayB_not (fun h => by have q : 1 ≤ i := h.2.1; have q2 := HNh1.out; omega)]; rfl, HB.out _ _ _ _ _ _⟩)
    have dh1 : decide (1 ≤ i) = true := by simpa using h1
    by_cases h2 : 0 ≤ l
    rotate_left
    · have dh2 : decide (0 ≤ l) = false := by simpa using h2
      have HNh2 := hid h2
      rcases hor with ⟨al, hn0⟩ | al
      · have z1 : ¬ (0 : Int) < (n : Int) := by omega
        have z2 : decide ((0 : Int) < (n : Int)) = false := by simpa using z1
        have z3 : decide (0 < n) = false := by simp; omega
        clear hn0
        go_enter Tryd.func35, Tryd.ntmps35
        go_wp2_with fail
        all_goals (
          go_ret
          exact ⟨by rw [HM.out, show mayB ⟨i, l, u, o, n, c, b⟩ ck = false from mayB_not (fun h => by have q : 0 ≤ l := h.2.2.1; have q2 := HNh2.out; omega)]; rfl, HB.out _ _ _ _ _ _⟩)
      · skip
        go_enter Tryd.func35, Tryd.ntmps35
        go_wp2_with fail
        all_goals (
          go_ret
          exact ⟨by rw [HM.out, show mayB ⟨i, l, u, o, n, c, b⟩ ck = false from mayB_not (fun h => by have q : 0 ≤ l := h.2.2.1; have q2 := HNh2.out; omega)]; rfl, HB.out _ _ _ _ _ _⟩)
    have dh2 : decide (0 ≤ l) = true := by simpa using h2
    by_cases h3 : 1 ≤ u
    rotate_left
    · have dh3 : decide (1 ≤ u) = false := by simpa using h3
      have HNh3 := hid h3
      rcases hor with ⟨al, hn0⟩ | al
      · have z1 : ¬ (0 : Int) < (n : Int) := by omega
        have z2 : decide ((0 : Int) < (n : Int)) = false := by simpa using z1
        have z3 : decide (0 < n) = false := by simp; omega
        clear hn0
        go_enter Tryd.func35, Tryd.ntmps35
        go_wp2_with fail
        all_goals (
          go_ret
          exact ⟨by rw [HM.out, show mayB ⟨i, l, u, o, n, c, b⟩ ck = false from mayB_not (fun h => by have q : 1 ≤ u := h.2.2.2.1; have q2 := HNh3.out; omega)]; rfl, HB.out _ _ _ _ _ _⟩)
      · skip
        go_enter Tryd.func35, Tryd.ntmps35
        go_wp2_with fail
        all_goals (
          go_ret
          exact ⟨by rw [HM.out, show mayB ⟨i, l, u, o, n, c, b⟩ ck = false from mayB_not (fun h => by have q : 1 ≤ u := h.2.2.2.1; have q2 := HNh3.out; omega)]; rfl, HB.out _ _ _ _ _ _⟩)
    have dh3 : decide (1 ≤ u) = true := by simpa using h3
    by_cases h4 : u ≤ ck
    rotate_left
    · have dh4 : decide (u ≤ ck) = false := by simpa using h4
      have HNh4 := hid h4
      rcases hor with ⟨al, hn0⟩ | al
      · have z1 : ¬ (0 : Int) < (n : Int) := by omega
        have z2 : decide ((0 : Int) < (n : Int)) = false := by simpa using z1
        have z3 : decide (0 < n) = false := by simp; omega
        clear hn0
        go_enter Tryd.func35, Tryd.ntmps35
        go_wp2_with fail
        all_goals (
          go_ret
          exact ⟨by rw [HM.out, show mayB ⟨i, l, u, o, n, c, b⟩ ck = false from mayB_not (fun h => by have q : u ≤ ck := h.2.2.2.2.1; have q2 := HNh4.out; omega)]; rfl, HB.out _ _ _ _ _ _⟩)
      · skip
        go_enter Tryd.func35, Tryd.ntmps35
        go_wp2_with fail
        all_goals (
          go_ret
          exact ⟨by rw [HM.out, show mayB ⟨i, l, u, o, n, c, b⟩ ck = false from mayB_not (fun h => by have q : u ≤ ck := h.2.2.2.2.1; have q2 := HNh4.out; omega)]; rfl, HB.out _ _ _ _ _ _⟩)
    have dh4 : decide (u ≤ ck) = true := by simpa using h4
    by_cases h5 : n ≤ 16384
    rotate_left
    · have dh5 : decide (n ≤ 16384) = false := by simpa using h5
      have dI : ¬ (n : Int) ≤ 16384 := by omega
      have dJ : decide ((n : Int) ≤ 16384) = false := by simpa using dI
      have HNh5 := hid h5
      rcases hor with ⟨al, hn0⟩ | al
      · exact absurd (by omega) h5
      · skip
        go_enter Tryd.func35, Tryd.ntmps35
        go_wp2_with fail
        all_goals (
          go_ret
          exact ⟨by rw [HM.out, show mayB ⟨i, l, u, o, n, c, b⟩ ck = false from mayB_not (fun h => by have q : n ≤ 16384 := h.2.2.2.2.2; have q2 := HNh5.out; omega)]; rfl, HB.out _ _ _ _ _ _⟩)
    have dh5 : decide (n ≤ 16384) = true := by simpa using h5
    have dI : (n : Int) ≤ 16384 := by omega
    have dJ : decide ((n : Int) ≤ 16384) = true := by simpa using dI
    have HAll := hid (And.intro h1 (And.intro h2 (And.intro h3 (And.intro h4 h5))))
    rcases hor with ⟨al, hn0⟩ | al
    · have z1 : ¬ (0 : Int) < (n : Int) := by omega
      have z2 : decide ((0 : Int) < (n : Int)) = false := by simpa using z1
      have z3 : decide (0 < n) = false := by simp; omega
      clear hn0
      go_enter Tryd.func35, Tryd.ntmps35
      go_wp2_with fail
      all_goals (
        go_ret
        exact ⟨by rw [HM.out, show mayB ⟨i, l, u, o, n, c, b⟩ ck = true from (mayB_iff _ _).2 ⟨HZ2.out.out, HAll.out.1, HAll.out.2.1, HAll.out.2.2.1, HAll.out.2.2.2.1, HAll.out.2.2.2.2⟩]; rfl, HB.out _ _ _ _ _ _⟩)
    · skip
      go_enter Tryd.func35, Tryd.ntmps35
      go_wp2_with fail
      all_goals (
        go_ret
        exact ⟨by rw [HM.out, show mayB ⟨i, l, u, o, n, c, b⟩ ck = true from (mayB_iff _ _).2 ⟨HZ2.out.out, HAll.out.1, HAll.out.2.1, HAll.out.2.2.1, HAll.out.2.2.2.1, HAll.out.2.2.2.2⟩]; rfl, HB.out _ _ _ _ _ _⟩)
end Go.Proofs.YtjhclpionimjbaaDoor
