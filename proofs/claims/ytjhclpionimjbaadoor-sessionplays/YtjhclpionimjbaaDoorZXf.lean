/-
  The document's find. Conditions: those that each theorem names.
-/
import Derived.Test.YtjhclpionimjbaaDoorZX
namespace Go.Proofs.YtjhclpionimjbaaDoor
open Go.RowKit Go.Maps
set_option linter.unusedVariables false
theorem fnd_first {l : List Sx} {x : Int} {k : Nat} (hk : k < l.length) (h1 : ∀ j (hj : j < l.length), j < k → l[j].i ≠ x) (h2 : l[k].i = x) : fnd l x = some l[k] := by
  unfold fnd
  rw [List.find?_eq_some_iff_getElem]
  refine ⟨by simpa using h2, k, hk, rfl, fun j hj => ?_⟩
  simpa using h1 j (by omega) hj
/-- What find tells. -/
def FindR (w : World) (l : List Sx) (x : Int) (e : Ending) (w' : World) : Prop :=
  Below w.heap.size w w' ∧ ((∃ k, ∃ h : k < l.length, l[k].i = x ∧ fnd l x = some l[k] ∧ e = .returned (.int .i64 (k : Int))) ∨ (fnd l x = none ∧ e = .returned (.int .i64 (-1))))
set_option maxRecDepth 100000 in
set_option maxHeartbeats 2000000 in
theorem find_ok {w : World} {m xb : Nat} {v : Value} {l : List Sx} {ck : Int} (h : Xt w m xb v l ck) (x : Int) :
    Calls Tryd.prog 42 #[.pointer (some ⟨xb, 0, none⟩), .int .i64 x] w (FindR w l x) := by
  have HX := hid h
  obtain ⟨so, cp, rfl, hc, _, _⟩ := h.row.c
  have c0 := (cell_in h.blk 0 _ rfl).1
  simp only [List.getElem_toArray, List.getElem_cons_zero] at c0
  have hlt := node_lt h.blk
  have hfew := h.few
  have hnI : (l.length : Int) ≤ 9223372036854775807 := by omega
  have HC := hid hc
  have HC0 := hid (And.intro c0 hlt)
  clear h hc c0 hlt
  go_enter Tryd.func42, Tryd.ntmps42
  go_wp2_with fail
  go_loopw [5] (fun i wr => ∃ k : Nat, i = .int .i64 (k : Int) ∧ k ≤ l.length ∧ Hid (Below w.heap.size w wr ∧ ∀ j (hj : j < l.length), j < k → l[j].i ≠ x)) (fun i _ => l.length - (intOf i).toNat)
  case atStart => exact ⟨0, rfl, Nat.zero_le _, hid ⟨Below.refl _ _, fun j _ hj => absurd hj (by omega)⟩⟩
  case round =>
    obtain ⟨k, rfl, hk, HB⟩ := hrel
    have c0 := (HB.out.1.cell (p := ⟨xb, 0, none⟩) HC0.out.2).trans HC0.out.1
    by_cases hkn : k < l.length
    · have hkI : (k : Int) < (l.length : Int) := by omega
      obtain ⟨g, off, rfl, hg, hcs⟩ := (HC.out.below HB.out.1).at' (by omega)
      have q0 := (hcs k hkn).1
      clear hg hcs
      by_cases hx : l[k].i = x
      · have HR : Hid (FindR w l x (.returned (.int .i64 (k : Int))) wr) := hid ⟨HB.out.1, .inl ⟨k, hkn, hx, fnd_first hkn HB.out.2 hx, rfl⟩⟩
        rw [hx] at q0
        go_wp2_with fail
        go_ret
        exact HR.out
      · have a1 : (l[k].i == x) = false := by simpa using hx
        have HN : Hid (∀ j (hj : j < l.length), j < k + 1 → l[j].i ≠ x) := hid fun j hj h => by
          rcases Nat.lt_or_eq_of_le (Nat.le_of_lt_succ h) with h | rfl
          · exact HB.out.2 j hj h
          · exact hx
        generalize l[k].i = y at *
        go_wp2_with fail
        exact ⟨⟨k + 1, by go_num, by omega, HB.out.1, HN.out⟩, by simp [intOf]; omega⟩
    · have hkI : ¬ (k : Int) < (l.length : Int) := by omega
      have hkd : decide ((k : Int) < (l.length : Int)) = false := by simpa using hkI
      have hkd2 : decide (k < l.length) = false := by simpa using hkn
      have HR : Hid (FindR w l x (.returned (.int .i64 (-1))) wr) := hid ⟨HB.out.1, .inr ⟨fnd_no (fun t ht => by
        obtain ⟨j, hj, rfl⟩ := List.getElem_of_mem ht
        exact HB.out.2 j hj (by omega)), rfl⟩⟩
      go_wp2_with fail
      go_ret
      exact HR.out
end Go.Proofs.YtjhclpionimjbaaDoor
