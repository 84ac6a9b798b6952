/-
  What the document's own Same answers at two rows that hold the same tokens: true. Conditions: those that each theorem names.
-/
import Derived.Test.YtbdhgfblkgkekaaDoorXEq
import Derived.BigQuiet
namespace Go.Proofs.YtbdhgfblkgkekaaDoor
open Go.RowKit
set_option linter.unusedVariables false
theorem own_any_shape {w : World} {base e size n : Nat} {v : Value} {xs : List Value} (h : w.ownsRow base e size v n xs) : ∃ a c, v = .slice a n c := by
  obtain ⟨_, ⟨h1, h2⟩ | ⟨g, cap, cur, e, _⟩⟩ := h
  · exact ⟨none, 0, by rw [h1, h2]⟩
  · exact ⟨_, cap, e⟩
theorem tvs_get (a : List Tok) (t : Tok) (b : List Tok) : ∀ j x, (tvs [t])[j]? = some x → (tvs (a ++ t :: b))[a.length * 7 + j]? = some x := by
  intro j x hj
  rw [show a ++ t :: b = a ++ ([t] ++ b) by simp, tvs_append, tvs_append]
  have := tvs_length a
  rw [List.getElem?_append_right (by omega), this, Nat.add_sub_cancel_left]
  have hjl : j < (tvs [t]).length := by
    rcases Nat.lt_or_ge j (tvs [t]).length with h1 | h1
    · exact h1
    · rw [List.getElem?_eq_none h1] at hj; cases hj
  rw [List.getElem?_append_left hjl]
  exact hj
theorem tvs_at (L : List Tok) (k : Nat) (hk : k < L.length) : ∀ j x, (tvs [L[k]])[j]? = some x → (tvs L)[k * 7 + j]? = some x := by
  have h := tvs_get (L.take k) L[k] (L.drop (k + 1))
  have hl : (L.take k).length = k := by simp; omega
  have he : L.take k ++ L[k] :: L.drop (k + 1) = L := by rw [List.getElem_cons_drop, List.take_append_drop]
  rw [he, hl] at h
  exact h
/-- The cells of a token. -/
def Cs (w : World) (g o : Nat) (t : Tok) : Prop := w.cell? ⟨g, o, none⟩ = some (.int .i64 (t.1 : Int)) ∧ w.cell? ⟨g, o + 1, none⟩ = some (.string t.2.1) ∧ w.cell? ⟨g, o + 2, none⟩ = some (.int .u64 (wd t.2.2.1 0 : Nat)) ∧ w.cell? ⟨g, o + 3, none⟩ = some (.int .u64 (wd t.2.2.1 1 : Nat)) ∧ w.cell? ⟨g, o + 4, none⟩ = some (.int .u64 (wd t.2.2.1 2 : Nat)) ∧ w.cell? ⟨g, o + 5, none⟩ = some (.int .u64 (wd t.2.2.1 3 : Nat)) ∧ w.cell? ⟨g, o + 6, none⟩ = some (.int .i64 (t.2.2.2 : Int))
theorem own_tok {w : World} {base g n cap : Nat} {L : List Tok} (h : w.ownsRow base 38 7 (.slice (some ⟨g, 0, none⟩) n cap) n (tvs L)) (k : Nat) (hk : k < L.length) (hn : n = L.length) : Cs w g (k * 7) L[k] := by
  have ha := tvs_at L k hk
  refine ⟨?_, ?_, ?_, ?_, ?_, ?_, ?_⟩
  · rw [h.cellAt _ (by omega)]; exact ha 0 _ rfl
  · rw [h.cellAt _ (by omega)]; exact ha 1 _ rfl
  · rw [h.cellAt _ (by omega)]; exact ha 2 _ rfl
  · rw [h.cellAt _ (by omega)]; exact ha 3 _ rfl
  · rw [h.cellAt _ (by omega)]; exact ha 4 _ rfl
  · rw [h.cellAt _ (by omega)]; exact ha 5 _ rfl
  · rw [h.cellAt _ (by omega)]; exact ha 6 _ rfl
theorem own_cap {w : World} {base e size g n cap : Nat} {xs : List Value} (h : w.ownsRow base e size (.slice (some ⟨g, 0, none⟩) n cap) n xs) : cap ≤ 9223372036854775807 := by
  obtain ⟨_, ⟨h1, _⟩ | ⟨g', cap', cur, e, _, _, _, hc, _⟩⟩ := h
  · cases h1
  · cases e
    unfold maxLen at hc
    omega
set_option maxRecDepth 100000 in
set_option maxHeartbeats 4000000 in
theorem qSame_any (b1 b2 : Nat) (v1 v2 : Value) (L : List Tok) (w : World) (h1 : w.ownsRow b1 38 7 v1 L.length (tvs L)) (h2 : w.ownsRow b2 38 7 v2 L.length (tvs L)) (hL : L.length ≤ 1000000) :
    Calls Tryd.prog 14 #[v1, v2] w fun e w' => e = .returned (.bool true) ∧ Below w.heap.size w w' := by
  have H1 : Hid (w.ownsRow b1 38 7 v1 L.length (tvs L)) := h1
  have H2 : Hid (w.ownsRow b2 38 7 v2 L.length (tvs L)) := h2
  clear h1 h2
  by_cases hz : L.length = 0
  · obtain ⟨a1, c1, rfl⟩ := own_any_shape H1.out
    obtain ⟨a2, c2, rfl⟩ := own_any_shape H2.out
    rw [hz]
    clear H1 H2 hz
    go_enter Tryd.func14, Tryd.ntmps14
    go_wp2_with fail
    refine wp_loop_rounds 1 ?_
    rw [rounds_succ]
    go_wp2_with fail
    go_ret
    exact ⟨rfl, Below.refl _ _⟩
  · obtain ⟨g1, c1, rfl⟩ := own_shape H1.out (by omega)
    obtain ⟨g2, c2, rfl⟩ := own_shape H2.out (by omega)
    have hc1 := own_cap H1.out
    have hc2 := own_cap H2.out
    obtain ⟨n, hn⟩ : ∃ n, n = L.length := ⟨_, rfl⟩
    have HN : Hid (n = L.length) := hn
    rw [← hn] at hL ⊢
    clear hn
    go_enter Tryd.func14, Tryd.ntmps14
    go_wp2_with fail
    go_loopw [5] (fun i wr => ∃ k q : Nat, i = .int .i64 (k : Int) ∧ k ≤ n ∧ wr = w.drewN q) (fun i _ => n - (intOf i).toNat)
    case atStart => exact ⟨0, 0, rfl, by omega, rfl⟩
    case round =>
      obtain ⟨k, q, rfl, hk, rfl⟩ := hrel
      by_cases hkn : k < n
      · have hkI : (k : Int) < (n : Int) := by omega
        have hkL : k < L.length := by rw [← HN.out]; exact hkn
        have z1 := own_tok H1.out k hkL rfl
        have z2 := own_tok H2.out k hkL rfl
        obtain ⟨t, ht⟩ : ∃ t, t = L[k] := ⟨_, rfl⟩
        rw [← ht] at z1 z2
        clear ht
        obtain ⟨kd, T, C, at'⟩ := t
        obtain ⟨p0, p1, p2, p3, p4, p5, p6⟩ := z1
        obtain ⟨r0, r1, r2, r3, r4, r5, r6⟩ := z2
        have e3 : ∀ w : World, (Op.equalIn 9999 36 (.agg #[.int .u64 (wd C 0 : Nat), .int .u64 (wd C 1 : Nat), .int .u64 (wd C 2 : Nat), .int .u64 (wd C 3 : Nat)]) (.agg #[.int .u64 (wd C 0 : Nat), .int .u64 (wd C 1 : Nat), .int .u64 (wd C 2 : Nat), .int .u64 (wd C 3 : Nat)])).run Tryd.prog w = .ok true w := fun w => by simpa using eq_words 9997 w (wd C 0 : Nat) (wd C 1 : Nat) (wd C 2 : Nat) (wd C 3 : Nat) (wd C 0 : Nat) (wd C 1 : Nat) (wd C 2 : Nat) (wd C 3 : Nat)
        clear hkL
        go_wp2_with fail
        go_quiet (fail)
        go_wp2_with fail
        go_roundw
        case rel => exact ⟨k + 1, _, by go_num, by omega, by first | rfl | (rw [World.drewN_drewN])⟩
        case measure => simp [intOf]; omega
      · have hkI : decide ((k : Int) < (n : Int)) = false := by simp; omega
        have hkn' : ¬ k < n := hkn
        go_wp2_with fail
        go_ret
        exact ⟨rfl, below_drewN (Below.refl _ _) q⟩
end Go.Proofs.YtbdhgfblkgkekaaDoor
