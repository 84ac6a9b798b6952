/-
  The cells of rules in memory; the statements' own small case comes out right. Conditions: those that each theorem names.
-/
import Derived.Test.YtkofhmmnlapnnaaGreatDoorY17
namespace Go.Proofs.YtkofhmmnlapnnaaGreatDoor
open Go.RowKit
set_option linter.unusedVariables false
theorem RsIs.get {w : World} {P : Nat → Prop} : ∀ (l : List Rl) (vs : List Value) (k : Nat) (hk : k < l.length), RsIs w P l vs → ∃ c, RlIs w P l[k] c ∧ ∀ j u, c[j]? = some u → vs[k * 10 + j]? = some u
  | [], vs, k, hk, _ => by simp at hk
  | x :: r, vs, 0, hk, h => by
    rw [RsIs] at h
    obtain ⟨c, rest, rfl, h1, h2⟩ := h
    refine ⟨c, h1, fun j u hj => ?_⟩
    have hl : j < c.length := by
      rcases Nat.lt_or_ge j c.length with h | h
      · exact h
      · rw [List.getElem?_eq_none h] at hj; cases hj
    rw [show 0 * 10 + j = j by omega, List.getElem?_append_left hl]
    exact hj
  | x :: r, vs, k + 1, hk, h => by
    rw [RsIs] at h
    obtain ⟨c, rest, rfl, h1, h2⟩ := h
    have hc := h1.len
    obtain ⟨d, h3, h4⟩ := RsIs.get r rest k (by simp at hk; omega) h2
    refine ⟨d, h3, fun j u hj => ?_⟩
    rw [List.getElem?_append_right (by omega), show (k + 1) * 10 + j - c.length = k * 10 + j by omega]
    exact h4 j u hj
/-- The cells of the rule at k. -/
theorem RoR.get {B g n cap : Nat} {rs : List Rl} {W : World} (h : RoR B (.slice (some ⟨g, 0, none⟩) n cap) rs W) (k : Nat) (hk : k < rs.length) :
    ∃ c, RlIs W (fun g => B ≤ g) rs[k] c ∧ ∀ j u, c[j]? = some u → W.cell? ⟨g, k * 10 + j, none⟩ = some u := by
  obtain ⟨xs, h1, h2⟩ := h
  obtain ⟨c, h3, h4⟩ := RsIs.get rs xs k hk h2
  have hc := h3.len
  have hn : n = rs.length := by
    obtain ⟨_, ⟨hq, _⟩ | ⟨g', cap', cur, hq, _⟩⟩ := h1
    · cases hq
    · injection hq
  subst hn
  refine ⟨c, h3, fun j u hj => ?_⟩
  have hl : j < c.length := by
    rcases Nat.lt_or_ge j c.length with h | h
    · exact h
    · rw [List.getElem?_eq_none h] at hj; cases hj
  rw [h1.cellAt _ (by omega)]
  exact h4 j u hj
theorem RlIs.is {W : World} {P : Nat → Prop} {N T : ByteArray} {kd C p q : Nat} {subs : List Nd} {c : List Value} (h : RlIs W P (N, .mk kd T C subs p, q) c) : ∃ sv, c = .string N :: (n8 kd T C sv p ++ [.int .i64 (q : Int)]) := by
  obtain ⟨cs, rfl, h2⟩ := h
  rw [NdIs] at h2
  obtain ⟨sv, rfl, _⟩ := h2
  exact ⟨sv, rfl⟩
set_option maxRecDepth 100000 in
set_option maxHeartbeats 8000000 in
theorem ysmall_ok (w : World) (h : ErrIs w) : Calls Tryz.prog 5 #[] w fun e w' => e = .returned (.bool true) ∧ Hid (Below w.heap.size w w') := by
  have HP := hid (yparse_any smT w h (by decide))
  rw [par_small] at HP
  clear h
  go_enter Tryz.func5, Tryz.ntmps5
  go_wp2_with fail
  refine HP.out.mono ?_
  rintro e w1 ⟨g, cap, rfl, HR, HB⟩
  have hl2 : ∀ a b : Rl, [a, b].length = 2 := fun _ _ => rfl
  rw [hl2] at HR ⊢
  obtain ⟨c, h1, h2⟩ := HR.out.get 0 (by simp)
  obtain ⟨sv, rfl⟩ := h1.is
  have d0 : w1.cell? ⟨g, 1, none⟩ = some (.int .i64 6) := h2 1 _ rfl
  clear h1 h2
  obtain ⟨c, h1, h2⟩ := HR.out.get 1 (by simp)
  obtain ⟨sv, rfl⟩ := h1.is
  have d1 : w1.cell? ⟨g, 10, none⟩ = some (.string { data := #[98] }) := h2 0 _ rfl
  have d2 : w1.cell? ⟨g, 19, none⟩ = some (.int .i64 12) := h2 9 _ rfl
  clear h1 h2
  have hgl : g < w1.heap.size := by obtain ⟨xs, h1, _⟩ := HR.out; exact (h1.lt g rfl).2
  have HB2 := hid (fun o : Obj => HB.out.alloc HB.out.size o)
  clear HR HP HB hl2
  go_wp2_with fail
  go_ret
  exact ⟨rfl, hid (HB2.out _)⟩
end Go.Proofs.YtkofhmmnlapnnaaGreatDoor
