/-
  What lex.told answers at a classError. Condition: package errors' own variable holds the handle of the type error.
-/
import Derived.Test.YtkofhmmnlapnnaaGreatDoorX11
namespace Go.Proofs.YtkofhmmnlapnnaaGreatDoor
open Go.RowKit
set_option linter.unusedVariables false
/-- What stays and what is new where a target was set. -/
theorem set_use {w w1 W4 : World} {tb : Nat} {v old : Value} (hW : Below w.heap.size w W4) (hw : w1 = W4.setCell ⟨tb, 0, none⟩ v) (hc : w.cell? ⟨tb, 0, none⟩ = some old) (hf : w.frozen? ⟨tb, 0, none⟩ = false) (htb : tb < w.heap.size) :
    w1.cell? ⟨tb, 0, none⟩ = some v ∧ (∀ b, b < w.heap.size → b ≠ tb → w1.heap[b]? = w.heap[b]?) ∧ (∀ B w0, Below B w0 w → B ≤ tb → B ≤ w.heap.size → Below B w0 w1) ∧ w.heap.size ≤ w1.heap.size := by
  refine ⟨?_, ?_, ?_, ?_⟩
  · rw [hw]
    exact World.cell?_setCell_same' _ _ _ (by rw [hW.cell (p := ⟨tb, 0, none⟩) htb, hc]; rfl)
  · intro b hb hne
    rw [hw, Below.heap_setCell _ _ _ _ hne, hW.block b hb]
  · intro B w0 h hB hBs
    rw [hw]
    exact (h.trans (hW.mono hBs)).setCell hB _
  · rw [hw]; have := hW.size; simpa using this
theorem cell_of {w w1 : World} {b k : Nat} (h : w1.heap[b]? = w.heap[b]?) : w1.cell? ⟨b, k, none⟩ = w.cell? ⟨b, k, none⟩ := by simp [World.cell?, h]
theorem froz_of {w w1 : World} {b k : Nat} (h : w1.heap[b]? = w.heap[b]?) : w1.frozen? ⟨b, k, none⟩ = w.frozen? ⟨b, k, none⟩ := by simp [World.frozen?, h]
set_option maxRecDepth 100000 in
set_option maxHeartbeats 4000000 in
theorem told_class (g f p : Nat) (c : Nat × Nat) (w : World) (h : ErrIs w) (hce : CE w g f p c) (hb : p + c.2 ≤ 9007199254740999) :
    Calls Tryz.prog 22 #[.iface 96 (.pointer (some ⟨g, 0, none⟩))] w fun e w' => ∃ q, e = .returned (flv q) ∧ Hid (w.heap.size ≤ q ∧ Flt w' q (c.1, p + c.2) ∧ Below w.heap.size w w') := by
  have hlt := h.lt
  have hgl := hce.lt
  have hfl := hce.2.lt
  obtain ⟨W, hW⟩ : ∃ W, W = (w.alloc (.cells #[.pointer none] 96)).alloc (.cells #[.pointer none] 64) := ⟨_, rfl⟩
  have hWs : W.heap.size = w.heap.size + 2 := by rw [hW]; simp
  have hWB : Below w.heap.size w W := by rw [hW]; exact ((Below.refl _ _).alloc (Nat.le_refl _) _).alloc (by simp) _
  have t1 : W.cell? ⟨w.heap.size, 0, none⟩ = some (.pointer none) := by rw [hW]; simp
  have t1f : W.frozen? ⟨w.heap.size, 0, none⟩ = false := by rw [hW]; simp
  have t2 : W.cell? ⟨w.heap.size + 1, 0, none⟩ = some (.pointer none) := by rw [hW]; simp
  have t2f : W.frozen? ⟨w.heap.size + 1, 0, none⟩ = false := by rw [hW]; simp
  have hA := as_hitC ⟨g, 0, none⟩ ⟨w.heap.size, 0, none⟩ (.pointer none) W (h.below hWB hlt) t1 t1f
  go_enter Tryz.func22, Tryz.ntmps22
  go_wp2_with fail
  rw [← hW]
  refine hA.mono ?_
  rintro e w1 ⟨rfl, hw⟩
  obtain ⟨u1, u2, u3, u4⟩ := set_use ((((((Below.refl _ W).alloc (Nat.le_refl _) _).alloc (by simp) _).alloc (by simp <;> omega) _).alloc (by simp <;> omega) _)) hw t1 t1f (by omega)
  have hB1 : Below w.heap.size w w1 := u3 _ _ hWB (Nat.le_refl _) (by omega)
  have g1 : w1.heap[g]? = w.heap[g]? := hB1.block g hgl
  have k0 : w1.cell? ⟨g, 0, none⟩ = some (.iface 64 (.pointer (some ⟨f, 0, none⟩))) := by rw [cell_of g1]; simp [World.cell?, hce.1]
  have s2 : w1.cell? ⟨w.heap.size + 1, 0, none⟩ = some (.pointer none) := by rw [cell_of (u2 _ (by omega) (by omega)), t2]
  have s2f : w1.frozen? ⟨w.heap.size + 1, 0, none⟩ = false := by rw [froz_of (u2 _ (by omega) (by omega)), t2f]
  have hA2 := as_hitF ⟨f, 0, none⟩ ⟨w.heap.size + 1, 0, none⟩ (.pointer none) w1 (h.below hB1 hlt) s2 s2f
  have HB1 : Hid (Below w.heap.size w w1) := hB1
  have HS1 : Hid (w.heap.size + 2 ≤ w1.heap.size) := by show _ ≤ _; omega
  have HA2 := hid hA2
  have HS2 : Hid (w1.cell? ⟨w.heap.size + 1, 0, none⟩ = some (.pointer none) ∧ w1.frozen? ⟨w.heap.size + 1, 0, none⟩ = false) := ⟨s2, s2f⟩
  have HCE := hid hce
  clear hw hA hA2 u2 u3 u4 t1 t1f t2 t2f hW hWB hWs hB1 g1 s2 s2f h hce
  go_wp2_with fail
  refine HA2.out.mono ?_
  rintro e w2 ⟨rfl, hw2⟩
  have hS1 := HS1.out
  obtain ⟨v1, v2, v3, v4⟩ := set_use ((((((Below.refl _ w1).alloc (Nat.le_refl _) _).alloc (by simp) _).alloc (by simp <;> omega) _).alloc (by simp <;> omega) _)) hw2 HS2.out.1 HS2.out.2 (by omega)
  have hB2 : Below w.heap.size w w2 := v3 _ _ HB1.out (by omega) (by omega)
  have m1 : w2.cell? ⟨w.heap.size, 0, none⟩ = some (.pointer (some ⟨g, 0, none⟩)) := by rw [cell_of (v2 _ (by omega) (by omega)), u1]
  have m2 : w2.cell? ⟨g, 1, none⟩ = some (.int .i64 (p : Int)) := by rw [cell_of (hB2.block g hgl)]; simp [World.cell?, HCE.out.1]
  have m3 : w2.cell? ⟨f, 0, none⟩ = some (.int .i64 (c.1 : Int)) := by rw [cell_of (hB2.block f hfl)]; have := HCE.out.2; unfold Flt at this; simp [World.cell?, this]
  have m4 : w2.cell? ⟨f, 1, none⟩ = some (.int .i64 (c.2 : Int)) := by rw [cell_of (hB2.block f hfl)]; have := HCE.out.2; unfold Flt at this; simp [World.cell?, this]
  have HB2 : Hid (Below w.heap.size w w2) := hB2
  have HN : Hid (((p + c.2 : Nat) : Int) = (p : Int) + (c.2 : Int)) := by show _ = _; omega
  have b1 : (p : Int) + (c.2 : Int) < 9223372036854775808 := by omega
  clear hw2 HA2 v2 v3 v4 hB2 HS2 HCE u1 k0
  go_wp2
  go_region
  go_wp2
  go_ret
  refine ⟨w2.heap.size, rfl, HB2.out.size, ?_, (HB2.out.alloc HB2.out.size _).drew⟩
  have hn := Flt.new w2 (c.1, p + c.2)
  simp only [HN.out] at hn
  exact hn
end Go.Proofs.YtkofhmmnlapnnaaGreatDoor
