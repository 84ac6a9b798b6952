/-
  What bytes.Clone answers at any bytes; a new table; its clock. Conditions: those that each theorem names.
-/
import Derived.Test.YtjhclpionimjbaaDoorZT
import Derived.Shelf.Lay
import Derived.Shelf.Bytes.SlClone
import Derived.Ground.SlbCloneProg
namespace Go.Proofs
open Go.Shelf
shelf_lay SlLaysK.n4 Slk 4 at Tryd as Tryd.laysK4
end Go.Proofs
namespace Go.Proofs.YtjhclpionimjbaaDoor
open Go.RowKit Go.Maps
set_option linter.unusedVariables false
theorem bv_u8 (b : List UInt8) : (b.map fun x => (x.toNat : Int)).map (Value.int .u8) = b.map bv := by
  rw [List.map_map]
  rfl
theorem clone_ok (o : Option Addr) (n c : Nat) (b : List UInt8) (w : World) (h : Has w o n c b) (hn : n ≤ 140737488355328) :
    Calls Tryd.prog 32 #[.slice o n c] w fun e w' => ∃ o' c', e = .returned (.slice o' n c') ∧ Has w' o' n c' b ∧ Fr w.heap.size w' o' c' ∧ (o = none → o' = none) ∧ Below w.heap.size w w' := by
  cases o with
  | none =>
    obtain ⟨h1, h2, h3, h4, h5⟩ := h
    obtain rfl : c = 0 := h4 rfl
    obtain rfl : n = 0 := by omega
    refine (Any.bytes_Clone_nil Tryd.laysK4 0 0 w).mono ?_
    rintro e w' ⟨rfl, rfl⟩
    exact ⟨none, 0, rfl, ⟨h1, h2, h3, h4, h5⟩, .inl ⟨rfl, rfl⟩, fun _ => rfl, Below.refl _ _⟩
  | some a =>
    refine (Any.bytes_Clone_at Tryd.laysK4 a n c (b.map fun x => (x.toNat : Int)) w (by simp [h.1]) hn (fun i hi => ?_)).mono ?_
    · obtain ⟨h1, h2, h3, h4, h5⟩ := h
      obtain ⟨g, off, ha, hlt, hc⟩ := h5 (by omega)
      cases ha
      rw [Addr.add_lit, hc i (by omega)]
      simp [bv, List.getD, List.getElem?_eq_getElem (show i < b.length by omega)]
    · rintro e w' ⟨v', rfl, hrow, hne, hb⟩
      rw [bv_u8] at hrow
      have hrow : w'.ownsRow w.heap.size 5 1 v' n (b.map bv) := hrow
      have hrow' := hrow
      obtain ⟨hl, h1 | h1⟩ := hrow'
      · exact absurd h1.1 hne
      · obtain ⟨g, cap, cur, rfl, k1, k2, k3, k4, k5, k6⟩ := h1
        exact ⟨_, cap, rfl, Has.of_row hrow, .inr ⟨g, cur, rfl, k1, k2, by simpa using k5, k4⟩, fun e => (by cases e), hb⟩
theorem mkmapS (w : World) : (Instr.makeMap 61 none).run Tryd.prog w = .ok (.map (some w.heap.size)) (w.alloc (.map #[] 0)) := by kernel_rfl
theorem new_ok (w : World) : Calls Tryd.prog 12 #[] w fun e w' => ∃ tb B, e = .returned (.pointer (some ⟨tb, 0, none⟩)) ∧ Tb w' tb B [] 0 ∧ w.heap.size ≤ tb ∧ w.heap.size ≤ B ∧ Below w.heap.size w w' := by
  obtain ⟨w1, hw1⟩ : ∃ w1, w1 = w.alloc (.map #[] 0) := ⟨_, rfl⟩
  have hb1 : Below w.heap.size w w1 := by rw [hw1]; exact below_al w _
  have hm : TM w1 w.heap.size [] := by rw [hw1]; exact TM.made w
  have hs1 : w1.heap.size = w.heap.size + 1 := by rw [hw1]; simp
  obtain ⟨w2, hw2⟩ : ∃ w2, w2 = w1.alloc (.cells #[.map (some w.heap.size), .int .i64 0] 63) := ⟨_, rfl⟩
  have hb2 : Below w1.heap.size w1 w2 := by rw [hw2]; exact below_al w1 _
  have hT : Tb w2 (w.heap.size + 1) w.heap.size [] 0 := ⟨by rw [hw2, ← hs1]; exact new_block_at w1 _ rfl, hm.same (hb2.block _ hm.lt), by simp, by simp, by unfold inI; omega⟩
  have HT := hid (And.intro hT (hb1.trans (hb2.mono hb1.size)))
  have HW : Hid (w2 = (w.alloc (.map #[] 0)).alloc (.cells #[.map (some w.heap.size), .int .i64 0] 63)) := by rw [hw2, hw1]; exact rfl
  clear hb1 hm hs1 hb2 hT hw1 hw2
  go_enter Tryd.func12, Tryd.ntmps12
  have hmk := mkmapS
  go_wp2_with fail
  go_ret
  rw [← HW.out]
  exact ⟨_, _, rfl, HT.out.1, by omega, Nat.le_refl _, HT.out.2⟩
theorem clock_ok {w : World} {tb B : Nat} {l : List Sx} {ck : Int} (h : Tb w tb B l ck) : Calls Tryd.prog 20 #[.pointer (some ⟨tb, 0, none⟩)] w fun e w' => e = .returned (.int .i64 ck) ∧ w' = w := by
  obtain ⟨c1, _⟩ := cell_in h.blk 1 _ rfl
  clear h
  go_enter Tryd.func20, Tryd.ntmps20
  go_wp2_with fail
  go_ret
  exact ⟨rfl, rfl⟩
end Go.Proofs.YtjhclpionimjbaaDoor
