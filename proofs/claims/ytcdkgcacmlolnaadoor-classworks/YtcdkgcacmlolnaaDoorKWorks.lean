/-
  For any two classes, any byte and any two ints: muntinlaw02.ClassWorks answers true. Conditions: those that each theorem names.
-/
import Derived.Test.YtcdkgcacmlolnaaDoorKSmall
import Derived.Test.YtcdkgcacmlolnaaDoorKNot
import Derived.Test.YtcdkgcacmlolnaaDoorKCode
import Derived.Test.YtcdkgcacmlolnaaDoorKRef2
namespace Go.Proofs.YtcdkgcacmlolnaaDoor
open Go.RowKit
set_option linter.unusedVariables false
theorem err_of {w w' : World} {p : Prop} (h : Hid (Below w.heap.size w w') ∧ p) (HE : Hid (ErrIs w)) : ErrIs w' := HE.out.below h.1.out HE.out.lt
set_option maxRecDepth 100000 in
set_option maxHeartbeats 4000000 in
theorem works_any (C D b X : Nat) (lo hi f : Int) (ev : Value) (w : World) (hC : C < 2 ^ 256) (hD : D < 2 ^ 256) (hb : b < 256) (hE : ErrIs w)
    (hR : ∀ w : World, Calls Tryd.prog 9 #[.int .i64 lo, .int .i64 hi] w fun e w' => e = .returned (.tuple #[cv X, ev]) ∧ Below w.heap.size w w')
    (hQ : ∀ w : World, Calls Tryd.prog 10 #[.int .i64 lo, .int .i64 hi] w fun e w' => e = .returned (.tuple #[cv X, .int .i64 f]) ∧ Below w.heap.size w w')
    (hK : ∀ w : World, ErrIs w → Calls Tryd.prog 11 #[ev] w fun e w' => e = .returned (.int .i64 f) ∧ Below w.heap.size w w') :
    Calls Tryd.prog 3 #[cv C, cv D, .int .u8 (b : Int), .int .i64 lo, .int .i64 hi] w fun e w' => e = .returned (.bool true) ∧ Below w.heap.size w w' := by
  have HE : Hid (ErrIs w) := hE
  have HR : Hid (∀ w : World, Calls Tryd.prog 9 #[.int .i64 lo, .int .i64 hi] w fun e w' => e = .returned (.tuple #[cv X, ev]) ∧ Below w.heap.size w w') := hR
  have HQ : Hid (∀ w : World, Calls Tryd.prog 10 #[.int .i64 lo, .int .i64 hi] w fun e w' => e = .returned (.tuple #[cv X, .int .i64 f]) ∧ Below w.heap.size w w') := hQ
  have HK : Hid (∀ w : World, ErrIs w → Calls Tryd.prog 11 #[ev] w fun e w' => e = .returned (.int .i64 f) ∧ Below w.heap.size w w') := hK
  clear hE hR hQ hK
  have q1 := eq_self
  have hw1 : IntKind.i64.wrap (b : Int) = (b : Int) := by rw [IntKind.wrap_i64]; omega
  have hw2 : wrap64 (b : Int) = (b : Int) := Go.IntWalk.wrap64_in _ (by omega)
  unfold cv
  go_enter Tryd.func3, Tryd.ntmps3
  go_wp2_with fail
  refine (small_ok _).mono ?_
  rintro e w1 ⟨rfl, hb1⟩
  have HB1 : Hid (Below w.heap.size w w1) := (((Below.refl _ _).alloc (by have := Nat.le_refl w.heap.size; simp <;> omega) _).alloc (by have := Nat.le_refl w.heap.size; simp <;> omega) _).trans (hb1.mono (by have := Nat.le_refl w.heap.size; first | omega | (simp <;> omega)))
  have K1_c : Hid (Cl w1 (w.heap.size) (C)) := (((Cl.new w (C) (n := w.heap.size) (by simp)).alloc _)).below hb1
  have K1_d : Hid (Cl w1 (w.heap.size + 1) (D)) := ((Cl.new (w.alloc (.cells #[.int .u64 (wd (C) 0 : Nat), .int .u64 (wd (C) 1 : Nat), .int .u64 (wd (C) 2 : Nat), .int .u64 (wd (C) 3 : Nat)] 24)) (D) (n := w.heap.size + 1) (by simp))).below hb1
  clear hb1
  obtain ⟨c1_c0, c1_c1, c1_c2, c1_c3⟩ := K1_c.out
  have l1_c := K1_c.out.lt
  obtain ⟨c1_d0, c1_d1, c1_d2, c1_d3⟩ := K1_d.out
  have l1_d := K1_d.out.lt
  dsimp only [cv]
  go_wp2_with fail
  refine (HR.out _).mono ?_
  rintro e w2 ⟨rfl, hb2⟩
  have HB2 : Hid (Below w.heap.size w w2) := HB1.out.trans (hb2.mono (by have := HB1.out.size; first | omega | (simp <;> omega)))
  have K2_c : Hid (Cl w2 (w.heap.size) (C)) := (K1_c.out).below hb2
  have K2_d : Hid (Cl w2 (w.heap.size + 1) (D)) := (K1_d.out).below hb2
  clear K1_c c1_c0 c1_c1 c1_c2 c1_c3 l1_c
  clear K1_d c1_d0 c1_d1 c1_d2 c1_d3 l1_d
  clear HB1
  clear hb2
  obtain ⟨c2_c0, c2_c1, c2_c2, c2_c3⟩ := K2_c.out
  have l2_c := K2_c.out.lt
  obtain ⟨c2_d0, c2_d1, c2_d2, c2_d3⟩ := K2_d.out
  have l2_d := K2_d.out.lt
  dsimp only [cv]
  go_wp2_with fail
  refine (HQ.out _).mono ?_
  rintro e w3 ⟨rfl, hb3⟩
  have HB3 : Hid (Below w.heap.size w w3) := (HB2.out.alloc (by have := HB2.out.size; simp <;> omega) _).trans (hb3.mono (by have := HB2.out.size; first | omega | (simp <;> omega)))
  have K3_c : Hid (Cl w3 (w.heap.size) (C)) := ((K2_c.out.alloc _)).below hb3
  have K3_d : Hid (Cl w3 (w.heap.size + 1) (D)) := ((K2_d.out.alloc _)).below hb3
  have K3_x : Hid (Cl w3 (w2.heap.size) (X)) := ((Cl.new w2 (X) (n := w2.heap.size) (by simp))).below hb3
  clear K2_c c2_c0 c2_c1 c2_c2 c2_c3 l2_c
  clear K2_d c2_d0 c2_d1 c2_d2 c2_d3 l2_d
  clear HB2
  clear hb3
  obtain ⟨c3_c0, c3_c1, c3_c2, c3_c3⟩ := K3_c.out
  have l3_c := K3_c.out.lt
  obtain ⟨c3_d0, c3_d1, c3_d2, c3_d3⟩ := K3_d.out
  have l3_d := K3_d.out.lt
  obtain ⟨c3_x0, c3_x1, c3_x2, c3_x3⟩ := K3_x.out
  have l3_x := K3_x.out.lt
  dsimp only [cv]
  go_wp2_with fail
  have S4 : (fun w' => Hid (Below w.heap.size w w') ∧ (w'.cell? ⟨w.heap.size, 0, none⟩ = some (.int .u64 (wd (C) 0 : Nat)) ∧ w'.cell? ⟨w.heap.size, 1, none⟩ = some (.int .u64 (wd (C) 1 : Nat)) ∧ w'.cell? ⟨w.heap.size, 2, none⟩ = some (.int .u64 (wd (C) 2 : Nat)) ∧ w'.cell? ⟨w.heap.size, 3, none⟩ = some (.int .u64 (wd (C) 3 : Nat))) ∧ (w'.cell? ⟨w.heap.size + 1, 0, none⟩ = some (.int .u64 (wd (D) 0 : Nat)) ∧ w'.cell? ⟨w.heap.size + 1, 1, none⟩ = some (.int .u64 (wd (D) 1 : Nat)) ∧ w'.cell? ⟨w.heap.size + 1, 2, none⟩ = some (.int .u64 (wd (D) 2 : Nat)) ∧ w'.cell? ⟨w.heap.size + 1, 3, none⟩ = some (.int .u64 (wd (D) 3 : Nat))) ∧ (w'.cell? ⟨w2.heap.size, 0, none⟩ = some (.int .u64 (wd (X) 0 : Nat)) ∧ w'.cell? ⟨w2.heap.size, 1, none⟩ = some (.int .u64 (wd (X) 1 : Nat)) ∧ w'.cell? ⟨w2.heap.size, 2, none⟩ = some (.int .u64 (wd (X) 2 : Nat)) ∧ w'.cell? ⟨w2.heap.size, 3, none⟩ = some (.int .u64 (wd (X) 3 : Nat))) ∧ (w'.cell? ⟨w3.heap.size, 0, none⟩ = some (.int .u64 (wd (X) 0 : Nat)) ∧ w'.cell? ⟨w3.heap.size, 1, none⟩ = some (.int .u64 (wd (X) 1 : Nat)) ∧ w'.cell? ⟨w3.heap.size, 2, none⟩ = some (.int .u64 (wd (X) 2 : Nat)) ∧ w'.cell? ⟨w3.heap.size, 3, none⟩ = some (.int .u64 (wd (X) 3 : Nat)))) ((w3.alloc (.cells #[.int .u64 (wd (X) 0 : Nat), .int .u64 (wd (X) 1 : Nat), .int .u64 (wd (X) 2 : Nat), .int .u64 (wd (X) 3 : Nat)] 24)).drew) := ⟨hid ((HB3.out.alloc (by have := HB3.out.size; simp <;> omega) _)).drew, ((K3_c.out.alloc _)).drew, ((K3_d.out.alloc _)).drew, ((K3_x.out.alloc _)).drew, ((Cl.new w3 (X) (n := w3.heap.size) (by simp))).drew⟩
  first | go_region_held3 (fun w' => Hid (Below w.heap.size w w') ∧ (w'.cell? ⟨w.heap.size, 0, none⟩ = some (.int .u64 (wd (C) 0 : Nat)) ∧ w'.cell? ⟨w.heap.size, 1, none⟩ = some (.int .u64 (wd (C) 1 : Nat)) ∧ w'.cell? ⟨w.heap.size, 2, none⟩ = some (.int .u64 (wd (C) 2 : Nat)) ∧ w'.cell? ⟨w.heap.size, 3, none⟩ = some (.int .u64 (wd (C) 3 : Nat))) ∧ (w'.cell? ⟨w.heap.size + 1, 0, none⟩ = some (.int .u64 (wd (D) 0 : Nat)) ∧ w'.cell? ⟨w.heap.size + 1, 1, none⟩ = some (.int .u64 (wd (D) 1 : Nat)) ∧ w'.cell? ⟨w.heap.size + 1, 2, none⟩ = some (.int .u64 (wd (D) 2 : Nat)) ∧ w'.cell? ⟨w.heap.size + 1, 3, none⟩ = some (.int .u64 (wd (D) 3 : Nat))) ∧ (w'.cell? ⟨w2.heap.size, 0, none⟩ = some (.int .u64 (wd (X) 0 : Nat)) ∧ w'.cell? ⟨w2.heap.size, 1, none⟩ = some (.int .u64 (wd (X) 1 : Nat)) ∧ w'.cell? ⟨w2.heap.size, 2, none⟩ = some (.int .u64 (wd (X) 2 : Nat)) ∧ w'.cell? ⟨w2.heap.size, 3, none⟩ = some (.int .u64 (wd (X) 3 : Nat))) ∧ (w'.cell? ⟨w3.heap.size, 0, none⟩ = some (.int .u64 (wd (X) 0 : Nat)) ∧ w'.cell? ⟨w3.heap.size, 1, none⟩ = some (.int .u64 (wd (X) 1 : Nat)) ∧ w'.cell? ⟨w3.heap.size, 2, none⟩ = some (.int .u64 (wd (X) 2 : Nat)) ∧ w'.cell? ⟨w3.heap.size, 3, none⟩ = some (.int .u64 (wd (X) 3 : Nat)))) (first | assumption | exact keep_4 (by assumption) (by assumption)) (first | (go_at_call 11; refine (HK.out _ ?hh).mono ?_; (case hh => exact err_of (by assumption) HE); rintro e wr ⟨rfl, hbr⟩) | (go_at_call 12; refine (has_any _ _ _ (by assumption)).mono ?_; rintro e wr ⟨rfl, hbr⟩) | (go_at_call 13; refine (rhas_any _ _ _ (by assumption)).mono ?_; rintro e wr ⟨rfl, hbr⟩)) | skip
  have T4 : (fun w' => Hid (Below w.heap.size w w') ∧ (w'.cell? ⟨w.heap.size, 0, none⟩ = some (.int .u64 (wd (C) 0 : Nat)) ∧ w'.cell? ⟨w.heap.size, 1, none⟩ = some (.int .u64 (wd (C) 1 : Nat)) ∧ w'.cell? ⟨w.heap.size, 2, none⟩ = some (.int .u64 (wd (C) 2 : Nat)) ∧ w'.cell? ⟨w.heap.size, 3, none⟩ = some (.int .u64 (wd (C) 3 : Nat))) ∧ (w'.cell? ⟨w.heap.size + 1, 0, none⟩ = some (.int .u64 (wd (D) 0 : Nat)) ∧ w'.cell? ⟨w.heap.size + 1, 1, none⟩ = some (.int .u64 (wd (D) 1 : Nat)) ∧ w'.cell? ⟨w.heap.size + 1, 2, none⟩ = some (.int .u64 (wd (D) 2 : Nat)) ∧ w'.cell? ⟨w.heap.size + 1, 3, none⟩ = some (.int .u64 (wd (D) 3 : Nat))) ∧ (w'.cell? ⟨w2.heap.size, 0, none⟩ = some (.int .u64 (wd (X) 0 : Nat)) ∧ w'.cell? ⟨w2.heap.size, 1, none⟩ = some (.int .u64 (wd (X) 1 : Nat)) ∧ w'.cell? ⟨w2.heap.size, 2, none⟩ = some (.int .u64 (wd (X) 2 : Nat)) ∧ w'.cell? ⟨w2.heap.size, 3, none⟩ = some (.int .u64 (wd (X) 3 : Nat))) ∧ (w'.cell? ⟨w3.heap.size, 0, none⟩ = some (.int .u64 (wd (X) 0 : Nat)) ∧ w'.cell? ⟨w3.heap.size, 1, none⟩ = some (.int .u64 (wd (X) 1 : Nat)) ∧ w'.cell? ⟨w3.heap.size, 2, none⟩ = some (.int .u64 (wd (X) 2 : Nat)) ∧ w'.cell? ⟨w3.heap.size, 3, none⟩ = some (.int .u64 (wd (X) 3 : Nat)))) wr := by assumption
  obtain ⟨HB4, K4_c, K4_d, K4_x, K4_y⟩ := T4
  replace K4_c : Hid (Cl wr (w.heap.size) (C)) := K4_c
  replace K4_d : Hid (Cl wr (w.heap.size + 1) (D)) := K4_d
  replace K4_x : Hid (Cl wr (w2.heap.size) (X)) := K4_x
  replace K4_y : Hid (Cl wr (w3.heap.size) (X)) := K4_y
  clear K3_c c3_c0 c3_c1 c3_c2 c3_c3 l3_c
  clear K3_d c3_d0 c3_d1 c3_d2 c3_d3 l3_d
  clear K3_x c3_x0 c3_x1 c3_x2 c3_x3 l3_x
  clear HB3
  clear S4
  obtain ⟨c4_c0, c4_c1, c4_c2, c4_c3⟩ := K4_c.out
  have l4_c := K4_c.out.lt
  obtain ⟨c4_d0, c4_d1, c4_d2, c4_d3⟩ := K4_d.out
  have l4_d := K4_d.out.lt
  obtain ⟨c4_x0, c4_x1, c4_x2, c4_x3⟩ := K4_x.out
  have l4_x := K4_x.out.lt
  obtain ⟨c4_y0, c4_y1, c4_y2, c4_y3⟩ := K4_y.out
  have l4_y := K4_y.out.lt
  go_wp2_with fail
  have S5 : (fun w' => Hid (Below w.heap.size w w') ∧ (w'.cell? ⟨w.heap.size, 0, none⟩ = some (.int .u64 (wd (C) 0 : Nat)) ∧ w'.cell? ⟨w.heap.size, 1, none⟩ = some (.int .u64 (wd (C) 1 : Nat)) ∧ w'.cell? ⟨w.heap.size, 2, none⟩ = some (.int .u64 (wd (C) 2 : Nat)) ∧ w'.cell? ⟨w.heap.size, 3, none⟩ = some (.int .u64 (wd (C) 3 : Nat))) ∧ (w'.cell? ⟨w.heap.size + 1, 0, none⟩ = some (.int .u64 (wd (D) 0 : Nat)) ∧ w'.cell? ⟨w.heap.size + 1, 1, none⟩ = some (.int .u64 (wd (D) 1 : Nat)) ∧ w'.cell? ⟨w.heap.size + 1, 2, none⟩ = some (.int .u64 (wd (D) 2 : Nat)) ∧ w'.cell? ⟨w.heap.size + 1, 3, none⟩ = some (.int .u64 (wd (D) 3 : Nat))) ∧ (w'.cell? ⟨w2.heap.size, 0, none⟩ = some (.int .u64 (wd (X) 0 : Nat)) ∧ w'.cell? ⟨w2.heap.size, 1, none⟩ = some (.int .u64 (wd (X) 1 : Nat)) ∧ w'.cell? ⟨w2.heap.size, 2, none⟩ = some (.int .u64 (wd (X) 2 : Nat)) ∧ w'.cell? ⟨w2.heap.size, 3, none⟩ = some (.int .u64 (wd (X) 3 : Nat))) ∧ (w'.cell? ⟨w3.heap.size, 0, none⟩ = some (.int .u64 (wd (X) 0 : Nat)) ∧ w'.cell? ⟨w3.heap.size, 1, none⟩ = some (.int .u64 (wd (X) 1 : Nat)) ∧ w'.cell? ⟨w3.heap.size, 2, none⟩ = some (.int .u64 (wd (X) 2 : Nat)) ∧ w'.cell? ⟨w3.heap.size, 3, none⟩ = some (.int .u64 (wd (X) 3 : Nat)))) (wr.drew) := ⟨hid (HB4.out).drew, (K4_c.out).drew, (K4_d.out).drew, (K4_x.out).drew, (K4_y.out).drew⟩
  first | go_region_held3 (fun w' => Hid (Below w.heap.size w w') ∧ (w'.cell? ⟨w.heap.size, 0, none⟩ = some (.int .u64 (wd (C) 0 : Nat)) ∧ w'.cell? ⟨w.heap.size, 1, none⟩ = some (.int .u64 (wd (C) 1 : Nat)) ∧ w'.cell? ⟨w.heap.size, 2, none⟩ = some (.int .u64 (wd (C) 2 : Nat)) ∧ w'.cell? ⟨w.heap.size, 3, none⟩ = some (.int .u64 (wd (C) 3 : Nat))) ∧ (w'.cell? ⟨w.heap.size + 1, 0, none⟩ = some (.int .u64 (wd (D) 0 : Nat)) ∧ w'.cell? ⟨w.heap.size + 1, 1, none⟩ = some (.int .u64 (wd (D) 1 : Nat)) ∧ w'.cell? ⟨w.heap.size + 1, 2, none⟩ = some (.int .u64 (wd (D) 2 : Nat)) ∧ w'.cell? ⟨w.heap.size + 1, 3, none⟩ = some (.int .u64 (wd (D) 3 : Nat))) ∧ (w'.cell? ⟨w2.heap.size, 0, none⟩ = some (.int .u64 (wd (X) 0 : Nat)) ∧ w'.cell? ⟨w2.heap.size, 1, none⟩ = some (.int .u64 (wd (X) 1 : Nat)) ∧ w'.cell? ⟨w2.heap.size, 2, none⟩ = some (.int .u64 (wd (X) 2 : Nat)) ∧ w'.cell? ⟨w2.heap.size, 3, none⟩ = some (.int .u64 (wd (X) 3 : Nat))) ∧ (w'.cell? ⟨w3.heap.size, 0, none⟩ = some (.int .u64 (wd (X) 0 : Nat)) ∧ w'.cell? ⟨w3.heap.size, 1, none⟩ = some (.int .u64 (wd (X) 1 : Nat)) ∧ w'.cell? ⟨w3.heap.size, 2, none⟩ = some (.int .u64 (wd (X) 2 : Nat)) ∧ w'.cell? ⟨w3.heap.size, 3, none⟩ = some (.int .u64 (wd (X) 3 : Nat)))) (first | assumption | exact keep_4 (by assumption) (by assumption)) (first | (go_at_call 14; refine (both_any _ _ _).mono ?_; rintro e wr ⟨rfl, hbr⟩; dsimp only [cv]) | (go_at_call 16; refine (either_any _ _ _).mono ?_; rintro e wr ⟨rfl, hbr⟩; dsimp only [cv]) | (go_at_call_of 15 (Value.int IntKind.i64 0); refine (rmix_both _ _ _ (by assumption) (by assumption)).mono ?_; rintro e wr ⟨rfl, hbr⟩; dsimp only [cv]) | (go_at_call_of 15 (Value.int IntKind.i64 1); refine (rmix_either _ _ _ (by assumption) (by assumption)).mono ?_; rintro e wr ⟨rfl, hbr⟩; dsimp only [cv])) | skip
  have T5 : (fun w' => Hid (Below w.heap.size w w') ∧ (w'.cell? ⟨w.heap.size, 0, none⟩ = some (.int .u64 (wd (C) 0 : Nat)) ∧ w'.cell? ⟨w.heap.size, 1, none⟩ = some (.int .u64 (wd (C) 1 : Nat)) ∧ w'.cell? ⟨w.heap.size, 2, none⟩ = some (.int .u64 (wd (C) 2 : Nat)) ∧ w'.cell? ⟨w.heap.size, 3, none⟩ = some (.int .u64 (wd (C) 3 : Nat))) ∧ (w'.cell? ⟨w.heap.size + 1, 0, none⟩ = some (.int .u64 (wd (D) 0 : Nat)) ∧ w'.cell? ⟨w.heap.size + 1, 1, none⟩ = some (.int .u64 (wd (D) 1 : Nat)) ∧ w'.cell? ⟨w.heap.size + 1, 2, none⟩ = some (.int .u64 (wd (D) 2 : Nat)) ∧ w'.cell? ⟨w.heap.size + 1, 3, none⟩ = some (.int .u64 (wd (D) 3 : Nat))) ∧ (w'.cell? ⟨w2.heap.size, 0, none⟩ = some (.int .u64 (wd (X) 0 : Nat)) ∧ w'.cell? ⟨w2.heap.size, 1, none⟩ = some (.int .u64 (wd (X) 1 : Nat)) ∧ w'.cell? ⟨w2.heap.size, 2, none⟩ = some (.int .u64 (wd (X) 2 : Nat)) ∧ w'.cell? ⟨w2.heap.size, 3, none⟩ = some (.int .u64 (wd (X) 3 : Nat))) ∧ (w'.cell? ⟨w3.heap.size, 0, none⟩ = some (.int .u64 (wd (X) 0 : Nat)) ∧ w'.cell? ⟨w3.heap.size, 1, none⟩ = some (.int .u64 (wd (X) 1 : Nat)) ∧ w'.cell? ⟨w3.heap.size, 2, none⟩ = some (.int .u64 (wd (X) 2 : Nat)) ∧ w'.cell? ⟨w3.heap.size, 3, none⟩ = some (.int .u64 (wd (X) 3 : Nat)))) wr := by assumption
  obtain ⟨HB5, K5_c, K5_d, K5_x, K5_y⟩ := T5
  replace K5_c : Hid (Cl wr (w.heap.size) (C)) := K5_c
  replace K5_d : Hid (Cl wr (w.heap.size + 1) (D)) := K5_d
  replace K5_x : Hid (Cl wr (w2.heap.size) (X)) := K5_x
  replace K5_y : Hid (Cl wr (w3.heap.size) (X)) := K5_y
  clear K4_c c4_c0 c4_c1 c4_c2 c4_c3 l4_c
  clear K4_d c4_d0 c4_d1 c4_d2 c4_d3 l4_d
  clear K4_x c4_x0 c4_x1 c4_x2 c4_x3 l4_x
  clear K4_y c4_y0 c4_y1 c4_y2 c4_y3 l4_y
  clear HB4
  clear S5
  obtain ⟨c5_c0, c5_c1, c5_c2, c5_c3⟩ := K5_c.out
  have l5_c := K5_c.out.lt
  obtain ⟨c5_d0, c5_d1, c5_d2, c5_d3⟩ := K5_d.out
  have l5_d := K5_d.out.lt
  obtain ⟨c5_x0, c5_x1, c5_x2, c5_x3⟩ := K5_x.out
  have l5_x := K5_x.out.lt
  obtain ⟨c5_y0, c5_y1, c5_y2, c5_y3⟩ := K5_y.out
  have l5_y := K5_y.out.lt
  go_wp2_with fail
  have S6 : (fun w' => Hid (Below w.heap.size w w') ∧ (w'.cell? ⟨w.heap.size, 0, none⟩ = some (.int .u64 (wd (C) 0 : Nat)) ∧ w'.cell? ⟨w.heap.size, 1, none⟩ = some (.int .u64 (wd (C) 1 : Nat)) ∧ w'.cell? ⟨w.heap.size, 2, none⟩ = some (.int .u64 (wd (C) 2 : Nat)) ∧ w'.cell? ⟨w.heap.size, 3, none⟩ = some (.int .u64 (wd (C) 3 : Nat))) ∧ (w'.cell? ⟨w.heap.size + 1, 0, none⟩ = some (.int .u64 (wd (D) 0 : Nat)) ∧ w'.cell? ⟨w.heap.size + 1, 1, none⟩ = some (.int .u64 (wd (D) 1 : Nat)) ∧ w'.cell? ⟨w.heap.size + 1, 2, none⟩ = some (.int .u64 (wd (D) 2 : Nat)) ∧ w'.cell? ⟨w.heap.size + 1, 3, none⟩ = some (.int .u64 (wd (D) 3 : Nat))) ∧ (w'.cell? ⟨w2.heap.size, 0, none⟩ = some (.int .u64 (wd (X) 0 : Nat)) ∧ w'.cell? ⟨w2.heap.size, 1, none⟩ = some (.int .u64 (wd (X) 1 : Nat)) ∧ w'.cell? ⟨w2.heap.size, 2, none⟩ = some (.int .u64 (wd (X) 2 : Nat)) ∧ w'.cell? ⟨w2.heap.size, 3, none⟩ = some (.int .u64 (wd (X) 3 : Nat))) ∧ (w'.cell? ⟨w3.heap.size, 0, none⟩ = some (.int .u64 (wd (X) 0 : Nat)) ∧ w'.cell? ⟨w3.heap.size, 1, none⟩ = some (.int .u64 (wd (X) 1 : Nat)) ∧ w'.cell? ⟨w3.heap.size, 2, none⟩ = some (.int .u64 (wd (X) 2 : Nat)) ∧ w'.cell? ⟨w3.heap.size, 3, none⟩ = some (.int .u64 (wd (X) 3 : Nat)))) (wr.drew) := ⟨hid (HB5.out).drew, (K5_c.out).drew, (K5_d.out).drew, (K5_x.out).drew, (K5_y.out).drew⟩
  first | go_region_held3 (fun w' => Hid (Below w.heap.size w w') ∧ (w'.cell? ⟨w.heap.size, 0, none⟩ = some (.int .u64 (wd (C) 0 : Nat)) ∧ w'.cell? ⟨w.heap.size, 1, none⟩ = some (.int .u64 (wd (C) 1 : Nat)) ∧ w'.cell? ⟨w.heap.size, 2, none⟩ = some (.int .u64 (wd (C) 2 : Nat)) ∧ w'.cell? ⟨w.heap.size, 3, none⟩ = some (.int .u64 (wd (C) 3 : Nat))) ∧ (w'.cell? ⟨w.heap.size + 1, 0, none⟩ = some (.int .u64 (wd (D) 0 : Nat)) ∧ w'.cell? ⟨w.heap.size + 1, 1, none⟩ = some (.int .u64 (wd (D) 1 : Nat)) ∧ w'.cell? ⟨w.heap.size + 1, 2, none⟩ = some (.int .u64 (wd (D) 2 : Nat)) ∧ w'.cell? ⟨w.heap.size + 1, 3, none⟩ = some (.int .u64 (wd (D) 3 : Nat))) ∧ (w'.cell? ⟨w2.heap.size, 0, none⟩ = some (.int .u64 (wd (X) 0 : Nat)) ∧ w'.cell? ⟨w2.heap.size, 1, none⟩ = some (.int .u64 (wd (X) 1 : Nat)) ∧ w'.cell? ⟨w2.heap.size, 2, none⟩ = some (.int .u64 (wd (X) 2 : Nat)) ∧ w'.cell? ⟨w2.heap.size, 3, none⟩ = some (.int .u64 (wd (X) 3 : Nat))) ∧ (w'.cell? ⟨w3.heap.size, 0, none⟩ = some (.int .u64 (wd (X) 0 : Nat)) ∧ w'.cell? ⟨w3.heap.size, 1, none⟩ = some (.int .u64 (wd (X) 1 : Nat)) ∧ w'.cell? ⟨w3.heap.size, 2, none⟩ = some (.int .u64 (wd (X) 2 : Nat)) ∧ w'.cell? ⟨w3.heap.size, 3, none⟩ = some (.int .u64 (wd (X) 3 : Nat)))) (first | assumption | exact keep_4 (by assumption) (by assumption)) (first | (go_at_call 17; refine (not_any _ ?hh _).mono ?_; (case hh => (first | assumption | exact cnot_lt _ | exact Nat.and_lt_two_pow _ (by assumption) | exact Nat.or_lt_two_pow (by assumption) (by assumption))); rintro e wr ⟨rfl, hbr⟩; dsimp only [cv]) | (go_at_call_of 15 (Value.int IntKind.i64 2); refine (rmix_not _ _ _ (by assumption) (by assumption)).mono ?_; rintro e wr ⟨rfl, hbr⟩; dsimp only [cv]) | (go_at_call 18; refine (count_any _ _).mono ?_; rintro e wr ⟨rfl, hbr⟩) | (go_at_call 19; refine (rcount_any _ _).mono ?_; rintro e wr ⟨rfl, hbr⟩)) | skip
  have T6 : (fun w' => Hid (Below w.heap.size w w') ∧ (w'.cell? ⟨w.heap.size, 0, none⟩ = some (.int .u64 (wd (C) 0 : Nat)) ∧ w'.cell? ⟨w.heap.size, 1, none⟩ = some (.int .u64 (wd (C) 1 : Nat)) ∧ w'.cell? ⟨w.heap.size, 2, none⟩ = some (.int .u64 (wd (C) 2 : Nat)) ∧ w'.cell? ⟨w.heap.size, 3, none⟩ = some (.int .u64 (wd (C) 3 : Nat))) ∧ (w'.cell? ⟨w.heap.size + 1, 0, none⟩ = some (.int .u64 (wd (D) 0 : Nat)) ∧ w'.cell? ⟨w.heap.size + 1, 1, none⟩ = some (.int .u64 (wd (D) 1 : Nat)) ∧ w'.cell? ⟨w.heap.size + 1, 2, none⟩ = some (.int .u64 (wd (D) 2 : Nat)) ∧ w'.cell? ⟨w.heap.size + 1, 3, none⟩ = some (.int .u64 (wd (D) 3 : Nat))) ∧ (w'.cell? ⟨w2.heap.size, 0, none⟩ = some (.int .u64 (wd (X) 0 : Nat)) ∧ w'.cell? ⟨w2.heap.size, 1, none⟩ = some (.int .u64 (wd (X) 1 : Nat)) ∧ w'.cell? ⟨w2.heap.size, 2, none⟩ = some (.int .u64 (wd (X) 2 : Nat)) ∧ w'.cell? ⟨w2.heap.size, 3, none⟩ = some (.int .u64 (wd (X) 3 : Nat))) ∧ (w'.cell? ⟨w3.heap.size, 0, none⟩ = some (.int .u64 (wd (X) 0 : Nat)) ∧ w'.cell? ⟨w3.heap.size, 1, none⟩ = some (.int .u64 (wd (X) 1 : Nat)) ∧ w'.cell? ⟨w3.heap.size, 2, none⟩ = some (.int .u64 (wd (X) 2 : Nat)) ∧ w'.cell? ⟨w3.heap.size, 3, none⟩ = some (.int .u64 (wd (X) 3 : Nat)))) wr := by assumption
  obtain ⟨HB6, K6_c, K6_d, K6_x, K6_y⟩ := T6
  replace K6_c : Hid (Cl wr (w.heap.size) (C)) := K6_c
  replace K6_d : Hid (Cl wr (w.heap.size + 1) (D)) := K6_d
  replace K6_x : Hid (Cl wr (w2.heap.size) (X)) := K6_x
  replace K6_y : Hid (Cl wr (w3.heap.size) (X)) := K6_y
  clear K5_c c5_c0 c5_c1 c5_c2 c5_c3 l5_c
  clear K5_d c5_d0 c5_d1 c5_d2 c5_d3 l5_d
  clear K5_x c5_x0 c5_x1 c5_x2 c5_x3 l5_x
  clear K5_y c5_y0 c5_y1 c5_y2 c5_y3 l5_y
  clear HB5
  clear S6
  obtain ⟨c6_c0, c6_c1, c6_c2, c6_c3⟩ := K6_c.out
  have l6_c := K6_c.out.lt
  obtain ⟨c6_d0, c6_d1, c6_d2, c6_d3⟩ := K6_d.out
  have l6_d := K6_d.out.lt
  obtain ⟨c6_x0, c6_x1, c6_x2, c6_x3⟩ := K6_x.out
  have l6_x := K6_x.out.lt
  obtain ⟨c6_y0, c6_y1, c6_y2, c6_y3⟩ := K6_y.out
  have l6_y := K6_y.out.lt
  go_wp2_with fail
  go_ret
  exact ⟨by simp, HB6.out⟩
end Go.Proofs.YtcdkgcacmlolnaaDoor
