/-
  For any two classes and any byte: muntinlaw02.ClassWithin answers true. Conditions: those that each theorem names.
-/
import Derived.Test.YtcdkgcacmlolnabK3
import Derived.Test.YtcdkgcacmlolnabKEq
import Derived.Deep.DeepCutAuto
import Derived.Deep.RegionWith
namespace Go.Proofs.Ytcdkgcacmlolnab
open Go.RowKit
set_option linter.unusedVariables false
theorem within_both (C D : Nat) : (C &&& D) &&& (C ||| D) = C &&& D := by
  apply Nat.eq_of_testBit_eq
  intro j
  simp only [Nat.testBit_and, Nat.testBit_or]
  cases C.testBit j <;> cases D.testBit j <;> rfl
set_option maxRecDepth 100000 in
set_option maxHeartbeats 4000000 in
theorem within_any (C D b : Nat) (w : World) (hC : C < 2 ^ 256) (hD : D < 2 ^ 256) (hb : b < 256) :
    Calls Try.prog 3 #[cv C, cv D, .int .u8 (b : Int)] w fun e w' => e = .returned (.bool true) ∧ Below w.heap.size w w' := by
  have e1 := within_both C D
  have q1 := eq_self
  have t1 := Nat.testBit_and C D b
  have t2 := Nat.testBit_or C D b
  have p4 := pc_le 256 (C &&& D)
  have p5 := pc_le 256 (C ||| D)
  have p6 := pc_and_le_or 256 C D
  have p7 : decide ((pc 256 (C &&& D) : Int) ≤ (pc 256 (C ||| D) : Int)) = true := by simp; omega
  unfold cv
  cases hx : C.testBit b
  · cases hy : D.testBit b
    all_goals
      rw [hx, hy] at t1 t2
      simp only [Bool.and_true, Bool.and_false, Bool.or_true, Bool.or_false] at t1 t2
      go_enter Try.func3, Try.ntmps3
      go_wp2_with fail
      refine (small_ok _).mono ?_
      rintro e w1 ⟨rfl, hb1⟩
      have HB1 : Hid (Below w.heap.size w w1) := (((Below.refl _ _).alloc (by have := Nat.le_refl w.heap.size; simp <;> omega) _).alloc (by have := Nat.le_refl w.heap.size; simp <;> omega) _).trans (hb1.mono (by have := Nat.le_refl w.heap.size; first | omega | (simp <;> omega)))
      have K1_c : Hid (Cl w1 (w.heap.size) (C)) := (((Cl.new w (C) (n := w.heap.size) (by simp)).alloc _)).below hb1
      have K1_d : Hid (Cl w1 (w.heap.size + 1) (D)) := ((Cl.new (w.alloc (.cells #[.int .u64 (wd (C) 0 : Nat), .int .u64 (wd (C) 1 : Nat), .int .u64 (wd (C) 2 : Nat), .int .u64 (wd (C) 3 : Nat)] 24)) (D) (n := w.heap.size + 1) (by simp))).below hb1
      clear hb1
      obtain ⟨c1_c0, c1_c1, c1_c2, c1_c3⟩ := K1_c.out
      have l1_c := K1_c.out.lt
      obtain ⟨c1_d0, c1_d1, c1_d2, c1_d3⟩ := K1_d.out
      have l1_d := K1_d.out.lt
      dsimp only [cv]
      go_wp2_with fail
      refine (both_any C D _).mono ?_
      rintro e w2 ⟨rfl, hb2⟩
      have HB2 : Hid (Below w.heap.size w w2) := HB1.out.trans (hb2.mono (by have := HB1.out.size; first | omega | (simp <;> omega)))
      have K2_c : Hid (Cl w2 (w.heap.size) (C)) := (K1_c.out).below hb2
      have K2_d : Hid (Cl w2 (w.heap.size + 1) (D)) := (K1_d.out).below hb2
      clear K1_c c1_c0 c1_c1 c1_c2 c1_c3 l1_c
      clear K1_d c1_d0 c1_d1 c1_d2 c1_d3 l1_d
      clear HB1
      clear hb2
      obtain ⟨c2_c0, c2_c1, c2_c2, c2_c3⟩ := K2_c.out
      have l2_c := K2_c.out.lt
      obtain ⟨c2_d0, c2_d1, c2_d2, c2_d3⟩ := K2_d.out
      have l2_d := K2_d.out.lt
      dsimp only [cv]
      go_wp2_with fail
      refine (either_any C D _).mono ?_
      rintro e w3 ⟨rfl, hb3⟩
      have HB3 : Hid (Below w.heap.size w w3) := (HB2.out.alloc (by have := HB2.out.size; simp <;> omega) _).trans (hb3.mono (by have := HB2.out.size; first | omega | (simp <;> omega)))
      have K3_c : Hid (Cl w3 (w.heap.size) (C)) := ((K2_c.out.alloc _)).below hb3
      have K3_d : Hid (Cl w3 (w.heap.size + 1) (D)) := ((K2_d.out.alloc _)).below hb3
      have K3_both : Hid (Cl w3 (w2.heap.size) (C &&& D)) := ((Cl.new w2 (C &&& D) (n := w2.heap.size) (by simp))).below hb3
      clear K2_c c2_c0 c2_c1 c2_c2 c2_c3 l2_c
      clear K2_d c2_d0 c2_d1 c2_d2 c2_d3 l2_d
      clear HB2
      clear hb3
      obtain ⟨c3_c0, c3_c1, c3_c2, c3_c3⟩ := K3_c.out
      have l3_c := K3_c.out.lt
      obtain ⟨c3_d0, c3_d1, c3_d2, c3_d3⟩ := K3_d.out
      have l3_d := K3_d.out.lt
      obtain ⟨c3_both0, c3_both1, c3_both2, c3_both3⟩ := K3_both.out
      have l3_both := K3_both.out.lt
      dsimp only [cv]
      go_wp2_with fail
      have S4 : Hid (Below w.heap.size w (w3.alloc (.cells #[.int .u64 (wd (C ||| D) 0 : Nat), .int .u64 (wd (C ||| D) 1 : Nat), .int .u64 (wd (C ||| D) 2 : Nat), .int .u64 (wd (C ||| D) 3 : Nat)] 24)).drew) ∧ ((w3.alloc (.cells #[.int .u64 (wd (C ||| D) 0 : Nat), .int .u64 (wd (C ||| D) 1 : Nat), .int .u64 (wd (C ||| D) 2 : Nat), .int .u64 (wd (C ||| D) 3 : Nat)] 24)).drew.cell? ⟨w.heap.size, 0, none⟩ = some (.int .u64 (wd (C) 0 : Nat)) ∧ (w3.alloc (.cells #[.int .u64 (wd (C ||| D) 0 : Nat), .int .u64 (wd (C ||| D) 1 : Nat), .int .u64 (wd (C ||| D) 2 : Nat), .int .u64 (wd (C ||| D) 3 : Nat)] 24)).drew.cell? ⟨w.heap.size, 1, none⟩ = some (.int .u64 (wd (C) 1 : Nat)) ∧ (w3.alloc (.cells #[.int .u64 (wd (C ||| D) 0 : Nat), .int .u64 (wd (C ||| D) 1 : Nat), .int .u64 (wd (C ||| D) 2 : Nat), .int .u64 (wd (C ||| D) 3 : Nat)] 24)).drew.cell? ⟨w.heap.size, 2, none⟩ = some (.int .u64 (wd (C) 2 : Nat)) ∧ (w3.alloc (.cells #[.int .u64 (wd (C ||| D) 0 : Nat), .int .u64 (wd (C ||| D) 1 : Nat), .int .u64 (wd (C ||| D) 2 : Nat), .int .u64 (wd (C ||| D) 3 : Nat)] 24)).drew.cell? ⟨w.heap.size, 3, none⟩ = some (.int .u64 (wd (C) 3 : Nat))) ∧ ((w3.alloc (.cells #[.int .u64 (wd (C ||| D) 0 : Nat), .int .u64 (wd (C ||| D) 1 : Nat), .int .u64 (wd (C ||| D) 2 : Nat), .int .u64 (wd (C ||| D) 3 : Nat)] 24)).drew.cell? ⟨w.heap.size + 1, 0, none⟩ = some (.int .u64 (wd (D) 0 : Nat)) ∧ (w3.alloc (.cells #[.int .u64 (wd (C ||| D) 0 : Nat), .int .u64 (wd (C ||| D) 1 : Nat), .int .u64 (wd (C ||| D) 2 : Nat), .int .u64 (wd (C ||| D) 3 : Nat)] 24)).drew.cell? ⟨w.heap.size + 1, 1, none⟩ = some (.int .u64 (wd (D) 1 : Nat)) ∧ (w3.alloc (.cells #[.int .u64 (wd (C ||| D) 0 : Nat), .int .u64 (wd (C ||| D) 1 : Nat), .int .u64 (wd (C ||| D) 2 : Nat), .int .u64 (wd (C ||| D) 3 : Nat)] 24)).drew.cell? ⟨w.heap.size + 1, 2, none⟩ = some (.int .u64 (wd (D) 2 : Nat)) ∧ (w3.alloc (.cells #[.int .u64 (wd (C ||| D) 0 : Nat), .int .u64 (wd (C ||| D) 1 : Nat), .int .u64 (wd (C ||| D) 2 : Nat), .int .u64 (wd (C ||| D) 3 : Nat)] 24)).drew.cell? ⟨w.heap.size + 1, 3, none⟩ = some (.int .u64 (wd (D) 3 : Nat))) ∧ ((w3.alloc (.cells #[.int .u64 (wd (C ||| D) 0 : Nat), .int .u64 (wd (C ||| D) 1 : Nat), .int .u64 (wd (C ||| D) 2 : Nat), .int .u64 (wd (C ||| D) 3 : Nat)] 24)).drew.cell? ⟨w2.heap.size, 0, none⟩ = some (.int .u64 (wd (C &&& D) 0 : Nat)) ∧ (w3.alloc (.cells #[.int .u64 (wd (C ||| D) 0 : Nat), .int .u64 (wd (C ||| D) 1 : Nat), .int .u64 (wd (C ||| D) 2 : Nat), .int .u64 (wd (C ||| D) 3 : Nat)] 24)).drew.cell? ⟨w2.heap.size, 1, none⟩ = some (.int .u64 (wd (C &&& D) 1 : Nat)) ∧ (w3.alloc (.cells #[.int .u64 (wd (C ||| D) 0 : Nat), .int .u64 (wd (C ||| D) 1 : Nat), .int .u64 (wd (C ||| D) 2 : Nat), .int .u64 (wd (C ||| D) 3 : Nat)] 24)).drew.cell? ⟨w2.heap.size, 2, none⟩ = some (.int .u64 (wd (C &&& D) 2 : Nat)) ∧ (w3.alloc (.cells #[.int .u64 (wd (C ||| D) 0 : Nat), .int .u64 (wd (C ||| D) 1 : Nat), .int .u64 (wd (C ||| D) 2 : Nat), .int .u64 (wd (C ||| D) 3 : Nat)] 24)).drew.cell? ⟨w2.heap.size, 3, none⟩ = some (.int .u64 (wd (C &&& D) 3 : Nat))) ∧ ((w3.alloc (.cells #[.int .u64 (wd (C ||| D) 0 : Nat), .int .u64 (wd (C ||| D) 1 : Nat), .int .u64 (wd (C ||| D) 2 : Nat), .int .u64 (wd (C ||| D) 3 : Nat)] 24)).drew.cell? ⟨w3.heap.size, 0, none⟩ = some (.int .u64 (wd (C ||| D) 0 : Nat)) ∧ (w3.alloc (.cells #[.int .u64 (wd (C ||| D) 0 : Nat), .int .u64 (wd (C ||| D) 1 : Nat), .int .u64 (wd (C ||| D) 2 : Nat), .int .u64 (wd (C ||| D) 3 : Nat)] 24)).drew.cell? ⟨w3.heap.size, 1, none⟩ = some (.int .u64 (wd (C ||| D) 1 : Nat)) ∧ (w3.alloc (.cells #[.int .u64 (wd (C ||| D) 0 : Nat), .int .u64 (wd (C ||| D) 1 : Nat), .int .u64 (wd (C ||| D) 2 : Nat), .int .u64 (wd (C ||| D) 3 : Nat)] 24)).drew.cell? ⟨w3.heap.size, 2, none⟩ = some (.int .u64 (wd (C ||| D) 2 : Nat)) ∧ (w3.alloc (.cells #[.int .u64 (wd (C ||| D) 0 : Nat), .int .u64 (wd (C ||| D) 1 : Nat), .int .u64 (wd (C ||| D) 2 : Nat), .int .u64 (wd (C ||| D) 3 : Nat)] 24)).drew.cell? ⟨w3.heap.size, 3, none⟩ = some (.int .u64 (wd (C ||| D) 3 : Nat))) := ⟨hid ((HB3.out.alloc (by have := HB3.out.size; simp <;> omega) _)).drew, ((K3_c.out.alloc _)).drew, ((K3_d.out.alloc _)).drew, ((K3_both.out.alloc _)).drew, ((Cl.new w3 (C ||| D) (n := w3.heap.size) (by simp))).drew⟩
      go_cut [10] (fun c wx => c = .bool true ∧ Hid (Below w.heap.size w wx) ∧ (wx.cell? ⟨w.heap.size, 0, none⟩ = some (.int .u64 (wd (C) 0 : Nat)) ∧ wx.cell? ⟨w.heap.size, 1, none⟩ = some (.int .u64 (wd (C) 1 : Nat)) ∧ wx.cell? ⟨w.heap.size, 2, none⟩ = some (.int .u64 (wd (C) 2 : Nat)) ∧ wx.cell? ⟨w.heap.size, 3, none⟩ = some (.int .u64 (wd (C) 3 : Nat))) ∧ (wx.cell? ⟨w.heap.size + 1, 0, none⟩ = some (.int .u64 (wd (D) 0 : Nat)) ∧ wx.cell? ⟨w.heap.size + 1, 1, none⟩ = some (.int .u64 (wd (D) 1 : Nat)) ∧ wx.cell? ⟨w.heap.size + 1, 2, none⟩ = some (.int .u64 (wd (D) 2 : Nat)) ∧ wx.cell? ⟨w.heap.size + 1, 3, none⟩ = some (.int .u64 (wd (D) 3 : Nat))) ∧ (wx.cell? ⟨w2.heap.size, 0, none⟩ = some (.int .u64 (wd (C &&& D) 0 : Nat)) ∧ wx.cell? ⟨w2.heap.size, 1, none⟩ = some (.int .u64 (wd (C &&& D) 1 : Nat)) ∧ wx.cell? ⟨w2.heap.size, 2, none⟩ = some (.int .u64 (wd (C &&& D) 2 : Nat)) ∧ wx.cell? ⟨w2.heap.size, 3, none⟩ = some (.int .u64 (wd (C &&& D) 3 : Nat))) ∧ (wx.cell? ⟨w3.heap.size, 0, none⟩ = some (.int .u64 (wd (C ||| D) 0 : Nat)) ∧ wx.cell? ⟨w3.heap.size, 1, none⟩ = some (.int .u64 (wd (C ||| D) 1 : Nat)) ∧ wx.cell? ⟨w3.heap.size, 2, none⟩ = some (.int .u64 (wd (C ||| D) 2 : Nat)) ∧ wx.cell? ⟨w3.heap.size, 3, none⟩ = some (.int .u64 (wd (C ||| D) 3 : Nat))))
      case first =>
        first | go_region_with (first | (go_at_call 7; refine (has_val _ _ _ _ (by assumption) (by assumption)).mono ?_; rintro e wr ⟨rfl, hbr⟩; have hT := keep_4 hbr (by assumption))) | skip
        all_goals (go_wp2_with fail; go_meet; case rel => exact ⟨rfl, by assumption⟩)
      case rest =>
        obtain ⟨rfl, HB4, K4_c, K4_d, K4_both, K4_either⟩ := hcut
        replace K4_c : Hid (Cl wc (w.heap.size) (C)) := K4_c
        replace K4_d : Hid (Cl wc (w.heap.size + 1) (D)) := K4_d
        replace K4_both : Hid (Cl wc (w2.heap.size) (C &&& D)) := K4_both
        replace K4_either : Hid (Cl wc (w3.heap.size) (C ||| D)) := K4_either
        clear K3_c c3_c0 c3_c1 c3_c2 c3_c3 l3_c
        clear K3_d c3_d0 c3_d1 c3_d2 c3_d3 l3_d
        clear K3_both c3_both0 c3_both1 c3_both2 c3_both3 l3_both
        clear HB3
        clear S4
        obtain ⟨c4_c0, c4_c1, c4_c2, c4_c3⟩ := K4_c.out
        have l4_c := K4_c.out.lt
        obtain ⟨c4_d0, c4_d1, c4_d2, c4_d3⟩ := K4_d.out
        have l4_d := K4_d.out.lt
        obtain ⟨c4_both0, c4_both1, c4_both2, c4_both3⟩ := K4_both.out
        have l4_both := K4_both.out.lt
        obtain ⟨c4_either0, c4_either1, c4_either2, c4_either3⟩ := K4_either.out
        have l4_either := K4_either.out.lt
        go_wp2_with fail
        have S5 : (fun w' => Hid (Below w.heap.size w w') ∧ (w'.cell? ⟨w.heap.size, 0, none⟩ = some (.int .u64 (wd (C) 0 : Nat)) ∧ w'.cell? ⟨w.heap.size, 1, none⟩ = some (.int .u64 (wd (C) 1 : Nat)) ∧ w'.cell? ⟨w.heap.size, 2, none⟩ = some (.int .u64 (wd (C) 2 : Nat)) ∧ w'.cell? ⟨w.heap.size, 3, none⟩ = some (.int .u64 (wd (C) 3 : Nat))) ∧ (w'.cell? ⟨w.heap.size + 1, 0, none⟩ = some (.int .u64 (wd (D) 0 : Nat)) ∧ w'.cell? ⟨w.heap.size + 1, 1, none⟩ = some (.int .u64 (wd (D) 1 : Nat)) ∧ w'.cell? ⟨w.heap.size + 1, 2, none⟩ = some (.int .u64 (wd (D) 2 : Nat)) ∧ w'.cell? ⟨w.heap.size + 1, 3, none⟩ = some (.int .u64 (wd (D) 3 : Nat))) ∧ (w'.cell? ⟨w2.heap.size, 0, none⟩ = some (.int .u64 (wd (C &&& D) 0 : Nat)) ∧ w'.cell? ⟨w2.heap.size, 1, none⟩ = some (.int .u64 (wd (C &&& D) 1 : Nat)) ∧ w'.cell? ⟨w2.heap.size, 2, none⟩ = some (.int .u64 (wd (C &&& D) 2 : Nat)) ∧ w'.cell? ⟨w2.heap.size, 3, none⟩ = some (.int .u64 (wd (C &&& D) 3 : Nat))) ∧ (w'.cell? ⟨w3.heap.size, 0, none⟩ = some (.int .u64 (wd (C ||| D) 0 : Nat)) ∧ w'.cell? ⟨w3.heap.size, 1, none⟩ = some (.int .u64 (wd (C ||| D) 1 : Nat)) ∧ w'.cell? ⟨w3.heap.size, 2, none⟩ = some (.int .u64 (wd (C ||| D) 2 : Nat)) ∧ w'.cell? ⟨w3.heap.size, 3, none⟩ = some (.int .u64 (wd (C ||| D) 3 : Nat)))) (wc.drew) := ⟨hid (HB4.out).drew, (K4_c.out).drew, (K4_d.out).drew, (K4_both.out).drew, (K4_either.out).drew⟩
        first | go_region_held3 (fun w' => Hid (Below w.heap.size w w') ∧ (w'.cell? ⟨w.heap.size, 0, none⟩ = some (.int .u64 (wd (C) 0 : Nat)) ∧ w'.cell? ⟨w.heap.size, 1, none⟩ = some (.int .u64 (wd (C) 1 : Nat)) ∧ w'.cell? ⟨w.heap.size, 2, none⟩ = some (.int .u64 (wd (C) 2 : Nat)) ∧ w'.cell? ⟨w.heap.size, 3, none⟩ = some (.int .u64 (wd (C) 3 : Nat))) ∧ (w'.cell? ⟨w.heap.size + 1, 0, none⟩ = some (.int .u64 (wd (D) 0 : Nat)) ∧ w'.cell? ⟨w.heap.size + 1, 1, none⟩ = some (.int .u64 (wd (D) 1 : Nat)) ∧ w'.cell? ⟨w.heap.size + 1, 2, none⟩ = some (.int .u64 (wd (D) 2 : Nat)) ∧ w'.cell? ⟨w.heap.size + 1, 3, none⟩ = some (.int .u64 (wd (D) 3 : Nat))) ∧ (w'.cell? ⟨w2.heap.size, 0, none⟩ = some (.int .u64 (wd (C &&& D) 0 : Nat)) ∧ w'.cell? ⟨w2.heap.size, 1, none⟩ = some (.int .u64 (wd (C &&& D) 1 : Nat)) ∧ w'.cell? ⟨w2.heap.size, 2, none⟩ = some (.int .u64 (wd (C &&& D) 2 : Nat)) ∧ w'.cell? ⟨w2.heap.size, 3, none⟩ = some (.int .u64 (wd (C &&& D) 3 : Nat))) ∧ (w'.cell? ⟨w3.heap.size, 0, none⟩ = some (.int .u64 (wd (C ||| D) 0 : Nat)) ∧ w'.cell? ⟨w3.heap.size, 1, none⟩ = some (.int .u64 (wd (C ||| D) 1 : Nat)) ∧ w'.cell? ⟨w3.heap.size, 2, none⟩ = some (.int .u64 (wd (C ||| D) 2 : Nat)) ∧ w'.cell? ⟨w3.heap.size, 3, none⟩ = some (.int .u64 (wd (C ||| D) 3 : Nat)))) (first | assumption | exact keep_4 (by assumption) (by assumption)) (first | (go_at_call 7; refine (has_val _ _ _ _ (by assumption) (by assumption)).mono ?_; rintro e wr ⟨rfl, hbr⟩)) | skip
        have T5 : (fun w' => Hid (Below w.heap.size w w') ∧ (w'.cell? ⟨w.heap.size, 0, none⟩ = some (.int .u64 (wd (C) 0 : Nat)) ∧ w'.cell? ⟨w.heap.size, 1, none⟩ = some (.int .u64 (wd (C) 1 : Nat)) ∧ w'.cell? ⟨w.heap.size, 2, none⟩ = some (.int .u64 (wd (C) 2 : Nat)) ∧ w'.cell? ⟨w.heap.size, 3, none⟩ = some (.int .u64 (wd (C) 3 : Nat))) ∧ (w'.cell? ⟨w.heap.size + 1, 0, none⟩ = some (.int .u64 (wd (D) 0 : Nat)) ∧ w'.cell? ⟨w.heap.size + 1, 1, none⟩ = some (.int .u64 (wd (D) 1 : Nat)) ∧ w'.cell? ⟨w.heap.size + 1, 2, none⟩ = some (.int .u64 (wd (D) 2 : Nat)) ∧ w'.cell? ⟨w.heap.size + 1, 3, none⟩ = some (.int .u64 (wd (D) 3 : Nat))) ∧ (w'.cell? ⟨w2.heap.size, 0, none⟩ = some (.int .u64 (wd (C &&& D) 0 : Nat)) ∧ w'.cell? ⟨w2.heap.size, 1, none⟩ = some (.int .u64 (wd (C &&& D) 1 : Nat)) ∧ w'.cell? ⟨w2.heap.size, 2, none⟩ = some (.int .u64 (wd (C &&& D) 2 : Nat)) ∧ w'.cell? ⟨w2.heap.size, 3, none⟩ = some (.int .u64 (wd (C &&& D) 3 : Nat))) ∧ (w'.cell? ⟨w3.heap.size, 0, none⟩ = some (.int .u64 (wd (C ||| D) 0 : Nat)) ∧ w'.cell? ⟨w3.heap.size, 1, none⟩ = some (.int .u64 (wd (C ||| D) 1 : Nat)) ∧ w'.cell? ⟨w3.heap.size, 2, none⟩ = some (.int .u64 (wd (C ||| D) 2 : Nat)) ∧ w'.cell? ⟨w3.heap.size, 3, none⟩ = some (.int .u64 (wd (C ||| D) 3 : Nat)))) wr := by assumption
        obtain ⟨HB5, K5_c, K5_d, K5_both, K5_either⟩ := T5
        replace K5_c : Hid (Cl wr (w.heap.size) (C)) := K5_c
        replace K5_d : Hid (Cl wr (w.heap.size + 1) (D)) := K5_d
        replace K5_both : Hid (Cl wr (w2.heap.size) (C &&& D)) := K5_both
        replace K5_either : Hid (Cl wr (w3.heap.size) (C ||| D)) := K5_either
        clear K4_c c4_c0 c4_c1 c4_c2 c4_c3 l4_c
        clear K4_d c4_d0 c4_d1 c4_d2 c4_d3 l4_d
        clear K4_both c4_both0 c4_both1 c4_both2 c4_both3 l4_both
        clear K4_either c4_either0 c4_either1 c4_either2 c4_either3 l4_either
        clear HB4
        clear S5
        obtain ⟨c5_c0, c5_c1, c5_c2, c5_c3⟩ := K5_c.out
        have l5_c := K5_c.out.lt
        obtain ⟨c5_d0, c5_d1, c5_d2, c5_d3⟩ := K5_d.out
        have l5_d := K5_d.out.lt
        obtain ⟨c5_both0, c5_both1, c5_both2, c5_both3⟩ := K5_both.out
        have l5_both := K5_both.out.lt
        obtain ⟨c5_either0, c5_either1, c5_either2, c5_either3⟩ := K5_either.out
        have l5_either := K5_either.out.lt
        go_wp2_with fail
        have S6 : (fun w' => Hid (Below w.heap.size w w') ∧ (w'.cell? ⟨w.heap.size, 0, none⟩ = some (.int .u64 (wd (C) 0 : Nat)) ∧ w'.cell? ⟨w.heap.size, 1, none⟩ = some (.int .u64 (wd (C) 1 : Nat)) ∧ w'.cell? ⟨w.heap.size, 2, none⟩ = some (.int .u64 (wd (C) 2 : Nat)) ∧ w'.cell? ⟨w.heap.size, 3, none⟩ = some (.int .u64 (wd (C) 3 : Nat))) ∧ (w'.cell? ⟨w.heap.size + 1, 0, none⟩ = some (.int .u64 (wd (D) 0 : Nat)) ∧ w'.cell? ⟨w.heap.size + 1, 1, none⟩ = some (.int .u64 (wd (D) 1 : Nat)) ∧ w'.cell? ⟨w.heap.size + 1, 2, none⟩ = some (.int .u64 (wd (D) 2 : Nat)) ∧ w'.cell? ⟨w.heap.size + 1, 3, none⟩ = some (.int .u64 (wd (D) 3 : Nat))) ∧ (w'.cell? ⟨w2.heap.size, 0, none⟩ = some (.int .u64 (wd (C &&& D) 0 : Nat)) ∧ w'.cell? ⟨w2.heap.size, 1, none⟩ = some (.int .u64 (wd (C &&& D) 1 : Nat)) ∧ w'.cell? ⟨w2.heap.size, 2, none⟩ = some (.int .u64 (wd (C &&& D) 2 : Nat)) ∧ w'.cell? ⟨w2.heap.size, 3, none⟩ = some (.int .u64 (wd (C &&& D) 3 : Nat))) ∧ (w'.cell? ⟨w3.heap.size, 0, none⟩ = some (.int .u64 (wd (C ||| D) 0 : Nat)) ∧ w'.cell? ⟨w3.heap.size, 1, none⟩ = some (.int .u64 (wd (C ||| D) 1 : Nat)) ∧ w'.cell? ⟨w3.heap.size, 2, none⟩ = some (.int .u64 (wd (C ||| D) 2 : Nat)) ∧ w'.cell? ⟨w3.heap.size, 3, none⟩ = some (.int .u64 (wd (C ||| D) 3 : Nat)))) (wr.drew) := ⟨hid (HB5.out).drew, (K5_c.out).drew, (K5_d.out).drew, (K5_both.out).drew, (K5_either.out).drew⟩
        first | go_region_held3 (fun w' => Hid (Below w.heap.size w w') ∧ (w'.cell? ⟨w.heap.size, 0, none⟩ = some (.int .u64 (wd (C) 0 : Nat)) ∧ w'.cell? ⟨w.heap.size, 1, none⟩ = some (.int .u64 (wd (C) 1 : Nat)) ∧ w'.cell? ⟨w.heap.size, 2, none⟩ = some (.int .u64 (wd (C) 2 : Nat)) ∧ w'.cell? ⟨w.heap.size, 3, none⟩ = some (.int .u64 (wd (C) 3 : Nat))) ∧ (w'.cell? ⟨w.heap.size + 1, 0, none⟩ = some (.int .u64 (wd (D) 0 : Nat)) ∧ w'.cell? ⟨w.heap.size + 1, 1, none⟩ = some (.int .u64 (wd (D) 1 : Nat)) ∧ w'.cell? ⟨w.heap.size + 1, 2, none⟩ = some (.int .u64 (wd (D) 2 : Nat)) ∧ w'.cell? ⟨w.heap.size + 1, 3, none⟩ = some (.int .u64 (wd (D) 3 : Nat))) ∧ (w'.cell? ⟨w2.heap.size, 0, none⟩ = some (.int .u64 (wd (C &&& D) 0 : Nat)) ∧ w'.cell? ⟨w2.heap.size, 1, none⟩ = some (.int .u64 (wd (C &&& D) 1 : Nat)) ∧ w'.cell? ⟨w2.heap.size, 2, none⟩ = some (.int .u64 (wd (C &&& D) 2 : Nat)) ∧ w'.cell? ⟨w2.heap.size, 3, none⟩ = some (.int .u64 (wd (C &&& D) 3 : Nat))) ∧ (w'.cell? ⟨w3.heap.size, 0, none⟩ = some (.int .u64 (wd (C ||| D) 0 : Nat)) ∧ w'.cell? ⟨w3.heap.size, 1, none⟩ = some (.int .u64 (wd (C ||| D) 1 : Nat)) ∧ w'.cell? ⟨w3.heap.size, 2, none⟩ = some (.int .u64 (wd (C ||| D) 2 : Nat)) ∧ w'.cell? ⟨w3.heap.size, 3, none⟩ = some (.int .u64 (wd (C ||| D) 3 : Nat)))) (first | assumption | exact keep_4 (by assumption) (by assumption)) (first | (go_at_call 5; refine (both_any _ _ _).mono ?_; rintro e wr ⟨rfl, hbr⟩; dsimp only [cv]) | (go_at_call 8; refine (count_any _ _).mono ?_; rintro e wr ⟨rfl, hbr⟩)) | skip
        have T6 : (fun w' => Hid (Below w.heap.size w w') ∧ (w'.cell? ⟨w.heap.size, 0, none⟩ = some (.int .u64 (wd (C) 0 : Nat)) ∧ w'.cell? ⟨w.heap.size, 1, none⟩ = some (.int .u64 (wd (C) 1 : Nat)) ∧ w'.cell? ⟨w.heap.size, 2, none⟩ = some (.int .u64 (wd (C) 2 : Nat)) ∧ w'.cell? ⟨w.heap.size, 3, none⟩ = some (.int .u64 (wd (C) 3 : Nat))) ∧ (w'.cell? ⟨w.heap.size + 1, 0, none⟩ = some (.int .u64 (wd (D) 0 : Nat)) ∧ w'.cell? ⟨w.heap.size + 1, 1, none⟩ = some (.int .u64 (wd (D) 1 : Nat)) ∧ w'.cell? ⟨w.heap.size + 1, 2, none⟩ = some (.int .u64 (wd (D) 2 : Nat)) ∧ w'.cell? ⟨w.heap.size + 1, 3, none⟩ = some (.int .u64 (wd (D) 3 : Nat))) ∧ (w'.cell? ⟨w2.heap.size, 0, none⟩ = some (.int .u64 (wd (C &&& D) 0 : Nat)) ∧ w'.cell? ⟨w2.heap.size, 1, none⟩ = some (.int .u64 (wd (C &&& D) 1 : Nat)) ∧ w'.cell? ⟨w2.heap.size, 2, none⟩ = some (.int .u64 (wd (C &&& D) 2 : Nat)) ∧ w'.cell? ⟨w2.heap.size, 3, none⟩ = some (.int .u64 (wd (C &&& D) 3 : Nat))) ∧ (w'.cell? ⟨w3.heap.size, 0, none⟩ = some (.int .u64 (wd (C ||| D) 0 : Nat)) ∧ w'.cell? ⟨w3.heap.size, 1, none⟩ = some (.int .u64 (wd (C ||| D) 1 : Nat)) ∧ w'.cell? ⟨w3.heap.size, 2, none⟩ = some (.int .u64 (wd (C ||| D) 2 : Nat)) ∧ w'.cell? ⟨w3.heap.size, 3, none⟩ = some (.int .u64 (wd (C ||| D) 3 : Nat)))) wr := by assumption
        obtain ⟨HB6, K6_c, K6_d, K6_both, K6_either⟩ := T6
        replace K6_c : Hid (Cl wr (w.heap.size) (C)) := K6_c
        replace K6_d : Hid (Cl wr (w.heap.size + 1) (D)) := K6_d
        replace K6_both : Hid (Cl wr (w2.heap.size) (C &&& D)) := K6_both
        replace K6_either : Hid (Cl wr (w3.heap.size) (C ||| D)) := K6_either
        clear K5_c c5_c0 c5_c1 c5_c2 c5_c3 l5_c
        clear K5_d c5_d0 c5_d1 c5_d2 c5_d3 l5_d
        clear K5_both c5_both0 c5_both1 c5_both2 c5_both3 l5_both
        clear K5_either c5_either0 c5_either1 c5_either2 c5_either3 l5_either
        clear HB5
        clear S6
        obtain ⟨c6_c0, c6_c1, c6_c2, c6_c3⟩ := K6_c.out
        have l6_c := K6_c.out.lt
        obtain ⟨c6_d0, c6_d1, c6_d2, c6_d3⟩ := K6_d.out
        have l6_d := K6_d.out.lt
        obtain ⟨c6_both0, c6_both1, c6_both2, c6_both3⟩ := K6_both.out
        have l6_both := K6_both.out.lt
        obtain ⟨c6_either0, c6_either1, c6_either2, c6_either3⟩ := K6_either.out
        have l6_either := K6_either.out.lt
        go_wp2_with fail
        go_ret
        exact ⟨by simp, HB6.out⟩
  · cases hy : D.testBit b
    all_goals
      rw [hx, hy] at t1 t2
      simp only [Bool.and_true, Bool.and_false, Bool.or_true, Bool.or_false] at t1 t2
      go_enter Try.func3, Try.ntmps3
      go_wp2_with fail
      refine (small_ok _).mono ?_
      rintro e w1 ⟨rfl, hb1⟩
      have HB1 : Hid (Below w.heap.size w w1) := (((Below.refl _ _).alloc (by have := Nat.le_refl w.heap.size; simp <;> omega) _).alloc (by have := Nat.le_refl w.heap.size; simp <;> omega) _).trans (hb1.mono (by have := Nat.le_refl w.heap.size; first | omega | (simp <;> omega)))
      have K1_c : Hid (Cl w1 (w.heap.size) (C)) := (((Cl.new w (C) (n := w.heap.size) (by simp)).alloc _)).below hb1
      have K1_d : Hid (Cl w1 (w.heap.size + 1) (D)) := ((Cl.new (w.alloc (.cells #[.int .u64 (wd (C) 0 : Nat), .int .u64 (wd (C) 1 : Nat), .int .u64 (wd (C) 2 : Nat), .int .u64 (wd (C) 3 : Nat)] 24)) (D) (n := w.heap.size + 1) (by simp))).below hb1
      clear hb1
      obtain ⟨c1_c0, c1_c1, c1_c2, c1_c3⟩ := K1_c.out
      have l1_c := K1_c.out.lt
      obtain ⟨c1_d0, c1_d1, c1_d2, c1_d3⟩ := K1_d.out
      have l1_d := K1_d.out.lt
      dsimp only [cv]
      go_wp2_with fail
      refine (both_any C D _).mono ?_
      rintro e w2 ⟨rfl, hb2⟩
      have HB2 : Hid (Below w.heap.size w w2) := HB1.out.trans (hb2.mono (by have := HB1.out.size; first | omega | (simp <;> omega)))
      have K2_c : Hid (Cl w2 (w.heap.size) (C)) := (K1_c.out).below hb2
      have K2_d : Hid (Cl w2 (w.heap.size + 1) (D)) := (K1_d.out).below hb2
      clear K1_c c1_c0 c1_c1 c1_c2 c1_c3 l1_c
      clear K1_d c1_d0 c1_d1 c1_d2 c1_d3 l1_d
      clear HB1
      clear hb2
      obtain ⟨c2_c0, c2_c1, c2_c2, c2_c3⟩ := K2_c.out
      have l2_c := K2_c.out.lt
      obtain ⟨c2_d0, c2_d1, c2_d2, c2_d3⟩ := K2_d.out
      have l2_d := K2_d.out.lt
      dsimp only [cv]
      go_wp2_with fail
      refine (either_any C D _).mono ?_
      rintro e w3 ⟨rfl, hb3⟩
      have HB3 : Hid (Below w.heap.size w w3) := (HB2.out.alloc (by have := HB2.out.size; simp <;> omega) _).trans (hb3.mono (by have := HB2.out.size; first | omega | (simp <;> omega)))
      have K3_c : Hid (Cl w3 (w.heap.size) (C)) := ((K2_c.out.alloc _)).below hb3
      have K3_d : Hid (Cl w3 (w.heap.size + 1) (D)) := ((K2_d.out.alloc _)).below hb3
      have K3_both : Hid (Cl w3 (w2.heap.size) (C &&& D)) := ((Cl.new w2 (C &&& D) (n := w2.heap.size) (by simp))).below hb3
      clear K2_c c2_c0 c2_c1 c2_c2 c2_c3 l2_c
      clear K2_d c2_d0 c2_d1 c2_d2 c2_d3 l2_d
      clear HB2
      clear hb3
      obtain ⟨c3_c0, c3_c1, c3_c2, c3_c3⟩ := K3_c.out
      have l3_c := K3_c.out.lt
      obtain ⟨c3_d0, c3_d1, c3_d2, c3_d3⟩ := K3_d.out
      have l3_d := K3_d.out.lt
      obtain ⟨c3_both0, c3_both1, c3_both2, c3_both3⟩ := K3_both.out
      have l3_both := K3_both.out.lt
      dsimp only [cv]
      go_wp2_with fail
      have S4 : (fun w' => Hid (Below w.heap.size w w') ∧ (w'.cell? ⟨w.heap.size, 0, none⟩ = some (.int .u64 (wd (C) 0 : Nat)) ∧ w'.cell? ⟨w.heap.size, 1, none⟩ = some (.int .u64 (wd (C) 1 : Nat)) ∧ w'.cell? ⟨w.heap.size, 2, none⟩ = some (.int .u64 (wd (C) 2 : Nat)) ∧ w'.cell? ⟨w.heap.size, 3, none⟩ = some (.int .u64 (wd (C) 3 : Nat))) ∧ (w'.cell? ⟨w.heap.size + 1, 0, none⟩ = some (.int .u64 (wd (D) 0 : Nat)) ∧ w'.cell? ⟨w.heap.size + 1, 1, none⟩ = some (.int .u64 (wd (D) 1 : Nat)) ∧ w'.cell? ⟨w.heap.size + 1, 2, none⟩ = some (.int .u64 (wd (D) 2 : Nat)) ∧ w'.cell? ⟨w.heap.size + 1, 3, none⟩ = some (.int .u64 (wd (D) 3 : Nat))) ∧ (w'.cell? ⟨w2.heap.size, 0, none⟩ = some (.int .u64 (wd (C &&& D) 0 : Nat)) ∧ w'.cell? ⟨w2.heap.size, 1, none⟩ = some (.int .u64 (wd (C &&& D) 1 : Nat)) ∧ w'.cell? ⟨w2.heap.size, 2, none⟩ = some (.int .u64 (wd (C &&& D) 2 : Nat)) ∧ w'.cell? ⟨w2.heap.size, 3, none⟩ = some (.int .u64 (wd (C &&& D) 3 : Nat))) ∧ (w'.cell? ⟨w3.heap.size, 0, none⟩ = some (.int .u64 (wd (C ||| D) 0 : Nat)) ∧ w'.cell? ⟨w3.heap.size, 1, none⟩ = some (.int .u64 (wd (C ||| D) 1 : Nat)) ∧ w'.cell? ⟨w3.heap.size, 2, none⟩ = some (.int .u64 (wd (C ||| D) 2 : Nat)) ∧ w'.cell? ⟨w3.heap.size, 3, none⟩ = some (.int .u64 (wd (C ||| D) 3 : Nat)))) ((w3.alloc (.cells #[.int .u64 (wd (C ||| D) 0 : Nat), .int .u64 (wd (C ||| D) 1 : Nat), .int .u64 (wd (C ||| D) 2 : Nat), .int .u64 (wd (C ||| D) 3 : Nat)] 24)).drew) := ⟨hid ((HB3.out.alloc (by have := HB3.out.size; simp <;> omega) _)).drew, ((K3_c.out.alloc _)).drew, ((K3_d.out.alloc _)).drew, ((K3_both.out.alloc _)).drew, ((Cl.new w3 (C ||| D) (n := w3.heap.size) (by simp))).drew⟩
      first | go_region_held3 (fun w' => Hid (Below w.heap.size w w') ∧ (w'.cell? ⟨w.heap.size, 0, none⟩ = some (.int .u64 (wd (C) 0 : Nat)) ∧ w'.cell? ⟨w.heap.size, 1, none⟩ = some (.int .u64 (wd (C) 1 : Nat)) ∧ w'.cell? ⟨w.heap.size, 2, none⟩ = some (.int .u64 (wd (C) 2 : Nat)) ∧ w'.cell? ⟨w.heap.size, 3, none⟩ = some (.int .u64 (wd (C) 3 : Nat))) ∧ (w'.cell? ⟨w.heap.size + 1, 0, none⟩ = some (.int .u64 (wd (D) 0 : Nat)) ∧ w'.cell? ⟨w.heap.size + 1, 1, none⟩ = some (.int .u64 (wd (D) 1 : Nat)) ∧ w'.cell? ⟨w.heap.size + 1, 2, none⟩ = some (.int .u64 (wd (D) 2 : Nat)) ∧ w'.cell? ⟨w.heap.size + 1, 3, none⟩ = some (.int .u64 (wd (D) 3 : Nat))) ∧ (w'.cell? ⟨w2.heap.size, 0, none⟩ = some (.int .u64 (wd (C &&& D) 0 : Nat)) ∧ w'.cell? ⟨w2.heap.size, 1, none⟩ = some (.int .u64 (wd (C &&& D) 1 : Nat)) ∧ w'.cell? ⟨w2.heap.size, 2, none⟩ = some (.int .u64 (wd (C &&& D) 2 : Nat)) ∧ w'.cell? ⟨w2.heap.size, 3, none⟩ = some (.int .u64 (wd (C &&& D) 3 : Nat))) ∧ (w'.cell? ⟨w3.heap.size, 0, none⟩ = some (.int .u64 (wd (C ||| D) 0 : Nat)) ∧ w'.cell? ⟨w3.heap.size, 1, none⟩ = some (.int .u64 (wd (C ||| D) 1 : Nat)) ∧ w'.cell? ⟨w3.heap.size, 2, none⟩ = some (.int .u64 (wd (C ||| D) 2 : Nat)) ∧ w'.cell? ⟨w3.heap.size, 3, none⟩ = some (.int .u64 (wd (C ||| D) 3 : Nat)))) (first | assumption | exact keep_4 (by assumption) (by assumption)) (first | (go_at_call 7; refine (has_val _ _ _ _ (by assumption) (by assumption)).mono ?_; rintro e wr ⟨rfl, hbr⟩)) | skip
      have T4 : (fun w' => Hid (Below w.heap.size w w') ∧ (w'.cell? ⟨w.heap.size, 0, none⟩ = some (.int .u64 (wd (C) 0 : Nat)) ∧ w'.cell? ⟨w.heap.size, 1, none⟩ = some (.int .u64 (wd (C) 1 : Nat)) ∧ w'.cell? ⟨w.heap.size, 2, none⟩ = some (.int .u64 (wd (C) 2 : Nat)) ∧ w'.cell? ⟨w.heap.size, 3, none⟩ = some (.int .u64 (wd (C) 3 : Nat))) ∧ (w'.cell? ⟨w.heap.size + 1, 0, none⟩ = some (.int .u64 (wd (D) 0 : Nat)) ∧ w'.cell? ⟨w.heap.size + 1, 1, none⟩ = some (.int .u64 (wd (D) 1 : Nat)) ∧ w'.cell? ⟨w.heap.size + 1, 2, none⟩ = some (.int .u64 (wd (D) 2 : Nat)) ∧ w'.cell? ⟨w.heap.size + 1, 3, none⟩ = some (.int .u64 (wd (D) 3 : Nat))) ∧ (w'.cell? ⟨w2.heap.size, 0, none⟩ = some (.int .u64 (wd (C &&& D) 0 : Nat)) ∧ w'.cell? ⟨w2.heap.size, 1, none⟩ = some (.int .u64 (wd (C &&& D) 1 : Nat)) ∧ w'.cell? ⟨w2.heap.size, 2, none⟩ = some (.int .u64 (wd (C &&& D) 2 : Nat)) ∧ w'.cell? ⟨w2.heap.size, 3, none⟩ = some (.int .u64 (wd (C &&& D) 3 : Nat))) ∧ (w'.cell? ⟨w3.heap.size, 0, none⟩ = some (.int .u64 (wd (C ||| D) 0 : Nat)) ∧ w'.cell? ⟨w3.heap.size, 1, none⟩ = some (.int .u64 (wd (C ||| D) 1 : Nat)) ∧ w'.cell? ⟨w3.heap.size, 2, none⟩ = some (.int .u64 (wd (C ||| D) 2 : Nat)) ∧ w'.cell? ⟨w3.heap.size, 3, none⟩ = some (.int .u64 (wd (C ||| D) 3 : Nat)))) wr := by assumption
      obtain ⟨HB4, K4_c, K4_d, K4_both, K4_either⟩ := T4
      replace K4_c : Hid (Cl wr (w.heap.size) (C)) := K4_c
      replace K4_d : Hid (Cl wr (w.heap.size + 1) (D)) := K4_d
      replace K4_both : Hid (Cl wr (w2.heap.size) (C &&& D)) := K4_both
      replace K4_either : Hid (Cl wr (w3.heap.size) (C ||| D)) := K4_either
      clear K3_c c3_c0 c3_c1 c3_c2 c3_c3 l3_c
      clear K3_d c3_d0 c3_d1 c3_d2 c3_d3 l3_d
      clear K3_both c3_both0 c3_both1 c3_both2 c3_both3 l3_both
      clear HB3
      clear S4
      obtain ⟨c4_c0, c4_c1, c4_c2, c4_c3⟩ := K4_c.out
      have l4_c := K4_c.out.lt
      obtain ⟨c4_d0, c4_d1, c4_d2, c4_d3⟩ := K4_d.out
      have l4_d := K4_d.out.lt
      obtain ⟨c4_both0, c4_both1, c4_both2, c4_both3⟩ := K4_both.out
      have l4_both := K4_both.out.lt
      obtain ⟨c4_either0, c4_either1, c4_either2, c4_either3⟩ := K4_either.out
      have l4_either := K4_either.out.lt
      go_wp2_with fail
      have S5 : Hid (Below w.heap.size w wr.drew) ∧ (wr.drew.cell? ⟨w.heap.size, 0, none⟩ = some (.int .u64 (wd (C) 0 : Nat)) ∧ wr.drew.cell? ⟨w.heap.size, 1, none⟩ = some (.int .u64 (wd (C) 1 : Nat)) ∧ wr.drew.cell? ⟨w.heap.size, 2, none⟩ = some (.int .u64 (wd (C) 2 : Nat)) ∧ wr.drew.cell? ⟨w.heap.size, 3, none⟩ = some (.int .u64 (wd (C) 3 : Nat))) ∧ (wr.drew.cell? ⟨w.heap.size + 1, 0, none⟩ = some (.int .u64 (wd (D) 0 : Nat)) ∧ wr.drew.cell? ⟨w.heap.size + 1, 1, none⟩ = some (.int .u64 (wd (D) 1 : Nat)) ∧ wr.drew.cell? ⟨w.heap.size + 1, 2, none⟩ = some (.int .u64 (wd (D) 2 : Nat)) ∧ wr.drew.cell? ⟨w.heap.size + 1, 3, none⟩ = some (.int .u64 (wd (D) 3 : Nat))) ∧ (wr.drew.cell? ⟨w2.heap.size, 0, none⟩ = some (.int .u64 (wd (C &&& D) 0 : Nat)) ∧ wr.drew.cell? ⟨w2.heap.size, 1, none⟩ = some (.int .u64 (wd (C &&& D) 1 : Nat)) ∧ wr.drew.cell? ⟨w2.heap.size, 2, none⟩ = some (.int .u64 (wd (C &&& D) 2 : Nat)) ∧ wr.drew.cell? ⟨w2.heap.size, 3, none⟩ = some (.int .u64 (wd (C &&& D) 3 : Nat))) ∧ (wr.drew.cell? ⟨w3.heap.size, 0, none⟩ = some (.int .u64 (wd (C ||| D) 0 : Nat)) ∧ wr.drew.cell? ⟨w3.heap.size, 1, none⟩ = some (.int .u64 (wd (C ||| D) 1 : Nat)) ∧ wr.drew.cell? ⟨w3.heap.size, 2, none⟩ = some (.int .u64 (wd (C ||| D) 2 : Nat)) ∧ wr.drew.cell? ⟨w3.heap.size, 3, none⟩ = some (.int .u64 (wd (C ||| D) 3 : Nat))) := ⟨hid (HB4.out).drew, (K4_c.out).drew, (K4_d.out).drew, (K4_both.out).drew, (K4_either.out).drew⟩
      go_cut [11] (fun c wx => c = .bool true ∧ Hid (Below w.heap.size w wx) ∧ (wx.cell? ⟨w.heap.size, 0, none⟩ = some (.int .u64 (wd (C) 0 : Nat)) ∧ wx.cell? ⟨w.heap.size, 1, none⟩ = some (.int .u64 (wd (C) 1 : Nat)) ∧ wx.cell? ⟨w.heap.size, 2, none⟩ = some (.int .u64 (wd (C) 2 : Nat)) ∧ wx.cell? ⟨w.heap.size, 3, none⟩ = some (.int .u64 (wd (C) 3 : Nat))) ∧ (wx.cell? ⟨w.heap.size + 1, 0, none⟩ = some (.int .u64 (wd (D) 0 : Nat)) ∧ wx.cell? ⟨w.heap.size + 1, 1, none⟩ = some (.int .u64 (wd (D) 1 : Nat)) ∧ wx.cell? ⟨w.heap.size + 1, 2, none⟩ = some (.int .u64 (wd (D) 2 : Nat)) ∧ wx.cell? ⟨w.heap.size + 1, 3, none⟩ = some (.int .u64 (wd (D) 3 : Nat))) ∧ (wx.cell? ⟨w2.heap.size, 0, none⟩ = some (.int .u64 (wd (C &&& D) 0 : Nat)) ∧ wx.cell? ⟨w2.heap.size, 1, none⟩ = some (.int .u64 (wd (C &&& D) 1 : Nat)) ∧ wx.cell? ⟨w2.heap.size, 2, none⟩ = some (.int .u64 (wd (C &&& D) 2 : Nat)) ∧ wx.cell? ⟨w2.heap.size, 3, none⟩ = some (.int .u64 (wd (C &&& D) 3 : Nat))) ∧ (wx.cell? ⟨w3.heap.size, 0, none⟩ = some (.int .u64 (wd (C ||| D) 0 : Nat)) ∧ wx.cell? ⟨w3.heap.size, 1, none⟩ = some (.int .u64 (wd (C ||| D) 1 : Nat)) ∧ wx.cell? ⟨w3.heap.size, 2, none⟩ = some (.int .u64 (wd (C ||| D) 2 : Nat)) ∧ wx.cell? ⟨w3.heap.size, 3, none⟩ = some (.int .u64 (wd (C ||| D) 3 : Nat))))
      case first =>
        first | go_region_with (first | (go_at_call 7; refine (has_val _ _ _ _ (by assumption) (by assumption)).mono ?_; rintro e wr ⟨rfl, hbr⟩; have hT := keep_4 hbr (by assumption))) | skip
        all_goals (go_wp2_with fail; go_meet; case rel => exact ⟨rfl, by assumption⟩)
      case rest =>
        obtain ⟨rfl, HB5, K5_c, K5_d, K5_both, K5_either⟩ := hcut
        replace K5_c : Hid (Cl wc (w.heap.size) (C)) := K5_c
        replace K5_d : Hid (Cl wc (w.heap.size + 1) (D)) := K5_d
        replace K5_both : Hid (Cl wc (w2.heap.size) (C &&& D)) := K5_both
        replace K5_either : Hid (Cl wc (w3.heap.size) (C ||| D)) := K5_either
        clear K4_c c4_c0 c4_c1 c4_c2 c4_c3 l4_c
        clear K4_d c4_d0 c4_d1 c4_d2 c4_d3 l4_d
        clear K4_both c4_both0 c4_both1 c4_both2 c4_both3 l4_both
        clear K4_either c4_either0 c4_either1 c4_either2 c4_either3 l4_either
        clear HB4
        clear S5
        obtain ⟨c5_c0, c5_c1, c5_c2, c5_c3⟩ := K5_c.out
        have l5_c := K5_c.out.lt
        obtain ⟨c5_d0, c5_d1, c5_d2, c5_d3⟩ := K5_d.out
        have l5_d := K5_d.out.lt
        obtain ⟨c5_both0, c5_both1, c5_both2, c5_both3⟩ := K5_both.out
        have l5_both := K5_both.out.lt
        obtain ⟨c5_either0, c5_either1, c5_either2, c5_either3⟩ := K5_either.out
        have l5_either := K5_either.out.lt
        go_wp2_with fail
        have S6 : (fun w' => Hid (Below w.heap.size w w') ∧ (w'.cell? ⟨w.heap.size, 0, none⟩ = some (.int .u64 (wd (C) 0 : Nat)) ∧ w'.cell? ⟨w.heap.size, 1, none⟩ = some (.int .u64 (wd (C) 1 : Nat)) ∧ w'.cell? ⟨w.heap.size, 2, none⟩ = some (.int .u64 (wd (C) 2 : Nat)) ∧ w'.cell? ⟨w.heap.size, 3, none⟩ = some (.int .u64 (wd (C) 3 : Nat))) ∧ (w'.cell? ⟨w.heap.size + 1, 0, none⟩ = some (.int .u64 (wd (D) 0 : Nat)) ∧ w'.cell? ⟨w.heap.size + 1, 1, none⟩ = some (.int .u64 (wd (D) 1 : Nat)) ∧ w'.cell? ⟨w.heap.size + 1, 2, none⟩ = some (.int .u64 (wd (D) 2 : Nat)) ∧ w'.cell? ⟨w.heap.size + 1, 3, none⟩ = some (.int .u64 (wd (D) 3 : Nat))) ∧ (w'.cell? ⟨w2.heap.size, 0, none⟩ = some (.int .u64 (wd (C &&& D) 0 : Nat)) ∧ w'.cell? ⟨w2.heap.size, 1, none⟩ = some (.int .u64 (wd (C &&& D) 1 : Nat)) ∧ w'.cell? ⟨w2.heap.size, 2, none⟩ = some (.int .u64 (wd (C &&& D) 2 : Nat)) ∧ w'.cell? ⟨w2.heap.size, 3, none⟩ = some (.int .u64 (wd (C &&& D) 3 : Nat))) ∧ (w'.cell? ⟨w3.heap.size, 0, none⟩ = some (.int .u64 (wd (C ||| D) 0 : Nat)) ∧ w'.cell? ⟨w3.heap.size, 1, none⟩ = some (.int .u64 (wd (C ||| D) 1 : Nat)) ∧ w'.cell? ⟨w3.heap.size, 2, none⟩ = some (.int .u64 (wd (C ||| D) 2 : Nat)) ∧ w'.cell? ⟨w3.heap.size, 3, none⟩ = some (.int .u64 (wd (C ||| D) 3 : Nat)))) (wc.drew) := ⟨hid (HB5.out).drew, (K5_c.out).drew, (K5_d.out).drew, (K5_both.out).drew, (K5_either.out).drew⟩
        first | go_region_held3 (fun w' => Hid (Below w.heap.size w w') ∧ (w'.cell? ⟨w.heap.size, 0, none⟩ = some (.int .u64 (wd (C) 0 : Nat)) ∧ w'.cell? ⟨w.heap.size, 1, none⟩ = some (.int .u64 (wd (C) 1 : Nat)) ∧ w'.cell? ⟨w.heap.size, 2, none⟩ = some (.int .u64 (wd (C) 2 : Nat)) ∧ w'.cell? ⟨w.heap.size, 3, none⟩ = some (.int .u64 (wd (C) 3 : Nat))) ∧ (w'.cell? ⟨w.heap.size + 1, 0, none⟩ = some (.int .u64 (wd (D) 0 : Nat)) ∧ w'.cell? ⟨w.heap.size + 1, 1, none⟩ = some (.int .u64 (wd (D) 1 : Nat)) ∧ w'.cell? ⟨w.heap.size + 1, 2, none⟩ = some (.int .u64 (wd (D) 2 : Nat)) ∧ w'.cell? ⟨w.heap.size + 1, 3, none⟩ = some (.int .u64 (wd (D) 3 : Nat))) ∧ (w'.cell? ⟨w2.heap.size, 0, none⟩ = some (.int .u64 (wd (C &&& D) 0 : Nat)) ∧ w'.cell? ⟨w2.heap.size, 1, none⟩ = some (.int .u64 (wd (C &&& D) 1 : Nat)) ∧ w'.cell? ⟨w2.heap.size, 2, none⟩ = some (.int .u64 (wd (C &&& D) 2 : Nat)) ∧ w'.cell? ⟨w2.heap.size, 3, none⟩ = some (.int .u64 (wd (C &&& D) 3 : Nat))) ∧ (w'.cell? ⟨w3.heap.size, 0, none⟩ = some (.int .u64 (wd (C ||| D) 0 : Nat)) ∧ w'.cell? ⟨w3.heap.size, 1, none⟩ = some (.int .u64 (wd (C ||| D) 1 : Nat)) ∧ w'.cell? ⟨w3.heap.size, 2, none⟩ = some (.int .u64 (wd (C ||| D) 2 : Nat)) ∧ w'.cell? ⟨w3.heap.size, 3, none⟩ = some (.int .u64 (wd (C ||| D) 3 : Nat)))) (first | assumption | exact keep_4 (by assumption) (by assumption)) (first | (go_at_call 5; refine (both_any _ _ _).mono ?_; rintro e wr ⟨rfl, hbr⟩; dsimp only [cv]) | (go_at_call 8; refine (count_any _ _).mono ?_; rintro e wr ⟨rfl, hbr⟩)) | skip
        have T6 : (fun w' => Hid (Below w.heap.size w w') ∧ (w'.cell? ⟨w.heap.size, 0, none⟩ = some (.int .u64 (wd (C) 0 : Nat)) ∧ w'.cell? ⟨w.heap.size, 1, none⟩ = some (.int .u64 (wd (C) 1 : Nat)) ∧ w'.cell? ⟨w.heap.size, 2, none⟩ = some (.int .u64 (wd (C) 2 : Nat)) ∧ w'.cell? ⟨w.heap.size, 3, none⟩ = some (.int .u64 (wd (C) 3 : Nat))) ∧ (w'.cell? ⟨w.heap.size + 1, 0, none⟩ = some (.int .u64 (wd (D) 0 : Nat)) ∧ w'.cell? ⟨w.heap.size + 1, 1, none⟩ = some (.int .u64 (wd (D) 1 : Nat)) ∧ w'.cell? ⟨w.heap.size + 1, 2, none⟩ = some (.int .u64 (wd (D) 2 : Nat)) ∧ w'.cell? ⟨w.heap.size + 1, 3, none⟩ = some (.int .u64 (wd (D) 3 : Nat))) ∧ (w'.cell? ⟨w2.heap.size, 0, none⟩ = some (.int .u64 (wd (C &&& D) 0 : Nat)) ∧ w'.cell? ⟨w2.heap.size, 1, none⟩ = some (.int .u64 (wd (C &&& D) 1 : Nat)) ∧ w'.cell? ⟨w2.heap.size, 2, none⟩ = some (.int .u64 (wd (C &&& D) 2 : Nat)) ∧ w'.cell? ⟨w2.heap.size, 3, none⟩ = some (.int .u64 (wd (C &&& D) 3 : Nat))) ∧ (w'.cell? ⟨w3.heap.size, 0, none⟩ = some (.int .u64 (wd (C ||| D) 0 : Nat)) ∧ w'.cell? ⟨w3.heap.size, 1, none⟩ = some (.int .u64 (wd (C ||| D) 1 : Nat)) ∧ w'.cell? ⟨w3.heap.size, 2, none⟩ = some (.int .u64 (wd (C ||| D) 2 : Nat)) ∧ w'.cell? ⟨w3.heap.size, 3, none⟩ = some (.int .u64 (wd (C ||| D) 3 : Nat)))) wr := by assumption
        obtain ⟨HB6, K6_c, K6_d, K6_both, K6_either⟩ := T6
        replace K6_c : Hid (Cl wr (w.heap.size) (C)) := K6_c
        replace K6_d : Hid (Cl wr (w.heap.size + 1) (D)) := K6_d
        replace K6_both : Hid (Cl wr (w2.heap.size) (C &&& D)) := K6_both
        replace K6_either : Hid (Cl wr (w3.heap.size) (C ||| D)) := K6_either
        clear K5_c c5_c0 c5_c1 c5_c2 c5_c3 l5_c
        clear K5_d c5_d0 c5_d1 c5_d2 c5_d3 l5_d
        clear K5_both c5_both0 c5_both1 c5_both2 c5_both3 l5_both
        clear K5_either c5_either0 c5_either1 c5_either2 c5_either3 l5_either
        clear HB5
        clear S6
        obtain ⟨c6_c0, c6_c1, c6_c2, c6_c3⟩ := K6_c.out
        have l6_c := K6_c.out.lt
        obtain ⟨c6_d0, c6_d1, c6_d2, c6_d3⟩ := K6_d.out
        have l6_d := K6_d.out.lt
        obtain ⟨c6_both0, c6_both1, c6_both2, c6_both3⟩ := K6_both.out
        have l6_both := K6_both.out.lt
        obtain ⟨c6_either0, c6_either1, c6_either2, c6_either3⟩ := K6_either.out
        have l6_either := K6_either.out.lt
        go_wp2_with fail
        go_ret
        exact ⟨by simp, HB6.out⟩
end Go.Proofs.Ytcdkgcacmlolnab
