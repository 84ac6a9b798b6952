/-
  For any two classes and any byte: muntinlaw02.ClassRules answers true. Conditions: those that each theorem names.
-/
import Derived.Test.YtcdkgcacmlolnaaK3
import Derived.Test.YtcdkgcacmlolnaaKEq
namespace Go.Proofs.Ytcdkgcacmlolnaa
open Go.RowKit
set_option linter.unusedVariables false
set_option maxRecDepth 100000 in
set_option maxHeartbeats 4000000 in
theorem rules_any (C D b : Nat) (w : World) (hC : C < 2 ^ 256) (hD : D < 2 ^ 256) (hb : b < 256) :
    Calls Try.prog 3 #[cv C, cv D, .int .u8 (b : Int)] w fun e w' => e = .returned (.bool true) ∧ Below w.heap.size w w' := by
  have e1 := not_and C D hC hD
  have e2 := not_or C D hC hD
  have e3 := not_not C hC
  have q1 := eq_self
  have s1 : (pc 256 C : Int) + (pc 256 (cnot C) : Int) = 256 := by have := pc_not C hC 256 (Nat.le_refl _); omega
  have s2 : (pc 256 (C &&& D) : Int) + (pc 256 (C ||| D) : Int) = (pc 256 C : Int) + (pc 256 D : Int) := by have := pc_and_or 256 C D; omega
  have p1 := pc_le 256 C
  have p2 := pc_le 256 D
  have p3 := pc_le 256 (cnot C)
  have p4 := pc_le 256 (C &&& D)
  have p5 := pc_le 256 (C ||| D)
  have t1 : (cnot C).testBit b = !C.testBit b := by rw [cnot_bit C hC]; simp [hb]
  unfold cv
  go_enter Try.func3, Try.ntmps3
  go_wp2_with fail
  refine (small_ok _).mono ?_
  rintro e w1 ⟨rfl, hb1⟩
  have HB1 : Hid (Below w.heap.size w w1) := (((Below.refl _ _).alloc (by have := Nat.le_refl w.heap.size; simp <;> omega) _).alloc (by have := Nat.le_refl w.heap.size; simp <;> omega) _).trans (hb1.mono (by have := Nat.le_refl w.heap.size; first | omega | (simp <;> omega)))
  have K1_c : Hid (Cl w1 (w.heap.size) (C)) := (((Cl.new w (C) (n := w.heap.size) (by simp)).alloc _)).below hb1
  have K1_d : Hid (Cl w1 (w.heap.size + 1) (D)) := ((Cl.new (w.alloc (.cells #[.int .u64 (wd (C) 0 : Nat), .int .u64 (wd (C) 1 : Nat), .int .u64 (wd (C) 2 : Nat), .int .u64 (wd (C) 3 : Nat)] 24)) (D) (n := w.heap.size + 1) (by simp))).below hb1
  clear hb1
  obtain ⟨c1_c0, c1_c1, c1_c2, c1_c3⟩ := K1_c.out
  have l1_c := K1_c.out.lt
  obtain ⟨c1_d0, c1_d1, c1_d2, c1_d3⟩ := K1_d.out
  have l1_d := K1_d.out.lt
  dsimp only [cv]
  go_wp2_with fail
  refine (not_any C hC _).mono ?_
  rintro e w2 ⟨rfl, hb2⟩
  have HB2 : Hid (Below w.heap.size w w2) := HB1.out.trans (hb2.mono (by have := HB1.out.size; first | omega | (simp <;> omega)))
  have K2_c : Hid (Cl w2 (w.heap.size) (C)) := (K1_c.out).below hb2
  have K2_d : Hid (Cl w2 (w.heap.size + 1) (D)) := (K1_d.out).below hb2
  clear K1_c c1_c0 c1_c1 c1_c2 c1_c3 l1_c
  clear K1_d c1_d0 c1_d1 c1_d2 c1_d3 l1_d
  clear HB1
  clear hb2
  obtain ⟨c2_c0, c2_c1, c2_c2, c2_c3⟩ := K2_c.out
  have l2_c := K2_c.out.lt
  obtain ⟨c2_d0, c2_d1, c2_d2, c2_d3⟩ := K2_d.out
  have l2_d := K2_d.out.lt
  dsimp only [cv]
  go_wp2_with fail
  refine (not_any D hD _).mono ?_
  rintro e w3 ⟨rfl, hb3⟩
  have HB3 : Hid (Below w.heap.size w w3) := (HB2.out.alloc (by have := HB2.out.size; simp <;> omega) _).trans (hb3.mono (by have := HB2.out.size; first | omega | (simp <;> omega)))
  have K3_c : Hid (Cl w3 (w.heap.size) (C)) := ((K2_c.out.alloc _)).below hb3
  have K3_d : Hid (Cl w3 (w.heap.size + 1) (D)) := ((K2_d.out.alloc _)).below hb3
  have K3_n : Hid (Cl w3 (w2.heap.size) (cnot C)) := ((Cl.new w2 (cnot C) (n := w2.heap.size) (by simp))).below hb3
  clear K2_c c2_c0 c2_c1 c2_c2 c2_c3 l2_c
  clear K2_d c2_d0 c2_d1 c2_d2 c2_d3 l2_d
  clear HB2
  clear hb3
  obtain ⟨c3_c0, c3_c1, c3_c2, c3_c3⟩ := K3_c.out
  have l3_c := K3_c.out.lt
  obtain ⟨c3_d0, c3_d1, c3_d2, c3_d3⟩ := K3_d.out
  have l3_d := K3_d.out.lt
  obtain ⟨c3_n0, c3_n1, c3_n2, c3_n3⟩ := K3_n.out
  have l3_n := K3_n.out.lt
  dsimp only [cv]
  go_wp2_with fail
  have S4 : (fun w' => Hid (Below w.heap.size w w') ∧ (w'.cell? ⟨w.heap.size, 0, none⟩ = some (.int .u64 (wd (C) 0 : Nat)) ∧ w'.cell? ⟨w.heap.size, 1, none⟩ = some (.int .u64 (wd (C) 1 : Nat)) ∧ w'.cell? ⟨w.heap.size, 2, none⟩ = some (.int .u64 (wd (C) 2 : Nat)) ∧ w'.cell? ⟨w.heap.size, 3, none⟩ = some (.int .u64 (wd (C) 3 : Nat))) ∧ (w'.cell? ⟨w.heap.size + 1, 0, none⟩ = some (.int .u64 (wd (D) 0 : Nat)) ∧ w'.cell? ⟨w.heap.size + 1, 1, none⟩ = some (.int .u64 (wd (D) 1 : Nat)) ∧ w'.cell? ⟨w.heap.size + 1, 2, none⟩ = some (.int .u64 (wd (D) 2 : Nat)) ∧ w'.cell? ⟨w.heap.size + 1, 3, none⟩ = some (.int .u64 (wd (D) 3 : Nat))) ∧ (w'.cell? ⟨w2.heap.size, 0, none⟩ = some (.int .u64 (wd (cnot C) 0 : Nat)) ∧ w'.cell? ⟨w2.heap.size, 1, none⟩ = some (.int .u64 (wd (cnot C) 1 : Nat)) ∧ w'.cell? ⟨w2.heap.size, 2, none⟩ = some (.int .u64 (wd (cnot C) 2 : Nat)) ∧ w'.cell? ⟨w2.heap.size, 3, none⟩ = some (.int .u64 (wd (cnot C) 3 : Nat))) ∧ (w'.cell? ⟨w3.heap.size, 0, none⟩ = some (.int .u64 (wd (cnot D) 0 : Nat)) ∧ w'.cell? ⟨w3.heap.size, 1, none⟩ = some (.int .u64 (wd (cnot D) 1 : Nat)) ∧ w'.cell? ⟨w3.heap.size, 2, none⟩ = some (.int .u64 (wd (cnot D) 2 : Nat)) ∧ w'.cell? ⟨w3.heap.size, 3, none⟩ = some (.int .u64 (wd (cnot D) 3 : Nat)))) ((w3.alloc (.cells #[.int .u64 (wd (cnot D) 0 : Nat), .int .u64 (wd (cnot D) 1 : Nat), .int .u64 (wd (cnot D) 2 : Nat), .int .u64 (wd (cnot D) 3 : Nat)] 24)).drew) := ⟨hid ((HB3.out.alloc (by have := HB3.out.size; simp <;> omega) _)).drew, ((K3_c.out.alloc _)).drew, ((K3_d.out.alloc _)).drew, ((K3_n.out.alloc _)).drew, ((Cl.new w3 (cnot D) (n := w3.heap.size) (by simp))).drew⟩
  go_region_held3 (fun w' => Hid (Below w.heap.size w w') ∧ (w'.cell? ⟨w.heap.size, 0, none⟩ = some (.int .u64 (wd (C) 0 : Nat)) ∧ w'.cell? ⟨w.heap.size, 1, none⟩ = some (.int .u64 (wd (C) 1 : Nat)) ∧ w'.cell? ⟨w.heap.size, 2, none⟩ = some (.int .u64 (wd (C) 2 : Nat)) ∧ w'.cell? ⟨w.heap.size, 3, none⟩ = some (.int .u64 (wd (C) 3 : Nat))) ∧ (w'.cell? ⟨w.heap.size + 1, 0, none⟩ = some (.int .u64 (wd (D) 0 : Nat)) ∧ w'.cell? ⟨w.heap.size + 1, 1, none⟩ = some (.int .u64 (wd (D) 1 : Nat)) ∧ w'.cell? ⟨w.heap.size + 1, 2, none⟩ = some (.int .u64 (wd (D) 2 : Nat)) ∧ w'.cell? ⟨w.heap.size + 1, 3, none⟩ = some (.int .u64 (wd (D) 3 : Nat))) ∧ (w'.cell? ⟨w2.heap.size, 0, none⟩ = some (.int .u64 (wd (cnot C) 0 : Nat)) ∧ w'.cell? ⟨w2.heap.size, 1, none⟩ = some (.int .u64 (wd (cnot C) 1 : Nat)) ∧ w'.cell? ⟨w2.heap.size, 2, none⟩ = some (.int .u64 (wd (cnot C) 2 : Nat)) ∧ w'.cell? ⟨w2.heap.size, 3, none⟩ = some (.int .u64 (wd (cnot C) 3 : Nat))) ∧ (w'.cell? ⟨w3.heap.size, 0, none⟩ = some (.int .u64 (wd (cnot D) 0 : Nat)) ∧ w'.cell? ⟨w3.heap.size, 1, none⟩ = some (.int .u64 (wd (cnot D) 1 : Nat)) ∧ w'.cell? ⟨w3.heap.size, 2, none⟩ = some (.int .u64 (wd (cnot D) 2 : Nat)) ∧ w'.cell? ⟨w3.heap.size, 3, none⟩ = some (.int .u64 (wd (cnot D) 3 : Nat)))) (first | assumption | exact keep_4 (by assumption) (by assumption)) (first | (go_at_call 6; refine (both_any _ _ _).mono ?_; rintro e wr ⟨rfl, hbr⟩; dsimp only [cv]) | (go_at_call 7; refine (either_any _ _ _).mono ?_; rintro e wr ⟨rfl, hbr⟩; dsimp only [cv]) | (go_at_call 5; refine (not_any _ ?hh _).mono ?_; (case hh => (first | assumption | exact cnot_lt _ | exact Nat.and_lt_two_pow _ (by assumption) | exact Nat.or_lt_two_pow (by assumption) (by assumption))); rintro e wr ⟨rfl, hbr⟩; dsimp only [cv]))
  have T4 : (fun w' => Hid (Below w.heap.size w w') ∧ (w'.cell? ⟨w.heap.size, 0, none⟩ = some (.int .u64 (wd (C) 0 : Nat)) ∧ w'.cell? ⟨w.heap.size, 1, none⟩ = some (.int .u64 (wd (C) 1 : Nat)) ∧ w'.cell? ⟨w.heap.size, 2, none⟩ = some (.int .u64 (wd (C) 2 : Nat)) ∧ w'.cell? ⟨w.heap.size, 3, none⟩ = some (.int .u64 (wd (C) 3 : Nat))) ∧ (w'.cell? ⟨w.heap.size + 1, 0, none⟩ = some (.int .u64 (wd (D) 0 : Nat)) ∧ w'.cell? ⟨w.heap.size + 1, 1, none⟩ = some (.int .u64 (wd (D) 1 : Nat)) ∧ w'.cell? ⟨w.heap.size + 1, 2, none⟩ = some (.int .u64 (wd (D) 2 : Nat)) ∧ w'.cell? ⟨w.heap.size + 1, 3, none⟩ = some (.int .u64 (wd (D) 3 : Nat))) ∧ (w'.cell? ⟨w2.heap.size, 0, none⟩ = some (.int .u64 (wd (cnot C) 0 : Nat)) ∧ w'.cell? ⟨w2.heap.size, 1, none⟩ = some (.int .u64 (wd (cnot C) 1 : Nat)) ∧ w'.cell? ⟨w2.heap.size, 2, none⟩ = some (.int .u64 (wd (cnot C) 2 : Nat)) ∧ w'.cell? ⟨w2.heap.size, 3, none⟩ = some (.int .u64 (wd (cnot C) 3 : Nat))) ∧ (w'.cell? ⟨w3.heap.size, 0, none⟩ = some (.int .u64 (wd (cnot D) 0 : Nat)) ∧ w'.cell? ⟨w3.heap.size, 1, none⟩ = some (.int .u64 (wd (cnot D) 1 : Nat)) ∧ w'.cell? ⟨w3.heap.size, 2, none⟩ = some (.int .u64 (wd (cnot D) 2 : Nat)) ∧ w'.cell? ⟨w3.heap.size, 3, none⟩ = some (.int .u64 (wd (cnot D) 3 : Nat)))) wr := by assumption
  obtain ⟨HB4, K4_c, K4_d, K4_n, K4_m⟩ := T4
  replace K4_c : Hid (Cl wr (w.heap.size) (C)) := K4_c
  replace K4_d : Hid (Cl wr (w.heap.size + 1) (D)) := K4_d
  replace K4_n : Hid (Cl wr (w2.heap.size) (cnot C)) := K4_n
  replace K4_m : Hid (Cl wr (w3.heap.size) (cnot D)) := K4_m
  clear K3_c c3_c0 c3_c1 c3_c2 c3_c3 l3_c
  clear K3_d c3_d0 c3_d1 c3_d2 c3_d3 l3_d
  clear K3_n c3_n0 c3_n1 c3_n2 c3_n3 l3_n
  clear HB3
  clear S4
  obtain ⟨c4_c0, c4_c1, c4_c2, c4_c3⟩ := K4_c.out
  have l4_c := K4_c.out.lt
  obtain ⟨c4_d0, c4_d1, c4_d2, c4_d3⟩ := K4_d.out
  have l4_d := K4_d.out.lt
  obtain ⟨c4_n0, c4_n1, c4_n2, c4_n3⟩ := K4_n.out
  have l4_n := K4_n.out.lt
  obtain ⟨c4_m0, c4_m1, c4_m2, c4_m3⟩ := K4_m.out
  have l4_m := K4_m.out.lt
  go_wp2_with fail
  have S5 : (fun w' => Hid (Below w.heap.size w w') ∧ (w'.cell? ⟨w.heap.size, 0, none⟩ = some (.int .u64 (wd (C) 0 : Nat)) ∧ w'.cell? ⟨w.heap.size, 1, none⟩ = some (.int .u64 (wd (C) 1 : Nat)) ∧ w'.cell? ⟨w.heap.size, 2, none⟩ = some (.int .u64 (wd (C) 2 : Nat)) ∧ w'.cell? ⟨w.heap.size, 3, none⟩ = some (.int .u64 (wd (C) 3 : Nat))) ∧ (w'.cell? ⟨w.heap.size + 1, 0, none⟩ = some (.int .u64 (wd (D) 0 : Nat)) ∧ w'.cell? ⟨w.heap.size + 1, 1, none⟩ = some (.int .u64 (wd (D) 1 : Nat)) ∧ w'.cell? ⟨w.heap.size + 1, 2, none⟩ = some (.int .u64 (wd (D) 2 : Nat)) ∧ w'.cell? ⟨w.heap.size + 1, 3, none⟩ = some (.int .u64 (wd (D) 3 : Nat))) ∧ (w'.cell? ⟨w2.heap.size, 0, none⟩ = some (.int .u64 (wd (cnot C) 0 : Nat)) ∧ w'.cell? ⟨w2.heap.size, 1, none⟩ = some (.int .u64 (wd (cnot C) 1 : Nat)) ∧ w'.cell? ⟨w2.heap.size, 2, none⟩ = some (.int .u64 (wd (cnot C) 2 : Nat)) ∧ w'.cell? ⟨w2.heap.size, 3, none⟩ = some (.int .u64 (wd (cnot C) 3 : Nat))) ∧ (w'.cell? ⟨w3.heap.size, 0, none⟩ = some (.int .u64 (wd (cnot D) 0 : Nat)) ∧ w'.cell? ⟨w3.heap.size, 1, none⟩ = some (.int .u64 (wd (cnot D) 1 : Nat)) ∧ w'.cell? ⟨w3.heap.size, 2, none⟩ = some (.int .u64 (wd (cnot D) 2 : Nat)) ∧ w'.cell? ⟨w3.heap.size, 3, none⟩ = some (.int .u64 (wd (cnot D) 3 : Nat)))) (wr.drew) := ⟨hid (HB4.out).drew, (K4_c.out).drew, (K4_d.out).drew, (K4_n.out).drew, (K4_m.out).drew⟩
  go_region_held3 (fun w' => Hid (Below w.heap.size w w') ∧ (w'.cell? ⟨w.heap.size, 0, none⟩ = some (.int .u64 (wd (C) 0 : Nat)) ∧ w'.cell? ⟨w.heap.size, 1, none⟩ = some (.int .u64 (wd (C) 1 : Nat)) ∧ w'.cell? ⟨w.heap.size, 2, none⟩ = some (.int .u64 (wd (C) 2 : Nat)) ∧ w'.cell? ⟨w.heap.size, 3, none⟩ = some (.int .u64 (wd (C) 3 : Nat))) ∧ (w'.cell? ⟨w.heap.size + 1, 0, none⟩ = some (.int .u64 (wd (D) 0 : Nat)) ∧ w'.cell? ⟨w.heap.size + 1, 1, none⟩ = some (.int .u64 (wd (D) 1 : Nat)) ∧ w'.cell? ⟨w.heap.size + 1, 2, none⟩ = some (.int .u64 (wd (D) 2 : Nat)) ∧ w'.cell? ⟨w.heap.size + 1, 3, none⟩ = some (.int .u64 (wd (D) 3 : Nat))) ∧ (w'.cell? ⟨w2.heap.size, 0, none⟩ = some (.int .u64 (wd (cnot C) 0 : Nat)) ∧ w'.cell? ⟨w2.heap.size, 1, none⟩ = some (.int .u64 (wd (cnot C) 1 : Nat)) ∧ w'.cell? ⟨w2.heap.size, 2, none⟩ = some (.int .u64 (wd (cnot C) 2 : Nat)) ∧ w'.cell? ⟨w2.heap.size, 3, none⟩ = some (.int .u64 (wd (cnot C) 3 : Nat))) ∧ (w'.cell? ⟨w3.heap.size, 0, none⟩ = some (.int .u64 (wd (cnot D) 0 : Nat)) ∧ w'.cell? ⟨w3.heap.size, 1, none⟩ = some (.int .u64 (wd (cnot D) 1 : Nat)) ∧ w'.cell? ⟨w3.heap.size, 2, none⟩ = some (.int .u64 (wd (cnot D) 2 : Nat)) ∧ w'.cell? ⟨w3.heap.size, 3, none⟩ = some (.int .u64 (wd (cnot D) 3 : Nat)))) (first | assumption | exact keep_4 (by assumption) (by assumption)) (first | (go_at_call 6; refine (both_any _ _ _).mono ?_; rintro e wr ⟨rfl, hbr⟩; dsimp only [cv]) | (go_at_call 7; refine (either_any _ _ _).mono ?_; rintro e wr ⟨rfl, hbr⟩; dsimp only [cv]) | (go_at_call 8; refine (count_any _ _).mono ?_; rintro e wr ⟨rfl, hbr⟩))
  have T5 : (fun w' => Hid (Below w.heap.size w w') ∧ (w'.cell? ⟨w.heap.size, 0, none⟩ = some (.int .u64 (wd (C) 0 : Nat)) ∧ w'.cell? ⟨w.heap.size, 1, none⟩ = some (.int .u64 (wd (C) 1 : Nat)) ∧ w'.cell? ⟨w.heap.size, 2, none⟩ = some (.int .u64 (wd (C) 2 : Nat)) ∧ w'.cell? ⟨w.heap.size, 3, none⟩ = some (.int .u64 (wd (C) 3 : Nat))) ∧ (w'.cell? ⟨w.heap.size + 1, 0, none⟩ = some (.int .u64 (wd (D) 0 : Nat)) ∧ w'.cell? ⟨w.heap.size + 1, 1, none⟩ = some (.int .u64 (wd (D) 1 : Nat)) ∧ w'.cell? ⟨w.heap.size + 1, 2, none⟩ = some (.int .u64 (wd (D) 2 : Nat)) ∧ w'.cell? ⟨w.heap.size + 1, 3, none⟩ = some (.int .u64 (wd (D) 3 : Nat))) ∧ (w'.cell? ⟨w2.heap.size, 0, none⟩ = some (.int .u64 (wd (cnot C) 0 : Nat)) ∧ w'.cell? ⟨w2.heap.size, 1, none⟩ = some (.int .u64 (wd (cnot C) 1 : Nat)) ∧ w'.cell? ⟨w2.heap.size, 2, none⟩ = some (.int .u64 (wd (cnot C) 2 : Nat)) ∧ w'.cell? ⟨w2.heap.size, 3, none⟩ = some (.int .u64 (wd (cnot C) 3 : Nat))) ∧ (w'.cell? ⟨w3.heap.size, 0, none⟩ = some (.int .u64 (wd (cnot D) 0 : Nat)) ∧ w'.cell? ⟨w3.heap.size, 1, none⟩ = some (.int .u64 (wd (cnot D) 1 : Nat)) ∧ w'.cell? ⟨w3.heap.size, 2, none⟩ = some (.int .u64 (wd (cnot D) 2 : Nat)) ∧ w'.cell? ⟨w3.heap.size, 3, none⟩ = some (.int .u64 (wd (cnot D) 3 : Nat)))) wr := by assumption
  obtain ⟨HB5, K5_c, K5_d, K5_n, K5_m⟩ := T5
  replace K5_c : Hid (Cl wr (w.heap.size) (C)) := K5_c
  replace K5_d : Hid (Cl wr (w.heap.size + 1) (D)) := K5_d
  replace K5_n : Hid (Cl wr (w2.heap.size) (cnot C)) := K5_n
  replace K5_m : Hid (Cl wr (w3.heap.size) (cnot D)) := K5_m
  clear K4_c c4_c0 c4_c1 c4_c2 c4_c3 l4_c
  clear K4_d c4_d0 c4_d1 c4_d2 c4_d3 l4_d
  clear K4_n c4_n0 c4_n1 c4_n2 c4_n3 l4_n
  clear K4_m c4_m0 c4_m1 c4_m2 c4_m3 l4_m
  clear HB4
  clear S5
  obtain ⟨c5_c0, c5_c1, c5_c2, c5_c3⟩ := K5_c.out
  have l5_c := K5_c.out.lt
  obtain ⟨c5_d0, c5_d1, c5_d2, c5_d3⟩ := K5_d.out
  have l5_d := K5_d.out.lt
  obtain ⟨c5_n0, c5_n1, c5_n2, c5_n3⟩ := K5_n.out
  have l5_n := K5_n.out.lt
  obtain ⟨c5_m0, c5_m1, c5_m2, c5_m3⟩ := K5_m.out
  have l5_m := K5_m.out.lt
  go_wp2_with fail
  have S6 : (fun w' => Hid (Below w.heap.size w w') ∧ (w'.cell? ⟨w.heap.size, 0, none⟩ = some (.int .u64 (wd (C) 0 : Nat)) ∧ w'.cell? ⟨w.heap.size, 1, none⟩ = some (.int .u64 (wd (C) 1 : Nat)) ∧ w'.cell? ⟨w.heap.size, 2, none⟩ = some (.int .u64 (wd (C) 2 : Nat)) ∧ w'.cell? ⟨w.heap.size, 3, none⟩ = some (.int .u64 (wd (C) 3 : Nat))) ∧ (w'.cell? ⟨w.heap.size + 1, 0, none⟩ = some (.int .u64 (wd (D) 0 : Nat)) ∧ w'.cell? ⟨w.heap.size + 1, 1, none⟩ = some (.int .u64 (wd (D) 1 : Nat)) ∧ w'.cell? ⟨w.heap.size + 1, 2, none⟩ = some (.int .u64 (wd (D) 2 : Nat)) ∧ w'.cell? ⟨w.heap.size + 1, 3, none⟩ = some (.int .u64 (wd (D) 3 : Nat))) ∧ (w'.cell? ⟨w2.heap.size, 0, none⟩ = some (.int .u64 (wd (cnot C) 0 : Nat)) ∧ w'.cell? ⟨w2.heap.size, 1, none⟩ = some (.int .u64 (wd (cnot C) 1 : Nat)) ∧ w'.cell? ⟨w2.heap.size, 2, none⟩ = some (.int .u64 (wd (cnot C) 2 : Nat)) ∧ w'.cell? ⟨w2.heap.size, 3, none⟩ = some (.int .u64 (wd (cnot C) 3 : Nat))) ∧ (w'.cell? ⟨w3.heap.size, 0, none⟩ = some (.int .u64 (wd (cnot D) 0 : Nat)) ∧ w'.cell? ⟨w3.heap.size, 1, none⟩ = some (.int .u64 (wd (cnot D) 1 : Nat)) ∧ w'.cell? ⟨w3.heap.size, 2, none⟩ = some (.int .u64 (wd (cnot D) 2 : Nat)) ∧ w'.cell? ⟨w3.heap.size, 3, none⟩ = some (.int .u64 (wd (cnot D) 3 : Nat)))) (wr.drew) := ⟨hid (HB5.out).drew, (K5_c.out).drew, (K5_d.out).drew, (K5_n.out).drew, (K5_m.out).drew⟩
  go_region_held3 (fun w' => Hid (Below w.heap.size w w') ∧ (w'.cell? ⟨w.heap.size, 0, none⟩ = some (.int .u64 (wd (C) 0 : Nat)) ∧ w'.cell? ⟨w.heap.size, 1, none⟩ = some (.int .u64 (wd (C) 1 : Nat)) ∧ w'.cell? ⟨w.heap.size, 2, none⟩ = some (.int .u64 (wd (C) 2 : Nat)) ∧ w'.cell? ⟨w.heap.size, 3, none⟩ = some (.int .u64 (wd (C) 3 : Nat))) ∧ (w'.cell? ⟨w.heap.size + 1, 0, none⟩ = some (.int .u64 (wd (D) 0 : Nat)) ∧ w'.cell? ⟨w.heap.size + 1, 1, none⟩ = some (.int .u64 (wd (D) 1 : Nat)) ∧ w'.cell? ⟨w.heap.size + 1, 2, none⟩ = some (.int .u64 (wd (D) 2 : Nat)) ∧ w'.cell? ⟨w.heap.size + 1, 3, none⟩ = some (.int .u64 (wd (D) 3 : Nat))) ∧ (w'.cell? ⟨w2.heap.size, 0, none⟩ = some (.int .u64 (wd (cnot C) 0 : Nat)) ∧ w'.cell? ⟨w2.heap.size, 1, none⟩ = some (.int .u64 (wd (cnot C) 1 : Nat)) ∧ w'.cell? ⟨w2.heap.size, 2, none⟩ = some (.int .u64 (wd (cnot C) 2 : Nat)) ∧ w'.cell? ⟨w2.heap.size, 3, none⟩ = some (.int .u64 (wd (cnot C) 3 : Nat))) ∧ (w'.cell? ⟨w3.heap.size, 0, none⟩ = some (.int .u64 (wd (cnot D) 0 : Nat)) ∧ w'.cell? ⟨w3.heap.size, 1, none⟩ = some (.int .u64 (wd (cnot D) 1 : Nat)) ∧ w'.cell? ⟨w3.heap.size, 2, none⟩ = some (.int .u64 (wd (cnot D) 2 : Nat)) ∧ w'.cell? ⟨w3.heap.size, 3, none⟩ = some (.int .u64 (wd (cnot D) 3 : Nat)))) (first | assumption | exact keep_4 (by assumption) (by assumption)) (first | (go_at_call 9; refine (has_any _ _ _ (by assumption)).mono ?_; rintro e wr ⟨rfl, hbr⟩))
  have T6 : (fun w' => Hid (Below w.heap.size w w') ∧ (w'.cell? ⟨w.heap.size, 0, none⟩ = some (.int .u64 (wd (C) 0 : Nat)) ∧ w'.cell? ⟨w.heap.size, 1, none⟩ = some (.int .u64 (wd (C) 1 : Nat)) ∧ w'.cell? ⟨w.heap.size, 2, none⟩ = some (.int .u64 (wd (C) 2 : Nat)) ∧ w'.cell? ⟨w.heap.size, 3, none⟩ = some (.int .u64 (wd (C) 3 : Nat))) ∧ (w'.cell? ⟨w.heap.size + 1, 0, none⟩ = some (.int .u64 (wd (D) 0 : Nat)) ∧ w'.cell? ⟨w.heap.size + 1, 1, none⟩ = some (.int .u64 (wd (D) 1 : Nat)) ∧ w'.cell? ⟨w.heap.size + 1, 2, none⟩ = some (.int .u64 (wd (D) 2 : Nat)) ∧ w'.cell? ⟨w.heap.size + 1, 3, none⟩ = some (.int .u64 (wd (D) 3 : Nat))) ∧ (w'.cell? ⟨w2.heap.size, 0, none⟩ = some (.int .u64 (wd (cnot C) 0 : Nat)) ∧ w'.cell? ⟨w2.heap.size, 1, none⟩ = some (.int .u64 (wd (cnot C) 1 : Nat)) ∧ w'.cell? ⟨w2.heap.size, 2, none⟩ = some (.int .u64 (wd (cnot C) 2 : Nat)) ∧ w'.cell? ⟨w2.heap.size, 3, none⟩ = some (.int .u64 (wd (cnot C) 3 : Nat))) ∧ (w'.cell? ⟨w3.heap.size, 0, none⟩ = some (.int .u64 (wd (cnot D) 0 : Nat)) ∧ w'.cell? ⟨w3.heap.size, 1, none⟩ = some (.int .u64 (wd (cnot D) 1 : Nat)) ∧ w'.cell? ⟨w3.heap.size, 2, none⟩ = some (.int .u64 (wd (cnot D) 2 : Nat)) ∧ w'.cell? ⟨w3.heap.size, 3, none⟩ = some (.int .u64 (wd (cnot D) 3 : Nat)))) wr := by assumption
  obtain ⟨HB6, K6_c, K6_d, K6_n, K6_m⟩ := T6
  replace K6_c : Hid (Cl wr (w.heap.size) (C)) := K6_c
  replace K6_d : Hid (Cl wr (w.heap.size + 1) (D)) := K6_d
  replace K6_n : Hid (Cl wr (w2.heap.size) (cnot C)) := K6_n
  replace K6_m : Hid (Cl wr (w3.heap.size) (cnot D)) := K6_m
  clear K5_c c5_c0 c5_c1 c5_c2 c5_c3 l5_c
  clear K5_d c5_d0 c5_d1 c5_d2 c5_d3 l5_d
  clear K5_n c5_n0 c5_n1 c5_n2 c5_n3 l5_n
  clear K5_m c5_m0 c5_m1 c5_m2 c5_m3 l5_m
  clear HB5
  clear S6
  obtain ⟨c6_c0, c6_c1, c6_c2, c6_c3⟩ := K6_c.out
  have l6_c := K6_c.out.lt
  obtain ⟨c6_d0, c6_d1, c6_d2, c6_d3⟩ := K6_d.out
  have l6_d := K6_d.out.lt
  obtain ⟨c6_n0, c6_n1, c6_n2, c6_n3⟩ := K6_n.out
  have l6_n := K6_n.out.lt
  obtain ⟨c6_m0, c6_m1, c6_m2, c6_m3⟩ := K6_m.out
  have l6_m := K6_m.out.lt
  go_wp2_with fail
  go_ret
  exact ⟨by simp, HB6.out⟩
end Go.Proofs.Ytcdkgcacmlolnaa
