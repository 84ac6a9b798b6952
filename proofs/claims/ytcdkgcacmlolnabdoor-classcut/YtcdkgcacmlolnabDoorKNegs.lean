/-
  For any class: muntinlaw02.ClassNegs answers true. Conditions: those that each theorem names.
-/
import Derived.Test.YtcdkgcacmlolnabDoorKPar4
namespace Go.Proofs.YtcdkgcacmlolnabDoor
open Go.RowKit
set_option linter.unusedVariables false
theorem here_nb (l : List Nat) (hl : ∀ x ∈ l, x < 256) : Here (nb l) 0 l := fun j x hj => by rw [Nat.zero_add]; exact at_nb l hl j x hj
theorem txt_its (C : Nat) : ∃ I : List (Nat × Nat), (∀ p ∈ I, p.1 ≤ p.2 ∧ p.2 < 256) ∧ txt C = ([91] ++ ibody I) ++ [93] ∧ (C < 2 ^ 256 → uo I = C) := by
  have h : ∀ p ∈ (rs C 256).reverse, p.1 ≤ p.2 ∧ p.2 < 256 := fun p hp => rs_lt C 256 p (List.mem_reverse.1 hp)
  refine ⟨its (rs C 256).reverse, its_ok _ h, ?_, fun hC => ?_⟩
  · rw [txt, body_its _ (fun p hp => (h p hp).1)]
  · rw [uo_its, uo_rev, rs_all C hC]
theorem txt_len (C : Nat) : (txt C).length ≤ 2306 := by
  have h1 := body_len (rs C 256).reverse
  have h2 := rs_len C 256
  unfold txt
  simp at h1 ⊢
  omega
set_option maxRecDepth 100000 in
set_option maxHeartbeats 2000000 in
theorem negs_any (C : Nat) (w : World) (hC : C < 2 ^ 256) (hT : TabIs w) :
    Calls Tryd.prog 4 #[cv C] w fun e w' => e = .returned (.bool true) ∧ Below w.heap.size w w' := by
  obtain ⟨I, hI, hI2, hI3⟩ := txt_its C
  have hI4 := hI3 hC
  obtain ⟨S, hS⟩ : ∃ S, S = nb (txt C) := ⟨_, rfl⟩
  have hsz : S.size = (txt C).length := by rw [hS, nb_size]
  have hl3 := txt_len C
  have hl2 : 2 ≤ (txt C).length := by rw [hI2]; simp
  have hs1 : (2 : Int) ≤ (S.size : Int) := by omega
  have hs2 : (S.size : Int) ≤ 2306 := by omega
  have d1 : decide ((S.size : Int) < 2) = false := by simp; omega
  have HX : Hid (∀ w : World, TabIs w → Calls Tryd.prog 10 #[cv C] w fun e w' => e = .returned (.string S) ∧ Below w.heap.size w w') := by rw [hS]; exact fun w hT => text_any C w hC hT
  have happ : ({ data := #[91, 94] } : ByteArray) ++ S.extract 1 S.size = nb (91 :: 94 :: (ibody I ++ [93])) := by
    rw [hsz, hS, hI2]
    apply ByteArray.ext
    simp [nb, ByteArray.data_append, ByteArray.data_extract]
    exact List.take_of_length_le (by simp)
  have hlt : ∀ x ∈ 91 :: 94 :: (ibody I ++ [93]), x < 256 := fun x hx => by
    have h1 := txt_lt C
    rw [hI2] at h1
    simp at hx
    rcases hx with rfl | rfl | hx | rfl
    · omega
    · omega
    · exact h1 x (by simp [hx])
    · omega
  have HP : Hid (∀ w : World, Calls Tryd.prog 11 #[.string ({ data := #[91, 94] } ++ S.extract 1 S.size)] w fun e w' => e = .returned (.tuple #[cv (cnot C), .int .i64 ((S.size : Int) + 1), .nilIface]) ∧ Below w.heap.size w w') := fun w => by
    have hp := parse_not (nb (91 :: 94 :: (ibody I ++ [93]))) I (S.size + 1) w (by rw [hsz, hI2]; simp; omega) hI (here_nb _ hlt) (by rw [nb_size]; rw [hI2] at hl3; simp at hl3 ⊢; omega)
    rw [happ]
    rw [hI4, show ((S.size + 1 : Nat) : Int) = (S.size : Int) + 1 by omega] at hp
    exact hp
  have HT : Hid (TabIs w) := hT
  have q1 := eq_self (cnot C)
  have hws : IntKind.i64.wrap ((S.size : Int) + 1) = (S.size : Int) + 1 := by rw [IntKind.wrap_i64]; omega
  clear hT hS hsz hl3 hl2 hI2 hI3 hI4 happ hlt hI
  unfold cv
  go_enter Tryd.func4, Tryd.ntmps4
  go_wp2_with fail
  refine (HX.out _ (HT.out.alloc _)).mono ?_
  rintro e w1 ⟨rfl, hb1⟩
  have HB1 : Hid (Below w.heap.size w w1) := ((Below.refl _ _).alloc (Nat.le_refl _) _).trans (hb1.mono (by simp))
  have HC1 : Hid (Cl w1 w.heap.size C) := (Cl.new w C rfl).below hb1
  clear hb1
  go_wp2_with fail
  refine (HP.out _).mono ?_
  rintro e w2 ⟨rfl, hb2⟩
  have HB2 : Hid (Below w.heap.size w w2) := HB1.out.trans (hb2.mono HB1.out.size)
  have HC2 : Hid (Cl w2 w.heap.size C) := HC1.out.below hb2
  clear hb2 HB1 HC1
  obtain ⟨c0, c1, c2, c3⟩ := HC2.out
  have hl2 := HC2.out.lt
  dsimp only [cv]
  go_wp2_with fail
  have K2_c : Hid (Cl w2 (w.heap.size) (C)) := HC2
  have l2_c := hl2
  obtain ⟨c2_c0, c2_c1, c2_c2, c2_c3⟩ := K2_c.out
  clear HC2 c0 c1 c2 c3 hl2
  have S3 : (fun w' => Hid (Below w.heap.size w w') ∧ (w'.cell? ⟨w.heap.size, 0, none⟩ = some (.int .u64 (wd (C) 0 : Nat)) ∧ w'.cell? ⟨w.heap.size, 1, none⟩ = some (.int .u64 (wd (C) 1 : Nat)) ∧ w'.cell? ⟨w.heap.size, 2, none⟩ = some (.int .u64 (wd (C) 2 : Nat)) ∧ w'.cell? ⟨w.heap.size, 3, none⟩ = some (.int .u64 (wd (C) 3 : Nat))) ∧ (w'.cell? ⟨w2.heap.size, 0, none⟩ = some (.int .u64 (wd (cnot C) 0 : Nat)) ∧ w'.cell? ⟨w2.heap.size, 1, none⟩ = some (.int .u64 (wd (cnot C) 1 : Nat)) ∧ w'.cell? ⟨w2.heap.size, 2, none⟩ = some (.int .u64 (wd (cnot C) 2 : Nat)) ∧ w'.cell? ⟨w2.heap.size, 3, none⟩ = some (.int .u64 (wd (cnot C) 3 : Nat)))) ((w2.alloc (.cells #[.int .u64 (wd (cnot C) 0 : Nat), .int .u64 (wd (cnot C) 1 : Nat), .int .u64 (wd (cnot C) 2 : Nat), .int .u64 (wd (cnot C) 3 : Nat)] 24)).drew) := ⟨hid ((HB2.out.alloc (by have := HB2.out.size; simp <;> omega) _)).drew, ((K2_c.out.alloc _)).drew, ((Cl.new w2 (cnot C) (n := w2.heap.size) (by simp))).drew⟩
  first | go_region_held3 (fun w' => Hid (Below w.heap.size w w') ∧ (w'.cell? ⟨w.heap.size, 0, none⟩ = some (.int .u64 (wd (C) 0 : Nat)) ∧ w'.cell? ⟨w.heap.size, 1, none⟩ = some (.int .u64 (wd (C) 1 : Nat)) ∧ w'.cell? ⟨w.heap.size, 2, none⟩ = some (.int .u64 (wd (C) 2 : Nat)) ∧ w'.cell? ⟨w.heap.size, 3, none⟩ = some (.int .u64 (wd (C) 3 : Nat))) ∧ (w'.cell? ⟨w2.heap.size, 0, none⟩ = some (.int .u64 (wd (cnot C) 0 : Nat)) ∧ w'.cell? ⟨w2.heap.size, 1, none⟩ = some (.int .u64 (wd (cnot C) 1 : Nat)) ∧ w'.cell? ⟨w2.heap.size, 2, none⟩ = some (.int .u64 (wd (cnot C) 2 : Nat)) ∧ w'.cell? ⟨w2.heap.size, 3, none⟩ = some (.int .u64 (wd (cnot C) 3 : Nat)))) (first | assumption | exact keep_2 (by assumption) (by assumption)) (first | (go_at_call 12; refine (not_any _ ?hh _).mono ?_; (case hh => (first | assumption | exact cnot_lt _ | exact Nat.and_lt_two_pow _ (by assumption) | exact Nat.or_lt_two_pow (by assumption) (by assumption))); rintro e wr ⟨rfl, hbr⟩; dsimp only [cv])) | skip
  have T3 : (fun w' => Hid (Below w.heap.size w w') ∧ (w'.cell? ⟨w.heap.size, 0, none⟩ = some (.int .u64 (wd (C) 0 : Nat)) ∧ w'.cell? ⟨w.heap.size, 1, none⟩ = some (.int .u64 (wd (C) 1 : Nat)) ∧ w'.cell? ⟨w.heap.size, 2, none⟩ = some (.int .u64 (wd (C) 2 : Nat)) ∧ w'.cell? ⟨w.heap.size, 3, none⟩ = some (.int .u64 (wd (C) 3 : Nat))) ∧ (w'.cell? ⟨w2.heap.size, 0, none⟩ = some (.int .u64 (wd (cnot C) 0 : Nat)) ∧ w'.cell? ⟨w2.heap.size, 1, none⟩ = some (.int .u64 (wd (cnot C) 1 : Nat)) ∧ w'.cell? ⟨w2.heap.size, 2, none⟩ = some (.int .u64 (wd (cnot C) 2 : Nat)) ∧ w'.cell? ⟨w2.heap.size, 3, none⟩ = some (.int .u64 (wd (cnot C) 3 : Nat)))) wr := by assumption
  obtain ⟨HB3, K3_c, K3_d⟩ := T3
  replace K3_c : Hid (Cl wr (w.heap.size) (C)) := K3_c
  replace K3_d : Hid (Cl wr (w2.heap.size) (cnot C)) := K3_d
  clear K2_c c2_c0 c2_c1 c2_c2 c2_c3 l2_c
  clear HB2
  clear S3
  obtain ⟨c3_c0, c3_c1, c3_c2, c3_c3⟩ := K3_c.out
  have l3_c := K3_c.out.lt
  obtain ⟨c3_d0, c3_d1, c3_d2, c3_d3⟩ := K3_d.out
  have l3_d := K3_d.out.lt
  go_wp2_with fail
  go_ret
  exact ⟨rfl, HB3.out⟩
end Go.Proofs.YtcdkgcacmlolnabDoor
