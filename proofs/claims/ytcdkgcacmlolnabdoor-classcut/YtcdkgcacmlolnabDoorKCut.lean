/-
  For any class and any number: muntinlaw02.ClassCut answers true. Conditions: those that each theorem names.
-/
import Derived.Test.YtcdkgcacmlolnabDoorKH
import Derived.Test.YtcdkgcacmlolnabDoorKNegs
import Derived.Test.YtcdkgcacmlolnabDoorEAs2
namespace Go.Proofs.YtcdkgcacmlolnabDoor
open Go.RowKit
set_option linter.unusedVariables false
theorem bt_extract (S : ByteArray) (k i : Nat) (hk : k ≤ S.size) (hi : i < k) : bt (S.extract 0 k) i = bt S i := by
  have hs : (S.extract 0 k).size = k := by rw [ByteArray.size_extract]; omega
  unfold bt
  rw [dif_pos (by omega), dif_pos (by omega)]
  congr 2
  simp only [ByteArray.getElem_eq_getElem_data, ByteArray.data_extract]
  rw [Array.getElem_extract]
  congr 1
  omega
theorem pre_extract (S : ByteArray) (k : Nat) (hk : k ≤ S.size) : Pre (S.extract 0 k) S k :=
  ⟨by rw [ByteArray.size_extract]; omega, hk, fun i hi => bt_extract S k i hk hi⟩
set_option maxRecDepth 100000 in
set_option maxHeartbeats 2000000 in
theorem cut_any (C : Nat) (cut : Int) (w : World) (hC : C < 2 ^ 256) (hc1 : -9223372036854775808 ≤ cut) (hc2 : cut ≤ 9223372036854775807) (hT : TabIs w) (hE : ErrIs w) :
    Calls Tryd.prog 5 #[cv C, .int .i64 cut] w fun e w' => e = .returned (.bool true) ∧ Below w.heap.size w w' := by
  obtain ⟨I, hI, hI2, hI3⟩ := txt_its C
  have hI4 := hI3 hC
  obtain ⟨S, hS⟩ : ∃ S, S = nb (txt C) := ⟨_, rfl⟩
  have hsz : S.size = (txt C).length := by rw [hS, nb_size]
  have hl3 := txt_len C
  have hl2 : 2 ≤ (txt C).length := by rw [hI2]; simp
  have hs1 : (2 : Int) ≤ (S.size : Int) := by omega
  have hs2 : (S.size : Int) ≤ 2306 := by omega
  have HX : Hid (∀ w : World, TabIs w → Calls Tryd.prog 10 #[cv C] w fun e w' => e = .returned (.string S) ∧ Below w.heap.size w w') := by rw [hS]; exact fun w hT => text_any C w hC hT
  have HT : Hid (TabIs w) := hT
  have HE : Hid (ErrIs w) := hE
  have hcls : clsP S = .inr (uo I, S.size) := by
    have h := clsP_txt hI (S := S) (by rw [hS]; have := here_nb (txt C) (txt_lt C); rw [hI2, List.append_assoc] at this; rw [hI2, List.append_assoc]; exact this)
    rw [h, hsz, hI2]
    simp
    omega
  by_cases hneg : cut < 0
  · have d0 : decide (cut < 0) = true := by simpa using hneg
    clear hT hE hS hsz hl3 hl2 hI2 hI3 hI4 hI hcls
    unfold cv
    go_enter Tryd.func5, Tryd.ntmps5
    go_wp2_with fail
    refine (HX.out _ (HT.out.alloc _)).mono ?_
    rintro e w1 ⟨rfl, hb1⟩
    have HB1 : Hid (Below w.heap.size w w1) := ((Below.refl _ _).alloc (Nat.le_refl _) _).trans (hb1.mono (by simp))
    clear hb1
    go_wp2_with fail
    go_ret
    exact ⟨rfl, HB1.out⟩
  · have d0 : decide (cut < 0) = false := by simpa using hneg
    have d1 : decide ((S.size : Int) < 2) = false := by simp; omega
    obtain ⟨n, rfl⟩ := Int.eq_ofNat_of_zero_le (show 0 ≤ cut by omega)
    obtain ⟨k, hk⟩ : ∃ k, k = n % S.size := ⟨_, rfl⟩
    have hkS : k < S.size := by rw [hk]; exact Nat.mod_lt _ (by omega)
    have hkI : (n : Int) % (S.size : Int) = (k : Int) := by rw [hk]; first | exact (Int.natCast_emod n S.size).symm | exact (Int.ofNat_emod n S.size).symm | (push_cast; rfl)
    have hkI2 : (n : Int).tmod (S.size : Int) = (k : Int) := by rw [Int.tmod_eq_emod_of_nonneg (by omega)]; exact hkI
    have hbad : clsP (S.extract 0 k) = .inl (3, k) := cut_bad (pre_extract S k (by omega)) hcls hkS
    have HP : Hid (∀ w : World, Calls Tryd.prog 11 #[.string (S.extract 0 k)] w fun e w' => Bad (.agg #[.int .u64 0, .int .u64 0, .int .u64 0, .int .u64 0]) (3, k) w e w') := fun w => by
      have h := parse_all (S.extract 0 k) w (by rw [ByteArray.size_extract]; omega)
      rw [hbad] at h
      rw [← cv0]
      exact h
    have hkk : (k : Int) < (S.size : Int) := by omega
    have q0 : ∀ w : World, (Op.equalIn 10000 24 (.agg #[.int .u64 0, .int .u64 0, .int .u64 0, .int .u64 0]) (.agg #[.int .u64 0, .int .u64 0, .int .u64 0, .int .u64 0])).run Tryd.prog w = .ok true w := by rw [← cv0]; exact eq_self 0
    clear hT hE hS hsz hl3 hl2 hI2 hI3 hI4 hI hcls hbad hk hneg
    unfold cv
    go_enter Tryd.func5, Tryd.ntmps5
    go_wp2_with fail
    refine (HX.out _ (HT.out.alloc _)).mono ?_
    rintro e w1 ⟨rfl, hb1⟩
    have HB1 : Hid (Below w.heap.size w w1) := ((Below.refl _ _).alloc (Nat.le_refl _) _).trans (hb1.mono (by simp))
    clear hb1
    go_wp2_with fail
    refine (HP.out _).mono ?_
    rintro e w2 ⟨p, rfl, HQ⟩
    have HB2 : Hid (Below w.heap.size w w2) := HB1.out.trans (HQ.out.2.2.mono HB1.out.size)
    have HF2 : Hid (Flt w2 p (3, k)) := HQ.out.2.1
    have HE2 : Hid (ErrIs w2) := HE.out.below HB2.out HE.out.lt
    clear HQ HB1
    unfold flv
    go_wp2_with fail
    refine (code_fault p 3 (k : Int) _ (HE2.out.alloc _) (HF2.out.alloc _)).mono ?_
    rintro e w3 ⟨rfl, hb3⟩
    have HB3 : Hid (Below w.heap.size w w3) := (HB2.out.alloc HB2.out.size _).trans (hb3.mono (by have := HB2.out.size; simp; omega))
    have HF3 : Hid (Flt w3 p (3, k)) := (HF2.out.alloc _).below hb3 (by have := HF2.out.lt; simp; omega)
    have HE3 : Hid (ErrIs w3) := HE.out.below HB3.out HE.out.lt
    clear hb3 HF2 HE2
    go_wp2_with fail
    refine (at_fault p 3 (k : Int) _ HE3.out HF3.out).mono ?_
    rintro e w4 ⟨rfl, hb4⟩
    have HB4 : Hid (Below w.heap.size w w4) := HB3.out.trans (hb4.mono HB3.out.size)
    clear hb4
    go_wp2_with fail
    go_ret
    exact ⟨rfl, HB4.out⟩
end Go.Proofs.YtcdkgcacmlolnabDoor
