/-
  For any class and whatever stands behind its text: muntinlaw02.ClassBack answers true. Conditions: those that each theorem names.
-/
import Derived.Test.YtcdkgcacmlolnaaDoorKPar4
namespace Go.Proofs.YtcdkgcacmlolnaaDoor
open Go.RowKit
set_option linter.unusedVariables false
theorem here_nb (l : List Nat) (hl : ∀ x ∈ l, x < 256) : Here (nb l) 0 l := fun j x hj => by rw [Nat.zero_add]; exact at_nb l hl j x hj
theorem txt_its (C : Nat) : ∃ I : List (Nat × Nat), (∀ p ∈ I, p.1 ≤ p.2 ∧ p.2 < 256) ∧ txt C = ([91] ++ ibody I) ++ [93] ∧ (C < 2 ^ 256 → uo I = C) := by
  have h : ∀ p ∈ (rs C 256).reverse, p.1 ≤ p.2 ∧ p.2 < 256 := fun p hp => rs_lt C 256 p (List.mem_reverse.1 hp)
  refine ⟨its (rs C 256).reverse, its_ok _ h, ?_, fun hC => ?_⟩
  · rw [txt, body_its _ (fun p hp => (h p hp).1)]
  · rw [uo_its, uo_rev, rs_all C hC]
theorem txt_len (C : Nat) : (txt C).length ≤ 2306 := by
  have h1 := body_len (rs C 256).reverse
  have h2 := rs_len C 256
  unfold txt
  simp at h1 ⊢
  omega
theorem at_append (A B : ByteArray) (k x : Nat) (h : At A k x) : At (A ++ B) k x := by
  obtain ⟨hk, hx⟩ := h
  have hs : k < (A ++ B).size := by rw [ByteArray.size_append]; omega
  refine ⟨hs, ?_⟩
  rw [← hx]
  congr 1
  simp only [ByteArray.getElem_eq_getElem_data, ByteArray.data_append]
  rw [Array.getElem_append_left]
set_option maxRecDepth 100000 in
set_option maxHeartbeats 2000000 in
theorem back_any (C : Nat) (T : ByteArray) (w : World) (hC : C < 2 ^ 256) (hT : TabIs w) :
    Calls Tryd.prog 6 #[cv C, .string T] w fun e w' => e = .returned (.bool true) ∧ Below w.heap.size w w' := by
  by_cases hbig : 1048576 < T.size
  · have d0 : decide (1048576 < (T.size : Int)) = true := by simp; omega
    clear hbig
    unfold cv
    go_enter Tryd.func6, Tryd.ntmps6
    go_wp2_with fail
    go_ret
    exact ⟨rfl, (Below.refl _ _).alloc (Nat.le_refl _) _⟩
  · have d0 : decide (1048576 < (T.size : Int)) = false := by simp; omega
    obtain ⟨I, hI, hI2, hI3⟩ := txt_its C
    have hI4 := hI3 hC
    obtain ⟨S, hS⟩ : ∃ S, S = nb (txt C) := ⟨_, rfl⟩
    have hsz : S.size = (txt C).length := by rw [hS, nb_size]
    have hl3 := txt_len C
    have hl2 : 2 ≤ (txt C).length := by rw [hI2]; simp
    have hs1 : (2 : Int) ≤ (S.size : Int) := by omega
    have hs2 : (S.size : Int) ≤ 2306 := by omega
    have d1 : decide (2 ≤ (S.size : Int)) = true := by simp; omega
    have HX : Hid (∀ w : World, TabIs w → Calls Tryd.prog 23 #[cv C] w fun e w' => e = .returned (.string S) ∧ Below w.heap.size w w') := by rw [hS]; exact fun w hT => text_any C w hC hT
    have hh : Here (S ++ T) 0 ([91] ++ (ibody I ++ [93])) := fun j x hj => by
      have h1 := here_nb (txt C) (txt_lt C) j x (by rw [hI2, List.append_assoc]; exact hj)
      rw [← hS] at h1
      exact at_append S T _ x h1
    have HP : Hid (∀ w : World, Calls Tryd.prog 25 #[.string (S ++ T)] w fun e w' => e = .returned (.tuple #[cv C, .int .i64 (S.size : Int), .nilIface]) ∧ Below w.heap.size w w') := fun w => by
      have hp := parse_any (S ++ T) I S.size w (by rw [hsz, hI2]; simp; omega) hI hh (by rw [ByteArray.size_append]; omega)
      rw [hI4] at hp
      exact hp
    have HT : Hid (TabIs w) := hT
    have q1 := eq_self C
    have hn1 : S.size ≤ 2306 := by omega
    have hn2 : T.size ≤ 1048576 := by omega
    have hn3 : S.size + T.size ≤ 9223372036854775807 := by omega
    clear hT hS hsz hl3 hl2 hI2 hI3 hI4 hh hI hbig
    unfold cv
    go_enter Tryd.func6, Tryd.ntmps6
    go_wp2_with fail
    refine (HX.out _ (HT.out.alloc _)).mono ?_
    rintro e w1 ⟨rfl, hb1⟩
    have HB1 : Hid (Below w.heap.size w w1) := ((Below.refl _ _).alloc (Nat.le_refl _) _).trans (hb1.mono (by simp))
    have HC1 : Hid (Cl w1 w.heap.size C) := (Cl.new w C rfl).below hb1
    clear hb1
    go_wp2_with fail
    refine (HP.out _).mono ?_
    rintro e w2 ⟨rfl, hb2⟩
    have HB2 : Hid (Below w.heap.size w w2) := HB1.out.trans (hb2.mono HB1.out.size)
    have HC2 : Hid (Cl w2 w.heap.size C) := HC1.out.below hb2
    clear hb2 HB1 HC1
    obtain ⟨c0, c1, c2, c3⟩ := HC2.out
    have hl2 := HC2.out.lt
    dsimp only [cv]
    go_wp2_with fail
    go_ret
    exact ⟨rfl, HB2.out.alloc HB2.out.size _⟩
end Go.Proofs.YtcdkgcacmlolnaaDoor
