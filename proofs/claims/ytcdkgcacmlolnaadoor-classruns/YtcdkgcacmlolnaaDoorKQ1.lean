/-
  What the document's own hex and Sign answer. Conditions: those that each theorem names.
-/
import Derived.Test.YtcdkgcacmlolnaaDoorKR1
namespace Go.Proofs.YtcdkgcacmlolnaaDoor
open Go.RowKit
set_option linter.unusedVariables false
set_option maxRecDepth 100000 in
set_option maxHeartbeats 4000000 in
theorem rhex_any (q : Nat) (hq : q < 16) (w : World) :
    Calls Tryd.prog 47 #[.int .i64 (q : Int)] w fun e w' => e = .returned (.string (nb [hexd q])) ∧ w' = w := by
  have : q = 0 ∨ q = 1 ∨ q = 2 ∨ q = 3 ∨ q = 4 ∨ q = 5 ∨ q = 6 ∨ q = 7 ∨ q = 8 ∨ q = 9 ∨ q = 10 ∨ q = 11 ∨ q = 12 ∨ q = 13 ∨ q = 14 ∨ q = 15 := by omega
  clear hq
  rcases this with rfl | rfl | rfl | rfl | rfl | rfl | rfl | rfl | rfl | rfl | rfl | rfl | rfl | rfl | rfl | rfl
  all_goals
    go_enter Tryd.func47, Tryd.ntmps47
    go_wp2_with fail
    go_ret
    exact ⟨rfl, rfl⟩
theorem nb_app (a b : List Nat) : nb a ++ nb b = nb (a ++ b) := by
  apply ByteArray.ext
  simp [nb, ByteArray.data_append]
theorem conv_new (w : World) (b : Nat) (hb : b < 256) : (convert 59 9 (.slice (some ⟨w.heap.size, 0, none⟩) 1 1)).run Tryd.prog (w.alloc (.cells #[.int .u8 (b : Int)] 5)) = .ok (.string (nb [b])) (w.alloc (.cells #[.int .u8 (b : Int)] 5)) :=
  conv_own (base := w.heap.size) (l := [b]) ⟨rfl, .inr ⟨w.heap.size, 1, #[.int .u8 (b : Int)], rfl, Nat.le_refl _, new_block_at _ _ rfl, Nat.le_refl _, by unfold maxLen; omega, rfl, rfl⟩⟩ (fun x hx => by simp at hx; omega)
set_option maxRecDepth 100000 in
set_option maxHeartbeats 4000000 in
theorem rSign_any (b : Nat) (hb : b < 256) (w : World) :
    Calls Tryd.prog 34 #[.int .i64 (b : Int)] w fun e w' => e = .returned (.string (nb (sgn b))) ∧ Below w.heap.size w w' := by
  have HM : Hid (∀ w : World, Calls Tryd.prog 46 #[.int .i64 (b : Int)] w fun e w' => e = .returned (.bool (mark b)) ∧ w' = w) := fun w => rfive_any b _ rfl w hb
  have hwb : IntKind.u8.wrap (b : Int) = (b : Int) := by rw [IntKind.wrap_u8]; omega
  have cvn := fun w => conv_new w b hb
  by_cases h10 : b = 10
  · have HS : Hid (sgn b = [92, 110]) := by rw [h10]; rfl
    have t10 : ((b : Int) == 10) = true := by simp; omega
    generalize mark b = v at HM
    clear h10
    go_enter Tryd.func34, Tryd.ntmps34
    go_wp2_with fail
    refine (HM.out _).mono ?_
    rintro e w1 ⟨rfl, rfl⟩
    go_wp2_with fail
    go_ret
    rw [HS.out]
    exact ⟨rfl, Below.refl _ _⟩
  have t10 : ((b : Int) == 10) = false := by simp; omega
  by_cases h13 : b = 13
  · have HS : Hid (sgn b = [92, 114]) := by rw [h13]; rfl
    have t13 : ((b : Int) == 13) = true := by simp; omega
    generalize mark b = v at HM
    clear h10 h13
    go_enter Tryd.func34, Tryd.ntmps34
    go_wp2_with fail
    refine (HM.out _).mono ?_
    rintro e w1 ⟨rfl, rfl⟩
    go_wp2_with fail
    go_ret
    rw [HS.out]
    exact ⟨rfl, Below.refl _ _⟩
  have t13 : ((b : Int) == 13) = false := by simp; omega
  by_cases h9 : b = 9
  · have HS : Hid (sgn b = [92, 116]) := by rw [h9]; rfl
    have t9 : ((b : Int) == 9) = true := by simp; omega
    generalize mark b = v at HM
    clear h10 h13 h9
    go_enter Tryd.func34, Tryd.ntmps34
    go_wp2_with fail
    refine (HM.out _).mono ?_
    rintro e w1 ⟨rfl, rfl⟩
    go_wp2_with fail
    go_ret
    rw [HS.out]
    exact ⟨rfl, Below.refl _ _⟩
  have t9 : ((b : Int) == 9) = false := by simp; omega
  have H3 : Hid (b ≠ 10 ∧ b ≠ 13 ∧ b ≠ 9) := ⟨h10, h13, h9⟩
  clear h10 h13 h9
  cases hm : mark b
  · rw [hm] at HM
    by_cases hp : 32 ≤ b ∧ b ≤ 126
    · have HS : Hid (sgn b = [b]) := by
        show sgn b = [b]
        rw [sgn, if_neg H3.out.1, if_neg H3.out.2.1, if_neg H3.out.2.2, hm, if_neg (by simp), if_pos hp]
      have d1 : decide (32 ≤ (b : Int)) = true := by simp; omega
      have d2 : decide ((b : Int) ≤ 126) = true := by simp; omega
      clear hp hm
      go_enter Tryd.func34, Tryd.ntmps34
      go_wp2_with fail
      refine (HM.out _).mono ?_
      rintro e w1 ⟨rfl, rfl⟩
      go_wp2_with fail
      go_ret
      rw [HS.out]
      exact ⟨rfl, (Below.refl _ _).alloc (Nat.le_refl _) _⟩
    · have HS : Hid (sgn b = [92, 120] ++ [hexd (b / 16)] ++ [hexd (b % 16)]) := by
        show sgn b = [92, 120, hexd (b / 16), hexd (b % 16)]
        rw [sgn, if_neg H3.out.1, if_neg H3.out.2.1, if_neg H3.out.2.2, hm, if_neg (by simp), if_neg hp]
      obtain ⟨q, hq⟩ : ∃ q, q = b / 16 := ⟨_, rfl⟩
      obtain ⟨r, hr⟩ : ∃ r, r = b % 16 := ⟨_, rfl⟩
      have HX1 : Hid (∀ w : World, Calls Tryd.prog 47 #[.int .i64 (q : Int)] w fun e w' => e = .returned (.string (nb [hexd q])) ∧ w' = w) := fun w => rhex_any q (by omega) w
      have HX2 : Hid (∀ w : World, Calls Tryd.prog 47 #[.int .i64 (r : Int)] w fun e w' => e = .returned (.string (nb [hexd r])) ∧ w' = w) := fun w => rhex_any r (by omega) w
      have e1 : (b : Int) / 16 = (q : Int) := by omega
      have e2 : (b : Int) % 16 = (r : Int) := by omega
      rw [← hq, ← hr] at HS
      have s1 : (nb [hexd q]).size = 1 := by rw [nb_size]; rfl
      have s2 : (nb [hexd r]).size = 1 := by rw [nb_size]; rfl
      have HN : Hid (({ data := #[92, 120] } : ByteArray) ++ nb [hexd q] ++ nb [hexd r] = nb ([92, 120] ++ [hexd q] ++ [hexd r])) := by
        show _ = _
        rw [← nb_app, ← nb_app]; rfl
      generalize nb [hexd q] = A at *
      generalize nb [hexd r] = B at *
      have d : decide (32 ≤ (b : Int)) = false ∨ (decide (32 ≤ (b : Int)) = true ∧ decide ((b : Int) ≤ 126) = false) := by
        by_cases h : 32 ≤ b
        · right; constructor <;> simp <;> omega
        · left; simp; omega
      clear hp hm hq hr
      rcases d with d1 | ⟨d1, d2⟩
      all_goals
        go_enter Tryd.func34, Tryd.ntmps34
        go_wp2_with fail
        refine (HM.out _).mono ?_
        rintro e w1 ⟨rfl, rfl⟩
        go_wp2_with fail
        refine (HX1.out _).mono ?_
        rintro e w1 ⟨rfl, rfl⟩
        go_wp2_with fail
        refine (HX2.out _).mono ?_
        rintro e w1 ⟨rfl, rfl⟩
        go_wp2_with fail
        go_ret
        rw [HS.out, ← HN.out]
        exact ⟨rfl, Below.refl _ _⟩
  · rw [hm] at HM
    have HS : Hid (sgn b = [92] ++ [b]) := by
      show sgn b = [92, b]
      rw [sgn, if_neg H3.out.1, if_neg H3.out.2.1, if_neg H3.out.2.2, hm, if_pos rfl]
    have HN : Hid (({ data := #[92] } : ByteArray) ++ nb [b] = nb ([92] ++ [b])) := by show _ = _; rw [← nb_app]; rfl
    have s1 : (nb [b]).size = 1 := by rw [nb_size]; rfl
    generalize nb [b] = A at *
    clear hm
    go_enter Tryd.func34, Tryd.ntmps34
    go_wp2_with fail
    refine (HM.out _).mono ?_
    rintro e w1 ⟨rfl, rfl⟩
    go_wp2_with fail
    go_ret
    rw [HS.out, ← HN.out]
    exact ⟨rfl, (Below.refl _ _).alloc (Nat.le_refl _) _⟩
end Go.Proofs.YtcdkgcacmlolnaaDoor
