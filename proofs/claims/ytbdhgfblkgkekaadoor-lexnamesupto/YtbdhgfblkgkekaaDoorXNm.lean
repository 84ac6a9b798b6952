/-
  For any two texts of at most 2^20 bytes: muntinlaw03.LexNames answers true. Conditions: those that each theorem names.
-/
import Derived.Test.YtbdhgfblkgkekaaDoorX18
import Derived.Test.YtbdhgfblkgkekaaDoorX21
namespace Go.Proofs.YtbdhgfblkgkekaaDoor
open Go.RowKit
set_option linter.unusedVariables false
set_option maxRecDepth 100000 in
set_option maxHeartbeats 4000000 in
theorem lnames_any (S P : ByteArray) (w : World) (hE : ErrIs w) (hS : S.size ≤ 1048576) (hP : P.size ≤ 1048576) :
    Calls Tryd.prog 4 #[.string S, .string P] w fun e w' => e = .returned (.bool true) ∧ Below w.heap.size w w' := by
  have HSm : Hid (Calls Tryd.prog 9 #[] w fun e w' => e = .returned (.bool true) ∧ Below w.heap.size w w') := small_ok w hE
  have HN1 : Hid (∀ w : World, Calls Tryd.prog 15 #[.string S] w fun e w' => e = .returned (.bool (nmS S)) ∧ w' = w) := fun w => xName_any S w (by omega)
  have HN2 : Hid (∀ w : World, Calls Tryd.prog 16 #[.string S] w fun e w' => e = .returned (.bool (nmS S)) ∧ w' = w) := fun w => qName_any S w (by omega)
  have HQ1 : Hid (∀ w : World, Calls Tryd.prog 17 #[.string P] w fun e w' => e = .returned (.string (nb (qt P))) ∧ Below w.heap.size w w') := fun w => xquote_any P w hP
  have HQ2 : Hid (∀ w : World, Calls Tryd.prog 18 #[.string P] w fun e w' => e = .returned (.string (nb (qt P))) ∧ Below w.heap.size w w') := fun w => qquote_any P w hP
  obtain ⟨Q, hQ⟩ : ∃ Q, Q = nb (qt P) := ⟨_, rfl⟩
  obtain ⟨B, hB⟩ : ∃ B, B = nmS S := ⟨_, rfl⟩
  rw [← hQ] at HQ1 HQ2
  rw [← hB] at HN1 HN2
  have hq : (Q.toList == Q.toList) = true := by simp
  clear hE hQ hB
  cases B
  all_goals
    go_enter Tryd.func4, Tryd.ntmps4
    go_wp2_with fail
    refine HSm.out.mono ?_
    rintro e w1 ⟨rfl, hb1⟩
    have HB1 : Hid (Below w.heap.size w w1) := hb1
    clear hb1
    go_wp2_with fail
    refine (HN1.out _).mono ?_
    rintro e w2 ⟨rfl, hw2⟩
    rw [hw2]
    clear hw2
    go_wp2_with fail
    refine (HN2.out _).mono ?_
    rintro e w2 ⟨rfl, hw2⟩
    rw [hw2]
    clear hw2
    go_wp2_with fail
    refine (HQ1.out _).mono ?_
    rintro e w3 ⟨rfl, hb3⟩
    have HB3 : Hid (Below w.heap.size w w3) := HB1.out.trans (hb3.mono HB1.out.size)
    clear hb3
    go_wp2_with fail
    refine (HQ2.out _).mono ?_
    rintro e w4 ⟨rfl, hb4⟩
    have HB4 : Hid (Below w.heap.size w w4) := HB3.out.trans (hb4.mono HB3.out.size)
    clear hb4
    go_wp2_with fail
    go_ret
    exact ⟨rfl, HB4.out⟩
end Go.Proofs.YtbdhgfblkgkekaaDoor
