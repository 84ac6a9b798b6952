/-
  For every two ints wireRises holds: muntinlaw01.WireRises answers true, and its arguments read as they did. No condition.
-/
import Derived.Test.YtipkjiacikdmmabRows
import Derived.Test.YtipkjiacikdmmabNum
import Derived.ProofKit
import Derived.OpenShut
namespace Go.Proofs.Ytipkjiacikdmmab
open Go.ChangeShapes Go.WideShapes Go.ChangeAt Go.RowKit
set_option linter.unusedVariables false

theorem own : ownKnob Try.prog.godebug = none := by kernel_rfl

theorem beq_numB (n m : Nat) (hn : n ≤ 9223372036854775807) (hm : m ≤ 9223372036854775807) : (numB n == numB m) = decide (n = m) := by
  rw [Bool.eq_iff_iff, beq_iff_eq, decide_eq_true_iff, numB_inj n m (by omega) (by omega)]

theorem ret_bool {a b : Bool} (h : a = b) : Ending.returned (.bool a) = .returned (.bool b) := by rw [h]
theorem beq_cast (n m : Nat) : (((n : Int) == (m : Int)) == decide (n = m)) = true := by
  by_cases h : n = m
  · subst h; simp
  · have : ((n : Int) == (m : Int)) = false := by rw [beq_eq_false_iff_ne]; omega
    rw [this]; simp [h]

set_option maxRecDepth 100000 in
set_option maxHeartbeats 400000 in
theorem walk_pp (n m : Nat) (hn : n ≤ 9223372036854775807) (hm : m ≤ 9223372036854775807) (w : World) :
    Calls Try.prog 3 #[.int .i64 (n : Int), .int .i64 (m : Int)] w fun e w' => e = .returned (.bool true) ∧ Below w.heap.size w w' := by
  have hn' : ¬ (n : Int) < 0 := by omega
  have hm' : ¬ (m : Int) < 0 := by omega
  go_enter Try.func3, Try.ntmps3
  go_wp2_with fail
  refine (num_pos n _ hn).mono ?_
  rintro e w1 ⟨rfl, hown1, hb1⟩
  go_wp2_with fail
  refine (num_pos m _ hm).mono ?_
  rintro e w2 ⟨rfl, hown2, hb2⟩
  have c1 := ((Has.of_row hown1).below hb2).conv
  have c2 := (Has.of_row hown2).conv
  have hb := hb1.trans (hb2.mono hb1.size)
  clear hown1 hown2 hb1 hb2
  have l1 : Op.bytesLess (bs (numB n)).toList (bs (numB m)).toList = decide (n < m) := by rw [bs_toList, bs_toList]; exact numB_less n m (by omega) (by omega)
  have l2 : ((bs (numB n)).toList == (bs (numB m)).toList) = decide (n = m) := by rw [bs_toList, bs_toList]; exact beq_numB n m hn hm
  go_wp2
  go_ret
  exact ⟨ret_bool (beq_cast n m), hb⟩

set_option maxRecDepth 100000 in
set_option maxHeartbeats 400000 in
theorem walk_np (n : Int) (m : Nat) (hn : n < 0) (hm : m ≤ 9223372036854775807) (w : World) :
    Calls Try.prog 3 #[.int .i64 n, .int .i64 (m : Int)] w fun e w' => e = .returned (.bool true) ∧ Below w.heap.size w w' := by
  have hm' : ¬ (m : Int) < 0 := by omega
  go_enter Try.func3, Try.ntmps3
  go_wp2_with fail
  refine (num_neg n _ hn).mono ?_
  rintro e w1 ⟨rfl, rfl⟩
  go_wp2_with fail
  refine (num_pos m _ hm).mono ?_
  rintro e w2 ⟨rfl, hown2, hb2⟩
  clear hown2
  go_wp2
  go_ret
  exact ⟨ret_bool (by simp), hb2⟩

set_option maxRecDepth 100000 in
set_option maxHeartbeats 400000 in
theorem walk_pn (n : Nat) (m : Int) (hn : n ≤ 9223372036854775807) (hm : m < 0) (w : World) :
    Calls Try.prog 3 #[.int .i64 (n : Int), .int .i64 m] w fun e w' => e = .returned (.bool true) ∧ Below w.heap.size w w' := by
  have hn' : ¬ (n : Int) < 0 := by omega
  go_enter Try.func3, Try.ntmps3
  go_wp2_with fail
  refine (num_pos n _ hn).mono ?_
  rintro e w1 ⟨rfl, hown1, hb1⟩
  clear hown1
  go_wp2_with fail
  refine (num_neg m _ hm).mono ?_
  rintro e w2 ⟨rfl, rfl⟩
  go_wp2
  go_ret
  exact ⟨ret_bool (by simp), hb1⟩

set_option maxRecDepth 100000 in
set_option maxHeartbeats 400000 in
theorem walk_nn (n m : Int) (hn : n < 0) (hm : m < 0) (w : World) :
    Calls Try.prog 3 #[.int .i64 n, .int .i64 m] w fun e w' => e = .returned (.bool true) ∧ Below w.heap.size w w' := by
  go_enter Try.func3, Try.ntmps3
  go_wp2_with fail
  refine (num_neg n _ hn).mono ?_
  rintro e w1 ⟨rfl, rfl⟩
  go_wp2_with fail
  refine (num_neg m _ hm).mono ?_
  rintro e w2 ⟨rfl, rfl⟩
  go_wp2
  go_ret
  exact ⟨ret_bool (by simp), Below.refl _ _⟩

theorem rises_walk (a0 : Int) (a1 : Int) (w0 : (Lit.int .i64 a0).wf = true) (w1 : (Lit.int .i64 a1).wf = true) (w : World) :
    Calls Try.prog 3 #[.int .i64 a0, .int .i64 a1] w fun e w' => e = .returned (.bool true) ∧ Below w.heap.size w w' := by
  have b0 := bounds_i64 w0
  have b1 := bounds_i64 w1
  by_cases h0 : a0 < 0
  · by_cases h1 : a1 < 0
    · exact walk_nn a0 a1 h0 h1 w
    · obtain ⟨m, rfl⟩ := Int.eq_ofNat_of_zero_le (show 0 ≤ a1 by omega)
      exact walk_np a0 m h0 (by omega) w
  · obtain ⟨n, rfl⟩ := Int.eq_ofNat_of_zero_le (show 0 ≤ a0 by omega)
    by_cases h1 : a1 < 0
    · exact walk_pn n a1 (by omega) h1 w
    · obtain ⟨m, rfl⟩ := Int.eq_ofNat_of_zero_le (show 0 ≤ a1 by omega)
      exact walk_pp n m (by omega) (by omega) w

set_option maxRecDepth 100000 in
theorem rises_lifted (os : Os) (started : os.Started) (H : Type) (enc : TypeId × Value → H) :
    ReturnsInHanded {} Try.checked os 3 .any (Rows.wireRisesSpec.pre6 enc Try.prog Try.f3 Rows.wireRisesRow.domain false) (Rows.wireRisesSpec.post enc Try.prog Try.f3 false true false false) := by
  refine returnsInHanded_of_change (C := Try.checked) own started (by kernel_rfl) Try.func3
    (ChangeSpec.witness6 (enc := enc) (C := Try.checked) false ⟨#[], #[.int .i64 0, .int .i64 0], []⟩ 8 (by kernel_rfl) (by kernel_rfl) (by kernel_rfl) (by kernel_rfl)) ?_
  intro W base args ds gs before hval0 hW hcnd _
  have hval : ∀ (j : Nat) t v, Try.f3.params[j]? = some t → args[j]? = some v → Value.okWide Try.prog W .any base t v := hval0
  have hW' := hW
  obtain ⟨p, q, hA0, hV, rfl, hfz, hnd⟩ := hW
  have hA : DataW.TrodAll enc Try.prog W 0 (fun _ => true) true Try.f3.params.toList args.toList ds p := hA0
  rw [Try.params3] at hA hval
  obtain ⟨v0, vs0, d0, ds0, p0, q0, hargs, rfl, rfl, h0, r0⟩ := trodAll_cons hA
  obtain ⟨v1, vs1, d1, ds1, p1, q1, rfl, rfl, rfl, h1, r1⟩ := trodAll_cons r0
  obtain ⟨rfl, rfl, rfl⟩ := trodAll_nil r1
  obtain rfl : args = #[v0, v1] := by cases args; simp_all
  obtain ⟨rfl, rfl⟩ := trodVars_none hV
  obtain ⟨a0, rfl, rfl, rfl, w0⟩ := open_int Try.underlying3 (hval 0 3 v0 rfl rfl) h0
  obtain ⟨a1, rfl, rfl, rfl, w1⟩ := open_int Try.underlying3 (hval 1 3 v1 rfl rfl) h1
  clear hA0 hval0
  refine (rises_walk a0 a1 w0 w1 W).mono fun e W' ⟨he, bel⟩ => ?_
  subst he
  exact ⟨_, rfl, _, _, _, [], _, [], hW', trodAll_mk1 (shut_bool Try.underlying4 _), (trodAll_cons_mk (shut_int Try.underlying3 w0) (trodAll_cons_mk (shut_int Try.underlying3 w1) trodAll_mk0)), rfl, bel.frame _, fun h => by cases h⟩

/-- The statement. -/
theorem rises_proved : Rows.WireRisesSaid :=
  OpenClaim.holds_of_wide 3 Try.f3 rfl rfl rfl rfl rfl rfl rfl ⟨rfl, rfl, rfl, rfl, rfl⟩ rfl rfl rfl rfl rfl (by kernel_rfl) Try.func3 (by kernel_rfl)
    (of_decide_eq_true (by kernel_rfl)) (by unfold Func.isWrapper; first | (rw [if_pos (by decide +kernel)]; kernel_rfl) | (rw [if_neg (by decide +kernel)]; exact ⟨rfl, rfl⟩))
    (fun os started H enc _ => rises_lifted os started H enc)
#print axioms rises_proved
end Go.Proofs.Ytipkjiacikdmmab
