/-
  muntinlaw06.ScopeAgain answers true at any grammar. Conditions: those that each theorem names.
  What the given list of variables gives a walk that comes to errors.As: the variable of package errors holds the handle of the type error. Condition: the list is met.
  What the given list of variables gives a walk: the table of package bits and the variable of package errors, in their places. Condition: the list is met.
  muntinlaw06.ScopeAgain answers true whatever its arguments, and they read as they did (the given card). Condition: the listed package-level variables are what the program's own text lays; the card ties them to that text.
-/
import Derived.Test.YtggmoneicdkamaaGreatDoorVPR2ToPR5
import Derived.Test.YtggmoneicdkamaaGreatDoorVS5ToO22
import Derived.Test.YtggmoneicdkamaaGreatDoorVS8
import Derived.Test.YtggmoneicdkamaaGreatDoorVEAs2ToX12
import Derived.Test.YtggmoneicdkamaaGreatDoorRows
import Derived.ProofKit
import Derived.OpenShut
import Derived.Carry
import Derived.Test.YtggmoneicdkamaaGreatDoorCards
import Derived.Test.YtggmoneicdkamaaGreatDoorTie
import Derived.LaidMore
import Derived.LaidHandle
import Derived.Stop.Joined
import Derived.SizedLaws
import Derived.Lib.LaidTab
import Derived.Test.YtggmoneicdkamaaGreatDoorVX17ToQ1
namespace Go.Proofs.YtggmoneicdkamaaGreatDoor
open Go.RowKit Go.Shelf
set_option linter.unusedVariables false
theorem allI_len (k : Nat) : (allI k).length = k := by unfold allI; simp
/-- What Prune and Reach answer of what stays. -/
theorem again_ps {rs : List Rr} {L : List Int} (hprg : PrG rs) (hck : ckR rs = none) (hL : LdIs (rs.map (usR (nmL rs))) 0 L) : ∃ ps, prn rs L = ps ∧ PrG ps ∧ ckR ps = none ∧ ps.length = L.length ∧ (∀ x ∈ ps, x ∈ rs) ∧ ps.length ≤ rs.length ∧ LdIs (ps.map (usR (nmL ps))) 0 (allI ps.length) := by
  obtain ⟨hsty, hin, hl1⟩ := sty_prn hprg.1 hck hL
  have hpl := prn_len hin
  have hp := prg_sub hprg hsty.sub (by rw [hpl]; exact hl1)
  exact ⟨_, rfl, hp, hsty.ck hck, hpl, fun x hx => hsty.sub.subset hx, hsty.sub.length_le, all_ld hp.1 (prn_reach hprg.1 hck hL)⟩
set_option maxRecDepth 100000 in
set_option maxHeartbeats 16000000 in
theorem again_any (so : Option Addr) (n cap : Nat) (rs : List Rr) (w : World) (hE : ErrIs w) (hT : TabIs w) (hz : RgZ rs) (hu : RgU rs) (h : RgIs w w.heap.size so n rs) :
    Calls Tryz.prog 6 #[.agg #[.slice so n cap]] w fun e w' => e = .returned (.bool true) ∧ Below w.heap.size w w' := by
  obtain ⟨X, hX, hP, hC⟩ := checked_all2 so n cap rs w.heap.size w hz hu h (Nat.le_refl _) hT
  obtain ⟨u1, hu1⟩ : ∃ u1, u1 = w.alloc (.cells #[.slice so n cap] 24) := ⟨_, rfl⟩
  have hB1 : Below w.heap.size w u1 := by rw [hu1]; exact (Below.refl _ w).alloc (Nat.le_refl _) _
  have hG1 : u1.heap[w.heap.size]? = some (.cells #[.slice so n cap] 24) := by rw [hu1]; exact new_block_at w _ rfl
  have HS := hid (osmall_ok u1 (hE.below hB1 hE.lt) (hT.below hB1 hT.lt))
  have HPr := hid (prune_any so n cap rs X w.heap.size w hX hP hC hz h (Nat.le_refl _) hT.lt)
  have HT := hid hT
  have HNl : Hid (n = rs.length) := h.1
  have HZ := hid hz
  have HXr := hid hX
  have HP := hid hP
  have HB1 := hid hB1
  have HG1 := hid hG1
  have HU1 := hid hu1
  clear hE hT hz hu h hC hX hP hB1 hG1 hu1
  go_enter Tryz.func6, Tryz.ntmps6
  go_wp2_with fail
  rw [← HU1.out]
  clear HU1
  refine HS.out.mono ?_
  rintro e w1 ⟨rfl, HBs⟩
  have HB2 := hid (HB1.out.trans (HBs.out.mono HB1.out.size))
  have HG2 := hid ((HBs.out.block _ (node_lt HG1.out)).trans HG1.out)
  obtain ⟨g2, _⟩ := one_cell HG2.out
  have lg2 := node_lt HG2.out
  have HS1 := hid (HPr.out w1 HB2.out)
  clear HS HBs HB1 HG1 HPr
  go_wp2_with fail
  refine HS1.out.mono ?_
  rintro e w2 ⟨hb2, ⟨hX, v, rfl, hv⟩ | ⟨rfl, so', cap', L, rfl, hL, hrg⟩⟩
  · obtain ⟨tt, uu, rfl⟩ := hv.shape hX
    have HBf := hid ((HB2.out.trans (hb2.mono HB2.out.size)).alloc (HB2.out.trans (hb2.mono HB2.out.size)).size (.cells #[.slice none 0 0] 24))
    clear hv hb2 hX
    go_wp2_with fail
    go_ret
    exact ⟨rfl, HBf.out⟩
  obtain ⟨hok, hck, _⟩ := HXr.out
  obtain ⟨ps, eps, hprp, hckp, hlen, hmem, hle, hld⟩ := again_ps (HP.out rfl) hck hL
  rw [eps] at hrg
  obtain ⟨k, hk⟩ : ∃ k, k = L.length := ⟨_, rfl⟩
  rw [← hk] at hlen hrg ⊢
  have hk64 : k ≤ 64 := by have := (okG_len hprp.1).2; omega
  have hn64 : n ≤ 64 := by rw [HNl.out]; exact (okG_len hok).2
  have hkn : k ≤ n := by rw [HNl.out]; omega
  clear hk hL eps hok hck HXr HP
  have hb23 : Below w2.heap.size w2 (w2.alloc (.cells #[.slice so' k cap'] 24)) := (Below.refl _ _).alloc (Nat.le_refl _) _
  have hB3 := (HB2.out.trans (hb2.mono HB2.out.size)).trans (hb23.mono (HB2.out.trans (hb2.mono HB2.out.size)).size)
  have hrg3 := (hrg.below hb23).upto hb23.size
  have hzp : RgZ ps := fun x hx => HZ.out x (hmem x hx)
  have hT3 := HT.out.below hB3 HT.out.lt
  obtain ⟨hX3, hC3⟩ := checked_pr so' k cap' ps _ _ hzp hrg3 (Nat.le_refl _) hT3 hprp hckp
  have HS3 := hid (prune_any so' k cap' ps none _ _ hX3 (fun _ => hprp) hC3 hzp hrg3 (Nat.le_refl _) hT3.lt _ (Below.refl _ _))
  have HRe := hid (fun (W : World) (hb : Below (w2.alloc (.cells #[.slice so' k cap'] 24)).heap.size (w2.alloc (.cells #[.slice so' k cap'] 24)) W) => reach_of so' k cap' ps none _ 0 W hX3 (hC3.from hb) (hrg3.below hb) hb.size hzp (Nat.lt_of_lt_of_le hT3.lt hb.size))
  have HCk := hid (fun (W : World) (hb : Below (w2.alloc (.cells #[.slice so' k cap'] 24)).heap.size (w2.alloc (.cells #[.slice so' k cap'] 24)) W) => check_of so' k cap' ps none W (hC3.from hb))
  have HP3 := hid (new_block_at w2 (.cells #[.slice so' k cap'] 24) rfl)
  have HG3 := hid ((hb23.block _ (Nat.lt_of_lt_of_le lg2 hb2.size)).trans ((hb2.block _ lg2).trans HG2.out))
  have HR3 := hid hrg3
  have HB3 := hid hB3
  have HLd := hid hld
  have HLn : Hid (ps.length = k) := hlen
  have HOk := hid hprp.1
  clear hb23 hB3 hrg3 hX3 hC3 hzp hT3 hb2 hrg hld hlen hprp hckp hmem hle HG2 g2 lg2 HB2 HS1
  go_wp2_with fail
  refine HS3.out.mono ?_
  rintro e w4 ⟨hb4, ⟨h0, _⟩ | ⟨_, so4, cap4, L4, rfl, hL4, hrg4⟩⟩
  · exact absurd rfl h0
  obtain rfl : L4 = allI ps.length := ld_unique hL4 HLd.out
  rw [prn_all, allI_len, HLn.out] at hrg4
  rw [allI_len, HLn.out]
  have hb45 : Below w4.heap.size w4 (w4.alloc (.cells #[.slice so4 k cap4] 24)) := (Below.refl _ _).alloc (Nat.le_refl _) _
  have hb35 := hb4.trans (hb45.mono hb4.size)
  have HS5 := hid (HRe.out _ hb35)
  have HP5 := hid ((hb35.block _ (node_lt HP3.out)).trans HP3.out)
  have HG5 := hid ((hb35.block _ (node_lt HG3.out)).trans HG3.out)
  have HR5 := hid (HR3.out.below hb35)
  have HQ5 := hid (hrg4.below hb45)
  have HQb := hid (new_block_at w4 (.cells #[.slice so4 k cap4] 24) rfl)
  have HB35 := hid hb35
  have hs45 := hb45.size
  have hs35 := hb35.size
  obtain ⟨p5, _⟩ := one_cell HP5.out
  have lp5 := node_lt HP5.out
  rw [World.size_alloc] at lp5
  clear hb4 hL4 hrg4 hb45 hb35 HS3 HRe HP3 HG3 HR3
  go_wp2_with fail
  refine HS5.out.mono ?_
  rintro e w6 ⟨hb6, ⟨h0, _⟩ | ⟨_, h0, _⟩ | ⟨_, k6, v6, L6, ek6, hk6, rfl, hL6, hl6, hr6⟩⟩
  · exact absurd rfl h0
  · have := (okG_len HOk.out).1
    omega
  obtain rfl : k6 = 0 := by omega
  obtain rfl : L6 = allI ps.length := ld_unique hL6 HLd.out
  obtain ⟨sv, scv, rfl⟩ := own_any hr6
  rw [allI_len, HLn.out]
  have HP6 := hid ((hb6.block _ (node_lt HP5.out)).trans HP5.out)
  have HG6 := hid ((hb6.block _ (node_lt HG5.out)).trans HG5.out)
  have HQc := hid ((hb6.block _ (node_lt HQb.out)).trans HQb.out)
  have HS7 := hid (zsg_all true (cap := cap') (cap' := cap4) (HR5.out.below (hb6.mono (by simp only [World.size_alloc] at hs35 ⊢; omega))) (HQ5.out.below (hb6.mono hs45)) (by have := hb6.size; simp only [World.size_alloc] at this hs35 ⊢; omega) (by have := hb6.size; omega) (SmG.refl true ps))
  have HB36 := hid (HB35.out.trans (hb6.mono HB35.out.size))
  obtain ⟨p6, _⟩ := one_cell HP6.out
  obtain ⟨q6, _⟩ := one_cell HQc.out
  have lp6 := node_lt HP6.out
  have lq6 := node_lt HQc.out
  clear hb6 hL6 hl6 hr6 ek6 hk6 HS5 HR5 HQ5 HP5 HG5 HQb HB35 p5 lp5
  go_wp2_with fail
  refine HS7.out.mono ?_
  rintro e w7 ⟨rfl, hb7⟩
  obtain ⟨p7, _⟩ := one_cell ((hb7.block _ (node_lt HP6.out)).trans HP6.out)
  obtain ⟨g7, _⟩ := one_cell ((hb7.block _ (node_lt HG6.out)).trans HG6.out)
  have lp7 := node_lt ((hb7.block _ (node_lt HP6.out)).trans HP6.out)
  have lg7 := node_lt ((hb7.block _ (node_lt HG6.out)).trans HG6.out)
  have HB37 := hid (HB36.out.trans (hb7.mono HB36.out.size))
  have HS8 := hid ((HCk.out w7 HB37.out).mono (R' := fun e w' => e = .returned .nilIface ∧ Below w7.heap.size w7 w') fun e w' he => by
    obtain ⟨v, h1, h2, h3⟩ := he
    have h2 : v = .nilIface := h2
    rw [h1, h2]
    exact ⟨rfl, h3⟩)
  have HB7 := hid (HB3.out.trans (HB37.out.mono HB3.out.size))
  have hkI : decide ((k : Int) ≤ (n : Int)) = true := by simp; omega
  have hkN : decide (k ≤ n) = true := by simp; omega
  clear hb7 HP6 HG6 HQc HB36 HB37 HS7 p6 q6 lp6 lq6 HCk HB3
  go_wp2_with (first
    | (go_at_call 11; refine HS8.out.mono ?_; rintro e w8 ⟨rfl, hb8⟩))
  go_ret
  exact ⟨rfl, HB7.out.trans (hb8.mono HB7.out.size)⟩
end Go.Proofs.YtggmoneicdkamaaGreatDoor
namespace Go.Proofs.YtggmoneicdkamaaGreatDoor
open Go.ChangeShapes Go.WideShapes Go.RowKit
set_option linter.unusedVariables false
theorem Tryz.own : ownKnob Tryz.prog.godebug = none := by kernel_rfl
theorem Tryz.et : Tryz.prog.globalNamed "errors.errorType" = some 0 := by kernel_rfl
theorem Tryz.rt : (Tryz.prog.cutTypes.find? (·.1 == "internal/reflectlite.rtype")).map (·.2) = some 150 := by kernel_rfl
theorem Tryz.oneRow : ((List.range 270).filter fun t => Tryz.prog.rowNamed t [101, 114, 114, 111, 114]) = [28] := by kernel_rfl
theorem Tryz.nTypes : Tryz.prog.types.size = 270 := by kernel_rfl
theorem err_laid {W : World} {l : List (String × DataW Unit)} (h : handlesMet Tryz.prog l W) (hm : ("errors.errorType", Rows.laid_errors_errorType) ∈ l) : ErrIs W := by
  obtain ⟨name, u, ty, e1, e2, e3, e4, e5⟩ := h _ hm
  have en : name = [101, 114, 114, 111, 114] := (Option.some.inj e1).symm
  subst en
  obtain rfl := Option.some.inj (Tryz.rt.symm.trans e2)
  have hm : ty ∈ (List.range 270).filter fun t => Tryz.prog.rowNamed t [101, 114, 114, 111, 114] := List.mem_filter.2 ⟨List.mem_range.2 (by rw [← Tryz.nTypes]; exact e3), e4⟩
  rw [Tryz.oneRow] at hm
  obtain rfl := List.mem_singleton.1 hm
  have hh : typeHandle Tryz.prog 28 = .pointer (some ⟨3, 28, none⟩) := by kernel_rfl
  rw [hh] at e5
  have := World.var?_cell Tryz.et e5 0
  unfold ErrIs
  simpa using this
end Go.Proofs.YtggmoneicdkamaaGreatDoor
namespace Go.Proofs.YtggmoneicdkamaaGreatDoor
open Go.ChangeShapes Go.WideShapes Go.RowKit
set_option linter.unusedVariables false
theorem Tryz.laidOutW : laidOutB Tryz.prog = true := by kernel_rfl
theorem Tryz.gT : Tryz.prog.globalNamed "math/bits.deBruijn64tab" = some 2 := by kernel_rfl
theorem Tryz.gTType : (Tryz.prog.globals[2]?).map (·.type) = some 240 := by kernel_rfl
theorem Tryz.cellsTab : Tryz.prog.cellsOf 240 = 64 := by kernel_rfl
theorem Tryz.cellsU8 : Tryz.prog.cellsOf 5 = 1 := by kernel_rfl
theorem tab_laid {W : World} {rest : List (String × DataW Unit)} (h : laidMet Tryz.prog (("math/bits.deBruijn64tab", Rows.laid_math_bits_deBruijn64tab) :: rest) W) : TabIs W := by
  have hT : Lib.TabIs Tryz.prog W "math/bits.deBruijn64tab" .u8 (Lib.deBruijn64tab.map fun n : Nat => (n : Int)) := Lib.tabIs_of_head (rest := rest) Tryz.gT Tryz.gTType Tryz.underlying240 Tryz.underlying5 Tryz.cellsU8 Tryz.cellsTab h
  intro i hi
  have := hT.cell Tryz.gT i (by simp [Lib.deBruijn64tab]; omega)
  rw [this]
  congr 2
  simp only [List.getD, List.getElem?_map]
  cases Lib.deBruijn64tab[i]? <;> rfl
theorem two_laid {W : World} (h : laidMetH Tryz.prog [("math/bits.deBruijn64tab", Rows.laid_math_bits_deBruijn64tab), ("errors.errorType", Rows.laid_errors_errorType)] W) : ErrIs W ∧ TabIs W := by
  have h' : laidMet Tryz.prog [("math/bits.deBruijn64tab", Rows.laid_math_bits_deBruijn64tab)] W ∧ handlesMet Tryz.prog [("errors.errorType", Rows.laid_errors_errorType)] W := h
  exact ⟨err_laid h'.2 (List.mem_singleton.2 rfl), tab_laid (rest := []) h'.1⟩
end Go.Proofs.YtggmoneicdkamaaGreatDoor
namespace Go.Proofs.YtggmoneicdkamaaGreatDoor
open Go.ChangeShapes Go.WideShapes Go.ChangeAt Go.RowKit
set_option linter.unusedVariables false
theorem again_met (os : Os) (args : Array Value) : laidMetH Tryz.prog Rows.scopeAgainRow.laid ((World.doorLaid Tryz.prog 400 os).forCall (fun _ _ => 0) ⟨#[], args, []⟩).memory :=
  laidMetH_of_parts3 (fuel := 8) (laidMet_of_run' 8 (by kernel_rfl) (by kernel_rfl)) (by kernel_rfl) (by kernel_rfl)
set_option maxRecDepth 100000 in
theorem again_lifted (os : Os) (started : os.Started) (H : Type) (enc : TypeId × Value → H) :
    ReturnsInHanded {} Tryz.checked os 6 .any (fun w args => (Rows.scopeAgainSpec.pre enc Tryz.prog Tryz.f6 [] false w args ∧ laidMetH Tryz.prog Rows.scopeAgainRow.laid w) ∧ sizedMet enc Tryz.prog Tryz.f6 (OpenSpec.ofChange Rows.scopeAgainSpec) false w args)
      (Rows.scopeAgainSpec.post enc Tryz.prog Tryz.f6 false true false false) := by
  refine returnsInHanded_of_change_and (C := Tryz.checked) (X := fun w _ => laidMetH Tryz.prog Rows.scopeAgainRow.laid w) (fun _ _ _ hh h => h.of_heap hh) Tryz.own started (by kernel_rfl) Tryz.func6
    (ChangeSpec.witness_shaped (enc := enc) (C := Tryz.checked) (os := os) (X := fun w _ => laidMetH Tryz.prog Rows.scopeAgainRow.laid w) false (World.doorLaid Tryz.prog 400 os) #[.agg #[.slice none 0 0]] 8 rfl (World.shaped_of_RefB (by kernel_rfl) (by kernel_rfl)) (by kernel_rfl) (by kernel_rfl) (by kernel_rfl) (again_met os _)) ?_
  intro W base args ds gs before hval0 hW _ hsz0 hL _
  have hval : ∀ (j : Nat) t v, Tryz.f6.params[j]? = some t → args[j]? = some v → Value.okWide Tryz.prog W .any base t v := hval0
  have hW' := hW
  obtain ⟨p, q, hA0, hV, rfl, hfz, hnd⟩ := hW
  have hA : DataW.TrodAll enc Tryz.prog W 0 (fun _ => true) true Tryz.f6.params.toList args.toList ds p := hA0
  rw [Tryz.params6] at hA hval
  obtain ⟨v0, vs0, d0, ds0, p0, q0, hargs, rfl, rfl, h0, r0⟩ := trodAll_cons hA
  obtain ⟨rfl, rfl, rfl⟩ := trodAll_nil r0
  obtain rfl : args = #[v0] := by cases args; simp_all
  obtain ⟨rfl, rfl⟩ := trodVars_none hV
  have k0 := h0
  have lt0 : ∀ x ∈ p0, x.block < W.heap.size := by obtain ⟨m, hm⟩ := k0; exact DataW.trod_lt m _ _ _ hm
  obtain ⟨so0, n0, cap0, rs0, rfl, hg0, hz0, hu0⟩ := gram_arg (hval 0 24 v0 rfl rfl) h0
  clear hA0 hval0
  have hwalk : Calls Tryz.prog 6 #[.agg #[.slice so0 n0 cap0]] W fun e w' => e = .returned (.bool true) ∧ Below W.heap.size W w' := by
    exact again_any so0 n0 cap0 rs0 W (two_laid hL).1 (two_laid hL).2 hz0 hu0 hg0
  refine hwalk.mono fun e W' ⟨he, bel⟩ => ?_
  subst he
  exact ⟨_, rfl, _, _, _, [], _, [], hW', trodAll_mk1 (shut_bool Tryz.underlying4 _), (trodAll_cons_mk (Below.trod Tryz.laidOutW (by kernel_rfl) (of_decide_eq_true (by kernel_rfl)) k0 bel lt0) trodAll_mk0), rfl, bel.frame _, fun h => by cases h⟩
theorem again_said : Rows.ScopeAgainSaid :=
  OpenClaim.holds_of_wide 6 Tryz.f6 rfl rfl rfl rfl rfl rfl rfl ⟨rfl, rfl, rfl, rfl, rfl⟩ rfl rfl rfl rfl rfl (by kernel_rfl) Tryz.func6 (by kernel_rfl)
    (of_decide_eq_true (by kernel_rfl)) (by unfold Func.isWrapper; first | (rw [if_pos (by decide +kernel)]; kernel_rfl) | (rw [if_neg (by decide +kernel)]; exact ⟨rfl, rfl⟩))
    (fun os started H enc _ => again_lifted os started H enc)
/-- The statement. -/
theorem again_proved : Rows.ScopeAgainCardSaid :=
  Claim7.holds_tied_plain_at .later [] _ _ _ _ again_said (fun _ h => by cases h) (by kernel_rfl) (fun _ h => by cases h) scopeAgain_row_tie rfl ⟨rfl, rfl⟩ (by kernel_rfl) rfl
    (fun f fn hf hfn => by
      obtain rfl : f = 6 := Option.some.inj ((show Tryz.prog.funcNamed "muntin/muntinlaw06.ScopeAgain" = some 6 by kernel_rfl).symm.trans hf) |>.symm
      obtain rfl : fn = Tryz.f6 := (Option.some.inj (Tryz.func6.symm.trans hfn)).symm
      exact ⟨by kernel_rfl, fun j t ht => by
        rw [Tryz.params6] at ht
        have hm : t ∈ [24] := by simpa using Array.mem_of_getElem? ht
        have hall : ([24].all fun u => !Tryz.prog.wantsStandIn u) = true := by kernel_rfl
        exact (show Tryz.prog.wantsStandIn t = false by simpa using List.all_eq_true.1 hall t hm)⟩)
    (by kernel_rfl)
#print axioms again_proved
end Go.Proofs.YtggmoneicdkamaaGreatDoor
