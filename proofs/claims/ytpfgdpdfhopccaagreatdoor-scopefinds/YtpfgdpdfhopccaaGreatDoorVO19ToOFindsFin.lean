/-
  muntinlaw06.ScopeFinds answers true at any grammar and name. Conditions: those that each theorem names.
  What the given list of variables gives a walk that comes to errors.As: the variable of package errors holds the handle of the type error. Condition: the list is met.
  What the given list of variables gives a walk: the table of package bits and the variable of package errors, in their places. Condition: the list is met.
  muntinlaw06.ScopeFinds answers true whatever its arguments, and they read as they did (the given card). Condition: the listed package-level variables are what the program's own text lays; the card ties them to that text.
-/
import Derived.Test.YtpfgdpdfhopccaaGreatDoorVO15ToO18
import Derived.Deep.RegionHeld3
import Derived.Test.YtpfgdpdfhopccaaGreatDoorVEAs2ToX12
import Derived.Test.YtpfgdpdfhopccaaGreatDoorRows
import Derived.ProofKit
import Derived.OpenShut
import Derived.Carry
import Derived.Test.YtpfgdpdfhopccaaGreatDoorCards
import Derived.Test.YtpfgdpdfhopccaaGreatDoorTie
import Derived.LaidMore
import Derived.LaidHandle
import Derived.Stop.Joined
import Derived.SizedLaws
import Derived.Lib.LaidTab
import Derived.Test.YtpfgdpdfhopccaaGreatDoorVX17ToQ1
import Derived.ChangeMaps5
namespace Go.Proofs.YtpfgdpdfhopccaaGreatDoor
open Go.RowKit Go.Shelf
set_option linter.unusedVariables false
set_option maxRecDepth 100000 in
set_option maxHeartbeats 8000000 in
theorem find_any (s : ByteArray) (so : Option Addr) (n cap : Nat) (rs : List Rr) (B : Nat) (W : World) (h : RgIs W B so n rs) (hB : B ≤ W.heap.size) :
    Calls Tryz.prog 18 #[.agg #[.slice so n cap], .string s] W fun e w' => e = .returned (.int .i64 (fdI s (nmL rs))) ∧ Below W.heap.size W w' := by
  have HI := hid (fun (nB : Nat) (W' : World) (hb : Below W.heap.size W W') (hx : Boxed W' nB 9 (.string s)) => oindex_any s so n cap rs B nB W' (h.below (hb.mono hB)) (Nat.le_trans hB hb.size) hx hx.lt)
  have HB2 : Hid (∀ o o' : Obj, Below W.heap.size W ((W.alloc o).alloc o')) := fun o o' => ((Below.refl _ W).alloc (Nat.le_refl _) _).alloc (by simp) _
  have HX1 : Hid (∀ o : Obj, Boxed ((W.alloc o).alloc (.cells #[.string s] 9)) (W.heap.size + 1) 9 (.string s)) := fun o => by
    have := Boxed.new (W.alloc o) 9 (.string s)
    simpa only [World.size_alloc] using this
  clear h hB
  go_enter Tryz.func18, Tryz.ntmps18
  go_wp2_with fail
  refine (HI.out _ _ (HB2.out _ _) (HX1.out _)).mono ?_
  rintro e w1 ⟨rfl, hb1⟩
  have H1 := hid ((HB2.out _ _).trans (hb1.mono (HB2.out _ _).size))
  clear hb1 HI HX1 HB2
  go_wp2_with fail
  go_ret
  exact ⟨rfl, H1.out⟩
/-- No name stands twice. -/
theorem dupG_none : ∀ {rs : List Rr} {l : List ByteArray}, dupG l rs = none → ∀ j (hj : j < rs.length), inN rs[j].1 (l ++ nmL (rs.take j)) = false
  | [], _, _, j, hj => by simp at hj
  | x :: r, l, h, 0, _ => by
    rw [dupG] at h
    cases hi : inN x.1 l with
    | true => rw [hi] at h; cases h
    | false => simpa [nmL] using hi
  | x :: r, l, h, j + 1, hj => by
    rw [dupG] at h
    cases hi : inN x.1 l with
    | true => rw [hi] at h; cases h
    | false =>
      rw [hi] at h
      have := dupG_none (l := l ++ [x.1]) (by simpa using h) j (by simpa using hj)
      simpa [nmL, List.append_assoc] using this
theorem dup_none {rs : List Rr} (h : ckR rs = none) (j : Nat) (hj : j < rs.length) : inN rs[j].1 (nmL (rs.take j)) = false := by
  have hd : dupL rs = none := by
    unfold ckR at h
    cases hd : dupL rs with
    | none => rfl
    | some p => rw [hd] at h; cases h
  have := dupG_none hd j hj
  rwa [List.nil_append] at this
theorem inN_app (s : ByteArray) : ∀ a b, inN s (a ++ b) = (inN s a || inN s b)
  | [], b => by rw [List.nil_append, inN]; rfl
  | x :: r, b => by rw [List.cons_append, inN, inN, inN_app s r b]; by_cases h : x = s <;> simp [h]
theorem ixN_app (s : ByteArray) : ∀ a b, ixN s (a ++ b) = if inN s a then ixN s a else a.length + ixN s b
  | [], b => by rw [List.nil_append, inN]; simp
  | x :: r, b => by
    rw [List.cons_append, ixN, ixN, inN, ixN_app s r b]
    by_cases h : x = s
    · simp [h]
    · simp only [h, if_false]
      by_cases h2 : inN s r = true
      · simp [h2]
      · simp [h2]; omega
/-- Each rule is found at its place. -/
theorem fd_at {rs : List Rr} (h : ckR rs = none) (j : Nat) (hj : j < rs.length) : fdI rs[j].1 (nmL rs) = (j : Int) := by
  have h0 := dup_none h j hj
  have e : nmL rs = nmL (rs.take j) ++ (rs[j].1 :: nmL (rs.drop (j + 1))) := by
    have e1 : rs = rs.take j ++ (rs[j] :: rs.drop (j + 1)) := by rw [← List.drop_eq_getElem_cons hj, List.take_append_drop]
    have e2 := congrArg nmL e1
    rw [e2]
    unfold nmL
    rw [List.map_append]
    rfl
  have hl : (nmL (rs.take j)).length = j := by unfold nmL; rw [List.length_map, List.length_take]; omega
  unfold fdI
  rw [e, inN_app, ixN_app, h0, inN, ixN, if_pos rfl, if_pos rfl, hl]
  simp
theorem fd_next {rs : List Rr} (h : ckR rs = none) (s : ByteArray) (j : Nat) (hj : j < rs.length) : fdI s (nmL (rs.take (j + 1))) = if rs[j].1 = s then (j : Int) else fdI s (nmL (rs.take j)) := by
  have hl : (nmL (rs.take j)).length = j := by unfold nmL; rw [List.length_map, List.length_take]; omega
  unfold fdI
  rw [nmL_next rs j hj, inN_snoc, ixN_snoc, hl]
  by_cases e : rs[j].1 = s
  · have h0 := dup_none h j hj
    rw [e] at h0
    simp [e, h0]
  · simp only [e, if_false, decide_false, Bool.or_false]
    by_cases h2 : inN s (nmL (rs.take j)) = true
    · simp [h2]
    · simp [h2]
theorem keep_two {w W W' : World} {a b : Addr} {x y : Value} (h : Hid (Below w.heap.size w W) ∧ W.cell? a = some x ∧ W.cell? b = some y) (hb : Below W.heap.size W W') : Hid (Below w.heap.size w W') ∧ W'.cell? a = some x ∧ W'.cell? b = some y :=
  ⟨hid (h.1.out.trans (hb.mono h.1.out.size)), (hb.cell (p := a) (World.block_lt_of_cell? W _ h.2.1)).trans h.2.1, (hb.cell (p := b) (World.block_lt_of_cell? W _ h.2.2)).trans h.2.2⟩
set_option maxRecDepth 100000 in
set_option maxHeartbeats 8000000 in
theorem finds_any (s : ByteArray) (so : Option Addr) (n cap : Nat) (rs : List Rr) (w : World) (hE : ErrIs w) (hT : TabIs w) (hz : RgZ rs) (hu : RgU rs) (h : RgIs w w.heap.size so n rs) :
    Calls Tryz.prog 8 #[.agg #[.slice so n cap], .string s] w fun e w' => e = .returned (.bool true) ∧ Below w.heap.size w w' := by
  obtain ⟨X, hX, hC⟩ := checked_all so n cap rs w.heap.size w hz hu h (Nat.le_refl _) hT
  obtain ⟨u1, hu1⟩ : ∃ u1, u1 = w.alloc (.cells #[.slice so n cap] 24) := ⟨_, rfl⟩
  have hbu : Below w.heap.size w u1 := by rw [hu1]; exact (Below.refl _ w).alloc (Nat.le_refl _) _
  have gu : u1.heap[w.heap.size]? = some (.cells #[.slice so n cap] 24) := by rw [hu1]; exact new_block_at w _ rfl
  have HS := hid (osmall_ok u1 (hE.below hbu hE.lt) (hT.below hbu hT.lt))
  have HCk := hid (fun (W : World) (hb : Below w.heap.size w W) => check_of so n cap rs X W (hid (CkC.from hC hb)))
  have HF := hid (fun (t : ByteArray) (W : World) (hb : Below w.heap.size w W) => find_any t so n cap rs w.heap.size W (h.below hb) hb.size)
  have HR := hid h
  have HNl : Hid (n = rs.length) := h.1
  have hn6 : n ≤ 9223372036854775807 := by have := h.2.1; unfold maxLen at this; omega
  have HX := hid hX
  clear hE hT hz hu h hC hX
  go_enter Tryz.func8, Tryz.ntmps8
  go_wp2_with fail
  rw [← hu1]
  refine HS.out.mono ?_
  rintro e w1 ⟨rfl, HB1⟩
  have HBw1 := hid (hbu.trans (HB1.out.mono hbu.size))
  have g1 := (HB1.out.block _ (node_lt gu)).trans gu
  have HG1 := hid g1
  obtain ⟨x1, f1⟩ := one_cell g1
  clear HS HB1 hu1 hbu gu g1
  go_wp2_with fail
  refine (HCk.out w1 HBw1.out).mono ?_
  rintro e w2 ⟨v, rfl, he, hb2⟩
  have HBw2 := hid (HBw1.out.trans (hb2.mono HBw1.out.size))
  have g2 := (hb2.block _ (node_lt HG1.out)).trans HG1.out
  cases X with
  | some q =>
    obtain ⟨t, u, rfl⟩ := he.shape (fun h => by cases h)
    clear he hb2 HCk HF g2
    go_wp2_with fail
    go_ret
    exact ⟨rfl, HBw2.out⟩
  | none =>
    obtain rfl : v = .nilIface := he
    obtain ⟨hk, hck, _⟩ := HX.out
    have HK := hid hck
    have HG2 := hid g2
    obtain ⟨x2, f2⟩ := one_cell g2
    clear hb2 HCk g2 hk hck x1 f1
    go_wp2_with fail
    go_loopw [8, 7] (fun i a wr => ∃ j : Nat, i = .int .i64 (j : Int) ∧ j ≤ n ∧ a = .int .i64 (fdI s (nmL (rs.take j))) ∧ Hid (Below w.heap.size w wr) ∧ Hid (wr.heap[w.heap.size]? = some (.cells #[.slice so n cap] 24))) (fun i _ _ => n - (intOf i).toNat)
    case atStart => exact ⟨0, rfl, Nat.zero_le _, by rw [List.take_zero]; rfl, HBw2, HG2⟩
    case round =>
      obtain ⟨j, rfl, hj, rfl, HBj, HGj⟩ := hrel
      obtain ⟨x3, f3⟩ := one_cell HGj.out
      have l3 := node_lt HGj.out
      clear x2 f2
      by_cases hjn : j < n
      · have hjI : (j : Int) < (n : Int) := by omega
        have a0 : decide ((j : Int) < (n : Int)) = true := by simp; omega
        have hjs : j < rs.length := by rw [← HNl.out]; exact hjn
        obtain ⟨g, o, rfl, hg, k1, T1, a1, b1, c1, d1, so1, n1, cap1, p1, hrt, z0, -⟩ := HR.out.2.2 j hjs
        have z0 := (HBj.out.cell (p := ⟨g, o + j * 10, none⟩) hg).trans z0
        have hgl : g < wr.heap.size := World.block_lt_of_cell? wr _ z0
        obtain ⟨N0, hN0⟩ : ∃ N0, N0 = rs[j].1 := ⟨_, rfl⟩
        rw [← hN0] at z0
        have HN0 : Hid (N0 = rs[j].1) := hN0
        have HFN := hid (fun (W : World) (hb : Hid (Below w.heap.size w W)) => HF.out N0 W hb.out)
        have HFv : Hid (fdI N0 (nmL rs) = (j : Int)) := by show _ = _; rw [hN0]; exact fd_at HK.out j hjs
        rw [HFv.out] at HFN
        have HNx := hid (fd_next HK.out s j hjs)
        rw [← hN0] at HNx
        obtain ⟨A, hA⟩ : ∃ A, A = fdI s (nmL (rs.take j)) := ⟨_, rfl⟩
        rw [← hA] at HNx ⊢
        have S1 : (fun W : World => Hid (Below w.heap.size w W) ∧ W.cell? ⟨w.heap.size, 0, none⟩ = some (.slice (some ⟨g, o, none⟩) n cap) ∧ W.cell? ⟨g, o + j * 10, none⟩ = some (.string N0)) wr := ⟨HBj, x3, z0⟩
        have S2 : (fun W : World => Hid (Below w.heap.size w W) ∧ W.cell? ⟨w.heap.size, 0, none⟩ = some (.slice (some ⟨g, o, none⟩) n cap) ∧ W.cell? ⟨g, o + j * 10, none⟩ = some (.string N0)) wr.drew := ⟨hid HBj.out.drew, x3, z0⟩
        clear hrt hN0 hA
        go_wp2_with fail
        go_region_held3 (fun W : World => Hid (Below w.heap.size w W) ∧ W.cell? ⟨w.heap.size, 0, none⟩ = some (.slice (some ⟨g, o, none⟩) n cap) ∧ W.cell? ⟨g, o + j * 10, none⟩ = some (.string N0)) (first | assumption | exact keep_two (by assumption) (by assumption)) (first | (go_at_call 18; refine (HFN.out _ ?hh).mono ?_; (case hh => exact And.left (by assumption)); rintro e w5 ⟨rfl, hb5⟩))
        have S5 := keep_two S2 hb5
        have HB5 := S5.1
        have c5 := S5.2.1
        have z5 := S5.2.2
        have HG5 : Hid (w5.heap[w.heap.size]? = some (.cells #[.slice (some ⟨g, o, none⟩) n cap] 24)) := (hb5.block _ l3).trans HGj.out
        have hgl5 : g < w5.heap.size := World.block_lt_of_cell? w5 _ z5
        have l5 := node_lt HG5.out
        clear S1 S2 S5 hb5 x3 f3 z0
        by_cases e : N0 = s
        · have be : (N0.toList == s.toList) = true := by rw [beq_str, decide_eq_true e]
          rw [if_pos e] at HNx
          have HE : Hid (N0 = s) := e
          clear e
          go_wp2_with fail
          exact ⟨⟨j + 1, by go_num, by omega, by rw [HNx.out], HB5, HG5⟩, by simp [intOf]; omega⟩
        · have be : (N0.toList == s.toList) = false := by rw [beq_str, decide_eq_false e]
          rw [if_neg e] at HNx
          have HE : Hid (N0 ≠ s) := e
          clear e
          go_wp2_with fail
          exact ⟨⟨j + 1, by go_num, by omega, by rw [HNx.out], HB5, HG5⟩, by simp [intOf]; omega⟩
      · have a0 : decide ((j : Int) < (n : Int)) = false := by simp; omega
        have hjn' : rs.take j = rs := List.take_of_length_le (by rw [← HNl.out]; omega)
        rw [hjn']
        have HFN := hid (fun (W : World) (hb : Hid (Below w.heap.size w W)) => HF.out s W hb.out)
        obtain ⟨A, hA⟩ : ∃ A, A = fdI s (nmL rs) := ⟨_, rfl⟩
        rw [← hA] at HFN ⊢
        have aA : (A == A) = true := by simp
        clear hjn' hA
        go_wp2_with fail
        refine (HFN.out wr HBj).mono ?_
        rintro e w5 ⟨rfl, hb5⟩
        have HB5 := hid (HBj.out.trans (hb5.mono HBj.out.size))
        clear hb5 HFN x3 f3
        go_wp2_with fail
        go_ret
        exact ⟨rfl, HB5.out⟩
end Go.Proofs.YtpfgdpdfhopccaaGreatDoor
namespace Go.Proofs.YtpfgdpdfhopccaaGreatDoor
open Go.ChangeShapes Go.WideShapes Go.RowKit
set_option linter.unusedVariables false
theorem Tryz.own : ownKnob Tryz.prog.godebug = none := by kernel_rfl
theorem Tryz.et : Tryz.prog.globalNamed "errors.errorType" = some 0 := by kernel_rfl
theorem Tryz.rt : (Tryz.prog.cutTypes.find? (·.1 == "internal/reflectlite.rtype")).map (·.2) = some 150 := by kernel_rfl
theorem Tryz.oneRow : ((List.range 270).filter fun t => Tryz.prog.rowNamed t [101, 114, 114, 111, 114]) = [28] := by kernel_rfl
theorem Tryz.nTypes : Tryz.prog.types.size = 270 := by kernel_rfl
theorem err_laid {W : World} {l : List (String × DataW Unit)} (h : handlesMet Tryz.prog l W) (hm : ("errors.errorType", Rows.laid_errors_errorType) ∈ l) : ErrIs W := by
  obtain ⟨name, u, ty, e1, e2, e3, e4, e5⟩ := h _ hm
  have en : name = [101, 114, 114, 111, 114] := (Option.some.inj e1).symm
  subst en
  obtain rfl := Option.some.inj (Tryz.rt.symm.trans e2)
  have hm : ty ∈ (List.range 270).filter fun t => Tryz.prog.rowNamed t [101, 114, 114, 111, 114] := List.mem_filter.2 ⟨List.mem_range.2 (by rw [← Tryz.nTypes]; exact e3), e4⟩
  rw [Tryz.oneRow] at hm
  obtain rfl := List.mem_singleton.1 hm
  have hh : typeHandle Tryz.prog 28 = .pointer (some ⟨3, 28, none⟩) := by kernel_rfl
  rw [hh] at e5
  have := World.var?_cell Tryz.et e5 0
  unfold ErrIs
  simpa using this
end Go.Proofs.YtpfgdpdfhopccaaGreatDoor
namespace Go.Proofs.YtpfgdpdfhopccaaGreatDoor
open Go.ChangeShapes Go.WideShapes Go.RowKit
set_option linter.unusedVariables false
theorem Tryz.laidOutW : laidOutB Tryz.prog = true := by kernel_rfl
theorem Tryz.gT : Tryz.prog.globalNamed "math/bits.deBruijn64tab" = some 2 := by kernel_rfl
theorem Tryz.gTType : (Tryz.prog.globals[2]?).map (·.type) = some 240 := by kernel_rfl
theorem Tryz.cellsTab : Tryz.prog.cellsOf 240 = 64 := by kernel_rfl
theorem Tryz.cellsU8 : Tryz.prog.cellsOf 5 = 1 := by kernel_rfl
theorem tab_laid {W : World} {rest : List (String × DataW Unit)} (h : laidMet Tryz.prog (("math/bits.deBruijn64tab", Rows.laid_math_bits_deBruijn64tab) :: rest) W) : TabIs W := by
  have hT : Lib.TabIs Tryz.prog W "math/bits.deBruijn64tab" .u8 (Lib.deBruijn64tab.map fun n : Nat => (n : Int)) := Lib.tabIs_of_head (rest := rest) Tryz.gT Tryz.gTType Tryz.underlying240 Tryz.underlying5 Tryz.cellsU8 Tryz.cellsTab h
  intro i hi
  have := hT.cell Tryz.gT i (by simp [Lib.deBruijn64tab]; omega)
  rw [this]
  congr 2
  simp only [List.getD, List.getElem?_map]
  cases Lib.deBruijn64tab[i]? <;> rfl
theorem two_laid {W : World} (h : laidMetH Tryz.prog [("math/bits.deBruijn64tab", Rows.laid_math_bits_deBruijn64tab), ("errors.errorType", Rows.laid_errors_errorType)] W) : ErrIs W ∧ TabIs W := by
  have h' : laidMet Tryz.prog [("math/bits.deBruijn64tab", Rows.laid_math_bits_deBruijn64tab)] W ∧ handlesMet Tryz.prog [("errors.errorType", Rows.laid_errors_errorType)] W := h
  exact ⟨err_laid h'.2 (List.mem_singleton.2 rfl), tab_laid (rest := []) h'.1⟩
end Go.Proofs.YtpfgdpdfhopccaaGreatDoor
namespace Go.Proofs.YtpfgdpdfhopccaaGreatDoor
open Go.ChangeShapes Go.WideShapes Go.ChangeAt Go.RowKit
open Go.ChangeMaps (open_string shut_string)
set_option linter.unusedVariables false
theorem finds_met (os : Os) (args : Array Value) : laidMetH Tryz.prog Rows.scopeFindsRow.laid ((World.doorLaid Tryz.prog 400 os).forCall (fun _ _ => 0) ⟨#[], args, []⟩).memory :=
  laidMetH_of_parts3 (fuel := 8) (laidMet_of_run' 8 (by kernel_rfl) (by kernel_rfl)) (by kernel_rfl) (by kernel_rfl)
set_option maxRecDepth 100000 in
theorem finds_lifted (os : Os) (started : os.Started) (H : Type) (enc : TypeId × Value → H) :
    ReturnsInHanded {} Tryz.checked os 8 .any (fun w args => (Rows.scopeFindsSpec.pre enc Tryz.prog Tryz.f8 [] false w args ∧ laidMetH Tryz.prog Rows.scopeFindsRow.laid w) ∧ sizedMet enc Tryz.prog Tryz.f8 (OpenSpec.ofChange Rows.scopeFindsSpec) false w args)
      (Rows.scopeFindsSpec.post enc Tryz.prog Tryz.f8 false true false false) := by
  refine returnsInHanded_of_change_and (C := Tryz.checked) (X := fun w _ => laidMetH Tryz.prog Rows.scopeFindsRow.laid w) (fun _ _ _ hh h => h.of_heap hh) Tryz.own started (by kernel_rfl) Tryz.func8
    (ChangeSpec.witness_shaped (enc := enc) (C := Tryz.checked) (os := os) (X := fun w _ => laidMetH Tryz.prog Rows.scopeFindsRow.laid w) false (World.doorLaid Tryz.prog 400 os) #[.agg #[.slice none 0 0], .string ⟨#[]⟩] 8 rfl (World.shaped_of_RefB (by kernel_rfl) (by kernel_rfl)) (by kernel_rfl) (by kernel_rfl) (by kernel_rfl) (finds_met os _)) ?_
  intro W base args ds gs before hval0 hW _ hsz0 hL _
  have hval : ∀ (j : Nat) t v, Tryz.f8.params[j]? = some t → args[j]? = some v → Value.okWide Tryz.prog W .any base t v := hval0
  have hW' := hW
  obtain ⟨p, q, hA0, hV, rfl, hfz, hnd⟩ := hW
  have hA : DataW.TrodAll enc Tryz.prog W 0 (fun _ => true) true Tryz.f8.params.toList args.toList ds p := hA0
  have hsz : (DataW.weightsEach Tryz.prog (Tryz.f8.params.toList ++ []) (ds ++ gs)).all (· ≤ reachBytes) = true := hsz0
  rw [Tryz.params8] at hA hval hsz
  obtain ⟨v0, vs0, d0, ds0, p0, q0, hargs, rfl, rfl, h0, r0⟩ := trodAll_cons hA
  obtain ⟨v1, vs1, d1, ds1, p1, q1, rfl, rfl, rfl, h1, r1⟩ := trodAll_cons r0
  obtain ⟨rfl, rfl, rfl⟩ := trodAll_nil r1
  obtain rfl : args = #[v0, v1] := by cases args; simp_all
  obtain ⟨rfl, rfl⟩ := trodVars_none hV
  obtain ⟨s1, rfl, rfl, rfl, hm1⟩ := open_string Tryz.underlying9 (hval 1 9 v1 rfl rfl) h1
  have hz1 : s1.size ≤ 140737488351232 := by have h9 := sized_string hsz (j := 1) rfl rfl; simpa [reachBytes] using h9
  have k0 := h0
  have lt0 : ∀ x ∈ p0, x.block < W.heap.size := by obtain ⟨m, hm⟩ := k0; exact DataW.trod_lt m _ _ _ hm
  obtain ⟨so0, n0, cap0, rs0, rfl, hg0, hz0, hu0⟩ := gram_arg (hval 0 24 v0 rfl rfl) h0
  clear hA0 hval0
  have hwalk : Calls Tryz.prog 8 #[.agg #[.slice so0 n0 cap0], .string s1] W fun e w' => e = .returned (.bool true) ∧ Below W.heap.size W w' := by
    exact finds_any s1 so0 n0 cap0 rs0 W (two_laid hL).1 (two_laid hL).2 hz0 hu0 hg0
  refine hwalk.mono fun e W' ⟨he, bel⟩ => ?_
  subst he
  exact ⟨_, rfl, _, _, _, [], _, [], hW', trodAll_mk1 (shut_bool Tryz.underlying4 _), (trodAll_cons_mk (Below.trod Tryz.laidOutW (by kernel_rfl) (of_decide_eq_true (by kernel_rfl)) k0 bel lt0) (trodAll_cons_mk (shut_string Tryz.underlying9 hm1) trodAll_mk0)), rfl, bel.frame _, fun h => by cases h⟩
theorem finds_said : Rows.ScopeFindsSaid :=
  OpenClaim.holds_of_wide 8 Tryz.f8 rfl rfl rfl rfl rfl rfl rfl ⟨rfl, rfl, rfl, rfl, rfl⟩ rfl rfl rfl rfl rfl (by kernel_rfl) Tryz.func8 (by kernel_rfl)
    (of_decide_eq_true (by kernel_rfl)) (by unfold Func.isWrapper; first | (rw [if_pos (by decide +kernel)]; kernel_rfl) | (rw [if_neg (by decide +kernel)]; exact ⟨rfl, rfl⟩))
    (fun os started H enc _ => finds_lifted os started H enc)
/-- The statement. -/
theorem finds_proved : Rows.ScopeFindsCardSaid :=
  Claim7.holds_tied_plain_at .later [] _ _ _ _ finds_said (fun _ h => by cases h) (by kernel_rfl) (fun _ h => by cases h) scopeFinds_row_tie rfl ⟨rfl, rfl⟩ (by kernel_rfl) rfl
    (fun f fn hf hfn => by
      obtain rfl : f = 8 := Option.some.inj ((show Tryz.prog.funcNamed "muntin/muntinlaw06.ScopeFinds" = some 8 by kernel_rfl).symm.trans hf) |>.symm
      obtain rfl : fn = Tryz.f8 := (Option.some.inj (Tryz.func8.symm.trans hfn)).symm
      exact ⟨by kernel_rfl, fun j t ht => by
        rw [Tryz.params8] at ht
        have hm : t ∈ [24, 9] := by simpa using Array.mem_of_getElem? ht
        have hall : ([24, 9].all fun u => !Tryz.prog.wantsStandIn u) = true := by kernel_rfl
        exact (show Tryz.prog.wantsStandIn t = false by simpa using List.all_eq_true.1 hall t hm)⟩)
    (by kernel_rfl)
#print axioms finds_proved
end Go.Proofs.YtpfgdpdfhopccaaGreatDoor
