/-
  muntinlaw06.ScopeClosed answers true whatever its arguments, and they read as they did (the given card). Condition: the listed package-level variables are what the program's own text lays; the card ties them to that text.
-/
import Derived.Test.YtpfgdpdfhopccaaGreatDoorVO15ToO18
import Derived.Deep.RegionHeld3
import Derived.Test.YtpfgdpdfhopccaaGreatDoorVEAs2ToX12
import Derived.Test.YtpfgdpdfhopccaaGreatDoorRows
import Derived.ProofKit
import Derived.OpenShut
import Derived.Carry
import Derived.Test.YtpfgdpdfhopccaaGreatDoorCards
import Derived.Test.YtpfgdpdfhopccaaGreatDoorTie
import Derived.LaidMore
import Derived.LaidHandle
import Derived.Stop.Joined
import Derived.SizedLaws
import Derived.Lib.LaidTab
import Derived.Test.YtpfgdpdfhopccaaGreatDoorVX17ToQ1
import Derived.BigRegion
import Derived.Deep.DeepCutAuto
namespace Go.Proofs.YtpfgdpdfhopccaaGreatDoor
open Go.RowKit Go.Shelf
set_option linter.unusedVariables false
set_option maxRecDepth 100000 in
set_option maxHeartbeats 8000000 in
theorem find_any (s : ByteArray) (so : Option Addr) (n cap : Nat) (rs : List Rr) (B : Nat) (W : World) (h : RgIs W B so n rs) (hB : B ≤ W.heap.size) :
    Calls Tryz.prog 18 #[.agg #[.slice so n cap], .string s] W fun e w' => e = .returned (.int .i64 (fdI s (nmL rs))) ∧ Below W.heap.size W w' := by
  have HI := hid (fun (nB : Nat) (W' : World) (hb : Below W.heap.size W W') (hx : Boxed W' nB 9 (.string s)) => oindex_any s so n cap rs B nB W' (h.below (hb.mono hB)) (Nat.le_trans hB hb.size) hx hx.lt)
  have HB2 : Hid (∀ o o' : Obj, Below W.heap.size W ((W.alloc o).alloc o')) := fun o o' => ((Below.refl _ W).alloc (Nat.le_refl _) _).alloc (by simp) _
  have HX1 : Hid (∀ o : Obj, Boxed ((W.alloc o).alloc (.cells #[.string s] 9)) (W.heap.size + 1) 9 (.string s)) := fun o => by
    have := Boxed.new (W.alloc o) 9 (.string s)
    simpa only [World.size_alloc] using this
  clear h hB
  go_enter Tryz.func18, Tryz.ntmps18
  go_wp2_with fail
  refine (HI.out _ _ (HB2.out _ _) (HX1.out _)).mono ?_
  rintro e w1 ⟨rfl, hb1⟩
  have H1 := hid ((HB2.out _ _).trans (hb1.mono (HB2.out _ _).size))
  clear hb1 HI HX1 HB2
  go_wp2_with fail
  go_ret
  exact ⟨rfl, H1.out⟩
/-- No name stands twice. -/
theorem dupG_none : ∀ {rs : List Rr} {l : List ByteArray}, dupG l rs = none → ∀ j (hj : j < rs.length), inN rs[j].1 (l ++ nmL (rs.take j)) = false
  | [], _, _, j, hj => by simp at hj
  | x :: r, l, h, 0, _ => by
    rw [dupG] at h
    cases hi : inN x.1 l with
    | true => rw [hi] at h; cases h
    | false => simpa [nmL] using hi
  | x :: r, l, h, j + 1, hj => by
    rw [dupG] at h
    cases hi : inN x.1 l with
    | true => rw [hi] at h; cases h
    | false =>
      rw [hi] at h
      have := dupG_none (l := l ++ [x.1]) (by simpa using h) j (by simpa using hj)
      simpa [nmL, List.append_assoc] using this
theorem dup_none {rs : List Rr} (h : ckR rs = none) (j : Nat) (hj : j < rs.length) : inN rs[j].1 (nmL (rs.take j)) = false := by
  have hd : dupL rs = none := by
    unfold ckR at h
    cases hd : dupL rs with
    | none => rfl
    | some p => rw [hd] at h; cases h
  have := dupG_none hd j hj
  rwa [List.nil_append] at this
theorem inN_app (s : ByteArray) : ∀ a b, inN s (a ++ b) = (inN s a || inN s b)
  | [], b => by rw [List.nil_append, inN]; rfl
  | x :: r, b => by rw [List.cons_append, inN, inN, inN_app s r b]; by_cases h : x = s <;> simp [h]
theorem ixN_app (s : ByteArray) : ∀ a b, ixN s (a ++ b) = if inN s a then ixN s a else a.length + ixN s b
  | [], b => by rw [List.nil_append, inN]; simp
  | x :: r, b => by
    rw [List.cons_append, ixN, ixN, inN, ixN_app s r b]
    by_cases h : x = s
    · simp [h]
    · simp only [h, if_false]
      by_cases h2 : inN s r = true
      · simp [h2]
      · simp [h2]; omega
/-- Each rule is found at its place. -/
theorem fd_at {rs : List Rr} (h : ckR rs = none) (j : Nat) (hj : j < rs.length) : fdI rs[j].1 (nmL rs) = (j : Int) := by
  have h0 := dup_none h j hj
  have e : nmL rs = nmL (rs.take j) ++ (rs[j].1 :: nmL (rs.drop (j + 1))) := by
    have e1 : rs = rs.take j ++ (rs[j] :: rs.drop (j + 1)) := by rw [← List.drop_eq_getElem_cons hj, List.take_append_drop]
    have e2 := congrArg nmL e1
    rw [e2]
    unfold nmL
    rw [List.map_append]
    rfl
  have hl : (nmL (rs.take j)).length = j := by unfold nmL; rw [List.length_map, List.length_take]; omega
  unfold fdI
  rw [e, inN_app, ixN_app, h0, inN, ixN, if_pos rfl, if_pos rfl, hl]
  simp
theorem fd_next {rs : List Rr} (h : ckR rs = none) (s : ByteArray) (j : Nat) (hj : j < rs.length) : fdI s (nmL (rs.take (j + 1))) = if rs[j].1 = s then (j : Int) else fdI s (nmL (rs.take j)) := by
  have hl : (nmL (rs.take j)).length = j := by unfold nmL; rw [List.length_map, List.length_take]; omega
  unfold fdI
  rw [nmL_next rs j hj, inN_snoc, ixN_snoc, hl]
  by_cases e : rs[j].1 = s
  · have h0 := dup_none h j hj
    rw [e] at h0
    simp [e, h0]
  · simp only [e, if_false, decide_false, Bool.or_false]
    by_cases h2 : inN s (nmL (rs.take j)) = true
    · simp [h2]
    · simp [h2]
theorem keep_two {w W W' : World} {a b : Addr} {x y : Value} (h : Hid (Below w.heap.size w W) ∧ W.cell? a = some x ∧ W.cell? b = some y) (hb : Below W.heap.size W W') : Hid (Below w.heap.size w W') ∧ W'.cell? a = some x ∧ W'.cell? b = some y :=
  ⟨hid (h.1.out.trans (hb.mono h.1.out.size)), (hb.cell (p := a) (World.block_lt_of_cell? W _ h.2.1)).trans h.2.1, (hb.cell (p := b) (World.block_lt_of_cell? W _ h.2.2)).trans h.2.2⟩
end Go.Proofs.YtpfgdpdfhopccaaGreatDoor
namespace Go.Proofs.YtpfgdpdfhopccaaGreatDoor
open Go.RowKit Go.Shelf
set_option linter.unusedVariables false
set_option maxRecDepth 100000 in
set_option maxHeartbeats 8000000 in
theorem ohas_any (rv : Value) (u : List Int) (B : Nat) (x : Int) (W : World) (h : RowM W B rv u) :
    Calls Tryz.prog 26 #[rv, .int .i64 x] W fun e w' => e = .returned (.bool (decide (x ∈ u))) ∧ w' = W := by
  obtain ⟨so, cap, rfl, hl, hc⟩ := h
  have HC := hid hc
  obtain ⟨k, hk⟩ : ∃ k, k = u.length := ⟨_, rfl⟩
  rw [← hk] at hl ⊢
  have HK : Hid (k = u.length) := hk
  clear hc hk
  go_enter Tryz.func26, Tryz.ntmps26
  go_wp2_with fail
  go_loop [5] (fun i => ∃ j : Nat, i = .int .i64 (j : Int) ∧ j ≤ k ∧ Hid (∀ i (hi : i < u.length), i < j → u[i] ≠ x)) (fun i => k - (intOf i).toNat)
  case atStart => exact ⟨0, rfl, Nat.zero_le _, fun i hi h0 => by omega⟩
  case round =>
    obtain ⟨j, rfl, hj, HA⟩ := hrel
    by_cases hjn : j < k
    · have hjI : (j : Int) < (k : Int) := by omega
      have a0 : decide ((j : Int) < (k : Int)) = true := by simp; omega
      have hju : j < u.length := by rw [← HK.out]; exact hjn
      obtain ⟨g, o, rfl, hg, c⟩ := HC.out j hju
      obtain ⟨y, hy⟩ : ∃ y, y = u[j] := ⟨_, rfl⟩
      rw [← hy] at c
      have HY : Hid (y = u[j]) := hy
      clear hy
      by_cases e : y = x
      · have be : (y == x) = true := by simp [e]
        have HE : Hid (y = x) := e
        clear e
        go_wp2_with fail
        go_ret
        have hd : decide (x ∈ u) = true := by
          have := HE.out
          rw [HY.out] at this
          rw [← this]
          exact decide_eq_true (List.getElem_mem hju)
        rw [hd]
        exact ⟨rfl, rfl⟩
      · have be : (y == x) = false := by simp [e]
        have HE : Hid (y ≠ x) := e
        clear e
        go_wp2_with fail
        refine ⟨⟨j + 1, by go_num, by omega, hid fun i hi hij => ?_⟩, by simp [intOf]; omega⟩
        by_cases e : i = j
        · subst e
          have := HE.out
          rw [HY.out] at this
          exact this
        · exact HA.out i hi (by omega)
    · have a0 : decide ((j : Int) < (k : Int)) = false := by simp; omega
      go_wp2_with fail
      go_ret
      have hd : decide (x ∈ u) = false := decide_eq_false fun hx => by
        obtain ⟨q, hq, e⟩ := List.getElem_of_mem hx
        exact HA.out q hq (by have := HK.out; omega) e
      rw [hd]
      exact ⟨rfl, rfl⟩
theorem RowM.below {W W' : World} {B S : Nat} {rv : Value} {u : List Int} (h : RowM W B rv u) (hb : Below S W W') (hS : B ≤ S) : RowM W' B rv u := by
  obtain ⟨so, cap, h1, h2, h3⟩ := h
  refine ⟨so, cap, h1, h2, fun j hj => ?_⟩
  obtain ⟨g, o, e1, e2, e3⟩ := h3 j hj
  exact ⟨g, o, e1, e2, (hb.cell (p := ⟨g, o + j, none⟩) (by show g < S; omega)).trans e3⟩
theorem UsM.below {W W' : World} {B S : Nat} {uv : Value} {us : List (List Int)} (h : UsM W B uv us) (hb : Below S W W') (hS : B ≤ S) : UsM W' B uv us := by
  obtain ⟨so, cap, h1, h2, h3⟩ := h
  refine ⟨so, cap, h1, h2, fun i hi => ?_⟩
  obtain ⟨g, o, rv, e1, e2, e3, e4⟩ := h3 i hi
  exact ⟨g, o, rv, e1, e2, (hb.cell (p := ⟨g, o + i, none⟩) (by show g < S; omega)).trans e3, e4.below hb hS⟩
end Go.Proofs.YtpfgdpdfhopccaaGreatDoor
namespace Go.Proofs.YtpfgdpdfhopccaaGreatDoor
open Go.RowKit Go.Shelf
set_option linter.unusedVariables false
theorem rch_lt {us : List (List Int)} {n a i : Nat} (hx : ∀ b x, x ∈ us.getD b [] → ∃ m : Nat, m < n ∧ x = (m : Int)) (ha : a < n) (h : Rch us a i) : i < n := by
  induction h with
  | refl => exact ha
  | step _ hm ih =>
    obtain ⟨m, h1, h2⟩ := hx _ _ hm
    omega
theorem us_lt {rs : List Rr} (h1 : 1 ≤ rs.length) (b : Nat) (x : Int) (hx : x ∈ (rs.map (usR (nmL rs))).getD b []) : ∃ m : Nat, m < rs.length ∧ x = (m : Int) := by
  rw [List.getD_eq_getElem?_getD, List.getElem?_map] at hx
  cases hb : rs[b]? with
  | none => rw [hb] at hx; simp at hx
  | some y =>
    rw [hb] at hx
    have hl : (nmL rs).length = rs.length := List.length_map _
    have := us_mem (l := nmL rs) (y := y) (by rw [hl]; exact h1) hx
    rw [hl] at this
    exact this
theorem reach_sub {rs : List Rr} {W w' : World} {e : Ending} {k m : Nat} {L : List Int} (h64 : rs.length ≤ 64) (hm : m < rs.length) (hL : LdIs (rs.map (usR (nmL rs))) k L) (hR : Rch (rs.map (usR (nmL rs))) k m) (he : ReP rs none (m : Int) W e w') :
    ∃ so5 sc5 L5, e = .returned (.tuple #[.slice so5 (List.length L5) sc5, .nilIface]) ∧ Hid (L5.length ≤ 64 ∧ (∀ x ∈ L5, x ∈ L) ∧ RowM w' w'.heap.size (.slice so5 L5.length sc5) L5) ∧ Below W.heap.size W w' := by
  obtain ⟨hb5, ⟨hx, _⟩ | ⟨_, ha5, _⟩ | ⟨_, k5, v5, L5, ek5, hk5, he5, hL5, hl5, hr5⟩⟩ := he
  · exact absurd rfl hx
  · omega
  · obtain rfl : m = k5 := by omega
    obtain ⟨so5, sc5, rfl⟩ := own_any hr5
    refine ⟨so5, sc5, L5, he5, hid ⟨by omega, fun x hx => ?_, row_M hr5 (by omega)⟩, hb5⟩
    obtain ⟨p, ep, hp⟩ := (hL5.2 x).1 hx
    exact (hL.2 x).2 ⟨p, ep, hR.trans hp⟩
set_option maxRecDepth 100000 in
set_option maxHeartbeats 8000000 in
theorem closed_any (a : Int) (so : Option Addr) (n cap : Nat) (rs : List Rr) (w : World) (hE : ErrIs w) (hT : TabIs w) (hz : RgZ rs) (hu : RgU rs) (h : RgIs w w.heap.size so n rs) :
    Calls Tryz.prog 5 #[.agg #[.slice so n cap], .int .i64 a] w fun e w' => e = .returned (.bool true) ∧ Below w.heap.size w w' := by
  obtain ⟨X, hX, hC⟩ := checked_all so n cap rs w.heap.size w hz hu h (Nat.le_refl _) hT
  obtain ⟨u1, hu1⟩ : ∃ u1, u1 = w.alloc (.cells #[.slice so n cap] 24) := ⟨_, rfl⟩
  have hbu : Below w.heap.size w u1 := by rw [hu1]; exact (Below.refl _ w).alloc (Nat.le_refl _) _
  have gu : u1.heap[w.heap.size]? = some (.cells #[.slice so n cap] 24) := by rw [hu1]; exact new_block_at w _ rfl
  have HS := hid (osmall_ok u1 (hE.below hbu hE.lt) (hT.below hbu hT.lt))
  have hTl := hT.lt
  have HUs := hid (fun (W : World) (hb : Below w.heap.size w W) => uses_of so n cap rs X w.heap.size W hX (CkC.from hC hb) (h.below hb) hb.size hz (Nat.lt_of_lt_of_le hTl hb.size))
  have HRe := hid (fun (b : Int) (W : World) (hb : Below w.heap.size w W) => reach_of so n cap rs X w.heap.size b W hX (CkC.from hC hb) (h.below hb) hb.size hz (Nat.lt_of_lt_of_le hTl hb.size))
  have HNl : Hid (n = rs.length) := h.1
  have HX := hid hX
  clear hE hT hz hu h hC hX hTl
  go_enter Tryz.func5, Tryz.ntmps5
  go_wp2_with fail
  rw [← hu1]
  refine HS.out.mono ?_
  rintro e w1 ⟨rfl, HB1⟩
  have HBw1 := hid (hbu.trans (HB1.out.mono hbu.size))
  have HG1 := hid ((HB1.out.block _ (node_lt gu)).trans gu)
  obtain ⟨x1, f1⟩ := one_cell HG1.out
  clear HS HB1 hu1 hbu gu
  go_wp2_with fail
  refine (HUs.out w1 HBw1.out).mono ?_
  rintro e w2 ⟨uv, v, rfl, he, hb2, hq1, hq2⟩
  have HBw2 := hid (HBw1.out.trans (hb2.mono HBw1.out.size))
  have HG2 := hid ((hb2.block _ (node_lt HG1.out)).trans HG1.out)
  obtain ⟨x2, f2⟩ := one_cell HG2.out
  cases X with
  | some q =>
    obtain rfl := hq1 (fun h => by cases h)
    obtain ⟨t, u, rfl⟩ := he.shape (fun h => by cases h)
    clear he hb2 HUs hq1 hq2 x1 f1
    go_wp2_with fail
    refine (HRe.out a w2 HBw2.out).mono ?_
    rintro e w3 ⟨hb3, hre⟩
    rcases hre with ⟨hx, v3, rfl, he3⟩ | ⟨hx, _⟩ | ⟨hx, _⟩
    · have HBw3 := hid (HBw2.out.trans (hb3.mono HBw2.out.size))
      obtain ⟨t3, u3, rfl⟩ := he3.shape hx
      clear HRe hb3 he3 x2 f2
      go_wp2_with fail
      go_ret
      exact ⟨rfl, HBw3.out⟩
    · cases hx
    · cases hx
  | none =>
    obtain rfl : v = .nilIface := he
    obtain ⟨ub, vs, rfl, hvl, hU⟩ := hq2 rfl
    obtain ⟨hk, hck, hrl⟩ := HX.out
    have hlen := okG_len hk
    have HN64 : Hid (n ≤ 64) := by show _ ≤ _; rw [HNl.out]; exact hlen.2
    have hUM := uw_M hU hvl (fun u hu => by obtain ⟨y, hy, rfl⟩ := List.mem_map.1 hu; exact Nat.le_trans us_len (Nat.le_trans (hrl y hy) (by omega))) (by have := HN64.out; omega)
    have HUM := hid hUM
    clear hb2 HUs hq1 hq2 x1 f1 hk hck hrl hlen hUM hU hvl
    go_wp2_with fail
    refine (HRe.out a w2 HBw2.out).mono ?_
    rintro e w3 ⟨hb3, hre⟩
    have HBw3 := hid (HBw2.out.trans (hb3.mono HBw2.out.size))
    rcases hre with ⟨hx, _⟩ | ⟨_, ha, rfl⟩ | ⟨_, k, v, L, rfl, hk, rfl, hL, hl, hr⟩
    · exact absurd rfl hx
    · clear HRe hb3 x2 f2
      go_wp2_with fail
      go_ret
      exact ⟨rfl, HBw3.out⟩
    · have HUM3 := hid (HUM.out.below hb3 (Nat.le_refl _))
      have HG3 := hid ((hb3.block _ (node_lt HG2.out)).trans HG2.out)
      have hRM := row_M hr (by have := HN64.out; have := HNl.out; omega)
      have HRM := hid hRM
      have HL := hid hL
      have HLn : Hid (L.length ≤ rs.length) := hl
      obtain ⟨so3, sc3, rfl⟩ := own_any hr
      have HB23 := hid hb3
      have HH := hid (fun (x : Int) (W : World) (hb : Below w3.heap.size w3 W) => ohas_any _ L w3.heap.size x W (hRM.below hb (Nat.le_refl _)))
      obtain ⟨x3, f3⟩ := one_cell HG3.out
      clear hb3 x2 f2 hL hl hr hRM
      go_wp2_with fail
      have hself : decide ((k : Int) ∈ L) = true := decide_eq_true ((HL.out.2 _).2 ⟨k, rfl, .refl⟩)
      refine (HH.out (k : Int) w3 (Below.refl _ _)).mono ?_
      rw [hself]
      rintro e w4 ⟨rfl, hw4⟩
      have hw4 := hw4.symm
      subst hw4
      obtain ⟨kL, hkL⟩ : ∃ kL, kL = L.length := ⟨_, rfl⟩
      rw [← hkL] at HH ⊢
      have HKL : Hid (kL = L.length) := hkL
      have HLT : Hid (∀ j (hj : j < L.length), ∃ m : Nat, m < n ∧ L[j] = (m : Int) ∧ Rch (rs.map (usR (nmL rs))) k m) := fun j hj => by
        obtain ⟨m, e, hm⟩ := (HL.out.2 L[j]).1 (List.getElem_mem hj)
        exact ⟨m, by rw [HNl.out]; exact rch_lt (us_lt (by omega)) hk hm, e, hm⟩
      have HLS : Hid (∀ j (hj : j + 1 < L.length), L[j]'(by omega) < L[j + 1]) := fun j hj => (List.pairwise_iff_getElem.1 HL.out.1) j (j + 1) (by omega) hj (by omega)
      have hkL2 : kL ≤ 64 := by have := HN64.out; have := HNl.out; have := HLn.out; omega
      clear hself hkL
      go_wp2_with fail
      go_loopw [11] (fun i wr => ∃ j : Nat, i = .int .i64 (j : Int) ∧ j ≤ kL ∧ Hid (Below w3.heap.size w3 wr)) (fun i _ => kL - (intOf i).toNat)
      case atStart => exact ⟨0, rfl, Nat.zero_le _, Below.refl _ _⟩
      case round =>
        obtain ⟨j, rfl, hj, HBj⟩ := hrel
        by_cases hjn : j < kL
        · have hjI : (j : Int) < (kL : Int) := by omega
          have a0 : decide ((j : Int) < (kL : Int)) = true := by simp; omega
          have hjL : j < L.length := by rw [← HKL.out]; exact hjn
          obtain ⟨m, hmn, em, hmR⟩ := HLT.out j hjL
          obtain ⟨rso, rcap, e0, hrl0, hrc⟩ := HRM.out
          obtain ⟨rg, ro, e1, hrg, hcr⟩ := hrc j hjL
          cases e0
          subst e1
          have HRC := hid hrc
          have EM : Hid (L[j] = (m : Int)) := em
          rw [em] at hcr
          have cr := (HBj.out.cell (p := ⟨rg, ro + j, none⟩) hrg).trans hcr
          have hrgl : rg < wr.heap.size := World.block_lt_of_cell? wr _ cr
          have b0 : decide ((m : Int) < 0) = false := by simp
          have b1 : decide ((n : Int) ≤ (m : Int)) = false := by simp; omega
          have hmI : (m : Int) < (n : Int) := by omega
          have HM := hid hmR
          clear hrc hcr em hmR
          have b1D : decide (n ≤ m) = false := by simp; omega
          have b1N : ¬ n ≤ m := by omega
          go_wp2_with fail
          go_cut [89] (fun c wx => c = .bool false ∧ wx = wr.drew)
          case first =>
            by_cases hj0 : j = 0
            · subst hj0
              have cr0 : wr.cell? ⟨rg, ro, none⟩ = some (.int .i64 (m : Int)) := by simpa using cr
              have S2 : (fun W : World => W.cell? ⟨rg, ro, none⟩ = some (.int .i64 (m : Int))) wr.drew := cr0
              refine wp_region_held_drew (S := (fun W : World => W.cell? ⟨rg, ro, none⟩ = some (.int .i64 (m : Int)))) (by kernel_rfl) S2 (fun hHeld => ?_)
              refine wpAnyH_take (i := 0) (oi := { dst := Option.some 60, op := Go.Op.move (Go.Operand.tmp 8), type := 33, pos := "law.go:109", after := #[], guard := Option.none }) (v := ?_) rfl (by kernel_rfl) (by kernel_rfl) (by kernel_rfl) (fun _ _ _ h => h) (Or.inl ⟨by rfl, ?hya0⟩) hHeld ?resta0
              case hya0 =>
                intro w hSw
                (try dsimp only at hSw)
                go_simp
                (try with_reducible rfl)
              (try simp only [Act.put, List.setIfInBounds_toArray, List.set_cons_zero, List.set_cons_succ])
              refine wpAnyH_take (i := 1) (oi := { dst := Option.some 61, op := Go.Op.move (Go.Operand.tmp 11), type := 3, pos := "law.go:109", after := #[], guard := Option.none }) (v := ?_) rfl (by kernel_rfl) (by kernel_rfl) (by kernel_rfl) (fun _ _ _ h => h) (Or.inl ⟨by rfl, ?hya1⟩) hHeld ?resta1
              case hya1 =>
                intro w hSw
                (try dsimp only at hSw)
                go_simp
                (try with_reducible rfl)
              (try simp only [Act.put, List.setIfInBounds_toArray, List.set_cons_zero, List.set_cons_succ])
              refine wpAnyH_take (i := 2) (oi := { dst := Option.some 62, op := Go.Op.indexAddr 33 (Go.Operand.tmp 60) (Go.Operand.tmp 61), type := 0, pos := "law.go:109", after := #[{ on := 0, ground := Go.Ground.data }, { on := 1, ground := Go.Ground.data }], guard := Option.none }) (v := ?_) rfl (by kernel_rfl) (by kernel_rfl) (by kernel_rfl) (fun _ _ _ h => h) (Or.inl ⟨by rfl, ?hya2⟩) hHeld ?resta2
              case hya2 =>
                intro w hSw
                (try dsimp only at hSw)
                go_simp
                (try with_reducible rfl)
              (try simp only [Act.put, List.setIfInBounds_toArray, List.set_cons_zero, List.set_cons_succ])
              refine wpAnyH_take (i := 3) (oi := { dst := Option.some 63, op := Go.Op.load 3 (Go.Operand.tmp 62), type := 3, pos := "law.go:109", after := #[{ on := 2, ground := Go.Ground.data }], guard := Option.none }) (v := ?_) rfl (by kernel_rfl) (by kernel_rfl) (by kernel_rfl) (fun _ _ _ h => h) (Or.inl ⟨by rfl, ?hya3⟩) hHeld ?resta3
              case hya3 =>
                intro w hSw
                (try dsimp only at hSw)
                go_simp
                (try with_reducible rfl)
              (try simp only [Act.put, List.setIfInBounds_toArray, List.set_cons_zero, List.set_cons_succ])
              refine wpAnyH_take (i := 4) (oi := { dst := Option.some 64, op := Go.Op.binOp Go.BinOp.lss 3 (Go.Operand.tmp 63) (Go.Operand.const (Go.Value.int Go.IntKind.i64 0)) 3, type := 4, pos := "law.go:109", after := #[{ on := 3, ground := Go.Ground.data }], guard := Option.none }) (v := ?_) rfl (by kernel_rfl) (by kernel_rfl) (by kernel_rfl) (fun _ _ _ h => h) (Or.inl ⟨by rfl, ?hya4⟩) hHeld ?resta4
              case hya4 =>
                intro w hSw
                (try dsimp only at hSw)
                go_simp
                (try with_reducible rfl)
              (try simp only [Act.put, List.setIfInBounds_toArray, List.set_cons_zero, List.set_cons_succ])
              refine wpAnyH_take (i := 5) (oi := { dst := Option.some 65, op := Go.Op.move (Go.Operand.tmp 64), type := 4, pos := "law.go:109", after := #[{ on := 4, ground := Go.Ground.data }], guard := Option.none }) (v := ?_) rfl (by kernel_rfl) (by kernel_rfl) (by kernel_rfl) (fun _ _ _ h => h) (Or.inl ⟨by rfl, ?hya5⟩) hHeld ?resta5
              case hya5 =>
                intro w hSw
                (try dsimp only at hSw)
                go_simp
                (try with_reducible rfl)
              (try simp only [Act.put, List.setIfInBounds_toArray, List.set_cons_zero, List.set_cons_succ])
              refine wpAnyH_take (i := 6) (oi := { dst := Option.some 66, op := Go.Op.move (Go.Operand.tmp 8), type := 33, pos := "law.go:109", after := #[{ on := 5, ground := Go.Ground.guard }], guard := Option.some (5, Bool.false) }) (v := ?_) rfl (by kernel_rfl) (by kernel_rfl) (by kernel_rfl) (fun _ _ _ h => h) (Or.inl ⟨by rfl, ?hya6⟩) hHeld ?resta6
              case hya6 =>
                intro w hSw
                (try dsimp only at hSw)
                go_simp
                (try with_reducible rfl)
              (try simp only [Act.put, List.setIfInBounds_toArray, List.set_cons_zero, List.set_cons_succ])
              refine wpAnyH_take (i := 7) (oi := { dst := Option.some 67, op := Go.Op.move (Go.Operand.tmp 11), type := 3, pos := "law.go:109", after := #[{ on := 5, ground := Go.Ground.guard }], guard := Option.some (5, Bool.false) }) (v := ?_) rfl (by kernel_rfl) (by kernel_rfl) (by kernel_rfl) (fun _ _ _ h => h) (Or.inl ⟨by rfl, ?hya7⟩) hHeld ?resta7
              case hya7 =>
                intro w hSw
                (try dsimp only at hSw)
                go_simp
                (try with_reducible rfl)
              (try simp only [Act.put, List.setIfInBounds_toArray, List.set_cons_zero, List.set_cons_succ])
              refine wpAnyH_take (i := 8) (oi := { dst := Option.some 68, op := Go.Op.indexAddr 33 (Go.Operand.tmp 66) (Go.Operand.tmp 67), type := 0, pos := "law.go:109", after := #[{ on := 6, ground := Go.Ground.data }, { on := 7, ground := Go.Ground.data }, { on := 5, ground := Go.Ground.guard }], guard := Option.some (5, Bool.false) }) (v := ?_) rfl (by kernel_rfl) (by kernel_rfl) (by kernel_rfl) (fun _ _ _ h => h) (Or.inl ⟨by rfl, ?hya8⟩) hHeld ?resta8
              case hya8 =>
                intro w hSw
                (try dsimp only at hSw)
                go_simp
                (try with_reducible rfl)
              (try simp only [Act.put, List.setIfInBounds_toArray, List.set_cons_zero, List.set_cons_succ])
              refine wpAnyH_take (i := 9) (oi := { dst := Option.some 69, op := Go.Op.load 3 (Go.Operand.tmp 68), type := 3, pos := "law.go:109", after := #[{ on := 8, ground := Go.Ground.data }, { on := 5, ground := Go.Ground.guard }], guard := Option.some (5, Bool.false) }) (v := ?_) rfl (by kernel_rfl) (by kernel_rfl) (by kernel_rfl) (fun _ _ _ h => h) (Or.inl ⟨by rfl, ?hya9⟩) hHeld ?resta9
              case hya9 =>
                intro w hSw
                (try dsimp only at hSw)
                go_simp
                (try with_reducible rfl)
              (try simp only [Act.put, List.setIfInBounds_toArray, List.set_cons_zero, List.set_cons_succ])
              refine wpAnyH_take (i := 10) (oi := { dst := Option.some 70, op := Go.Op.move (Go.Operand.tmp 6), type := 30, pos := "law.go:109", after := #[{ on := 5, ground := Go.Ground.guard }], guard := Option.some (5, Bool.false) }) (v := ?_) rfl (by kernel_rfl) (by kernel_rfl) (by kernel_rfl) (fun _ _ _ h => h) (Or.inl ⟨by rfl, ?hya10⟩) hHeld ?resta10
              case hya10 =>
                intro w hSw
                (try dsimp only at hSw)
                go_simp
                (try with_reducible rfl)
              (try simp only [Act.put, List.setIfInBounds_toArray, List.set_cons_zero, List.set_cons_succ])
              refine wpAnyH_take (i := 11) (oi := { dst := Option.some 71, op := Go.Op.call { callee := Go.Callee.builtin Go.Builtin.len, args := #[Go.Operand.tmp 70], argTypes := #[30] }, type := 3, pos := "law.go:109", after := #[{ on := 10, ground := Go.Ground.data }, { on := 5, ground := Go.Ground.guard }], guard := Option.some (5, Bool.false) }) (v := ?_) rfl (by kernel_rfl) (by kernel_rfl) (by kernel_rfl) (fun _ _ _ h => h) (Or.inl ⟨by rfl, ?hya11⟩) hHeld ?resta11
              case hya11 =>
                intro w hSw
                (try dsimp only at hSw)
                go_simp
                (try with_reducible rfl)
              (try simp only [Act.put, List.setIfInBounds_toArray, List.set_cons_zero, List.set_cons_succ])
              refine wpAnyH_take (i := 12) (oi := { dst := Option.some 72, op := Go.Op.binOp Go.BinOp.geq 3 (Go.Operand.tmp 69) (Go.Operand.tmp 71) 3, type := 4, pos := "law.go:109", after := #[{ on := 9, ground := Go.Ground.data }, { on := 11, ground := Go.Ground.data }, { on := 5, ground := Go.Ground.guard }], guard := Option.some (5, Bool.false) }) (v := ?_) rfl (by kernel_rfl) (by kernel_rfl) (by kernel_rfl) (fun _ _ _ h => h) (Or.inl ⟨by rfl, ?hya12⟩) hHeld ?resta12
              case hya12 =>
                intro w hSw
                (try dsimp only at hSw)
                go_simp
                (try with_reducible rfl)
              (try simp only [Act.put, List.setIfInBounds_toArray, List.set_cons_zero, List.set_cons_succ])
              refine wpAnyH_take (i := 13) (oi := { dst := Option.some 73, op := Go.Op.pick (Go.Operand.tmp 65) (Go.Operand.const (Go.Value.bool Bool.true)) (Go.Operand.tmp 72), type := 4, pos := "law.go:109", after := #[{ on := 5, ground := Go.Ground.data }, { on := 12, ground := Go.Ground.data }], guard := Option.none }) (v := ?_) rfl (by kernel_rfl) (by kernel_rfl) (by kernel_rfl) (fun _ _ _ h => h) (Or.inl ⟨by rfl, ?hya13⟩) hHeld ?resta13
              case hya13 =>
                intro w hSw
                (try dsimp only at hSw)
                go_simp
                (try with_reducible rfl)
              (try simp only [Act.put, List.setIfInBounds_toArray, List.set_cons_zero, List.set_cons_succ])
              refine wpAnyH_take (i := 14) (oi := { dst := Option.some 74, op := Go.Op.move (Go.Operand.tmp 73), type := 4, pos := "law.go:109", after := #[{ on := 13, ground := Go.Ground.data }, { on := 5, ground := Go.Ground.chain }], guard := Option.none }) (v := ?_) rfl (by kernel_rfl) (by kernel_rfl) (by kernel_rfl) (fun _ _ _ h => h) (Or.inl ⟨by rfl, ?hya14⟩) hHeld ?resta14
              case hya14 =>
                intro w hSw
                (try dsimp only at hSw)
                go_simp
                (try with_reducible rfl)
              (try simp only [Act.put, List.setIfInBounds_toArray, List.set_cons_zero, List.set_cons_succ])
              refine wpAnyH_take (i := 15) (oi := { dst := Option.some 75, op := Go.Op.move (Go.Operand.tmp 11), type := 3, pos := "law.go:109", after := #[{ on := 14, ground := Go.Ground.guard }], guard := Option.some (14, Bool.false) }) (v := ?_) rfl (by kernel_rfl) (by kernel_rfl) (by kernel_rfl) (fun _ _ _ h => h) (Or.inl ⟨by rfl, ?hya15⟩) hHeld ?resta15
              case hya15 =>
                intro w hSw
                (try dsimp only at hSw)
                go_simp
                (try with_reducible rfl)
              (try simp only [Act.put, List.setIfInBounds_toArray, List.set_cons_zero, List.set_cons_succ])
              refine wpAnyH_take (i := 16) (oi := { dst := Option.some 76, op := Go.Op.binOp Go.BinOp.gtr 3 (Go.Operand.tmp 75) (Go.Operand.const (Go.Value.int Go.IntKind.i64 0)) 3, type := 4, pos := "law.go:109", after := #[{ on := 15, ground := Go.Ground.data }, { on := 14, ground := Go.Ground.guard }], guard := Option.some (14, Bool.false) }) (v := ?_) rfl (by kernel_rfl) (by kernel_rfl) (by kernel_rfl) (fun _ _ _ h => h) (Or.inl ⟨by rfl, ?hya16⟩) hHeld ?resta16
              case hya16 =>
                intro w hSw
                (try dsimp only at hSw)
                go_simp
                (try with_reducible rfl)
              (try simp only [Act.put, List.setIfInBounds_toArray, List.set_cons_zero, List.set_cons_succ])
              refine wpAnyH_take (i := 17) (oi := { dst := Option.some 77, op := Go.Op.move (Go.Operand.tmp 76), type := 4, pos := "law.go:109", after := #[{ on := 16, ground := Go.Ground.data }, { on := 14, ground := Go.Ground.chain }, { on := 14, ground := Go.Ground.guard }], guard := Option.some (14, Bool.false) }) (v := ?_) rfl (by kernel_rfl) (by kernel_rfl) (by kernel_rfl) (fun _ _ _ h => h) (Or.inl ⟨by rfl, ?hya17⟩) hHeld ?resta17
              case hya17 =>
                intro w hSw
                (try dsimp only at hSw)
                go_simp
                (try with_reducible rfl)
              (try simp only [Act.put, List.setIfInBounds_toArray, List.set_cons_zero, List.set_cons_succ])
              refine wpAnyH_take (i := 18) (oi := { dst := Option.some 78, op := Go.Op.move (Go.Operand.tmp 8), type := 33, pos := "law.go:109", after := #[{ on := 17, ground := Go.Ground.guard }], guard := Option.some (17, Bool.true) }) (v := undef) rfl (by kernel_rfl) (by kernel_rfl) (by kernel_rfl) (fun _ _ _ h => h) (Or.inr ⟨by rfl, rfl⟩) hHeld ?_
              (try simp only [Act.put, List.setIfInBounds_toArray, List.set_cons_zero, List.set_cons_succ])
              refine wpAnyH_take (i := 19) (oi := { dst := Option.some 79, op := Go.Op.move (Go.Operand.tmp 11), type := 3, pos := "law.go:109", after := #[{ on := 17, ground := Go.Ground.guard }], guard := Option.some (17, Bool.true) }) (v := undef) rfl (by kernel_rfl) (by kernel_rfl) (by kernel_rfl) (fun _ _ _ h => h) (Or.inr ⟨by rfl, rfl⟩) hHeld ?_
              (try simp only [Act.put, List.setIfInBounds_toArray, List.set_cons_zero, List.set_cons_succ])
              refine wpAnyH_take (i := 20) (oi := { dst := Option.some 80, op := Go.Op.indexAddr 33 (Go.Operand.tmp 78) (Go.Operand.tmp 79), type := 0, pos := "law.go:109", after := #[{ on := 18, ground := Go.Ground.data }, { on := 19, ground := Go.Ground.data }, { on := 17, ground := Go.Ground.guard }], guard := Option.some (17, Bool.true) }) (v := undef) rfl (by kernel_rfl) (by kernel_rfl) (by kernel_rfl) (fun _ _ _ h => h) (Or.inr ⟨by rfl, rfl⟩) hHeld ?_
              (try simp only [Act.put, List.setIfInBounds_toArray, List.set_cons_zero, List.set_cons_succ])
              refine wpAnyH_take (i := 21) (oi := { dst := Option.some 81, op := Go.Op.load 3 (Go.Operand.tmp 80), type := 3, pos := "law.go:109", after := #[{ on := 20, ground := Go.Ground.data }, { on := 17, ground := Go.Ground.guard }], guard := Option.some (17, Bool.true) }) (v := undef) rfl (by kernel_rfl) (by kernel_rfl) (by kernel_rfl) (fun _ _ _ h => h) (Or.inr ⟨by rfl, rfl⟩) hHeld ?_
              (try simp only [Act.put, List.setIfInBounds_toArray, List.set_cons_zero, List.set_cons_succ])
              refine wpAnyH_take (i := 22) (oi := { dst := Option.some 82, op := Go.Op.move (Go.Operand.tmp 8), type := 33, pos := "law.go:109", after := #[{ on := 17, ground := Go.Ground.guard }], guard := Option.some (17, Bool.true) }) (v := undef) rfl (by kernel_rfl) (by kernel_rfl) (by kernel_rfl) (fun _ _ _ h => h) (Or.inr ⟨by rfl, rfl⟩) hHeld ?_
              (try simp only [Act.put, List.setIfInBounds_toArray, List.set_cons_zero, List.set_cons_succ])
              refine wpAnyH_take (i := 23) (oi := { dst := Option.some 83, op := Go.Op.move (Go.Operand.tmp 11), type := 3, pos := "law.go:109", after := #[{ on := 17, ground := Go.Ground.guard }], guard := Option.some (17, Bool.true) }) (v := undef) rfl (by kernel_rfl) (by kernel_rfl) (by kernel_rfl) (fun _ _ _ h => h) (Or.inr ⟨by rfl, rfl⟩) hHeld ?_
              (try simp only [Act.put, List.setIfInBounds_toArray, List.set_cons_zero, List.set_cons_succ])
              refine wpAnyH_take (i := 24) (oi := { dst := Option.some 84, op := Go.Op.binOp Go.BinOp.sub 3 (Go.Operand.tmp 83) (Go.Operand.const (Go.Value.int Go.IntKind.i64 1)) 3, type := 3, pos := "law.go:109", after := #[{ on := 23, ground := Go.Ground.data }, { on := 17, ground := Go.Ground.guard }], guard := Option.some (17, Bool.true) }) (v := undef) rfl (by kernel_rfl) (by kernel_rfl) (by kernel_rfl) (fun _ _ _ h => h) (Or.inr ⟨by rfl, rfl⟩) hHeld ?_
              (try simp only [Act.put, List.setIfInBounds_toArray, List.set_cons_zero, List.set_cons_succ])
              refine wpAnyH_take (i := 25) (oi := { dst := Option.some 85, op := Go.Op.indexAddr 33 (Go.Operand.tmp 82) (Go.Operand.tmp 84), type := 0, pos := "law.go:109", after := #[{ on := 22, ground := Go.Ground.data }, { on := 24, ground := Go.Ground.data }, { on := 17, ground := Go.Ground.guard }], guard := Option.some (17, Bool.true) }) (v := undef) rfl (by kernel_rfl) (by kernel_rfl) (by kernel_rfl) (fun _ _ _ h => h) (Or.inr ⟨by rfl, rfl⟩) hHeld ?_
              (try simp only [Act.put, List.setIfInBounds_toArray, List.set_cons_zero, List.set_cons_succ])
              refine wpAnyH_take (i := 26) (oi := { dst := Option.some 86, op := Go.Op.load 3 (Go.Operand.tmp 85), type := 3, pos := "law.go:109", after := #[{ on := 25, ground := Go.Ground.data }, { on := 17, ground := Go.Ground.guard }], guard := Option.some (17, Bool.true) }) (v := undef) rfl (by kernel_rfl) (by kernel_rfl) (by kernel_rfl) (fun _ _ _ h => h) (Or.inr ⟨by rfl, rfl⟩) hHeld ?_
              (try simp only [Act.put, List.setIfInBounds_toArray, List.set_cons_zero, List.set_cons_succ])
              refine wpAnyH_take (i := 27) (oi := { dst := Option.some 87, op := Go.Op.binOp Go.BinOp.leq 3 (Go.Operand.tmp 81) (Go.Operand.tmp 86) 3, type := 4, pos := "law.go:109", after := #[{ on := 21, ground := Go.Ground.data }, { on := 26, ground := Go.Ground.data }, { on := 17, ground := Go.Ground.guard }], guard := Option.some (17, Bool.true) }) (v := undef) rfl (by kernel_rfl) (by kernel_rfl) (by kernel_rfl) (fun _ _ _ h => h) (Or.inr ⟨by rfl, rfl⟩) hHeld ?_
              (try simp only [Act.put, List.setIfInBounds_toArray, List.set_cons_zero, List.set_cons_succ])
              refine wpAnyH_take (i := 28) (oi := { dst := Option.some 88, op := Go.Op.pick (Go.Operand.tmp 77) (Go.Operand.tmp 87) (Go.Operand.const (Go.Value.bool Bool.false)), type := 4, pos := "law.go:109", after := #[{ on := 17, ground := Go.Ground.data }, { on := 27, ground := Go.Ground.data }, { on := 14, ground := Go.Ground.guard }], guard := Option.some (14, Bool.false) }) (v := ?_) rfl (by kernel_rfl) (by kernel_rfl) (by kernel_rfl) (fun _ _ _ h => h) (Or.inl ⟨by rfl, ?hya28⟩) hHeld ?resta28
              case hya28 =>
                intro w hSw
                (try dsimp only at hSw)
                go_simp
                (try with_reducible rfl)
              (try simp only [Act.put, List.setIfInBounds_toArray, List.set_cons_zero, List.set_cons_succ])
              refine wpAnyH_take (i := 29) (oi := { dst := Option.some 89, op := Go.Op.pick (Go.Operand.tmp 74) (Go.Operand.const (Go.Value.bool Bool.true)) (Go.Operand.tmp 88), type := 4, pos := "law.go:109", after := #[{ on := 14, ground := Go.Ground.data }, { on := 28, ground := Go.Ground.data }], guard := Option.none }) (v := ?_) rfl (by kernel_rfl) (by kernel_rfl) (by kernel_rfl) (fun _ _ _ h => h) (Or.inl ⟨by rfl, ?hya29⟩) hHeld ?resta29
              case hya29 =>
                intro w hSw
                (try dsimp only at hSw)
                go_simp
                (try with_reducible rfl)
              (try simp only [Act.put, List.setIfInBounds_toArray, List.set_cons_zero, List.set_cons_succ])
              refine wpAnyH_done (by kernel_rfl) ?_ _
              clear hHeld
              go_wp2_with fail
              go_meet
              case rel => exact ⟨rfl, rfl⟩
            · obtain ⟨j', ej'⟩ : ∃ j', j = j' + 1 := ⟨j - 1, by omega⟩
              have hj'L : j' < L.length := by omega
              obtain ⟨m', hmn', em', _⟩ := HLT.out j' hj'L
              obtain ⟨rg', ro', e1', _, hcr'⟩ := HRC.out j' hj'L
              cases e1'
              rw [em'] at hcr'
              have cr' := (HBj.out.cell (p := ⟨rg, ro + j', none⟩) hrg).trans hcr'
              have hlt : (m' : Int) < (m : Int) := by
                subst ej'
                have h1 := HLS.out j' hjL
                rw [em', EM.out] at h1
                exact h1
              have b3 : decide ((m : Int) ≤ (m' : Int)) = false := by simp; omega
              have b3D : decide (m ≤ m') = false := by simp; omega
              have b3N : ¬ m ≤ m' := by omega
              have b4 : ((j : Int) - 1) = (j' : Int) := by omega
              have b5 : decide ((0 : Int) < (j : Int)) = true := decide_eq_true (by omega)
              have b5D : decide (0 < j) = true := decide_eq_true (by omega)
              have b5N : 0 < j := by omega
              have hj'k : j' < kL := by omega
              have hj'I : (j' : Int) < (kL : Int) := by omega
              have b6 : IntKind.i64.wrap (j' : Int) = (j' : Int) := by rw [IntKind.wrap_i64]; omega
              have S2 : (fun W : World => W.cell? ⟨rg, ro + j, none⟩ = some (.int .i64 (m : Int)) ∧ W.cell? ⟨rg, ro + j', none⟩ = some (.int .i64 (m' : Int))) wr.drew := ⟨cr, cr'⟩
              clear hcr' hj0 em' ej' cr cr'
              refine wp_region_held_drew (S := (fun W : World => W.cell? ⟨rg, ro + j, none⟩ = some (.int .i64 (m : Int)) ∧ W.cell? ⟨rg, ro + j', none⟩ = some (.int .i64 (m' : Int)))) (by kernel_rfl) S2 (fun hHeld => ?_)
              refine wpAnyH_take (i := 0) (oi := { dst := Option.some 60, op := Go.Op.move (Go.Operand.tmp 8), type := 33, pos := "law.go:109", after := #[], guard := Option.none }) (v := ?_) rfl (by kernel_rfl) (by kernel_rfl) (by kernel_rfl) (fun _ _ _ h => h) (Or.inl ⟨by rfl, ?hyb0⟩) hHeld ?restb0
              case hyb0 =>
                intro w hSw
                (try dsimp only at hSw)
                go_simp
                (try with_reducible rfl)
              (try simp only [Act.put, List.setIfInBounds_toArray, List.set_cons_zero, List.set_cons_succ])
              refine wpAnyH_take (i := 1) (oi := { dst := Option.some 61, op := Go.Op.move (Go.Operand.tmp 11), type := 3, pos := "law.go:109", after := #[], guard := Option.none }) (v := ?_) rfl (by kernel_rfl) (by kernel_rfl) (by kernel_rfl) (fun _ _ _ h => h) (Or.inl ⟨by rfl, ?hyb1⟩) hHeld ?restb1
              case hyb1 =>
                intro w hSw
                (try dsimp only at hSw)
                go_simp
                (try with_reducible rfl)
              (try simp only [Act.put, List.setIfInBounds_toArray, List.set_cons_zero, List.set_cons_succ])
              refine wpAnyH_take (i := 2) (oi := { dst := Option.some 62, op := Go.Op.indexAddr 33 (Go.Operand.tmp 60) (Go.Operand.tmp 61), type := 0, pos := "law.go:109", after := #[{ on := 0, ground := Go.Ground.data }, { on := 1, ground := Go.Ground.data }], guard := Option.none }) (v := ?_) rfl (by kernel_rfl) (by kernel_rfl) (by kernel_rfl) (fun _ _ _ h => h) (Or.inl ⟨by rfl, ?hyb2⟩) hHeld ?restb2
              case hyb2 =>
                intro w hSw
                (try dsimp only at hSw)
                go_simp
                (try with_reducible rfl)
              (try simp only [Act.put, List.setIfInBounds_toArray, List.set_cons_zero, List.set_cons_succ])
              refine wpAnyH_take (i := 3) (oi := { dst := Option.some 63, op := Go.Op.load 3 (Go.Operand.tmp 62), type := 3, pos := "law.go:109", after := #[{ on := 2, ground := Go.Ground.data }], guard := Option.none }) (v := ?_) rfl (by kernel_rfl) (by kernel_rfl) (by kernel_rfl) (fun _ _ _ h => h) (Or.inl ⟨by rfl, ?hyb3⟩) hHeld ?restb3
              case hyb3 =>
                intro w hSw
                (try dsimp only at hSw)
                go_simp
                (try with_reducible rfl)
              (try simp only [Act.put, List.setIfInBounds_toArray, List.set_cons_zero, List.set_cons_succ])
              refine wpAnyH_take (i := 4) (oi := { dst := Option.some 64, op := Go.Op.binOp Go.BinOp.lss 3 (Go.Operand.tmp 63) (Go.Operand.const (Go.Value.int Go.IntKind.i64 0)) 3, type := 4, pos := "law.go:109", after := #[{ on := 3, ground := Go.Ground.data }], guard := Option.none }) (v := ?_) rfl (by kernel_rfl) (by kernel_rfl) (by kernel_rfl) (fun _ _ _ h => h) (Or.inl ⟨by rfl, ?hyb4⟩) hHeld ?restb4
              case hyb4 =>
                intro w hSw
                (try dsimp only at hSw)
                go_simp
                (try with_reducible rfl)
              (try simp only [Act.put, List.setIfInBounds_toArray, List.set_cons_zero, List.set_cons_succ])
              refine wpAnyH_take (i := 5) (oi := { dst := Option.some 65, op := Go.Op.move (Go.Operand.tmp 64), type := 4, pos := "law.go:109", after := #[{ on := 4, ground := Go.Ground.data }], guard := Option.none }) (v := ?_) rfl (by kernel_rfl) (by kernel_rfl) (by kernel_rfl) (fun _ _ _ h => h) (Or.inl ⟨by rfl, ?hyb5⟩) hHeld ?restb5
              case hyb5 =>
                intro w hSw
                (try dsimp only at hSw)
                go_simp
                (try with_reducible rfl)
              (try simp only [Act.put, List.setIfInBounds_toArray, List.set_cons_zero, List.set_cons_succ])
              refine wpAnyH_take (i := 6) (oi := { dst := Option.some 66, op := Go.Op.move (Go.Operand.tmp 8), type := 33, pos := "law.go:109", after := #[{ on := 5, ground := Go.Ground.guard }], guard := Option.some (5, Bool.false) }) (v := ?_) rfl (by kernel_rfl) (by kernel_rfl) (by kernel_rfl) (fun _ _ _ h => h) (Or.inl ⟨by rfl, ?hyb6⟩) hHeld ?restb6
              case hyb6 =>
                intro w hSw
                (try dsimp only at hSw)
                go_simp
                (try with_reducible rfl)
              (try simp only [Act.put, List.setIfInBounds_toArray, List.set_cons_zero, List.set_cons_succ])
              refine wpAnyH_take (i := 7) (oi := { dst := Option.some 67, op := Go.Op.move (Go.Operand.tmp 11), type := 3, pos := "law.go:109", after := #[{ on := 5, ground := Go.Ground.guard }], guard := Option.some (5, Bool.false) }) (v := ?_) rfl (by kernel_rfl) (by kernel_rfl) (by kernel_rfl) (fun _ _ _ h => h) (Or.inl ⟨by rfl, ?hyb7⟩) hHeld ?restb7
              case hyb7 =>
                intro w hSw
                (try dsimp only at hSw)
                go_simp
                (try with_reducible rfl)
              (try simp only [Act.put, List.setIfInBounds_toArray, List.set_cons_zero, List.set_cons_succ])
              refine wpAnyH_take (i := 8) (oi := { dst := Option.some 68, op := Go.Op.indexAddr 33 (Go.Operand.tmp 66) (Go.Operand.tmp 67), type := 0, pos := "law.go:109", after := #[{ on := 6, ground := Go.Ground.data }, { on := 7, ground := Go.Ground.data }, { on := 5, ground := Go.Ground.guard }], guard := Option.some (5, Bool.false) }) (v := ?_) rfl (by kernel_rfl) (by kernel_rfl) (by kernel_rfl) (fun _ _ _ h => h) (Or.inl ⟨by rfl, ?hyb8⟩) hHeld ?restb8
              case hyb8 =>
                intro w hSw
                (try dsimp only at hSw)
                go_simp
                (try with_reducible rfl)
              (try simp only [Act.put, List.setIfInBounds_toArray, List.set_cons_zero, List.set_cons_succ])
              refine wpAnyH_take (i := 9) (oi := { dst := Option.some 69, op := Go.Op.load 3 (Go.Operand.tmp 68), type := 3, pos := "law.go:109", after := #[{ on := 8, ground := Go.Ground.data }, { on := 5, ground := Go.Ground.guard }], guard := Option.some (5, Bool.false) }) (v := ?_) rfl (by kernel_rfl) (by kernel_rfl) (by kernel_rfl) (fun _ _ _ h => h) (Or.inl ⟨by rfl, ?hyb9⟩) hHeld ?restb9
              case hyb9 =>
                intro w hSw
                (try dsimp only at hSw)
                go_simp
                (try with_reducible rfl)
              (try simp only [Act.put, List.setIfInBounds_toArray, List.set_cons_zero, List.set_cons_succ])
              refine wpAnyH_take (i := 10) (oi := { dst := Option.some 70, op := Go.Op.move (Go.Operand.tmp 6), type := 30, pos := "law.go:109", after := #[{ on := 5, ground := Go.Ground.guard }], guard := Option.some (5, Bool.false) }) (v := ?_) rfl (by kernel_rfl) (by kernel_rfl) (by kernel_rfl) (fun _ _ _ h => h) (Or.inl ⟨by rfl, ?hyb10⟩) hHeld ?restb10
              case hyb10 =>
                intro w hSw
                (try dsimp only at hSw)
                go_simp
                (try with_reducible rfl)
              (try simp only [Act.put, List.setIfInBounds_toArray, List.set_cons_zero, List.set_cons_succ])
              refine wpAnyH_take (i := 11) (oi := { dst := Option.some 71, op := Go.Op.call { callee := Go.Callee.builtin Go.Builtin.len, args := #[Go.Operand.tmp 70], argTypes := #[30] }, type := 3, pos := "law.go:109", after := #[{ on := 10, ground := Go.Ground.data }, { on := 5, ground := Go.Ground.guard }], guard := Option.some (5, Bool.false) }) (v := ?_) rfl (by kernel_rfl) (by kernel_rfl) (by kernel_rfl) (fun _ _ _ h => h) (Or.inl ⟨by rfl, ?hyb11⟩) hHeld ?restb11
              case hyb11 =>
                intro w hSw
                (try dsimp only at hSw)
                go_simp
                (try with_reducible rfl)
              (try simp only [Act.put, List.setIfInBounds_toArray, List.set_cons_zero, List.set_cons_succ])
              refine wpAnyH_take (i := 12) (oi := { dst := Option.some 72, op := Go.Op.binOp Go.BinOp.geq 3 (Go.Operand.tmp 69) (Go.Operand.tmp 71) 3, type := 4, pos := "law.go:109", after := #[{ on := 9, ground := Go.Ground.data }, { on := 11, ground := Go.Ground.data }, { on := 5, ground := Go.Ground.guard }], guard := Option.some (5, Bool.false) }) (v := ?_) rfl (by kernel_rfl) (by kernel_rfl) (by kernel_rfl) (fun _ _ _ h => h) (Or.inl ⟨by rfl, ?hyb12⟩) hHeld ?restb12
              case hyb12 =>
                intro w hSw
                (try dsimp only at hSw)
                go_simp
                (try with_reducible rfl)
              (try simp only [Act.put, List.setIfInBounds_toArray, List.set_cons_zero, List.set_cons_succ])
              refine wpAnyH_take (i := 13) (oi := { dst := Option.some 73, op := Go.Op.pick (Go.Operand.tmp 65) (Go.Operand.const (Go.Value.bool Bool.true)) (Go.Operand.tmp 72), type := 4, pos := "law.go:109", after := #[{ on := 5, ground := Go.Ground.data }, { on := 12, ground := Go.Ground.data }], guard := Option.none }) (v := ?_) rfl (by kernel_rfl) (by kernel_rfl) (by kernel_rfl) (fun _ _ _ h => h) (Or.inl ⟨by rfl, ?hyb13⟩) hHeld ?restb13
              case hyb13 =>
                intro w hSw
                (try dsimp only at hSw)
                go_simp
                (try with_reducible rfl)
              (try simp only [Act.put, List.setIfInBounds_toArray, List.set_cons_zero, List.set_cons_succ])
              refine wpAnyH_take (i := 14) (oi := { dst := Option.some 74, op := Go.Op.move (Go.Operand.tmp 73), type := 4, pos := "law.go:109", after := #[{ on := 13, ground := Go.Ground.data }, { on := 5, ground := Go.Ground.chain }], guard := Option.none }) (v := ?_) rfl (by kernel_rfl) (by kernel_rfl) (by kernel_rfl) (fun _ _ _ h => h) (Or.inl ⟨by rfl, ?hyb14⟩) hHeld ?restb14
              case hyb14 =>
                intro w hSw
                (try dsimp only at hSw)
                go_simp
                (try with_reducible rfl)
              (try simp only [Act.put, List.setIfInBounds_toArray, List.set_cons_zero, List.set_cons_succ])
              refine wpAnyH_take (i := 15) (oi := { dst := Option.some 75, op := Go.Op.move (Go.Operand.tmp 11), type := 3, pos := "law.go:109", after := #[{ on := 14, ground := Go.Ground.guard }], guard := Option.some (14, Bool.false) }) (v := ?_) rfl (by kernel_rfl) (by kernel_rfl) (by kernel_rfl) (fun _ _ _ h => h) (Or.inl ⟨by rfl, ?hyb15⟩) hHeld ?restb15
              case hyb15 =>
                intro w hSw
                (try dsimp only at hSw)
                go_simp
                (try with_reducible rfl)
              (try simp only [Act.put, List.setIfInBounds_toArray, List.set_cons_zero, List.set_cons_succ])
              refine wpAnyH_take (i := 16) (oi := { dst := Option.some 76, op := Go.Op.binOp Go.BinOp.gtr 3 (Go.Operand.tmp 75) (Go.Operand.const (Go.Value.int Go.IntKind.i64 0)) 3, type := 4, pos := "law.go:109", after := #[{ on := 15, ground := Go.Ground.data }, { on := 14, ground := Go.Ground.guard }], guard := Option.some (14, Bool.false) }) (v := ?_) rfl (by kernel_rfl) (by kernel_rfl) (by kernel_rfl) (fun _ _ _ h => h) (Or.inl ⟨by rfl, ?hyb16⟩) hHeld ?restb16
              case hyb16 =>
                intro w hSw
                (try dsimp only at hSw)
                go_simp
                (try with_reducible rfl)
              (try simp only [Act.put, List.setIfInBounds_toArray, List.set_cons_zero, List.set_cons_succ])
              refine wpAnyH_take (i := 17) (oi := { dst := Option.some 77, op := Go.Op.move (Go.Operand.tmp 76), type := 4, pos := "law.go:109", after := #[{ on := 16, ground := Go.Ground.data }, { on := 14, ground := Go.Ground.chain }, { on := 14, ground := Go.Ground.guard }], guard := Option.some (14, Bool.false) }) (v := ?_) rfl (by kernel_rfl) (by kernel_rfl) (by kernel_rfl) (fun _ _ _ h => h) (Or.inl ⟨by rfl, ?hyb17⟩) hHeld ?restb17
              case hyb17 =>
                intro w hSw
                (try dsimp only at hSw)
                go_simp
                (try with_reducible rfl)
              (try simp only [Act.put, List.setIfInBounds_toArray, List.set_cons_zero, List.set_cons_succ])
              refine wpAnyH_take (i := 18) (oi := { dst := Option.some 78, op := Go.Op.move (Go.Operand.tmp 8), type := 33, pos := "law.go:109", after := #[{ on := 17, ground := Go.Ground.guard }], guard := Option.some (17, Bool.true) }) (v := ?_) rfl (by kernel_rfl) (by kernel_rfl) (by kernel_rfl) (fun _ _ _ h => h) (Or.inl ⟨by rfl, ?hyb18⟩) hHeld ?restb18
              case hyb18 =>
                intro w hSw
                (try dsimp only at hSw)
                go_simp
                (try with_reducible rfl)
              (try simp only [Act.put, List.setIfInBounds_toArray, List.set_cons_zero, List.set_cons_succ])
              refine wpAnyH_take (i := 19) (oi := { dst := Option.some 79, op := Go.Op.move (Go.Operand.tmp 11), type := 3, pos := "law.go:109", after := #[{ on := 17, ground := Go.Ground.guard }], guard := Option.some (17, Bool.true) }) (v := ?_) rfl (by kernel_rfl) (by kernel_rfl) (by kernel_rfl) (fun _ _ _ h => h) (Or.inl ⟨by rfl, ?hyb19⟩) hHeld ?restb19
              case hyb19 =>
                intro w hSw
                (try dsimp only at hSw)
                go_simp
                (try with_reducible rfl)
              (try simp only [Act.put, List.setIfInBounds_toArray, List.set_cons_zero, List.set_cons_succ])
              refine wpAnyH_take (i := 20) (oi := { dst := Option.some 80, op := Go.Op.indexAddr 33 (Go.Operand.tmp 78) (Go.Operand.tmp 79), type := 0, pos := "law.go:109", after := #[{ on := 18, ground := Go.Ground.data }, { on := 19, ground := Go.Ground.data }, { on := 17, ground := Go.Ground.guard }], guard := Option.some (17, Bool.true) }) (v := ?_) rfl (by kernel_rfl) (by kernel_rfl) (by kernel_rfl) (fun _ _ _ h => h) (Or.inl ⟨by rfl, ?hyb20⟩) hHeld ?restb20
              case hyb20 =>
                intro w hSw
                (try dsimp only at hSw)
                go_simp
                (try with_reducible rfl)
              (try simp only [Act.put, List.setIfInBounds_toArray, List.set_cons_zero, List.set_cons_succ])
              refine wpAnyH_take (i := 21) (oi := { dst := Option.some 81, op := Go.Op.load 3 (Go.Operand.tmp 80), type := 3, pos := "law.go:109", after := #[{ on := 20, ground := Go.Ground.data }, { on := 17, ground := Go.Ground.guard }], guard := Option.some (17, Bool.true) }) (v := ?_) rfl (by kernel_rfl) (by kernel_rfl) (by kernel_rfl) (fun _ _ _ h => h) (Or.inl ⟨by rfl, ?hyb21⟩) hHeld ?restb21
              case hyb21 =>
                intro w hSw
                (try dsimp only at hSw)
                go_simp
                (try with_reducible rfl)
              (try simp only [Act.put, List.setIfInBounds_toArray, List.set_cons_zero, List.set_cons_succ])
              refine wpAnyH_take (i := 22) (oi := { dst := Option.some 82, op := Go.Op.move (Go.Operand.tmp 8), type := 33, pos := "law.go:109", after := #[{ on := 17, ground := Go.Ground.guard }], guard := Option.some (17, Bool.true) }) (v := ?_) rfl (by kernel_rfl) (by kernel_rfl) (by kernel_rfl) (fun _ _ _ h => h) (Or.inl ⟨by rfl, ?hyb22⟩) hHeld ?restb22
              case hyb22 =>
                intro w hSw
                (try dsimp only at hSw)
                go_simp
                (try with_reducible rfl)
              (try simp only [Act.put, List.setIfInBounds_toArray, List.set_cons_zero, List.set_cons_succ])
              refine wpAnyH_take (i := 23) (oi := { dst := Option.some 83, op := Go.Op.move (Go.Operand.tmp 11), type := 3, pos := "law.go:109", after := #[{ on := 17, ground := Go.Ground.guard }], guard := Option.some (17, Bool.true) }) (v := ?_) rfl (by kernel_rfl) (by kernel_rfl) (by kernel_rfl) (fun _ _ _ h => h) (Or.inl ⟨by rfl, ?hyb23⟩) hHeld ?restb23
              case hyb23 =>
                intro w hSw
                (try dsimp only at hSw)
                go_simp
                (try with_reducible rfl)
              (try simp only [Act.put, List.setIfInBounds_toArray, List.set_cons_zero, List.set_cons_succ])
              refine wpAnyH_take (i := 24) (oi := { dst := Option.some 84, op := Go.Op.binOp Go.BinOp.sub 3 (Go.Operand.tmp 83) (Go.Operand.const (Go.Value.int Go.IntKind.i64 1)) 3, type := 3, pos := "law.go:109", after := #[{ on := 23, ground := Go.Ground.data }, { on := 17, ground := Go.Ground.guard }], guard := Option.some (17, Bool.true) }) (v := ?_) rfl (by kernel_rfl) (by kernel_rfl) (by kernel_rfl) (fun _ _ _ h => h) (Or.inl ⟨by rfl, ?hyb24⟩) hHeld ?restb24
              case hyb24 =>
                intro w hSw
                (try dsimp only at hSw)
                go_simp
                (try with_reducible rfl)
              (try simp only [Act.put, List.setIfInBounds_toArray, List.set_cons_zero, List.set_cons_succ])
              refine wpAnyH_take (i := 25) (oi := { dst := Option.some 85, op := Go.Op.indexAddr 33 (Go.Operand.tmp 82) (Go.Operand.tmp 84), type := 0, pos := "law.go:109", after := #[{ on := 22, ground := Go.Ground.data }, { on := 24, ground := Go.Ground.data }, { on := 17, ground := Go.Ground.guard }], guard := Option.some (17, Bool.true) }) (v := ?_) rfl (by kernel_rfl) (by kernel_rfl) (by kernel_rfl) (fun _ _ _ h => h) (Or.inl ⟨by rfl, ?hyb25⟩) hHeld ?restb25
              case hyb25 =>
                intro w hSw
                (try dsimp only at hSw)
                go_simp
                (try with_reducible rfl)
              (try simp only [Act.put, List.setIfInBounds_toArray, List.set_cons_zero, List.set_cons_succ])
              refine wpAnyH_take (i := 26) (oi := { dst := Option.some 86, op := Go.Op.load 3 (Go.Operand.tmp 85), type := 3, pos := "law.go:109", after := #[{ on := 25, ground := Go.Ground.data }, { on := 17, ground := Go.Ground.guard }], guard := Option.some (17, Bool.true) }) (v := ?_) rfl (by kernel_rfl) (by kernel_rfl) (by kernel_rfl) (fun _ _ _ h => h) (Or.inl ⟨by rfl, ?hyb26⟩) hHeld ?restb26
              case hyb26 =>
                intro w hSw
                (try dsimp only at hSw)
                go_simp
                (try with_reducible rfl)
              (try simp only [Act.put, List.setIfInBounds_toArray, List.set_cons_zero, List.set_cons_succ])
              refine wpAnyH_take (i := 27) (oi := { dst := Option.some 87, op := Go.Op.binOp Go.BinOp.leq 3 (Go.Operand.tmp 81) (Go.Operand.tmp 86) 3, type := 4, pos := "law.go:109", after := #[{ on := 21, ground := Go.Ground.data }, { on := 26, ground := Go.Ground.data }, { on := 17, ground := Go.Ground.guard }], guard := Option.some (17, Bool.true) }) (v := ?_) rfl (by kernel_rfl) (by kernel_rfl) (by kernel_rfl) (fun _ _ _ h => h) (Or.inl ⟨by rfl, ?hyb27⟩) hHeld ?restb27
              case hyb27 =>
                intro w hSw
                (try dsimp only at hSw)
                go_simp
                (try with_reducible rfl)
              (try simp only [Act.put, List.setIfInBounds_toArray, List.set_cons_zero, List.set_cons_succ])
              refine wpAnyH_take (i := 28) (oi := { dst := Option.some 88, op := Go.Op.pick (Go.Operand.tmp 77) (Go.Operand.tmp 87) (Go.Operand.const (Go.Value.bool Bool.false)), type := 4, pos := "law.go:109", after := #[{ on := 17, ground := Go.Ground.data }, { on := 27, ground := Go.Ground.data }, { on := 14, ground := Go.Ground.guard }], guard := Option.some (14, Bool.false) }) (v := ?_) rfl (by kernel_rfl) (by kernel_rfl) (by kernel_rfl) (fun _ _ _ h => h) (Or.inl ⟨by rfl, ?hyb28⟩) hHeld ?restb28
              case hyb28 =>
                intro w hSw
                (try dsimp only at hSw)
                go_simp
                (try with_reducible rfl)
              (try simp only [Act.put, List.setIfInBounds_toArray, List.set_cons_zero, List.set_cons_succ])
              refine wpAnyH_take (i := 29) (oi := { dst := Option.some 89, op := Go.Op.pick (Go.Operand.tmp 74) (Go.Operand.const (Go.Value.bool Bool.true)) (Go.Operand.tmp 88), type := 4, pos := "law.go:109", after := #[{ on := 14, ground := Go.Ground.data }, { on := 28, ground := Go.Ground.data }], guard := Option.none }) (v := ?_) rfl (by kernel_rfl) (by kernel_rfl) (by kernel_rfl) (fun _ _ _ h => h) (Or.inl ⟨by rfl, ?hyb29⟩) hHeld ?restb29
              case hyb29 =>
                intro w hSw
                (try dsimp only at hSw)
                go_simp
                (try with_reducible rfl)
              (try simp only [Act.put, List.setIfInBounds_toArray, List.set_cons_zero, List.set_cons_succ])
              refine wpAnyH_done (by kernel_rfl) ?_ _
              clear hHeld
              go_wp2_with fail
              go_meet
              case rel => exact ⟨rfl, rfl⟩
          case rest =>
            obtain ⟨rfl, hwx⟩ := hcut
            have hwx := hwx.symm
            subst hwx
            obtain ⟨wd, hwd⟩ : ∃ wd, wd = wr.drew := ⟨_, rfl⟩
            rw [← hwd]
            have HBd : Hid (Below w3.heap.size w3 wd) := by rw [hwd]; exact HBj.out.drew
            have crd : wd.cell? ⟨rg, ro + j, none⟩ = some (.int .i64 (m : Int)) := by rw [hwd]; exact cr
            clear hwd cr hrgl
            obtain ⟨uso, ucap, e5, hul, hur⟩ := HUM3.out
            have hmU : m < (rs.map (usR (nmL rs))).length := by rw [List.length_map, ← HNl.out]; exact hmn
            obtain ⟨ug, uo, rv, e6, hug, hcu, rso, rcap, rfl, hrl, hrc⟩ := hur m hmU
            have e7 : uso = some ⟨ub, 0, none⟩ := by injection e5 with h1 h2 h3; exact h1.symm
            rw [e7] at e6
            cases e6
            clear e5 e7
            have cu : wd.cell? ⟨ub, 0 + m, none⟩ = some _ := (HBd.out.cell (p := ⟨ub, 0 + m, none⟩) (Nat.lt_of_lt_of_le hug HB23.out.size)).trans hcu
            rw [Nat.zero_add] at cu
            obtain ⟨u, hu⟩ : ∃ u, u = (rs.map (usR (nmL rs)))[m] := ⟨_, rfl⟩
            rw [← hu] at cu hrl
            have HRu : Hid (∀ q (hq : q < u.length), ∃ g o, rso = some ⟨g, o, none⟩ ∧ g < w2.heap.size ∧ w3.cell? ⟨g, o + q, none⟩ = some (.int .i64 u[q])) := by subst hu; exact hrc
            have HuL : Hid (∀ x ∈ u, x ∈ L) := fun x hx => (HL.out.2 x).2 (by
              obtain ⟨p, hp, ep⟩ := us_lt (rs := rs) (by omega) m x (by rw [List.getD_eq_getElem?_getD, List.getElem?_eq_getElem hmU, ← hu]; exact hx)
              refine ⟨p, ep, HM.out.step ?_⟩
              rw [List.getD_eq_getElem?_getD, List.getElem?_eq_getElem hmU, ← hu, ← ep]
              exact hx)
            obtain ⟨ku, hku⟩ : ∃ ku, ku = u.length := ⟨_, rfl⟩
            rw [← hku] at cu hrl
            have HKu : Hid (ku = u.length) := hku
            have lub : ub < wd.heap.size := World.block_lt_of_cell? _ _ cu
            have lrg : rg < wd.heap.size := World.block_lt_of_cell? _ _ crd
            have HHd := hid (fun x : Int => HH.out x wd HBd.out)
            clear hul hur hcu hrc hu hku
            go_wp2_with fail
            go_loop [12] (fun i => ∃ q : Nat, i = .int .i64 (q : Int) ∧ q ≤ ku) (fun i => ku - (intOf i).toNat)
            case atStart => exact ⟨0, rfl, Nat.zero_le _⟩
            case round =>
              obtain ⟨q, rfl, hq⟩ := hrel
              by_cases hqn : q < ku
              · have hqI : (q : Int) < (ku : Int) := by omega
                have a1 : decide ((q : Int) < (ku : Int)) = true := by simp; omega
                have hqu : q < u.length := by rw [← HKu.out]; exact hqn
                obtain ⟨qg, qo, rfl, hqg, hcq⟩ := HRu.out q hqu
                have cq : wd.cell? ⟨qg, qo + q, none⟩ = some (.int .i64 u[q]) := (HBd.out.cell (p := ⟨qg, qo + q, none⟩) (Nat.lt_of_lt_of_le hqg HB23.out.size)).trans hcq
                obtain ⟨y, hy⟩ : ∃ y, y = u[q] := ⟨_, rfl⟩
                rw [← hy] at cq
                have lqg : qg < wd.heap.size := World.block_lt_of_cell? _ _ cq
                have HHy := hid (HHd.out y)
                have hyL : decide (y ∈ L) = true := decide_eq_true (by rw [hy]; exact HuL.out _ (List.getElem_mem hqu))
                rw [hyL] at HHy
                clear hyL
                clear hcq hy
                go_wp2_with (first
                  | (go_at_call 26; refine HHy.out.mono ?_; clear HHy; rintro e w7 ⟨rfl, hw7⟩; rw [hw7]; clear hw7))
                exact ⟨⟨q + 1, by go_num, by omega⟩, by simp [intOf]; omega⟩
              · have a1 : decide ((q : Int) < (ku : Int)) = false := by simp; omega
                have HReM : Hid (∀ W : World, Hid (Below w3.heap.size w3 W) → Calls Tryz.prog 13 #[.agg #[.slice so n cap], .int .i64 (m : Int)] W fun e w' => ∃ so5 sc5 L5, e = .returned (.tuple #[.slice so5 (List.length L5) sc5, .nilIface]) ∧ Hid (L5.length ≤ 64 ∧ (∀ x ∈ L5, x ∈ L) ∧ RowM w' w'.heap.size (.slice so5 L5.length sc5) L5) ∧ Below W.heap.size W w') := fun W hW => (HRe.out (m : Int) W (HBw3.out.trans (hW.out.mono HBw3.out.size))).mono fun e w' he => reach_sub (by have := HN64.out; have := HNl.out; omega) (by have := HNl.out; omega) HL.out HM.out he
                have HGd := hid ((HBd.out.block _ (node_lt HG3.out)).trans HG3.out)
                obtain ⟨xg, fg⟩ := one_cell HGd.out
                have lg := node_lt HGd.out
                have S1 : (fun W : World => Hid (Below w3.heap.size w3 W) ∧ W.cell? ⟨w.heap.size, 0, none⟩ = some (.slice so n cap) ∧ W.cell? ⟨rg, ro + j, none⟩ = some (.int .i64 (m : Int))) wd := ⟨HBd, xg, crd⟩
                have S2 : (fun W : World => Hid (Below w3.heap.size w3 W) ∧ W.cell? ⟨w.heap.size, 0, none⟩ = some (.slice so n cap) ∧ W.cell? ⟨rg, ro + j, none⟩ = some (.int .i64 (m : Int))) wd.drew := ⟨hid HBd.out.drew, xg, crd⟩
                go_wp2_with fail
                go_region_held3 (fun W : World => Hid (Below w3.heap.size w3 W) ∧ W.cell? ⟨w.heap.size, 0, none⟩ = some (.slice so n cap) ∧ W.cell? ⟨rg, ro + j, none⟩ = some (.int .i64 (m : Int))) (first | assumption | exact keep_two (by assumption) (by assumption)) (first | (go_at_call 13; refine (HReM.out _ ?hh).mono ?_; (case hh => exact And.left (by assumption)); rintro e w5 ⟨so5, sc5, L5, rfl, h5, hb5⟩))
                have S5 := keep_two S2 hb5
                have HB5 := S5.1
                obtain ⟨h64, hsub, hR5⟩ := h5.out
                have HS5 : Hid (∀ x ∈ L5, x ∈ L) := hsub
                have HR5 : Hid (RowM w5 w5.heap.size (.slice so5 L5.length sc5) L5) := hR5
                have HH5 := hid (fun x : Int => HH.out x w5 HB5.out)
                obtain ⟨k5, hk5⟩ : ∃ k5, k5 = L5.length := ⟨_, rfl⟩
                rw [← hk5] at HR5 h64 ⊢
                have HK5 : Hid (k5 = L5.length) := hk5
                clear S1 S2 S5 hb5 h5 hsub hR5 hk5 xg fg crd cu
                go_wp2_with fail
                go_loop [16] (fun i => ∃ q : Nat, i = .int .i64 (q : Int) ∧ q ≤ k5) (fun i => k5 - (intOf i).toNat)
                case atStart => exact ⟨0, rfl, Nat.zero_le _⟩
                case round =>
                  obtain ⟨q2, rfl, hq2⟩ := hrel
                  by_cases hqn2 : q2 < k5
                  · have hqI2 : (q2 : Int) < (k5 : Int) := by omega
                    have a2 : decide ((q2 : Int) < (k5 : Int)) = true := by simp; omega
                    have hqu2 : q2 < L5.length := by rw [← HK5.out]; exact hqn2
                    obtain ⟨so6, cap6, e8, hl6, hc6⟩ := HR5.out
                    obtain ⟨qg, qo, e9, hqg, cq⟩ := hc6 q2 hqu2
                    have e10 : so5 = some ⟨qg, qo, none⟩ := by injection e8 with h1 h2 h3; rw [h1]; exact e9
                    subst e10
                    clear e8 e9
                    obtain ⟨y, hy⟩ : ∃ y, y = L5[q2] := ⟨_, rfl⟩
                    rw [← hy] at cq
                    have lqg : qg < w5.heap.size := World.block_lt_of_cell? _ _ cq
                    have HHy := hid (HH5.out y)
                    have hyL : decide (y ∈ L) = true := decide_eq_true (by rw [hy]; exact HS5.out _ (List.getElem_mem hqu2))
                    rw [hyL] at HHy
                    clear hyL hy hc6 hl6
                    go_wp2_with (first
                      | (go_at_call 26; refine HHy.out.mono ?_; clear HHy; rintro e w7 ⟨rfl, hw7⟩; rw [hw7]; clear hw7))
                    exact ⟨⟨q2 + 1, by go_num, by omega⟩, by simp [intOf]; omega⟩
                  · have a2 : decide ((q2 : Int) < (k5 : Int)) = false := by simp; omega
                    go_wp2_with fail
                    exact ⟨⟨j + 1, by go_num, by omega, HB5⟩, by simp [intOf]; omega⟩
        · have a0 : decide ((j : Int) < (kL : Int)) = false := by simp; omega
          have HBw := hid (HBw3.out.trans (HBj.out.mono HBw3.out.size))
          clear HH HRe
          go_wp2_with fail
          go_ret
          exact ⟨rfl, HBw.out⟩
end Go.Proofs.YtpfgdpdfhopccaaGreatDoor
namespace Go.Proofs.YtpfgdpdfhopccaaGreatDoor
open Go.ChangeShapes Go.WideShapes Go.RowKit
set_option linter.unusedVariables false
theorem Tryz.own : ownKnob Tryz.prog.godebug = none := by kernel_rfl
theorem Tryz.et : Tryz.prog.globalNamed "errors.errorType" = some 0 := by kernel_rfl
theorem Tryz.rt : (Tryz.prog.cutTypes.find? (·.1 == "internal/reflectlite.rtype")).map (·.2) = some 150 := by kernel_rfl
theorem Tryz.oneRow : ((List.range 270).filter fun t => Tryz.prog.rowNamed t [101, 114, 114, 111, 114]) = [28] := by kernel_rfl
theorem Tryz.nTypes : Tryz.prog.types.size = 270 := by kernel_rfl
theorem err_laid {W : World} {l : List (String × DataW Unit)} (h : handlesMet Tryz.prog l W) (hm : ("errors.errorType", Rows.laid_errors_errorType) ∈ l) : ErrIs W := by
  obtain ⟨name, u, ty, e1, e2, e3, e4, e5⟩ := h _ hm
  have en : name = [101, 114, 114, 111, 114] := (Option.some.inj e1).symm
  subst en
  obtain rfl := Option.some.inj (Tryz.rt.symm.trans e2)
  have hm : ty ∈ (List.range 270).filter fun t => Tryz.prog.rowNamed t [101, 114, 114, 111, 114] := List.mem_filter.2 ⟨List.mem_range.2 (by rw [← Tryz.nTypes]; exact e3), e4⟩
  rw [Tryz.oneRow] at hm
  obtain rfl := List.mem_singleton.1 hm
  have hh : typeHandle Tryz.prog 28 = .pointer (some ⟨3, 28, none⟩) := by kernel_rfl
  rw [hh] at e5
  have := World.var?_cell Tryz.et e5 0
  unfold ErrIs
  simpa using this
end Go.Proofs.YtpfgdpdfhopccaaGreatDoor
namespace Go.Proofs.YtpfgdpdfhopccaaGreatDoor
open Go.ChangeShapes Go.WideShapes Go.RowKit
set_option linter.unusedVariables false
theorem Tryz.laidOutW : laidOutB Tryz.prog = true := by kernel_rfl
theorem Tryz.gT : Tryz.prog.globalNamed "math/bits.deBruijn64tab" = some 2 := by kernel_rfl
theorem Tryz.gTType : (Tryz.prog.globals[2]?).map (·.type) = some 240 := by kernel_rfl
theorem Tryz.cellsTab : Tryz.prog.cellsOf 240 = 64 := by kernel_rfl
theorem Tryz.cellsU8 : Tryz.prog.cellsOf 5 = 1 := by kernel_rfl
theorem tab_laid {W : World} {rest : List (String × DataW Unit)} (h : laidMet Tryz.prog (("math/bits.deBruijn64tab", Rows.laid_math_bits_deBruijn64tab) :: rest) W) : TabIs W := by
  have hT : Lib.TabIs Tryz.prog W "math/bits.deBruijn64tab" .u8 (Lib.deBruijn64tab.map fun n : Nat => (n : Int)) := Lib.tabIs_of_head (rest := rest) Tryz.gT Tryz.gTType Tryz.underlying240 Tryz.underlying5 Tryz.cellsU8 Tryz.cellsTab h
  intro i hi
  have := hT.cell Tryz.gT i (by simp [Lib.deBruijn64tab]; omega)
  rw [this]
  congr 2
  simp only [List.getD, List.getElem?_map]
  cases Lib.deBruijn64tab[i]? <;> rfl
theorem two_laid {W : World} (h : laidMetH Tryz.prog [("math/bits.deBruijn64tab", Rows.laid_math_bits_deBruijn64tab), ("errors.errorType", Rows.laid_errors_errorType)] W) : ErrIs W ∧ TabIs W := by
  have h' : laidMet Tryz.prog [("math/bits.deBruijn64tab", Rows.laid_math_bits_deBruijn64tab)] W ∧ handlesMet Tryz.prog [("errors.errorType", Rows.laid_errors_errorType)] W := h
  exact ⟨err_laid h'.2 (List.mem_singleton.2 rfl), tab_laid (rest := []) h'.1⟩
end Go.Proofs.YtpfgdpdfhopccaaGreatDoor
namespace Go.Proofs.YtpfgdpdfhopccaaGreatDoor
open Go.ChangeShapes Go.WideShapes Go.ChangeAt Go.RowKit
set_option linter.unusedVariables false

theorem closed_met (os : Os) (args : Array Value) : laidMetH Tryz.prog Rows.scopeClosedRow.laid ((World.doorLaid Tryz.prog 400 os).forCall (fun _ _ => 0) ⟨#[], args, []⟩).memory :=
  laidMetH_of_parts3 (fuel := 8) (laidMet_of_run' 8 (by kernel_rfl) (by kernel_rfl)) (by kernel_rfl) (by kernel_rfl)

set_option maxRecDepth 100000 in
theorem closed_lifted (os : Os) (started : os.Started) (H : Type) (enc : TypeId × Value → H) :
    ReturnsInHanded {} Tryz.checked os 5 .any (fun w args => (Rows.scopeClosedSpec.pre enc Tryz.prog Tryz.f5 [] false w args ∧ laidMetH Tryz.prog Rows.scopeClosedRow.laid w) ∧ sizedMet enc Tryz.prog Tryz.f5 (OpenSpec.ofChange Rows.scopeClosedSpec) false w args)
      (Rows.scopeClosedSpec.post enc Tryz.prog Tryz.f5 false true false false) := by
  refine returnsInHanded_of_change_and (C := Tryz.checked) (X := fun w _ => laidMetH Tryz.prog Rows.scopeClosedRow.laid w) (fun _ _ _ hh h => h.of_heap hh) Tryz.own started (by kernel_rfl) Tryz.func5
    (ChangeSpec.witness_shaped (enc := enc) (C := Tryz.checked) (os := os) (X := fun w _ => laidMetH Tryz.prog Rows.scopeClosedRow.laid w) false (World.doorLaid Tryz.prog 400 os) #[.agg #[.slice none 0 0], .int .i64 0] 8 rfl (World.shaped_of_RefB (by kernel_rfl) (by kernel_rfl)) (by kernel_rfl) (by kernel_rfl) (by kernel_rfl) (closed_met os _)) ?_
  intro W base args ds gs before hval0 hW _ hsz0 hL _
  have hval : ∀ (j : Nat) t v, Tryz.f5.params[j]? = some t → args[j]? = some v → Value.okWide Tryz.prog W .any base t v := hval0
  have hW' := hW
  obtain ⟨p, q, hA0, hV, rfl, hfz, hnd⟩ := hW
  have hA : DataW.TrodAll enc Tryz.prog W 0 (fun _ => true) true Tryz.f5.params.toList args.toList ds p := hA0
  rw [Tryz.params5] at hA hval
  obtain ⟨v0, vs0, d0, ds0, p0, q0, hargs, rfl, rfl, h0, r0⟩ := trodAll_cons hA
  obtain ⟨v1, vs1, d1, ds1, p1, q1, rfl, rfl, rfl, h1, r1⟩ := trodAll_cons r0
  obtain ⟨rfl, rfl, rfl⟩ := trodAll_nil r1
  obtain rfl : args = #[v0, v1] := by cases args; simp_all
  obtain ⟨rfl, rfl⟩ := trodVars_none hV
  obtain ⟨a1, rfl, rfl, rfl, w1⟩ := open_int Tryz.underlying3 (hval 1 3 v1 rfl rfl) h1
  have bd1 := bounds_i64 w1
  have k0 := h0
  have lt0 : ∀ x ∈ p0, x.block < W.heap.size := by obtain ⟨m, hm⟩ := k0; exact DataW.trod_lt m _ _ _ hm
  obtain ⟨so0, n0, cap0, rs0, rfl, hg0, hz0, hu0⟩ := gram_arg (hval 0 24 v0 rfl rfl) h0
  clear hA0 hval0
  have hwalk : Calls Tryz.prog 5 #[.agg #[.slice so0 n0 cap0], .int .i64 a1] W fun e w' => e = .returned (.bool true) ∧ Below W.heap.size W w' := by
    exact closed_any a1 so0 n0 cap0 rs0 W (two_laid hL).1 (two_laid hL).2 hz0 hu0 hg0
  refine hwalk.mono fun e W' ⟨he, bel⟩ => ?_
  subst he
  exact ⟨_, rfl, _, _, _, [], _, [], hW', trodAll_mk1 (shut_bool Tryz.underlying4 _), (trodAll_cons_mk (Below.trod Tryz.laidOutW (by kernel_rfl) (of_decide_eq_true (by kernel_rfl)) k0 bel lt0) (trodAll_cons_mk (shut_int Tryz.underlying3 w1) trodAll_mk0)), rfl, bel.frame _, fun h => by cases h⟩

theorem closed_said : Rows.ScopeClosedSaid :=
  OpenClaim.holds_of_wide 5 Tryz.f5 rfl rfl rfl rfl rfl rfl rfl ⟨rfl, rfl, rfl, rfl, rfl⟩ rfl rfl rfl rfl rfl (by kernel_rfl) Tryz.func5 (by kernel_rfl)
    (of_decide_eq_true (by kernel_rfl)) (by unfold Func.isWrapper; first | (rw [if_pos (by decide +kernel)]; kernel_rfl) | (rw [if_neg (by decide +kernel)]; exact ⟨rfl, rfl⟩))
    (fun os started H enc _ => closed_lifted os started H enc)

/-- The statement. -/
theorem closed_proved : Rows.ScopeClosedCardSaid :=
  Claim7.holds_tied_plain_at .later [] _ _ _ _ closed_said (fun _ h => by cases h) (by kernel_rfl) (fun _ h => by cases h) scopeClosed_row_tie rfl ⟨rfl, rfl⟩ (by kernel_rfl) rfl
    (fun f fn hf hfn => by
      obtain rfl : f = 5 := Option.some.inj ((show Tryz.prog.funcNamed "muntin/muntinlaw06.ScopeClosed" = some 5 by kernel_rfl).symm.trans hf) |>.symm
      obtain rfl : fn = Tryz.f5 := (Option.some.inj (Tryz.func5.symm.trans hfn)).symm
      exact ⟨by kernel_rfl, fun j t ht => by
        rw [Tryz.params5] at ht
        have hm : t ∈ [24, 3] := by simpa using Array.mem_of_getElem? ht
        have hall : ([24, 3].all fun u => !Tryz.prog.wantsStandIn u) = true := by kernel_rfl
        exact (show Tryz.prog.wantsStandIn t = false by simpa using List.all_eq_true.1 hall t hm)⟩)
    (by kernel_rfl)
#print axioms closed_proved
end Go.Proofs.YtpfgdpdfhopccaaGreatDoor
