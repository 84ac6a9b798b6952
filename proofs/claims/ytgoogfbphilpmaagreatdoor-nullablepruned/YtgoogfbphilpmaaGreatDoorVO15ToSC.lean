/-
  What scope.Reach answers at any grammar. Conditions: those that each theorem names.
  What errors.As and api.Code answer at an Errno. Condition: package errors' own variable holds the handle of the type error.
  The small case of layer 6's laws. Conditions: those that each theorem names.
  What scope.Find answers at any grammar. Conditions: those that each theorem names.
  muntinlaw06.ScopeFinds answers true at any grammar and name. Conditions: those that each theorem names.
  What nullable.hasRules answers at any tree. Conditions: those that each theorem names.
  What printer.Expr answers. Conditions: those that each theorem names.
-/
import Derived.Test.YtgoogfbphilpmaaGreatDoorVO12ToU1
import Derived.Test.YtgoogfbphilpmaaGreatDoorVEAsToX11
import Derived.Deep.RegionHeld3
import Derived.Test.YtgoogfbphilpmaaGreatDoorVU9ToU11
import Derived.Test.YtgoogfbphilpmaaGreatDoorVS9
namespace Go.Proofs.YtgoogfbphilpmaaGreatDoor
open Go.RowKit Go.Shelf Go.Maps
set_option linter.unusedVariables false
theorem CkC.from {so : Option Addr} {n cap : Nat} {rs : List Rr} {X : Option (Int ⊕ (Int × Int))} {W W' : World} (h : CkC so n cap rs X W) (hW : Below W.heap.size W W') : CkC so n cap rs X W' := fun W2 h2 => h W2 (hW.trans (h2.mono hW.size))
end Go.Proofs.YtgoogfbphilpmaaGreatDoor
namespace Go.Proofs.YtgoogfbphilpmaaGreatDoor
open Go.RowKit Go.Extern.Stop Go.Stop Go.Extern
set_option linter.unusedVariables false
end Go.Proofs.YtgoogfbphilpmaaGreatDoor
namespace Go.Proofs.YtgoogfbphilpmaaGreatDoor
open Go.RowKit Go.Shelf
set_option linter.unusedVariables false
def xOf (rs : List Rr) : Option (Int ⊕ (Int × Int)) := (ckR rs).map .inr
theorem checked_nil (so : Option Addr) (n cap : Nat) (rs : List Rr) (B : Nat) (w : World) (hz : RgZ rs) (h : RgIs w B so n rs) (hB : B ≤ w.heap.size) (hTg : 2 < w.heap.size) (hok : okG rs = true) (hl : ∀ x ∈ rs, (rfT x.2.1).length ≤ 8192)
    (hR : ∀ W : World, Below w.heap.size w W → Calls Tryz.prog 67 #[.agg #[.slice so n cap]] W fun e w' => e = .returned .nilIface ∧ Below W.heap.size W w') : CkX rs (xOf rs) ∧ CkC so n cap rs (xOf rs) w := by
  have hC : ∀ W : World, Below w.heap.size w W → Calls Tryz.prog 44 #[.agg #[.slice so n cap]] W (CkP W rs) := fun W hW => callsIn_wide.1 (checked_ok so n cap rs W ((h.below (hW.mono hB)).upto (Nat.le_trans hB hW.size)) (by have := hW.size; omega) (hid hz) (hid fun W' hW' => hR W' (hW.trans (hW'.mono hW.size))) 0)
  unfold xOf
  cases hk : ckR rs with
  | none =>
    refine ⟨⟨hok, hk, hl⟩, fun W hW => (hC W hW).mono fun e w' he => ?_⟩
    obtain ⟨hb, ⟨c, p, g, h1, _⟩ | ⟨M, _, h2, h3, h4⟩⟩ := he
    · rw [hk] at h1; cases h1
    · exact ⟨_, _, h2, rfl, fun _ => ⟨M, rfl, h3, h4⟩, fun h => absurd rfl h, hb⟩
  | some q =>
    refine ⟨⟨hok, hk⟩, fun W hW => (hC W hW).mono fun e w' he => ?_⟩
    obtain ⟨hb, ⟨c, p, g, h1, h2, h3, h4⟩ | ⟨M, h1, _⟩⟩ := he
    · rw [hk] at h1
      cases h1
      exact ⟨_, _, h2, ⟨g, rfl, h3, h4⟩, (fun h => by cases h), fun _ => rfl, hb⟩
    · rw [hk] at h1; cases h1
/-- The same at what was read. -/
theorem checked_read {S : ByteArray} {rs : List Rl} (hS : S.size ≤ 8192) (hp : parS S = .inr rs) (h1 : sz (pR qT cT rs) ≤ 8192) (h2 : dR rs ≤ 24) (B g n cap : Nat) (W : World) (hr : RoR B (.slice (some ⟨g, 0, none⟩) n cap) rs W) (hT : TabIs W) :
    RgIs W W.heap.size (some ⟨g, 0, none⟩) n (toG rs) ∧ RgZ (toG rs) ∧ CkX (toG rs) (xOf (toG rs)) ∧ CkC (some ⟨g, 0, none⟩) n cap (toG rs) (xOf (toG rs)) W := by
  have hx : ∀ x ∈ rs, Ruk Nmq x := fun x hx => (par_ok hp x hx).1
  have hl := par_le hp
  have hi := toG_is hr (rll_mem (par_sm hS hp)) hl.1
  have hz := (ok_all (toG_q rs) hx).2
  have hT' := hT.lt
  refine ⟨hi, hz, checked_nil _ n cap (toG rs) W.heap.size W hz hi (Nat.le_refl _) hT' (okG_of (toG_q rs) hx hl.2 hl.1) (fun x hx' => Nat.le_trans (rf_mem (toG_q rs) hx x hx') h1) fun W' hW' => oright_of _ n cap (.string (cat (pR qT cT rs))) _ W' (hid fun W2 hW2 => ?_)⟩
  have hb : Below W.heap.size W W2 := hW'.trans (hW2.mono hW'.size)
  have := nprint_read hS hp B g n cap W2 (hr.below hb) (hT.below hb hT.lt)
  rw [ansT_ok h1 h2] at this
  exact this
end Go.Proofs.YtgoogfbphilpmaaGreatDoor
namespace Go.Proofs.YtgoogfbphilpmaaGreatDoor
open Go.RowKit Go.Shelf
set_option linter.unusedVariables false
/-- The place of the first rule of a name; -1: there is none. -/
def fdI (s : ByteArray) (l : List ByteArray) : Int := if inN s l then (ixN s l : Int) else -1
theorem inN_at {s : ByteArray} : ∀ {l : List ByteArray} {j : Nat} (hj : j < l.length), (∀ i (hi : i < l.length), i < j → l[i] ≠ s) → l[j] = s → inN s l = true ∧ ixN s l = j
  | [], j, hj, _, _ => by simp at hj
  | a :: r, 0, _, _, h => by
    have h : a = s := h
    rw [inN, ixN, if_pos h, if_pos h]
    exact ⟨rfl, rfl⟩
  | a :: r, j + 1, hj, hb, h => by
    have h0 : a ≠ s := hb 0 (by simp) (by omega)
    obtain ⟨i1, i2⟩ := inN_at (l := r) (j := j) (by simpa using hj) (fun i hi hij => hb (i + 1) (by simpa using hi) (by omega)) h
    rw [inN, ixN, if_neg h0, if_neg h0, i2]
    exact ⟨i1, rfl⟩
theorem inN_not {s : ByteArray} : ∀ {l : List ByteArray}, (∀ i (hi : i < l.length), l[i] ≠ s) → inN s l = false
  | [], _ => rfl
  | a :: r, h => by
    have h0 : a ≠ s := h 0 (by simp)
    rw [inN, if_neg h0]
    exact inN_not fun i hi => h (i + 1) (by simpa using hi)
theorem beq_str (a b : ByteArray) : (a.toList == b.toList) = decide (a = b) := by
  by_cases h : a = b
  · subst h; simp
  · have : a.toList ≠ b.toList := fun e => h (by
      rw [Go.ByteArray.toList_eq, Go.ByteArray.toList_eq] at e
      exact ByteArray.ext (Array.toList_inj.1 e))
    simp [h, this]
set_option maxRecDepth 100000 in
set_option maxHeartbeats 8000000 in
theorem find_is (N0 T1 s : ByteArray) (k1 a1 b1 c1 d1 p1 q1 : Int) (so1 : Option Addr) (n1 cap1 nB : Nat) (W : World) (hb : Boxed W nB 9 (.string s)) :
    Calls Tryz.prog 41 #[.agg #[.string N0, .int .i64 k1, .string T1, .int .u64 a1, .int .u64 b1, .int .u64 c1, .int .u64 d1, .slice so1 n1 cap1, .int .i64 p1, .int .i64 q1], .pointer (some ⟨nB, 0, none⟩)] W fun e w' => e = .returned (.bool (decide (N0 = s))) ∧ Below W.heap.size W w' := by
  have cn := hb.cell
  have lb := hb.lt
  go_enter Tryz.func41, Tryz.ntmps41
  go_wp2_with fail
  go_ret
  refine ⟨?_, (Below.refl _ W).alloc (Nat.le_refl _) _⟩
  show Ending.returned (.bool (N0.toList == s.toList)) = _
  rw [beq_str]
set_option maxRecDepth 100000 in
set_option maxHeartbeats 8000000 in
theorem oindex_any (s : ByteArray) (so : Option Addr) (n cap : Nat) (rs : List Rr) (B nB : Nat) (W : World) (h : RgIs W B so n rs) (hB : B ≤ W.heap.size) (hb : Boxed W nB 9 (.string s)) (hnB : nB < W.heap.size) :
    Calls Tryz.prog 40 #[.slice so n cap, .func (.func 41) #[] #[.pointer (some ⟨nB, 0, none⟩)]] W fun e w' => e = .returned (.int .i64 (fdI s (nmL rs))) ∧ Below W.heap.size W w' := by
  have HR := hid h
  have HNl : Hid (n = rs.length) := h.1
  have hn6 : n ≤ 9223372036854775807 := by have := h.2.1; unfold maxLen at this; omega
  have HBx := hid hb
  have HBB : Hid (B ≤ W.heap.size) := hB
  clear h hb hB
  go_enter Tryz.func40, Tryz.ntmps40
  go_wp2_with fail
  go_loopw [8] (fun i wr => ∃ j : Nat, i = .int .i64 (j : Int) ∧ j ≤ n ∧ Hid (∀ i (hi : i < rs.length), i < j → rs[i].1 ≠ s) ∧ Hid (Below W.heap.size W wr)) (fun i _ => n - (intOf i).toNat)
  case atStart => exact ⟨0, rfl, Nat.zero_le _, fun i hi h0 => by omega, Below.refl _ _⟩
  case round =>
    obtain ⟨j, rfl, hj, HA, HBj⟩ := hrel
    have hnl : (nmL rs).length = rs.length := List.length_map _
    by_cases hjn : j < n
    · have hjI : (j : Int) < (n : Int) := by omega
      have a0 : decide ((j : Int) < (n : Int)) = true := by simp; omega
      have hjs : j < rs.length := by rw [← HNl.out]; exact hjn
      obtain ⟨g, o, rfl, hg, k1, T1, a1, b1, c1, d1, so1, n1, cap1, p1, hrt, r0⟩ := HR.out.2.2 j hjs
      have hce : ∀ q, wr.cell? ⟨g, q, none⟩ = W.cell? ⟨g, q, none⟩ := fun q => HBj.out.cell (p := ⟨g, q, none⟩) (Nat.lt_of_lt_of_le hg HBB.out)
      simp only [← hce] at r0
      obtain ⟨z0, z1, z2, z3, z4, z5, z6, z7, z8, z9⟩ := r0
      obtain ⟨N0, hN0⟩ : ∃ N0, N0 = rs[j].1 := ⟨_, rfl⟩
      obtain ⟨q1, hq1⟩ : ∃ q1, q1 = rs[j].2.2 := ⟨_, rfl⟩
      rw [← hN0] at z0
      rw [← hq1] at z9
      have HN0 : Hid (N0 = rs[j].1) := hN0
      have HF := hid (find_is N0 T1 s k1 a1 b1 c1 d1 p1 q1 so1 n1 cap1 nB wr ((HBj.out.block nB hnB).trans HBx.out))
      clear hce hrt hN0 hq1
      by_cases e : N0 = s
      · rw [decide_eq_true e] at HF
        have HE : Hid (N0 = s) := e
        clear e
        go_wp2_with (first
          | (go_at_call 41; refine HF.out.mono ?_; clear HF; rintro e w5 ⟨rfl, hb5⟩))
        go_ret
        refine ⟨?_, HBj.out.trans (hb5.mono HBj.out.size)⟩
        obtain ⟨i1, i2⟩ := inN_at (s := s) (l := nmL rs) (j := j) (by omega) (fun i hi hij => by have := HA.out i (by omega) hij; simpa [nmL] using this) (by have := HE.out; rw [HN0.out] at this; simpa [nmL] using this)
        unfold fdI
        rw [i1, i2]
        rfl
      · rw [decide_eq_false e] at HF
        have HE : Hid (N0 ≠ s) := e
        clear e
        go_wp2_with (first
          | (go_at_call 41; refine HF.out.mono ?_; clear HF; rintro e w5 ⟨rfl, hb5⟩))
        refine ⟨⟨j + 1, by go_num, by omega, hid (fun i hi hij => ?_), hid (HBj.out.trans (hb5.mono HBj.out.size))⟩, by simp [intOf]; omega⟩
        by_cases e : i = j
        · subst e
          have := HE.out
          rw [HN0.out] at this
          exact this
        · exact HA.out i hi (by omega)
    · have a0 : decide ((j : Int) < (n : Int)) = false := by simp; omega
      go_wp2_with fail
      go_ret
      refine ⟨?_, HBj.out⟩
      unfold fdI
      rw [inN_not (s := s) (l := nmL rs) fun i hi => by have := HA.out i (by omega) (by have := HNl.out; omega); simpa [nmL] using this]
      rfl
end Go.Proofs.YtgoogfbphilpmaaGreatDoor
namespace Go.Proofs.YtgoogfbphilpmaaGreatDoor
open Go.RowKit Go.Shelf
set_option linter.unusedVariables false
set_option maxRecDepth 100000 in
set_option maxHeartbeats 8000000 in
theorem find_any (s : ByteArray) (so : Option Addr) (n cap : Nat) (rs : List Rr) (B : Nat) (W : World) (h : RgIs W B so n rs) (hB : B ≤ W.heap.size) :
    Calls Tryz.prog 20 #[.agg #[.slice so n cap], .string s] W fun e w' => e = .returned (.int .i64 (fdI s (nmL rs))) ∧ Below W.heap.size W w' := by
  have HI := hid (fun (nB : Nat) (W' : World) (hb : Below W.heap.size W W') (hx : Boxed W' nB 9 (.string s)) => oindex_any s so n cap rs B nB W' (h.below (hb.mono hB)) (Nat.le_trans hB hb.size) hx hx.lt)
  have HB2 : Hid (∀ o o' : Obj, Below W.heap.size W ((W.alloc o).alloc o')) := fun o o' => ((Below.refl _ W).alloc (Nat.le_refl _) _).alloc (by simp) _
  have HX1 : Hid (∀ o : Obj, Boxed ((W.alloc o).alloc (.cells #[.string s] 9)) (W.heap.size + 1) 9 (.string s)) := fun o => by
    have := Boxed.new (W.alloc o) 9 (.string s)
    simpa only [World.size_alloc] using this
  clear h hB
  go_enter Tryz.func20, Tryz.ntmps20
  go_wp2_with fail
  refine (HI.out _ _ (HB2.out _ _) (HX1.out _)).mono ?_
  rintro e w1 ⟨rfl, hb1⟩
  have H1 := hid ((HB2.out _ _).trans (hb1.mono (HB2.out _ _).size))
  clear hb1 HI HX1 HB2
  go_wp2_with fail
  go_ret
  exact ⟨rfl, H1.out⟩
/-- No name stands twice. -/
theorem dupG_none : ∀ {rs : List Rr} {l : List ByteArray}, dupG l rs = none → ∀ j (hj : j < rs.length), inN rs[j].1 (l ++ nmL (rs.take j)) = false
  | [], _, _, j, hj => by simp at hj
  | x :: r, l, h, 0, _ => by
    rw [dupG] at h
    cases hi : inN x.1 l with
    | true => rw [hi] at h; cases h
    | false => simpa [nmL] using hi
  | x :: r, l, h, j + 1, hj => by
    rw [dupG] at h
    cases hi : inN x.1 l with
    | true => rw [hi] at h; cases h
    | false =>
      rw [hi] at h
      have := dupG_none (l := l ++ [x.1]) (by simpa using h) j (by simpa using hj)
      simpa [nmL, List.append_assoc] using this
theorem dup_none {rs : List Rr} (h : ckR rs = none) (j : Nat) (hj : j < rs.length) : inN rs[j].1 (nmL (rs.take j)) = false := by
  have hd : dupL rs = none := by
    unfold ckR at h
    cases hd : dupL rs with
    | none => rfl
    | some p => rw [hd] at h; cases h
  have := dupG_none hd j hj
  rwa [List.nil_append] at this
theorem inN_app (s : ByteArray) : ∀ a b, inN s (a ++ b) = (inN s a || inN s b)
  | [], b => by rw [List.nil_append, inN]; rfl
  | x :: r, b => by rw [List.cons_append, inN, inN, inN_app s r b]; by_cases h : x = s <;> simp [h]
theorem ixN_app (s : ByteArray) : ∀ a b, ixN s (a ++ b) = if inN s a then ixN s a else a.length + ixN s b
  | [], b => by rw [List.nil_append, inN]; simp
  | x :: r, b => by
    rw [List.cons_append, ixN, ixN, inN, ixN_app s r b]
    by_cases h : x = s
    · simp [h]
    · simp only [h, if_false]
      by_cases h2 : inN s r = true
      · simp [h2]
      · simp [h2]; omega
/-- Each rule is found at its place. -/
theorem fd_at {rs : List Rr} (h : ckR rs = none) (j : Nat) (hj : j < rs.length) : fdI rs[j].1 (nmL rs) = (j : Int) := by
  have h0 := dup_none h j hj
  have e : nmL rs = nmL (rs.take j) ++ (rs[j].1 :: nmL (rs.drop (j + 1))) := by
    have e1 : rs = rs.take j ++ (rs[j] :: rs.drop (j + 1)) := by rw [← List.drop_eq_getElem_cons hj, List.take_append_drop]
    have e2 := congrArg nmL e1
    rw [e2]
    unfold nmL
    rw [List.map_append]
    rfl
  have hl : (nmL (rs.take j)).length = j := by unfold nmL; rw [List.length_map, List.length_take]; omega
  unfold fdI
  rw [e, inN_app, ixN_app, h0, inN, ixN, if_pos rfl, if_pos rfl, hl]
  simp
end Go.Proofs.YtgoogfbphilpmaaGreatDoor
namespace Go.Proofs.YtgoogfbphilpmaaGreatDoor
open Go.RowKit Go.Shelf Go.Maps
set_option linter.unusedVariables false
mutual
/-- Each Ref of a tree means one of these names. -/
def hrT (l : List ByteArray) : RT → Bool
  | .mk k T _ _ _ _ s _ => if k = 5 then inN T l else hrL l s
def hrL (l : List ByteArray) : List RT → Bool
  | [] => true
  | t :: r => hrT l t && hrL l r
end
theorem hrL_bad {l : List ByteArray} : ∀ {s : List RT} (j : Nat) (hj : j < s.length), hrT l s[j] = false → hrL l s = false
  | [], j, hj, _ => by simp at hj
  | t :: r, 0, _, h => by rw [hrL, show hrT l t = false from h]; rfl
  | t :: r, j + 1, hj, h => by rw [hrL, hrL_bad j (by simpa using hj) h, Bool.and_false]
theorem hrL_all {l : List ByteArray} : ∀ {s : List RT}, (∀ (j : Nat) (hj : j < s.length), hrT l s[j] = true) → hrL l s = true
  | [], _ => by rw [hrL]
  | t :: r, h => by rw [hrL, show hrT l t = true from h 0 (by simp), hrL_all (s := r) (fun j hj => h (j + 1) (by simpa using hj))]; rfl
set_option maxRecDepth 100000 in
set_option maxHeartbeats 4000000 in
theorem uhas_ref (l : List ByteArray) (so0 : Option Addr) (n0 cap0 : Nat) (T : ByteArray) (a b c d p : Int) (so : Option Addr) (n cap : Nat) (w : World)
    (HF : Hid (∀ W : World, Below w.heap.size w W → Calls Tryz.prog 20 #[.agg #[.slice so0 n0 cap0], .string T] W fun e w' => e = .returned (.int .i64 (fdI T l)) ∧ Below W.heap.size W w')) :
    Calls Tryz.prog 26 #[.agg #[.slice so0 n0 cap0], .agg (r8 5 T a b c d so n cap p).toArray] w fun e w' => e = .returned (.bool (inN T l)) ∧ Below w.heap.size w w' := by
  have HB : Hid (∀ o1 o2 : Obj, Below w.heap.size w ((w.alloc o1).alloc o2)) := fun o1 o2 => ((Below.refl _ w).alloc (Nat.le_refl _) o1).alloc (by simp) o2
  obtain ⟨v, hv⟩ : ∃ v, v = fdI T l := ⟨_, rfl⟩
  have hi : decide (0 ≤ v) = inN T l := by
    rw [hv]
    unfold fdI
    cases inN T l
    · simp
    · simp
  rw [← hv] at HF
  obtain ⟨q, hq⟩ : ∃ q, q = inN T l := ⟨_, rfl⟩
  rw [← hq] at hi ⊢
  clear hv hq
  dsimp only [r8]
  go_enter Tryz.func26, Tryz.ntmps26
  go_wp2_with (first | (go_at_call 20; refine (HF.out _ (HB.out _ _)).mono ?_; rintro e wz ⟨rfl, hbz⟩))
  go_ret
  exact ⟨rfl, (HB.out _ _).trans (hbz.mono (HB.out _ _).size)⟩
set_option maxRecDepth 100000 in
set_option maxHeartbeats 8000000 in
theorem uhas_row (l : List ByteArray) (so0 : Option Addr) (n0 cap0 : Nat) (k : Int) (hk : k ≠ 5) (T : ByteArray) (a b c d p : Int) (so : Option Addr) (n cap : Nat) (s : List RT) (w : World) (hn : n ≤ 9223372036854775807) (HN : Hid (n = s.length))
    (HC : Hid (∀ j (hj : j < s.length), ∃ g o, so = some ⟨g, o, none⟩ ∧ g < w.heap.size ∧ ∃ k1 T1 a1 b1 c1 d1 so1 n1 cap1 p1, Rc w g (o + j * 8) k1 T1 a1 b1 c1 d1 (.slice so1 n1 cap1) p1 ∧
      ∀ W : World, Below w.heap.size w W → Calls Tryz.prog 26 #[.agg #[.slice so0 n0 cap0], .agg (r8 k1 T1 a1 b1 c1 d1 so1 n1 cap1 p1).toArray] W fun e w' => e = .returned (.bool (hrT l s[j])) ∧ Below W.heap.size W w')) :
    Calls Tryz.prog 26 #[.agg #[.slice so0 n0 cap0], .agg (r8 k T a b c d so n cap p).toArray] w fun e w' => e = .returned (.bool (hrL l s)) ∧ Below w.heap.size w w' := by
  have hk2 : (k == 5) = false := by simp [hk]
  have hk3 : decide (k = 5) = false := by simp [hk]
  obtain ⟨R, hR⟩ : ∃ R, R = hrL l s := ⟨_, rfl⟩
  have HR := hid hR
  rw [← hR]
  clear hR
  obtain ⟨W1, hW1⟩ : ∃ W1, W1 = (w.alloc (.cells #[.slice so0 n0 cap0] 24)).alloc (.cells #[.int .i64 k, .string T, .int .u64 a, .int .u64 b, .int .u64 c, .int .u64 d, .slice so n cap, .int .i64 p] 30) := ⟨_, rfl⟩
  have HB1 : Hid (Below w.heap.size w W1) := by rw [hW1]; exact ((Below.refl _ w).alloc (Nat.le_refl _) _).alloc (by simp) _
  have HW1 := hid hW1
  have HG1 : Hid (W1.heap[w.heap.size]? = some (.cells #[.slice so0 n0 cap0] 24)) := by rw [hW1]; exact (Below.heap_alloc _ _ _ (by simp)).trans (new_block_at w _ rfl)
  clear hW1
  dsimp only [r8]
  go_enter Tryz.func26, Tryz.ntmps26
  go_wp2_with fail
  rw [← HW1.out]
  clear HW1
  go_loopw [18] (fun i wr => ∃ j : Nat, i = .int .i64 (j : Int) ∧ j ≤ n ∧ Hid (Below w.heap.size w wr) ∧ Hid (wr.heap[w.heap.size]? = some (.cells #[.slice so0 n0 cap0] 24)) ∧ Hid (∀ i (hi : i < s.length), i < j → hrT l s[i] = true)) (fun i _ => n - (intOf i).toNat)
  case atStart => exact ⟨0, rfl, Nat.zero_le _, HB1, HG1, fun i _ h => absurd h (by omega)⟩
  case round =>
    obtain ⟨j, rfl, hj, HB, HG, HO⟩ := hrel
    by_cases hjn : j < n
    · have hjI : (j : Int) < (n : Int) := by omega
      have a0 : decide ((j : Int) < (n : Int)) = true := by simp; omega
      have hjs : j < s.length := by rw [← HN.out]; exact hjn
      obtain ⟨g, o, rfl, hg, k1, T1, a1, b1, c1, d1, so1, n1, cap1, p1, hrc, hcall⟩ := HC.out j hjs
      obtain ⟨z0, z1, z2, z3, z4, z5, z6, z7⟩ := hrc.below HB.out hg
      have hgl : g < wr.heap.size := World.block_lt_of_cell? wr _ z0
      obtain ⟨q, hq⟩ : ∃ q, q = hrT l s[j] := ⟨_, rfl⟩
      have hbp : Below w.heap.size w (wr.alloc (.cells #[.int .i64 k1, .string T1, .int .u64 a1, .int .u64 b1, .int .u64 c1, .int .u64 d1, .slice so1 n1 cap1, .int .i64 p1] 30)) := HB.out.alloc HB.out.size _
      have hbq := (Below.refl _ wr).alloc (Nat.le_refl _) (.cells #[.int .i64 k1, .string T1, .int .u64 a1, .int .u64 b1, .int .u64 c1, .int .u64 d1, .slice so1 n1 cap1, .int .i64 p1] 30)
      have HGp := hid ((hbq.block _ (node_lt HG.out)).trans HG.out)
      obtain ⟨g0, _⟩ := one_cell HGp.out
      have lg := node_lt HGp.out
      have HBp := hid hbp
      have HS := hid (hcall _ hbp)
      rw [← hq] at HS
      have HQ := hid hq
      clear hcall hrc hq hbp hbq
      dsimp only [r8] at HS
      cases q with
      | false =>
        go_wp2_with (first
          | (go_at_call 26; refine HS.out.mono ?_; rintro e wz ⟨rfl, hbz⟩))
        go_ret
        refine ⟨?_, HBp.out.trans (hbz.mono HBp.out.size)⟩
        rw [HR.out, hrL_bad j hjs HQ.out.symm]
        rfl
      | true =>
        go_wp2_with (first
          | (go_at_call 26; refine HS.out.mono ?_; rintro e wz ⟨rfl, hbz⟩))
        refine ⟨⟨j + 1, by go_num, by omega, hid (HBp.out.trans (hbz.mono HBp.out.size)), hid ((hbz.block _ lg).trans HGp.out), fun i hi hij => ?_⟩, by simp [intOf]; omega⟩
        rcases Nat.lt_or_ge i j with h1 | h1
        · exact HO.out i hi h1
        · obtain rfl : i = j := by omega
          exact HQ.out.symm
    · have a0 : decide ((j : Int) < (n : Int)) = false := by simp; omega
      clear HC
      go_wp2_with fail
      go_ret
      refine ⟨?_, HB.out⟩
      rw [HR.out, hrL_all fun i hi => HO.out i hi (by have := HN.out; omega)]
      rfl
theorem uhas_all (l : List ByteArray) (rs : List Rr) (hl : l = nmL rs) (so0 : Option Addr) (n0 cap0 : Nat) (B0 : Nat) : ∀ (N : Nat) (t : RT) (cs : List Value) (B : Nat) (w : World), SizeOf.sizeOf t < N → RtIs w B t cs → B ≤ w.heap.size → RgIs w B0 so0 n0 rs → B0 ≤ w.heap.size →
    Calls Tryz.prog 26 #[.agg #[.slice so0 n0 cap0], .agg cs.toArray] w fun e w' => e = .returned (.bool (hrT l t)) ∧ Below w.heap.size w w'
  | 0, t, _, _, _, h, _, _, _, _ => by omega
  | N + 1, .mk k T a b c d s p, cs, B, w, hN, ht, hB, hr, hB0 => by
    rw [RtIs] at ht
    obtain ⟨so, cap, rfl, hso⟩ := ht
    rw [hrT]
    by_cases hk : k = 5
    · subst hk
      rw [if_pos rfl]
      refine uhas_ref l so0 n0 cap0 T a b c d p so _ cap w fun W hW => ?_
      rw [hl]
      exact find_any T so0 n0 cap0 rs B0 W (hr.below (hW.mono hB0)) (Nat.le_trans hB0 hW.size)
    · rw [if_neg hk]
      refine uhas_row l so0 n0 cap0 k hk T a b c d p so _ cap s w (subs_len hso) (rtLen_eq s) fun j hj => ?_
      obtain ⟨g, o, h1, h2, k1, T1, a1, b1, c1, d1, so1, n1, cap1, p1, h3, h4⟩ := subs_at hB hso j hj
      refine ⟨g, o, h1, h2, k1, T1, a1, b1, c1, d1, so1, n1, cap1, p1, h3, fun W hW => ?_⟩
      have hsz := List.sizeOf_lt_of_mem (List.getElem_mem hj)
      simp only [RT.mk.sizeOf_spec] at hN
      exact uhas_all l rs hl so0 n0 cap0 B0 N s[j] _ B W (by omega) (h4.below (hW.mono hB)) (Nat.le_trans hB hW.size) (hr.below (hW.mono hB0)) (Nat.le_trans hB0 hW.size)
end Go.Proofs.YtgoogfbphilpmaaGreatDoor
namespace Go.Proofs.YtgoogfbphilpmaaGreatDoor
open Go.RowKit Go.Shelf
set_option linter.unusedVariables false
mutual
theorem RtIs.mono {w : World} {B B' : Nat} (hB : B ≤ B') : ∀ (t : RT) (cs : List Value), RtIs w B t cs → RtIs w B' t cs
  | .mk k T a b c d s p, cs, ht => by
    rw [RtIs] at ht ⊢
    obtain ⟨so, cap, rfl, ht⟩ := ht
    refine ⟨so, cap, rfl, ?_⟩
    rcases ht with h1 | ⟨h1, g, o, h2, h3, h4, h5⟩
    · exact .inl h1
    · exact .inr ⟨h1, g, o, h2, by omega, h4, RtsIs.mono hB s g o h5⟩
theorem RtsIs.mono {w : World} {B B' : Nat} (hB : B ≤ B') : ∀ (s : List RT) (g o : Nat), RtsIs w B g o s → RtsIs w B' g o s
  | [], g, o, _ => by rw [RtsIs]; trivial
  | t :: r, g, o, ht => by
    rw [RtsIs] at ht ⊢
    obtain ⟨⟨cs, h1, h2⟩, h3⟩ := ht
    exact ⟨⟨cs, RtIs.mono hB t cs h1, h2⟩, RtsIs.mono hB r g _ h3⟩
end
/-- The name under which an expression stands alone. -/
@[reducible] def bA : ByteArray := { data := #[97] }
theorem nm_A : ∀ x, x < 1 → nmS bA = true := by decide +kernel
/-- The world in which Expr calls Print. -/
@[reducible] def wX (w : World) (k : Int) (T : ByteArray) (a b c d : Int) (so : Option Addr) (n cap : Nat) (p : Int) : World := (w.alloc (.cells #[.int .i64 k, .string T, .int .u64 a, .int .u64 b, .int .u64 c, .int .u64 d, .slice so n cap, .int .i64 p] 30)).alloc (.cells #[.string { data := #[97] }, .int .i64 k, .string T, .int .u64 a, .int .u64 b, .int .u64 c, .int .u64 d, .slice so n cap, .int .i64 p, .int .i64 0] 52)
theorem wX_below (w : World) (k : Int) (T : ByteArray) (a b c d : Int) (so : Option Addr) (n cap : Nat) (p : Int) : Below w.heap.size w (wX w k T a b c d so n cap p) := ((Below.refl _ _).alloc (Nat.le_refl _) _).alloc (by simp) _
theorem wX_is {w : World} {k : Int} {T : ByteArray} {a b c d : Int} {so : Option Addr} {n cap : Nat} {p : Int} {t : RT} (ht : RtIs w w.heap.size t (r8 k T a b c d so n cap p)) : RgIs (wX w k T a b c d so n cap p) (wX w k T a b c d so n cap p).heap.size (some ⟨w.heap.size + 1, 0, none⟩) 1 [(bA, t, 0)] := by
  have hb := wX_below w k T a b c d so n cap p
  refine ⟨rfl, by unfold maxLen; omega, fun j hj => ⟨w.heap.size + 1, 0, rfl, by simp, ?_⟩⟩
  obtain rfl : j = 0 := by simpa using hj
  obtain ⟨⟨c0, c1, c2, c3, c4, c5, c6, c7, c8, c9⟩, _⟩ := ten_cells (w := wX w k T a b c d so n cap p) (g := w.heap.size + 1) (new_block_at _ _ (by simp))
  exact ⟨k, T, a, b, c, d, so, n, cap, p, (ht.below hb).mono hb.size _ _, c0, c1, c2, c3, c4, c5, c6, c7, c8, c9⟩
theorem rgz_one {t : RT} (hz : RtZ t) : RgZ [(bA, t, 0)] := fun x hx => by
  obtain rfl : x = (bA, t, 0) := by simpa using hx
  exact ⟨by show 1 ≤ _; omega, hz⟩
theorem okG_one (t : RT) : okG [(bA, t, 0)] = okT t := by
  unfold okG
  rw [List.all_cons, List.all_nil, Bool.and_true]
  show (true && (true && (nmS bA && okT t))) = okT t
  rw [nm_A 0 (by decide)]
  rfl
set_option maxRecDepth 100000 in
set_option maxHeartbeats 8000000 in
theorem nexpr_err (k : Int) (T : ByteArray) (a b c d p : Int) (so : Option Addr) (n cap : Nat) (w : World) (c0 : Int)
    (HP : Hid (Calls Tryz.prog 46 #[.agg #[.slice (some ⟨w.heap.size + 1, 0, none⟩) 1 1]] (wX w k T a b c d so n cap p) fun e w' => e = .returned (.tuple #[.string { data := #[] }, .iface 43 (.int .i64 c0)]) ∧ Below (wX w k T a b c d so n cap p).heap.size (wX w k T a b c d so n cap p) w')) :
    Calls Tryz.prog 25 #[.agg (r8 k T a b c d so n cap p).toArray] w fun e w' => e = .returned (.string { data := #[] }) ∧ Below w.heap.size w w' := by
  have HB := hid (wX_below w k T a b c d so n cap p)
  dsimp only [r8]
  go_enter Tryz.func25, Tryz.ntmps25
  go_wp2_with fail
  refine HP.out.mono ?_
  rintro e w1 ⟨rfl, hb1⟩
  have HB1 : Hid (Below w.heap.size w w1) := HB.out.trans (hb1.mono HB.out.size)
  clear HP hb1 HB
  go_wp2_with fail
  go_ret
  exact ⟨rfl, HB1.out⟩
set_option maxRecDepth 100000 in
set_option maxHeartbeats 8000000 in
theorem nexpr_txt (k : Int) (T : ByteArray) (a b c d p : Int) (so : Option Addr) (n cap : Nat) (w : World) (X L : ByteArray) (hL : L.size = X.size + 6) (hX : X.size ≤ 8192) (HX : Hid (L.extract 5 (X.size + 5) = X))
    (HP : Hid (Calls Tryz.prog 46 #[.agg #[.slice (some ⟨w.heap.size + 1, 0, none⟩) 1 1]] (wX w k T a b c d so n cap p) fun e w' => e = .returned (.tuple #[.string L, .nilIface]) ∧ Below (wX w k T a b c d so n cap p).heap.size (wX w k T a b c d so n cap p) w')) :
    Calls Tryz.prog 25 #[.agg (r8 k T a b c d so n cap p).toArray] w fun e w' => e = .returned (.string X) ∧ Below w.heap.size w w' := by
  have HB := hid (wX_below w k T a b c d so n cap p)
  dsimp only [r8]
  go_enter Tryz.func25, Tryz.ntmps25
  go_wp2_with fail
  refine HP.out.mono ?_
  rintro e w1 ⟨rfl, hb1⟩
  have HB1 : Hid (Below w.heap.size w w1) := HB.out.trans (hb1.mono HB.out.size)
  have hsl : (Instr.slice 9 (.string L) (some (.int .i64 5)) (some (.int .i64 ((X.size : Int) + 6 - 1))) none).run Tryz.prog w1 = .ok (.string X) w1 := by
    rw [run_slice_string w1 9 L .i64 .i64 5 ((X.size : Int) + 6 - 1) Tryz.underlying9 (by omega) (by omega) (by rw [hL]; omega)]
    rw [show ((X.size : Int) + 6 - 1).toNat = X.size + 5 by omega]
    exact congrArg (fun q => Result.ok (Value.string q) w1) HX.out
  clear HP hb1 HB
  go_wp2_with fail
  go_ret
  exact ⟨rfl, HB1.out⟩
/-- An expression's text, or none. -/
def exS (nd : Nd) : ByteArray := if 8192 < sz (pR qT cT [(bA, nd, 0)]) ∨ 24 < dR [(bA, nd, 0)] then { data := #[] } else cat (pN qT cT nd)
theorem cat_one (nd : Nd) : cat (pR qT cT [(bA, nd, 0)]) = { data := ([97, 32, 60, 45, 32] ++ ((cat (pN qT cT nd)).data.toList ++ [10])).toArray } := by
  rw [pR, pR, cat, cat, cat_app, cat, cat]
  apply ByteArray.ext
  apply Array.ext'
  simp [bA, bAr, bNl]
theorem cat_cut (nd : Nd) : (cat (pR qT cT [(bA, nd, 0)])).size = (cat (pN qT cT nd)).size + 6 ∧ (cat (pR qT cT [(bA, nd, 0)])).extract 5 ((cat (pN qT cT nd)).size + 5) = cat (pN qT cT nd) := by
  obtain ⟨X, hX⟩ : ∃ X, X = cat (pN qT cT nd) := ⟨_, rfl⟩
  rw [cat_one, ← hX]
  have hl : X.data.toList.length = X.size := by rw [Array.length_toList]; rfl
  refine ⟨?_, ?_⟩
  · show ([97, 32, 60, 45, 32] ++ (X.data.toList ++ [10])).toArray.size = _
    simp
  · rw [ByteArray.extract_mk]
    apply ByteArray.ext
    apply Array.ext'
    show List.take (X.size + 5 - 5) (List.drop 5 ([97, 32, 60, 45, 32] ++ (X.data.toList ++ [10]))) = X.data.toList
    rw [show X.size + 5 - 5 = X.data.toList.length by omega]
    simp
/-- printer.Expr at a tree that may be printed. -/
theorem nexpr_ok (k : Int) (T : ByteArray) (a b c d p : Int) (so : Option Addr) (n cap : Nat) (t : RT) (nd : Nd) (w : World) (hT : TabIs w) (ht : RtIs w w.heap.size t (r8 k T a b c d so n cap p)) (hz : RtZ t) (hq : Tq t nd) (hv : Vk nd) (hw : Wf Nmq nd) :
    Calls Tryz.prog 25 #[.agg (r8 k T a b c d so n cap p).toArray] w fun e w' => e = .returned (.string (exS nd)) ∧ Below w.heap.size w w' := by
  have hb := wX_below w k T a b c d so n cap p
  have hqr : TqR [(bA, t, 0)] [(bA, nd, 0)] := by rw [TqR]; exact ⟨rfl, hq, by rw [TqR]; trivial⟩
  have hx : ∀ x ∈ [((bA, nd, 0) : Rl)], Ruk Nmq x := fun x hx => by
    obtain rfl : x = (bA, nd, 0) := by simpa using hx
    exact ⟨nm_A 0 (by decide), hv, hw⟩
  have HP := nprint_ok (some ⟨w.heap.size + 1, 0, none⟩) 1 1 [(bA, t, 0)] [(bA, nd, 0)] _ (wX w k T a b c d so n cap p) (rgz_one hz) (wX_is ht) (Nat.le_refl _) (by rw [okG_one]; exact (okT_of t nd hq hv hw).1) hqr hx (hT.below hb hT.lt)
  unfold exS
  rcases Nat.lt_or_ge 8192 (sz (pR qT cT [(bA, nd, 0)])) with hlong | hshort
  · rw [ansT_long hlong] at HP
    rw [if_pos (.inl hlong)]
    exact nexpr_err k T a b c d p so n cap w 2 HP
  rcases Nat.lt_or_ge 24 (dR [(bA, nd, 0)]) with hdeep | hflat
  · rw [ansT_deep hshort hdeep] at HP
    rw [if_pos (.inr hdeep)]
    exact nexpr_err k T a b c d p so n cap w 20 HP
  rw [ansT_ok hshort hflat] at HP
  rw [if_neg (by omega)]
  have hc := cat_cut nd
  have hs : (cat (pR qT cT [(bA, nd, 0)])).size ≤ 8192 := by rw [cat_size]; exact hshort
  exact nexpr_txt k T a b c d p so n cap w _ _ hc.1 (by omega) hc.2 HP
/-- printer.Expr at a tree that may not be printed. -/
theorem nexpr_bad (k : Int) (T : ByteArray) (a b c d p : Int) (so : Option Addr) (n cap : Nat) (t : RT) (w : World) (ht : RtIs w w.heap.size t (r8 k T a b c d so n cap p)) (hz : RtZ t) (hk : okT t = false) :
    Calls Tryz.prog 25 #[.agg (r8 k T a b c d so n cap p).toArray] w fun e w' => e = .returned (.string { data := #[] }) ∧ Below w.heap.size w w' :=
  nexpr_err k T a b c d p so n cap w 20 (nprint_bad (some ⟨w.heap.size + 1, 0, none⟩) 1 1 [(bA, t, 0)] _ (wX w k T a b c d so n cap p) (rgz_one hz) (wX_is ht) (Nat.le_refl _) (by rw [okG_one]; exact hk))
end Go.Proofs.YtgoogfbphilpmaaGreatDoor
