/-
  A grammar as it lies in memory, whatever it is, and what printer.isTree answers of it. Conditions: those that each theorem names.
  What printer.Print answers at any grammar in memory. Conditions: those that each theorem names.
  Trees that may be printed, as they lie in memory and as they are read. Conditions: those that each theorem names.
-/
import Derived.Test.YtikfnaffiehpaaaGreatDoorVRb
namespace Go.Proofs.YtikfnaffiehpaaaGreatDoor
open Go.RowKit Go.Shelf
set_option linter.unusedVariables false
abbrev Rr := ByteArray × RT × Int
/-- The ten cells of a rule at o in block g. -/
def Rk (w : World) (B g o : Nat) (x : Rr) : Prop := ∃ k T a b c d so n cap p, RtIs w B x.2.1 (r8 k T a b c d so n cap p) ∧ w.cell? ⟨g, o, none⟩ = some (.string x.1) ∧ w.cell? ⟨g, o + 1, none⟩ = some (.int .i64 k) ∧ w.cell? ⟨g, o + 2, none⟩ = some (.string T) ∧ w.cell? ⟨g, o + 3, none⟩ = some (.int .u64 a) ∧ w.cell? ⟨g, o + 4, none⟩ = some (.int .u64 b) ∧ w.cell? ⟨g, o + 5, none⟩ = some (.int .u64 c) ∧ w.cell? ⟨g, o + 6, none⟩ = some (.int .u64 d) ∧ w.cell? ⟨g, o + 7, none⟩ = some (.slice so n cap) ∧ w.cell? ⟨g, o + 8, none⟩ = some (.int .i64 p) ∧ w.cell? ⟨g, o + 9, none⟩ = some (.int .i64 x.2.2)
/-- That slice holds these rules; all of it lies below B. -/
def RgIs (w : World) (B : Nat) (so : Option Addr) (n : Nat) (rs : List Rr) : Prop := n = rs.length ∧ n ≤ maxLen ∧ ∀ j (hj : j < rs.length), ∃ g o, so = some ⟨g, o, none⟩ ∧ g < B ∧ Rk w B g (o + j * 10) rs[j]
theorem Rk.below {w w' : World} {B g o : Nat} {x : Rr} (h : Rk w B g o x) (hb : Below B w w') (hg : g < B) : Rk w' B g o x := by
  obtain ⟨k, T, a, b, c, d, so, n, cap, p, h1, z0, z1, z2, z3, z4, z5, z6, z7, z8, z9⟩ := h
  have e : ∀ j, w'.cell? ⟨g, j, none⟩ = w.cell? ⟨g, j, none⟩ := fun j => hb.cell (p := ⟨g, j, none⟩) hg
  exact ⟨k, T, a, b, c, d, so, n, cap, p, h1.below hb, (e _).trans z0, (e _).trans z1, (e _).trans z2, (e _).trans z3, (e _).trans z4, (e _).trans z5, (e _).trans z6, (e _).trans z7, (e _).trans z8, (e _).trans z9⟩
theorem RgIs.below {w w' : World} {B n : Nat} {so : Option Addr} {rs : List Rr} (h : RgIs w B so n rs) (hb : Below B w w') : RgIs w' B so n rs :=
  ⟨h.1, h.2.1, fun j hj => by
    obtain ⟨g, o, h1, h2, h3⟩ := h.2.2 j hj
    exact ⟨g, o, h1, h2, h3.below hb h2⟩⟩
/-- Its strings are not too long. -/
def RgZ (rs : List Rr) : Prop := ∀ x ∈ rs, x.1.size ≤ 9223372036854775807 ∧ RtZ x.2.1
/-- May that be a rule? -/
def okR (x : Rr) : Bool := nmS x.1 && okT x.2.1
/-- May that be a grammar, but for parentheses? -/
def okG (rs : List Rr) : Bool := decide (1 ≤ rs.length) && (decide (rs.length ≤ 64) && rs.all okR)
theorem all_bad {rs : List Rr} (j : Nat) (hj : j < rs.length) (h : okR rs[j] = false) : rs.all okR = false := by
  rw [List.all_eq_false]
  exact ⟨_, List.getElem_mem hj, by rw [h]; simp⟩
theorem all_ok {rs : List Rr} (h : ∀ j (hj : j < rs.length), okR rs[j] = true) : rs.all okR = true := by
  rw [List.all_eq_true]
  intro x hx
  obtain ⟨j, hj, rfl⟩ := List.mem_iff_getElem.1 hx
  exact h j hj
set_option maxRecDepth 100000 in
set_option maxHeartbeats 8000000 in
theorem nistree_any (so : Option Addr) (n cap : Nat) (rs : List Rr) (B : Nat) (w : World) (hz : RgZ rs) (h : RgIs w B so n rs) (hB : B ≤ w.heap.size) :
    Calls Tryz.prog 21 #[.agg #[.slice so n cap]] w fun e w' => e = .returned (.bool (okG rs)) ∧ Below w.heap.size w w' := by
  obtain ⟨R, hR⟩ : ∃ R, R = okG rs := ⟨_, rfl⟩
  have HR := hid hR
  rw [← hR]
  clear hR
  have HN : Hid (n = rs.length) := h.1
  have hm : n ≤ 9223372036854775807 := by have := h.2.1; unfold maxLen at this; omega
  have HG := hid h
  have HZ := hid hz
  clear h hz
  by_cases h0 : n = 0
  · have q0 : ((n : Int) == 0) = true := by simp; omega
    clear HG
    go_enter Tryz.func21, Tryz.ntmps21
    go_wp2_with fail
    go_ret
    refine ⟨?_, (Below.refl _ _).alloc (Nat.le_refl _) _⟩
    rw [HR.out]
    unfold okG
    rw [decide_eq_false (by have := HN.out; omega)]
    rfl
  have q0 : ((n : Int) == 0) = false := by simp; omega
  by_cases h1 : 64 < n
  · have q1 : (64 : Int) < (n : Int) := by omega
    have q2 : decide ((64 : Int) < (n : Int)) = true := by simp; omega
    clear HG
    go_enter Tryz.func21, Tryz.ntmps21
    go_wp2_with fail
    go_ret
    refine ⟨?_, (Below.refl _ _).alloc (Nat.le_refl _) _⟩
    rw [HR.out]
    unfold okG
    rw [decide_eq_false (p := rs.length ≤ 64) (by have := HN.out; omega), Bool.false_and, Bool.and_false]
    rfl
  have q1 : ¬ (64 : Int) < (n : Int) := by omega
  have q2 : decide ((64 : Int) < (n : Int)) = false := by simp; omega
  have HR2 : Hid (R = rs.all okR) := by
    refine HR.out.trans ?_
    unfold okG
    rw [decide_eq_true (by have := HN.out; omega), decide_eq_true (p := rs.length ≤ 64) (by have := HN.out; omega)]
    rfl
  clear HR
  have HB0 : Hid (Below w.heap.size w (w.alloc (.cells #[.slice so n cap] 24))) := (Below.refl _ w).alloc (Nat.le_refl _) _
  go_enter Tryz.func21, Tryz.ntmps21
  go_wp2_with fail
  go_loopw [18] (fun i wr => ∃ j : Nat, i = .int .i64 (j : Int) ∧ j ≤ n ∧ Hid (Below w.heap.size w wr) ∧ Hid (∀ i (hi : i < rs.length), i < j → okR rs[i] = true)) (fun i _ => n - (intOf i).toNat)
  case atStart => exact ⟨0, rfl, Nat.zero_le _, HB0, fun i _ h => absurd h (by omega)⟩
  case round =>
    obtain ⟨j, rfl, hj, HB, HO⟩ := hrel
    clear HB0
    by_cases hjn : j < n
    · have hjI : (j : Int) < (n : Int) := by omega
      have a0 : decide ((j : Int) < (n : Int)) = true := by simp; omega
      have hjs : j < rs.length := by rw [← HN.out]; exact hjn
      have HGr := hid (HG.out.below (HB.out.mono hB))
      obtain ⟨g, o, rfl, hg, k1, T1, a1, b1, c1, d1, so1, n1, cap1, p1, rt, z0, z1, z2, z3, z4, z5, z6, z7, z8, z9⟩ := HGr.out.2.2 j hjs
      obtain ⟨zn, zt⟩ := HZ.out rs[j] (List.getElem_mem hjs)
      have HE := hid (fun W (hb : Below wr.heap.size wr W) => nisexp_any rs[j].2.1 _ B W zt (rt.below (hb.mono (Nat.le_trans hB HB.out.size))) (Nat.le_trans (Nat.le_trans hB HB.out.size) hb.size))
      have HM := hid (fun W => xName_all rs[j].1 W zn)
      obtain ⟨Q, hQ⟩ : ∃ Q, Q = okT rs[j].2.1 := ⟨_, rfl⟩
      obtain ⟨M, hM⟩ : ∃ M, M = nmS rs[j].1 := ⟨_, rfl⟩
      have HQ : Hid (okR rs[j] = (M && Q)) := by show (nmS rs[j].1 && okT rs[j].2.1) = _; rw [hQ, hM]
      obtain ⟨N0, hN0⟩ : ∃ N0, N0 = rs[j].1 := ⟨_, rfl⟩
      obtain ⟨p0, hp0⟩ : ∃ p0, p0 = rs[j].2.2 := ⟨_, rfl⟩
      rw [← hQ] at HE
      rw [← hM, ← hN0] at HM
      rw [← hN0] at z0
      rw [← hp0] at z9
      have hgl : g < wr.heap.size := Nat.lt_of_lt_of_le hg (Nat.le_trans hB HB.out.size)
      clear rt hQ hM hN0 hp0 HG HGr HZ zn zt
      dsimp only [r8] at HE
      go_wp2_with (first | (go_at_call 31; refine (HM.out _).mono ?_; rintro e wz ⟨rfl, rfl⟩) | (go_at_call 32; refine (HE.out _ ?hh).mono ?_; (case hh => exact (Below.refl _ _).alloc (Nat.le_refl _) _); rintro e wy ⟨rfl, hby⟩))
      · rename_i hq
        have hb2 := HB.out.trans ((((Below.refl _ wr).alloc (Nat.le_refl _) _).trans (hby.mono (by simp))).mono HB.out.size)
        have hQ0 : Q = false := by simpa using hq
        go_ret
        refine ⟨?_, hb2⟩
        rw [HR2.out, all_bad j hjs (by rw [HQ.out, hQ0, Bool.and_false])]
        rfl
      · rename_i hM1 hby2 hq
        have hb2 := HB.out.trans ((((Below.refl _ wr).alloc (Nat.le_refl _) _).trans (hby.mono (by simp))).mono HB.out.size)
        have hQ1 : Q = true := by simpa using hq
        refine ⟨⟨j + 1, by go_num, by omega, hb2, fun i hi hij => ?_⟩, ?_⟩
        · rcases Nat.lt_or_ge i j with h1 | h1
          · exact HO.out i hi h1
          · obtain rfl : i = j := by omega
            rw [HQ.out, hQ1]
            first | rfl | (simp_all)
        · simp [intOf]; omega
      · rename_i hq
        have hM0 : M = false := by simpa using hq
        go_ret
        refine ⟨?_, HB.out.trans (((Below.refl _ wr).alloc (Nat.le_refl _) _).mono HB.out.size)⟩
        rw [HR2.out, all_bad j hjs (by rw [HQ.out, hM0, Bool.false_and])]
        rfl
    · have a0 : decide ((j : Int) < (n : Int)) = false := by simp; omega
      clear HG HZ
      go_wp2_with fail
      go_ret
      refine ⟨?_, HB.out⟩
      rw [HR2.out, all_ok fun i hi => HO.out i hi (by have := HN.out; omega)]
      rfl
end Go.Proofs.YtikfnaffiehpaaaGreatDoor
namespace Go.Proofs.YtikfnaffiehpaaaGreatDoor
open Go.RowKit Go.Shelf
set_option linter.unusedVariables false
mutual
/-- A tree in memory is that tree but for places. -/
def Tq : RT → Nd → Prop
  | .mk k T a b c d s _, .mk kd T' C s' _ => k = (kd : Int) ∧ T' = T ∧ a = (wd C 0 : Nat) ∧ b = (wd C 1 : Nat) ∧ c = (wd C 2 : Nat) ∧ d = (wd C 3 : Nat) ∧ TqL s s'
def TqL : List RT → List Nd → Prop
  | [], [] => True
  | t :: r, n :: q => Tq t n ∧ TqL r q
  | _, _ => False
end
theorem TqL.len : ∀ {s : List RT} {q : List Nd}, TqL s q → ndLen q = rtLen s ∧ q.isEmpty = s.isEmpty
  | [], [], _ => ⟨rfl, rfl⟩
  | [], _ :: _, h => by simp [TqL] at h
  | _ :: _, [], h => by simp [TqL] at h
  | t :: r, n :: q, h => by
    rw [TqL] at h
    exact ⟨by rw [ndLen, rtLen, h.2.len.1], rfl⟩
mutual
theorem rt_v {w : World} {B s0 : Nat} (hB : B ≤ s0) : ∀ (t : RT) (n : Nd) (cs : List Value), Tq t n → RtIs w B t cs → NdV s0 w n cs
  | .mk k T a b c d s p, .mk kd T' C s' pn, cs, h, ht => by
    rw [Tq] at h
    obtain ⟨rfl, rfl, rfl, rfl, rfl, rfl, hs⟩ := h
    rw [RtIs] at ht
    obtain ⟨so, cap, rfl, ht⟩ := ht
    rw [NdV]
    refine ⟨so, cap, p, by rw [hs.len.1], ?_⟩
    rcases ht with h1 | ⟨h1, g, o, rfl, h3, h4, h5⟩
    · exact .inl (by rw [hs.len.2]; exact h1)
    · exact .inr ⟨by rw [hs.len.2]; exact h1, g, o, rfl, by omega, by rw [hs.len.1]; exact h4, rts_v hB s s' g o hs h5⟩
theorem rts_v {w : World} {B s0 : Nat} (hB : B ≤ s0) : ∀ (s : List RT) (q : List Nd) (g o : Nat), TqL s q → RtsIs w B g o s → NdsV s0 w g o q
  | [], [], g, o, _, _ => by rw [NdsV]; trivial
  | [], _ :: _, _, _, h, _ => by simp [TqL] at h
  | _ :: _, [], _, _, h, _ => by simp [TqL] at h
  | t :: r, n :: q, g, o, h, ht => by
    rw [TqL] at h
    rw [RtsIs] at ht
    obtain ⟨⟨cs, h1, h2⟩, h3⟩ := ht
    rw [NdsV]
    exact ⟨⟨cs, rt_v hB t n cs h.1 h1, h2⟩, rts_v hB r q g _ h.2 h3⟩
end
/-- Rules in memory are those rules but for places. -/
def TqR : List Rr → List Rl → Prop
  | [], [] => True
  | x :: r, y :: q => y.1 = x.1 ∧ Tq x.2.1 y.2.1 ∧ TqR r q
  | _, _ => False
theorem TqR.len : ∀ {rs : List Rr} {ns : List Rl}, TqR rs ns → ns.length = rs.length
  | [], [], _ => rfl
  | [], _ :: _, h => by simp [TqR] at h
  | _ :: _, [], h => by simp [TqR] at h
  | x :: r, y :: q, h => by
    rw [TqR] at h
    simp [h.2.2.len]
theorem TqR.get : ∀ {rs : List Rr} {ns : List Rl}, TqR rs ns → ∀ (j : Nat) (h1 : j < rs.length) (h2 : j < ns.length), ns[j].1 = rs[j].1 ∧ Tq rs[j].2.1 ns[j].2.1
  | [], [], _, j, h1, _ => by simp at h1
  | [], _ :: _, h, _, _, _ => by simp [TqR] at h
  | _ :: _, [], h, _, _, _ => by simp [TqR] at h
  | x :: r, y :: q, h, 0, _, _ => by
    rw [TqR] at h
    exact ⟨h.1, h.2.1⟩
  | x :: r, y :: q, h, j + 1, h1, h2 => by
    rw [TqR] at h
    exact h.2.2.get j (by simpa using h1) (by simpa using h2)
theorem rg_v {w : World} {B s0 n : Nat} {so : Option Addr} {rs : List Rr} {ns : List Rl} (hB : B ≤ s0) (hq : TqR rs ns) (h : RgIs w B so n rs) : RgV s0 w so n ns := by
  refine ⟨by rw [hq.len]; exact h.1, h.2.1, fun j hj => ?_⟩
  have hj' : j < rs.length := by rw [← hq.len]; exact hj
  obtain ⟨g, o, h1, hg, k, T, a, b, c, d, so1, n1, cap, p, rt, z0, z1, z2, z3, z4, z5, z6, z7, z8, z9⟩ := h.2.2 j hj'
  obtain ⟨e1, e2⟩ := hq.get j hj' hj
  have hv := rt_v hB _ _ _ e2 rt
  obtain ⟨kd, T1, C, so2, sl, sc, p1, e3⟩ := hv.shape
  dsimp only [r8, v8] at e3
  cases e3
  exact ⟨g, o, h1, by omega, kd, T, C, so1, n1, cap, p, _, hv, by rw [e1]; exact z0, z1, z2, z3, z4, z5, z6, z7, z8, z9⟩
set_option maxRecDepth 100000 in
set_option maxHeartbeats 8000000 in
theorem nprint_bad (so : Option Addr) (n cap : Nat) (rs : List Rr) (B : Nat) (w : World) (hz : RgZ rs) (h : RgIs w B so n rs) (hB : B ≤ w.heap.size) (hk : okG rs = false) :
    Calls Tryz.prog 11 #[.agg #[.slice so n cap]] w fun e w' => e = .returned (.tuple #[.string { data := #[] }, .iface 39 (.int .i64 20)]) ∧ Below w.heap.size w w' := by
  have HI := hid (fun (W : World) (hb : Below w.heap.size w W) => nistree_any so n cap rs B W hz (h.below (hb.mono hB)) (Nat.le_trans hB hb.size))
  rw [hk] at HI
  clear h hz
  go_enter Tryz.func11, Tryz.ntmps11
  go_wp2_with (first | (go_at_call 21; refine (HI.out _ ?hh).mono ?_; (case hh => exact (Below.refl _ _).alloc (Nat.le_refl _) _); rintro e wq ⟨rfl, hbq⟩))
  go_ret2
  exact ⟨rfl, ((Below.refl _ w).alloc (Nat.le_refl _) _).trans (hbq.mono (by simp))⟩
set_option maxRecDepth 100000 in
set_option maxHeartbeats 8000000 in
theorem nprint_ok (so : Option Addr) (n cap : Nat) (rs : List Rr) (ns : List Rl) (B : Nat) (w : World) (hz : RgZ rs) (h : RgIs w B so n rs) (hB : B ≤ w.heap.size) (hk : okG rs = true) (hq : TqR rs ns) (hx : ∀ x ∈ ns, Ruk Nmq x) (hT : TabIs w) :
    Calls Tryz.prog 11 #[.agg #[.slice so n cap]] w fun e w' => e = .returned (ansT ns) ∧ Below w.heap.size w w' := by
  have HI := hid (fun (W : World) (hb : Below w.heap.size w W) => nistree_any so n cap rs B W hz (h.below (hb.mono hB)) (Nat.le_trans hB hb.size))
  have HT := hid (fun (W : World) (hb : Below w.heap.size w W) => ntext_any hx n cap so W (rg_v (Nat.le_trans hB hb.size) hq (h.below (hb.mono hB))) (hT.below hb hT.lt))
  rw [hk] at HI
  obtain ⟨A, E, hA⟩ : ∃ A E, ansT ns = .tuple #[A, E] := by
    unfold ansT
    split
    · exact ⟨_, _, rfl⟩
    · split
      · exact ⟨_, _, rfl⟩
      · exact ⟨_, _, rfl⟩
  rw [hA] at HT ⊢
  obtain ⟨W1, hW1⟩ : ∃ W1, W1 = w.alloc (.cells #[.slice so n cap] 24) := ⟨_, rfl⟩
  have HB1 : Hid (Below w.heap.size w W1) := by rw [hW1]; exact (Below.refl _ w).alloc (Nat.le_refl _) _
  have HC1 : Hid (W1.heap[w.heap.size]? = some (.cells #[.slice so n cap] 24)) := by rw [hW1]; exact new_block_at w _ rfl
  have HZ1 : Hid (W1.heap.size = w.heap.size + 1) := by rw [hW1]; exact World.size_alloc _ _
  have HW1 := hid hW1
  clear hW1 h hz hT hx hq hA
  go_enter Tryz.func11, Tryz.ntmps11
  go_wp2_with (first | (go_at_call 21; rw [← HW1.out]; refine (HI.out _ HB1.out).mono ?_; rintro e wq ⟨rfl, hbq⟩; have c0 := (one_cell ((hbq.block _ (by rw [HZ1.out]; exact Nat.lt_succ_self _)).trans HC1.out)).1; have HBq : Hid (Below w.heap.size w wq) := HB1.out.trans (hbq.mono HB1.out.size)) | (go_at_call 22; refine (HT.out _ HBq.out).mono ?_; rintro e wz ⟨rfl, hbz⟩))
  go_ret2
  exact ⟨rfl, HBq.out.trans (hbz.mono HBq.out.size)⟩
end Go.Proofs.YtikfnaffiehpaaaGreatDoor
namespace Go.Proofs.YtikfnaffiehpaaaGreatDoor
open Go.RowKit Go.Shelf
set_option linter.unusedVariables false
mutual
/-- A tree that was read, as it lies in memory. -/
def toR : Nd → RT
  | .mk kd T C s p => .mk (kd : Int) T (wd C 0 : Nat) (wd C 1 : Nat) (wd C 2 : Nat) (wd C 3 : Nat) (toRs s) (p : Int)
def toRs : List Nd → List RT
  | [] => []
  | n :: r => toR n :: toRs r
end
mutual
theorem tq_toR : ∀ n : Nd, Tq (toR n) n
  | .mk kd T C s p => by
    rw [toR, Tq]
    exact ⟨rfl, rfl, rfl, rfl, rfl, rfl, tq_toRs s⟩
theorem tq_toRs : ∀ s : List Nd, TqL (toRs s) s
  | [] => by rw [toRs, TqL]; trivial
  | n :: r => by
    rw [toRs, TqL]
    exact ⟨tq_toR n, tq_toRs r⟩
end
theorem toRs_len : ∀ s : List Nd, rtLen (toRs s) = ndLen s ∧ (toRs s).isEmpty = s.isEmpty
  | [] => ⟨rfl, rfl⟩
  | n :: r => ⟨by rw [toRs, rtLen, ndLen, (toRs_len r).1], by rw [toRs]; rfl⟩
mutual
theorem nd_rt {w : World} {P : Nat → Prop} : ∀ (n : Nd) (cs : List Value), Sm n n → NdIs w P n cs → RtIs w w.heap.size (toR n) cs
  | .mk kd T C s p, cs, hs, h => by
    rw [Sm] at hs
    rw [NdIs] at h
    obtain ⟨_, _, _, hl, hn⟩ := hs
    obtain ⟨sv, rfl, h⟩ := h
    rw [toR, RtIs]
    rcases h with ⟨h1, rfl⟩ | ⟨h1, g, cap, cur, rfl, _, hg, _, h5⟩
    · have hs0 : s = [] := by simpa using h1
      subst hs0
      exact ⟨none, 0, rfl, .inl rfl⟩
    · refine ⟨some ⟨g, 0, none⟩, cap, by rw [(toRs_len s).1], .inr ⟨by rw [(toRs_len s).2]; exact h1, g, 0, rfl, node_lt hg, by rw [(toRs_len s).1, ndLen_eq]; unfold maxLen; omega, nds_rt s cur.toList g 0 hl h5 fun j u hj => ?_⟩⟩
      rw [Array.getElem?_toList] at hj
      simp [World.cell?, hg, hj]
theorem nds_rt {w : World} {P : Nat → Prop} : ∀ (s : List Nd) (vs : List Value) (g o : Nat), SmL s s → NdsIs w P s vs → (∀ j u, vs[j]? = some u → w.cell? ⟨g, o + j, none⟩ = some u) → RtsIs w w.heap.size g o (toRs s)
  | [], vs, g, o, _, _, _ => by rw [toRs, RtsIs]; trivial
  | n :: r, vs, g, o, hs, h, hc => by
    rw [SmL] at hs
    rw [NdsIs] at h
    obtain ⟨c, rest, rfl, h1, h2⟩ := h
    have hl := h1.len
    rw [toRs, RtsIs]
    refine ⟨⟨c, nd_rt n c hs.1 h1, fun j u hj => hc j u ?_⟩, nds_rt r rest g (o + 8) hs.2 h2 fun j u hj => ?_⟩
    · have : j < c.length := (List.getElem?_eq_some_iff.1 hj).1
      rw [List.getElem?_append_left this]
      exact hj
    · rw [Nat.add_assoc]
      refine hc (8 + j) u ?_
      rw [List.getElem?_append_right (by omega), hl, Nat.add_sub_cancel_left]
      exact hj
end
theorem empty_list {T : ByteArray} (h : T = { data := #[] }) : T.toList.isEmpty = true := by
  subst h
  rw [ByteArray.toList_eq]
  rfl
theorem list_empty {T : ByteArray} (h : T.toList.isEmpty = true) : T = { data := #[] } := by
  rw [ByteArray.toList_eq] at h
  apply ByteArray.ext
  simpa using h
theorem TqL.length {s : List RT} {q : List Nd} (h : TqL s q) : q.length = rtLen s := by rw [← ndLen_eq]; exact h.len.1
theorem zc_zero : zc ((wd 0 0 : Nat) : Int) ((wd 0 1 : Nat) : Int) ((wd 0 2 : Nat) : Int) ((wd 0 3 : Nat) : Int) = true := by decide
theorem okN_of {kd : Nat} {T : ByteArray} {C n : Nat} {s : List Nd} (hn : s.length = n) (hv : (kd = 1 ∧ T = { data := #[] } ∧ C = 0 ∧ s = []) ∨ (kd = 2 ∧ C = 0 ∧ s = []) ∨ (kd = 3 ∧ T = { data := #[] } ∧ s = []) ∨ (kd = 4 ∧ T = { data := #[] } ∧ C = 0 ∧ s = []) ∨ (kd = 5 ∧ C = 0 ∧ s = []) ∨
      ((kd = 6 ∨ kd = 7) ∧ T = { data := #[] } ∧ C = 0 ∧ 2 ≤ s.length) ∨ (8 ≤ kd ∧ kd ≤ 12 ∧ T = { data := #[] } ∧ C = 0 ∧ s.length = 1)) (w2 : kd = 2 → T.size ≤ 255) (w5 : kd = 5 → nmS T = true) :
    okN (kd : Int) T (wd C 0 : Nat) (wd C 1 : Nat) (wd C 2 : Nat) (wd C 3 : Nat) n = true := by
  unfold okN
  subst hn
  rcases hv with ⟨rfl, hT, rfl, rfl⟩ | ⟨rfl, rfl, rfl⟩ | ⟨rfl, hT, rfl⟩ | ⟨rfl, hT, rfl, rfl⟩ | ⟨rfl, rfl, rfl⟩ | ⟨hk, hT, rfl, hl⟩ | ⟨h8, h12, hT, rfl, hl⟩
  · rw [if_pos (by decide), empty_list hT, zc_zero]; rfl
  · rw [if_neg (by decide), if_pos (by decide), zc_zero, decide_eq_true (by have := w2 rfl; omega)]; rfl
  · rw [if_neg (by decide), if_neg (by decide), if_pos (by decide), empty_list hT]; rfl
  · rw [if_pos (by decide), empty_list hT, zc_zero]; rfl
  · rw [if_neg (by decide), if_neg (by decide), if_neg (by decide), if_pos (by decide), zc_zero, w5 rfl]; rfl
  · rw [if_neg (by omega), if_neg (by omega), if_neg (by omega), if_neg (by omega), if_pos (by omega), empty_list hT, zc_zero, decide_eq_true (by omega)]; rfl
  · rw [if_neg (by omega), if_neg (by omega), if_neg (by omega), if_neg (by omega), if_neg (by omega), if_pos (by omega), empty_list hT, zc_zero, hl]; rfl
mutual
/-- What may be printed is found to be so. -/
theorem okT_of : ∀ (t : RT) (n : Nd), Tq t n → Vk n → Wf Nmq n → okT t = true ∧ RtZ t
  | .mk k T a b c d s p, .mk kd T' C s' pn, h, hv, hw => by
    rw [Tq] at h
    obtain ⟨rfl, rfl, rfl, rfl, rfl, rfl, hs⟩ := h
    have hkd := hv.kd
    rw [Vk] at hv
    rw [Wf] at hw
    obtain ⟨hv1, hvs⟩ := hv
    obtain ⟨w2, w5, wc, ws⟩ := hw
    obtain ⟨h1, h2⟩ := okL_of s s' hs hvs ws
    rw [okT, RtZ, h1, Bool.and_true]
    refine ⟨okN_of hs.length hv1 w2 w5, ?_, h2⟩
    have hz : ∀ T : ByteArray, T = { data := #[] } → T.size ≤ 9223372036854775807 := fun T h => by rw [h]; decide
    rcases hv1 with q | q | q | q | q | q | q
    · exact hz _ q.2.1
    · have := w2 q.1; omega
    · exact hz _ q.2.1
    · exact hz _ q.2.1
    · have := nm_size (w5 q.1); omega
    · exact hz _ q.2.1
    · exact hz _ q.2.2.1
theorem okL_of : ∀ (s : List RT) (q : List Nd), TqL s q → VkL q → WfL Nmq q → okL s = true ∧ RtsZ s
  | [], [], _, _, _ => by rw [okL, RtsZ]; exact ⟨rfl, trivial⟩
  | [], _ :: _, h, _, _ => by simp [TqL] at h
  | _ :: _, [], h, _, _ => by simp [TqL] at h
  | t :: r, n :: q, h, hv, hw => by
    rw [TqL] at h
    rw [VkL] at hv
    rw [WfL] at hw
    obtain ⟨a1, a2⟩ := okT_of t n h.1 hv.1 hw.1
    obtain ⟨b1, b2⟩ := okL_of r q h.2 hv.2 hw.2
    rw [okL, RtsZ, a1, b1]
    exact ⟨rfl, a2, b2⟩
end
end Go.Proofs.YtikfnaffiehpaaaGreatDoor
