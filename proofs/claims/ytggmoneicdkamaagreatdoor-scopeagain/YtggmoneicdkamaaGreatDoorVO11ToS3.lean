/-
  What scope.reached answers: a place, and all to which it leads, rising. Conditions: those that each theorem names.
  What printer.Print answers at any grammar in memory. Conditions: those that each theorem names.
  Trees that may be printed, as they lie in memory and as they are read. Conditions: those that each theorem names.
-/
import Derived.Test.YtggmoneicdkamaaGreatDoorVCIToO10
import Derived.Laws.EntriesVeiled
import Derived.Test.YtggmoneicdkamaaGreatDoorVS1ToO4
namespace Go.Proofs.YtggmoneicdkamaaGreatDoor
open Go.RowKit Go.Shelf Go.Maps
set_option linter.unusedVariables false
theorem rch_all {us : List (List Int)} {n a : Nat} {sn : List Bool} {out : List Int} (hp : Vp us (Rch us a) (List.replicate n false) [] sn out) (hc : Cw us (fun _ => False) (List.replicate n false) sn) (ha : sn[a]? = some true) :
    out.Nodup ∧ (∀ x ∈ out, ∃ i : Nat, x = (i : Int) ∧ Rch us a i ∧ i < n) ∧ (∀ i : Nat, Rch us a i → (i : Int) ∈ out) := by
  obtain ⟨news, e, hd, h1, h2⟩ := hp.ext
  rw [List.nil_append] at e
  subst e
  have hl : ∀ i : Nat, sn[i]? = some true → (List.replicate n false)[i]? = some false := fun i hi => by
    have : i < n := by
      have := (List.getElem?_eq_some_iff.1 hi).1
      rw [hp.len, List.length_replicate] at this
      exact this
    rw [List.getElem?_replicate, if_pos this]
  refine ⟨hd, fun x hx => ?_, fun i hi => ?_⟩
  · obtain ⟨i, q1, q2, q3, q4⟩ := h1 x hx
    refine ⟨i, q1, q4, ?_⟩
    have := (List.getElem?_eq_some_iff.1 q2).1
    rw [List.length_replicate] at this
    exact this
  · have hm : sn[i]? = some true := by
      induction hi with
      | refl => exact ha
      | step hb hmem ih =>
        obtain ⟨m, em, hm⟩ := hc _ (hl _ ih) ih (fun h => h) _ hmem
        rename_i b c
        have : c = m := by omega
        subst this
        exact hm
    exact h2 i (hl i hm) hm
/-- These are the places to which a leads, and a, rising. -/
def LdIs (us : List (List Int)) (a : Nat) (L : List Int) : Prop := L.Pairwise (· < ·) ∧ ∀ x : Int, x ∈ L ↔ ∃ i : Nat, x = (i : Int) ∧ Rch us a i
theorem srt_perm (L : List Int) : (srt L).Perm L := List.mergeSort_perm L _
theorem srt_le (L : List Int) : (srt L).Pairwise (· ≤ ·) := by
  have h := List.pairwise_mergeSort (le := fun x y : Int => decide (x ≤ y)) (fun a b c h1 h2 => by simp at h1 h2 ⊢; omega) (fun a b => by simp; omega) L
  exact h.imp (fun h => by simpa using h)
theorem srt_lt {L : List Int} (h : L.Nodup) : (srt L).Pairwise (· < ·) := by
  have h1 := srt_le L
  have h2 : (srt L).Nodup := (srt_perm L).nodup_iff.2 h
  exact (h1.and h2).imp fun ⟨a, b⟩ => by omega
theorem ld_srt {us : List (List Int)} {a : Nat} {out : List Int} (h1 : out.Nodup) (h2 : ∀ x ∈ out, ∃ i : Nat, x = (i : Int) ∧ Rch us a i) (h3 : ∀ i : Nat, Rch us a i → (i : Int) ∈ out) : LdIs us a (srt out) :=
  ⟨srt_lt h1, fun x => ⟨fun hx => h2 x ((srt_perm out).mem_iff.1 hx), fun ⟨i, e, hi⟩ => by rw [e]; exact (srt_perm out).mem_iff.2 (h3 i hi)⟩⟩
theorem Tryz.infoBool : (Tryz.prog.info? 4).map (fun i => (i.zero, i.size, i.bytes)) = some (some (.bool false), 1, 1) := by kernel_rfl
theorem mkbools (n : Nat) (hn : n ≤ 1048576) (W : World) : (Instr.makeSlice 83 (.int .i64 (n : Int)) (.int .i64 (n : Int))).run Tryz.prog W = .ok (.slice (some ⟨W.heap.size, 0, none⟩) n n) (W.alloc (.cells (Array.replicate n (Value.bool false)) 4)) := by
  obtain ⟨i0, hi0, hz0, hz1, hz2⟩ := info_parts Tryz.infoBool
  rw [run_make W 83 4 i0 (.bool false) Tryz.underlying83 hi0 hz0 .i64 .i64 n n (by omega) (by omega) (by rw [hz2]; omega) (by omega), hz1, made_rep _ rfl]
  simp
set_option maxRecDepth 100000 in
set_option maxHeartbeats 8000000 in
theorem reached_ok (uv : Value) (us : List (List Int)) (n a : Nat) (w : World) (hU : UsM w w.heap.size uv us) (hN : us.length = n) (hX : ∀ u ∈ us, ∀ x ∈ u, ∃ m : Nat, m < n ∧ x = (m : Int)) (hn : n ≤ 1048576) (ha : a < n) :
    Calls Tryz.prog 31 #[uv, .int .i64 (a : Int)] w fun e w' => ∃ v L, e = .returned v ∧ LdIs us a L ∧ L.length ≤ n ∧ w'.ownsRow w.heap.size 3 1 v L.length (L.map (Value.int .i64)) ∧ Below w.heap.size w w' := by
  have hmk := mkbools n hn
  have HU := hid hU
  obtain ⟨uso, ucap, rfl, hul, hur⟩ := hU
  rw [hN] at HU ⊢
  clear hur
  go_enter Tryz.func31, Tryz.ntmps31
  obtain ⟨W5, hW5⟩ : ∃ W5, W5 = ((((w.alloc (.cells #[.slice uso n ucap] 30)).alloc (.cells #[.slice none 0 0] 33)).alloc (.cells (Array.replicate n (Value.bool false)) 4)).alloc (.cells #[.slice (some ⟨w.heap.size + 1 + 1, 0, none⟩) n n] 83)).alloc (.cells #[.func (.func 48) #[] #[.pointer (some ⟨w.heap.size + 1 + 1 + 1, 0, none⟩), .pointer (some ⟨w.heap.size + 1, 0, none⟩), .pointer (some ⟨w.heap.size, 0, none⟩), .pointer (some ⟨w.heap.size + 1 + 1 + 1 + 1, 0, none⟩)]] 97) := ⟨_, rfl⟩
  have hV : Vs w.heap.size n (w.heap.size + 1 + 1 + 1) (w.heap.size + 1) w.heap.size (w.heap.size + 1 + 1 + 1 + 1) (w.heap.size + 1 + 1) (.slice uso n ucap) w (List.replicate n false) [] W5 := by
    rw [hW5]
    refine ⟨?_, ?_, ⟨.slice none 0 0, ?_, World.ownsRow_nil _ _ _ _⟩, ?_, ?_, ?_, List.length_replicate⟩
    · have := (Boxed.new (((w.alloc (.cells #[.slice uso n ucap] 30)).alloc (.cells #[.slice none 0 0] 33)).alloc (.cells (Array.replicate n (Value.bool false)) 4)) 83 (.slice (some ⟨w.heap.size + 1 + 1, 0, none⟩) n n)).alloc (.cells #[.func (.func 48) #[] #[.pointer (some ⟨w.heap.size + 1 + 1 + 1, 0, none⟩), .pointer (some ⟨w.heap.size + 1, 0, none⟩), .pointer (some ⟨w.heap.size, 0, none⟩), .pointer (some ⟨w.heap.size + 1 + 1 + 1 + 1, 0, none⟩)]] 97)
      simpa only [World.size_alloc] using this
    · refine (Below.heap_alloc _ _ _ (by simp)).trans ((Below.heap_alloc _ _ _ (by simp)).trans ?_)
      rw [new_block_at _ _ (by simp)]
      simp
    · have := (((Boxed.new (w.alloc (.cells #[.slice uso n ucap] 30)) 33 (.slice none 0 0)).alloc (.cells (Array.replicate n (Value.bool false)) 4)).alloc (.cells #[.slice (some ⟨w.heap.size + 1 + 1, 0, none⟩) n n] 83)).alloc (.cells #[.func (.func 48) #[] #[.pointer (some ⟨w.heap.size + 1 + 1 + 1, 0, none⟩), .pointer (some ⟨w.heap.size + 1, 0, none⟩), .pointer (some ⟨w.heap.size, 0, none⟩), .pointer (some ⟨w.heap.size + 1 + 1 + 1 + 1, 0, none⟩)]] 97)
      simpa only [World.size_alloc] using this
    · exact ((((Boxed.new w 30 (.slice uso n ucap)).alloc _).alloc _).alloc _).alloc _
    · have := Boxed.new ((((w.alloc (.cells #[.slice uso n ucap] 30)).alloc (.cells #[.slice none 0 0] 33)).alloc (.cells (Array.replicate n (Value.bool false)) 4)).alloc (.cells #[.slice (some ⟨w.heap.size + 1 + 1, 0, none⟩) n n] 83)) 97 (.func (.func 48) #[] #[.pointer (some ⟨w.heap.size + 1 + 1 + 1, 0, none⟩), .pointer (some ⟨w.heap.size + 1, 0, none⟩), .pointer (some ⟨w.heap.size, 0, none⟩), .pointer (some ⟨w.heap.size + 1 + 1 + 1 + 1, 0, none⟩)])
      simpa only [World.size_alloc] using this
    · exact (((((Below.refl _ w).alloc (Nat.le_refl _) _).alloc (by simp) _).alloc (by simp; omega) _).alloc (by simp; omega) _).alloc (by simp; omega) _
  have hun : unm (List.replicate n false) = n := by simp [unm]
  have HC := hid (visit_any w.heap.size n _ _ _ _ _ _ us w HU hN hX (Nat.le_refl _) (by omega) (by omega) hn (n + 1) (List.replicate n false) [] W5 a (by omega) (by simp [hun]) hV ha)
  have HNn : Hid (us.length = n) := hN
  clear hV hun HU hX hN
  go_wp2_with fail
  rw [← hW5]
  refine HC.out.mono ?_
  rintro e w6 ⟨rfl, sn6, out6, v6, p6, c6, m6, l6⟩
  obtain ⟨q1, q2, q3⟩ := rch_all p6 c6 m6
  have HL := hid (ld_srt q1 (fun x hx => (q2 x hx).imp fun i h => ⟨h.1, h.2.1⟩) q3)
  obtain ⟨v, hv, hr⟩ := v6.obx
  have hol : out6.length ≤ 1048576 := by omega
  have HOL : Hid (out6.length ≤ n) := by show _ ≤ _; omega
  have HS := hid (sort_own hr hol)
  obtain ⟨kz, hkz⟩ : ∃ kz, kz = out6.length := ⟨_, rfl⟩
  rw [← hkz] at hr HS
  obtain ⟨so, sc, rfl⟩ := own_any hr
  have cv := hv.cell
  have HKZ : Hid (kz = out6.length) := hkz
  have HRow := hid hr
  have HV := hid hv
  have HBe := hid v6.be
  clear HC p6 c6 m6 l6 q1 q2 q3 v6 hkz hr hv hW5
  go_wp2_with fail
  refine HS.out.mono ?_
  rintro e w7 ⟨rfl, hr7, hg7⟩
  have hv7 := HV.out.kept hg7 (HV.out.not_row (by decide) HRow.out)
  have cv7 := hv7.cell
  have k7 := row_keeps HRow.out hg7 HBe.out.size
  have HR7 := hid hr7
  have HB7 := hid (HBe.out.trans k7.2)
  clear HS cv hr7 hg7 hv7 k7
  go_wp2_with fail
  go_ret
  refine ⟨_, srt out6, rfl, HL.out, by rw [srt_len]; exact HOL.out, ?_, HB7.out⟩
  rw [srt_len, ← HKZ.out]
  exact HR7.out
end Go.Proofs.YtggmoneicdkamaaGreatDoor
namespace Go.Proofs.YtggmoneicdkamaaGreatDoor
open Go.RowKit Go.Shelf
set_option linter.unusedVariables false
mutual
/-- A tree in memory is that tree but for places. -/
def Tq : RT → Nd → Prop
  | .mk k T a b c d s _, .mk kd T' C s' _ => k = (kd : Int) ∧ T' = T ∧ a = (wd C 0 : Nat) ∧ b = (wd C 1 : Nat) ∧ c = (wd C 2 : Nat) ∧ d = (wd C 3 : Nat) ∧ TqL s s'
def TqL : List RT → List Nd → Prop
  | [], [] => True
  | t :: r, n :: q => Tq t n ∧ TqL r q
  | _, _ => False
end
theorem TqL.len : ∀ {s : List RT} {q : List Nd}, TqL s q → ndLen q = rtLen s ∧ q.isEmpty = s.isEmpty
  | [], [], _ => ⟨rfl, rfl⟩
  | [], _ :: _, h => by simp [TqL] at h
  | _ :: _, [], h => by simp [TqL] at h
  | t :: r, n :: q, h => by
    rw [TqL] at h
    exact ⟨by rw [ndLen, rtLen, h.2.len.1], rfl⟩
mutual
theorem rt_v {w : World} {B s0 : Nat} (hB : B ≤ s0) : ∀ (t : RT) (n : Nd) (cs : List Value), Tq t n → RtIs w B t cs → NdV s0 w n cs
  | .mk k T a b c d s p, .mk kd T' C s' pn, cs, h, ht => by
    rw [Tq] at h
    obtain ⟨rfl, rfl, rfl, rfl, rfl, rfl, hs⟩ := h
    rw [RtIs] at ht
    obtain ⟨so, cap, rfl, ht⟩ := ht
    rw [NdV]
    refine ⟨so, cap, p, by rw [hs.len.1], ?_⟩
    rcases ht with h1 | ⟨h1, g, o, rfl, h3, h4, h5⟩
    · exact .inl (by rw [hs.len.2]; exact h1)
    · exact .inr ⟨by rw [hs.len.2]; exact h1, g, o, rfl, by omega, by rw [hs.len.1]; exact h4, rts_v hB s s' g o hs h5⟩
theorem rts_v {w : World} {B s0 : Nat} (hB : B ≤ s0) : ∀ (s : List RT) (q : List Nd) (g o : Nat), TqL s q → RtsIs w B g o s → NdsV s0 w g o q
  | [], [], g, o, _, _ => by rw [NdsV]; trivial
  | [], _ :: _, _, _, h, _ => by simp [TqL] at h
  | _ :: _, [], _, _, h, _ => by simp [TqL] at h
  | t :: r, n :: q, g, o, h, ht => by
    rw [TqL] at h
    rw [RtsIs] at ht
    obtain ⟨⟨cs, h1, h2⟩, h3⟩ := ht
    rw [NdsV]
    exact ⟨⟨cs, rt_v hB t n cs h.1 h1, h2⟩, rts_v hB r q g _ h.2 h3⟩
end
/-- Rules in memory are those rules but for places. -/
def TqR : List Rr → List Rl → Prop
  | [], [] => True
  | x :: r, y :: q => y.1 = x.1 ∧ Tq x.2.1 y.2.1 ∧ TqR r q
  | _, _ => False
theorem TqR.len : ∀ {rs : List Rr} {ns : List Rl}, TqR rs ns → ns.length = rs.length
  | [], [], _ => rfl
  | [], _ :: _, h => by simp [TqR] at h
  | _ :: _, [], h => by simp [TqR] at h
  | x :: r, y :: q, h => by
    rw [TqR] at h
    simp [h.2.2.len]
theorem TqR.get : ∀ {rs : List Rr} {ns : List Rl}, TqR rs ns → ∀ (j : Nat) (h1 : j < rs.length) (h2 : j < ns.length), ns[j].1 = rs[j].1 ∧ Tq rs[j].2.1 ns[j].2.1
  | [], [], _, j, h1, _ => by simp at h1
  | [], _ :: _, h, _, _, _ => by simp [TqR] at h
  | _ :: _, [], h, _, _, _ => by simp [TqR] at h
  | x :: r, y :: q, h, 0, _, _ => by
    rw [TqR] at h
    exact ⟨h.1, h.2.1⟩
  | x :: r, y :: q, h, j + 1, h1, h2 => by
    rw [TqR] at h
    exact h.2.2.get j (by simpa using h1) (by simpa using h2)
theorem rg_v {w : World} {B s0 n : Nat} {so : Option Addr} {rs : List Rr} {ns : List Rl} (hB : B ≤ s0) (hq : TqR rs ns) (h : RgIs w B so n rs) : RgV s0 w so n ns := by
  refine ⟨by rw [hq.len]; exact h.1, h.2.1, fun j hj => ?_⟩
  have hj' : j < rs.length := by rw [← hq.len]; exact hj
  obtain ⟨g, o, h1, hg, k, T, a, b, c, d, so1, n1, cap, p, rt, z0, z1, z2, z3, z4, z5, z6, z7, z8, z9⟩ := h.2.2 j hj'
  obtain ⟨e1, e2⟩ := hq.get j hj' hj
  have hv := rt_v hB _ _ _ e2 rt
  obtain ⟨kd, T1, C, so2, sl, sc, p1, e3⟩ := hv.shape
  dsimp only [r8, v8] at e3
  cases e3
  exact ⟨g, o, h1, by omega, kd, T, C, so1, n1, cap, p, _, hv, by rw [e1]; exact z0, z1, z2, z3, z4, z5, z6, z7, z8, z9⟩
set_option maxRecDepth 100000 in
set_option maxHeartbeats 8000000 in
theorem nprint_bad (so : Option Addr) (n cap : Nat) (rs : List Rr) (B : Nat) (w : World) (hz : RgZ rs) (h : RgIs w B so n rs) (hB : B ≤ w.heap.size) (hk : okG rs = false) :
    Calls Tryz.prog 64 #[.agg #[.slice so n cap]] w fun e w' => e = .returned (.tuple #[.string { data := #[] }, .iface 36 (.int .i64 20)]) ∧ Below w.heap.size w w' := by
  have HI := hid (fun (W : World) (hb : Below w.heap.size w W) => nistree_any so n cap rs B W hz (h.below (hb.mono hB)) (Nat.le_trans hB hb.size))
  rw [hk] at HI
  clear h hz
  go_enter Tryz.func64, Tryz.ntmps64
  go_wp2_with (first | (go_at_call 93; refine (HI.out _ ?hh).mono ?_; (case hh => exact (Below.refl _ _).alloc (Nat.le_refl _) _); rintro e wq ⟨rfl, hbq⟩))
  go_ret2
  exact ⟨rfl, ((Below.refl _ w).alloc (Nat.le_refl _) _).trans (hbq.mono (by simp))⟩
set_option maxRecDepth 100000 in
set_option maxHeartbeats 8000000 in
theorem nprint_ok (so : Option Addr) (n cap : Nat) (rs : List Rr) (ns : List Rl) (B : Nat) (w : World) (hz : RgZ rs) (h : RgIs w B so n rs) (hB : B ≤ w.heap.size) (hk : okG rs = true) (hq : TqR rs ns) (hx : ∀ x ∈ ns, Ruk Nmq x) (hT : TabIs w) :
    Calls Tryz.prog 64 #[.agg #[.slice so n cap]] w fun e w' => e = .returned (ansT ns) ∧ Below w.heap.size w w' := by
  have HI := hid (fun (W : World) (hb : Below w.heap.size w W) => nistree_any so n cap rs B W hz (h.below (hb.mono hB)) (Nat.le_trans hB hb.size))
  have HT := hid (fun (W : World) (hb : Below w.heap.size w W) => ntext_any hx n cap so W (rg_v (Nat.le_trans hB hb.size) hq (h.below (hb.mono hB))) (hT.below hb hT.lt))
  rw [hk] at HI
  obtain ⟨A, E, hA⟩ : ∃ A E, ansT ns = .tuple #[A, E] := by
    unfold ansT
    split
    · exact ⟨_, _, rfl⟩
    · split
      · exact ⟨_, _, rfl⟩
      · exact ⟨_, _, rfl⟩
  rw [hA] at HT ⊢
  obtain ⟨W1, hW1⟩ : ∃ W1, W1 = w.alloc (.cells #[.slice so n cap] 24) := ⟨_, rfl⟩
  have HB1 : Hid (Below w.heap.size w W1) := by rw [hW1]; exact (Below.refl _ w).alloc (Nat.le_refl _) _
  have HC1 : Hid (W1.heap[w.heap.size]? = some (.cells #[.slice so n cap] 24)) := by rw [hW1]; exact new_block_at w _ rfl
  have HZ1 : Hid (W1.heap.size = w.heap.size + 1) := by rw [hW1]; exact World.size_alloc _ _
  have HW1 := hid hW1
  clear hW1 h hz hT hx hq hA
  go_enter Tryz.func64, Tryz.ntmps64
  go_wp2_with (first | (go_at_call 93; rw [← HW1.out]; refine (HI.out _ HB1.out).mono ?_; rintro e wq ⟨rfl, hbq⟩; have c0 := (one_cell ((hbq.block _ (by rw [HZ1.out]; exact Nat.lt_succ_self _)).trans HC1.out)).1; have HBq : Hid (Below w.heap.size w wq) := HB1.out.trans (hbq.mono HB1.out.size)) | (go_at_call 94; refine (HT.out _ HBq.out).mono ?_; rintro e wz ⟨rfl, hbz⟩))
  go_ret2
  exact ⟨rfl, HBq.out.trans (hbz.mono HBq.out.size)⟩
end Go.Proofs.YtggmoneicdkamaaGreatDoor
namespace Go.Proofs.YtggmoneicdkamaaGreatDoor
open Go.RowKit Go.Shelf
set_option linter.unusedVariables false
mutual
/-- A tree that was read, as it lies in memory. -/
def toR : Nd → RT
  | .mk kd T C s p => .mk (kd : Int) T (wd C 0 : Nat) (wd C 1 : Nat) (wd C 2 : Nat) (wd C 3 : Nat) (toRs s) (p : Int)
def toRs : List Nd → List RT
  | [] => []
  | n :: r => toR n :: toRs r
end
mutual
theorem tq_toR : ∀ n : Nd, Tq (toR n) n
  | .mk kd T C s p => by
    rw [toR, Tq]
    exact ⟨rfl, rfl, rfl, rfl, rfl, rfl, tq_toRs s⟩
theorem tq_toRs : ∀ s : List Nd, TqL (toRs s) s
  | [] => by rw [toRs, TqL]; trivial
  | n :: r => by
    rw [toRs, TqL]
    exact ⟨tq_toR n, tq_toRs r⟩
end
theorem toRs_len : ∀ s : List Nd, rtLen (toRs s) = ndLen s ∧ (toRs s).isEmpty = s.isEmpty
  | [] => ⟨rfl, rfl⟩
  | n :: r => ⟨by rw [toRs, rtLen, ndLen, (toRs_len r).1], by rw [toRs]; rfl⟩
mutual
theorem nd_rt {w : World} {P : Nat → Prop} : ∀ (n : Nd) (cs : List Value), Sm n n → NdIs w P n cs → RtIs w w.heap.size (toR n) cs
  | .mk kd T C s p, cs, hs, h => by
    rw [Sm] at hs
    rw [NdIs] at h
    obtain ⟨_, _, _, hl, hn⟩ := hs
    obtain ⟨sv, rfl, h⟩ := h
    rw [toR, RtIs]
    rcases h with ⟨h1, rfl⟩ | ⟨h1, g, cap, cur, rfl, _, hg, _, h5⟩
    · have hs0 : s = [] := by simpa using h1
      subst hs0
      exact ⟨none, 0, rfl, .inl rfl⟩
    · refine ⟨some ⟨g, 0, none⟩, cap, by rw [(toRs_len s).1], .inr ⟨by rw [(toRs_len s).2]; exact h1, g, 0, rfl, node_lt hg, by rw [(toRs_len s).1, ndLen_eq]; unfold maxLen; omega, nds_rt s cur.toList g 0 hl h5 fun j u hj => ?_⟩⟩
      rw [Array.getElem?_toList] at hj
      simp [World.cell?, hg, hj]
theorem nds_rt {w : World} {P : Nat → Prop} : ∀ (s : List Nd) (vs : List Value) (g o : Nat), SmL s s → NdsIs w P s vs → (∀ j u, vs[j]? = some u → w.cell? ⟨g, o + j, none⟩ = some u) → RtsIs w w.heap.size g o (toRs s)
  | [], vs, g, o, _, _, _ => by rw [toRs, RtsIs]; trivial
  | n :: r, vs, g, o, hs, h, hc => by
    rw [SmL] at hs
    rw [NdsIs] at h
    obtain ⟨c, rest, rfl, h1, h2⟩ := h
    have hl := h1.len
    rw [toRs, RtsIs]
    refine ⟨⟨c, nd_rt n c hs.1 h1, fun j u hj => hc j u ?_⟩, nds_rt r rest g (o + 8) hs.2 h2 fun j u hj => ?_⟩
    · have : j < c.length := (List.getElem?_eq_some_iff.1 hj).1
      rw [List.getElem?_append_left this]
      exact hj
    · rw [Nat.add_assoc]
      refine hc (8 + j) u ?_
      rw [List.getElem?_append_right (by omega), hl, Nat.add_sub_cancel_left]
      exact hj
end
theorem empty_list {T : ByteArray} (h : T = { data := #[] }) : T.toList.isEmpty = true := by
  subst h
  rw [ByteArray.toList_eq]
  rfl
theorem list_empty {T : ByteArray} (h : T.toList.isEmpty = true) : T = { data := #[] } := by
  rw [ByteArray.toList_eq] at h
  apply ByteArray.ext
  simpa using h
theorem TqL.length {s : List RT} {q : List Nd} (h : TqL s q) : q.length = rtLen s := by rw [← ndLen_eq]; exact h.len.1
theorem zc_zero : zc ((wd 0 0 : Nat) : Int) ((wd 0 1 : Nat) : Int) ((wd 0 2 : Nat) : Int) ((wd 0 3 : Nat) : Int) = true := by decide
theorem okN_of {kd : Nat} {T : ByteArray} {C n : Nat} {s : List Nd} (hn : s.length = n) (hv : (kd = 1 ∧ T = { data := #[] } ∧ C = 0 ∧ s = []) ∨ (kd = 2 ∧ C = 0 ∧ s = []) ∨ (kd = 3 ∧ T = { data := #[] } ∧ s = []) ∨ (kd = 4 ∧ T = { data := #[] } ∧ C = 0 ∧ s = []) ∨ (kd = 5 ∧ C = 0 ∧ s = []) ∨
      ((kd = 6 ∨ kd = 7) ∧ T = { data := #[] } ∧ C = 0 ∧ 2 ≤ s.length) ∨ (8 ≤ kd ∧ kd ≤ 12 ∧ T = { data := #[] } ∧ C = 0 ∧ s.length = 1)) (w2 : kd = 2 → T.size ≤ 255) (w5 : kd = 5 → nmS T = true) :
    okN (kd : Int) T (wd C 0 : Nat) (wd C 1 : Nat) (wd C 2 : Nat) (wd C 3 : Nat) n = true := by
  unfold okN
  subst hn
  rcases hv with ⟨rfl, hT, rfl, rfl⟩ | ⟨rfl, rfl, rfl⟩ | ⟨rfl, hT, rfl⟩ | ⟨rfl, hT, rfl, rfl⟩ | ⟨rfl, rfl, rfl⟩ | ⟨hk, hT, rfl, hl⟩ | ⟨h8, h12, hT, rfl, hl⟩
  · rw [if_pos (by decide), empty_list hT, zc_zero]; rfl
  · rw [if_neg (by decide), if_pos (by decide), zc_zero, decide_eq_true (by have := w2 rfl; omega)]; rfl
  · rw [if_neg (by decide), if_neg (by decide), if_pos (by decide), empty_list hT]; rfl
  · rw [if_pos (by decide), empty_list hT, zc_zero]; rfl
  · rw [if_neg (by decide), if_neg (by decide), if_neg (by decide), if_pos (by decide), zc_zero, w5 rfl]; rfl
  · rw [if_neg (by omega), if_neg (by omega), if_neg (by omega), if_neg (by omega), if_pos (by omega), empty_list hT, zc_zero, decide_eq_true (by omega)]; rfl
  · rw [if_neg (by omega), if_neg (by omega), if_neg (by omega), if_neg (by omega), if_neg (by omega), if_pos (by omega), empty_list hT, zc_zero, hl]; rfl
mutual
/-- What may be printed is found to be so. -/
theorem okT_of : ∀ (t : RT) (n : Nd), Tq t n → Vk n → Wf Nmq n → okT t = true ∧ RtZ t
  | .mk k T a b c d s p, .mk kd T' C s' pn, h, hv, hw => by
    rw [Tq] at h
    obtain ⟨rfl, rfl, rfl, rfl, rfl, rfl, hs⟩ := h
    have hkd := hv.kd
    rw [Vk] at hv
    rw [Wf] at hw
    obtain ⟨hv1, hvs⟩ := hv
    obtain ⟨w2, w5, wc, ws⟩ := hw
    obtain ⟨h1, h2⟩ := okL_of s s' hs hvs ws
    rw [okT, RtZ, h1, Bool.and_true]
    refine ⟨okN_of hs.length hv1 w2 w5, ?_, h2⟩
    have hz : ∀ T : ByteArray, T = { data := #[] } → T.size ≤ 9223372036854775807 := fun T h => by rw [h]; decide
    rcases hv1 with q | q | q | q | q | q | q
    · exact hz _ q.2.1
    · have := w2 q.1; omega
    · exact hz _ q.2.1
    · exact hz _ q.2.1
    · have := nm_size (w5 q.1); omega
    · exact hz _ q.2.1
    · exact hz _ q.2.2.1
theorem okL_of : ∀ (s : List RT) (q : List Nd), TqL s q → VkL q → WfL Nmq q → okL s = true ∧ RtsZ s
  | [], [], _, _, _ => by rw [okL, RtsZ]; exact ⟨rfl, trivial⟩
  | [], _ :: _, h, _, _ => by simp [TqL] at h
  | _ :: _, [], h, _, _ => by simp [TqL] at h
  | t :: r, n :: q, h, hv, hw => by
    rw [TqL] at h
    rw [VkL] at hv
    rw [WfL] at hw
    obtain ⟨a1, a2⟩ := okT_of t n h.1 hv.1 hw.1
    obtain ⟨b1, b2⟩ := okL_of r q h.2 hv.2 hw.2
    rw [okL, RtsZ, a1, b1]
    exact ⟨rfl, a2, b2⟩
end
end Go.Proofs.YtggmoneicdkamaaGreatDoor
