/-
  The law's own act: Start, on both disks. Conditions: those that each theorem names.
-/
import Derived.Test.YtmddcdaodlnnhaaGreatDoorVDLNToDLO0
import Derived.Deep.QuietTactic
import Derived.BigQuiet
namespace Go.Proofs.YtmddcdaodlnnhaaGreatDoor
open Go.RowKit Go.Maps
set_option linter.unusedVariables false
theorem Tryz.info3 : (Tryz.prog.info? 3).map (fun i => (i.zero, i.size, i.bytes)) = some (some (.int .i64 0), 1, 8) := by kernel_rfl
/-- Numbers appended to an empty row. -/
theorem app_ints {Y : World} {g base n c : Nat} {o : Option Addr} {ks : List Int} (hg : Y.heap[g]? = some (.cells #[] 3)) (hb : base ≤ g) (h : IntsAt Y o n c ks) (hn : n ≤ 1099511627776) :
    ∃ o' c' Y', (Builtin.append_ #[30, 30] 30 #[.slice (some ⟨g, 0, none⟩) 0 0, .slice o n c]).run Tryz.prog Y = .ok (.slice o' n c') Y' ∧ Y'.ownsRow base 3 1 (.slice o' n c') n (ks.map (Value.int .i64)) ∧ Below base Y Y' := by
  obtain ⟨i0, hi, hz0, hz1, hz2⟩ := info_parts Tryz.info3
  obtain ⟨h1, h2, h3, h4, h5⟩ := h
  have hsrc : Src Y o n (ks.map (Value.int .i64)) := by
    rcases Nat.eq_zero_or_pos n with h0 | h0
    · subst h0
      obtain rfl : ks = [] := List.eq_nil_of_length_eq_zero h1
      cases o with
      | none => exact .inl ⟨rfl, rfl⟩
      | some a => exact .inr ⟨a, rfl, fun j u hj => by simp at hj⟩
    · obtain ⟨g', off, rfl, hl, hc⟩ := h5 h0
      refine .inr ⟨_, rfl, fun j u hj => ?_⟩
      have hjl : j < ks.length := by have := (List.getElem?_eq_some_iff.1 hj).1; simpa using this
      have hu : u = .int .i64 ks[j] := by
        rw [List.getElem?_map, List.getElem?_eq_getElem hjl] at hj
        exact (Option.some.inj hj).symm
      rw [Addr.add_lit, hu]
      exact hc j hjl
  have hown : Y.ownsRow base 3 1 (.slice (some ⟨g, 0, none⟩) 0 0) 0 [] := ⟨rfl, .inr ⟨g, 0, #[], rfl, hb, hg, Nat.le_refl _, by unfold maxLen; omega, rfl, rfl⟩⟩
  have hl := node_lt hg
  obtain ⟨v', Y', hr, ho, hgr, hat⟩ := app_any Tryz.underlying30 hi hz0 hz1 hz2 rfl (by decide) hown c (by simpa using h1) hsrc (fun u hu => by obtain ⟨z, _, rfl⟩ := List.mem_map.1 hu; rfl) (by unfold maxLen; omega) (by omega) (by omega) 30 h4
  rw [Nat.zero_add, List.nil_append] at ho
  obtain ⟨o', c', rfl⟩ := own_any_shape ho
  exact ⟨o', c', Y', hr, ho, (Below.refl base Y).grown hgr (by omega) fun k e => by cases e; exact hb⟩
theorem ints_of {w : World} {base n c : Nat} {o : Option Addr} {ks : List Int} (h : w.ownsRow base 3 1 (.slice o n c) n (ks.map (Value.int .i64))) (hI : ∀ x ∈ ks, inI x) : IntsAt w o n c ks ∧ ∀ a, o = some a → base ≤ a.block := by
  obtain ⟨hl, h1 | ⟨g, cap, cur, e, hb, hg, hn, hmx, hsz, htk⟩⟩ := h
  · obtain ⟨e, h0⟩ := h1
    cases e
    exact ⟨⟨by simpa using hl, Nat.le_refl _, hI, fun _ => rfl, fun h => absurd h (by omega)⟩, fun a e => by cases e⟩
  · cases e
    refine ⟨⟨by simpa using hl, hn, hI, fun e => (by cases e), fun h0 => ⟨g, 0, rfl, node_lt hg, fun i hi => ?_⟩⟩, fun a e => by cases e; exact hb⟩
    have h1 : cur[i]? = some (.int .i64 ks[i]) := by
      have hin : i < n := by have : ks.length = n := by simpa using hl
                             omega
      have : (cur.toList.take (n * 1))[i]? = some (.int .i64 ks[i]) := by rw [htk]; simp [hi]
      rw [List.getElem?_take_of_lt (by omega)] at this
      simpa using this
    rw [Nat.zero_add]
    exact (cell_in hg i _ h1).1
set_option maxRecDepth 100000 in
set_option maxHeartbeats 16000000 in
theorem lact_start {m T : Nat} {w : World} {d x B : Nat} {fs : List Fx} {v : Value} {l : List Gx} {s : Sp} (hE : ErrIs w) (hEm : 0 < m) (h : Tw0 m T w d x B fs v l s) (hT : T < 1099511627776) (S : ByteArray) {bo : Option Addr} {bc : Nat} {bb : List UInt8} (hB : Has w bo bb.length bc bb) (hbo : ∀ a, bo = some a ∧ 0 < bb.length → ¬ O2 d x B fs v l a.block) (hbn : bb.length ≤ 1099511627775) (N M : Int) {lo : Option Addr} {ln lc : Nat} {ks : List Int} (hks : IntsAt w lo ln lc ks) (hlo : ∀ a, lo = some a ∧ 0 < ln → ¬ O2 d x B fs v l a.block) (hln : ln ≤ 1099511627776) :
    Calls Tryz.prog 10 #[.pointer (some ⟨d, 0, none⟩), .pointer (some ⟨x, 0, none⟩), .agg #[.int .i64 6, .string S, .slice bo bb.length bc, .int .i64 N, .int .i64 M, .slice lo ln lc]] w fun e w' => e = .returned (.bool true) ∧ ∃ fs' v' l', Tw0 m T w' d x B fs' v' l' ⟨startL s.P ks, false, false, s.ah, s.pa⟩ ∧ Stp (O2 d x B fs v l) w (O2 d x B fs' v' l') w' := by
  obtain ⟨wb, hwb⟩ : ∃ wb, wb = w.alloc (.cells #[.int .i64 6, .string S, .slice bo bb.length bc, .int .i64 N, .int .i64 M, .slice lo ln lc] 32) := ⟨_, rfl⟩
  have hbb : Below w.heap.size w wb := by rw [hwb]; exact below_al _ _
  have qb : wb.heap[w.heap.size]? = some (.cells #[.int .i64 6, .string S, .slice bo bb.length bc, .int .i64 N, .int .i64 M, .slice lo ln lc] 32) := by rw [hwb]; exact new_block_at _ _ rfl
  have hsb : wb.heap.size = w.heap.size + 1 := by rw [hwb]; simp
  have hnew : ∀ g, w.heap.size ≤ g → ¬ O2 d x B fs v l g := fun g hg e => by have := (h.lt g e).2; omega
  have hmw : m ≤ w.heap.size := Nat.le_trans h.dk.md (Nat.le_of_lt (node_lt h.dk.blk))
  have HL := hid (lent_any bo bb.length bc bb wb (hB.below hbb) (by omega))
  have HWb := hid hwb
  have HQb := hid qb
  have b0 := And.left (cell_in qb 0 _ rfl)
  have b1 := And.left (cell_in qb 1 _ rfl)
  have b2 := And.left (cell_in qb 2 _ rfl)
  have b3 := And.left (cell_in qb 3 _ rfl)
  have b4 := And.left (cell_in qb 5 _ rfl)
  have blt := node_lt qb
  have HSz := hid (And.intro hsb (And.intro hbb (And.intro qb True.intro)))
  clear hwb hsb hbb qb
  go_enter Tryz.func10, Tryz.ntmps10
  go_wp2_with fail
  rw [← HWb.out]
  refine HL.out.mono ?_
  rintro e w1 ⟨rfl, hL1, hb1⟩
  obtain ⟨hsb, hbb, qb, _⟩ := HSz.out
  obtain ⟨we, hwe⟩ : ∃ we, we = w1.alloc (.cells #[] 3) := ⟨_, rfl⟩
  have hbe : Below w1.heap.size w1 we := by rw [hwe]; exact below_al _ _
  have qe : we.heap[w1.heap.size]? = some (.cells #[] 3) := by rw [hwe]; exact new_block_at _ _ rfl
  have hb0e : Below w.heap.size w we := (hbb.trans (hb1.mono (by omega))).trans (hbe.mono (Nat.le_trans hbb.size hb1.size))
  have hw1s : w.heap.size + 1 ≤ w1.heap.size := by have := hb1.size; omega
  obtain ⟨o1, cc1, wI, rr, rown, hbI⟩ := app_ints qe (base := w1.heap.size) (Nat.le_refl _) (hks.below hb0e) hln
  have HRunI := hid (by rw [hwe] at rr; exact rr : (Builtin.append_ #[30, 30] 30 #[.slice (some ⟨w1.heap.size, 0, none⟩) 0 0, .slice lo ln lc]).run Tryz.prog (w1.alloc (.cells #[] 3)) = .ok (.slice o1 ln cc1) wI)
  obtain ⟨hI1, hI2⟩ := ints_of rown hks.2.2.1
  have hb1I : Below w1.heap.size w1 wI := hbe.trans hbI
  have hb01 : Below w.heap.size w wI := hb0e.trans (hbI.mono (by omega))
  have h1 := h.below hb01
  have q1a := (hb1.block _ blt).trans qb
  have q1 := (hb1I.block _ (node_lt q1a)).trans q1a
  have hL1' : LentIs wI wb.heap.size bb := (hb1I.block _ hL1.lt).trans hL1
  have hlw1 : wb.heap.size < w1.heap.size := hL1.lt
  have hLo : ∀ a, (some (⟨wb.heap.size, 0, none⟩ : Addr)) = some a → ¬ OD d B fs a.block := fun a e e2 => by cases e; exact hnew wb.heap.size (by omega) (.inl e2)
  have HOp := hid (dkstart_ok h1.dk hT hI1 (fun a e e2 => hnew _ (by have := hI2 a e.1; omega) (.inl e2)))
  rw [h.pd] at HOp
  clear b0 b1 b2 b3 b4 blt HL HWb
  have b0 := And.left (cell_in q1 0 _ rfl)
  have b1 := And.left (cell_in q1 1 _ rfl)
  have b2 := And.left (cell_in q1 2 _ rfl)
  have b3 := And.left (cell_in q1 3 _ rfl)
  have b4 := And.left (cell_in q1 5 _ rfl)
  have blt := node_lt q1
  have c0 := And.left (cell_in q1a 0 _ rfl)
  have c5 := And.left (cell_in q1a 5 _ rfl)
  have clt := node_lt q1a
  clear hsb hwe
  go_wp2_with (first | (at_builtin; refine wpList_app_run rfl (.tmp 105) (.tmp 107) 30 rfl rfl rfl HRunI.out ?_))
  refine HOp.out.mono ?_
  rintro e X2 ⟨rfl, fs', p1, p2, p3⟩
  clear c0 c5 clt
  have hsb := HSz.out.1
  obtain ⟨hx2, hd2⟩ := h1.one p2 p3
  have n2 : ∀ g, w.heap.size ≤ g → g < wI.heap.size → ¬ OD d B fs' g := fun g hg hg2 e => by
    rcases p3.own g e with e | e
    · exact hnew g hg (.inl e)
    · omega
  have q2 := (p3.kx.block _ blt fun e => hnew _ (Nat.le_refl _) (.inl e)).trans q1
  have hB2 : Has X2 bo bb.length bc bb := (hB.below hb01).kxA p3.kx fun a e e2 => hbo a e (.inl e2)
  have hL2 : LentIs X2 wb.heap.size bb := (p3.kx.block _ hL1'.lt fun e => hnew _ (by omega) (.inl e)).trans hL1'
  have hks2 : IntsAt X2 lo ln lc ks := (hks.below hb01).kxA p3.kx fun a e e2 => hlo a e (.inl e2)
  have hI12 : IntsAt X2 o1 ln cc1 ks := hI1.kxA p3.kx fun a e e2 => hnew _ (by have := hI2 a e.1; omega) (.inl e2)
  have HDo := hid (rdstart_ok hx2 hT hks2 (fun a e e2 => hlo a e (.inr e2)))
  rw [h.px] at HDo
  clear b0 b1 b2 b3 b4 blt HOp
  have b0 := And.left (cell_in q2 0 _ rfl)
  have b1 := And.left (cell_in q2 1 _ rfl)
  have b2 := And.left (cell_in q2 2 _ rfl)
  have b3 := And.left (cell_in q2 3 _ rfl)
  have b4 := And.left (cell_in q2 5 _ rfl)
  have blt := node_lt q2
  clear hsb
  go_wp2_with fail
  refine HDo.out.mono ?_
  rintro e X3' ⟨rfl, l', r1, r2, r3⟩
  have hsb := HSz.out.1
  obtain ⟨ht', hst'⟩ := h1.two (s' := ⟨startL s.P ks, false, false, s.ah, s.pa⟩) (T' := T) p2 p3 p1 r2 r3 r1 (fun e => by cases e) h.ahI h.paI
  have q3' := (r3.kx.block _ blt fun e => hnew _ (Nat.le_refl _) (.inr e)).trans q2
  have hks3 : IntsAt X3' lo ln lc ks := hks2.kxA r3.kx fun a e e2 => hlo a e (.inr e2)
  have hI13 : IntsAt X3' o1 ln cc1 ks := hI12.kxA r3.kx fun a e e2 => hnew _ (by have := hI2 a e.1; omega) (.inr e2)
  have hB3' : Has X3' bo bb.length bc bb := hB2.kxA r3.kx fun a e e2 => hbo a e (.inr e2)
  have hL3' : LentIs X3' wb.heap.size bb := (r3.kx.block _ hL2.lt fun e => hnew _ (by omega) (.inr e)).trans hL2
  have hgL : ∀ g, g = wb.heap.size → ¬ O2 d x B fs' v l' g := fun g hg e => by
    have hlw : wb.heap.size < wI.heap.size := hL1'.lt
    have hsz := p3.kx.size
    rcases e with e | e
    · exact n2 g (by omega) (by omega) e
    · rcases r3.own g e with e | e
      · exact hnew g (by omega) (.inr e)
      · omega
  have H3 := hid (And.intro ht' (And.intro hst' (And.intro q3' (And.intro hks3 (And.intro hI13 (And.intro hB3' hL3'))))))
  have HE0 := hid (And.intro hE (And.intro hEm (And.intro hb01 (And.intro h (And.intro hgL hsb)))))
  have hkl := hks.1
  clear b0 b1 b2 b3 b4 blt HDo hE hEm h hB hbo hnew hmw hsb h1 q1 q1a hLo hL1 hL1' hb1 hb01 p1 p2 p3 hx2 hd2 n2 q2 hB2 hL2 r1 r2 r3 hbb qb HQb ht' hst' q3' hks3 hI13 hB3' hL3' hgL hks hks2 hI1 hI12 hI2 hbe qe hb0e rr rown hbI hb1I hlo HRunI hw1s hlw1
  go_wp2_with fail
  go_loopw [11] (fun i wr => ∃ k : Nat, i = .int .i64 (k : Int) ∧ k ≤ ln ∧ Hid (Below X3'.heap.size X3' wr)) (fun i _ => ln - (intOf i).toNat)
  case atStart => exact ⟨0, rfl, Nat.zero_le _, Below.refl _ _⟩
  case round =>
    obtain ⟨k, rfl, hk, HBr⟩ := hrel
    obtain ⟨ht', hst', q3', hks3, hI13, hB3', hL3'⟩ := H3.out
    obtain ⟨hE, hEm, hb01, h, hgL, hsb⟩ := HE0.out
    have q3 := (HBr.out.block _ (node_lt q3')).trans q3'
    have b0 := And.left (cell_in q3 0 _ rfl)
    have b1 := And.left (cell_in q3 1 _ rfl)
    have b2 := And.left (cell_in q3 2 _ rfl)
    have b5 := And.left (cell_in q3 5 _ rfl)
    have blt := node_lt q3
    by_cases hkn : k < ln
    · have hkI : (k : Int) < (ln : Int) := by omega
      obtain ⟨g1, of1, rfl, hg1, k1⟩ := (hI13.below HBr.out).2.2.2.2 (by omega)
      obtain ⟨g2, of2, rfl, hg2, k2⟩ := (hks3.below HBr.out).2.2.2.2 (by omega)
      have k1 := k1 k (by omega)
      have k2 := k2 k (by omega)
      generalize ks[k] = y at *
      clear ht' hst' q3' hks3 hI13 hB3' hL3' hE hEm hb01 h hgL hsb q3 H3 HE0
      go_wp2_with fail
      go_quiet (fail)
      go_wp2_with fail
      exact ⟨⟨k + 1, by go_num, by omega, below_drewN HBr.out _⟩, by simp [intOf]; omega⟩
    · have hkI : ¬ (k : Int) < (ln : Int) := by omega
      have hkd : decide ((k : Int) < (ln : Int)) = false := by simpa using hkI
      have hkd2 : decide (k < ln) = false := by simpa using hkn
      have ht := ht'.below HBr.out
      have hst := hst'.trans (Stp.below HBr.out)
      have hB3 := hB3'.below HBr.out
      have hL3 : LentIs wr wb.heap.size bb := (HBr.out.block _ hL3'.lt).trans hL3'
      have HK := hid (kept_any wb.heap.size bo bc bb wr hL3 hB3 (by omega))
      obtain ⟨wa, hwa⟩ : ∃ wa, wa = wr.alloc (.cells #[.slice (some ⟨wb.heap.size, 0, none⟩) bb.length (bb.length + 1)] 29) := ⟨_, rfl⟩
      have hba : Below wr.heap.size wr wa := by rw [hwa]; exact below_al _ _
      have qa : wa.heap[wr.heap.size]? = some (.cells #[.slice (some ⟨wb.heap.size, 0, none⟩) bb.length (bb.length + 1)] 29) := by rw [hwa]; exact new_block_at _ _ rfl
      have hLa := (hba.block _ hL3.lt).trans hL3
      have HOw := hid (one_owned (w := wa) (b := wr.heap.size) (n := bb.length) (c := bb.length + 1) (o := some ⟨wb.heap.size, 0, none⟩) (.inr ⟨_, _, rfl, hLa, by simp, by unfold maxLen; omega⟩) (by omega) (cell_in qa 0 _ rfl).1 (NoT.cells qa (by decide)))
      have HWa := hid hwa
      have hta := ht.below hba
      have hE3 : ErrIs wr := by
        have e1 : wr.heap[0]? = w.heap[0]? := by
          have hsz1 := hb01.size
          have hlt := hE.lt
          refine (hst.kx.block _ (by omega) fun e => ?_).trans (hb01.block _ hlt)
          have := (h.lt _ e).1
          omega
        exact (World.cell?_of_block (w := w) (a := ⟨0, 0, none⟩) e1).trans hE
      have HFin : Hid (∀ X5 X6, OwnK (some ⟨wb.heap.size, 0, none⟩) wa X5 → Below X5.heap.size X5 X6 → ∃ fs' v' l', Tw0 m T X6 d x B fs' v' l' ⟨startL s.P ks, false, false, s.ah, s.pa⟩ ∧ Stp (O2 d x B fs v l) w (O2 d x B fs' v' l') X6) := hid fun X5 X6 hO hb => by
        have hk5 := hO.kx
        have t5 := hta.kx hk5 fun g hg e => hgL g (by cases e; rfl) hg
        refine ⟨fs', v, l', t5.below hb, ⟨⟨?_, ?_, ?_, ?_, ?_⟩, ?_⟩⟩
        · exact hb.os.trans (hk5.os.trans (hba.os.trans (hst.kx.os.trans hb01.os)))
        · exact hb.tape.trans (hk5.tape.trans (hba.tape.trans (hst.kx.tape.trans hb01.tape)))
        · exact hb.output.trans (hk5.output.trans (hba.output.trans (hst.kx.output.trans hb01.output)))
        · exact Nat.le_trans hb01.size (Nat.le_trans hst.kx.size (Nat.le_trans hba.size (Nat.le_trans hk5.size hb.size)))
        · intro g hg hn
          have s1 := hb01.size
          have s2 := hst.kx.size
          have s3 := hba.size
          have s4 := hk5.size
          exact (hb.block g (by omega)).trans ((hk5.block g (by omega) (fun e => by cases e; omega)).trans ((hba.block g (by omega)).trans ((hst.kx.block g (by omega) hn).trans (hb01.block g hg))))
        · intro g hg
          have s1 := hb01.size
          rcases hst.own g hg with e | e
          · exact .inl e
          · exact .inr (by omega)
      have HEe : Hid (∀ X5, OwnK (some ⟨wb.heap.size, 0, none⟩) wa X5 → ErrIs X5) := hid fun X5 hO => by
        have hlt := hE.lt
        have e1 : X5.heap[0]? = wa.heap[0]? := hO.blk _ (by have := hE3.lt; have := hba.size; omega) (fun e => by have e2 := congrArg Addr.block (Option.some.inj e); simp only at e2; omega)
        have e2 : wa.heap[0]? = wr.heap[0]? := hba.block _ hE3.lt
        exact (World.cell?_of_block (w := wr) (a := ⟨0, 0, none⟩) (e1.trans e2)).trans hE3
      clear ht' hst' q3' hks3 hI13 hB3' hL3' hE hEm hb01 h hgL hsb q3 H3 HE0 HBr ht hst hB3 hL3 hwa hba qa hLa hta hE3
      go_wp2_with fail
      refine HK.out.mono ?_
      rintro e X4 ⟨rfl, rfl⟩
      go_wp2_with fail
      rw [← HWa.out]
      refine HOw.out.mono ?_
      rintro e X5 ⟨rfl, hO⟩
      have HC := hid (code_nil X5)
      have HO := hid hO
      clear hO HOw HK HWa HEe
      go_wp2_with fail
      refine HC.out.mono ?_
      rintro e X6 ⟨rfl, rfl⟩
      have hb6 : Below X6.heap.size X6 X6 := Below.refl _ _
      have HR := hid (HFin.out X6 X6 HO.out hb6)
      clear hb6 HC HFin
      go_wp2_with fail
      go_ret
      exact ⟨rfl, HR.out⟩

end Go.Proofs.YtmddcdaodlnnhaaGreatDoor
