/-
  The law's own act: Cut, on both disks. Conditions: those that each theorem names.
  The law's own act: Remove, on both disks. Conditions: those that each theorem names.
-/
import Derived.Test.YtmddcdaodlnnhaaGreatDoorVDLNToDLO0
namespace Go.Proofs.YtmddcdaodlnnhaaGreatDoor
open Go.RowKit Go.Maps
set_option linter.unusedVariables false
set_option maxRecDepth 100000 in
set_option maxHeartbeats 16000000 in
theorem lact_cut {m T : Nat} {w : World} {d x B : Nat} {fs : List Fx} {v : Value} {l : List Gx} {s : Sp} (hE : ErrIs w) (hEm : 0 < m) (h : Tw0 m T w d x B fs v l s) (S : ByteArray) (hS : S.size ≤ 9007199254740992) {bo : Option Addr} {bc : Nat} {bb : List UInt8} (hB : Has w bo bb.length bc bb) (hbo : ∀ a, bo = some a ∧ 0 < bb.length → ¬ O2 d x B fs v l a.block) (hbn : bb.length ≤ 1099511627775) (hT : T + bb.length < 1099511627776) (N M : Int) (lo : Option Addr) (ln lc : Nat) :
    Calls Tryz.prog 10 #[.pointer (some ⟨d, 0, none⟩), .pointer (some ⟨x, 0, none⟩), .agg #[.int .i64 3, .string S, .slice bo bb.length bc, .int .i64 N, .int .i64 M, .slice lo ln lc]] w fun e w' => e = .returned (.bool true) ∧ ∃ fs' v' l', Tw0 m (T + 1 + bb.length) w' d x B fs' v' l' (ofRes (cutR s.P s.off s.arm s.ah s.pa S N) s.pa) ∧ Stp (O2 d x B fs v l) w (O2 d x B fs' v' l') w' := by
  obtain ⟨wb, hwb⟩ : ∃ wb, wb = w.alloc (.cells #[.int .i64 3, .string S, .slice bo bb.length bc, .int .i64 N, .int .i64 M, .slice lo ln lc] 32) := ⟨_, rfl⟩
  have hbb : Below w.heap.size w wb := by rw [hwb]; exact below_al _ _
  have qb : wb.heap[w.heap.size]? = some (.cells #[.int .i64 3, .string S, .slice bo bb.length bc, .int .i64 N, .int .i64 M, .slice lo ln lc] 32) := by rw [hwb]; exact new_block_at _ _ rfl
  have hsb : wb.heap.size = w.heap.size + 1 := by rw [hwb]; simp
  have hnew : ∀ g, w.heap.size ≤ g → ¬ O2 d x B fs v l g := fun g hg e => by have := (h.lt g e).2; omega
  have hmw : m ≤ w.heap.size := Nat.le_trans h.dk.md (Nat.le_of_lt (node_lt h.dk.blk))
  have HL := hid (lent_any bo bb.length bc bb wb (hB.below hbb) (by omega))
  have HWb := hid hwb
  obtain ⟨R, hR⟩ : ∃ R, R = cutR s.P s.off s.arm s.ah s.pa S N := ⟨_, rfl⟩
  have hRo : ResOk R s.pa := by rw [hR]; exact cutR_ok h.ar h.ahI S N
  rw [← hR]
  have HR0 := hid hR
  obtain ⟨rc, hrc⟩ : ∃ rc, rc = R.c := ⟨_, rfl⟩
  have HRC := hid hrc
  clear hR hrc
  have HQb := hid qb
  have b0 := And.left (cell_in qb 0 _ rfl)
  have b1 := And.left (cell_in qb 1 _ rfl)
  have b2 := And.left (cell_in qb 2 _ rfl)
  have b3 := And.left (cell_in qb 3 _ rfl)
  have blt := node_lt qb
  have HSz := hid (And.intro hsb (And.intro hbb (And.intro qb True.intro)))
  clear hwb hsb hbb qb
  go_enter Tryz.func10, Tryz.ntmps10
  go_wp2_with fail
  rw [← HWb.out]
  refine HL.out.mono ?_
  rintro e w1 ⟨rfl, hL1, hb1⟩
  obtain ⟨hsb, hbb, qb, _⟩ := HSz.out
  have hb01 : Below w.heap.size w w1 := hbb.trans (hb1.mono (by omega))
  have h1 := h.below hb01
  have q1 := (hb1.block _ blt).trans qb
  have hLo : ∀ a, (some (⟨wb.heap.size, 0, none⟩ : Addr)) = some a → ¬ OD d B fs a.block := fun a e e2 => by cases e; exact hnew wb.heap.size (by omega) (.inl e2)
  have HOp := hid (dkcutop_ok h1.dk h.paI h.ahI h.ar (by omega) S hS N)
  rw [h.pd, ← HR0.out] at HOp
  clear b0 b1 b2 b3 blt HL HWb
  have b0 := And.left (cell_in q1 0 _ rfl)
  have b1 := And.left (cell_in q1 1 _ rfl)
  have b2 := And.left (cell_in q1 2 _ rfl)
  have b3 := And.left (cell_in q1 3 _ rfl)
  have blt := node_lt q1
  clear hsb
  go_wp2_with fail
  refine HOp.out.mono ?_
  rintro e X2 ⟨he, fs', p1, p2, p3⟩
  rw [← HRC.out] at he
  subst he
  have hsb := HSz.out.1
  obtain ⟨hx2, hd2⟩ := h1.one p2 p3
  have n2 : ∀ g, w.heap.size ≤ g → g < w1.heap.size → ¬ OD d B fs' g := fun g hg hg2 e => by
    rcases p3.own g e with e | e
    · exact hnew g hg (.inl e)
    · omega
  have q2 := (p3.kx.block _ blt fun e => hnew _ (Nat.le_refl _) (.inl e)).trans q1
  have hB2 : Has X2 bo bb.length bc bb := (hB.below hb01).kxA p3.kx fun a e e2 => hbo a e (.inl e2)
  have hL2 : LentIs X2 wb.heap.size bb := (p3.kx.block _ hL1.lt fun e => hnew _ (by omega) (.inl e)).trans hL1
  have HDo := hid (rdo_cut hx2 h.paI h.ahI h.ar (pb := bb) (by omega) S hS hB2 (fun a e e2 => hbo a e (.inr e2)) N)
  rw [h.px, ← HR0.out] at HDo
  clear b0 b1 b2 b3 blt HOp
  have b0 := And.left (cell_in q2 0 _ rfl)
  have b1 := And.left (cell_in q2 1 _ rfl)
  have b2 := And.left (cell_in q2 2 _ rfl)
  have b3 := And.left (cell_in q2 3 _ rfl)
  have blt := node_lt q2
  clear hsb
  go_wp2_with fail
  refine HDo.out.mono ?_
  rintro e X3 ⟨he, v', l', r1, r2, r3⟩
  rw [← HRC.out] at he
  subst he
  have hsb := HSz.out.1
  obtain ⟨ht, hst⟩ := h1.two (s' := ofRes R s.pa) (T' := T + 1 + bb.length) (p2.mono (by omega)) p3 p1 (r2.mono (by omega)) r3 r1 hRo.1 hRo.2 h.paI
  have q3 := (r3.kx.block _ blt fun e => hnew _ (Nat.le_refl _) (.inr e)).trans q2
  have hB3 : Has X3 bo bb.length bc bb := hB2.kxA r3.kx fun a e e2 => hbo a e (.inr e2)
  have hL3 : LentIs X3 wb.heap.size bb := (r3.kx.block _ hL2.lt fun e => hnew _ (by omega) (.inr e)).trans hL2
  have hgL : ∀ g, g = wb.heap.size → ¬ O2 d x B fs' v' l' g := fun g hg e => by
    have hlw : wb.heap.size < w1.heap.size := hL1.lt
    have hsz := p3.kx.size
    rcases e with e | e
    · exact n2 g (by omega) (by omega) e
    · rcases r3.own g e with e | e
      · exact hnew g (by omega) (.inr e)
      · omega
  have HK := hid (kept_any wb.heap.size bo bc bb X3 hL3 hB3 (by omega))
  obtain ⟨wa, hwa⟩ : ∃ wa, wa = X3.alloc (.cells #[.slice (some ⟨wb.heap.size, 0, none⟩) bb.length (bb.length + 1)] 29) := ⟨_, rfl⟩
  have hba : Below X3.heap.size X3 wa := by rw [hwa]; exact below_al _ _
  have qa : wa.heap[X3.heap.size]? = some (.cells #[.slice (some ⟨wb.heap.size, 0, none⟩) bb.length (bb.length + 1)] 29) := by rw [hwa]; exact new_block_at _ _ rfl
  have hLa := (hba.block _ hL3.lt).trans hL3
  have HOw := hid (one_owned (w := wa) (b := X3.heap.size) (n := bb.length) (c := bb.length + 1) (o := some ⟨wb.heap.size, 0, none⟩) (.inr ⟨_, _, rfl, hLa, by simp, by unfold maxLen; omega⟩) (by omega) (cell_in qa 0 _ rfl).1 (NoT.cells qa (by decide)))
  have HWa := hid hwa
  have hta := ht.below hba
  have hE3 : ErrIs X3 := by
    have e1 : X3.heap[0]? = w.heap[0]? := by
      have hsz1 := hb01.size
      have hlt := hE.lt
      refine (hst.kx.block _ (by omega) fun e => ?_).trans (hb01.block _ hlt)
      have := (h.lt _ e).1
      omega
    exact (World.cell?_of_block (w := w) (a := ⟨0, 0, none⟩) e1).trans hE
  have HFin : Hid (∀ X5 X6, OwnK (some ⟨wb.heap.size, 0, none⟩) wa X5 → Below X5.heap.size X5 X6 → ∃ fs' v' l', Tw0 m (T + 1 + bb.length) X6 d x B fs' v' l' (ofRes R s.pa) ∧ Stp (O2 d x B fs v l) w (O2 d x B fs' v' l') X6) := hid fun X5 X6 hO hb => by
    have hk5 := hO.kx
    have t5 := hta.kx hk5 fun g hg e => hgL g (by cases e; rfl) hg
    refine ⟨fs', v', l', t5.below hb, ⟨⟨?_, ?_, ?_, ?_, ?_⟩, ?_⟩⟩
    · exact hb.os.trans (hk5.os.trans (hba.os.trans (hst.kx.os.trans hb01.os)))
    · exact hb.tape.trans (hk5.tape.trans (hba.tape.trans (hst.kx.tape.trans hb01.tape)))
    · exact hb.output.trans (hk5.output.trans (hba.output.trans (hst.kx.output.trans hb01.output)))
    · exact Nat.le_trans hb01.size (Nat.le_trans hst.kx.size (Nat.le_trans hba.size (Nat.le_trans hk5.size hb.size)))
    · intro g hg hn
      have s1 := hb01.size
      have s2 := hst.kx.size
      have s3 := hba.size
      have s4 := hk5.size
      exact (hb.block g (by omega)).trans ((hk5.block g (by omega) (fun e => by cases e; omega)).trans ((hba.block g (by omega)).trans ((hst.kx.block g (by omega) hn).trans (hb01.block g hg))))
    · intro g hg
      have s1 := hb01.size
      rcases hst.own g hg with e | e
      · exact .inl e
      · exact .inr (by omega)
  have HEe : Hid (∀ X5, OwnK (some ⟨wb.heap.size, 0, none⟩) wa X5 → ErrIs X5) := hid fun X5 hO => by
    have hlt := hE.lt
    have e1 : X5.heap[0]? = wa.heap[0]? := hO.blk _ (by have := hE3.lt; have := hba.size; omega) (fun e => by have e2 := congrArg Addr.block (Option.some.inj e); simp only at e2; omega)
    have e2 : wa.heap[0]? = X3.heap[0]? := hba.block _ hE3.lt
    exact (World.cell?_of_block (w := X3) (a := ⟨0, 0, none⟩) (e1.trans e2)).trans hE3
  clear b0 b1 b2 b3 blt HDo
  have b0 := And.left (cell_in q3 0 _ rfl)
  have b1 := And.left (cell_in q3 1 _ rfl)
  have b2 := And.left (cell_in q3 2 _ rfl)
  have b3 := And.left (cell_in q3 3 _ rfl)
  have blt := node_lt q3
  clear hE hEm h hB hbo hnew hmw hsb h1 q1 hLo hL1 hb1 hb01 p1 p2 p3 hx2 hd2 n2 q2 hB2 hL2 r1 r2 r3 ht hst hB3 hL3 hgL hwa hba qa hLa hta hE3 hbb qb hRo HQb
  go_wp2_with fail
  refine HK.out.mono ?_
  rintro e X4 ⟨rfl, rfl⟩
  go_wp2_with fail
  rw [← HWa.out]
  refine HOw.out.mono ?_
  rintro e X5 ⟨rfl, hO⟩
  have HC := hid (code_ev rc X5 (HEe.out X5 hO))
  have HO := hid hO
  clear hO HOw HK HWa HEe
  go_wp2_with fail
  refine HC.out.mono ?_
  rintro e X6 ⟨rfl, hb6⟩
  have HR := hid (HFin.out X5 X6 HO.out hb6)
  clear hb6 HC HFin
  go_wp2_with fail
  go_ret
  exact ⟨rfl, HR.out⟩
end Go.Proofs.YtmddcdaodlnnhaaGreatDoor
namespace Go.Proofs.YtmddcdaodlnnhaaGreatDoor
open Go.RowKit Go.Maps
set_option linter.unusedVariables false
set_option maxRecDepth 100000 in
set_option maxHeartbeats 16000000 in
theorem lact_rem {m T : Nat} {w : World} {d x B : Nat} {fs : List Fx} {v : Value} {l : List Gx} {s : Sp} (hE : ErrIs w) (hEm : 0 < m) (h : Tw0 m T w d x B fs v l s) (S : ByteArray) (hS : S.size ≤ 9007199254740992) {bo : Option Addr} {bc : Nat} {bb : List UInt8} (hB : Has w bo bb.length bc bb) (hbo : ∀ a, bo = some a ∧ 0 < bb.length → ¬ O2 d x B fs v l a.block) (hbn : bb.length ≤ 1099511627775) (hT : T + bb.length < 1099511627776) (N M : Int) (lo : Option Addr) (ln lc : Nat) :
    Calls Tryz.prog 10 #[.pointer (some ⟨d, 0, none⟩), .pointer (some ⟨x, 0, none⟩), .agg #[.int .i64 4, .string S, .slice bo bb.length bc, .int .i64 N, .int .i64 M, .slice lo ln lc]] w fun e w' => e = .returned (.bool true) ∧ ∃ fs' v' l', Tw0 m (T + 1 + bb.length) w' d x B fs' v' l' (ofRes (remR s.P s.off s.arm s.ah s.pa S) s.pa) ∧ Stp (O2 d x B fs v l) w (O2 d x B fs' v' l') w' := by
  obtain ⟨wb, hwb⟩ : ∃ wb, wb = w.alloc (.cells #[.int .i64 4, .string S, .slice bo bb.length bc, .int .i64 N, .int .i64 M, .slice lo ln lc] 32) := ⟨_, rfl⟩
  have hbb : Below w.heap.size w wb := by rw [hwb]; exact below_al _ _
  have qb : wb.heap[w.heap.size]? = some (.cells #[.int .i64 4, .string S, .slice bo bb.length bc, .int .i64 N, .int .i64 M, .slice lo ln lc] 32) := by rw [hwb]; exact new_block_at _ _ rfl
  have hsb : wb.heap.size = w.heap.size + 1 := by rw [hwb]; simp
  have hnew : ∀ g, w.heap.size ≤ g → ¬ O2 d x B fs v l g := fun g hg e => by have := (h.lt g e).2; omega
  have hmw : m ≤ w.heap.size := Nat.le_trans h.dk.md (Nat.le_of_lt (node_lt h.dk.blk))
  have HL := hid (lent_any bo bb.length bc bb wb (hB.below hbb) (by omega))
  have HWb := hid hwb
  obtain ⟨R, hR⟩ : ∃ R, R = remR s.P s.off s.arm s.ah s.pa S := ⟨_, rfl⟩
  have hRo : ResOk R s.pa := by rw [hR]; exact remR_ok h.ar h.ahI S
  rw [← hR]
  have HR0 := hid hR
  obtain ⟨rc, hrc⟩ : ∃ rc, rc = R.c := ⟨_, rfl⟩
  have HRC := hid hrc
  clear hR hrc
  have HQb := hid qb
  have b0 := And.left (cell_in qb 0 _ rfl)
  have b1 := And.left (cell_in qb 1 _ rfl)
  have b2 := And.left (cell_in qb 2 _ rfl)
  have b3 := And.left (cell_in qb 3 _ rfl)
  have blt := node_lt qb
  have HSz := hid (And.intro hsb (And.intro hbb (And.intro qb True.intro)))
  clear hwb hsb hbb qb
  go_enter Tryz.func10, Tryz.ntmps10
  go_wp2_with fail
  rw [← HWb.out]
  refine HL.out.mono ?_
  rintro e w1 ⟨rfl, hL1, hb1⟩
  obtain ⟨hsb, hbb, qb, _⟩ := HSz.out
  have hb01 : Below w.heap.size w w1 := hbb.trans (hb1.mono (by omega))
  have h1 := h.below hb01
  have q1 := (hb1.block _ blt).trans qb
  have hLo : ∀ a, (some (⟨wb.heap.size, 0, none⟩ : Addr)) = some a → ¬ OD d B fs a.block := fun a e e2 => by cases e; exact hnew wb.heap.size (by omega) (.inl e2)
  have HOp := hid (dkremove_ok h1.dk h.paI h.ahI h.ar S hS)
  rw [h.pd, ← HR0.out] at HOp
  clear b0 b1 b2 b3 blt HL HWb
  have b0 := And.left (cell_in q1 0 _ rfl)
  have b1 := And.left (cell_in q1 1 _ rfl)
  have b2 := And.left (cell_in q1 2 _ rfl)
  have b3 := And.left (cell_in q1 3 _ rfl)
  have blt := node_lt q1
  clear hsb
  go_wp2_with fail
  refine HOp.out.mono ?_
  rintro e X2 ⟨he, fs', p1, p2, p3⟩
  rw [← HRC.out] at he
  subst he
  have hsb := HSz.out.1
  obtain ⟨hx2, hd2⟩ := h1.one p2 p3
  have n2 : ∀ g, w.heap.size ≤ g → g < w1.heap.size → ¬ OD d B fs' g := fun g hg hg2 e => by
    rcases p3.own g e with e | e
    · exact hnew g hg (.inl e)
    · omega
  have q2 := (p3.kx.block _ blt fun e => hnew _ (Nat.le_refl _) (.inl e)).trans q1
  have hB2 : Has X2 bo bb.length bc bb := (hB.below hb01).kxA p3.kx fun a e e2 => hbo a e (.inl e2)
  have hL2 : LentIs X2 wb.heap.size bb := (p3.kx.block _ hL1.lt fun e => hnew _ (by omega) (.inl e)).trans hL1
  have HDo := hid (rdo_rem hx2 h.paI h.ahI h.ar (pb := bb) (by omega) S hS hB2 (fun a e e2 => hbo a e (.inr e2)) N)
  rw [h.px, ← HR0.out] at HDo
  clear b0 b1 b2 b3 blt HOp
  have b0 := And.left (cell_in q2 0 _ rfl)
  have b1 := And.left (cell_in q2 1 _ rfl)
  have b2 := And.left (cell_in q2 2 _ rfl)
  have b3 := And.left (cell_in q2 3 _ rfl)
  have blt := node_lt q2
  clear hsb
  go_wp2_with fail
  refine HDo.out.mono ?_
  rintro e X3 ⟨he, v', l', r1, r2, r3⟩
  rw [← HRC.out] at he
  subst he
  have hsb := HSz.out.1
  obtain ⟨ht, hst⟩ := h1.two (s' := ofRes R s.pa) (T' := T + 1 + bb.length) (p2.mono (by omega)) p3 p1 (r2.mono (by omega)) r3 r1 hRo.1 hRo.2 h.paI
  have q3 := (r3.kx.block _ blt fun e => hnew _ (Nat.le_refl _) (.inr e)).trans q2
  have hB3 : Has X3 bo bb.length bc bb := hB2.kxA r3.kx fun a e e2 => hbo a e (.inr e2)
  have hL3 : LentIs X3 wb.heap.size bb := (r3.kx.block _ hL2.lt fun e => hnew _ (by omega) (.inr e)).trans hL2
  have hgL : ∀ g, g = wb.heap.size → ¬ O2 d x B fs' v' l' g := fun g hg e => by
    have hlw : wb.heap.size < w1.heap.size := hL1.lt
    have hsz := p3.kx.size
    rcases e with e | e
    · exact n2 g (by omega) (by omega) e
    · rcases r3.own g e with e | e
      · exact hnew g (by omega) (.inr e)
      · omega
  have HK := hid (kept_any wb.heap.size bo bc bb X3 hL3 hB3 (by omega))
  obtain ⟨wa, hwa⟩ : ∃ wa, wa = X3.alloc (.cells #[.slice (some ⟨wb.heap.size, 0, none⟩) bb.length (bb.length + 1)] 29) := ⟨_, rfl⟩
  have hba : Below X3.heap.size X3 wa := by rw [hwa]; exact below_al _ _
  have qa : wa.heap[X3.heap.size]? = some (.cells #[.slice (some ⟨wb.heap.size, 0, none⟩) bb.length (bb.length + 1)] 29) := by rw [hwa]; exact new_block_at _ _ rfl
  have hLa := (hba.block _ hL3.lt).trans hL3
  have HOw := hid (one_owned (w := wa) (b := X3.heap.size) (n := bb.length) (c := bb.length + 1) (o := some ⟨wb.heap.size, 0, none⟩) (.inr ⟨_, _, rfl, hLa, by simp, by unfold maxLen; omega⟩) (by omega) (cell_in qa 0 _ rfl).1 (NoT.cells qa (by decide)))
  have HWa := hid hwa
  have hta := ht.below hba
  have hE3 : ErrIs X3 := by
    have e1 : X3.heap[0]? = w.heap[0]? := by
      have hsz1 := hb01.size
      have hlt := hE.lt
      refine (hst.kx.block _ (by omega) fun e => ?_).trans (hb01.block _ hlt)
      have := (h.lt _ e).1
      omega
    exact (World.cell?_of_block (w := w) (a := ⟨0, 0, none⟩) e1).trans hE
  have HFin : Hid (∀ X5 X6, OwnK (some ⟨wb.heap.size, 0, none⟩) wa X5 → Below X5.heap.size X5 X6 → ∃ fs' v' l', Tw0 m (T + 1 + bb.length) X6 d x B fs' v' l' (ofRes R s.pa) ∧ Stp (O2 d x B fs v l) w (O2 d x B fs' v' l') X6) := hid fun X5 X6 hO hb => by
    have hk5 := hO.kx
    have t5 := hta.kx hk5 fun g hg e => hgL g (by cases e; rfl) hg
    refine ⟨fs', v', l', t5.below hb, ⟨⟨?_, ?_, ?_, ?_, ?_⟩, ?_⟩⟩
    · exact hb.os.trans (hk5.os.trans (hba.os.trans (hst.kx.os.trans hb01.os)))
    · exact hb.tape.trans (hk5.tape.trans (hba.tape.trans (hst.kx.tape.trans hb01.tape)))
    · exact hb.output.trans (hk5.output.trans (hba.output.trans (hst.kx.output.trans hb01.output)))
    · exact Nat.le_trans hb01.size (Nat.le_trans hst.kx.size (Nat.le_trans hba.size (Nat.le_trans hk5.size hb.size)))
    · intro g hg hn
      have s1 := hb01.size
      have s2 := hst.kx.size
      have s3 := hba.size
      have s4 := hk5.size
      exact (hb.block g (by omega)).trans ((hk5.block g (by omega) (fun e => by cases e; omega)).trans ((hba.block g (by omega)).trans ((hst.kx.block g (by omega) hn).trans (hb01.block g hg))))
    · intro g hg
      have s1 := hb01.size
      rcases hst.own g hg with e | e
      · exact .inl e
      · exact .inr (by omega)
  have HEe : Hid (∀ X5, OwnK (some ⟨wb.heap.size, 0, none⟩) wa X5 → ErrIs X5) := hid fun X5 hO => by
    have hlt := hE.lt
    have e1 : X5.heap[0]? = wa.heap[0]? := hO.blk _ (by have := hE3.lt; have := hba.size; omega) (fun e => by have e2 := congrArg Addr.block (Option.some.inj e); simp only at e2; omega)
    have e2 : wa.heap[0]? = X3.heap[0]? := hba.block _ hE3.lt
    exact (World.cell?_of_block (w := X3) (a := ⟨0, 0, none⟩) (e1.trans e2)).trans hE3
  clear b0 b1 b2 b3 blt HDo
  have b0 := And.left (cell_in q3 0 _ rfl)
  have b1 := And.left (cell_in q3 1 _ rfl)
  have b2 := And.left (cell_in q3 2 _ rfl)
  have b3 := And.left (cell_in q3 3 _ rfl)
  have blt := node_lt q3
  clear hE hEm h hB hbo hnew hmw hsb h1 q1 hLo hL1 hb1 hb01 p1 p2 p3 hx2 hd2 n2 q2 hB2 hL2 r1 r2 r3 ht hst hB3 hL3 hgL hwa hba qa hLa hta hE3 hbb qb hRo HQb
  go_wp2_with fail
  refine HK.out.mono ?_
  rintro e X4 ⟨rfl, rfl⟩
  go_wp2_with fail
  rw [← HWa.out]
  refine HOw.out.mono ?_
  rintro e X5 ⟨rfl, hO⟩
  have HC := hid (code_ev rc X5 (HEe.out X5 hO))
  have HO := hid hO
  clear hO HOw HK HWa HEe
  go_wp2_with fail
  refine HC.out.mono ?_
  rintro e X6 ⟨rfl, hb6⟩
  have HR := hid (HFin.out X5 X6 HO.out hb6)
  clear hb6 HC HFin
  go_wp2_with fail
  go_ret
  exact ⟨rfl, HR.out⟩
end Go.Proofs.YtmddcdaodlnnhaaGreatDoor
