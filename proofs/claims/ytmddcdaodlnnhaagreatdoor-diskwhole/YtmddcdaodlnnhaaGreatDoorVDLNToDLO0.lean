/-
  Both disks, side by side; what one's step leaves of the other. Conditions: those that each theorem names.
  The law's own act: Append, on both disks. Conditions: those that each theorem names.
-/
import Derived.Test.YtmddcdaodlnnhaaGreatDoorVDLM0
import Derived.Test.YtmddcdaodlnnhaaGreatDoorVDLM1
import Derived.Test.YtmddcdaodlnnhaaGreatDoorVDLM2
import Derived.Test.YtmddcdaodlnnhaaGreatDoorVDLM3
import Derived.Test.YtmddcdaodlnnhaaGreatDoorVDLM4ToLent
import Derived.Test.YtmddcdaodlnnhaaGreatDoorVZOwned
namespace Go.Proofs.YtmddcdaodlnnhaaGreatDoor
open Go.RowKit Go.Maps
set_option linter.unusedVariables false
/-- What there is, plainly. -/
structure Sp where
  P : List Pf
  off : Bool
  arm : Bool
  ah : Int
  pa : Int
/-- Both disks hold this. -/
structure Tw0 (m T : Nat) (w : World) (d x B : Nat) (fs : List Fx) (v : Value) (l : List Gx) (s : Sp) : Prop where
  pd : fs.map pl = s.P
  px : l.map pg = s.P
  dk : Dk m T w d B fs s.off s.arm s.ah s.pa
  xd : Xd m T w x v l s.off (acO s.arm s.ah) s.pa
  ds : ∀ g, OD d B fs g → ¬ OX x v l g
  ar : s.arm = true → 0 ≤ s.ah
  ahI : inI s.ah
  paI : inI s.pa
def O2 (d x B : Nat) (fs : List Fx) (v : Value) (l : List Gx) : Nat → Prop := fun g => OD d B fs g ∨ OX x v l g
def Tw (m T : Nat) (w : World) (d x : Nat) (s : Sp) (O : Nat → Prop) : Prop := ∃ B fs v l, Tw0 m T w d x B fs v l s ∧ O = O2 d x B fs v l
section
variable {m T T' : Nat} {w w' W X Y Z : World} {d x B : Nat} {fs : List Fx} {v : Value} {l : List Gx} {s : Sp}
theorem Tw0.kx {L : Nat → Prop} (h : Tw0 m T w d x B fs v l s) (hk : Kx L w w') (hL : ∀ g, O2 d x B fs v l g → ¬ L g) : Tw0 m T w' d x B fs v l s :=
  ⟨h.pd, h.px, h.dk.kx hk fun g e => hL g (.inl e), h.xd.kx hk fun g e => hL g (.inr e), h.ds, h.ar, h.ahI, h.paI⟩
theorem Tw0.below (h : Tw0 m T w d x B fs v l s) (hb : Below w.heap.size w w') : Tw0 m T w' d x B fs v l s := h.kx (L := fun _ => False) (.below hb) fun _ _ e => e
theorem Tw0.lt (h : Tw0 m T w d x B fs v l s) (g : Nat) (hg : O2 d x B fs v l g) : m ≤ g ∧ g < w.heap.size := by
  rcases hg with hg | hg
  · exact h.dk.lt g hg
  · exact h.xd.lt g hg
/-- The program's disk has made a step. -/
theorem Tw0.one (h : Tw0 m T w d x B fs v l s) {fs' : List Fx} {off' arm' : Bool} {ah' pa' : Int} (h2 : Dk m T' X d B fs' off' arm' ah' pa') (hs : Stp (OD d B fs) w (OD d B fs') X) : Xd m T X x v l s.off (acO s.arm s.ah) s.pa ∧ ∀ g, OD d B fs' g → ¬ OX x v l g := by
  refine ⟨h.xd.kx hs.kx fun g e e2 => h.ds g e2 e, fun g hg e => ?_⟩
  rcases hs.own g hg with e2 | e2
  · exact h.ds g e2 e
  · have := (h.xd.lt g e).2
    omega
/-- And so has the document's. -/
theorem Tw0.two (h : Tw0 m T w d x B fs v l s) {fs' : List Fx} {s' : Sp} {v' : Value} {l' : List Gx} (h2 : Dk m T' X d B fs' s'.off s'.arm s'.ah s'.pa) (hs : Stp (OD d B fs) w (OD d B fs') X) (hp : fs'.map pl = s'.P) (h3 : Xd m T' Y x v' l' s'.off (acO s'.arm s'.ah) s'.pa) (hs3 : Stp (OX x v l) X (OX x v' l') Y) (hp3 : l'.map pg = s'.P) (har : s'.arm = true → 0 ≤ s'.ah) (hah : inI s'.ah) (hpa : inI s'.pa) :
    Tw0 m T' Y d x B fs' v' l' s' ∧ Stp (O2 d x B fs v l) w (O2 d x B fs' v' l') Y := by
  obtain ⟨_, hd⟩ := h.one h2 hs
  have hsz := hs.kx.size
  refine ⟨⟨hp, hp3, h2.kx hs3.kx fun g e e2 => hd g e e2, h3, fun g hg e => ?_, har, hah, hpa⟩, ⟨⟨hs3.kx.os.trans hs.kx.os, hs3.kx.tape.trans hs.kx.tape, hs3.kx.output.trans hs.kx.output, Nat.le_trans hsz hs3.kx.size, fun g hg hn => ?_⟩, fun g hg => ?_⟩⟩
  · rcases hs3.own g e with e2 | e2
    · exact hd g hg e2
    · have := (h2.lt g hg).2
      omega
  · exact (hs3.kx.block g (by omega) fun e => hn (.inr e)).trans (hs.kx.block g hg fun e => hn (.inl e))
  · rcases hg with hg | hg
    · rcases hs.own g hg with e | e
      · exact .inl (.inl e)
      · exact .inr e
    · rcases hs3.own g hg with e | e
      · exact .inl (.inr e)
      · exact .inr (by omega)
end
/-- Ahead so many, and the part: as they are behind an act. -/
def ofRes (R : Res) (pa : Int) : Sp := ⟨R.P, R.off, R.arm, R.ah, pa⟩
theorem code_ev (c : Int) (w : World) (h : ErrIs w) : Calls Tryz.prog 19 #[evV c] w fun e w' => e = .returned (.int .i64 c) ∧ Below w.heap.size w w' := by
  unfold evV
  by_cases hc : c = 0
  · rw [if_pos hc, hc]
    refine (code_nil w).mono ?_
    rintro e w' ⟨rfl, rfl⟩
    exact ⟨rfl, Below.refl _ _⟩
  · rw [if_neg hc]
    exact code_errno c w h
theorem done_ar {P : List Pf} {off arm : Bool} {ah pa : Int} (h : arm = true → 0 ≤ ah) (hi : inI ah) : ((ofRes (doneP P off arm ah) pa).arm = true → 0 ≤ (ofRes (doneP P off arm ah) pa).ah) ∧ inI (ofRes (doneP P off arm ah) pa).ah := by
  unfold ofRes doneP actC inI at *
  cases arm
  · simpa using hi
  · have h0 := h rfl
    by_cases ha : ah = 0
    · subst ha
      simp
    · simp [ha]
      omega
theorem ref_ar {P : List Pf} {off arm : Bool} {ah pa c : Int} (h : arm = true → 0 ≤ ah) (hi : inI ah) : ((ofRes (refP P off arm ah c) pa).arm = true → 0 ≤ (ofRes (refP P off arm ah c) pa).ah) ∧ inI (ofRes (refP P off arm ah c) pa).ah := ⟨h, hi⟩
def ResOk (R : Res) (pa : Int) : Prop := ((ofRes R pa).arm = true → 0 ≤ (ofRes R pa).ah) ∧ inI (ofRes R pa).ah
section
variable {P : List Pf} {off arm : Bool} {ah pa : Int} (h : arm = true → 0 ≤ ah) (hi : inI ah)
include h hi
theorem appR_ok (S : ByteArray) (q : List UInt8) : ResOk (appR P off arm ah pa S q) pa := by
  unfold ResOk appR
  split
  · exact done_ar h hi
  · exact ref_ar h hi
theorem synR_ok (S : ByteArray) : ResOk (synR P off arm ah pa S) pa := by
  unfold ResOk synR
  split
  · exact done_ar h hi
  · exact ref_ar h hi
theorem putR_ok (S : ByteArray) (q : List UInt8) : ResOk (putR P off arm ah pa S q) pa := by
  unfold ResOk putR
  split
  · exact done_ar h hi
  · exact ref_ar h hi
theorem remR_ok (S : ByteArray) : ResOk (remR P off arm ah pa S) pa := by
  unfold ResOk remR
  split
  · exact done_ar h hi
  · exact ref_ar h hi
theorem cutR_ok (S : ByteArray) (n : Int) : ResOk (cutR P off arm ah pa S n) pa := by
  unfold ResOk cutR
  split
  · split
    · exact ref_ar h hi
    · exact done_ar h hi
  · exact ref_ar h hi
end
/-- What turns where rows are written over. -/
structure OwnK (o : Option Addr) (w w' : World) : Prop where
  os : w'.os = w.os
  tape : w'.tape = w.tape
  output : w'.output = w.output
  size : w.heap.size ≤ w'.heap.size
  blk : ∀ k, k < w.heap.size → o ≠ some ⟨k, 0, none⟩ → w'.heap[k]? = w.heap[k]?
theorem OwnK.kx {o : Option Addr} {w w' : World} (h : OwnK o w w') : Kx (fun g => o = some ⟨g, 0, none⟩) w w' := ⟨h.os, h.tape, h.output, h.size, fun g hg hn => h.blk g hg hn⟩
theorem one_owned {w : World} {b n c : Nat} {o : Option Addr} (hf : (o = none ∧ c = 0) ∨ ∃ g cur, o = some ⟨g, 0, none⟩ ∧ w.heap[g]? = some (.cells cur 5 (0, 0)) ∧ cur.size = c ∧ c ≤ maxLen) (hn : n ≤ c) (hb : w.cell? ⟨b, 0, none⟩ = some (.slice o n c)) (hbT : NoT w b) :
    Calls Tryz.prog 13 #[.slice (some ⟨b, 0, none⟩) 1 1] w fun e w' => e = .returned (.bool true) ∧ OwnK o w w' := by
  rcases hf with ⟨rfl, rfl⟩ | ⟨g, cur, rfl, hg, hsz, hmx⟩
  · obtain rfl : n = 0 := by omega
    refine (owned_any b 0 1 1 [(none, 0, 0)] w ⟨fun j hj => ?_, fun j hj g e => ?_, fun j hj => ?_, fun i j h1 h2 g hne => ?_, fun j hj => ?_⟩ rfl (by omega)).mono ?_
    · obtain rfl : j = 0 := by simpa using hj
      exact hb
    · obtain rfl : j = 0 := by simpa using hj
      cases e
    · obtain rfl : j = 0 := by simpa using hj
      exact ⟨by simp, by simp, fun _ => rfl⟩
    · obtain rfl : i = 0 := by simpa using h1
      obtain rfl : j = 0 := by simpa using h2
      exact absurd rfl hne
    · obtain rfl : j = 0 := by simpa using hj
      intro e
      cases e
    · rintro e w' ⟨rfl, hI⟩
      exact ⟨rfl, hI.os, hI.tape, hI.output, hI.size, fun k hk _ => hI.blk k hk (fun j hj e => by
        obtain rfl : j = 0 := by simpa using hj
        cases e)⟩
  · refine (owned_any b 0 1 1 [(some g, n, c)] w ⟨fun j hj => ?_, fun j hj g' e => ?_, fun j hj => ?_, fun i j h1 h2 g hne => ?_, fun j hj => ?_⟩ rfl (by omega)).mono ?_
    · obtain rfl : j = 0 := by simpa using hj
      exact hb
    · obtain rfl : j = 0 := by simpa using hj
      cases e
      exact ⟨cur, hg, hsz⟩
    · obtain rfl : j = 0 := by simpa using hj
      exact ⟨hn, by unfold maxLen at hmx; simpa using hmx, fun e => by cases e⟩
    · obtain rfl : i = 0 := by simpa using h1
      obtain rfl : j = 0 := by simpa using h2
      exact absurd rfl hne
    · obtain rfl : j = 0 := by simpa using hj
      intro e
      cases e
      exact hbT cur hg
    · rintro e w' ⟨rfl, hI⟩
      exact ⟨rfl, hI.os, hI.tape, hI.output, hI.size, fun k hk hne => hI.blk k hk (fun j hj e => by
        obtain rfl : j = 0 := by simpa using hj
        cases e
        exact hne rfl)⟩
end Go.Proofs.YtmddcdaodlnnhaaGreatDoor
namespace Go.Proofs.YtmddcdaodlnnhaaGreatDoor
open Go.RowKit Go.Maps
set_option linter.unusedVariables false
set_option maxRecDepth 100000 in
set_option maxHeartbeats 16000000 in
theorem lact_app {m T : Nat} {w : World} {d x B : Nat} {fs : List Fx} {v : Value} {l : List Gx} {s : Sp} (hE : ErrIs w) (hEm : 0 < m) (h : Tw0 m T w d x B fs v l s) (S : ByteArray) (hS : S.size ≤ 9007199254740992) {bo : Option Addr} {bc : Nat} {bb : List UInt8} (hB : Has w bo bb.length bc bb) (hbo : ∀ a, bo = some a ∧ 0 < bb.length → ¬ O2 d x B fs v l a.block) (hbn : bb.length ≤ 1099511627775) (hT : T + bb.length < 1099511627776) (N M : Int) (lo : Option Addr) (ln lc : Nat) :
    Calls Tryz.prog 10 #[.pointer (some ⟨d, 0, none⟩), .pointer (some ⟨x, 0, none⟩), .agg #[.int .i64 0, .string S, .slice bo bb.length bc, .int .i64 N, .int .i64 M, .slice lo ln lc]] w fun e w' => e = .returned (.bool true) ∧ ∃ fs' v' l', Tw0 m (T + 1 + bb.length) w' d x B fs' v' l' (ofRes (appR s.P s.off s.arm s.ah s.pa S bb) s.pa) ∧ Stp (O2 d x B fs v l) w (O2 d x B fs' v' l') w' := by
  obtain ⟨wb, hwb⟩ : ∃ wb, wb = w.alloc (.cells #[.int .i64 0, .string S, .slice bo bb.length bc, .int .i64 N, .int .i64 M, .slice lo ln lc] 32) := ⟨_, rfl⟩
  have hbb : Below w.heap.size w wb := by rw [hwb]; exact below_al _ _
  have qb : wb.heap[w.heap.size]? = some (.cells #[.int .i64 0, .string S, .slice bo bb.length bc, .int .i64 N, .int .i64 M, .slice lo ln lc] 32) := by rw [hwb]; exact new_block_at _ _ rfl
  have hsb : wb.heap.size = w.heap.size + 1 := by rw [hwb]; simp
  have hnew : ∀ g, w.heap.size ≤ g → ¬ O2 d x B fs v l g := fun g hg e => by have := (h.lt g e).2; omega
  have hmw : m ≤ w.heap.size := Nat.le_trans h.dk.md (Nat.le_of_lt (node_lt h.dk.blk))
  have HL := hid (lent_any bo bb.length bc bb wb (hB.below hbb) (by omega))
  have HWb := hid hwb
  obtain ⟨R, hR⟩ : ∃ R, R = appR s.P s.off s.arm s.ah s.pa S bb := ⟨_, rfl⟩
  have hRo : ResOk R s.pa := by rw [hR]; exact appR_ok h.ar h.ahI S bb
  rw [← hR]
  have HR0 := hid hR
  obtain ⟨rc, hrc⟩ : ∃ rc, rc = R.c := ⟨_, rfl⟩
  have HRC := hid hrc
  clear hR hrc
  have HQb := hid qb
  have b0 := And.left (cell_in qb 0 _ rfl)
  have b1 := And.left (cell_in qb 1 _ rfl)
  have b2 := And.left (cell_in qb 2 _ rfl)
  have b3 := And.left (cell_in qb 3 _ rfl)
  have blt := node_lt qb
  have HSz := hid (And.intro hsb (And.intro hbb (And.intro qb True.intro)))
  clear hwb hsb hbb qb
  go_enter Tryz.func10, Tryz.ntmps10
  go_wp2_with fail
  rw [← HWb.out]
  refine HL.out.mono ?_
  rintro e w1 ⟨rfl, hL1, hb1⟩
  obtain ⟨hsb, hbb, qb, _⟩ := HSz.out
  have hb01 : Below w.heap.size w w1 := hbb.trans (hb1.mono (by omega))
  have h1 := h.below hb01
  have q1 := (hb1.block _ blt).trans qb
  have hLo : ∀ a, (some (⟨wb.heap.size, 0, none⟩ : Addr)) = some a → ¬ OD d B fs a.block := fun a e e2 => by cases e; exact hnew wb.heap.size (by omega) (.inl e2)
  have HOp := hid (dkapp_ok h1.dk h.paI h.ahI h.ar S hS (pb := bb) (by omega) (hL1.has (by unfold maxLen; omega)) (fun a e => hLo a e.1))
  rw [h.pd, ← HR0.out] at HOp
  clear b0 b1 b2 b3 blt HL HWb
  have b0 := And.left (cell_in q1 0 _ rfl)
  have b1 := And.left (cell_in q1 1 _ rfl)
  have b2 := And.left (cell_in q1 2 _ rfl)
  have b3 := And.left (cell_in q1 3 _ rfl)
  have blt := node_lt q1
  clear hsb
  go_wp2_with fail
  refine HOp.out.mono ?_
  rintro e X2 ⟨he, fs', p1, p2, p3⟩
  rw [← HRC.out] at he
  subst he
  have hsb := HSz.out.1
  obtain ⟨hx2, hd2⟩ := h1.one p2 p3
  have n2 : ∀ g, w.heap.size ≤ g → g < w1.heap.size → ¬ OD d B fs' g := fun g hg hg2 e => by
    rcases p3.own g e with e | e
    · exact hnew g hg (.inl e)
    · omega
  have q2 := (p3.kx.block _ blt fun e => hnew _ (Nat.le_refl _) (.inl e)).trans q1
  have hB2 : Has X2 bo bb.length bc bb := (hB.below hb01).kxA p3.kx fun a e e2 => hbo a e (.inl e2)
  have hL2 : LentIs X2 wb.heap.size bb := (p3.kx.block _ hL1.lt fun e => hnew _ (by omega) (.inl e)).trans hL1
  have HDo := hid (rdo_app hx2 h.paI h.ahI h.ar (pb := bb) (by omega) S hS hB2 (fun a e e2 => hbo a e (.inr e2)) N)
  rw [h.px, ← HR0.out] at HDo
  clear b0 b1 b2 b3 blt HOp
  have b0 := And.left (cell_in q2 0 _ rfl)
  have b1 := And.left (cell_in q2 1 _ rfl)
  have b2 := And.left (cell_in q2 2 _ rfl)
  have b3 := And.left (cell_in q2 3 _ rfl)
  have blt := node_lt q2
  clear hsb
  go_wp2_with fail
  refine HDo.out.mono ?_
  rintro e X3 ⟨he, v', l', r1, r2, r3⟩
  rw [← HRC.out] at he
  subst he
  have hsb := HSz.out.1
  obtain ⟨ht, hst⟩ := h1.two (s' := ofRes R s.pa) (T' := T + 1 + bb.length) (p2.mono (by omega)) p3 p1 (r2.mono (by omega)) r3 r1 hRo.1 hRo.2 h.paI
  have q3 := (r3.kx.block _ blt fun e => hnew _ (Nat.le_refl _) (.inr e)).trans q2
  have hB3 : Has X3 bo bb.length bc bb := hB2.kxA r3.kx fun a e e2 => hbo a e (.inr e2)
  have hL3 : LentIs X3 wb.heap.size bb := (r3.kx.block _ hL2.lt fun e => hnew _ (by omega) (.inr e)).trans hL2
  have hgL : ∀ g, g = wb.heap.size → ¬ O2 d x B fs' v' l' g := fun g hg e => by
    have hlw : wb.heap.size < w1.heap.size := hL1.lt
    have hsz := p3.kx.size
    rcases e with e | e
    · exact n2 g (by omega) (by omega) e
    · rcases r3.own g e with e | e
      · exact hnew g (by omega) (.inr e)
      · omega
  have HK := hid (kept_any wb.heap.size bo bc bb X3 hL3 hB3 (by omega))
  obtain ⟨wa, hwa⟩ : ∃ wa, wa = X3.alloc (.cells #[.slice (some ⟨wb.heap.size, 0, none⟩) bb.length (bb.length + 1)] 29) := ⟨_, rfl⟩
  have hba : Below X3.heap.size X3 wa := by rw [hwa]; exact below_al _ _
  have qa : wa.heap[X3.heap.size]? = some (.cells #[.slice (some ⟨wb.heap.size, 0, none⟩) bb.length (bb.length + 1)] 29) := by rw [hwa]; exact new_block_at _ _ rfl
  have hLa := (hba.block _ hL3.lt).trans hL3
  have HOw := hid (one_owned (w := wa) (b := X3.heap.size) (n := bb.length) (c := bb.length + 1) (o := some ⟨wb.heap.size, 0, none⟩) (.inr ⟨_, _, rfl, hLa, by simp, by unfold maxLen; omega⟩) (by omega) (cell_in qa 0 _ rfl).1 (NoT.cells qa (by decide)))
  have HWa := hid hwa
  have hta := ht.below hba
  have hE3 : ErrIs X3 := by
    have e1 : X3.heap[0]? = w.heap[0]? := by
      have hsz1 := hb01.size
      have hlt := hE.lt
      refine (hst.kx.block _ (by omega) fun e => ?_).trans (hb01.block _ hlt)
      have := (h.lt _ e).1
      omega
    exact (World.cell?_of_block (w := w) (a := ⟨0, 0, none⟩) e1).trans hE
  have HFin : Hid (∀ X5 X6, OwnK (some ⟨wb.heap.size, 0, none⟩) wa X5 → Below X5.heap.size X5 X6 → ∃ fs' v' l', Tw0 m (T + 1 + bb.length) X6 d x B fs' v' l' (ofRes R s.pa) ∧ Stp (O2 d x B fs v l) w (O2 d x B fs' v' l') X6) := hid fun X5 X6 hO hb => by
    have hk5 := hO.kx
    have t5 := hta.kx hk5 fun g hg e => hgL g (by cases e; rfl) hg
    refine ⟨fs', v', l', t5.below hb, ⟨⟨?_, ?_, ?_, ?_, ?_⟩, ?_⟩⟩
    · exact hb.os.trans (hk5.os.trans (hba.os.trans (hst.kx.os.trans hb01.os)))
    · exact hb.tape.trans (hk5.tape.trans (hba.tape.trans (hst.kx.tape.trans hb01.tape)))
    · exact hb.output.trans (hk5.output.trans (hba.output.trans (hst.kx.output.trans hb01.output)))
    · exact Nat.le_trans hb01.size (Nat.le_trans hst.kx.size (Nat.le_trans hba.size (Nat.le_trans hk5.size hb.size)))
    · intro g hg hn
      have s1 := hb01.size
      have s2 := hst.kx.size
      have s3 := hba.size
      have s4 := hk5.size
      exact (hb.block g (by omega)).trans ((hk5.block g (by omega) (fun e => by cases e; omega)).trans ((hba.block g (by omega)).trans ((hst.kx.block g (by omega) hn).trans (hb01.block g hg))))
    · intro g hg
      have s1 := hb01.size
      rcases hst.own g hg with e | e
      · exact .inl e
      · exact .inr (by omega)
  have HEe : Hid (∀ X5, OwnK (some ⟨wb.heap.size, 0, none⟩) wa X5 → ErrIs X5) := hid fun X5 hO => by
    have hlt := hE.lt
    have e1 : X5.heap[0]? = wa.heap[0]? := hO.blk _ (by have := hE3.lt; have := hba.size; omega) (fun e => by have e2 := congrArg Addr.block (Option.some.inj e); simp only at e2; omega)
    have e2 : wa.heap[0]? = X3.heap[0]? := hba.block _ hE3.lt
    exact (World.cell?_of_block (w := X3) (a := ⟨0, 0, none⟩) (e1.trans e2)).trans hE3
  clear b0 b1 b2 b3 blt HDo
  have b0 := And.left (cell_in q3 0 _ rfl)
  have b1 := And.left (cell_in q3 1 _ rfl)
  have b2 := And.left (cell_in q3 2 _ rfl)
  have b3 := And.left (cell_in q3 3 _ rfl)
  have blt := node_lt q3
  clear hE hEm h hB hbo hnew hmw hsb h1 q1 hLo hL1 hb1 hb01 p1 p2 p3 hx2 hd2 n2 q2 hB2 hL2 r1 r2 r3 ht hst hB3 hL3 hgL hwa hba qa hLa hta hE3 hbb qb hRo HQb
  go_wp2_with fail
  refine HK.out.mono ?_
  rintro e X4 ⟨rfl, rfl⟩
  go_wp2_with fail
  rw [← HWa.out]
  refine HOw.out.mono ?_
  rintro e X5 ⟨rfl, hO⟩
  have HC := hid (code_ev rc X5 (HEe.out X5 hO))
  have HO := hid hO
  clear hO HOw HK HWa HEe
  go_wp2_with fail
  refine HC.out.mono ?_
  rintro e X6 ⟨rfl, hb6⟩
  have HR := hid (HFin.out X5 X6 HO.out hb6)
  clear hb6 HC HFin
  go_wp2_with fail
  go_ret
  exact ⟨rfl, HR.out⟩
end Go.Proofs.YtmddcdaodlnnhaaGreatDoor
