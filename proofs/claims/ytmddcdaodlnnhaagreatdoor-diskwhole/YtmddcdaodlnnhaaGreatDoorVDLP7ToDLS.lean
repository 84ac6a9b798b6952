/-
  The law's own act: Read, on both disks. Conditions: those that each theorem names.
  The laws' own act, whatever is done. Conditions: those that each theorem names.
  What an act leaves of other files; what is sure lasts. Conditions: those that each theorem names.
-/
import Derived.Test.YtmddcdaodlnnhaaGreatDoorVDLNToDLO0
import Derived.Test.YtmddcdaodlnnhaaGreatDoorVDLO1ToDLO2
import Derived.Test.YtmddcdaodlnnhaaGreatDoorVDLO3ToDLO4
import Derived.Test.YtmddcdaodlnnhaaGreatDoorVDLP5
import Derived.Test.YtmddcdaodlnnhaaGreatDoorVDLP6
namespace Go.Proofs.YtmddcdaodlnnhaaGreatDoor
open Go.RowKit Go.Maps
set_option linter.unusedVariables false
set_option maxRecDepth 100000 in
set_option maxHeartbeats 16000000 in
theorem lact_read {m T : Nat} {w : World} {d x B : Nat} {fs : List Fx} {v : Value} {l : List Gx} {s : Sp} (hE : ErrIs w) (hEm : 0 < m) (h : Tw0 m T w d x B fs v l s) (hT : T < 1099511627776) (K : Int) (hK : K < 0 ∨ 6 < K) (S : ByteArray) (hS : S.size ≤ 9007199254740992) {bo : Option Addr} {bc : Nat} {bb : List UInt8} (hB : Has w bo bb.length bc bb) (hbn : bb.length ≤ 1099511627775) (N M : Int) (lo : Option Addr) (ln lc : Nat) :
    Calls Tryz.prog 10 #[.pointer (some ⟨d, 0, none⟩), .pointer (some ⟨x, 0, none⟩), .agg #[.int .i64 K, .string S, .slice bo bb.length bc, .int .i64 N, .int .i64 M, .slice lo ln lc]] w fun e w' => e = .returned (.bool true) ∧ ∃ fs' v' l', Tw0 m T w' d x B fs' v' l' s ∧ Stp (O2 d x B fs v l) w (O2 d x B fs' v' l') w' := by
  obtain ⟨wb, hwb⟩ : ∃ wb, wb = w.alloc (.cells #[.int .i64 K, .string S, .slice bo bb.length bc, .int .i64 N, .int .i64 M, .slice lo ln lc] 32) := ⟨_, rfl⟩
  have hbb : Below w.heap.size w wb := by rw [hwb]; exact below_al _ _
  have qb : wb.heap[w.heap.size]? = some (.cells #[.int .i64 K, .string S, .slice bo bb.length bc, .int .i64 N, .int .i64 M, .slice lo ln lc] 32) := by rw [hwb]; exact new_block_at _ _ rfl
  have hsb : wb.heap.size = w.heap.size + 1 := by rw [hwb]; simp
  have hnew : ∀ g, w.heap.size ≤ g → ¬ O2 d x B fs v l g := fun g hg e => by have := (h.lt g e).2; omega
  have hmw : m ≤ w.heap.size := Nat.le_trans h.dk.md (Nat.le_of_lt (node_lt h.dk.blk))
  have HL := hid (lent_any bo bb.length bc bb wb (hB.below hbb) (by omega))
  have HWb := hid hwb
  obtain ⟨rc, hrc⟩ : ∃ rc, rc = fiP s.off S s.P := ⟨_, rfl⟩
  obtain ⟨bR, hbR⟩ : ∃ bR, bR = readB s.off S s.P := ⟨_, rfl⟩
  have HRc := hid hrc
  have HBR := hid hbR
  have k0 : (K == 0) = false := by simp; omega
  have k1 : (K == 1) = false := by simp; omega
  have k2 : (K == 2) = false := by simp; omega
  have k3 : (K == 3) = false := by simp; omega
  have k4 : (K == 4) = false := by simp; omega
  have k5 : (K == 5) = false := by simp; omega
  have k6 : (K == 6) = false := by simp; omega
  clear hrc hbR hK
  have HQb := hid qb
  have b0 := And.left (cell_in qb 0 _ rfl)
  have b1 := And.left (cell_in qb 1 _ rfl)
  have b2 := And.left (cell_in qb 2 _ rfl)
  have b3 := And.left (cell_in qb 3 _ rfl)
  have blt := node_lt qb
  have HSz := hid (And.intro hsb (And.intro hbb (And.intro qb True.intro)))
  clear hwb hsb hbb qb
  go_enter Tryz.func10, Tryz.ntmps10
  go_wp2_with fail
  rw [← HWb.out]
  refine HL.out.mono ?_
  rintro e w1 ⟨rfl, hL1, hb1⟩
  obtain ⟨hsb, hbb, qb, _⟩ := HSz.out
  have hb01 : Below w.heap.size w w1 := hbb.trans (hb1.mono (by omega))
  have h1 := h.below hb01
  have q1 := (hb1.block _ blt).trans qb
  have HOp := hid (dkread_ok h1.dk hT S hS)
  rw [h.pd, ← HRc.out, ← HBR.out] at HOp
  clear b0 b1 b2 b3 blt HL HWb
  have b0 := And.left (cell_in q1 0 _ rfl)
  have b1 := And.left (cell_in q1 1 _ rfl)
  have b2 := And.left (cell_in q1 2 _ rfl)
  have b3 := And.left (cell_in q1 3 _ rfl)
  have blt := node_lt q1
  clear hsb
  go_wp2_with fail
  refine HOp.out.mono ?_
  rintro e X2 ⟨po, pn, pc, rfl, p1, p2⟩
  have hb02 : Below w.heap.size w X2 := hb01.trans (p2.mono hb01.size)
  have h2 := h.below hb02
  have q2 := (p2.block _ blt).trans q1
  have HDo := hid (rdread_ok h2.xd hT S hS)
  rw [h.px, ← HRc.out, ← HBR.out] at HDo
  clear b0 b1 b2 b3 blt HOp
  have b0 := And.left (cell_in q2 0 _ rfl)
  have b1 := And.left (cell_in q2 1 _ rfl)
  have b2 := And.left (cell_in q2 2 _ rfl)
  have b3 := And.left (cell_in q2 3 _ rfl)
  have blt := node_lt q2
  go_wp2_with fail
  refine HDo.out.mono ?_
  rintro e X3 ⟨qo, qn, qc, rfl, r1, r2⟩
  have hb03 : Below w.heap.size w X3 := hb02.trans (r2.mono hb02.size)
  have h3 := h.below hb03
  have p3 := own_keep p1 r2
  have cv1 := (Has.of_owned p3).conv
  have cv2 := (Has.of_owned r1).conv
  have hE3 : ErrIs X3 := hE.below hb03 hE.lt
  have HC := hid (code_ev rc X3 hE3)
  have HFin : Hid (∀ X4 X5, Below X3.heap.size X3 X4 → X5 = X4.alloc (.cells #[.slice po pn pc] 29) → Calls Tryz.prog 13 #[.slice (some ⟨X4.heap.size, 0, none⟩) 1 1] X5 fun e X6 => e = .returned (.bool true) ∧ ∃ fs' v' l', Tw0 m T X6 d x B fs' v' l' s ∧ Stp (O2 d x B fs v l) w (O2 d x B fs' v' l') X6) := hid fun X4 X5 hb4 h5 => by
    have hb5 : Below X4.heap.size X4 X5 := by rw [h5]; exact below_al _ _
    have p5 := own_keep (own_keep p3 hb4) hb5
    have q5 : X5.heap[X4.heap.size]? = some (.cells #[.slice po pn pc] 29) := by rw [h5]; exact new_block_at _ _ rfl
    have hb05 : Below w.heap.size w X5 := (hb03.trans (hb4.mono hb03.size)).trans (hb5.mono (Nat.le_trans hb03.size hb4.size))
    have hob : (po = none ∧ pc = 0) ∨ ∃ g cur, po = some ⟨g, 0, none⟩ ∧ X5.heap[g]? = some (.cells cur 5 (0, 0)) ∧ cur.size = pc ∧ pc ≤ maxLen := by
      obtain ⟨_, ⟨e1, _⟩ | ⟨g, cap, cur, e1, _, hg, _, hmx, hsz, _⟩⟩ := p5
      · cases e1; exact .inl ⟨rfl, rfl⟩
      · cases e1; exact .inr ⟨g, cur, rfl, hg, by simpa using hsz, hmx⟩
    have hpc := (Has.of_owned p5).2.1
    refine (one_owned (w := X5) (b := X4.heap.size) hob hpc (cell_in q5 0 _ rfl).1 (NoT.cells q5 (by decide))).mono ?_
    rintro e X6 ⟨rfl, hO⟩
    have hk := hO.kx
    have hge : ∀ g, po = some ⟨g, 0, none⟩ → w.heap.size ≤ g := fun g e => by
      have := (own_lt p1 g (by rw [e]; rfl)).1
      have := hb01.size
      omega
    have t5 := (h.below hb05).kx hk fun g hg e => by have := (h.lt g hg).2; have := hge g e; omega
    have hs5 := hb05.size
    exact ⟨rfl, fs, v, l, t5, ⟨⟨hk.os.trans hb05.os, hk.tape.trans hb05.tape, hk.output.trans hb05.output, Nat.le_trans hs5 hk.size, fun g hg hn => (hk.block g (by omega) fun e => by have := hge g e; omega).trans (hb05.block g hg)⟩, fun g hg => .inl hg⟩⟩
  obtain ⟨TT, hTT⟩ : ∃ TT, TT = bs bR := ⟨_, rfl⟩
  rw [← hTT] at cv1 cv2
  clear b0 b1 b2 b3 blt HDo hTT
  clear hE hEm h hB hnew hmw h1 q1 hL1 hb1 hb01 p1 p2 h2 q2 r1 r2 hb02 hb03 h3 p3 hE3 HSz HRc HBR hbb qb HQb
  go_wp2_with fail
  refine HC.out.mono ?_
  rintro e X4 ⟨rfl, hb4⟩
  have HO := hid (HFin.out X4 _ hb4 rfl)
  clear hb4 HC HFin
  go_wp2_with fail
  refine HO.out.mono ?_
  rintro e X6 ⟨rfl, hR⟩
  have HR := hid hR
  clear hR HO
  go_wp2_with fail
  go_ret
  exact ⟨rfl, HR.out⟩
end Go.Proofs.YtmddcdaodlnnhaaGreatDoor
namespace Go.Proofs.YtmddcdaodlnnhaaGreatDoor
open Go.RowKit Go.Maps
set_option linter.unusedVariables false
/-- An act, as it lies. -/
structure Ax where
  K : Int
  S : ByteArray
  bo : Option Addr
  bc : Nat
  b : List UInt8
  N : Int
  M : Int
  lo : Option Addr
  ln : Nat
  lc : Nat
  ks : List Int
@[reducible] def Ax.cells (a : Ax) : Array Value := #[.int .i64 a.K, .string a.S, .slice a.bo a.b.length a.bc, .int .i64 a.N, .int .i64 a.M, .slice a.lo a.ln a.lc]
structure Ax.Ok (a : Ax) (m : Nat) (w : World) : Prop where
  iK : inI a.K
  iN : inI a.N
  iM : inI a.M
  hs : a.S.size ≤ 9007199254740992
  hB : Has w a.bo a.b.length a.bc a.b
  mB : ∀ p, a.bo = some p ∧ 0 < a.b.length → p.block < m
  hL : IntsAt w a.lo a.ln a.lc a.ks
  mL : ∀ p, a.lo = some p ∧ 0 < a.ln → p.block < m
  sb : a.b.length ≤ 1048576
  sl : a.ln ≤ 1048576
theorem Ax.Ok.below {a : Ax} {m : Nat} {w w' : World} (h : a.Ok m w) (hb : Below m w w') : a.Ok m w' := by
  have hk : Kx (fun g => m ≤ g) w w' := ⟨hb.os, hb.tape, hb.output, hb.size, fun g hg hn => hb.block g (by omega)⟩
  exact ⟨h.iK, h.iN, h.iM, h.hs, h.hB.kxA hk fun p e e2 => by have := h.mB p e; omega, h.mB, h.hL.kxA hk fun p e e2 => by have := h.mL p e; omega, h.mL, h.sb, h.sl⟩
def actS (s : Sp) (a : Ax) : Sp :=
  if a.K = 0 then ofRes (appR s.P s.off s.arm s.ah s.pa a.S a.b) s.pa
  else if a.K = 1 then ofRes (synR s.P s.off s.arm s.ah s.pa a.S) s.pa
  else if a.K = 2 then ofRes (putR s.P s.off s.arm s.ah s.pa a.S a.b) s.pa
  else if a.K = 3 then ofRes (cutR s.P s.off s.arm s.ah s.pa a.S a.N) s.pa
  else if a.K = 4 then ofRes (remR s.P s.off s.arm s.ah s.pa a.S) s.pa
  else if a.K = 5 then ⟨s.P, s.off, decide (0 ≤ a.N), a.N, a.M⟩
  else if a.K = 6 then ⟨startL s.P a.ks, false, false, s.ah, s.pa⟩
  else s
theorem Tw0.mono {m T T' : Nat} {w : World} {d x B : Nat} {fs : List Fx} {v : Value} {l : List Gx} {s : Sp} (h : Tw0 m T w d x B fs v l s) (hT : T ≤ T') : Tw0 m T' w d x B fs v l s :=
  ⟨h.pd, h.px, h.dk.mono hT, h.xd.mono hT, h.ds, h.ar, h.ahI, h.paI⟩
theorem lact_any {m T : Nat} {w : World} {d x B : Nat} {fs : List Fx} {v : Value} {l : List Gx} {s : Sp} (hE : ErrIs w) (hEm : 0 < m) (h : Tw0 m T w d x B fs v l s) (a : Ax) (ha : a.Ok m w) (hT : T + 1048576 < 1099511627776) :
    Calls Tryz.prog 10 #[.pointer (some ⟨d, 0, none⟩), .pointer (some ⟨x, 0, none⟩), .agg a.cells] w fun e w' => e = .returned (.bool true) ∧ ∃ fs' v' l', Tw0 m (T + 1 + 1048576) w' d x B fs' v' l' (actS s a) ∧ Stp (O2 d x B fs v l) w (O2 d x B fs' v' l') w' := by
  obtain ⟨K, S, bo, bc, b, N, M, lo, ln, lc, ks⟩ := a
  obtain ⟨iK, iN, iM, hs, hB, mB, hL, mL, sb, sl⟩ := ha
  dsimp only at iK iN iM hs hB mB hL mL sb sl
  have hbo : ∀ p, bo = some p ∧ 0 < b.length → ¬ O2 d x B fs v l p.block := fun p e e2 => by have := mB p e; have := (h.lt _ e2).1; omega
  have hlo : ∀ p, lo = some p ∧ 0 < ln → ¬ O2 d x B fs v l p.block := fun p e e2 => by have := mL p e; have := (h.lt _ e2).1; omega
  unfold actS Ax.cells
  dsimp only
  by_cases k0 : K = 0
  · subst k0
    rw [if_pos rfl]
    exact (lact_app hE hEm h S hs hB hbo (by omega) (by omega) N M lo ln lc).mono fun e w' ⟨e1, fs', v', l', q1, q2⟩ => ⟨e1, fs', v', l', q1.mono (by omega), q2⟩
  by_cases k1 : K = 1
  · subst k1
    rw [if_neg (by omega), if_pos rfl]
    exact (lact_sync hE hEm h S hs hB hbo (by omega) (by omega) N M lo ln lc).mono fun e w' ⟨e1, fs', v', l', q1, q2⟩ => ⟨e1, fs', v', l', q1.mono (by omega), q2⟩
  by_cases k2 : K = 2
  · subst k2
    rw [if_neg (by omega), if_neg (by omega), if_pos rfl]
    exact (lact_put hE hEm h S hs hB hbo (by omega) (by omega) N M lo ln lc).mono fun e w' ⟨e1, fs', v', l', q1, q2⟩ => ⟨e1, fs', v', l', q1.mono (by omega), q2⟩
  by_cases k3 : K = 3
  · subst k3
    rw [if_neg (by omega), if_neg (by omega), if_neg (by omega), if_pos rfl]
    exact (lact_cut hE hEm h S hs hB hbo (by omega) (by omega) N M lo ln lc).mono fun e w' ⟨e1, fs', v', l', q1, q2⟩ => ⟨e1, fs', v', l', q1.mono (by omega), q2⟩
  by_cases k4 : K = 4
  · subst k4
    rw [if_neg (by omega), if_neg (by omega), if_neg (by omega), if_neg (by omega), if_pos rfl]
    exact (lact_rem hE hEm h S hs hB hbo (by omega) (by omega) N M lo ln lc).mono fun e w' ⟨e1, fs', v', l', q1, q2⟩ => ⟨e1, fs', v', l', q1.mono (by omega), q2⟩
  by_cases k5 : K = 5
  · subst k5
    rw [if_neg (by omega), if_neg (by omega), if_neg (by omega), if_neg (by omega), if_neg (by omega), if_pos rfl]
    exact (lact_arm hE hEm h S hB hbo (by omega) N M iN iM lo ln lc).mono fun e w' ⟨e1, fs', v', l', q1, q2⟩ => ⟨e1, fs', v', l', q1.mono (by omega), q2⟩
  by_cases k6 : K = 6
  · subst k6
    rw [if_neg (by omega), if_neg (by omega), if_neg (by omega), if_neg (by omega), if_neg (by omega), if_neg (by omega), if_pos rfl]
    exact (lact_start hE hEm h (by omega) S hB hbo (by omega) N M hL hlo (by omega)).mono fun e w' ⟨e1, fs', v', l', q1, q2⟩ => ⟨e1, fs', v', l', q1.mono (by omega), q2⟩
  rw [if_neg k0, if_neg k1, if_neg k2, if_neg k3, if_neg k4, if_neg k5, if_neg k6]
  exact (lact_read hE hEm h (by omega) K (by omega) S hs hB (by omega) N M lo ln lc).mono fun e w' ⟨e1, fs', v', l', q1, q2⟩ => ⟨e1, fs', v', l', q1.mono (by omega), q2⟩
end Go.Proofs.YtmddcdaodlnnhaaGreatDoor
namespace Go.Proofs.YtmddcdaodlnnhaaGreatDoor
open Go.RowKit Go.Maps
set_option linter.unusedVariables false
theorem ofRes_P (R : Res) (pa : Int) : (ofRes R pa).P = R.P := rfl
/-- An act leaves the files of other names as they are. -/
theorem act_apart (s : Sp) (a : Ax) (x : Nm) (h6 : a.K ≠ 6) (hx : a.S.data.toList ≠ x) : fnd (actS s a).P x = fnd s.P x := by
  have hx' : ¬ x = a.S.data.toList := fun e => hx e.symm
  have hset : ∀ b k, fnd (setA s.P ⟨a.S.data.toList, b, k⟩) x = fnd s.P x := fun b k => by rw [fnd_setA]; exact if_neg hx'
  unfold actS
  split
  · rw [ofRes_P]
    unfold appR
    split
    · exact hset _ _
    · rfl
  split
  · rw [ofRes_P]
    unfold synR
    split
    · unfold doneP
      dsimp only
      split
      · exact hset _ _
      · rfl
    · rfl
  split
  · rw [ofRes_P]
    unfold putR
    split
    · unfold doneP
      dsimp only
      split
      · exact hset _ _
      · rfl
    · rfl
  split
  · rw [ofRes_P]
    unfold cutR
    split
    · split
      · rfl
      · unfold doneP
        dsimp only
        split
        · exact hset _ _
        · rfl
    · rfl
  split
  · rw [ofRes_P]
    unfold remR
    split
    · unfold doneP
      dsimp only
      split
      · rw [fnd_del, if_neg hx']
      · rfl
    · rfl
  split
  · rfl
  first | rfl | (rw [if_neg h6])
theorem fnd_start (ks : List Int) (x : Nm) : ∀ (P : List Pf) (k : Nat), fnd (P.mapIdx fun i f => stF f ks[k + i]?) x = none ∧ fnd P x = none ∨ ∃ f kp, fnd P x = some f ∧ fnd (P.mapIdx fun i f => stF f ks[k + i]?) x = some (stF f kp)
  | [], _ => .inl ⟨rfl, rfl⟩
  | f :: r, k => by
    rw [List.mapIdx_cons, fnd_cons, fnd_cons]
    have hn : nm (stF f ks[k + 0]?) = nm f := rfl
    rw [hn]
    by_cases h : nm f = x
    · rw [if_pos h, if_pos h]
      exact .inr ⟨f, _, rfl, rfl⟩
    · rw [if_neg h, if_neg h]
      have h2 := fnd_start ks x r (k + 1)
      have e : (fun i (f : Pf) => stF f ks[k + (i + 1)]?) = (fun i (f : Pf) => stF f ks[k + 1 + i]?) := by
        funext i f
        rw [show k + (i + 1) = k + 1 + i by omega]
      rw [e]
      exact h2
/-- What one file of a name was, and what it is: what is sure is still there, and sure. -/
structure Lst (f g : Pf) : Prop where
  le : f.s ≤ g.s
  sk : g.s ≤ g.b.length
  pre : g.b.take f.s = f.b.take f.s
theorem Lst.refl {f : Pf} (h : f.s ≤ f.b.length) : Lst f f := ⟨Nat.le_refl _, h, rfl⟩
theorem stF_lst {f : Pf} (kp : Option Int) (h : f.s ≤ f.b.length) : Lst f (stF f kp) := by
  have hk : f.s ≤ stK f kp := by unfold stK; omega
  have hl : stK f kp ≤ f.b.length := by
    unfold stK
    cases kp with
    | none => dsimp only; omega
    | some x =>
      dsimp only
      have h1 := Int.emod_lt_of_pos x (show (0 : Int) < ((f.b.length - f.s : Nat) : Int) + 1 by omega)
      have h2 := Int.emod_nonneg x (show ((f.b.length - f.s : Nat) : Int) + 1 ≠ 0 by omega)
      omega
  refine ⟨hk, ?_, ?_⟩
  · show stK f kp ≤ (f.b.take (stK f kp)).length
    rw [List.length_take]
    omega
  · show (f.b.take (stK f kp)).take f.s = f.b.take f.s
    rw [List.take_take, Nat.min_eq_left hk]
theorem oldP_sk {P : List Pf} (h : ∀ p ∈ P, p.s ≤ p.b.length) (x : Nm) : (oldP P x).s ≤ (oldP P x).b.length := by
  unfold oldP
  cases e : fnd P x with
  | none => exact Nat.le_refl _
  | some f => exact h f (fnd_some e).1
theorem oldP_setA (P : List Pf) (t : Pf) (x : Nm) : oldP (setA P t) x = if x = nm t then t else oldP P x := by
  unfold oldP
  rw [fnd_setA]
  split <;> rfl
/-- What is sure of a file lasts while nothing is put, cut or removed under its name. -/
theorem act_lasts (s : Sp) (a : Ax) (x : Nm) (hP : ∀ p ∈ s.P, p.s ≤ p.b.length) (hk : a.S.data.toList = x → a.K < 2 ∨ 4 < a.K) : Lst (oldP s.P x) (oldP (actS s a).P x) := by
  have h0 := oldP_sk hP x
  by_cases h6 : a.K = 6
  · have e : (actS s a).P = startL s.P a.ks := by unfold actS; simp [h6]
    rw [e]
    have h2 := fnd_start a.ks x s.P 0
    simp only [Nat.zero_add] at h2
    unfold startL
    rcases h2 with ⟨e1, e2⟩ | ⟨f, kp, e1, e2⟩
    · unfold oldP at h0 ⊢
      rw [e1, e2]
      rw [e2] at h0
      exact Lst.refl h0
    · unfold oldP at h0 ⊢
      rw [e1, e2]
      rw [e1] at h0
      exact stF_lst kp h0
  by_cases hx : a.S.data.toList = x
  · have hk := hk hx
    unfold actS
    split
    · rw [ofRes_P]
      unfold appR
      split
      · show Lst _ (oldP (setA s.P _) x)
        rw [oldP_setA, if_pos (by exact hx.symm), hx]
        refine ⟨Nat.le_refl _, ?_, ?_⟩
        · show (oldP s.P x).s ≤ ((oldP s.P x).b ++ _).length
          rw [List.length_append]
          omega
        · show ((oldP s.P x).b ++ _).take (oldP s.P x).s = _
          rw [List.take_append_of_le_length h0]
      · exact Lst.refl h0
    split
    · rw [ofRes_P]
      unfold synR
      split
      · unfold doneP
        dsimp only
        split
        · rw [oldP_setA, if_pos (by exact hx.symm), hx]
          exact ⟨h0, Nat.le_refl _, rfl⟩
        · exact Lst.refl h0
      · exact Lst.refl h0
    rw [if_neg (by omega), if_neg (by omega), if_neg (by omega)]
    split
    · exact Lst.refl h0
    · exact Lst.refl h0
  · have e := act_apart s a x h6 hx
    unfold oldP at h0 ⊢
    rw [e]
    exact Lst.refl h0
theorem Tw0.sk {m T : Nat} {w : World} {d x B : Nat} {fs : List Fx} {v : Value} {l : List Gx} {s : Sp} (h : Tw0 m T w d x B fs v l s) : ∀ p ∈ s.P, p.s ≤ p.b.length := fun p hp => by
  rw [← h.pd] at hp
  obtain ⟨f, hf, rfl⟩ := List.mem_map.1 hp
  have h1 := (h.dk.ok f hf).sk
  have h2 := (h.dk.ok f hf).len
  show f.s ≤ f.b.length
  omega
end Go.Proofs.YtmddcdaodlnnhaaGreatDoor
