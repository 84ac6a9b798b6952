/-
  DiskWhole: a Put is whole or not at all. Conditions: those that each theorem names.
-/
import Derived.Test.YtmddcdaodlnnhaaGreatDoorVDLUToRowsMem
namespace Go.Proofs.YtmddcdaodlnnhaaGreatDoor
open Go.RowKit Go.Maps
set_option linter.unusedVariables false
/-- All is sure. -/
def AllS (P : List Pf) : Prop := ∀ p ∈ P, p.s = p.b.length
theorem start_all {P : List Pf} (h : ∀ p ∈ P, p.s ≤ p.b.length) : AllS (startL P []) := fun p hp => by
  unfold startL at hp
  obtain ⟨i, hi, rfl⟩ := List.mem_mapIdx.1 hp
  have h1 := h _ (List.getElem_mem hi)
  show stK P[i] ([] : List Int)[i]? = (P[i].b.take (stK P[i] ([] : List Int)[i]?)).length
  rw [List.getElem?_nil, List.length_take]
  unfold stK
  dsimp only
  omega
theorem startL_all {P : List Pf} (h : AllS P) (ks : List Int) : startL P ks = P := by
  unfold startL
  refine List.ext_getElem (by simp) fun i h1 h2 => ?_
  rw [List.getElem_mapIdx]
  have h3 := h _ (List.getElem_mem h2)
  have e : ∀ kp, stK P[i] kp = P[i].b.length := fun kp => by
    unfold stK
    cases kp with
    | none => dsimp only; omega
    | some x =>
      dsimp only
      have h4 : P[i].b.length - P[i].s = 0 := by omega
      rw [h4]
      omega
  unfold stF
  rw [e, List.take_length, ← h3]
theorem mem_setA {P : List Pf} {t p : Pf} (h : p ∈ setA P t) : p = t ∨ p ∈ P := by
  unfold setA at h
  split at h
  · unfold put at h
    obtain ⟨q, hq, e⟩ := List.mem_map.1 h
    split at e
    · exact .inl e.symm
    · exact .inr (e ▸ hq)
  · exact mem_ins.1 h
theorem setA_all {P : List Pf} (h : AllS P) (x : Nm) (b : List UInt8) : AllS (setA P ⟨x, b, b.length⟩) := fun p hp => by
  rcases mem_setA hp with rfl | hp
  · rfl
  · exact h p hp
theorem read_setA (P : List Pf) (S : ByteArray) (b : List UInt8) (k : Nat) (hn : nmS S = true) : fiP false S (setA P ⟨S.data.toList, b, k⟩) = 0 ∧ readB false S (setA P ⟨S.data.toList, b, k⟩) = b := by
  have h1 : fiP false S (setA P ⟨S.data.toList, b, k⟩) = 0 := by
    have hx : S.data.toList = nm (⟨S.data.toList, b, k⟩ : Pf) := rfl
    unfold fiP rfC
    rw [hn, fnd_setA, if_pos hx]
    rfl
  refine ⟨h1, ?_⟩
  unfold readB
  have hx : S.data.toList = nm (⟨S.data.toList, b, k⟩ : Pf) := rfl
  rw [if_pos h1, oldP_setA, if_pos hx]
theorem putR_bad {P : List Pf} {arm : Bool} {ah pa : Int} {S : ByteArray} {b : List UInt8} (hn : nmS S = false) : putR P false arm ah pa S b = ⟨1, P, false, arm, ah⟩ ∧ fiP false S P = 1 := by
  have h : rfC false S = 1 := by unfold rfC; rw [hn]; rfl
  unfold putR fiP
  rw [h]
  exact ⟨rfl, rfl⟩
theorem putR_plain {P : List Pf} {ah pa : Int} {S : ByteArray} {b : List UInt8} (hn : nmS S = true) : putR P false false ah pa S b = ⟨0, setA P ⟨S.data.toList, b, b.length⟩, false, false, ah⟩ := by
  have h : rfC false S = 0 := by unfold rfC; rw [hn]; rfl
  unfold putR
  rw [h]
  rfl
theorem putR_cut {P : List Pf} {pa : Int} {S : ByteArray} {b : List UInt8} (hn : nmS S = true) : putR P false true 0 pa S b = ⟨80, if (pa % (((1 : Nat) : Int) + 1)).toNat = 1 then setA P ⟨S.data.toList, b, b.length⟩ else P, true, false, 0⟩ := by
  have h : rfC false S = 0 := by unfold rfC; rw [hn]; rfl
  unfold putR
  rw [h]
  rfl
theorem fiP_two {P : List Pf} {S : ByteArray} (hn : nmS S = true) : fiP false S P = 0 ∨ fiP false S P = 81 := by
  unfold fiP rfC
  rw [hn]
  cases (fnd P S.data.toList).isSome
  · exact .inr rfl
  · exact .inl rfl
structure Kp (o : Option Addr) (n : Nat) (w : World) (d B : Nat) (fs : List Fx) : Prop where
  lt : ∀ a, o = some a ∧ 0 < n → a.block < w.heap.size
  no : ∀ a, o = some a ∧ 0 < n → ¬ OD d B fs a.block
theorem Kp.stp {o : Option Addr} {n : Nat} {w w' : World} {d B : Nat} {fs fs' : List Fx} (h : Kp o n w d B fs) (hS : Stp (OD d B fs) w (OD d B fs') w') : Kp o n w' d B fs' :=
  ⟨fun a e => Nat.lt_of_lt_of_le (h.lt a e) hS.kx.size, fun a e e2 => by
    rcases hS.own _ e2 with e3 | e3
    · exact h.no a e e3
    · have := h.lt a e; omega⟩
set_option maxRecDepth 100000 in
set_option maxHeartbeats 16000000 in
theorem whole_any {w : World} {a : Option Addr} {n cap : Nat} {xs : List Ax} (hE : ErrIs w) (hA : RowA w.heap.size w a n xs) (S : ByteArray) (hS9 : S.size ≤ 9007199254740992) {bo : Option Addr} {bc : Nat} {bb : List UInt8} (hBB : Has w bo bb.length bc bb) (hbl : bb.length ≤ 1048576) (hbm : ∀ p, bo = some p ∧ 0 < bb.length → p.block < w.heap.size) (part : Int) (hpart : inI part) (cut : Bool) {lo : Option Addr} {ln lc : Nat} {ks : List Int} (hKS : IntsAt w lo ln lc ks) (hlm : ∀ p, lo = some p ∧ 0 < ln → p.block < w.heap.size) :
    Calls Tryz.prog 5 #[.slice a n cap, .string S, .slice bo bb.length bc, .int .i64 part, .bool cut, .slice lo ln lc] w fun e w' => e = .returned (.bool true) ∧ Below w.heap.size w w' := by
  have HE := hid hE
  have HA := hid hA
  have HEn : Hid (0 < w.heap.size) := hE.lt
  have hnl : (n : Int) ≤ 9223372036854775807 := by have := hA.le; unfold maxLen at this; omega
  have HS := hid (small_ok w hE)
  have HBB := hid (And.intro hBB hbm)
  have HKS := hid (And.intro hKS hlm)
  clear hE hA hBB hbm hKS hlm
  go_enter Tryz.func5, Tryz.ntmps5
  go_wp2_with fail
  refine HS.out.mono ?_
  rintro e w1 ⟨rfl, hb1⟩
  have HN := hid (dknew_ok w.heap.size w1 hb1.size)
  have HB1 := hid hb1
  clear hb1 HS
  go_wp2_with fail
  refine HN.out.mono ?_
  rintro e w2 ⟨d, B, rfl, h2, hd2, hB2, hb2⟩
  have hs2 : w.heap.size ≤ w2.heap.size := Nat.le_trans HB1.out.size hb2.size
  have HX := hid (rdnew_ok w.heap.size w2 hs2)
  have HD := hid (And.intro h2 (And.intro hd2 (And.intro hB2 (And.intro (HB1.out.trans (hb2.mono HB1.out.size)) hs2))))
  clear hs2 h2 hd2 hB2 hb2 HN HB1
  go_wp2_with fail
  refine HX.out.mono ?_
  rintro e w3 ⟨rfl, h3, hb3⟩
  obtain ⟨h2, hd2, hB2, hb2, hs2⟩ := HD.out
  obtain ⟨x, hx⟩ : ∃ x, x = w2.heap.size := ⟨_, rfl⟩
  rw [← hx] at h3
  have HP0 : Hid (AP w.heap.size w d x 0 w3) := hid ⟨hb2.trans (hb3.mono hs2), B, [], _, [], ⟨[], false, false, 0, 0⟩, ⟨rfl, rfl, h2.below hb3, h3, fun g hg e => (by
    have := (h2.lt g hg).2
    rcases e with rfl | e | ⟨_, e, _⟩
    · omega
    · cases e
    · cases e), fun e => (by cases e), (by unfold inI; simp), (by unfold inI; simp)⟩⟩
  have HX2 := hid hx
  clear h2 hd2 hB2 hb2 hs2 h3 hb3 hx HX HD
  go_wp2_with fail
  rw [← HX2.out]
  clear HX2
  go_loopw [16] (fun i wr => ∃ j : Nat, i = .int .i64 (j : Int) ∧ j ≤ n ∧ j ≤ 100 ∧ Hid (AP w.heap.size w d x j wr)) (fun i _ => n - (intOf i).toNat)
  case atStart => exact ⟨0, rfl, Nat.zero_le _, Nat.zero_le _, HP0⟩
  case round =>
    obtain ⟨j, rfl, hj, hj2, HR⟩ := hrel
    clear HP0
    by_cases hjn : j < n ∧ j < 100
    · obtain ⟨hjn, hj200⟩ := hjn
      have hjI : (j : Int) < (n : Int) := by omega
      have hjJ : (j : Int) < 100 := by omega
      obtain ⟨hbel, B, fs, v, l, s, hT⟩ := HR.out
      have hA5 := HA.out.below hbel
      have hjx : j < xs.length := by rw [HA.out.ln]; exact hjn
      obtain ⟨g, off, ha, hg, hcs⟩ := hA5.at' (by omega)
      obtain ⟨q0, q1, q2, q3, q4, q5⟩ := hcs j hjx
      subst ha
      have HAc := hid (lact_any (HE.out.below hbel HEn.out) HEn.out hT xs[j] (hA5.ok _ (List.getElem_mem hjx)) (by omega))
      have HH := hid (And.intro hbel hT)
      clear hbel hT hA5 hcs hg HR
      generalize xs[j] = xx at *
      obtain ⟨K, SS, zo, zc, zb, N, M, yo, yn, yc, zs⟩ := xx
      dsimp only at q0 q1 q2 q3 q4 q5
      go_wp2_with fail
      refine HAc.out.mono ?_
      rintro e w6 ⟨rfl, fs', v', l', hT6, hS6⟩
      obtain ⟨hbel, hT⟩ := HH.out
      have HN : Hid (AP w.heap.size w d x (j + 1) w6) := hid ⟨hbel.trans (hT.bel hS6), B, fs', v', l', _, hT6.mono (by omega)⟩
      clear hbel hT hT6 hS6 HAc HH q0 q1 q2 q3 q4 q5
      go_wp2_with fail
      exact ⟨⟨j + 1, by go_num, by omega, by omega, HN.out⟩, by simp [intOf]; omega⟩
    · obtain ⟨hbel, B, fs, v, l, s, hT⟩ := HR.out
      have hb2 := HBB.out.1.kxA (L := fun g => w.heap.size ≤ g) ⟨hbel.os, hbel.tape, hbel.output, hbel.size, fun g hg hn => hbel.block g (by omega)⟩ (fun p e e2 => by have := HBB.out.2 p e; omega)
      have hk2 := HKS.out.1.kxA (L := fun g => w.heap.size ≤ g) ⟨hbel.os, hbel.tape, hbel.output, hbel.size, fun g hg hn => hbel.block g (by omega)⟩ (fun p e e2 => by have := HKS.out.2 p e; omega)
      have hbk : Kp bo bb.length wr d B fs := ⟨fun p e => Nat.lt_of_lt_of_le (HBB.out.2 p e) hbel.size, fun p e e2 => by have := HBB.out.2 p e; have := (hT.dk.lt _ e2).1; omega⟩
      have hlk : Kp lo ln wr d B fs := ⟨fun p e => Nat.lt_of_lt_of_le (HKS.out.2 p e) hbel.size, fun p e e2 => by have := HKS.out.2 p e; have := (hT.dk.lt _ e2).1; omega⟩
      have HS3 := hid (dkstart_ok hT.dk (by omega) (ko := none) (kn := 0) (kc := 0) (ks := []) ⟨rfl, Nat.le_refl _, by simp, fun _ => rfl, fun h => absurd h (by omega)⟩ (fun a e => absurd e.2 (by omega)))
      have hD := hT.dk
      have hsk := hT.sk
      have hpd := hT.pd
      have haI := hT.ahI
      have hpI := hT.paI
      have HD0 := hid (And.intro hbel (And.intro hD (And.intro hsk (And.intro hpd (And.intro haI hpI)))))
      have HB0 := hid (And.intro hb2 (And.intro hk2 (And.intro hbk hlk)))
      clear hbel hT hb2 hk2 hbk hlk hD hsk hpd haI hpI HR
      have hcase : (j < n ∧ ¬ (j : Int) < 100) ∨ ¬ j < n := by omega
      rcases hcase with ⟨hjn1, hj200⟩ | hjn1
      · have hjI : (j : Int) < (n : Int) := by omega
        have hkd : decide ((j : Int) < 100) = false := by simpa using hj200
        go_wp2_with fail
        refine HS3.out.mono ?_
        rintro e w3 ⟨rfl, f3, p3, h3, s3⟩
        obtain ⟨hbel, hD, hsk, hpd, haI, hpI⟩ := HD0.out
        obtain ⟨hb2, hk2, hbk, hlk⟩ := HB0.out
        have hall : AllS (f3.map pl) := by rw [p3, hpd]; exact start_all hsk
        have hbel3 := hbel.trans (hD.bel s3)
        have hb3 := hb2.kxA s3.kx hbk.no
        have hk3 := hk2.kxA s3.kx hlk.no
        have hbk3 := hbk.stp s3
        have hlk3 := hlk.stp s3
        have HRd := hid (dkread_ok h3 (by omega) S hS9)
        have H3 := hid (And.intro h3 (And.intro hall (And.intro hbel3 (And.intro hb3 (And.intro hk3 (And.intro hbk3 (And.intro hlk3 (And.intro haI hpI))))))))
        clear hbel hD hsk hpd haI hpI hb2 hk2 hbk hlk hall hbel3 hb3 hk3 hbk3 hlk3 h3 s3 p3 HS3 HD0 HB0
        go_wp2_with fail
        refine HRd.out.mono ?_
        rintro e w4 ⟨o1, n1, c1, rfl, hrow, hb4⟩
        obtain ⟨h3, hall, hbel3, hb3, hk3, hbk3, hlk3, haI, hpI⟩ := H3.out
        have h4 := h3.below hb4
        have hbel4 := hbel3.trans (hb4.mono hbel3.size)
        have hw4 := Has.of_owned hrow
        have hwk4 : Kp o1 n1 w4 d B f3 := by
          refine ⟨fun a e => ?_, fun a e e2 => ?_⟩
          · obtain ⟨e, _⟩ := e
            subst e
            rcases hrow.2 with ⟨e3, _⟩ | ⟨g, cap, cur, e3, hg, hq, _⟩
            · cases e3
            · cases e3
              exact node_lt hq
          · obtain ⟨e, _⟩ := e
            subst e
            have := (h3.lt _ e2).2
            rcases hrow.2 with ⟨e3, _⟩ | ⟨g, cap, cur, e3, hg, hq, _⟩
            · cases e3
            · cases e3
              dsimp only at this
              omega
        have hb4' := hb3.below hb4
        have hk4' := hk3.kxA (L := fun _ => False) (.below hb4) (fun _ _ e => e)
        have hbk4 : Kp bo bb.length w4 d B f3 := ⟨fun a e => Nat.lt_of_lt_of_le (hbk3.lt a e) hb4.size, hbk3.no⟩
        have hlk4 : Kp lo ln w4 d B f3 := ⟨fun a e => Nat.lt_of_lt_of_le (hlk3.lt a e) hb4.size, hlk3.no⟩
        have H4 := hid (And.intro h4 (And.intro hbel4 (And.intro hw4 (And.intro hwk4 (And.intro hb4' (And.intro hk4' (And.intro hbk4 hlk4)))))))
        have HAll := hid hall
        have HI := hid (And.intro haI hpI)
        clear hrow hb4 h3 hall hbel3 hb3 hk3 hbk3 hlk3 h4 hbel4 hw4 hwk4 hb4' hk4' hbk4 hlk4 HRd H3
        generalize hP1 : f3.map pl = P1 at *
        cases cut
        · have HPu := hid (dkput_ok H4.out.1 HI.out.2 HI.out.1 (fun e => by cases e) S hS9 (by omega) H4.out.2.2.2.2.1 H4.out.2.2.2.2.2.2.1.no)
          rw [hP1] at HPu
          by_cases hn : nmS S = true
          · rw [putR_plain hn] at HPu
            go_wp2_with fail
            refine HPu.out.mono ?_
            rintro e w6 ⟨rfl, f6, p6, h6, s6⟩
            obtain ⟨h4, hbel4, hw4, hwk4, hb4, hk4, hbk4, hlk4⟩ := H4.out
            have hbel6 := hbel4.trans (h4.bel s6)
            have H6 := hid (And.intro h6 (And.intro hbel6 (And.intro (hw4.kxA s6.kx hwk4.no) (And.intro (hwk4.stp s6) (And.intro (hb4.kxA s6.kx hbk4.no) (And.intro (hk4.kxA s6.kx hlk4.no) (And.intro (hbk4.stp s6) (hlk4.stp s6))))))))
            have HEw := hid (HE.out.below hbel6 HEn.out)
            clear h4 hbel4 hw4 hwk4 hb4 hk4 hbk4 hlk4 s6 hbel6 HPu H4
            dsimp only at h6 p6
            have HC := hid (code_ev 0 w6 HEw.out)
            rw [show evV 0 = .nilIface from rfl] at HC ⊢
            have H6' := hid (And.intro h6 p6)
            clear h6 p6
            go_wp2_with fail
            refine HC.out.mono ?_
            rintro e w7 ⟨rfl, hb7⟩
            obtain ⟨h6, hbel6, hw6, hwk6, hb6, hk6, hbk6, hlk6⟩ := H6.out
            have h7 := h6.below hb7
            have hbel7 := hbel6.trans (hb7.mono hbel6.size)
            have HSt := hid (dkstart_ok h7 (by omega) (hk6.kxA (L := fun _ => False) (.below hb7) (fun _ _ e => e)) hlk6.no)
            rw [show f6.map pl = setA P1 ⟨S.data.toList, bb, bb.length⟩ from H6'.out.2, startL_all (setA_all HAll.out _ _)] at HSt
            have H7 := hid (And.intro h7 (And.intro hbel7 (And.intro (hw6.below hb7) (And.intro (⟨fun a e => Nat.lt_of_lt_of_le (hwk6.lt a e) hb7.size, hwk6.no⟩ : Kp o1 n1 w7 d B f6) (And.intro (hb6.below hb7) (⟨fun a e => Nat.lt_of_lt_of_le (hbk6.lt a e) hb7.size, hbk6.no⟩ : Kp bo bb.length w7 d B f6))))))
            clear h6 hbel6 hw6 hwk6 hb6 hk6 hbk6 hlk6 hb7 h7 hbel7 HC H6 H6' HEw
            go_wp2_with fail
            refine HSt.out.mono ?_
            rintro e w8 ⟨rfl, f8, p8, h8, s8⟩
            obtain ⟨h7, hbel7, hw7, hwk7, hb7, hbk7⟩ := H7.out
            have hbel8 := hbel7.trans (h7.bel s8)
            have HRd := hid (dkread_ok h8 (by omega) S hS9)
            rw [p8, (read_setA P1 S bb bb.length hn).1, (read_setA P1 S bb bb.length hn).2] at HRd
            have H8 := hid (And.intro hbel8 (And.intro (hw7.kxA s8.kx hwk7.no) (hb7.kxA s8.kx hbk7.no)))
            clear h7 hbel7 hw7 hwk7 hb7 hbk7 hbel8 h8 s8 p8 HSt H7
            go_wp2_with fail
            refine HRd.out.mono ?_
            rintro e w9 ⟨o2, n2, c2, rfl, hrow, hb9⟩
            obtain ⟨hbel8, hw8, hb8⟩ := H8.out
            have hbel9 := hbel8.trans (hb9.mono hbel8.size)
            have hw9 := hw8.below hb9
            have hb9' := hb8.below hb9
            have hg9 := Has.of_owned hrow
            clear hbel8 hw8 hb8 hb9 hrow H8 HRd
            have cv1 := hg9.conv
            have cv2 := hb9'.conv
            have HF := hid hbel9
            rw [show evV 0 = .nilIface from rfl]
            clear hbel9 hw9 hb9' hg9
            generalize bs bb = BB at *
            go_wp2_with fail
            go_ret
            exact ⟨rfl, HF.out⟩
          · have hn' : nmS S = false := by simpa using hn
            rw [(putR_bad (P := P1) hn').1] at HPu
            rw [(putR_bad (P := P1) (arm := false) (ah := 0) (pa := 0) (b := []) hn').2] at ⊢
            go_wp2_with fail
            refine HPu.out.mono ?_
            rintro e w6 ⟨rfl, f6, p6, h6, s6⟩
            obtain ⟨h4, hbel4, hw4, hwk4, hb4, hk4, hbk4, hlk4⟩ := H4.out
            have hbel6 := hbel4.trans (h4.bel s6)
            have H6 := hid (And.intro h6 (And.intro hbel6 (And.intro (hw4.kxA s6.kx hwk4.no) (And.intro (hwk4.stp s6) (And.intro (hb4.kxA s6.kx hbk4.no) (And.intro (hk4.kxA s6.kx hlk4.no) (And.intro (hbk4.stp s6) (hlk4.stp s6))))))))
            have HEw := hid (HE.out.below hbel6 HEn.out)
            clear h4 hbel4 hw4 hwk4 hb4 hk4 hbk4 hlk4 s6 hbel6 HPu H4
            dsimp only at h6 p6
            have HC := hid (code_ev 1 w6 HEw.out)
            rw [show evV 1 = .iface 51 (.int .i64 1) from rfl] at HC ⊢
            clear h6 p6
            go_wp2_with fail
            refine HC.out.mono ?_
            rintro e w7 ⟨rfl, hb7⟩
            have hbel7 := H6.out.2.1.trans (hb7.mono H6.out.2.1.size)
            have HC2 := hid (code_ev 1 w7 (HE.out.below hbel7 HEn.out))
            rw [show evV 1 = .iface 51 (.int .i64 1) from rfl] at HC2
            have HF := hid hbel7
            clear hb7 hbel7 HC
            go_wp2_with fail
            refine HC2.out.mono ?_
            rintro e w8 ⟨rfl, hb8⟩
            have HF2 := hid (HF.out.trans (hb8.mono HF.out.size))
            clear hb8
            go_wp2_with fail
            go_ret
            exact ⟨rfl, HF2.out⟩
        · have HAr := hid (arm_ok H4.out.1 0 part)
          go_wp2_with fail
          refine HAr.out.mono ?_
          rintro e w5 ⟨rfl, h5, s5⟩
          obtain ⟨h4, hbel4, hw4, hwk4, hb4, hk4, hbk4, hlk4⟩ := H4.out
          have hbel5 := hbel4.trans (h4.bel s5)
          have H5 := hid (And.intro h5 (And.intro hbel5 (And.intro (hw4.kxA s5.kx hwk4.no) (And.intro (hwk4.stp s5) (And.intro (hb4.kxA s5.kx hbk4.no) (And.intro (hk4.kxA s5.kx hlk4.no) (And.intro (hbk4.stp s5) (hlk4.stp s5))))))))
          clear h4 hbel4 hw4 hwk4 hb4 hk4 hbk4 hlk4 h5 s5 hbel5 HAr H4
          have H4 := H5
          clear H5
          have HPu := hid (dkput_ok H4.out.1 hpart (by unfold inI; omega) (fun _ => by omega) S hS9 (by omega) H4.out.2.2.2.2.1 H4.out.2.2.2.2.2.2.1.no)
          rw [hP1, show decide ((0 : Int) ≤ 0) = true from rfl] at HPu
          by_cases hn : nmS S = true
          · rw [putR_cut hn] at HPu
            by_cases hset : (part % (((1 : Nat) : Int) + 1)).toNat = 1
            · rw [if_pos hset] at HPu
              go_wp2_with fail
              refine HPu.out.mono ?_
              rintro e w6 ⟨rfl, f6, p6, h6, s6⟩
              obtain ⟨h4, hbel4, hw4, hwk4, hb4, hk4, hbk4, hlk4⟩ := H4.out
              have hbel6 := hbel4.trans (h4.bel s6)
              have H6 := hid (And.intro h6 (And.intro hbel6 (And.intro (hw4.kxA s6.kx hwk4.no) (And.intro (hwk4.stp s6) (And.intro (hb4.kxA s6.kx hbk4.no) (And.intro (hk4.kxA s6.kx hlk4.no) (And.intro (hbk4.stp s6) (hlk4.stp s6))))))))
              have HEw := hid (HE.out.below hbel6 HEn.out)
              clear h4 hbel4 hw4 hwk4 hb4 hk4 hbk4 hlk4 s6 hbel6 HPu H4
              dsimp only at h6 p6
              have HC := hid (code_ev 80 w6 HEw.out)
              rw [show evV 80 = .iface 51 (.int .i64 80) from rfl] at HC ⊢
              have H6' := hid (And.intro h6 p6)
              clear h6 p6
              go_wp2_with fail
              refine HC.out.mono ?_
              rintro e w7 ⟨rfl, hb7⟩
              obtain ⟨h6, hbel6, hw6, hwk6, hb6, hk6, hbk6, hlk6⟩ := H6.out
              have h7 := h6.below hb7
              have hbel7 := hbel6.trans (hb7.mono hbel6.size)
              have HSt := hid (dkstart_ok h7 (by omega) (hk6.kxA (L := fun _ => False) (.below hb7) (fun _ _ e => e)) hlk6.no)
              rw [show f6.map pl = setA P1 ⟨S.data.toList, bb, bb.length⟩ from H6'.out.2, startL_all (setA_all HAll.out _ _)] at HSt
              have H7 := hid (And.intro h7 (And.intro hbel7 (And.intro (hw6.below hb7) (And.intro (⟨fun a e => Nat.lt_of_lt_of_le (hwk6.lt a e) hb7.size, hwk6.no⟩ : Kp o1 n1 w7 d B f6) (And.intro (hb6.below hb7) (⟨fun a e => Nat.lt_of_lt_of_le (hbk6.lt a e) hb7.size, hbk6.no⟩ : Kp bo bb.length w7 d B f6))))))
              clear h6 hbel6 hw6 hwk6 hb6 hk6 hbk6 hlk6 hb7 h7 hbel7 HC H6 H6' HEw
              go_wp2_with fail
              refine HSt.out.mono ?_
              rintro e w8 ⟨rfl, f8, p8, h8, s8⟩
              obtain ⟨h7, hbel7, hw7, hwk7, hb7, hbk7⟩ := H7.out
              have hbel8 := hbel7.trans (h7.bel s8)
              have HRd := hid (dkread_ok h8 (by omega) S hS9)
              rw [p8, (read_setA P1 S bb bb.length hn).1, (read_setA P1 S bb bb.length hn).2] at HRd
              have H8 := hid (And.intro hbel8 (And.intro (hw7.kxA s8.kx hwk7.no) (hb7.kxA s8.kx hbk7.no)))
              clear h7 hbel7 hw7 hwk7 hb7 hbk7 hbel8 h8 s8 p8 HSt H7
              go_wp2_with fail
              refine HRd.out.mono ?_
              rintro e w9 ⟨o2, n2, c2, rfl, hrow, hb9⟩
              obtain ⟨hbel8, hw8, hb8⟩ := H8.out
              have hbel9 := hbel8.trans (hb9.mono hbel8.size)
              have hw9 := hw8.below hb9
              have hb9' := hb8.below hb9
              have hg9 := Has.of_owned hrow
              clear hbel8 hw8 hb8 hb9 hrow H8 HRd
              have cv1 := hg9.conv
              have cv2 := hb9'.conv
              have HF := hid hbel9
              rw [show evV 0 = .nilIface from rfl]
              clear hbel9 hw9 hb9' hg9
              generalize bs bb = BB at *
              go_wp2_with fail
              go_ret
              exact ⟨rfl, HF.out⟩
            · rw [if_neg hset] at HPu
              go_wp2_with fail
              refine HPu.out.mono ?_
              rintro e w6 ⟨rfl, f6, p6, h6, s6⟩
              obtain ⟨h4, hbel4, hw4, hwk4, hb4, hk4, hbk4, hlk4⟩ := H4.out
              have hbel6 := hbel4.trans (h4.bel s6)
              have H6 := hid (And.intro h6 (And.intro hbel6 (And.intro (hw4.kxA s6.kx hwk4.no) (And.intro (hwk4.stp s6) (And.intro (hb4.kxA s6.kx hbk4.no) (And.intro (hk4.kxA s6.kx hlk4.no) (And.intro (hbk4.stp s6) (hlk4.stp s6))))))))
              have HEw := hid (HE.out.below hbel6 HEn.out)
              clear h4 hbel4 hw4 hwk4 hb4 hk4 hbk4 hlk4 s6 hbel6 HPu H4
              dsimp only at h6 p6
              have HC := hid (code_ev 80 w6 HEw.out)
              rw [show evV 80 = .iface 51 (.int .i64 80) from rfl] at HC ⊢
              have H6' := hid (And.intro h6 p6)
              clear h6 p6
              go_wp2_with fail
              refine HC.out.mono ?_
              rintro e w7 ⟨rfl, hb7⟩
              obtain ⟨h6, hbel6, hw6, hwk6, hb6, hk6, hbk6, hlk6⟩ := H6.out
              have h7 := h6.below hb7
              have hbel7 := hbel6.trans (hb7.mono hbel6.size)
              have HSt := hid (dkstart_ok h7 (by omega) (hk6.kxA (L := fun _ => False) (.below hb7) (fun _ _ e => e)) hlk6.no)
              rw [show f6.map pl = P1 from H6'.out.2, startL_all HAll.out] at HSt
              have H7 := hid (And.intro h7 (And.intro hbel7 (And.intro (hw6.below hb7) (And.intro (⟨fun a e => Nat.lt_of_lt_of_le (hwk6.lt a e) hb7.size, hwk6.no⟩ : Kp o1 n1 w7 d B f6) (And.intro (hb6.below hb7) (⟨fun a e => Nat.lt_of_lt_of_le (hbk6.lt a e) hb7.size, hbk6.no⟩ : Kp bo bb.length w7 d B f6))))))
              clear h6 hbel6 hw6 hwk6 hb6 hk6 hbk6 hlk6 hb7 h7 hbel7 HC H6 H6' HEw
              go_wp2_with fail
              refine HSt.out.mono ?_
              rintro e w8 ⟨rfl, f8, p8, h8, s8⟩
              obtain ⟨h7, hbel7, hw7, hwk7, hb7, hbk7⟩ := H7.out
              have hbel8 := hbel7.trans (h7.bel s8)
              have HRd := hid (dkread_ok h8 (by omega) S hS9)
              rw [p8] at HRd
              have H8 := hid (And.intro hbel8 (And.intro (hw7.kxA s8.kx hwk7.no) (hb7.kxA s8.kx hbk7.no)))
              clear h7 hbel7 hw7 hwk7 hb7 hbk7 hbel8 h8 s8 p8 HSt H7
              go_wp2_with fail
              refine HRd.out.mono ?_
              rintro e w9 ⟨o2, n2, c2, rfl, hrow, hb9⟩
              obtain ⟨hbel8, hw8, hb8⟩ := H8.out
              have hbel9 := hbel8.trans (hb9.mono hbel8.size)
              have hw9 := hw8.below hb9
              have hb9' := hb8.below hb9
              have hg9 := Has.of_owned hrow
              clear hbel8 hw8 hb8 hb9 hrow H8 HRd
              have cv1 := hg9.conv
              have cv2 := hb9'.conv
              have HF := hid hbel9
              have HG := hid hg9
              have HW := hid hw9
              have HCa := hid (code_ev (fiP false S P1) w9 (HE.out.below hbel9 HEn.out))
              clear hbel9 hw9 hb9' hg9
              rcases fiP_two (P := P1) hn with hf | hf
              · rw [hf] at HCa ⊢
                rw [show evV 0 = .nilIface from rfl] at HCa ⊢
                by_cases hw : bs (readB false S P1) = bs bb
                · rw [hw] at cv1
                  generalize bs bb = BB at *
                  go_wp2_with fail
                  go_ret
                  exact ⟨rfl, HF.out⟩
                · have a1 : ((bs (readB false S P1)).toList == (bs bb).toList) = false := by
                    rw [Go.ByteArray.toList_eq, Go.ByteArray.toList_eq]
                    refine beq_eq_false_iff_ne.2 fun e => hw ?_
                    apply ByteArray.ext
                    exact Array.toList_inj.1 e
                  generalize bs bb = BB at *
                  generalize hbw : bs (readB false S P1) = BW at *
                  go_wp2_with fail
                  refine HCa.out.mono ?_
                  rintro e wA ⟨rfl, hbA⟩
                  have hbelA := HF.out.trans (hbA.mono HF.out.size)
                  have HCb := hid (code_ev 0 wA (HE.out.below hbelA HEn.out))
                  rw [show evV 0 = .nilIface from rfl] at HCb
                  have HFA := hid hbelA
                  have HGA := hid (HG.out.below hbA)
                  have HWA := hid (HW.out.below hbA)
                  clear hbA hbelA HCa HF HG HW cv1 cv2
                  go_wp2_with fail
                  refine HCb.out.mono ?_
                  rintro e wB ⟨rfl, hbB⟩
                  have HFB := hid (HFA.out.trans (hbB.mono HFA.out.size))
                  have cv1 := (HGA.out.below hbB).conv
                  have cv2 := (HWA.out.below hbB).conv
                  rw [hbw] at cv1 cv2
                  clear hbB HCb HFA HGA HWA
                  go_wp2_with fail
                  go_ret
                  exact ⟨rfl, HFB.out⟩
              · rw [hf] at HCa ⊢
                rw [show evV 81 = .iface 51 (.int .i64 81) from rfl] at HCa ⊢
                generalize bs bb = BB at *
                generalize hbw : bs (readB false S P1) = BW at *
                go_wp2_with fail
                refine HCa.out.mono ?_
                rintro e wA ⟨rfl, hbA⟩
                have hbelA := HF.out.trans (hbA.mono HF.out.size)
                have HCb := hid (code_ev 81 wA (HE.out.below hbelA HEn.out))
                rw [show evV 81 = .iface 51 (.int .i64 81) from rfl] at HCb
                have HFA := hid hbelA
                have HGA := hid (HG.out.below hbA)
                have HWA := hid (HW.out.below hbA)
                clear hbA hbelA HCa HF HG HW cv1 cv2
                go_wp2_with fail
                refine HCb.out.mono ?_
                rintro e wB ⟨rfl, hbB⟩
                have HFB := hid (HFA.out.trans (hbB.mono HFA.out.size))
                have cv1 := (HGA.out.below hbB).conv
                have cv2 := (HWA.out.below hbB).conv
                rw [hbw] at cv1 cv2
                clear hbB HCb HFA HGA HWA
                go_wp2_with fail
                go_ret
                exact ⟨rfl, HFB.out⟩
          · have hn' : nmS S = false := by simpa using hn
            rw [(putR_bad (P := P1) hn').1] at HPu
            rw [(putR_bad (P := P1) (arm := false) (ah := 0) (pa := 0) (b := []) hn').2] at ⊢
            go_wp2_with fail
            refine HPu.out.mono ?_
            rintro e w6 ⟨rfl, f6, p6, h6, s6⟩
            obtain ⟨h4, hbel4, hw4, hwk4, hb4, hk4, hbk4, hlk4⟩ := H4.out
            have hbel6 := hbel4.trans (h4.bel s6)
            have H6 := hid (And.intro h6 (And.intro hbel6 (And.intro (hw4.kxA s6.kx hwk4.no) (And.intro (hwk4.stp s6) (And.intro (hb4.kxA s6.kx hbk4.no) (And.intro (hk4.kxA s6.kx hlk4.no) (And.intro (hbk4.stp s6) (hlk4.stp s6))))))))
            have HEw := hid (HE.out.below hbel6 HEn.out)
            clear h4 hbel4 hw4 hwk4 hb4 hk4 hbk4 hlk4 s6 hbel6 HPu H4
            dsimp only at h6 p6
            have HC := hid (code_ev 1 w6 HEw.out)
            rw [show evV 1 = .iface 51 (.int .i64 1) from rfl] at HC ⊢
            clear h6 p6
            go_wp2_with fail
            refine HC.out.mono ?_
            rintro e w7 ⟨rfl, hb7⟩
            have hbel7 := H6.out.2.1.trans (hb7.mono H6.out.2.1.size)
            have HC2 := hid (code_ev 1 w7 (HE.out.below hbel7 HEn.out))
            rw [show evV 1 = .iface 51 (.int .i64 1) from rfl] at HC2
            have HF := hid hbel7
            clear hb7 hbel7 HC
            go_wp2_with fail
            refine HC2.out.mono ?_
            rintro e w8 ⟨rfl, hb8⟩
            have HF2 := hid (HF.out.trans (hb8.mono HF.out.size))
            clear hb8
            go_wp2_with fail
            go_ret
            exact ⟨rfl, HF2.out⟩
      · have hjI : ¬ (j : Int) < (n : Int) := by omega
        have hkd : decide ((j : Int) < (n : Int)) = false := by simpa using hjI
        have hkd2 : decide (j < n) = false := by simpa using hjn1
        go_wp2_with fail
        refine HS3.out.mono ?_
        rintro e w3 ⟨rfl, f3, p3, h3, s3⟩
        obtain ⟨hbel, hD, hsk, hpd, haI, hpI⟩ := HD0.out
        obtain ⟨hb2, hk2, hbk, hlk⟩ := HB0.out
        have hall : AllS (f3.map pl) := by rw [p3, hpd]; exact start_all hsk
        have hbel3 := hbel.trans (hD.bel s3)
        have hb3 := hb2.kxA s3.kx hbk.no
        have hk3 := hk2.kxA s3.kx hlk.no
        have hbk3 := hbk.stp s3
        have hlk3 := hlk.stp s3
        have HRd := hid (dkread_ok h3 (by omega) S hS9)
        have H3 := hid (And.intro h3 (And.intro hall (And.intro hbel3 (And.intro hb3 (And.intro hk3 (And.intro hbk3 (And.intro hlk3 (And.intro haI hpI))))))))
        clear hbel hD hsk hpd haI hpI hb2 hk2 hbk hlk hall hbel3 hb3 hk3 hbk3 hlk3 h3 s3 p3 HS3 HD0 HB0
        go_wp2_with fail
        refine HRd.out.mono ?_
        rintro e w4 ⟨o1, n1, c1, rfl, hrow, hb4⟩
        obtain ⟨h3, hall, hbel3, hb3, hk3, hbk3, hlk3, haI, hpI⟩ := H3.out
        have h4 := h3.below hb4
        have hbel4 := hbel3.trans (hb4.mono hbel3.size)
        have hw4 := Has.of_owned hrow
        have hwk4 : Kp o1 n1 w4 d B f3 := by
          refine ⟨fun a e => ?_, fun a e e2 => ?_⟩
          · obtain ⟨e, _⟩ := e
            subst e
            rcases hrow.2 with ⟨e3, _⟩ | ⟨g, cap, cur, e3, hg, hq, _⟩
            · cases e3
            · cases e3
              exact node_lt hq
          · obtain ⟨e, _⟩ := e
            subst e
            have := (h3.lt _ e2).2
            rcases hrow.2 with ⟨e3, _⟩ | ⟨g, cap, cur, e3, hg, hq, _⟩
            · cases e3
            · cases e3
              dsimp only at this
              omega
        have hb4' := hb3.below hb4
        have hk4' := hk3.kxA (L := fun _ => False) (.below hb4) (fun _ _ e => e)
        have hbk4 : Kp bo bb.length w4 d B f3 := ⟨fun a e => Nat.lt_of_lt_of_le (hbk3.lt a e) hb4.size, hbk3.no⟩
        have hlk4 : Kp lo ln w4 d B f3 := ⟨fun a e => Nat.lt_of_lt_of_le (hlk3.lt a e) hb4.size, hlk3.no⟩
        have H4 := hid (And.intro h4 (And.intro hbel4 (And.intro hw4 (And.intro hwk4 (And.intro hb4' (And.intro hk4' (And.intro hbk4 hlk4)))))))
        have HAll := hid hall
        have HI := hid (And.intro haI hpI)
        clear hrow hb4 h3 hall hbel3 hb3 hk3 hbk3 hlk3 h4 hbel4 hw4 hwk4 hb4' hk4' hbk4 hlk4 HRd H3
        generalize hP1 : f3.map pl = P1 at *
        cases cut
        · have HPu := hid (dkput_ok H4.out.1 HI.out.2 HI.out.1 (fun e => by cases e) S hS9 (by omega) H4.out.2.2.2.2.1 H4.out.2.2.2.2.2.2.1.no)
          rw [hP1] at HPu
          by_cases hn : nmS S = true
          · rw [putR_plain hn] at HPu
            go_wp2_with fail
            refine HPu.out.mono ?_
            rintro e w6 ⟨rfl, f6, p6, h6, s6⟩
            obtain ⟨h4, hbel4, hw4, hwk4, hb4, hk4, hbk4, hlk4⟩ := H4.out
            have hbel6 := hbel4.trans (h4.bel s6)
            have H6 := hid (And.intro h6 (And.intro hbel6 (And.intro (hw4.kxA s6.kx hwk4.no) (And.intro (hwk4.stp s6) (And.intro (hb4.kxA s6.kx hbk4.no) (And.intro (hk4.kxA s6.kx hlk4.no) (And.intro (hbk4.stp s6) (hlk4.stp s6))))))))
            have HEw := hid (HE.out.below hbel6 HEn.out)
            clear h4 hbel4 hw4 hwk4 hb4 hk4 hbk4 hlk4 s6 hbel6 HPu H4
            dsimp only at h6 p6
            have HC := hid (code_ev 0 w6 HEw.out)
            rw [show evV 0 = .nilIface from rfl] at HC ⊢
            have H6' := hid (And.intro h6 p6)
            clear h6 p6
            go_wp2_with fail
            refine HC.out.mono ?_
            rintro e w7 ⟨rfl, hb7⟩
            obtain ⟨h6, hbel6, hw6, hwk6, hb6, hk6, hbk6, hlk6⟩ := H6.out
            have h7 := h6.below hb7
            have hbel7 := hbel6.trans (hb7.mono hbel6.size)
            have HSt := hid (dkstart_ok h7 (by omega) (hk6.kxA (L := fun _ => False) (.below hb7) (fun _ _ e => e)) hlk6.no)
            rw [show f6.map pl = setA P1 ⟨S.data.toList, bb, bb.length⟩ from H6'.out.2, startL_all (setA_all HAll.out _ _)] at HSt
            have H7 := hid (And.intro h7 (And.intro hbel7 (And.intro (hw6.below hb7) (And.intro (⟨fun a e => Nat.lt_of_lt_of_le (hwk6.lt a e) hb7.size, hwk6.no⟩ : Kp o1 n1 w7 d B f6) (And.intro (hb6.below hb7) (⟨fun a e => Nat.lt_of_lt_of_le (hbk6.lt a e) hb7.size, hbk6.no⟩ : Kp bo bb.length w7 d B f6))))))
            clear h6 hbel6 hw6 hwk6 hb6 hk6 hbk6 hlk6 hb7 h7 hbel7 HC H6 H6' HEw
            go_wp2_with fail
            refine HSt.out.mono ?_
            rintro e w8 ⟨rfl, f8, p8, h8, s8⟩
            obtain ⟨h7, hbel7, hw7, hwk7, hb7, hbk7⟩ := H7.out
            have hbel8 := hbel7.trans (h7.bel s8)
            have HRd := hid (dkread_ok h8 (by omega) S hS9)
            rw [p8, (read_setA P1 S bb bb.length hn).1, (read_setA P1 S bb bb.length hn).2] at HRd
            have H8 := hid (And.intro hbel8 (And.intro (hw7.kxA s8.kx hwk7.no) (hb7.kxA s8.kx hbk7.no)))
            clear h7 hbel7 hw7 hwk7 hb7 hbk7 hbel8 h8 s8 p8 HSt H7
            go_wp2_with fail
            refine HRd.out.mono ?_
            rintro e w9 ⟨o2, n2, c2, rfl, hrow, hb9⟩
            obtain ⟨hbel8, hw8, hb8⟩ := H8.out
            have hbel9 := hbel8.trans (hb9.mono hbel8.size)
            have hw9 := hw8.below hb9
            have hb9' := hb8.below hb9
            have hg9 := Has.of_owned hrow
            clear hbel8 hw8 hb8 hb9 hrow H8 HRd
            have cv1 := hg9.conv
            have cv2 := hb9'.conv
            have HF := hid hbel9
            rw [show evV 0 = .nilIface from rfl]
            clear hbel9 hw9 hb9' hg9
            generalize bs bb = BB at *
            go_wp2_with fail
            go_ret
            exact ⟨rfl, HF.out⟩
          · have hn' : nmS S = false := by simpa using hn
            rw [(putR_bad (P := P1) hn').1] at HPu
            rw [(putR_bad (P := P1) (arm := false) (ah := 0) (pa := 0) (b := []) hn').2] at ⊢
            go_wp2_with fail
            refine HPu.out.mono ?_
            rintro e w6 ⟨rfl, f6, p6, h6, s6⟩
            obtain ⟨h4, hbel4, hw4, hwk4, hb4, hk4, hbk4, hlk4⟩ := H4.out
            have hbel6 := hbel4.trans (h4.bel s6)
            have H6 := hid (And.intro h6 (And.intro hbel6 (And.intro (hw4.kxA s6.kx hwk4.no) (And.intro (hwk4.stp s6) (And.intro (hb4.kxA s6.kx hbk4.no) (And.intro (hk4.kxA s6.kx hlk4.no) (And.intro (hbk4.stp s6) (hlk4.stp s6))))))))
            have HEw := hid (HE.out.below hbel6 HEn.out)
            clear h4 hbel4 hw4 hwk4 hb4 hk4 hbk4 hlk4 s6 hbel6 HPu H4
            dsimp only at h6 p6
            have HC := hid (code_ev 1 w6 HEw.out)
            rw [show evV 1 = .iface 51 (.int .i64 1) from rfl] at HC ⊢
            clear h6 p6
            go_wp2_with fail
            refine HC.out.mono ?_
            rintro e w7 ⟨rfl, hb7⟩
            have hbel7 := H6.out.2.1.trans (hb7.mono H6.out.2.1.size)
            have HC2 := hid (code_ev 1 w7 (HE.out.below hbel7 HEn.out))
            rw [show evV 1 = .iface 51 (.int .i64 1) from rfl] at HC2
            have HF := hid hbel7
            clear hb7 hbel7 HC
            go_wp2_with fail
            refine HC2.out.mono ?_
            rintro e w8 ⟨rfl, hb8⟩
            have HF2 := hid (HF.out.trans (hb8.mono HF.out.size))
            clear hb8
            go_wp2_with fail
            go_ret
            exact ⟨rfl, HF2.out⟩
        · have HAr := hid (arm_ok H4.out.1 0 part)
          go_wp2_with fail
          refine HAr.out.mono ?_
          rintro e w5 ⟨rfl, h5, s5⟩
          obtain ⟨h4, hbel4, hw4, hwk4, hb4, hk4, hbk4, hlk4⟩ := H4.out
          have hbel5 := hbel4.trans (h4.bel s5)
          have H5 := hid (And.intro h5 (And.intro hbel5 (And.intro (hw4.kxA s5.kx hwk4.no) (And.intro (hwk4.stp s5) (And.intro (hb4.kxA s5.kx hbk4.no) (And.intro (hk4.kxA s5.kx hlk4.no) (And.intro (hbk4.stp s5) (hlk4.stp s5))))))))
          clear h4 hbel4 hw4 hwk4 hb4 hk4 hbk4 hlk4 h5 s5 hbel5 HAr H4
          have H4 := H5
          clear H5
          have HPu := hid (dkput_ok H4.out.1 hpart (by unfold inI; omega) (fun _ => by omega) S hS9 (by omega) H4.out.2.2.2.2.1 H4.out.2.2.2.2.2.2.1.no)
          rw [hP1, show decide ((0 : Int) ≤ 0) = true from rfl] at HPu
          by_cases hn : nmS S = true
          · rw [putR_cut hn] at HPu
            by_cases hset : (part % (((1 : Nat) : Int) + 1)).toNat = 1
            · rw [if_pos hset] at HPu
              go_wp2_with fail
              refine HPu.out.mono ?_
              rintro e w6 ⟨rfl, f6, p6, h6, s6⟩
              obtain ⟨h4, hbel4, hw4, hwk4, hb4, hk4, hbk4, hlk4⟩ := H4.out
              have hbel6 := hbel4.trans (h4.bel s6)
              have H6 := hid (And.intro h6 (And.intro hbel6 (And.intro (hw4.kxA s6.kx hwk4.no) (And.intro (hwk4.stp s6) (And.intro (hb4.kxA s6.kx hbk4.no) (And.intro (hk4.kxA s6.kx hlk4.no) (And.intro (hbk4.stp s6) (hlk4.stp s6))))))))
              have HEw := hid (HE.out.below hbel6 HEn.out)
              clear h4 hbel4 hw4 hwk4 hb4 hk4 hbk4 hlk4 s6 hbel6 HPu H4
              dsimp only at h6 p6
              have HC := hid (code_ev 80 w6 HEw.out)
              rw [show evV 80 = .iface 51 (.int .i64 80) from rfl] at HC ⊢
              have H6' := hid (And.intro h6 p6)
              clear h6 p6
              go_wp2_with fail
              refine HC.out.mono ?_
              rintro e w7 ⟨rfl, hb7⟩
              obtain ⟨h6, hbel6, hw6, hwk6, hb6, hk6, hbk6, hlk6⟩ := H6.out
              have h7 := h6.below hb7
              have hbel7 := hbel6.trans (hb7.mono hbel6.size)
              have HSt := hid (dkstart_ok h7 (by omega) (hk6.kxA (L := fun _ => False) (.below hb7) (fun _ _ e => e)) hlk6.no)
              rw [show f6.map pl = setA P1 ⟨S.data.toList, bb, bb.length⟩ from H6'.out.2, startL_all (setA_all HAll.out _ _)] at HSt
              have H7 := hid (And.intro h7 (And.intro hbel7 (And.intro (hw6.below hb7) (And.intro (⟨fun a e => Nat.lt_of_lt_of_le (hwk6.lt a e) hb7.size, hwk6.no⟩ : Kp o1 n1 w7 d B f6) (And.intro (hb6.below hb7) (⟨fun a e => Nat.lt_of_lt_of_le (hbk6.lt a e) hb7.size, hbk6.no⟩ : Kp bo bb.length w7 d B f6))))))
              clear h6 hbel6 hw6 hwk6 hb6 hk6 hbk6 hlk6 hb7 h7 hbel7 HC H6 H6' HEw
              go_wp2_with fail
              refine HSt.out.mono ?_
              rintro e w8 ⟨rfl, f8, p8, h8, s8⟩
              obtain ⟨h7, hbel7, hw7, hwk7, hb7, hbk7⟩ := H7.out
              have hbel8 := hbel7.trans (h7.bel s8)
              have HRd := hid (dkread_ok h8 (by omega) S hS9)
              rw [p8, (read_setA P1 S bb bb.length hn).1, (read_setA P1 S bb bb.length hn).2] at HRd
              have H8 := hid (And.intro hbel8 (And.intro (hw7.kxA s8.kx hwk7.no) (hb7.kxA s8.kx hbk7.no)))
              clear h7 hbel7 hw7 hwk7 hb7 hbk7 hbel8 h8 s8 p8 HSt H7
              go_wp2_with fail
              refine HRd.out.mono ?_
              rintro e w9 ⟨o2, n2, c2, rfl, hrow, hb9⟩
              obtain ⟨hbel8, hw8, hb8⟩ := H8.out
              have hbel9 := hbel8.trans (hb9.mono hbel8.size)
              have hw9 := hw8.below hb9
              have hb9' := hb8.below hb9
              have hg9 := Has.of_owned hrow
              clear hbel8 hw8 hb8 hb9 hrow H8 HRd
              have cv1 := hg9.conv
              have cv2 := hb9'.conv
              have HF := hid hbel9
              rw [show evV 0 = .nilIface from rfl]
              clear hbel9 hw9 hb9' hg9
              generalize bs bb = BB at *
              go_wp2_with fail
              go_ret
              exact ⟨rfl, HF.out⟩
            · rw [if_neg hset] at HPu
              go_wp2_with fail
              refine HPu.out.mono ?_
              rintro e w6 ⟨rfl, f6, p6, h6, s6⟩
              obtain ⟨h4, hbel4, hw4, hwk4, hb4, hk4, hbk4, hlk4⟩ := H4.out
              have hbel6 := hbel4.trans (h4.bel s6)
              have H6 := hid (And.intro h6 (And.intro hbel6 (And.intro (hw4.kxA s6.kx hwk4.no) (And.intro (hwk4.stp s6) (And.intro (hb4.kxA s6.kx hbk4.no) (And.intro (hk4.kxA s6.kx hlk4.no) (And.intro (hbk4.stp s6) (hlk4.stp s6))))))))
              have HEw := hid (HE.out.below hbel6 HEn.out)
              clear h4 hbel4 hw4 hwk4 hb4 hk4 hbk4 hlk4 s6 hbel6 HPu H4
              dsimp only at h6 p6
              have HC := hid (code_ev 80 w6 HEw.out)
              rw [show evV 80 = .iface 51 (.int .i64 80) from rfl] at HC ⊢
              have H6' := hid (And.intro h6 p6)
              clear h6 p6
              go_wp2_with fail
              refine HC.out.mono ?_
              rintro e w7 ⟨rfl, hb7⟩
              obtain ⟨h6, hbel6, hw6, hwk6, hb6, hk6, hbk6, hlk6⟩ := H6.out
              have h7 := h6.below hb7
              have hbel7 := hbel6.trans (hb7.mono hbel6.size)
              have HSt := hid (dkstart_ok h7 (by omega) (hk6.kxA (L := fun _ => False) (.below hb7) (fun _ _ e => e)) hlk6.no)
              rw [show f6.map pl = P1 from H6'.out.2, startL_all HAll.out] at HSt
              have H7 := hid (And.intro h7 (And.intro hbel7 (And.intro (hw6.below hb7) (And.intro (⟨fun a e => Nat.lt_of_lt_of_le (hwk6.lt a e) hb7.size, hwk6.no⟩ : Kp o1 n1 w7 d B f6) (And.intro (hb6.below hb7) (⟨fun a e => Nat.lt_of_lt_of_le (hbk6.lt a e) hb7.size, hbk6.no⟩ : Kp bo bb.length w7 d B f6))))))
              clear h6 hbel6 hw6 hwk6 hb6 hk6 hbk6 hlk6 hb7 h7 hbel7 HC H6 H6' HEw
              go_wp2_with fail
              refine HSt.out.mono ?_
              rintro e w8 ⟨rfl, f8, p8, h8, s8⟩
              obtain ⟨h7, hbel7, hw7, hwk7, hb7, hbk7⟩ := H7.out
              have hbel8 := hbel7.trans (h7.bel s8)
              have HRd := hid (dkread_ok h8 (by omega) S hS9)
              rw [p8] at HRd
              have H8 := hid (And.intro hbel8 (And.intro (hw7.kxA s8.kx hwk7.no) (hb7.kxA s8.kx hbk7.no)))
              clear h7 hbel7 hw7 hwk7 hb7 hbk7 hbel8 h8 s8 p8 HSt H7
              go_wp2_with fail
              refine HRd.out.mono ?_
              rintro e w9 ⟨o2, n2, c2, rfl, hrow, hb9⟩
              obtain ⟨hbel8, hw8, hb8⟩ := H8.out
              have hbel9 := hbel8.trans (hb9.mono hbel8.size)
              have hw9 := hw8.below hb9
              have hb9' := hb8.below hb9
              have hg9 := Has.of_owned hrow
              clear hbel8 hw8 hb8 hb9 hrow H8 HRd
              have cv1 := hg9.conv
              have cv2 := hb9'.conv
              have HF := hid hbel9
              have HG := hid hg9
              have HW := hid hw9
              have HCa := hid (code_ev (fiP false S P1) w9 (HE.out.below hbel9 HEn.out))
              clear hbel9 hw9 hb9' hg9
              rcases fiP_two (P := P1) hn with hf | hf
              · rw [hf] at HCa ⊢
                rw [show evV 0 = .nilIface from rfl] at HCa ⊢
                by_cases hw : bs (readB false S P1) = bs bb
                · rw [hw] at cv1
                  generalize bs bb = BB at *
                  go_wp2_with fail
                  go_ret
                  exact ⟨rfl, HF.out⟩
                · have a1 : ((bs (readB false S P1)).toList == (bs bb).toList) = false := by
                    rw [Go.ByteArray.toList_eq, Go.ByteArray.toList_eq]
                    refine beq_eq_false_iff_ne.2 fun e => hw ?_
                    apply ByteArray.ext
                    exact Array.toList_inj.1 e
                  generalize bs bb = BB at *
                  generalize hbw : bs (readB false S P1) = BW at *
                  go_wp2_with fail
                  refine HCa.out.mono ?_
                  rintro e wA ⟨rfl, hbA⟩
                  have hbelA := HF.out.trans (hbA.mono HF.out.size)
                  have HCb := hid (code_ev 0 wA (HE.out.below hbelA HEn.out))
                  rw [show evV 0 = .nilIface from rfl] at HCb
                  have HFA := hid hbelA
                  have HGA := hid (HG.out.below hbA)
                  have HWA := hid (HW.out.below hbA)
                  clear hbA hbelA HCa HF HG HW cv1 cv2
                  go_wp2_with fail
                  refine HCb.out.mono ?_
                  rintro e wB ⟨rfl, hbB⟩
                  have HFB := hid (HFA.out.trans (hbB.mono HFA.out.size))
                  have cv1 := (HGA.out.below hbB).conv
                  have cv2 := (HWA.out.below hbB).conv
                  rw [hbw] at cv1 cv2
                  clear hbB HCb HFA HGA HWA
                  go_wp2_with fail
                  go_ret
                  exact ⟨rfl, HFB.out⟩
              · rw [hf] at HCa ⊢
                rw [show evV 81 = .iface 51 (.int .i64 81) from rfl] at HCa ⊢
                generalize bs bb = BB at *
                generalize hbw : bs (readB false S P1) = BW at *
                go_wp2_with fail
                refine HCa.out.mono ?_
                rintro e wA ⟨rfl, hbA⟩
                have hbelA := HF.out.trans (hbA.mono HF.out.size)
                have HCb := hid (code_ev 81 wA (HE.out.below hbelA HEn.out))
                rw [show evV 81 = .iface 51 (.int .i64 81) from rfl] at HCb
                have HFA := hid hbelA
                have HGA := hid (HG.out.below hbA)
                have HWA := hid (HW.out.below hbA)
                clear hbA hbelA HCa HF HG HW cv1 cv2
                go_wp2_with fail
                refine HCb.out.mono ?_
                rintro e wB ⟨rfl, hbB⟩
                have HFB := hid (HFA.out.trans (hbB.mono HFA.out.size))
                have cv1 := (HGA.out.below hbB).conv
                have cv2 := (HWA.out.below hbB).conv
                rw [hbw] at cv1 cv2
                clear hbB HCb HFA HGA HWA
                go_wp2_with fail
                go_ret
                exact ⟨rfl, HFB.out⟩
          · have hn' : nmS S = false := by simpa using hn
            rw [(putR_bad (P := P1) hn').1] at HPu
            rw [(putR_bad (P := P1) (arm := false) (ah := 0) (pa := 0) (b := []) hn').2] at ⊢
            go_wp2_with fail
            refine HPu.out.mono ?_
            rintro e w6 ⟨rfl, f6, p6, h6, s6⟩
            obtain ⟨h4, hbel4, hw4, hwk4, hb4, hk4, hbk4, hlk4⟩ := H4.out
            have hbel6 := hbel4.trans (h4.bel s6)
            have H6 := hid (And.intro h6 (And.intro hbel6 (And.intro (hw4.kxA s6.kx hwk4.no) (And.intro (hwk4.stp s6) (And.intro (hb4.kxA s6.kx hbk4.no) (And.intro (hk4.kxA s6.kx hlk4.no) (And.intro (hbk4.stp s6) (hlk4.stp s6))))))))
            have HEw := hid (HE.out.below hbel6 HEn.out)
            clear h4 hbel4 hw4 hwk4 hb4 hk4 hbk4 hlk4 s6 hbel6 HPu H4
            dsimp only at h6 p6
            have HC := hid (code_ev 1 w6 HEw.out)
            rw [show evV 1 = .iface 51 (.int .i64 1) from rfl] at HC ⊢
            clear h6 p6
            go_wp2_with fail
            refine HC.out.mono ?_
            rintro e w7 ⟨rfl, hb7⟩
            have hbel7 := H6.out.2.1.trans (hb7.mono H6.out.2.1.size)
            have HC2 := hid (code_ev 1 w7 (HE.out.below hbel7 HEn.out))
            rw [show evV 1 = .iface 51 (.int .i64 1) from rfl] at HC2
            have HF := hid hbel7
            clear hb7 hbel7 HC
            go_wp2_with fail
            refine HC2.out.mono ?_
            rintro e w8 ⟨rfl, hb8⟩
            have HF2 := hid (HF.out.trans (hb8.mono HF.out.size))
            clear hb8
            go_wp2_with fail
            go_ret
            exact ⟨rfl, HF2.out⟩
end Go.Proofs.YtmddcdaodlnnhaaGreatDoor
