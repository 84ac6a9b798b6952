/-
  DiskPlays: a disk plays as the document's does. Conditions: those that each theorem names.
-/
import Derived.Test.YtmddcdaodlnnhaaGreatDoorVDLX0
namespace Go.Proofs.YtmddcdaodlnnhaaGreatDoor
open Go.RowKit Go.Maps
set_option linter.unusedVariables false
def SpJ (M : Nat) (w5 : World) (so : Option Addr) (cp : Nat) (ls : List Gx) (k : Nat) (wr : World) : Prop := Below M w5 wr ∧ (0 < ls.length → ∃ g, so = some ⟨g, 0, none⟩ ∧ SpI M w5 g cp ls k wr)
theorem SpJ.of {M : Nat} {w : World} {so : Option Addr} {cp : Nat} {ls : List Gx} (h : RowG M w (.slice so ls.length cp) ls) : SpJ M w so cp ls 0 w := by
  refine ⟨Below.refl _ _, fun h0 => ?_⟩
  have hw : ∀ x ∈ ls, Wb M w x := fun x hx => Wb.of (h.rep x hx).1
  obtain ⟨_, ⟨e, h1⟩ | ⟨g, cap, cur, e, hg, hq, hn, hm, hz, ht⟩⟩ := h.own
  · omega
  · obtain ⟨e1, e2, e3⟩ := Value.slice.inj e
    refine ⟨g, e1, Below.refl _ _, hg, ⟨cur, hq, by omega, fun j hj _ => ?_⟩, hw⟩
    have h2 : (cur.toList.take (ls.length * 3))[j * 3 + 1]? = some (.slice ls[j].o ls[j].k ls[j].c) := by rw [ht]; exact cl_at ls j hj 1 (by omega)
    rw [List.getElem?_take_of_lt (by omega)] at h2
    simpa using h2
theorem files_same {m T : Nat} {Z : World} {d x B : Nat} {fs : List Fx} {v : Value} {l : List Gx} {s : Sp} {xo : Option Addr} {xn xp : Nat} (h1 : Tw0 m T Z d x B fs v l s) (hv : v = .slice xo xn xp) (hT : T < 1099511627776) :
    Calls Tryz.prog 11 #[.pointer (some ⟨d, 0, none⟩)] Z fun e w' => ∃ (so2 : Option Addr) (n2 cp2 : Nat), e = .returned (.slice so2 n2 cp2) ∧ Below Z.heap.size Z w' ∧ Calls Tryz.prog 12 #[.slice so2 n2 cp2, .slice xo xn xp] w' fun e w' => e = .returned (.bool true) ∧ Below Z.heap.size Z w' := by
  refine (dkfiles_ok h1.dk hT).mono ?_
  rintro e w' ⟨vl2, ls2, rfl, hG, hpg, hb'⟩
  obtain ⟨so2, cp2, rfl, hC, _, _⟩ := hG.c
  have h2 := h1.below hb'
  obtain ⟨xo2, xp2, e2, hXC, _, _⟩ := h2.xd.row.c
  rw [hv] at e2
  obtain ⟨e3, e4, e5⟩ := Value.slice.inj e2
  subst e3 e4 e5
  refine ⟨so2, _, cp2, rfl, hb', (same_ok (cap := cp2) hC hXC (by rw [hpg, h1.pd, h2.px])).mono ?_⟩
  rintro e w'' ⟨rfl, hb''⟩
  exact ⟨rfl, hb'.trans (hb''.mono hb'.size)⟩
set_option maxRecDepth 100000 in
set_option maxHeartbeats 16000000 in
theorem plays_any {w : World} {a : Option Addr} {n cap : Nat} {xs : List Ax} (hE : ErrIs w) (hA : RowA w.heap.size w a n xs) :
    Calls Tryz.prog 3 #[.slice a n cap] w fun e w' => e = .returned (.bool true) ∧ Below w.heap.size w w' := by
  have HE := hid hE
  have HA := hid hA
  have HEn : Hid (0 < w.heap.size) := hE.lt
  have hnl : (n : Int) ≤ 9223372036854775807 := by have := hA.le; unfold maxLen at this; omega
  have HS := hid (small_ok w hE)
  clear hE hA
  go_enter Tryz.func3, Tryz.ntmps3
  go_wp2_with fail
  refine HS.out.mono ?_
  rintro e w1 ⟨rfl, hb1⟩
  have HN := hid (dknew_ok w.heap.size w1 hb1.size)
  have HB1 := hid hb1
  clear hb1 HS
  go_wp2_with fail
  refine HN.out.mono ?_
  rintro e w2 ⟨d, B, rfl, h2, hd2, hB2, hb2⟩
  have hs2 : w.heap.size ≤ w2.heap.size := Nat.le_trans HB1.out.size hb2.size
  have HX := hid (rdnew_ok w.heap.size w2 hs2)
  have HD := hid (And.intro h2 (And.intro hd2 (And.intro hB2 (And.intro (HB1.out.trans (hb2.mono HB1.out.size)) hs2))))
  clear hs2 h2 hd2 hB2 hb2 HN HB1
  go_wp2_with fail
  refine HX.out.mono ?_
  rintro e w3 ⟨rfl, h3, hb3⟩
  obtain ⟨h2, hd2, hB2, hb2, hs2⟩ := HD.out
  obtain ⟨x, hx⟩ : ∃ x, x = w2.heap.size := ⟨_, rfl⟩
  rw [← hx] at h3
  have HP0 : Hid (AP w.heap.size w d x 0 w3) := hid ⟨hb2.trans (hb3.mono hs2), B, [], _, [], ⟨[], false, false, 0, 0⟩, ⟨rfl, rfl, h2.below hb3, h3, fun g hg e => (by
    have := (h2.lt g hg).2
    rcases e with rfl | e | ⟨_, e, _⟩
    · omega
    · cases e
    · cases e), fun e => (by cases e), (by unfold inI; simp), (by unfold inI; simp)⟩⟩
  have HX2 := hid hx
  clear h2 hd2 hB2 hb2 hs2 h3 hb3 hx HX HD
  go_wp2_with fail
  rw [← HX2.out]
  clear HX2
  go_loopw [6] (fun i wr => ∃ j : Nat, i = .int .i64 (j : Int) ∧ j ≤ n ∧ j ≤ 200 ∧ Hid (AP w.heap.size w d x j wr)) (fun i _ => n - (intOf i).toNat)
  case atStart => exact ⟨0, rfl, Nat.zero_le _, Nat.zero_le _, HP0⟩
  case round =>
    obtain ⟨j, rfl, hj, hj2, HR⟩ := hrel
    clear HP0
    by_cases hjn : j < n ∧ j < 200
    · obtain ⟨hjn, hj200⟩ := hjn
      have hjI : (j : Int) < (n : Int) := by omega
      have hjJ : (j : Int) < 200 := by omega
      obtain ⟨hbel, B, fs, v, l, s, hT⟩ := HR.out
      have hA5 := HA.out.below hbel
      have hjx : j < xs.length := by rw [HA.out.ln]; exact hjn
      obtain ⟨g, off, ha, hg, hcs⟩ := hA5.at' (by omega)
      obtain ⟨q0, q1, q2, q3, q4, q5⟩ := hcs j hjx
      subst ha
      have HAc := hid (lact_any (HE.out.below hbel HEn.out) HEn.out hT xs[j] (hA5.ok _ (List.getElem_mem hjx)) (by omega))
      have HH := hid (And.intro hbel hT)
      clear hbel hT hA5 hcs hg HR
      generalize xs[j] = xx at *
      obtain ⟨K, SS, zo, zc, zb, N, M, yo, yn, yc, zs⟩ := xx
      dsimp only at q0 q1 q2 q3 q4 q5
      go_wp2_with fail
      refine HAc.out.mono ?_
      rintro e w4 ⟨rfl, fs', v', l', hT4, hS4⟩
      obtain ⟨hbel, hT⟩ := HH.out
      have hbel4 := hbel.trans (hT.bel hS4)
      have HF := hid (dkfiles_ok hT4.dk (by omega))
      obtain ⟨y0, y1, y2, y3⟩ := four_cells hT4.xd.blk
      have HT4 := hid (And.intro hT4 hbel4)
      generalize actS s _ = s' at *
      clear hbel hT hS4 HAc HH q0 q1 q2 q3 q4 q5 hT4 hbel4 y0 y1 y2 y3
      go_wp2_with fail
      refine HF.out.mono ?_
      rintro e w5 ⟨vl, ls, rfl, hG, hpg, hb5⟩
      obtain ⟨so, cp, rfl, hC, hle, _⟩ := hG.c
      obtain ⟨hT4, hbel4⟩ := HT4.out
      have hT5 := hT4.below hb5
      obtain ⟨y0, y1, y2, y3⟩ := four_cells hT5.xd.blk
      obtain ⟨xo, xp, hxv, hXC, _, _⟩ := hT5.xd.row.c
      subst hxv
      have HSm := hid (same_ok (cap := cp) (cap2 := xp) hC hXC (by rw [hpg, hT4.pd, hT4.px]))
      have HG := hid (And.intro hG (And.intro hb5 hC))
      clear hT4 hbel4 hT5 hXC hG hpg hb5 hC HF
      go_wp2_with fail
      refine HSm.out.mono ?_
      rintro e w6 ⟨rfl, hb6⟩
      obtain ⟨hG, hb5, hC⟩ := HG.out
      have hG6 := hG.below hb6
      have hs6 : w4.heap.size ≤ w6.heap.size := Nat.le_trans hb5.size hb6.size
      have HB6 : Hid (Below w4.heap.size w4 w6) := hid (hb5.trans (hb6.mono hb5.size))
      have HJ0 : Hid (SpJ w4.heap.size w6 so cp ls 0 w6) := hid (SpJ.of hG6)
      have hnl2 : (ls.length : Int) ≤ 9223372036854775807 := by have := hC.le; unfold maxLen at this; omega
      have HLe := hid hle
      clear hG hb5 hC hG6 hb6 HSm HG y0 y1 y2 y3 hle
      go_wp2_with fail
      go_loopw [10] (fun i wr => ∃ k : Nat, i = .int .i64 (k : Int) ∧ k ≤ ls.length ∧ Hid (SpJ w4.heap.size w6 so cp ls k wr)) (fun i _ => ls.length - (intOf i).toNat)
      case atStart => exact ⟨0, rfl, Nat.zero_le _, HJ0⟩
      case round =>
        obtain ⟨k, rfl, hk, HS⟩ := hrel
        clear HJ0
        by_cases hkn : k < ls.length
        · have hkI : (k : Int) < (ls.length : Int) := by omega
          obtain ⟨g2, hso, hSp⟩ := HS.out.2 (by omega)
          subst hso
          obtain ⟨cur, hr1, hr2, hr3⟩ := hSp.row
          have c1 := (cell_in hr1 (k * 3 + 1) _ (hr3 k hkn (Nat.le_refl _))).1
          have hg2 := node_lt hr1
          have hmg := hSp.mg
          obtain ⟨w7, hw7⟩ : ∃ w7, w7 = wr.alloc (.cells #[.slice ls[k].o ls[k].k ls[k].c] 29) := ⟨_, rfl⟩
          have hb7 : Below wr.heap.size wr w7 := by rw [hw7]; exact below_al _ _
          have hS7 := hSp.kx (by omega) hb7
          have q7 : w7.heap[wr.heap.size]? = some (.cells #[.slice ls[k].o ls[k].k ls[k].c] 29) := by rw [hw7]; exact new_block_at _ _ rfl
          have HOw := hid (hS7.own (List.getElem_mem hkn) (cell_in q7 0 _ rfl).1 (fun cur e => by
            rw [q7] at e
            have e9 := (Obj.cells.inj (Option.some.inj e)).2.1
            exact absurd e9 (by decide)))
          have HW7 := hid hw7
          clear hr1 hr2 hr3 hSp hw7 hb7 hS7 q7 HS
          generalize ls[k] = z at *
          obtain ⟨zn, zo, zk, zc, zb, zs⟩ := z
          dsimp only at c1 HOw HW7
          go_wp2_with fail
          rw [← HW7.out]
          refine HOw.out.mono ?_
          rintro e w8 ⟨rfl, hS8⟩
          obtain ⟨cur, hr1, hr2, hr3⟩ := hS8.row
          have hl3 : k * 3 + 2 < cur.size := by rw [hr2]; have := HLe.out; omega
          obtain ⟨v0, hv0⟩ : ∃ u, cur[k * 3]? = some u := ⟨_, Array.getElem?_eq_getElem (by omega)⟩
          obtain ⟨v1, hv1⟩ : ∃ u, cur[k * 3 + 1]? = some u := ⟨_, Array.getElem?_eq_getElem (by omega)⟩
          obtain ⟨v2, hv2⟩ : ∃ u, cur[k * 3 + 2]? = some u := ⟨_, Array.getElem?_eq_getElem (by omega)⟩
          obtain ⟨k0, f0⟩ := cell_in hr1 _ _ hv0
          obtain ⟨k1, f1⟩ := cell_in hr1 _ _ hv1
          obtain ⟨k2, f2⟩ := cell_in hr1 _ _ hv2
          have hg8 := node_lt hr1
          have HS8 := hid hS8
          clear hr1 hr2 hr3 hS8 hl3 hv0 hv1 hv2 HOw HW7 c1 hg2
          have HJ : Hid (SpJ w4.heap.size w6 (some ⟨g2, 0, none⟩) cp ls (k + 1) (st3 w8 g2 k ⟨[115, 112, 111, 105, 108, 116], none, 0, 0, [], 0⟩)) := hid (by
            have h9 := HS8.out.put ⟨[115, 112, 111, 105, 108, 116], none, 0, 0, [], 0⟩
            exact ⟨h9.bel, fun _ => ⟨g2, rfl, h9⟩⟩)
          clear HS8
          go_wp2_with fail
          exact ⟨⟨k + 1, by go_num, by omega, HJ.out⟩, by simp [intOf]; omega⟩
        · have hkI : ¬ (k : Int) < (ls.length : Int) := by omega
          have hkd : decide ((k : Int) < (ls.length : Int)) = false := by simpa using hkI
          have hkd2 : decide (k < ls.length) = false := by simpa using hkn
          have hb := HB6.out.trans HS.out.1
          have hT := HT4.out.1.below hb
          have hbel := HT4.out.2.trans (hb.mono HT4.out.2.size)
          have HTw : Hid (∀ Z, Below wr.heap.size wr Z → Tw0 w.heap.size (j * 2097152 + 1 + 1048576) Z d x B fs' (.slice xo l'.length xp) l' s' ∧ Below w.heap.size w Z) := hid fun Z hZ => ⟨hT.below hZ, hbel.trans (hZ.mono hbel.size)⟩
          have HCl : Hid (∀ Z, Below wr.heap.size wr Z → Z.cell? ⟨x, 0, none⟩ = some (.slice xo l'.length xp) ∧ Z.cell? ⟨x, 1, none⟩ = some (.bool s'.off) ∧ x < Z.heap.size ∧ Below wr.heap.size wr Z) := hid fun Z hZ => by
            have h := (HTw.out Z hZ).1.xd.blk
            exact ⟨(four_cells h).1.1, (four_cells h).1.2.1, node_lt h, hZ⟩
          have HDn : Hid (∀ Z, Below wr.heap.size wr Z → Calls Tryz.prog 14 #[.pointer (some ⟨d, 0, none⟩)] Z fun e w' => e = .returned (.bool s'.off) ∧ w' = Z) := hid fun Z hZ => down_ok (HTw.out Z hZ).1.dk
          have HF : Hid (∀ Z, Below wr.heap.size wr Z → Calls Tryz.prog 11 #[.pointer (some ⟨d, 0, none⟩)] Z fun e w' => ∃ (so2 : Option Addr) (n2 cp2 : Nat), e = .returned (.slice so2 n2 cp2) ∧ Below wr.heap.size wr w' ∧ Calls Tryz.prog 12 #[.slice so2 n2 cp2, .slice xo l'.length xp] w' fun e w' => e = .returned (.bool true) ∧ Below wr.heap.size wr w') := hid fun Z hZ => by
            refine (files_same (HTw.out Z hZ).1 rfl (by omega)).mono ?_
            rintro e w' ⟨so2, n2, cp2, he, h1, h2⟩
            refine ⟨so2, n2, cp2, he, hZ.trans (h1.mono hZ.size), h2.mono ?_⟩
            rintro e w'' ⟨he, h3⟩
            exact ⟨he, hZ.trans (h3.mono hZ.size)⟩
          clear hT hbel hb HS HB6 HT4 HLe
          generalize s'.off = of' at *
          go_wp2_with fail
          refine region_L 99 (fun Z : World => Z.cell? ⟨x, 0, none⟩ = some (.slice xo l'.length xp) ∧ Z.cell? ⟨x, 1, none⟩ = some (.bool of') ∧ x < Z.heap.size ∧ Below wr.heap.size wr Z) (by kernel_rfl) (HCl.out _ ((Below.refl _ _).drew)) (fun hHeld => ?_)
          have HBd : Hid (Below wr.heap.size wr wr.drew) := hid ((Below.refl _ _).drew)
          generalize wr.drew = W1 at *
          refine anyT 0 hHeld ?_
          refine anyT 1 hHeld ?_
          refine anyT 2 hHeld ?_
          refine anyT 3 hHeld ?_
          refine anyT 4 hHeld ?_
          refine anyT 5 hHeld ?_
          refine anyT 6 hHeld ?_
          refine anyT 7 hHeld ?_
          refine anyT 9 hHeld ?_
          refine anyT 10 hHeld ?_
          refine anyT 11 hHeld ?_
          refine anyT 12 hHeld ?_
          (try simp only [Act.put, List.setIfInBounds_toArray, List.set_cons_zero, List.set_cons_succ])
          refine anyO 8 (fun K' hK' => ?_)
          go_simp
          refine (HDn.out _ HBd.out).mono ?_
          rintro e Z2 ⟨rfl, rfl⟩
          go_simp
          refine hK'.out _ _ hHeld ?_
          clear hK' K'
          (try simp only [Act.put, List.setIfInBounds_toArray, List.set_cons_zero, List.set_cons_succ])
          refine anyT 13 hHeld ?_
          refine anyT 14 hHeld ?_
          refine anyT 15 hHeld ?_
          refine anyT 16 hHeld ?_
          refine anyT 18 hHeld ?_
          refine anyT 19 hHeld ?_
          refine anyT 20 hHeld ?_
          refine anyT 21 hHeld ?_
          (try simp only [Act.put, List.setIfInBounds_toArray, List.set_cons_zero, List.set_cons_succ])
          refine anyO 17 (fun K' hK' => ?_)
          go_simp
          refine (HF.out _ HBd.out).mono ?_
          rintro e Z3 ⟨so2, n2, cp2, rfl, hb3, hsm⟩
          have hHeld3 := HCl.out Z3 hb3
          go_simp
          refine hK'.out _ _ hHeld3 ?_
          clear hK' K'
          (try simp only [Act.put, List.setIfInBounds_toArray, List.set_cons_zero, List.set_cons_succ])
          refine anyO 22 (fun K' hK' => ?_)
          go_simp
          refine hsm.mono ?_
          rintro e Z4 ⟨rfl, hb4⟩
          have hHeld4 := HCl.out Z4 hb4
          go_simp
          refine hK'.out _ _ hHeld4 ?_
          clear hK' K'
          (try simp only [Act.put, List.setIfInBounds_toArray, List.set_cons_zero, List.set_cons_succ])
          refine anyT 23 hHeld4 ?_
          refine anyT 24 hHeld4 ?_
          refine ⟨by kernel_rfl, ?_⟩
          (try simp only [Act.put, List.setIfInBounds_toArray, List.set_cons_zero, List.set_cons_succ])
          have HEnd : Hid (AP w.heap.size w d x (j + 1) Z4) := hid ⟨(HTw.out Z4 hb4).2, B, fs', _, l', s', (HTw.out Z4 hb4).1.mono (by omega)⟩
          clear hHeld hHeld3 hHeld4 hsm HTw HDn HF HCl hb3 hb4
          go_wp2_with fail
          exact ⟨⟨j + 1, by go_num, by omega, by omega, HEnd.out⟩, by simp [intOf]; omega⟩
    · have HBel := hid HR.out.1
      clear HR
      by_cases hjn1 : j < n
      · have hj200 : ¬ (j : Int) < 200 := by omega
        have hjI : (j : Int) < (n : Int) := by omega
        have hkd : decide ((j : Int) < 200) = false := by simpa using hj200
        go_wp2_with fail
        go_ret
        exact ⟨rfl, HBel.out⟩
      · have hjI : ¬ (j : Int) < (n : Int) := by omega
        have hkd : decide ((j : Int) < (n : Int)) = false := by simpa using hjI
        have hkd2 : decide (j < n) = false := by simpa using hjn1
        go_wp2_with fail
        go_ret
        exact ⟨rfl, HBel.out⟩
end Go.Proofs.YtmddcdaodlnnhaaGreatDoor
