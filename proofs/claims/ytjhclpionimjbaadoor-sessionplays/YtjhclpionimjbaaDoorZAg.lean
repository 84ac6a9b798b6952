/-
  SessionAgain: a table that is restored goes on as the first one does. Conditions: those that each theorem names.
-/
import Derived.Test.YtjhclpionimjbaaDoorZQ
import Derived.Test.YtjhclpionimjbaaDoorZSame
namespace Go.Proofs.YtjhclpionimjbaaDoor
open Go.RowKit Go.Maps
set_option linter.unusedVariables false
theorem RowS.a {w wt : World} {m : Nat} {v : Value} {ls l : List Sx} (h : RowS w m v ls) (hk : ls.map key = l.map key) (hok : ∀ s ∈ l, SxOk wt s) : ∃ so cp, v = .slice so ls.length cp ∧ RowA w so ls.length cp ls := by
  obtain ⟨so, cp, rfl, hc, _⟩ := h.c
  refine ⟨so, cp, rfl, hc.ln, hc.le, hc.at', fun s hs => ?_⟩
  obtain ⟨t, ht, htk⟩ := mem_key hk.symm hs
  have q1 : t.i = s.i := congrArg (fun x => x.1) htk
  have q2 : t.l = s.l := congrArg (fun x => x.2.1) htk
  have q3 : t.u = s.u := congrArg (fun x => x.2.2.1) htk
  have ho := hok t ht
  exact ⟨by rw [← q1]; exact ho.id2, by rw [← q2]; exact ho.la, by rw [← q3]; exact ho.us, hc.has s hs⟩
/-- While the first acts are gone through. -/
structure A1 (w : World) (tb B j : Nat) (wr : World) : Prop where
  st : ∃ l ck E, Tb wr tb B l ck ∧ IU l ck E ∧ E ≤ (j : Int) ∧ IL l
  bel : Below w.heap.size w wr
/-- While both go on. -/
structure A2 (w : World) (tb B ub UB j : Nat) (wr : World) : Prop where
  st : ∃ l m ck E, Tb wr tb B l ck ∧ Tb wr ub UB m ck ∧ l.map key = m.map key ∧ IU l ck E ∧ E ≤ (j : Int) + 200
  bel : Below w.heap.size w wr
set_option maxRecDepth 100000 in
set_option maxHeartbeats 8000000 in
theorem again_any {w : World} {a b : Option Addr} {n cap n2 cap2 : Nat} {xs ys : List Sx} (hE : ErrIs w) (hA : RowA w a n cap xs) (hz : ∀ s ∈ xs, s.n ≤ 140737488355328) (hA2 : RowA w b n2 cap2 ys) (hz2 : ∀ s ∈ ys, s.n ≤ 140737488355328) :
    Calls Tryd.prog 5 #[.slice a n cap, .slice b n2 cap2] w fun e w' => e = .returned (.bool true) ∧ Below w.heap.size w w' := by
  have HE := hid hE
  have HA := hid hA
  have HZ := hid hz
  have HA2 := hid hA2
  have HZ2 := hid hz2
  have HEn : Hid (0 < w.heap.size) := hE.lt
  have hnl : (n : Int) ≤ 9223372036854775807 := by have := hA.le; unfold maxLen at this; omega
  have hnl2 : (n2 : Int) ≤ 9223372036854775807 := by have := hA2.le; unfold maxLen at this; omega
  clear hE hA hz hA2 hz2
  go_enter Tryd.func5, Tryd.ntmps5
  go_wp2_with fail
  refine (small_ok w HE.out).mono ?_
  rintro e w1 ⟨rfl, hb1⟩
  have HB1 := hid hb1
  clear hb1
  go_wp2_with fail
  refine (new_ok w1).mono ?_
  rintro e w2 ⟨tb, B, rfl, hT, ht, hB, hb2⟩
  have hlt1 := HB1.out.size
  have HOn : Hid (A1 w tb B 0 w2) := ⟨⟨[], 0, 0, hT, IU.new 0 (Int.le_refl _) (by omega), by simp, fun s hs => by cases hs⟩, HB1.out.trans (hb2.mono HB1.out.size)⟩
  have HY := hid (show w.heap.size ≤ tb ∧ w.heap.size ≤ B by omega)
  clear hT ht hB hb2 hlt1 HB1
  go_wp2_with fail
  go_loopw [7] (fun i wr => ∃ j : Nat, i = .int .i64 (j : Int) ∧ j ≤ n ∧ j ≤ 100 ∧ Hid (A1 w tb B j wr)) (fun i _ => n - (intOf i).toNat)
  case atStart => exact ⟨0, rfl, Nat.zero_le _, Nat.zero_le _, HOn⟩
  case round =>
    obtain ⟨j, rfl, hj, hj2, HR⟩ := hrel
    clear HOn
    by_cases hjn : j < n ∧ j < 100
    · obtain ⟨hjn, hj100⟩ := hjn
      have hjI : (j : Int) < (n : Int) := by omega
      have hjJ : (j : Int) < 100 := by omega
      obtain ⟨⟨l, ck, E, hT, hU, hEj, hIL⟩, hbel⟩ := HR.out
      have hRA := HA.out.below hbel
      have hjx : j < xs.length := by rw [HA.out.ln]; exact hjn
      obtain ⟨g, off, rfl, hg, hcs⟩ := hRA.at' (by omega)
      obtain ⟨c0, c1, c2, c3⟩ := hcs j hjx
      have hok := hRA.ok _ (List.getElem_mem hjx)
      have HDo := hid (do_ok (HE.out.below hbel HEn.out) hT (by rintro (e | e) <;> (have := HY.out; have := HEn.out; omega)) xs[j] hok.1 hok.2.1 hok.2.2.1 hok.2.2.2 (HZ.out _ (List.getElem_mem hjx)))
      have HU := hid (And.intro hU (And.intro hEj (And.intro hIL hbel)))
      generalize xs[j] = s at *
      obtain ⟨si, sl, su, so, sn, sc, sb⟩ := s
      dsimp only at c0 c1 c2 c3 HDo
      clear hT hU hEj hIL hbel hRA hjx hcs hok HR hg
      go_wp2_with fail
      refine HDo.out.mono ?_
      rintro e wn ⟨l', ck', r, T, rfl, hD, hTn, hk⟩
      obtain ⟨E', hU', hE'⟩ := HU.out.1.do (by have := HU.out.2.1; omega) hD
      have HF : Hid (A1 w tb B (j + 1) wn) := ⟨⟨l', ck', E', hTn, hU', by have := HU.out.2.1; omega, HU.out.2.2.1.do hD⟩, HU.out.2.2.2.trans (hk.to HU.out.2.2.2.size (fun g e => by rcases e with rfl | rfl; exact HY.out.1; exact HY.out.2))⟩
      clear hD hTn hk hU' hE' HDo HU
      go_wp2_with fail
      exact ⟨⟨j + 1, by go_num, by omega, by omega, HF⟩, by simp [intOf]; omega⟩
    · have hcond : ((j : Int) < (n : Int) ∧ ¬ (j : Int) < 100) ∨ ¬ (j : Int) < (n : Int) := by omega
      have hj100 := hj2
      obtain ⟨⟨l, ck, E, hT, hU, hEj, hIL⟩, hbel⟩ := HR.out
      have HLs := hid (list_ok hT)
      have HT := hid hT
      have HU := hid (And.intro hU (And.intro (show E ≤ 100 by omega) (And.intro hIL hbel)))
      clear hT hU hEj hIL hbel HR hjn
      rcases hcond with ⟨hcA, hcB⟩ | hcA
      all_goals
        go_wp2_with fail
        refine HLs.out.mono ?_
        rintro e w3 ⟨v, ls, rfl, hrow, hkey, hb3⟩
        obtain ⟨so, cp, rfl, hra⟩ := hrow.a hkey HT.out.ok
        have HT3 := hid (HT.out.below hb3)
        have HB3 := hid (HU.out.2.2.2.trans (hb3.mono HU.out.2.2.2.size))
        have HCl := hid (clock_ok HT3.out)
        have HRe := hid (restore_ok hra ck HT.out.ckI)
        have HRes := hid (res_ok (w := wr) (w' := w3) hkey HU.out.1 HT.out.m.1 (by have := HU.out.2.1; omega) HU.out.2.2.1 HT.out.few HT.out.ok (fun s hs => ⟨(hrow.has s hs).1, (hrow.has s hs).2.2⟩))
        have HKe := hid hkey
        clear hrow hkey hb3 hra HLs
        go_wp2_with fail
        refine HCl.out.mono ?_
        rintro e w4 ⟨rfl, rfl⟩
        go_wp2_with fail
        refine HRe.out.mono ?_
        rintro e w5 ⟨hb5, hq⟩
        obtain ⟨ub, UB, m, rfl, hTu, hmk, hub, hUB⟩ : ∃ tb B l, e = .returned (.tuple #[.pointer (some ⟨tb, 0, none⟩), .nilIface]) ∧ Tb w5 tb B l ck ∧ l.map key = ls.map key ∧ w4.heap.size ≤ tb ∧ w4.heap.size ≤ B := by
          rcases hq with ⟨e1, _⟩ | ⟨_, h⟩
          · rw [HRes.out] at e1; cases e1
          · exact h
        have htl := node_lt HT3.out.blk
        have hBl := HT3.out.m.lt
        have HY2 := hid (show tb < ub ∧ tb < UB ∧ B < ub ∧ B < UB by omega)
        have HO2 : Hid (A2 w tb B ub UB 0 w5) := ⟨⟨l, m, ck, E, HT3.out.below hb5, hTu, by rw [hmk, HKe.out], HU.out.1, by have := HU.out.2.1; simp; omega⟩, HB3.out.trans (hb5.mono HB3.out.size)⟩
        have HY3 := hid (show w.heap.size ≤ ub ∧ w.heap.size ≤ UB by have := HY.out; omega)
        clear hb5 hq hTu hmk hub hUB htl hBl HRe HCl HRes HT3 HT HU HB3
        go_wp2_with fail
        go_loopw [10] (fun i wr => ∃ j : Nat, i = .int .i64 (j : Int) ∧ j ≤ n2 ∧ j ≤ 100 ∧ Hid (A2 w tb B ub UB j wr)) (fun i _ => n2 - (intOf i).toNat)
        case atStart => exact ⟨0, rfl, Nat.zero_le _, Nat.zero_le _, HO2⟩
        case round =>
          obtain ⟨k, rfl, hk, hk2, HR⟩ := hrel
          clear HO2
          by_cases hkn : k < n2 ∧ k < 100
          · obtain ⟨hkn, hk100⟩ := hkn
            have hkI : (k : Int) < (n2 : Int) := by omega
            have hkJ : (k : Int) < 100 := by omega
            obtain ⟨⟨l, m, ck, E, hT, hTu, hke, hU, hEk⟩, hbel⟩ := HR.out
            have hkx : k < ys.length := by rw [HA2.out.ln]; exact hkn
            obtain ⟨g, off, rfl, hg, hcs⟩ := HA2.out.at' (by omega)
            have hcw := hcs k hkx
            have hok := HA2.out.ok _ (List.getElem_mem hkx)
            have hsz := HZ2.out _ (List.getElem_mem hkx)
            have HDo := hid (do_ok (HE.out.below hbel HEn.out) hT (by rintro (e | e) <;> (have := HY.out; have := HEn.out; omega)) ys[k] hok.1 hok.2.1 hok.2.2.1 (hok.2.2.2.below hbel) hsz)
            have HTu := hid hTu
            have HU := hid (And.intro hU (And.intro hEk (And.intro hke (And.intro hbel hT.m.1))))
            have HOk := hid (And.intro hok hsz)
            have HNr := hid hT.nor
            have HCw := hid (And.intro hcw hg)
            generalize ys[k] = s at *
            obtain ⟨c0, c1, c2, c3⟩ := hcw
            replace c0 := (hbel.cell (p := ⟨g, off + k * 4, none⟩) hg).trans c0
            replace c1 := (hbel.cell (p := ⟨g, off + k * 4 + 1, none⟩) hg).trans c1
            replace c2 := (hbel.cell (p := ⟨g, off + k * 4 + 2, none⟩) hg).trans c2
            replace c3 := (hbel.cell (p := ⟨g, off + k * 4 + 3, none⟩) hg).trans c3
            clear hT hTu hke hU hEk hbel hkx hcs hok hsz HR hg
            go_wp2_with fail
            refine HDo.out.mono ?_
            rintro e wn ⟨l', ck', r, T, rfl, hD, hTn, hk3⟩
            obtain ⟨E', hU', hE'⟩ := HU.out.1.do (by have := HU.out.2.1; omega) hD
            have hbn := HU.out.2.2.2.1.trans (hk3.to HU.out.2.2.2.1.size (fun g e => by rcases e with rfl | rfl; exact HY.out.1; exact HY.out.2))
            have hy2 := HY2.out
            have hTu2 := HTu.out.kx hk3 HNr.out (by rintro (e | e) <;> omega) (by rintro (e | e) <;> omega)
            have HDu := hid (do_ok (HE.out.below hbn HEn.out) hTu2 (by rintro (e | e) <;> (have := HY3.out; have := HEn.out; omega)) s HOk.out.1.1 HOk.out.1.2.1 HOk.out.1.2.2.1 (HOk.out.1.2.2.2.below hbn) HOk.out.2)
            obtain ⟨⟨c0', c1', c2', c3'⟩, hg⟩ := HCw.out
            have d0 := (hbn.cell (p := ⟨g, off + k * 4, none⟩) hg).trans c0'
            have d1 := (hbn.cell (p := ⟨g, off + k * 4 + 1, none⟩) hg).trans c1'
            have d2 := (hbn.cell (p := ⟨g, off + k * 4 + 2, none⟩) hg).trans c2'
            have d3 := (hbn.cell (p := ⟨g, off + k * 4 + 3, none⟩) hg).trans c3'
            have HV := hid (And.intro hD (And.intro hTn (And.intro hU' (And.intro hE' (And.intro hbn hTu2.nor)))))
            clear hD hTn hU' hE' hbn hTu2 hk3 hg c0' c1' c2' c3' c0 c1 c2 c3 HDo HNr
            go_wp2_with fail
            refine HDu.out.mono ?_
            rintro e wm ⟨m', ck2, r2, T2, rfl, hD2, hTm, hk4⟩
            obtain ⟨rfl, rfl, rfl, hke2⟩ := do_key HU.out.2.2.1 HU.out.1 HU.out.2.2.2.2 HV.out.1 hD2
            have hTt := HV.out.2.1.kx hk4 HV.out.2.2.2.2.2 (by rintro (e | e) <;> omega) (by rintro (e | e) <;> omega)
            have hbm := HV.out.2.2.2.2.1.trans (hk4.to HV.out.2.2.2.2.1.size (fun g e => by rcases e with rfl | rfl; exact HY3.out.1; exact HY3.out.2))
            have HC1 := hid (clock_ok hTt)
            have HC2 := hid (clock_ok hTm)
            have HL1 := hid (list_ok hTt)
            have HW := hid (And.intro hTt (And.intro hTm (And.intro hke2 (And.intro HV.out.2.2.1 (And.intro (show E' ≤ ((k + 1 : Nat) : Int) + 200 by have := HV.out.2.2.2.1; have := HU.out.2.1; simp; omega) hbm)))))
            clear hD2 hTm hk4 hke2 hTt hbm HDu HV HU HTu HOk HCw d0 d1 d2 d3 hy2
            go_wp2_with fail
            refine HC1.out.mono ?_
            rintro e wx ⟨rfl, rfl⟩
            go_wp2_with fail
            refine HC2.out.mono ?_
            rintro e wx2 ⟨rfl, rfl⟩
            go_wp2_with fail
            refine HL1.out.mono ?_
            rintro e w7 ⟨v7, l7, rfl, hr7, hk7, hb7⟩
            obtain ⟨so7, cp7, rfl, hc7, _⟩ := hr7.c
            have HL2 := hid (list_ok (HW.out.2.1.below hb7))
            have HC7 := hid (And.intro hc7 (And.intro hk7 hb7))
            clear hr7 hk7 hb7 hc7 HL1 HC1 HC2
            go_wp2_with fail
            refine HL2.out.mono ?_
            rintro e w8 ⟨v8, l8, rfl, hr8, hk8, hb8⟩
            obtain ⟨so8, cp8, rfl, hc8, _⟩ := hr8.c
            have HSm := hid (same_ok (cap := cp7) (cap2 := cp8) (HC7.out.1.below hb8) hc8 (by rw [HC7.out.2.1, hk8, HW.out.2.2.1]))
            have HB8 := hid (HC7.out.2.2.trans (hb8.mono HC7.out.2.2.size))
            clear hr8 hk8 hb8 hc8 HL2 HC7
            go_wp2_with fail
            refine HSm.out.mono ?_
            rintro e w9 ⟨rfl, hb9⟩
            have hb := HB8.out.trans (hb9.mono HB8.out.size)
            have HF : Hid (A2 w tb B ub UB (k + 1) w9) := ⟨⟨_, _, _, E', HW.out.1.below hb, HW.out.2.1.below hb, HW.out.2.2.1, HW.out.2.2.2.1, HW.out.2.2.2.2.1⟩, HW.out.2.2.2.2.2.trans (hb.mono HW.out.2.2.2.2.2.size)⟩
            clear hb9 hb HSm HB8 HW
            go_wp2_with fail
            exact ⟨⟨k + 1, by go_num, by omega, by omega, HF⟩, by simp [intOf]; omega⟩
          · have hcond : ((k : Int) < (n2 : Int) ∧ ¬ (k : Int) < 100) ∨ ¬ (k : Int) < (n2 : Int) := by omega
            have HBf := hid HR.out.bel
            clear HR
            rcases hcond with ⟨hcC, hcD⟩ | hcC
            all_goals
              go_wp2_with fail
              go_ret
              exact ⟨rfl, HBf.out⟩
end Go.Proofs.YtjhclpionimjbaaDoor
