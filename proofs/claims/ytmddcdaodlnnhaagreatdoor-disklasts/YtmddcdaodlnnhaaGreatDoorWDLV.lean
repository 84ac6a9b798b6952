/-
  DiskLasts: what is sure lasts. Conditions: those that each theorem names.
-/
import Derived.Test.YtmddcdaodlnnhaaGreatDoorVDLUToRowsMem
namespace Go.Proofs.YtmddcdaodlnnhaaGreatDoor
open Go.RowKit Go.Maps
set_option linter.unusedVariables false
theorem fnd_app_one (A : List Pf) (t : Pf) (x : Nm) : fnd (A ++ [t]) x = (fnd A x).or (if nm t = x then some t else none) := by
  unfold fnd
  rw [List.find?_append]
  congr 1
  by_cases h : nm t = x
  · rw [if_pos h]
    simp [h]
  · rw [if_neg h]
    simp [h]
theorem oldP_hit {A : List Pf} {t : Pf} {x : Nm} (h : nm t = x) (hA : fnd A x = none) : oldP (A ++ [t]) x = t := by
  unfold oldP
  rw [fnd_app_one, hA, if_pos h]
  rfl
theorem oldP_miss {A : List Pf} {t : Pf} {x : Nm} (h : nm t ≠ x) : oldP (A ++ [t]) x = oldP A x := by
  unfold oldP
  rw [fnd_app_one, if_neg h, Option.or_none]
theorem rise_take {P : List Pf} (h : Rise P) {k : Nat} (hk : k < P.length) {x : Nm} (e : nm P[k] = x) : fnd (P.take k) x = none := by
  refine fnd_no fun t ht et => ?_
  obtain ⟨i, hi, rfl⟩ := List.getElem_of_mem ht
  have hik : i < k := by rw [List.length_take] at hi; omega
  rw [List.getElem_take] at et
  exact before_ne (List.pairwise_iff_getElem.1 h i k (by omega) hk hik) (et.trans e.symm)
theorem str_hi (w : World) (l : List UInt8) (k : Nat) (hk : k ≤ l.length) : (Instr.slice 9 (.string ⟨l.toArray⟩) none (some (.int .i64 (k : Int))) none).run Tryz.prog w = .ok (.string ⟨(l.take k).toArray⟩) w := by
  have hsz : (⟨l.toArray⟩ : ByteArray).size = l.length := by show l.toArray.size = _; simp
  rw [run_slice_string_h w 9 ⟨l.toArray⟩ Tryz.underlying9 .i64 (k : Int) (by omega) (by rw [hsz]; omega)]
  congr 2
  apply ByteArray.ext
  rw [ByteArray.data_extract]
  simp
/-- While the acts are played: what is sure. -/
def LP (m : Nat) (w0 : World) (d x j : Nat) (S : ByteArray) (u : List UInt8) (wr : World) : Prop := Below m w0 wr ∧ ∃ B fs v l s, Tw0 m (j * 2097152) wr d x B fs v l s ∧ u = (oldP s.P S.data.toList).b.take (oldP s.P S.data.toList).s
/-- While a file is looked for. -/
def FO (w0 : World) (P : List Pf) (S : ByteArray) (k : Nat) (p : Pf) (wr : World) : Prop := p = oldP (P.take k) S.data.toList ∧ Below w0.heap.size w0 wr
set_option maxRecDepth 100000 in
set_option maxHeartbeats 16000000 in
theorem lasts_any {w : World} {a : Option Addr} {n cap : Nat} {xs : List Ax} (hE : ErrIs w) (hA : RowA w.heap.size w a n xs) (S : ByteArray) :
    Calls Tryz.prog 4 #[.string S, .slice a n cap] w fun e w' => e = .returned (.bool true) ∧ Below w.heap.size w w' := by
  have HE := hid hE
  have HA := hid hA
  have HEn : Hid (0 < w.heap.size) := hE.lt
  have hnl : (n : Int) ≤ 9223372036854775807 := by have := hA.le; unfold maxLen at this; omega
  have HS := hid (small_ok w hE)
  clear hE hA
  go_enter Tryz.func4, Tryz.ntmps4
  go_wp2_with fail
  refine HS.out.mono ?_
  rintro e w1 ⟨rfl, hb1⟩
  have HN := hid (dknew_ok w.heap.size w1 hb1.size)
  have HB1 := hid hb1
  clear hb1 HS
  go_wp2_with fail
  refine HN.out.mono ?_
  rintro e w2 ⟨d, B, rfl, h2, hd2, hB2, hb2⟩
  have hs2 : w.heap.size ≤ w2.heap.size := Nat.le_trans HB1.out.size hb2.size
  have HX := hid (rdnew_ok w.heap.size w2 hs2)
  have HD := hid (And.intro h2 (And.intro hd2 (And.intro hB2 (And.intro (HB1.out.trans (hb2.mono HB1.out.size)) hs2))))
  clear hs2 h2 hd2 hB2 hb2 HN HB1
  go_wp2_with fail
  refine HX.out.mono ?_
  rintro e w3 ⟨rfl, h3, hb3⟩
  obtain ⟨h2, hd2, hB2, hb2, hs2⟩ := HD.out
  obtain ⟨x, hx⟩ : ∃ x, x = w2.heap.size := ⟨_, rfl⟩
  rw [← hx] at h3
  have HP0 : Hid (LP w.heap.size w d x 0 S [] w3) := hid ⟨hb2.trans (hb3.mono hs2), B, [], _, [], ⟨[], false, false, 0, 0⟩, ⟨rfl, rfl, h2.below hb3, h3, fun g hg e => (by
    have := (h2.lt g hg).2
    rcases e with rfl | e | ⟨_, e, _⟩
    · omega
    · cases e
    · cases e), fun e => (by cases e), (by unfold inI; simp), (by unfold inI; simp)⟩, rfl⟩
  have HX2 := hid hx
  clear h2 hd2 hB2 hb2 hs2 h3 hb3 hx HX HD
  go_wp2_with fail
  rw [← HX2.out]
  clear HX2
  go_loopw [8, 9] (fun o i wr => ∃ (j : Nat) (u : List UInt8), o = .string ⟨u.toArray⟩ ∧ i = .int .i64 (j : Int) ∧ j ≤ n ∧ j ≤ 200 ∧ Hid (LP w.heap.size w d x j S u wr)) (fun o i _ => n - (intOf i).toNat)
  case atStart => exact ⟨0, [], rfl, rfl, Nat.zero_le _, Nat.zero_le _, HP0⟩
  case round =>
    obtain ⟨j, u, rfl, rfl, hj, hj2, HR⟩ := hrel
    clear HP0
    by_cases hjn : j < n ∧ j < 200
    · obtain ⟨hjn, hj200⟩ := hjn
      have hjI : (j : Int) < (n : Int) := by omega
      have hjJ : (j : Int) < 200 := by omega
      obtain ⟨hbel, B, fs, v, l, s, hT, hu⟩ := HR.out
      have hA5 := HA.out.below hbel
      have hjx : j < xs.length := by rw [HA.out.ln]; exact hjn
      obtain ⟨g, off, ha, hg, hcs⟩ := hA5.at' (by omega)
      obtain ⟨q0, q1, q2, q3, q4, q5⟩ := hcs j hjx
      subst ha
      obtain ⟨w4, hw4⟩ : ∃ w4, w4 = wr.alloc (.cells #[.int .i64 xs[j].K, .string xs[j].S, .slice xs[j].bo xs[j].b.length xs[j].bc, .int .i64 xs[j].N, .int .i64 xs[j].M, .slice xs[j].lo xs[j].ln xs[j].lc] 32) := ⟨_, rfl⟩
      have hb4 : Below wr.heap.size wr w4 := by rw [hw4]; exact below_al _ _
      have hm : w.heap.size ≤ wr.heap.size := hbel.size
      have hT4 := hT.below hb4
      have hbel4 := hbel.trans (hb4.mono hm)
      have qb : w4.heap[wr.heap.size]? = some (.cells #[.int .i64 xs[j].K, .string xs[j].S, .slice xs[j].bo xs[j].b.length xs[j].bc, .int .i64 xs[j].N, .int .i64 xs[j].M, .slice xs[j].lo xs[j].ln xs[j].lc] 32) := by rw [hw4]; exact new_block_at _ _ rfl
      have HAc := hid (lact_any (HE.out.below hbel4 HEn.out) HEn.out hT4 xs[j] (hA5.below (hb4.mono hm) |>.ok _ (List.getElem_mem hjx)) (by omega))
      have HT4 := hid (And.intro hT4 (And.intro hbel4 hu))
      have b0 := And.left (cell_in qb 0 _ rfl)
      have b1 := And.left (cell_in qb 1 _ rfl)
      have b2 := And.left (cell_in qb 2 _ rfl)
      have b3 := And.left (cell_in qb 3 _ rfl)
      have b4 := And.left (cell_in qb 4 _ rfl)
      have b5 := And.left (cell_in qb 5 _ rfl)
      have HW4 := hid hw4
      clear hw4 hb4 hT4 hbel4 hbel hT hu hA5 hcs hm hg qb HR
      generalize xs[j] = xx at *
      obtain ⟨K, SS, bo, bc, bb, N, M, lo, ln, lc, ks⟩ := xx
      dsimp only at q0 q1 q2 q3 q4 q5 b0 b1 b2 b3 b4 b5 HW4 HAc
      by_cases hsk : SS = S ∧ 2 ≤ K ∧ K ≤ 4
      · obtain ⟨rfl, h2, h4⟩ := hsk
        have HSk : Hid (LP w.heap.size w d x (j + 1) SS u w4) := hid ⟨HT4.out.2.1, B, fs, v, l, s, HT4.out.1.mono (by omega), HT4.out.2.2⟩
        clear HAc HT4 b2 b3 b4 b5
        go_wp2_with fail
        rw [← HW4.out]
        exact ⟨⟨j + 1, u, rfl, by go_num, by omega, by omega, HSk.out⟩, by simp [intOf]; omega⟩
      · have HPl : Hid (SS.data.toList = S.data.toList → K < 2 ∨ 4 < K) := hid fun e => by
          have : SS = S := ByteArray.ext (Array.toList_inj.1 e)
          by_cases h2 : 2 ≤ K
          · by_cases h4 : K ≤ 4
            · exact absurd ⟨this, h2, h4⟩ hsk
            · omega
          · omega
        have hpl : (¬ SS = S) ∨ (SS = S ∧ ¬ 2 ≤ K) ∨ (SS = S ∧ 2 ≤ K ∧ ¬ K ≤ 4) := by
          by_cases hS : SS = S
          · by_cases h2 : 2 ≤ K
            · exact .inr (.inr ⟨hS, h2, fun h4 => hsk ⟨hS, h2, h4⟩⟩)
            · exact .inr (.inl ⟨hS, h2⟩)
          · exact .inl hS
        clear hsk
        have HT4s := hid HT4.out.1.sk
        rcases hpl with hS | ⟨hS, h2⟩ | ⟨hS, h2, h4⟩
        · have a1 : (SS.toList == S.toList) = false := by
            rw [Go.ByteArray.toList_eq, Go.ByteArray.toList_eq]
            refine beq_eq_false_iff_ne.2 fun e => hS ?_
            apply ByteArray.ext
            exact Array.toList_inj.1 e
          go_wp2_with fail
          rw [← HW4.out]
          refine HAc.out.mono ?_
          rintro e w6 ⟨rfl, fs', v', l', hT6, hS6⟩
          obtain ⟨hT4, hbel4, hu⟩ := HT4.out
          have hL := act_lasts s ⟨K, SS, bo, bc, bb, N, M, lo, ln, lc, ks⟩ S.data.toList hT4.sk (fun e => HPl.out (by first | exact e | trivial))
          have hbel6 := hbel4.trans (hT4.bel hS6)
          have HF := hid (dkfiles_ok hT6.dk (by omega))
          have hrP : Rise (actS s ⟨K, SS, bo, bc, bb, N, M, lo, ln, lc, ks⟩).P := by
            rw [← hT6.pd]
            exact rise_ids (by rw [List.map_map]; rfl) hT6.dk.mp.1
          have hlen : ∀ y, (oldP (actS s ⟨K, SS, bo, bc, bb, N, M, lo, ln, lc, ks⟩).P y).b.length ≤ j * 2097152 + 1 + 1048576 := fun y => by
            unfold oldP
            cases e : fnd (actS s ⟨K, SS, bo, bc, bb, N, M, lo, ln, lc, ks⟩).P y with
            | none => exact Nat.zero_le _
            | some f =>
              have hm := (fnd_some e).1
              rw [← hT6.pd] at hm
              obtain ⟨q, hq, rfl⟩ := List.mem_map.1 hm
              have h1 := hT6.dk.bd q hq
              have h2 := (hT6.dk.ok q hq).len
              show q.b.length ≤ _
              omega
          have hpd := hT6.pd
          have HT6 := hid (And.intro hT6 hbel6)
          have HL := hid hL
          have HU := hid hu
          generalize actS s ⟨K, SS, bo, bc, bb, N, M, lo, ln, lc, ks⟩ = s' at *
          have HR6 := hid (And.intro hrP (And.intro (hlen S.data.toList) hpd))
          clear HAc HT4 hT4 hbel4 hu hL hbel6 hT6 hS6 hrP hlen hpd b0 b1 b2 b3 b4 b5 q0 q1 q2 q3 q4 q5 HPl HW4
          go_wp2_with fail
          refine HF.out.mono ?_
          rintro e w7 ⟨vl, ls, rfl, hG, hpg, hb7⟩
          obtain ⟨so, cp, rfl, hC, hle, _⟩ := hG.c
          have HC := hid hC
          have HP : Hid (ls.map pg = s'.P) := hid (hpg.trans HR6.out.2.2)
          have hnI : (ls.length : Int) ≤ 9223372036854775807 := by have := hC.le; unfold maxLen at this; omega
          have HB7 := hid hb7
          clear hG hpg hb7 hC hle HF
          go_wp2_with fail
          go_loopw [12, 13, 14] (fun b y i wr => ∃ (k : Nat) (p : Pf), i = .int .i64 (k : Int) ∧ k ≤ ls.length ∧ b = .string ⟨p.b.toArray⟩ ∧ y = .int .i64 (p.s : Int) ∧ Hid (FO w7 s'.P S k p wr)) (fun b y i _ => ls.length - (intOf i).toNat)
          case atStart => exact ⟨0, ⟨S.data.toList, [], 0⟩, rfl, Nat.zero_le _, rfl, rfl, hid ⟨rfl, Below.refl _ _⟩⟩
          case round =>
            obtain ⟨k, p, rfl, hk, rfl, rfl, HFo⟩ := hrel
            by_cases hkn : k < ls.length
            · have hkI : (k : Int) < (ls.length : Int) := by omega
              have r1 := HC.out.below HFo.out.2
              obtain ⟨g1, o1, rfl, hg1, hc1⟩ := r1.at' (by omega)
              obtain ⟨p0, p1, p2⟩ := hc1 k hkn
              have hkP : k < s'.P.length := by rw [← HP.out, List.length_map]; exact hkn
              have hPk : s'.P[k] = pg ls[k] := by simp only [← HP.out, List.getElem_map]
              have htk : s'.P.take (k + 1) = s'.P.take k ++ [pg ls[k]] := by rw [← hPk]; exact (List.take_append_getElem hkP).symm
              have hhit := fun e => rise_take HR6.out.1 hkP (x := S.data.toList) e
              have cv := (r1.has _ (List.getElem_mem hkn)).conv
              obtain ⟨f, hf⟩ : ∃ f, f = ls[k] := ⟨_, rfl⟩
              rw [← hf] at p0 p1 p2 cv hPk htk
              rw [hPk] at hhit
              obtain ⟨sn, hsn⟩ : ∃ sn : ByteArray, sn = ⟨f.n.toArray⟩ := ⟨_, rfl⟩
              rw [← hsn] at p0
              by_cases hx : sn = S
              · have hnx : f.n = S.data.toList := by rw [← hx, hsn]
                have HN : Hid (FO w7 s'.P S (k + 1) (pg f) wr) := hid ⟨by rw [htk, oldP_hit hnx (hhit hnx)], HFo.out.2⟩
                rw [hx] at p0
                clear hsn hx hnx htk hPk hhit r1 hc1 hf HFo
                go_wp2_with fail
                exact ⟨⟨k + 1, pg f, by go_num, by omega, rfl, rfl, HN.out⟩, by simp [intOf]; omega⟩
              · have a2 : (sn.toList == S.toList) = false := by
                  rw [Go.ByteArray.toList_eq, Go.ByteArray.toList_eq]
                  refine beq_eq_false_iff_ne.2 fun e => hx ?_
                  apply ByteArray.ext
                  exact Array.toList_inj.1 e
                have hnx : nm (pg f) ≠ S.data.toList := fun e => hx (by rw [hsn, show f.n = S.data.toList from e])
                have HN : Hid (FO w7 s'.P S (k + 1) p wr) := hid ⟨by rw [htk, oldP_miss hnx]; exact HFo.out.1, HFo.out.2⟩
                clear hsn hnx r1 hc1 p1 p2 htk hPk hhit hf HFo cv
                go_wp2_with fail
                exact ⟨⟨k + 1, p, by go_num, by omega, rfl, rfl, HN.out⟩, by simp [intOf]; omega⟩
            · have hkI : ¬ (k : Int) < (ls.length : Int) := by omega
              have hkd : decide ((k : Int) < (ls.length : Int)) = false := by simpa using hkI
              have hkd2 : decide (k < ls.length) = false := by simpa using hkn
              have hp : p = oldP s'.P S.data.toList := by
                rw [HFo.out.1, List.take_of_length_le (by rw [← HP.out, List.length_map]; omega)]
              have h1 := HL.out.le
              have h2 := HL.out.sk
              have h3 := HL.out.pre
              have h4 := HR6.out.2.1
              have h5 := HU.out
              rw [← hp] at h1 h2 h3 h4
              have h6 := oldP_sk HT4s.out S.data.toList
              have hul : u.length = (oldP s.P S.data.toList).s := by rw [h5, List.length_take]; omega
              have hpu : p.b.take u.length = u := by rw [hul, h3, ← h5]
              have s1 := fun W => str_hi W p.b u.length (by omega)
              rw [hpu] at s1
              have s2 := fun W => str_hi W p.b p.s h2
              have z1 : (⟨p.b.toArray⟩ : ByteArray).size = p.b.length := by show p.b.toArray.size = _; simp
              have z2 : (⟨u.toArray⟩ : ByteArray).size = u.length := by show u.toArray.size = _; simp
              have HN : Hid (LP w.heap.size w d x (j + 1) S (p.b.take p.s) wr) := hid (by
                obtain ⟨hT6, hb6⟩ := HT6.out
                have hb := HB7.out.trans (HFo.out.2.mono HB7.out.size)
                exact ⟨hb6.trans (hb.mono hb6.size), B, fs', v', l', s', (hT6.below hb).mono (by omega), by rw [← hp]⟩)
              obtain ⟨U, hU⟩ : ∃ U : ByteArray, U = ⟨u.toArray⟩ := ⟨_, rfl⟩
              obtain ⟨Pb, hPb⟩ : ∃ Pb : ByteArray, Pb = ⟨p.b.toArray⟩ := ⟨_, rfl⟩
              rw [← hU] at s1 z2
              rw [← hPb] at s1 s2 z1
              rw [← hU, ← hPb]
              have m1 : ¬ (p.b.length : Int) < (u.length : Int) := by omega
              have m2 : ¬ (p.s : Int) < (u.length : Int) := by omega
              have m3 : ¬ (p.b.length : Int) < (p.s : Int) := by omega
              have m4 : (p.b.length : Int) ≤ 9223372036854775807 := by omega
              clear h1 h2 h3 h4 h5 h6 hul hpu hp HL HU HR6 HT4s hU hPb HFo
              go_wp2_with fail
              exact ⟨⟨j + 1, p.b.take p.s, rfl, by go_num, by omega, by omega, HN.out⟩, by simp [intOf]; omega⟩
        · have hS' := hS.symm
          clear hS
          subst hS'
          go_wp2_with fail
          rw [← HW4.out]
          refine HAc.out.mono ?_
          rintro e w6 ⟨rfl, fs', v', l', hT6, hS6⟩
          obtain ⟨hT4, hbel4, hu⟩ := HT4.out
          have hL := act_lasts s ⟨K, S, bo, bc, bb, N, M, lo, ln, lc, ks⟩ S.data.toList hT4.sk (fun e => HPl.out (by first | exact e | trivial))
          have hbel6 := hbel4.trans (hT4.bel hS6)
          have HF := hid (dkfiles_ok hT6.dk (by omega))
          have hrP : Rise (actS s ⟨K, S, bo, bc, bb, N, M, lo, ln, lc, ks⟩).P := by
            rw [← hT6.pd]
            exact rise_ids (by rw [List.map_map]; rfl) hT6.dk.mp.1
          have hlen : ∀ y, (oldP (actS s ⟨K, S, bo, bc, bb, N, M, lo, ln, lc, ks⟩).P y).b.length ≤ j * 2097152 + 1 + 1048576 := fun y => by
            unfold oldP
            cases e : fnd (actS s ⟨K, S, bo, bc, bb, N, M, lo, ln, lc, ks⟩).P y with
            | none => exact Nat.zero_le _
            | some f =>
              have hm := (fnd_some e).1
              rw [← hT6.pd] at hm
              obtain ⟨q, hq, rfl⟩ := List.mem_map.1 hm
              have h1 := hT6.dk.bd q hq
              have h2 := (hT6.dk.ok q hq).len
              show q.b.length ≤ _
              omega
          have hpd := hT6.pd
          have HT6 := hid (And.intro hT6 hbel6)
          have HL := hid hL
          have HU := hid hu
          generalize actS s ⟨K, S, bo, bc, bb, N, M, lo, ln, lc, ks⟩ = s' at *
          have HR6 := hid (And.intro hrP (And.intro (hlen S.data.toList) hpd))
          clear HAc HT4 hT4 hbel4 hu hL hbel6 hT6 hS6 hrP hlen hpd b0 b1 b2 b3 b4 b5 q0 q1 q2 q3 q4 q5 HPl HW4
          go_wp2_with fail
          refine HF.out.mono ?_
          rintro e w7 ⟨vl, ls, rfl, hG, hpg, hb7⟩
          obtain ⟨so, cp, rfl, hC, hle, _⟩ := hG.c
          have HC := hid hC
          have HP : Hid (ls.map pg = s'.P) := hid (hpg.trans HR6.out.2.2)
          have hnI : (ls.length : Int) ≤ 9223372036854775807 := by have := hC.le; unfold maxLen at this; omega
          have HB7 := hid hb7
          clear hG hpg hb7 hC hle HF
          go_wp2_with fail
          go_loopw [12, 13, 14] (fun b y i wr => ∃ (k : Nat) (p : Pf), i = .int .i64 (k : Int) ∧ k ≤ ls.length ∧ b = .string ⟨p.b.toArray⟩ ∧ y = .int .i64 (p.s : Int) ∧ Hid (FO w7 s'.P S k p wr)) (fun b y i _ => ls.length - (intOf i).toNat)
          case atStart => exact ⟨0, ⟨S.data.toList, [], 0⟩, rfl, Nat.zero_le _, rfl, rfl, hid ⟨rfl, Below.refl _ _⟩⟩
          case round =>
            obtain ⟨k, p, rfl, hk, rfl, rfl, HFo⟩ := hrel
            by_cases hkn : k < ls.length
            · have hkI : (k : Int) < (ls.length : Int) := by omega
              have r1 := HC.out.below HFo.out.2
              obtain ⟨g1, o1, rfl, hg1, hc1⟩ := r1.at' (by omega)
              obtain ⟨p0, p1, p2⟩ := hc1 k hkn
              have hkP : k < s'.P.length := by rw [← HP.out, List.length_map]; exact hkn
              have hPk : s'.P[k] = pg ls[k] := by simp only [← HP.out, List.getElem_map]
              have htk : s'.P.take (k + 1) = s'.P.take k ++ [pg ls[k]] := by rw [← hPk]; exact (List.take_append_getElem hkP).symm
              have hhit := fun e => rise_take HR6.out.1 hkP (x := S.data.toList) e
              have cv := (r1.has _ (List.getElem_mem hkn)).conv
              obtain ⟨f, hf⟩ : ∃ f, f = ls[k] := ⟨_, rfl⟩
              rw [← hf] at p0 p1 p2 cv hPk htk
              rw [hPk] at hhit
              obtain ⟨sn, hsn⟩ : ∃ sn : ByteArray, sn = ⟨f.n.toArray⟩ := ⟨_, rfl⟩
              rw [← hsn] at p0
              by_cases hx : sn = S
              · have hnx : f.n = S.data.toList := by rw [← hx, hsn]
                have HN : Hid (FO w7 s'.P S (k + 1) (pg f) wr) := hid ⟨by rw [htk, oldP_hit hnx (hhit hnx)], HFo.out.2⟩
                rw [hx] at p0
                clear hsn hx hnx htk hPk hhit r1 hc1 hf HFo
                go_wp2_with fail
                exact ⟨⟨k + 1, pg f, by go_num, by omega, rfl, rfl, HN.out⟩, by simp [intOf]; omega⟩
              · have a2 : (sn.toList == S.toList) = false := by
                  rw [Go.ByteArray.toList_eq, Go.ByteArray.toList_eq]
                  refine beq_eq_false_iff_ne.2 fun e => hx ?_
                  apply ByteArray.ext
                  exact Array.toList_inj.1 e
                have hnx : nm (pg f) ≠ S.data.toList := fun e => hx (by rw [hsn, show f.n = S.data.toList from e])
                have HN : Hid (FO w7 s'.P S (k + 1) p wr) := hid ⟨by rw [htk, oldP_miss hnx]; exact HFo.out.1, HFo.out.2⟩
                clear hsn hnx r1 hc1 p1 p2 htk hPk hhit hf HFo cv
                go_wp2_with fail
                exact ⟨⟨k + 1, p, by go_num, by omega, rfl, rfl, HN.out⟩, by simp [intOf]; omega⟩
            · have hkI : ¬ (k : Int) < (ls.length : Int) := by omega
              have hkd : decide ((k : Int) < (ls.length : Int)) = false := by simpa using hkI
              have hkd2 : decide (k < ls.length) = false := by simpa using hkn
              have hp : p = oldP s'.P S.data.toList := by
                rw [HFo.out.1, List.take_of_length_le (by rw [← HP.out, List.length_map]; omega)]
              have h1 := HL.out.le
              have h2 := HL.out.sk
              have h3 := HL.out.pre
              have h4 := HR6.out.2.1
              have h5 := HU.out
              rw [← hp] at h1 h2 h3 h4
              have h6 := oldP_sk HT4s.out S.data.toList
              have hul : u.length = (oldP s.P S.data.toList).s := by rw [h5, List.length_take]; omega
              have hpu : p.b.take u.length = u := by rw [hul, h3, ← h5]
              have s1 := fun W => str_hi W p.b u.length (by omega)
              rw [hpu] at s1
              have s2 := fun W => str_hi W p.b p.s h2
              have z1 : (⟨p.b.toArray⟩ : ByteArray).size = p.b.length := by show p.b.toArray.size = _; simp
              have z2 : (⟨u.toArray⟩ : ByteArray).size = u.length := by show u.toArray.size = _; simp
              have HN : Hid (LP w.heap.size w d x (j + 1) S (p.b.take p.s) wr) := hid (by
                obtain ⟨hT6, hb6⟩ := HT6.out
                have hb := HB7.out.trans (HFo.out.2.mono HB7.out.size)
                exact ⟨hb6.trans (hb.mono hb6.size), B, fs', v', l', s', (hT6.below hb).mono (by omega), by rw [← hp]⟩)
              obtain ⟨U, hU⟩ : ∃ U : ByteArray, U = ⟨u.toArray⟩ := ⟨_, rfl⟩
              obtain ⟨Pb, hPb⟩ : ∃ Pb : ByteArray, Pb = ⟨p.b.toArray⟩ := ⟨_, rfl⟩
              rw [← hU] at s1 z2
              rw [← hPb] at s1 s2 z1
              rw [← hU, ← hPb]
              have m1 : ¬ (p.b.length : Int) < (u.length : Int) := by omega
              have m2 : ¬ (p.s : Int) < (u.length : Int) := by omega
              have m3 : ¬ (p.b.length : Int) < (p.s : Int) := by omega
              have m4 : (p.b.length : Int) ≤ 9223372036854775807 := by omega
              clear h1 h2 h3 h4 h5 h6 hul hpu hp HL HU HR6 HT4s hU hPb HFo
              go_wp2_with fail
              exact ⟨⟨j + 1, p.b.take p.s, rfl, by go_num, by omega, by omega, HN.out⟩, by simp [intOf]; omega⟩
        · have hS' := hS.symm
          clear hS
          subst hS'
          go_wp2_with fail
          rw [← HW4.out]
          refine HAc.out.mono ?_
          rintro e w6 ⟨rfl, fs', v', l', hT6, hS6⟩
          obtain ⟨hT4, hbel4, hu⟩ := HT4.out
          have hL := act_lasts s ⟨K, S, bo, bc, bb, N, M, lo, ln, lc, ks⟩ S.data.toList hT4.sk (fun e => HPl.out (by first | exact e | trivial))
          have hbel6 := hbel4.trans (hT4.bel hS6)
          have HF := hid (dkfiles_ok hT6.dk (by omega))
          have hrP : Rise (actS s ⟨K, S, bo, bc, bb, N, M, lo, ln, lc, ks⟩).P := by
            rw [← hT6.pd]
            exact rise_ids (by rw [List.map_map]; rfl) hT6.dk.mp.1
          have hlen : ∀ y, (oldP (actS s ⟨K, S, bo, bc, bb, N, M, lo, ln, lc, ks⟩).P y).b.length ≤ j * 2097152 + 1 + 1048576 := fun y => by
            unfold oldP
            cases e : fnd (actS s ⟨K, S, bo, bc, bb, N, M, lo, ln, lc, ks⟩).P y with
            | none => exact Nat.zero_le _
            | some f =>
              have hm := (fnd_some e).1
              rw [← hT6.pd] at hm
              obtain ⟨q, hq, rfl⟩ := List.mem_map.1 hm
              have h1 := hT6.dk.bd q hq
              have h2 := (hT6.dk.ok q hq).len
              show q.b.length ≤ _
              omega
          have hpd := hT6.pd
          have HT6 := hid (And.intro hT6 hbel6)
          have HL := hid hL
          have HU := hid hu
          generalize actS s ⟨K, S, bo, bc, bb, N, M, lo, ln, lc, ks⟩ = s' at *
          have HR6 := hid (And.intro hrP (And.intro (hlen S.data.toList) hpd))
          clear HAc HT4 hT4 hbel4 hu hL hbel6 hT6 hS6 hrP hlen hpd b0 b1 b2 b3 b4 b5 q0 q1 q2 q3 q4 q5 HPl HW4
          go_wp2_with fail
          refine HF.out.mono ?_
          rintro e w7 ⟨vl, ls, rfl, hG, hpg, hb7⟩
          obtain ⟨so, cp, rfl, hC, hle, _⟩ := hG.c
          have HC := hid hC
          have HP : Hid (ls.map pg = s'.P) := hid (hpg.trans HR6.out.2.2)
          have hnI : (ls.length : Int) ≤ 9223372036854775807 := by have := hC.le; unfold maxLen at this; omega
          have HB7 := hid hb7
          clear hG hpg hb7 hC hle HF
          go_wp2_with fail
          go_loopw [12, 13, 14] (fun b y i wr => ∃ (k : Nat) (p : Pf), i = .int .i64 (k : Int) ∧ k ≤ ls.length ∧ b = .string ⟨p.b.toArray⟩ ∧ y = .int .i64 (p.s : Int) ∧ Hid (FO w7 s'.P S k p wr)) (fun b y i _ => ls.length - (intOf i).toNat)
          case atStart => exact ⟨0, ⟨S.data.toList, [], 0⟩, rfl, Nat.zero_le _, rfl, rfl, hid ⟨rfl, Below.refl _ _⟩⟩
          case round =>
            obtain ⟨k, p, rfl, hk, rfl, rfl, HFo⟩ := hrel
            by_cases hkn : k < ls.length
            · have hkI : (k : Int) < (ls.length : Int) := by omega
              have r1 := HC.out.below HFo.out.2
              obtain ⟨g1, o1, rfl, hg1, hc1⟩ := r1.at' (by omega)
              obtain ⟨p0, p1, p2⟩ := hc1 k hkn
              have hkP : k < s'.P.length := by rw [← HP.out, List.length_map]; exact hkn
              have hPk : s'.P[k] = pg ls[k] := by simp only [← HP.out, List.getElem_map]
              have htk : s'.P.take (k + 1) = s'.P.take k ++ [pg ls[k]] := by rw [← hPk]; exact (List.take_append_getElem hkP).symm
              have hhit := fun e => rise_take HR6.out.1 hkP (x := S.data.toList) e
              have cv := (r1.has _ (List.getElem_mem hkn)).conv
              obtain ⟨f, hf⟩ : ∃ f, f = ls[k] := ⟨_, rfl⟩
              rw [← hf] at p0 p1 p2 cv hPk htk
              rw [hPk] at hhit
              obtain ⟨sn, hsn⟩ : ∃ sn : ByteArray, sn = ⟨f.n.toArray⟩ := ⟨_, rfl⟩
              rw [← hsn] at p0
              by_cases hx : sn = S
              · have hnx : f.n = S.data.toList := by rw [← hx, hsn]
                have HN : Hid (FO w7 s'.P S (k + 1) (pg f) wr) := hid ⟨by rw [htk, oldP_hit hnx (hhit hnx)], HFo.out.2⟩
                rw [hx] at p0
                clear hsn hx hnx htk hPk hhit r1 hc1 hf HFo
                go_wp2_with fail
                exact ⟨⟨k + 1, pg f, by go_num, by omega, rfl, rfl, HN.out⟩, by simp [intOf]; omega⟩
              · have a2 : (sn.toList == S.toList) = false := by
                  rw [Go.ByteArray.toList_eq, Go.ByteArray.toList_eq]
                  refine beq_eq_false_iff_ne.2 fun e => hx ?_
                  apply ByteArray.ext
                  exact Array.toList_inj.1 e
                have hnx : nm (pg f) ≠ S.data.toList := fun e => hx (by rw [hsn, show f.n = S.data.toList from e])
                have HN : Hid (FO w7 s'.P S (k + 1) p wr) := hid ⟨by rw [htk, oldP_miss hnx]; exact HFo.out.1, HFo.out.2⟩
                clear hsn hnx r1 hc1 p1 p2 htk hPk hhit hf HFo cv
                go_wp2_with fail
                exact ⟨⟨k + 1, p, by go_num, by omega, rfl, rfl, HN.out⟩, by simp [intOf]; omega⟩
            · have hkI : ¬ (k : Int) < (ls.length : Int) := by omega
              have hkd : decide ((k : Int) < (ls.length : Int)) = false := by simpa using hkI
              have hkd2 : decide (k < ls.length) = false := by simpa using hkn
              have hp : p = oldP s'.P S.data.toList := by
                rw [HFo.out.1, List.take_of_length_le (by rw [← HP.out, List.length_map]; omega)]
              have h1 := HL.out.le
              have h2 := HL.out.sk
              have h3 := HL.out.pre
              have h4 := HR6.out.2.1
              have h5 := HU.out
              rw [← hp] at h1 h2 h3 h4
              have h6 := oldP_sk HT4s.out S.data.toList
              have hul : u.length = (oldP s.P S.data.toList).s := by rw [h5, List.length_take]; omega
              have hpu : p.b.take u.length = u := by rw [hul, h3, ← h5]
              have s1 := fun W => str_hi W p.b u.length (by omega)
              rw [hpu] at s1
              have s2 := fun W => str_hi W p.b p.s h2
              have z1 : (⟨p.b.toArray⟩ : ByteArray).size = p.b.length := by show p.b.toArray.size = _; simp
              have z2 : (⟨u.toArray⟩ : ByteArray).size = u.length := by show u.toArray.size = _; simp
              have HN : Hid (LP w.heap.size w d x (j + 1) S (p.b.take p.s) wr) := hid (by
                obtain ⟨hT6, hb6⟩ := HT6.out
                have hb := HB7.out.trans (HFo.out.2.mono HB7.out.size)
                exact ⟨hb6.trans (hb.mono hb6.size), B, fs', v', l', s', (hT6.below hb).mono (by omega), by rw [← hp]⟩)
              obtain ⟨U, hU⟩ : ∃ U : ByteArray, U = ⟨u.toArray⟩ := ⟨_, rfl⟩
              obtain ⟨Pb, hPb⟩ : ∃ Pb : ByteArray, Pb = ⟨p.b.toArray⟩ := ⟨_, rfl⟩
              rw [← hU] at s1 z2
              rw [← hPb] at s1 s2 z1
              rw [← hU, ← hPb]
              have m1 : ¬ (p.b.length : Int) < (u.length : Int) := by omega
              have m2 : ¬ (p.s : Int) < (u.length : Int) := by omega
              have m3 : ¬ (p.b.length : Int) < (p.s : Int) := by omega
              have m4 : (p.b.length : Int) ≤ 9223372036854775807 := by omega
              clear h1 h2 h3 h4 h5 h6 hul hpu hp HL HU HR6 HT4s hU hPb HFo
              go_wp2_with fail
              exact ⟨⟨j + 1, p.b.take p.s, rfl, by go_num, by omega, by omega, HN.out⟩, by simp [intOf]; omega⟩
    · have HBel := hid HR.out.1
      clear HR
      by_cases hjn1 : j < n
      · have hj200 : ¬ (j : Int) < 200 := by omega
        have hjI : (j : Int) < (n : Int) := by omega
        have hkd : decide ((j : Int) < 200) = false := by simpa using hj200
        go_wp2_with fail
        go_ret
        exact ⟨rfl, HBel.out⟩
      · have hjI : ¬ (j : Int) < (n : Int) := by omega
        have hkd : decide ((j : Int) < (n : Int)) = false := by simpa using hjI
        have hkd2 : decide (j < n) = false := by simpa using hjn1
        go_wp2_with fail
        go_ret
        exact ⟨rfl, HBel.out⟩
end Go.Proofs.YtmddcdaodlnnhaaGreatDoor
