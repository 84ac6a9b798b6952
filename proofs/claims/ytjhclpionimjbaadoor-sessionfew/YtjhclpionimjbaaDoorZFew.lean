/-
  SessionFew: there are never too many sessions, they rise, and the one used least lately is dropped. Conditions: those that each theorem names.
-/
import Derived.Test.YtjhclpionimjbaaDoorZP
import Derived.Test.YtjhclpionimjbaaDoorZL
namespace Go.Proofs.YtjhclpionimjbaaDoor
open Go.RowKit Go.Maps
set_option linter.unusedVariables false
/-- The cells of a row of sessions. -/
structure RC (X : World) (g : Nat) (ls : List Sx) : Prop where
  lt : g < X.heap.size
  at' : ∀ k (h : k < ls.length), X.cell? ⟨g, k * 4, none⟩ = some (.int .i64 ls[k].i) ∧ X.cell? ⟨g, k * 4 + 1, none⟩ = some (.int .i64 ls[k].l) ∧ X.cell? ⟨g, k * 4 + 2, none⟩ = some (.int .i64 ls[k].u) ∧ X.cell? ⟨g, k * 4 + 3, none⟩ = some (.slice ls[k].o ls[k].n ls[k].c)
theorem RC.below {X Y : World} {g : Nat} {ls : List Sx} (h : RC X g ls) (hb : Below X.heap.size X Y) : RC Y g ls := by
  refine ⟨Nat.lt_of_lt_of_le h.lt hb.size, fun k hk => ?_⟩
  obtain ⟨k0, k1, k2, k3⟩ := h.at' k hk
  exact ⟨(hb.cell (p := ⟨g, k * 4, none⟩) h.lt).trans k0, (hb.cell (p := ⟨g, k * 4 + 1, none⟩) h.lt).trans k1, (hb.cell (p := ⟨g, k * 4 + 2, none⟩) h.lt).trans k2, (hb.cell (p := ⟨g, k * 4 + 3, none⟩) h.lt).trans k3⟩
theorem RowS.rc {w : World} {m : Nat} {v : Value} {ls : List Sx} (h : RowS w m v ls) : ∃ so cp, v = .slice so ls.length cp ∧ (0 < ls.length → ∃ g, so = some ⟨g, 0, none⟩ ∧ m ≤ g ∧ RC w g ls) := by
  obtain ⟨hll, hk | ⟨g, cap, cur, rfl, hm, hg, hn, hmx, hsz, htk⟩⟩ := h.own
  · obtain ⟨rfl, h0⟩ := hk
    exact ⟨none, 0, by rw [h0], fun h => absurd h (by omega)⟩
  · refine ⟨_, cap, rfl, fun _ => ⟨g, rfl, hm, node_lt hg, fun k hk => ?_⟩⟩
    have hat : ∀ j, j < 4 → ∀ u, (c4 ls[k])[j]? = some u → w.cell? ⟨g, k * 4 + j, none⟩ = some u := fun j hj u hu => by
      have h1 : (cur.toList.take (ls.length * 4))[k * 4 + j]? = some u := by rw [htk, cl_at ls k hk j hj, hu]
      rw [List.getElem?_take_of_lt (by omega)] at h1
      exact (cell_in hg _ u (by simpa using h1)).1
    exact ⟨hat 0 (by omega) _ rfl, hat 1 (by omega) _ rfl, hat 2 (by omega) _ rfl, hat 3 (by omega) _ rfl⟩
theorem key_at {ls l : List Sx} (h : ls.map key = l.map key) {k : Nat} (hk : k < ls.length) : ∃ hl : k < l.length, key ls[k] = key l[k] := by
  have hlen : ls.length = l.length := by have := congrArg List.length h; simpa using this
  have h1 : (ls.map key)[k]'(by simpa using hk) = (l.map key)[k]'(by simp; omega) := by simp only [h]
  exact ⟨by omega, by simpa using h1⟩
theorem key_rise {ls l : List Sx} (h : ls.map key = l.map key) (hr : Rise l) {k p : Nat} (hk : k < ls.length) (hp : p < ls.length) (hlt : p < k) : ls[p].i < ls[k].i := by
  obtain ⟨a, ha⟩ := key_at h hk
  obtain ⟨b, hb⟩ := key_at h hp
  have := List.pairwise_iff_getElem.1 hr p k b a hlt
  have e1 := congrArg (fun x => x.1) ha
  have e2 := congrArg (fun x => x.1) hb
  simp only [key] at e1 e2
  omega
theorem RC.kx {X Y : World} {g : Nat} {ls : List Sx} {L : Nat → Prop} (h : RC X g ls) (hk : Kx L X Y) (hL : ¬ L g) : RC Y g ls := by
  have hb := hk.block g h.lt hL
  refine ⟨Nat.lt_of_lt_of_le h.lt hk.size, fun k hk' => ?_⟩
  obtain ⟨k0, k1, k2, k3⟩ := h.at' k hk'
  exact ⟨(World.cell?_of_block (a := ⟨g, k * 4, none⟩) hb).trans k0, (World.cell?_of_block (a := ⟨g, k * 4 + 1, none⟩) hb).trans k1, (World.cell?_of_block (a := ⟨g, k * 4 + 2, none⟩) hb).trans k2, (World.cell?_of_block (a := ⟨g, k * 4 + 3, none⟩) hb).trans k3⟩
/-- While the acts are gone through. -/
structure Fw (w : World) (tb B j : Nat) (wr : World) : Prop where
  st : ∃ l ck E, Tb wr tb B l ck ∧ IU l ck E ∧ E ≤ (j : Int)
  bel : Below w.heap.size w wr
theorem Fw.next {w wa wn : World} {tb B j : Nat} {l' : List Sx} {ck' E' : Int} (hbel : Below w.heap.size w wa) (hb : w.heap.size ≤ tb ∧ w.heap.size ≤ B) (hT : Tb wn tb B l' ck') (hk : Kx (own2 tb B) wa wn) (hu : IU l' ck' E') (hE : E' ≤ (j : Int) + 1) : ∀ X, Below wn.heap.size wn X → Fw w tb B (j + 1) X := fun X hX => by
  have h1 := hbel.trans (hk.to hbel.size (fun g e => by rcases e with rfl | rfl; exact hb.1; exact hb.2))
  exact ⟨⟨l', ck', E', hT.below hX, hu, by omega⟩, h1.trans (hX.mono h1.size)⟩
/-- What the first of those used least lately is. -/
def Lst (ls : List Sx) (k le : Nat) : Prop := (le < ls.length ∨ le = 0) ∧ ∀ (t : Nat) (ht : t < ls.length) (hl : le < ls.length), t < k → ls[le].u ≤ ls[t].u
set_option maxRecDepth 100000 in
set_option maxHeartbeats 8000000 in
theorem few_any {w : World} {a : Option Addr} {n cap : Nat} {xs : List Sx} (hE : ErrIs w) (hA : RowA w a n cap xs) (hz : ∀ s ∈ xs, s.n ≤ 140737488355328) :
    Calls Tryd.prog 6 #[.slice a n cap] w fun e w' => e = .returned (.bool true) ∧ Below w.heap.size w w' := by
  have HE := hid hE
  have HA := hid hA
  have HZ := hid hz
  have hnl : (n : Int) ≤ 9223372036854775807 := by have := hA.le; unfold maxLen at this; omega
  clear hE hA hz
  go_enter Tryd.func6, Tryd.ntmps6
  go_wp2_with fail
  refine (small_ok w HE.out).mono ?_
  rintro e w1 ⟨rfl, hb1⟩
  have HB1 := hid hb1
  clear hb1
  go_wp2_with fail
  refine (new_ok w1).mono ?_
  rintro e w2 ⟨tb, B, rfl, hT, ht, hB, hb2⟩
  have hlt1 := HB1.out.size
  have HOn : Hid (Fw w tb B 0 w2) := ⟨⟨[], 0, 0, hT, IU.new 0 (Int.le_refl _) (by omega), by simp⟩, HB1.out.trans (hb2.mono HB1.out.size)⟩
  have HY := hid (show w.heap.size ≤ tb ∧ w.heap.size ≤ B by omega)
  have HEn : Hid (0 < w.heap.size) := HE.out.lt
  clear hT ht hB hb2 hlt1 HB1
  go_wp2_with fail
  go_loopw [5] (fun i wr => ∃ j : Nat, i = .int .i64 (j : Int) ∧ j ≤ n ∧ j ≤ 200 ∧ Hid (Fw w tb B j wr)) (fun i _ => n - (intOf i).toNat)
  case atStart => exact ⟨0, rfl, Nat.zero_le _, Nat.zero_le _, HOn⟩
  case round =>
    obtain ⟨j, rfl, hj, hj2, HR⟩ := hrel
    clear HOn
    by_cases hjn : j < n
    · have hjI : (j : Int) < (n : Int) := by omega
      by_cases hj200 : j < 200
      · have hjJ : (j : Int) < 200 := by omega
        obtain ⟨⟨l, ck, E, hT, hU, hEj⟩, hbel⟩ := HR.out
        have HLs := hid (list_ok hT)
        have HT := hid hT
        have HU := hid (And.intro hU hEj)
        have HBl := hid hbel
        clear hT hU hEj hbel HR
        have hRA := HA.out.below HBl.out
        have hjx : j < xs.length := by rw [HA.out.ln]; exact hjn
        obtain ⟨g, off, rfl, hg, hcs⟩ := hRA.at' (by omega)
        have HRA := hid hRA
        have HCs := hid (hcs j hjx)
        have HG := hid hg
        clear hRA hcs hg
        go_wp2_with fail
        refine HLs.out.mono ?_
        rintro e wa ⟨v, ls, rfl, hrow, hkey, hba⟩
        obtain ⟨so, cp, rfl, hrc⟩ := hrow.rc
        have hlen : ls.length = l.length := by have := congrArg List.length hkey; simpa using this
        have HTa := hid (HT.out.below hba)
        have HTw : Hid (tb < wr.heap.size ∧ B < wr.heap.size) := ⟨node_lt HT.out.blk, HT.out.m.lt⟩
        have HBa := hid (HBl.out.trans (hba.mono HBl.out.size))
        obtain ⟨c0, c1, c2, c3⟩ := HCs.out
        have d0 := (hba.cell (p := ⟨g, off + j * 4, none⟩) HG.out).trans c0
        have d1 := (hba.cell (p := ⟨g, off + j * 4 + 1, none⟩) HG.out).trans c1
        have d2 := (hba.cell (p := ⟨g, off + j * 4 + 2, none⟩) HG.out).trans c2
        have d3 := (hba.cell (p := ⟨g, off + j * 4 + 3, none⟩) HG.out).trans c3
        have HOk := hid ((HRA.out.below hba).ok _ (List.getElem_mem hjx))
        have HSz := hid (HZ.out _ (List.getElem_mem hjx))
        have HKey := hid (And.intro hkey hrc)
        generalize xs[j] = s at *
        clear c0 c1 c2 c3 HCs hrow hkey hrc hba HRA HG HLs HT HBl
        obtain ⟨m, hm⟩ : ∃ m, m = ls.length := ⟨_, rfl⟩
        rw [← hm] at hlen ⊢
        have HM := hid (And.intro hm hlen)
        have hmw : m ≤ 8 := by have := HTa.out.few; omega
        clear hm hlen
        by_cases h0 : s.i = 0
        · rw [h0] at d0
          have HO := hid (open_ok HTa.out s.l HOk.out.2.1)
          generalize s.l = sl at *
          go_wp2_with fail
          refine HO.out.mono ?_
          rintro e wn ⟨l', ck', d, er, rfl, hR, hTn, hk⟩
          obtain ⟨E', hU', hE'⟩ := HU.out.1.open (by have := HU.out.2; omega) hR
          have HNxt := hid (Fw.next (j := j) HBa.out HY.out hTn hk hU' (by have := HU.out.2; omega))
          have HLt := hid (fun X (hX : Below wn.heap.size wn X) => list_ok (hTn.below hX))
          have HR2 := hid hTn.m.1
          have HF2 := hid hTn.few
          have HRr := hid hR
          have HRc : Hid (0 < ls.length → ∃ g, so = some ⟨g, 0, none⟩ ∧ RC wn g ls) := fun hp => by
            obtain ⟨g, h1, h2, h3⟩ := HKey.out.2 (by omega)
            refine ⟨g, h1, h3.kx hk (fun e => ?_)⟩
            have hb := HTa.out
            rcases e with e | e
            · have := node_lt hb.blk; have := HTw.out.1; omega
            · have := hb.m.lt; have := HTw.out.2; omega
          clear hTn hk hU' hE' HO hR
          -- the first of those used least lately
          go_wp2_with fail
          go_loopw [9, 10] (fun le k X => ∃ ln kn : Nat, le = .int .i64 (ln : Int) ∧ k = .int .i64 (kn : Int) ∧ kn ≤ m ∧ Hid (Lst ls kn ln) ∧ Hid (Below wn.heap.size wn X)) (fun _ k _ => m - (intOf k).toNat)
          case atStart => exact ⟨0, 0, rfl, rfl, Nat.zero_le _, ⟨.inr rfl, fun t _ _ h => absurd h (by omega)⟩, Below.refl _ _⟩
          case round =>
            obtain ⟨le, k, rfl, rfl, hkm0, HLe, HX⟩ := hrel
            by_cases hkm : k < m
            · have hkI : (k : Int) < (m : Int) := by omega
              have hkl : k < ls.length := by rw [← HM.out.1]; exact hkm
              have hll : le < ls.length := by
                rcases HLe.out.1 with h | h
                · exact h
                · omega
              have hlm : le < m := by rw [HM.out.1]; exact hll
              have hlI : (le : Int) < (m : Int) := by omega
              obtain ⟨gw, rfl, hrc⟩ := HRc.out (by omega)
              have q0 := ((hrc.below HX.out).at' k hkl).2.2.1
              have q1 := ((hrc.below HX.out).at' le hll).2.2.1
              have HNe : Hid (ls[k].u < ls[le].u → Lst ls (k + 1) k) := fun h => ⟨.inl hkl, fun t ht hl hlt => by
                by_cases e : t = k
                · subst e; exact Int.le_refl _
                · have := HLe.out.2 t ht hll (by omega); omega⟩
              have HNs : Hid (¬ ls[k].u < ls[le].u → Lst ls (k + 1) le) := fun h => ⟨.inl hll, fun t ht hl hlt => by
                by_cases e : t = k
                · subst e; omega
                · exact HLe.out.2 t ht hll (by omega)⟩
              generalize ls[k].u = uk at *
              generalize ls[le].u = ul at *
              clear hrc
              by_cases hul : uk < ul
              · have b1 : decide (uk < ul) = true := by simpa using hul
                have HN2 := hid (HNe.out hul)
                clear HNe HNs
                go_wp2_with fail
                go_quiet (fail)
                go_wp2_with fail
                exact ⟨⟨k, k + 1, rfl, by go_num, by omega, HN2, HX.out.trans ⟨rfl, rfl, rfl, Nat.le_refl _, fun _ _ => rfl⟩⟩, by simp [intOf]; omega⟩
              · have b1 : decide (uk < ul) = false := by simpa using hul
                have HN2 := hid (HNs.out hul)
                clear HNe HNs
                go_wp2_with fail
                go_quiet (fail)
                go_wp2_with fail
                exact ⟨⟨le, k + 1, rfl, by go_num, by omega, HN2, HX.out.trans ⟨rfl, rfl, rfl, Nat.le_refl _, fun _ _ => rfl⟩⟩, by simp [intOf]; omega⟩
            · obtain rfl : k = m := by omega
              have hkI : ¬ (k : Int) < (k : Int) := by omega
              have hlt8 := HTw.out
              rcases HRr.out with ⟨rfl, rfl, _⟩ | ⟨rfl, _, _, _, l1, hd, _⟩
              · -- refused
                have HLt2 := hid (HLt.out wr HX.out)
                have HNxt2 : Hid (∀ Y, Below wr.heap.size wr Y → Fw w tb B (j + 1) Y) := fun Y hY => HNxt.out Y (HX.out.trans (hY.mono HX.out.size))
                clear HRc HLt HNxt HX HLe HRr HTa HKey HU
                unfold errv
                go_wp2_with fail
                refine HLt2.out.mono ?_
                rintro e x7 ⟨v7, ls7, rfl, hrow7, hkey7, hb7⟩
                have hlen7 : ls7.length ≤ 8 := by
                  have := congrArg List.length hkey7
                  simp only [List.length_map] at this
                  rw [this]; exact HF2.out
                obtain ⟨so7, cp7, rfl, hrc7⟩ := hrow7.rc
                have HRi : Hid (∀ (k p : Nat) (hk : k < ls7.length) (hp : p < ls7.length), p < k → ls7[p].i < ls7[k].i) := fun k p hk hp hlt => key_rise hkey7 HR2.out hk hp hlt
                have HRc7 := hid hrc7
                obtain ⟨m7, hm7⟩ : ∃ m7, m7 = ls7.length := ⟨_, rfl⟩
                rw [← hm7] at hlen7 ⊢
                have HM7 := hid hm7
                have HNx7 : Hid (∀ X, Below x7.heap.size x7 X → Fw w tb B (j + 1) X) := fun X hX => HNxt2.out X (hb7.trans (hX.mono hb7.size))
                clear hrow7 hkey7 hb7 hrc7 hm7 HLt2 HNxt2
                have hm8 : ¬ (8 : Int) < (m7 : Int) := by omega
                have hm9 : decide ((8 : Int) < (m7 : Int)) = false := by simpa using hm8
                have hm10 : decide (8 < m7) = false := by simp; omega
                go_wp2_with fail
                go_loopw [12] (fun k X => ∃ kn : Nat, k = .int .i64 (kn : Int) ∧ 1 ≤ kn ∧ Hid (Below x7.heap.size x7 X)) (fun k _ => m7 - (intOf k).toNat)
                case atStart => exact ⟨1, rfl, Nat.le_refl _, Below.refl _ _⟩
                case round =>
                  obtain ⟨k, rfl, hk1, HX⟩ := hrel
                  by_cases hkm : k < m7
                  · have hkI : (k : Int) < (m7 : Int) := by omega
                    have hk7 : k < ls7.length := by rw [← HM7.out]; exact hkm
                    obtain ⟨p, hp⟩ : ∃ p, k = p + 1 := ⟨k - 1, by omega⟩
                    have hp7 : p < ls7.length := by omega
                    obtain ⟨g7, rfl, _, hrc⟩ := HRc7.out (by omega)
                    have hrc' := hrc.below HX.out
                    have q0 := (hrc'.at' k hk7).1
                    have q1 := (hrc'.at' p hp7).1
                    have hw7 : IntKind.i64.wrap ((k : Int) - 1) = (p : Int) := by rw [IntKind.wrap_i64]; omega
                    have hw8 : IntKind.i64.wrap ((k : Int) + 1) = (k : Int) + 1 := by rw [IntKind.wrap_i64]; omega
                    have hpI : (p : Int) < (m7 : Int) := by omega
                    have hpm : p < m7 := by omega
                    have hris := HRi.out k p hk7 hp7 (by omega)
                    have HP := hid hp
                    generalize ls7[k].i = ik at *
                    generalize ls7[p].i = ip at *
                    have hle : ¬ ik ≤ ip := by omega
                    have hle2 : decide (ik ≤ ip) = false := by simpa using hle
                    clear hp hrc hrc' hris hk7 hp7
                    go_wp2_with fail
                    go_quiet (fail)
                    go_wp2_with fail
                    exact ⟨⟨k + 1, by go_num, by omega, HX.out.trans ⟨rfl, rfl, rfl, Nat.le_refl _, fun _ _ => rfl⟩⟩, by simp [intOf]; omega⟩
                  · have hkI : ¬ (k : Int) < (m7 : Int) := by omega
                    have hkd : decide ((k : Int) < (m7 : Int)) = false := by simpa using hkI
                    have hkd2 : decide (k < m7) = false := by simpa using hkm
                    have HFin := hid (HNx7.out _ HX.out)
                    clear HRc7 HRi
                    go_wp2_with fail
                    exact ⟨⟨j + 1, by go_num, by omega, by omega, HFin⟩, by simp [intOf]; omega⟩
              · have HLt2 := hid (HLt.out wr HX.out)
                have HNxt2 : Hid (∀ Y, Below wr.heap.size wr Y → Fw w tb B (j + 1) Y) := fun Y hY => HNxt.out Y (HX.out.trans (hY.mono HX.out.size))
                rcases hd with ⟨h8, _, rfl⟩ | ⟨h8, mm, hmm, hmin, rfl, _⟩
                · have hk8 : k ≠ 8 := by have := HM.out.2; omega
                  have hk8b : ((k : Int) == 8) = false := by simp; omega
                  have hk8c : (k == 8) = false := by simpa using hk8
                  clear HRc HLt HNxt HX HLe HRr HTa HKey HU
                  go_wp2_with fail
                  refine HLt2.out.mono ?_
                  rintro e x7 ⟨v7, ls7, rfl, hrow7, hkey7, hb7⟩
                  have hlen7 : ls7.length ≤ 8 := by
                    have := congrArg List.length hkey7
                    simp only [List.length_map] at this
                    rw [this]; exact HF2.out
                  obtain ⟨so7, cp7, rfl, hrc7⟩ := hrow7.rc
                  have HRi : Hid (∀ (k p : Nat) (hk : k < ls7.length) (hp : p < ls7.length), p < k → ls7[p].i < ls7[k].i) := fun k p hk hp hlt => key_rise hkey7 HR2.out hk hp hlt
                  have HRc7 := hid hrc7
                  obtain ⟨m7, hm7⟩ : ∃ m7, m7 = ls7.length := ⟨_, rfl⟩
                  rw [← hm7] at hlen7 ⊢
                  have HM7 := hid hm7
                  have HNx7 : Hid (∀ X, Below x7.heap.size x7 X → Fw w tb B (j + 1) X) := fun X hX => HNxt2.out X (hb7.trans (hX.mono hb7.size))
                  clear hrow7 hkey7 hb7 hrc7 hm7 HLt2 HNxt2
                  have hm8 : ¬ (8 : Int) < (m7 : Int) := by omega
                  have hm9 : decide ((8 : Int) < (m7 : Int)) = false := by simpa using hm8
                  have hm10 : decide (8 < m7) = false := by simp; omega
                  go_wp2_with fail
                  go_loopw [12] (fun k X => ∃ kn : Nat, k = .int .i64 (kn : Int) ∧ 1 ≤ kn ∧ Hid (Below x7.heap.size x7 X)) (fun k _ => m7 - (intOf k).toNat)
                  case atStart => exact ⟨1, rfl, Nat.le_refl _, Below.refl _ _⟩
                  case round =>
                    obtain ⟨k, rfl, hk1, HX⟩ := hrel
                    by_cases hkm : k < m7
                    · have hkI : (k : Int) < (m7 : Int) := by omega
                      have hk7 : k < ls7.length := by rw [← HM7.out]; exact hkm
                      obtain ⟨p, hp⟩ : ∃ p, k = p + 1 := ⟨k - 1, by omega⟩
                      have hp7 : p < ls7.length := by omega
                      obtain ⟨g7, rfl, _, hrc⟩ := HRc7.out (by omega)
                      have hrc' := hrc.below HX.out
                      have q0 := (hrc'.at' k hk7).1
                      have q1 := (hrc'.at' p hp7).1
                      have hw7 : IntKind.i64.wrap ((k : Int) - 1) = (p : Int) := by rw [IntKind.wrap_i64]; omega
                      have hw8 : IntKind.i64.wrap ((k : Int) + 1) = (k : Int) + 1 := by rw [IntKind.wrap_i64]; omega
                      have hpI : (p : Int) < (m7 : Int) := by omega
                      have hpm : p < m7 := by omega
                      have hris := HRi.out k p hk7 hp7 (by omega)
                      have HP := hid hp
                      generalize ls7[k].i = ik at *
                      generalize ls7[p].i = ip at *
                      have hle : ¬ ik ≤ ip := by omega
                      have hle2 : decide (ik ≤ ip) = false := by simpa using hle
                      clear hp hrc hrc' hris hk7 hp7
                      go_wp2_with fail
                      go_quiet (fail)
                      go_wp2_with fail
                      exact ⟨⟨k + 1, by go_num, by omega, HX.out.trans ⟨rfl, rfl, rfl, Nat.le_refl _, fun _ _ => rfl⟩⟩, by simp [intOf]; omega⟩
                    · have hkI : ¬ (k : Int) < (m7 : Int) := by omega
                      have hkd : decide ((k : Int) < (m7 : Int)) = false := by simpa using hkI
                      have hkd2 : decide (k < m7) = false := by simpa using hkm
                      have HFin := hid (HNx7.out _ HX.out)
                      clear HRc7 HRi
                      go_wp2_with fail
                      exact ⟨⟨j + 1, by go_num, by omega, by omega, HFin⟩, by simp [intOf]; omega⟩
                · have hk8 : k = 8 := by have := HM.out.2; omega
                  have hll : le < ls.length := by
                    rcases HLe.out.1 with h | h
                    · exact h
                    · have := HM.out.1; omega
                  obtain ⟨hl2, hke⟩ := key_at HKey.out.1 hll
                  have hid1 : ls[le].i = mm.i := by
                    have e1 : ls[le].i = l[le].i := congrArg (fun x => x.1) hke
                    have e2 : ls[le].u = l[le].u := congrArg (fun x => x.2.2.1) hke
                    have : mm = l[le] := HU.out.1.least HTa.out.m.1 hmm (List.getElem_mem hl2) hmin (fun t ht => by
                      obtain ⟨i, hi, rfl⟩ := List.getElem_of_mem ht
                      have hi2 : i < ls.length := by have := HM.out.1; have := HM.out.2; omega
                      obtain ⟨_, hki⟩ := key_at HKey.out.1 hi2
                      have e3 : ls[i].u = l[i].u := congrArg (fun x => x.2.2.1) hki
                      have := HLe.out.2 i hi2 hll (by have := HM.out.1; omega)
                      omega)
                    rw [e1, this]
                  obtain ⟨gw, rfl, hrc⟩ := HRc.out (by omega)
                  have q0 := ((hrc.below HX.out).at' le hll).1
                  rw [hid1] at q0
                  have hpos := (HTa.out.ok mm hmm).id1
                  have hlI : (le : Int) < (k : Int) := by have := HM.out.1; omega
                  have hlN : le < k := by have := HM.out.1; omega
                  generalize mm.i = d at *
                  have hd0 : d ≠ 0 := by omega
                  have hd1 : (d != 0) = true := by simpa using hd0
                  subst hk8
                  clear HRc HLt HNxt HX HLe HRr HTa HKey HU hrc hmm hmin hid1 hke
                  go_wp2_with fail
                  refine HLt2.out.mono ?_
                  rintro e x7 ⟨v7, ls7, rfl, hrow7, hkey7, hb7⟩
                  have hlen7 : ls7.length ≤ 8 := by
                    have := congrArg List.length hkey7
                    simp only [List.length_map] at this
                    rw [this]; exact HF2.out
                  obtain ⟨so7, cp7, rfl, hrc7⟩ := hrow7.rc
                  have HRi : Hid (∀ (k p : Nat) (hk : k < ls7.length) (hp : p < ls7.length), p < k → ls7[p].i < ls7[k].i) := fun k p hk hp hlt => key_rise hkey7 HR2.out hk hp hlt
                  have HRc7 := hid hrc7
                  obtain ⟨m7, hm7⟩ : ∃ m7, m7 = ls7.length := ⟨_, rfl⟩
                  rw [← hm7] at hlen7 ⊢
                  have HM7 := hid hm7
                  have HNx7 : Hid (∀ X, Below x7.heap.size x7 X → Fw w tb B (j + 1) X) := fun X hX => HNxt2.out X (hb7.trans (hX.mono hb7.size))
                  clear hrow7 hkey7 hb7 hrc7 hm7 HLt2 HNxt2
                  have hm8 : ¬ (8 : Int) < (m7 : Int) := by omega
                  have hm9 : decide ((8 : Int) < (m7 : Int)) = false := by simpa using hm8
                  have hm10 : decide (8 < m7) = false := by simp; omega
                  go_wp2_with fail
                  go_loopw [12] (fun k X => ∃ kn : Nat, k = .int .i64 (kn : Int) ∧ 1 ≤ kn ∧ Hid (Below x7.heap.size x7 X)) (fun k _ => m7 - (intOf k).toNat)
                  case atStart => exact ⟨1, rfl, Nat.le_refl _, Below.refl _ _⟩
                  case round =>
                    obtain ⟨k, rfl, hk1, HX⟩ := hrel
                    by_cases hkm : k < m7
                    · have hkI : (k : Int) < (m7 : Int) := by omega
                      have hk7 : k < ls7.length := by rw [← HM7.out]; exact hkm
                      obtain ⟨p, hp⟩ : ∃ p, k = p + 1 := ⟨k - 1, by omega⟩
                      have hp7 : p < ls7.length := by omega
                      obtain ⟨g7, rfl, _, hrc⟩ := HRc7.out (by omega)
                      have hrc' := hrc.below HX.out
                      have q0 := (hrc'.at' k hk7).1
                      have q1 := (hrc'.at' p hp7).1
                      have hw7 : IntKind.i64.wrap ((k : Int) - 1) = (p : Int) := by rw [IntKind.wrap_i64]; omega
                      have hw8 : IntKind.i64.wrap ((k : Int) + 1) = (k : Int) + 1 := by rw [IntKind.wrap_i64]; omega
                      have hpI : (p : Int) < (m7 : Int) := by omega
                      have hpm : p < m7 := by omega
                      have hris := HRi.out k p hk7 hp7 (by omega)
                      have HP := hid hp
                      generalize ls7[k].i = ik at *
                      generalize ls7[p].i = ip at *
                      have hle : ¬ ik ≤ ip := by omega
                      have hle2 : decide (ik ≤ ip) = false := by simpa using hle
                      clear hp hrc hrc' hris hk7 hp7
                      go_wp2_with fail
                      go_quiet (fail)
                      go_wp2_with fail
                      exact ⟨⟨k + 1, by go_num, by omega, HX.out.trans ⟨rfl, rfl, rfl, Nat.le_refl _, fun _ _ => rfl⟩⟩, by simp [intOf]; omega⟩
                    · have hkI : ¬ (k : Int) < (m7 : Int) := by omega
                      have hkd : decide ((k : Int) < (m7 : Int)) = false := by simpa using hkI
                      have hkd2 : decide (k < m7) = false := by simpa using hkm
                      have HFin := hid (HNx7.out _ HX.out)
                      clear HRc7 HRi
                      go_wp2_with fail
                      exact ⟨⟨j + 1, by go_num, by omega, by omega, HFin⟩, by simp [intOf]; omega⟩
        · have HDo := hid (do_ok (HE.out.below HBa.out HEn.out) HTa.out (by rintro (e | e) <;> (have := HY.out; have := HEn.out; omega)) s HOk.out.1 HOk.out.2.1 HOk.out.2.2.1 HOk.out.2.2.2 HSz.out)
          have a0 : (s.i == 0) = false := by simpa using h0
          have HS0 : Hid (∃ t, t = s) := ⟨s, rfl⟩
          obtain ⟨si, sl, su, so2, sn, sc, sb⟩ := s
          dsimp only at d0 d1 d2 d3 a0 h0 HDo
          go_wp2_with fail
          refine HDo.out.mono ?_
          rintro e wn ⟨l', ck', r, T, rfl, hD, hTn, hk⟩
          obtain ⟨E', hU', hE'⟩ := HU.out.1.do (by have := HU.out.2; omega) hD
          have HNxt := hid (Fw.next (j := j) HBa.out HY.out hTn hk hU' (by have := HU.out.2; omega))
          have HLt := hid (list_ok hTn)
          have HR2 := hid hTn.m.1
          have HF2 := hid hTn.few
          clear hD hTn hk hU' hE' HDo HU HTa HKey
          go_wp2_with fail
          refine HLt.out.mono ?_
          rintro e x7 ⟨v7, ls7, rfl, hrow7, hkey7, hb7⟩
          have hlen7 : ls7.length ≤ 8 := by
            have := congrArg List.length hkey7
            simp only [List.length_map] at this
            rw [this]; exact HF2.out
          obtain ⟨so7, cp7, rfl, hrc7⟩ := hrow7.rc
          have HRi : Hid (∀ (k p : Nat) (hk : k < ls7.length) (hp : p < ls7.length), p < k → ls7[p].i < ls7[k].i) := fun k p hk hp hlt => key_rise hkey7 HR2.out hk hp hlt
          have HRc7 := hid hrc7
          obtain ⟨m7, hm7⟩ : ∃ m7, m7 = ls7.length := ⟨_, rfl⟩
          rw [← hm7] at hlen7 ⊢
          have HM7 := hid hm7
          have HNx7 : Hid (∀ X, Below x7.heap.size x7 X → Fw w tb B (j + 1) X) := fun X hX => HNxt.out X (hb7.trans (hX.mono hb7.size))
          clear hrow7 hkey7 hb7 hrc7 hm7 HLt HNxt
          have hm8 : ¬ (8 : Int) < (m7 : Int) := by omega
          have hm9 : decide ((8 : Int) < (m7 : Int)) = false := by simpa using hm8
          have hm10 : decide (8 < m7) = false := by simp; omega
          go_wp2_with fail
          go_loopw [12] (fun k X => ∃ kn : Nat, k = .int .i64 (kn : Int) ∧ 1 ≤ kn ∧ Hid (Below x7.heap.size x7 X)) (fun k _ => m7 - (intOf k).toNat)
          case atStart => exact ⟨1, rfl, Nat.le_refl _, Below.refl _ _⟩
          case round =>
            obtain ⟨k, rfl, hk1, HX⟩ := hrel
            by_cases hkm : k < m7
            · have hkI : (k : Int) < (m7 : Int) := by omega
              have hk7 : k < ls7.length := by rw [← HM7.out]; exact hkm
              obtain ⟨p, hp⟩ : ∃ p, k = p + 1 := ⟨k - 1, by omega⟩
              have hp7 : p < ls7.length := by omega
              obtain ⟨g7, rfl, _, hrc⟩ := HRc7.out (by omega)
              have hrc' := hrc.below HX.out
              have q0 := (hrc'.at' k hk7).1
              have q1 := (hrc'.at' p hp7).1
              have hw7 : IntKind.i64.wrap ((k : Int) - 1) = (p : Int) := by rw [IntKind.wrap_i64]; omega
              have hw8 : IntKind.i64.wrap ((k : Int) + 1) = (k : Int) + 1 := by rw [IntKind.wrap_i64]; omega
              have hpI : (p : Int) < (m7 : Int) := by omega
              have hpm : p < m7 := by omega
              have hris := HRi.out k p hk7 hp7 (by omega)
              have HP := hid hp
              generalize ls7[k].i = ik at *
              generalize ls7[p].i = ip at *
              have hle : ¬ ik ≤ ip := by omega
              have hle2 : decide (ik ≤ ip) = false := by simpa using hle
              clear hp hrc hrc' hris hk7 hp7
              go_wp2_with fail
              go_quiet (fail)
              go_wp2_with fail
              exact ⟨⟨k + 1, by go_num, by omega, HX.out.trans ⟨rfl, rfl, rfl, Nat.le_refl _, fun _ _ => rfl⟩⟩, by simp [intOf]; omega⟩
            · have hkI : ¬ (k : Int) < (m7 : Int) := by omega
              have hkd : decide ((k : Int) < (m7 : Int)) = false := by simpa using hkI
              have hkd2 : decide (k < m7) = false := by simpa using hkm
              have HFin := hid (HNx7.out _ HX.out)
              clear HRc7 HRi
              go_wp2_with fail
              exact ⟨⟨j + 1, by go_num, by omega, by omega, HFin⟩, by simp [intOf]; omega⟩
      · obtain rfl : j = 200 := by omega
        have HBn := hid HR.out.bel
        clear HR
        go_wp2_with fail
        go_ret
        exact ⟨rfl, HBn.out⟩
    · obtain rfl : n = j := by omega
      have HBn := hid HR.out.bel
      clear HR
      go_wp2_with fail
      go_ret
      exact ⟨rfl, HBn.out⟩
end Go.Proofs.YtjhclpionimjbaaDoor
