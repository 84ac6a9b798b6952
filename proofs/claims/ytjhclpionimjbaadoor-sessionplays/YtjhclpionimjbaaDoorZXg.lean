/-
  The document's Restore: the walk. Conditions: those that each theorem names.
-/
import Derived.Test.YtjhclpionimjbaaDoorZXe
namespace Go.Proofs.YtjhclpionimjbaaDoor
open Go.RowKit Go.Maps
set_option linter.unusedVariables false
theorem RX.bad {w X : World} {xb : Nat} {ls : List Sx} {ck : Int} {k : Nat} (h : RX w xb ls ck k X) {Y : World} (hb : Below w.heap.size w Y) (hn : resB ls ck = false) : RestX w ls ck (.returned (.tuple #[.pointer none, .int .i64 1])) Y := ⟨hb, .inl ⟨hn, rfl⟩⟩
theorem res_not {ls : List Sx} {ck : Int} (h : resB ls ck = true → False) : resB ls ck = false := by
  cases e : resB ls ck with
  | false => rfl
  | true => exact absurd e h
set_option maxRecDepth 100000 in
set_option maxHeartbeats 16000000 in
theorem restorex_ok {w : World} {a : Option Addr} {n cap : Nat} {ls : List Sx} (h : RowA w a n cap ls) (ck : Int) (hck : inI ck) :
    Calls Tryd.prog 9 #[.slice a n cap, .int .i64 ck] w (RestX w ls ck) := by
  have HA := hid h
  have hnl := h.ln
  have hnm := h.le
  have hnI : (n : Int) ≤ 9223372036854775807 := by unfold maxLen at hnm; omega
  have HNl := hid hnl
  have HCk := hid hck
  clear h hnm hck
  by_cases h0 : ck < 0
  · have hb : Hid (RestX w ls ck (.returned (.tuple #[.pointer none, .int .i64 1])) w) := ⟨Below.refl _ _, .inl ⟨res_not (fun e => by have := (res_facts e).1; omega), rfl⟩⟩
    have a0 : decide (ck < 0) = true := by simpa using h0
    go_enter Tryd.func9, Tryd.ntmps9
    go_wp2_with fail
    refine bodyPost_ret (v := .tuple #[.pointer none, .int .i64 1]) (by simp [results, Tryd.results9, go_sem]) rfl ?_
    exact hb.out
  · have a0 : decide (ck < 0) = false := by simpa using h0
    by_cases h8 : 8 < n
    · have hb : Hid (RestX w ls ck (.returned (.tuple #[.pointer none, .int .i64 1])) w) := ⟨Below.refl _ _, .inl ⟨res_not (fun e => by have := (res_facts e).2.1; omega), rfl⟩⟩
      have a1 : (8 : Int) < (n : Int) := by omega
      have a2 : decide ((8 : Int) < (n : Int)) = true := by simpa using a1
      have a3 : decide (8 < n) = true := by simpa using h8
      clear hnl
      go_enter Tryd.func9, Tryd.ntmps9
      go_wp2_with fail
      refine bodyPost_ret (v := .tuple #[.pointer none, .int .i64 1]) (by simp [results, Tryd.results9, go_sem]) rfl ?_
      exact hb.out
    · have a1 : ¬ (8 : Int) < (n : Int) := by omega
      have a2 : decide ((8 : Int) < (n : Int)) = false := by simpa using a1
      have a3 : decide (8 < n) = false := by simpa using h8
      have H0 := hid h0
      have H8 := hid h8
      obtain ⟨w1, hw1⟩ : ∃ w1, w1 = w.alloc (.cells #[.slice none 0 0, .int .i64 ck] 38) := ⟨_, rfl⟩
      have hb1 : Below w.heap.size w w1 := by rw [hw1]; exact below_al w _
      have hX1 : Xt w1 w.heap.size w.heap.size (.slice none 0 0) [] ck := ⟨by rw [hw1]; exact new_block_at w _ rfl, RowS.nil _ _, Nat.le_refl _, hb1.size, by simp, by simp, HCk.out⟩
      have HR0 : Hid (RX w w.heap.size ls ck 0 w1) := ⟨⟨_, [], hX1, rfl⟩, ⟨by simp, by simp [Rise], by simp⟩, hb1⟩
      have HW1 := hid hw1
      clear hnl hw1 hb1 hX1
      go_enter Tryd.func9, Tryd.ntmps9
      go_wp2_with fail
      rw [← HW1.out]
      clear HW1
      obtain ⟨xb, hxb⟩ : ∃ xb, xb = w.heap.size := ⟨_, rfl⟩
      rw [← hxb]
      have HXb := hid hxb
      rw [← hxb] at HR0
      clear hxb
      go_loopw [7] (fun i wr => ∃ k : Nat, i = .int .i64 (k : Int) ∧ k ≤ n ∧ Hid (RX w xb ls ck k wr)) (fun i _ => n - (intOf i).toNat)
      case atStart => exact ⟨0, rfl, Nat.zero_le _, HR0⟩
      case round =>
        obtain ⟨k, rfl, hk, HR⟩ := hrel
        clear HR0
        by_cases hkn : k < n
        · have hkI : (k : Int) < (n : Int) := by omega
          have hrow := HA.out.below HR.out.bel
          have hkx : k < ls.length := by rw [HNl.out]; exact hkn
          obtain ⟨g, off, rfl, hg, hcs⟩ := hrow.at' (by omega)
          obtain ⟨q0, q1, q2, q3⟩ := hcs k hkx
          obtain ⟨wa, hwa⟩ : ∃ wa, wa = wr.alloc (.cells #[.int .i64 ls[k].i, .int .i64 ls[k].l, .int .i64 ls[k].u, .slice ls[k].o ls[k].n ls[k].c] 59) := ⟨_, rfl⟩
          have hba : Below wr.heap.size wr wa := by rw [hwa]; exact below_al wr _
          have qa : wa.heap[wr.heap.size]? = some (.cells #[.int .i64 ls[k].i, .int .i64 ls[k].l, .int .i64 ls[k].u, .slice ls[k].o ls[k].n ls[k].c] 59) := by rw [hwa]; exact new_block_at wr _ rfl
          have s0 := (cell_in qa 0 _ rfl).1
          have s1 := (cell_in qa 1 _ rfl).1
          have s2 := (cell_in qa 2 _ rfl).1
          have s3 := (cell_in qa 3 _ rfl).1
          have hp : ∀ h0 : 0 < k, wa.cell? ⟨g, off + (k - 1) * 4, none⟩ = some (.int .i64 (ls[k - 1]'(by omega)).i) := fun h0 => (hba.cell (p := ⟨g, off + (k - 1) * 4, none⟩) hg).trans (hcs (k - 1) (by omega)).1
          have HUs : Hid (∀ X, Below wa.heap.size wa X → ∀ j (hj : j < ls.length), X.cell? ⟨g, off + j * 4 + 2, none⟩ = some (.int .i64 ls[j].u)) := fun X hX j hj => (hX.cell (p := ⟨g, off + j * 4 + 2, none⟩) (Nat.lt_of_lt_of_le hg hba.size)).trans ((hba.cell (p := ⟨g, off + j * 4 + 2, none⟩) hg).trans (hcs j hj).2.2.1)
          have hI := hrow.ok _ (List.getElem_mem hkx)
          have HBa := hid (HR.out.bel.trans (hba.mono HR.out.bel.size))
          have HBd : Hid (∀ X, Below wa.heap.size wa X → Below w.heap.size w X) := fun X hX => HBa.out.trans (hX.mono HBa.out.size)
          have HMay : Hid (resB ls ck = true → MayB ls[k] ck) := fun e => (res_facts e).2.2.1 _ (List.getElem_mem hkx)
          have HPr : Hid (∀ h0 : 0 < k, resB ls ck = true → (ls[k - 1]'(by omega)).i < ls[k].i) := fun h0 e => List.pairwise_iff_getElem.1 (res_facts e).2.2.2.1 (k - 1) k (by omega) hkx (by omega)
          have HPu : Hid (∀ j (hj : j < ls.length), j < k → resB ls ck = true → ls[j].u ≠ ls[k].u) := fun j hj hjk e => by
            have h1 := (res_facts e).2.2.2.2
            unfold List.Nodup at h1
            rw [List.pairwise_map] at h1
            exact List.pairwise_iff_getElem.1 h1 j k hj hkx hjk
          have HNx : Hid (∀ (X : World) (o' : Option Addr) (c' : Nat) (v' : Value) (lk : List Sx), MayB ls[k] ck → (∀ h0 : 0 < k, (ls[k - 1]'(by omega)).i < ls[k].i) → (∀ j (hj : j < ls.length), j < k → ls[j].u ≠ ls[k].u) → lk.map key = (ls.take k).map key → Xt X w.heap.size xb v' (lk ++ [⟨ls[k].i, ls[k].l, ls[k].u, o', ls[k].n, c', ls[k].b⟩]) ck → Below w.heap.size w X → RX w xb ls ck (k + 1) X) := fun X o' c' v' lk m1 m2 m3 hke hX hb => ⟨⟨v', _, hX, by rw [List.take_succ_eq_append_getElem hkx, List.map_append, List.map_append, hke]; rfl⟩, HR.out.g.next hkx m1 m2 m3, hb⟩
          obtain ⟨⟨v, lk, hX, hke⟩, _, _⟩ := HR.out
          have hlk : lk.length = k := by have := congrArg List.length hke; simp at this; omega
          obtain ⟨so, cp, rfl⟩ := row_slice hX.row.own
          have hXa := hX.below hba
          have HXa := hid hXa
          have HKe := hid (And.intro hke hlk)
          have HIa := hid hI
          have hHa := hI.2.2.2.below hba
          have HHa := hid hHa
          have HOb : Hid (∀ g, ownX xb (.slice so lk.length cp) g → g ≠ wr.heap.size) := fun g hg e => by
            have h1 : g < wr.heap.size := by
              rcases hg with rfl | hg
              · exact node_lt hX.blk
              · exact (row_not hX.row.own g hg).2.2
            omega
          have HQa : Hid (ES xb wr.heap.size (.slice so lk.length cp) ls[k].i ls[k].l ls[k].u (.slice ls[k].o ls[k].n ls[k].c) wa) := ⟨hXa.cells.1, qa, node_lt hXa.blk⟩
          have HSz : Hid (w.heap.size ≤ wr.heap.size) := HR.out.bel.size
          have HWa := hid hwa
          have hUs := HPu
          clear hrow hwa hba qa hX hXa hke hI hHa HR hUs hlk
          obtain ⟨s, hs⟩ : ∃ s, s = ls[k] := ⟨_, rfl⟩
          rw [← hs] at q0 q1 q2 q3 s0 s1 s2 s3 HMay HPr HPu HNx HIa HHa HQa HWa
          obtain ⟨si, sl, su, t0, sn, sc, sb⟩ := s
          dsimp only at q0 q1 q2 q3 s0 s1 s2 s3 HMay HPr HPu HNx HIa HHa HQa HWa
          clear hcs hg hs
          have hsnI : (sn : Int) ≤ 9223372036854775807 := by have h1 := HHa.out.2.2.1; have h2 := HHa.out.2.1; unfold maxLen at h1; omega
          obtain ⟨wq, hwq⟩ : ∃ wq, wq = wr := ⟨_, rfl⟩
          subst hwq
          by_cases c1 : si < 1
          · have c1d : decide (si < 1) = true := by simpa using c1
            have hbad : Hid (resB ls ck = false) := res_not (fun e => by have := (HMay.out e).2.1; simp only at this; omega)
            clear HUs HPr HPu HNx HMay HXa HKe HIa HHa HOb HQa HSz
            go_wp2_with fail
            rw [← HWa.out]
            go_quiet (fail)
            go_wp2_with fail
            refine bodyPost_ret (v := .tuple #[.pointer none, .int .i64 1]) (by simp [results, Tryd.results9, go_sem]) rfl ?_
            exact ⟨HBd.out _ ⟨rfl, rfl, rfl, Nat.le_refl _, fun _ _ => rfl⟩, .inl ⟨hbad.out, rfl⟩⟩
          · have c1d : decide (si < 1) = false := by simpa using c1
            by_cases hk0 : 0 < k
            · have hkp : (0 : Int) < (k : Int) := by omega
              have hkpd : decide ((0 : Int) < (k : Int)) = true := by simpa using hkp
              have hkpn : decide (0 < k) = true := by simpa using hk0
              have hw1 : IntKind.i64.wrap ((k : Int) - 1) = ((k - 1 : Nat) : Int) := by rw [IntKind.wrap_i64]; omega
              have hk1 : ((k - 1 : Nat) : Int) < (n : Int) := by omega
              have p0 := hp hk0
              have HPr0 := hid (HPr.out hk0)
              obtain ⟨pv, hpv⟩ : ∃ pv, pv = (ls[k - 1]'(by omega)).i := ⟨_, rfl⟩
              rw [← hpv] at p0 HPr0
              have HPe := hid hpv
              clear hp hpv
              by_cases c2 : si ≤ pv
              · have c2d : decide (si ≤ pv) = true := by simpa using c2
                have hbad : Hid (resB ls ck = false) := res_not (fun e => by have := HPr0.out e; omega)
                clear HUs HPr HPu HNx HMay HXa HKe HIa HHa HOb HQa HSz
                go_wp2_with fail
                rw [← HWa.out]
                go_quiet (fail)
                go_wp2_with fail
                refine bodyPost_ret (v := .tuple #[.pointer none, .int .i64 1]) (by simp [results, Tryd.results9, go_sem]) rfl ?_
                exact ⟨HBd.out _ ⟨rfl, rfl, rfl, Nat.le_refl _, fun _ _ => rfl⟩, .inl ⟨hbad.out, rfl⟩⟩
              · have c2d : decide (si ≤ pv) = false := by simpa using c2
                by_cases c3 : su < 1
                · have c3d : decide (su < 1) = true := by simpa using c3
                  have hbad : Hid (resB ls ck = false) := res_not (fun e => by have := (HMay.out e).2.2.2.1; simp only at this; omega)
                  clear HUs HPr HPu HNx HMay HXa HKe HIa HHa HOb HQa HSz
                  go_wp2_with fail
                  rw [← HWa.out]
                  go_quiet (fail)
                  go_wp2_with fail
                  refine bodyPost_ret (v := .tuple #[.pointer none, .int .i64 1]) (by simp [results, Tryd.results9, go_sem]) rfl ?_
                  exact ⟨HBd.out _ ⟨rfl, rfl, rfl, Nat.le_refl _, fun _ _ => rfl⟩, .inl ⟨hbad.out, rfl⟩⟩
                · have c3d : decide (su < 1) = false := by simpa using c3
                  by_cases c4 : ck < su
                  · have c4d : decide (ck < su) = true := by simpa using c4
                    have hbad : Hid (resB ls ck = false) := res_not (fun e => by have := (HMay.out e).2.2.2.2.1; simp only at this; omega)
                    clear HUs HPr HPu HNx HMay HXa HKe HIa HHa HOb HQa HSz
                    go_wp2_with fail
                    rw [← HWa.out]
                    go_quiet (fail)
                    go_wp2_with fail
                    refine bodyPost_ret (v := .tuple #[.pointer none, .int .i64 1]) (by simp [results, Tryd.results9, go_sem]) rfl ?_
                    exact ⟨HBd.out _ ⟨rfl, rfl, rfl, Nat.le_refl _, fun _ _ => rfl⟩, .inl ⟨hbad.out, rfl⟩⟩
                  · have c4d : decide (ck < su) = false := by simpa using c4
                    by_cases c5 : sl < 0
                    · have c5d : decide (sl < 0) = true := by simpa using c5
                      have hbad : Hid (resB ls ck = false) := res_not (fun e => by have := (HMay.out e).2.2.1; simp only at this; omega)
                      clear HUs HPr HPu HNx HMay HXa HKe HIa HHa HOb HQa HSz
                      go_wp2_with fail
                      rw [← HWa.out]
                      go_quiet (fail)
                      go_wp2_with fail
                      refine bodyPost_ret (v := .tuple #[.pointer none, .int .i64 1]) (by simp [results, Tryd.results9, go_sem]) rfl ?_
                      exact ⟨HBd.out _ ⟨rfl, rfl, rfl, Nat.le_refl _, fun _ _ => rfl⟩, .inl ⟨hbad.out, rfl⟩⟩
                    · have c5d : decide (sl < 0) = false := by simpa using c5
                      by_cases hl0 : sl = 0
                      · have hlb : (sl == 0) = true := by simpa using hl0
                        have HL0 := hid hl0
                        clear hl0
                        by_cases hz : 0 < sn
                        · have hzI : (0 : Int) < (sn : Int) := by omega
                          have hzd : decide ((0 : Int) < (sn : Int)) = true := by simpa using hzI
                          have hbad : Hid (resB ls ck = false) := res_not (fun e => by have := (HMay.out e).1 HL0.out; simp only at this; omega)
                          clear HUs HPr HPu HNx HMay HXa HKe HIa HHa HOb HQa HSz
                          go_wp2_with fail
                          rw [← HWa.out]
                          go_quiet (fail)
                          go_wp2_with fail
                          refine bodyPost_ret (v := .tuple #[.pointer none, .int .i64 1]) (by simp [results, Tryd.results9, go_sem]) rfl ?_
                          exact ⟨HBd.out _ ⟨rfl, rfl, rfl, Nat.le_refl _, fun _ _ => rfl⟩, .inl ⟨hbad.out, rfl⟩⟩
                        · have hzI : ¬ (0 : Int) < (sn : Int) := by omega
                          have hzd : decide ((0 : Int) < (sn : Int)) = false := by simpa using hzI
                          have hzn : decide (0 < sn) = false := by simpa using hz
                          have HZ0 : Hid (sn = 0) := hid (by omega)
                          have c7 : ¬ (16384 : Int) < (sn : Int) := by omega
                          have c7d : decide ((16384 : Int) < (sn : Int)) = false := by simpa using c7
                          have c7n : decide (16384 < sn) = false := by simp; omega
                          clear hz
                          have HMy : Hid (MayB ⟨si, sl, su, t0, sn, sc, sb⟩ ck) := ⟨fun e => HZ0.out, (by dsimp only; omega), (by dsimp only; omega), (by dsimp only; omega), (by dsimp only; omega), (by dsimp only; omega)⟩
                          have HPv : Hid (∀ h0 : 0 < k, (ls[k - 1]'(by omega)).i < si) := fun h0 => by rw [← HPe.out]; omega
                          go_wp2_with fail
                          rw [← HWa.out]
                          go_quiet (fail)
                          go_wp2_with fail
                          go_loopw [9] (fun i wr => ∃ j : Nat, i = .int .i64 (j : Int) ∧ j ≤ k ∧ Hid (Below wa.heap.size wa wr ∧ ∀ t (ht : t < ls.length), t < j → ls[t].u ≠ su)) (fun i _ => k - (intOf i).toNat)
                          case atStart => exact ⟨0, rfl, Nat.zero_le _, hid ⟨⟨rfl, rfl, rfl, Nat.le_refl _, fun _ _ => rfl⟩, fun t _ ht => absurd ht (by omega)⟩⟩
                          case round =>
                            obtain ⟨j, rfl, hj, HB⟩ := hrel
                            clear q0 q1 q2 q3 s0 s1 s2 s3
                            by_cases hjk : j < k
                            · have hjI : (j : Int) < (k : Int) := by omega
                              have hjN : (j : Int) < (n : Int) := by omega
                              have hjl : j < ls.length := by omega
                              have p2 := HUs.out _ HB.out.1 j hjl
                              have e2 := (HQa.out.kx (L := fun _ => False) (.below HB.out.1) (fun e => e) (fun e => e)).cells.2.2.2.1
                              by_cases heq : ls[j].u = su
                              · have hbad : Hid (resB ls ck = false) := res_not (fun e => HPu.out j hjl hjk e heq)
                                rw [heq] at p2
                                clear HUs HPr HPu HNx HMay HXa HKe HIa HHa HOb HQa HSz
                                go_wp2_with fail
                                go_quiet (fail)
                                go_wp2_with fail
                                refine bodyPost_ret (v := .tuple #[.pointer none, .int .i64 1]) (by simp [results, Tryd.results9, go_sem]) rfl ?_
                                exact ⟨HBd.out _ (HB.out.1.trans ⟨rfl, rfl, rfl, Nat.le_refl _, fun _ _ => rfl⟩), .inl ⟨hbad.out, rfl⟩⟩
                              · have HN : Hid (∀ t (ht : t < ls.length), t < j + 1 → ls[t].u ≠ su) := fun t ht h => by
                                  rcases Nat.lt_or_eq_of_le (Nat.le_of_lt_succ h) with h | rfl
                                  · exact HB.out.2 t ht h
                                  · exact heq
                                have b1 : (ls[j].u == su) = false := by simpa using heq
                                have HBk := HB
                                generalize ls[j].u = y at p2 b1 heq
                                clear HUs HPr HPu HNx HMay HXa HKe HIa HHa HOb HQa HSz HMy HPv
                                go_wp2_with fail
                                go_quiet (fail)
                                go_wp2_with fail
                                exact ⟨⟨j + 1, by go_num, by omega, hid ⟨HBk.out.1.trans ⟨rfl, rfl, rfl, Nat.le_refl _, fun _ _ => rfl⟩, HN.out⟩⟩, by simp [intOf]; omega⟩
                            · have hjI : ¬ (j : Int) < (k : Int) := by omega
                              have hjd : decide ((j : Int) < (k : Int)) = false := by simpa using hjI
                              have hjd2 : decide (j < k) = false := by simpa using hjk
                              have hEx := HQa.out.kx (L := fun _ => False) (.below HB.out.1) (fun e => e) (fun e => e)
                              have e3a := (hEx.kx (L := fun _ => False) (.below (below_al wr (.cells #[] 5))) (fun e => e) (fun e => e)).cells.2.2.2.2
                              obtain ⟨o', c', W1, so3, cp3, W3, r1, f1, f1c, hE2, r2, hE3, f3, hXF, hBF⟩ := put_last (HXa.out.below HB.out.1) (by have := HKe.out.2; omega) hEx HOb.out HSz.out (HHa.out.below HB.out.1) HMy.out.2.2.2.2.2 ⟨HIa.out.1, HIa.out.2.1, HIa.out.2.2.1⟩
                              have HFin : Hid (RX w xb ls ck (k + 1) (W3.setCell ⟨xb, 0, none⟩ (.slice so3 (lk.length + 1) cp3))) := HNx.out _ _ _ _ _ HMy.out HPv.out (fun t ht h => HB.out.2 t ht (by omega)) HKe.out.1 hXF ((HBd.out _ HB.out.1).trans hBF)
                              have HRn := hid (And.intro r1 r2)
                              have HE2 := hid hE2
                              have HE3 := hid hE3
                              clear r1 r2 hE2 hE3 hXF hBF hEx HUs HPr HPu HNx HMay HXa HKe HIa HHa HOb HQa HSz HMy HPv HB
                              go_wp2_with (first | (at_builtin; refine wpList_app_run rfl (.tmp 94) (.tmp 96) 40 rfl rfl rfl HRn.out.1 ?_))
                              have HE2d : Hid (∃ Y, Y = (W1.setCell ⟨wq.heap.size, 3, none⟩ (.slice o' sn c')).drew) := ⟨_, rfl⟩
                              obtain ⟨y0, y1, y2, y3, y4⟩ := HE2.out.cells
                              refine region_L 10 (fun X : World => X.cell? ⟨xb, 0, none⟩ = some (.slice so lk.length cp) ∧ X.cell? ⟨wq.heap.size, 0, none⟩ = some (.int .i64 si) ∧ X.cell? ⟨wq.heap.size, 1, none⟩ = some (.int .i64 sl) ∧ X.cell? ⟨wq.heap.size, 2, none⟩ = some (.int .i64 su) ∧ X.cell? ⟨wq.heap.size, 3, none⟩ = some (.slice o' sn c')) (by kernel_rfl) ⟨y0, y1, y2, y3, y4⟩ (fun hHeld => ?_)
                              have HRy := hid (HRn.out.2 _ rfl)
                              generalize (W1.setCell ⟨wq.heap.size, 3, none⟩ (.slice o' sn c')).drew = Y at *
                              clear y0 y1 y2 y3 y4 HRn f1 f1c
                              refine anyT 0 hHeld ?_
                              refine anyT 1 hHeld ?_
                              refine anyT 2 hHeld ?_
                              refine anyT 3 hHeld ?_
                              refine anyT 4 hHeld ?_
                              refine anyT 5 hHeld ?_
                              clear hHeld
                              (try simp only [Act.put, List.setIfInBounds_toArray, List.set_cons_zero, List.set_cons_succ])
                              refine anyO 6 (fun K hK => ?_)
                              go_simp
                              refine hK.out _ _ HRy.out.2.cells ?_
                              clear hK K
                              (try simp only [Act.put, List.setIfInBounds_toArray, List.set_cons_zero, List.set_cons_succ])
                              refine anyO 7 (fun K hK => ?_)
                              refine step_app_run rfl (.tmp 103) (.tmp 105) 22 rfl (by rfl) (by rfl) HRy.out.1 ?_
                              refine hK.out _ _ HE3.out.cells ?_
                              clear hK K HRy
                              have hHeld := HE3.out.cells
                              (try simp only [Act.put, List.setIfInBounds_toArray, List.set_cons_zero, List.set_cons_succ])
                              refine anyO 8 (fun K hK => ?_)
                              go_simp
                              refine hK.out _ _ hHeld ?_
                              clear hK K
                              (try simp only [Act.put, List.setIfInBounds_toArray, List.set_cons_zero, List.set_cons_succ])
                              refine anyO 9 (fun K hK => ?_)
                              go_simp
                              refine hK.out _ _ hHeld ?_
                              clear hK K
                              (try simp only [Act.put, List.setIfInBounds_toArray, List.set_cons_zero, List.set_cons_succ])
                              (try simp only [Act.put, List.setIfInBounds_toArray, List.set_cons_zero, List.set_cons_succ])
                              obtain ⟨hc0, _⟩ := hHeld
                              refine anyZ (fun K hK => ?_)
                              go_simp
                              refine hK.out _ _ ?_
                              clear hK K
                              go_wp2_with fail
                              exact ⟨⟨k + 1, by go_num, by omega, HFin⟩, by simp [intOf]; omega⟩
                      · have hlb : (sl == 0) = false := by simpa using hl0
                        by_cases c7 : (16384 : Int) < (sn : Int)
                        · have c7d : decide ((16384 : Int) < (sn : Int)) = true := by simpa using c7
                          have c7n : decide (16384 < sn) = true := by simp; omega
                          have hbad : Hid (resB ls ck = false) := res_not (fun e => by have := (HMay.out e).2.2.2.2.2; simp only at this; omega)
                          clear HUs HPr HPu HNx HMay HXa HKe HIa HHa HOb HQa HSz
                          go_wp2_with fail
                          rw [← HWa.out]
                          go_quiet (fail)
                          go_wp2_with fail
                          refine bodyPost_ret (v := .tuple #[.pointer none, .int .i64 1]) (by simp [results, Tryd.results9, go_sem]) rfl ?_
                          exact ⟨HBd.out _ ⟨rfl, rfl, rfl, Nat.le_refl _, fun _ _ => rfl⟩, .inl ⟨hbad.out, rfl⟩⟩
                        · have c7d : decide ((16384 : Int) < (sn : Int)) = false := by simpa using c7
                          have c7n : decide (16384 < sn) = false := by simp; omega
                          have HMy : Hid (MayB ⟨si, sl, su, t0, sn, sc, sb⟩ ck) := ⟨fun e => absurd e hl0, (by dsimp only; omega), (by dsimp only; omega), (by dsimp only; omega), (by dsimp only; omega), (by dsimp only; omega)⟩
                          have HPv : Hid (∀ h0 : 0 < k, (ls[k - 1]'(by omega)).i < si) := fun h0 => by rw [← HPe.out]; omega
                          go_wp2_with fail
                          rw [← HWa.out]
                          go_quiet (fail)
                          go_wp2_with fail
                          go_loopw [9] (fun i wr => ∃ j : Nat, i = .int .i64 (j : Int) ∧ j ≤ k ∧ Hid (Below wa.heap.size wa wr ∧ ∀ t (ht : t < ls.length), t < j → ls[t].u ≠ su)) (fun i _ => k - (intOf i).toNat)
                          case atStart => exact ⟨0, rfl, Nat.zero_le _, hid ⟨⟨rfl, rfl, rfl, Nat.le_refl _, fun _ _ => rfl⟩, fun t _ ht => absurd ht (by omega)⟩⟩
                          case round =>
                            obtain ⟨j, rfl, hj, HB⟩ := hrel
                            clear q0 q1 q2 q3 s0 s1 s2 s3
                            by_cases hjk : j < k
                            · have hjI : (j : Int) < (k : Int) := by omega
                              have hjN : (j : Int) < (n : Int) := by omega
                              have hjl : j < ls.length := by omega
                              have p2 := HUs.out _ HB.out.1 j hjl
                              have e2 := (HQa.out.kx (L := fun _ => False) (.below HB.out.1) (fun e => e) (fun e => e)).cells.2.2.2.1
                              by_cases heq : ls[j].u = su
                              · have hbad : Hid (resB ls ck = false) := res_not (fun e => HPu.out j hjl hjk e heq)
                                rw [heq] at p2
                                clear HUs HPr HPu HNx HMay HXa HKe HIa HHa HOb HQa HSz
                                go_wp2_with fail
                                go_quiet (fail)
                                go_wp2_with fail
                                refine bodyPost_ret (v := .tuple #[.pointer none, .int .i64 1]) (by simp [results, Tryd.results9, go_sem]) rfl ?_
                                exact ⟨HBd.out _ (HB.out.1.trans ⟨rfl, rfl, rfl, Nat.le_refl _, fun _ _ => rfl⟩), .inl ⟨hbad.out, rfl⟩⟩
                              · have HN : Hid (∀ t (ht : t < ls.length), t < j + 1 → ls[t].u ≠ su) := fun t ht h => by
                                  rcases Nat.lt_or_eq_of_le (Nat.le_of_lt_succ h) with h | rfl
                                  · exact HB.out.2 t ht h
                                  · exact heq
                                have b1 : (ls[j].u == su) = false := by simpa using heq
                                have HBk := HB
                                generalize ls[j].u = y at p2 b1 heq
                                clear HUs HPr HPu HNx HMay HXa HKe HIa HHa HOb HQa HSz HMy HPv
                                go_wp2_with fail
                                go_quiet (fail)
                                go_wp2_with fail
                                exact ⟨⟨j + 1, by go_num, by omega, hid ⟨HBk.out.1.trans ⟨rfl, rfl, rfl, Nat.le_refl _, fun _ _ => rfl⟩, HN.out⟩⟩, by simp [intOf]; omega⟩
                            · have hjI : ¬ (j : Int) < (k : Int) := by omega
                              have hjd : decide ((j : Int) < (k : Int)) = false := by simpa using hjI
                              have hjd2 : decide (j < k) = false := by simpa using hjk
                              have hEx := HQa.out.kx (L := fun _ => False) (.below HB.out.1) (fun e => e) (fun e => e)
                              have e3a := (hEx.kx (L := fun _ => False) (.below (below_al wr (.cells #[] 5))) (fun e => e) (fun e => e)).cells.2.2.2.2
                              obtain ⟨o', c', W1, so3, cp3, W3, r1, f1, f1c, hE2, r2, hE3, f3, hXF, hBF⟩ := put_last (HXa.out.below HB.out.1) (by have := HKe.out.2; omega) hEx HOb.out HSz.out (HHa.out.below HB.out.1) HMy.out.2.2.2.2.2 ⟨HIa.out.1, HIa.out.2.1, HIa.out.2.2.1⟩
                              have HFin : Hid (RX w xb ls ck (k + 1) (W3.setCell ⟨xb, 0, none⟩ (.slice so3 (lk.length + 1) cp3))) := HNx.out _ _ _ _ _ HMy.out HPv.out (fun t ht h => HB.out.2 t ht (by omega)) HKe.out.1 hXF ((HBd.out _ HB.out.1).trans hBF)
                              have HRn := hid (And.intro r1 r2)
                              have HE2 := hid hE2
                              have HE3 := hid hE3
                              clear r1 r2 hE2 hE3 hXF hBF hEx HUs HPr HPu HNx HMay HXa HKe HIa HHa HOb HQa HSz HMy HPv HB
                              go_wp2_with (first | (at_builtin; refine wpList_app_run rfl (.tmp 94) (.tmp 96) 40 rfl rfl rfl HRn.out.1 ?_))
                              have HE2d : Hid (∃ Y, Y = (W1.setCell ⟨wq.heap.size, 3, none⟩ (.slice o' sn c')).drew) := ⟨_, rfl⟩
                              obtain ⟨y0, y1, y2, y3, y4⟩ := HE2.out.cells
                              refine region_L 10 (fun X : World => X.cell? ⟨xb, 0, none⟩ = some (.slice so lk.length cp) ∧ X.cell? ⟨wq.heap.size, 0, none⟩ = some (.int .i64 si) ∧ X.cell? ⟨wq.heap.size, 1, none⟩ = some (.int .i64 sl) ∧ X.cell? ⟨wq.heap.size, 2, none⟩ = some (.int .i64 su) ∧ X.cell? ⟨wq.heap.size, 3, none⟩ = some (.slice o' sn c')) (by kernel_rfl) ⟨y0, y1, y2, y3, y4⟩ (fun hHeld => ?_)
                              have HRy := hid (HRn.out.2 _ rfl)
                              generalize (W1.setCell ⟨wq.heap.size, 3, none⟩ (.slice o' sn c')).drew = Y at *
                              clear y0 y1 y2 y3 y4 HRn f1 f1c
                              refine anyT 0 hHeld ?_
                              refine anyT 1 hHeld ?_
                              refine anyT 2 hHeld ?_
                              refine anyT 3 hHeld ?_
                              refine anyT 4 hHeld ?_
                              refine anyT 5 hHeld ?_
                              clear hHeld
                              (try simp only [Act.put, List.setIfInBounds_toArray, List.set_cons_zero, List.set_cons_succ])
                              refine anyO 6 (fun K hK => ?_)
                              go_simp
                              refine hK.out _ _ HRy.out.2.cells ?_
                              clear hK K
                              (try simp only [Act.put, List.setIfInBounds_toArray, List.set_cons_zero, List.set_cons_succ])
                              refine anyO 7 (fun K hK => ?_)
                              refine step_app_run rfl (.tmp 103) (.tmp 105) 22 rfl (by rfl) (by rfl) HRy.out.1 ?_
                              refine hK.out _ _ HE3.out.cells ?_
                              clear hK K HRy
                              have hHeld := HE3.out.cells
                              (try simp only [Act.put, List.setIfInBounds_toArray, List.set_cons_zero, List.set_cons_succ])
                              refine anyO 8 (fun K hK => ?_)
                              go_simp
                              refine hK.out _ _ hHeld ?_
                              clear hK K
                              (try simp only [Act.put, List.setIfInBounds_toArray, List.set_cons_zero, List.set_cons_succ])
                              refine anyO 9 (fun K hK => ?_)
                              go_simp
                              refine hK.out _ _ hHeld ?_
                              clear hK K
                              (try simp only [Act.put, List.setIfInBounds_toArray, List.set_cons_zero, List.set_cons_succ])
                              (try simp only [Act.put, List.setIfInBounds_toArray, List.set_cons_zero, List.set_cons_succ])
                              obtain ⟨hc0, _⟩ := hHeld
                              refine anyZ (fun K hK => ?_)
                              go_simp
                              refine hK.out _ _ ?_
                              clear hK K
                              go_wp2_with fail
                              exact ⟨⟨k + 1, by go_num, by omega, HFin⟩, by simp [intOf]; omega⟩
            · have hkp : ¬ (0 : Int) < (k : Int) := by omega
              have hkpd : decide ((0 : Int) < (k : Int)) = false := by simpa using hkp
              have hkpn : decide (0 < k) = false := by simpa using hk0
              have HK0 := hid hk0
              clear hp hk0
              by_cases c3 : su < 1
              · have c3d : decide (su < 1) = true := by simpa using c3
                have hbad : Hid (resB ls ck = false) := res_not (fun e => by have := (HMay.out e).2.2.2.1; simp only at this; omega)
                clear HUs HPr HPu HNx HMay HXa HKe HIa HHa HOb HQa HSz
                go_wp2_with fail
                rw [← HWa.out]
                go_quiet (fail)
                go_wp2_with fail
                refine bodyPost_ret (v := .tuple #[.pointer none, .int .i64 1]) (by simp [results, Tryd.results9, go_sem]) rfl ?_
                exact ⟨HBd.out _ ⟨rfl, rfl, rfl, Nat.le_refl _, fun _ _ => rfl⟩, .inl ⟨hbad.out, rfl⟩⟩
              · have c3d : decide (su < 1) = false := by simpa using c3
                by_cases c4 : ck < su
                · have c4d : decide (ck < su) = true := by simpa using c4
                  have hbad : Hid (resB ls ck = false) := res_not (fun e => by have := (HMay.out e).2.2.2.2.1; simp only at this; omega)
                  clear HUs HPr HPu HNx HMay HXa HKe HIa HHa HOb HQa HSz
                  go_wp2_with fail
                  rw [← HWa.out]
                  go_quiet (fail)
                  go_wp2_with fail
                  refine bodyPost_ret (v := .tuple #[.pointer none, .int .i64 1]) (by simp [results, Tryd.results9, go_sem]) rfl ?_
                  exact ⟨HBd.out _ ⟨rfl, rfl, rfl, Nat.le_refl _, fun _ _ => rfl⟩, .inl ⟨hbad.out, rfl⟩⟩
                · have c4d : decide (ck < su) = false := by simpa using c4
                  by_cases c5 : sl < 0
                  · have c5d : decide (sl < 0) = true := by simpa using c5
                    have hbad : Hid (resB ls ck = false) := res_not (fun e => by have := (HMay.out e).2.2.1; simp only at this; omega)
                    clear HUs HPr HPu HNx HMay HXa HKe HIa HHa HOb HQa HSz
                    go_wp2_with fail
                    rw [← HWa.out]
                    go_quiet (fail)
                    go_wp2_with fail
                    refine bodyPost_ret (v := .tuple #[.pointer none, .int .i64 1]) (by simp [results, Tryd.results9, go_sem]) rfl ?_
                    exact ⟨HBd.out _ ⟨rfl, rfl, rfl, Nat.le_refl _, fun _ _ => rfl⟩, .inl ⟨hbad.out, rfl⟩⟩
                  · have c5d : decide (sl < 0) = false := by simpa using c5
                    by_cases hl0 : sl = 0
                    · have hlb : (sl == 0) = true := by simpa using hl0
                      have HL0 := hid hl0
                      clear hl0
                      by_cases hz : 0 < sn
                      · have hzI : (0 : Int) < (sn : Int) := by omega
                        have hzd : decide ((0 : Int) < (sn : Int)) = true := by simpa using hzI
                        have hbad : Hid (resB ls ck = false) := res_not (fun e => by have := (HMay.out e).1 HL0.out; simp only at this; omega)
                        clear HUs HPr HPu HNx HMay HXa HKe HIa HHa HOb HQa HSz
                        go_wp2_with fail
                        rw [← HWa.out]
                        go_quiet (fail)
                        go_wp2_with fail
                        refine bodyPost_ret (v := .tuple #[.pointer none, .int .i64 1]) (by simp [results, Tryd.results9, go_sem]) rfl ?_
                        exact ⟨HBd.out _ ⟨rfl, rfl, rfl, Nat.le_refl _, fun _ _ => rfl⟩, .inl ⟨hbad.out, rfl⟩⟩
                      · have hzI : ¬ (0 : Int) < (sn : Int) := by omega
                        have hzd : decide ((0 : Int) < (sn : Int)) = false := by simpa using hzI
                        have hzn : decide (0 < sn) = false := by simpa using hz
                        have HZ0 : Hid (sn = 0) := hid (by omega)
                        have c7 : ¬ (16384 : Int) < (sn : Int) := by omega
                        have c7d : decide ((16384 : Int) < (sn : Int)) = false := by simpa using c7
                        have c7n : decide (16384 < sn) = false := by simp; omega
                        clear hz
                        have HMy : Hid (MayB ⟨si, sl, su, t0, sn, sc, sb⟩ ck) := ⟨fun e => HZ0.out, (by dsimp only; omega), (by dsimp only; omega), (by dsimp only; omega), (by dsimp only; omega), (by dsimp only; omega)⟩
                        have HPv : Hid (∀ h0 : 0 < k, (ls[k - 1]'(by omega)).i < si) := fun h0 => absurd h0 HK0.out
                        go_wp2_with fail
                        rw [← HWa.out]
                        go_quiet (fail)
                        go_wp2_with fail
                        go_loopw [9] (fun i wr => ∃ j : Nat, i = .int .i64 (j : Int) ∧ j ≤ k ∧ Hid (Below wa.heap.size wa wr ∧ ∀ t (ht : t < ls.length), t < j → ls[t].u ≠ su)) (fun i _ => k - (intOf i).toNat)
                        case atStart => exact ⟨0, rfl, Nat.zero_le _, hid ⟨⟨rfl, rfl, rfl, Nat.le_refl _, fun _ _ => rfl⟩, fun t _ ht => absurd ht (by omega)⟩⟩
                        case round =>
                          obtain ⟨j, rfl, hj, HB⟩ := hrel
                          clear q0 q1 q2 q3 s0 s1 s2 s3
                          by_cases hjk : j < k
                          · have hjI : (j : Int) < (k : Int) := by omega
                            have hjN : (j : Int) < (n : Int) := by omega
                            have hjl : j < ls.length := by omega
                            have p2 := HUs.out _ HB.out.1 j hjl
                            have e2 := (HQa.out.kx (L := fun _ => False) (.below HB.out.1) (fun e => e) (fun e => e)).cells.2.2.2.1
                            by_cases heq : ls[j].u = su
                            · have hbad : Hid (resB ls ck = false) := res_not (fun e => HPu.out j hjl hjk e heq)
                              rw [heq] at p2
                              clear HUs HPr HPu HNx HMay HXa HKe HIa HHa HOb HQa HSz
                              go_wp2_with fail
                              go_quiet (fail)
                              go_wp2_with fail
                              refine bodyPost_ret (v := .tuple #[.pointer none, .int .i64 1]) (by simp [results, Tryd.results9, go_sem]) rfl ?_
                              exact ⟨HBd.out _ (HB.out.1.trans ⟨rfl, rfl, rfl, Nat.le_refl _, fun _ _ => rfl⟩), .inl ⟨hbad.out, rfl⟩⟩
                            · have HN : Hid (∀ t (ht : t < ls.length), t < j + 1 → ls[t].u ≠ su) := fun t ht h => by
                                rcases Nat.lt_or_eq_of_le (Nat.le_of_lt_succ h) with h | rfl
                                · exact HB.out.2 t ht h
                                · exact heq
                              have b1 : (ls[j].u == su) = false := by simpa using heq
                              have HBk := HB
                              generalize ls[j].u = y at p2 b1 heq
                              clear HUs HPr HPu HNx HMay HXa HKe HIa HHa HOb HQa HSz HMy HPv
                              go_wp2_with fail
                              go_quiet (fail)
                              go_wp2_with fail
                              exact ⟨⟨j + 1, by go_num, by omega, hid ⟨HBk.out.1.trans ⟨rfl, rfl, rfl, Nat.le_refl _, fun _ _ => rfl⟩, HN.out⟩⟩, by simp [intOf]; omega⟩
                          · have hjI : ¬ (j : Int) < (k : Int) := by omega
                            have hjd : decide ((j : Int) < (k : Int)) = false := by simpa using hjI
                            have hjd2 : decide (j < k) = false := by simpa using hjk
                            have hEx := HQa.out.kx (L := fun _ => False) (.below HB.out.1) (fun e => e) (fun e => e)
                            have e3a := (hEx.kx (L := fun _ => False) (.below (below_al wr (.cells #[] 5))) (fun e => e) (fun e => e)).cells.2.2.2.2
                            obtain ⟨o', c', W1, so3, cp3, W3, r1, f1, f1c, hE2, r2, hE3, f3, hXF, hBF⟩ := put_last (HXa.out.below HB.out.1) (by have := HKe.out.2; omega) hEx HOb.out HSz.out (HHa.out.below HB.out.1) HMy.out.2.2.2.2.2 ⟨HIa.out.1, HIa.out.2.1, HIa.out.2.2.1⟩
                            have HFin : Hid (RX w xb ls ck (k + 1) (W3.setCell ⟨xb, 0, none⟩ (.slice so3 (lk.length + 1) cp3))) := HNx.out _ _ _ _ _ HMy.out HPv.out (fun t ht h => HB.out.2 t ht (by omega)) HKe.out.1 hXF ((HBd.out _ HB.out.1).trans hBF)
                            have HRn := hid (And.intro r1 r2)
                            have HE2 := hid hE2
                            have HE3 := hid hE3
                            clear r1 r2 hE2 hE3 hXF hBF hEx HUs HPr HPu HNx HMay HXa HKe HIa HHa HOb HQa HSz HMy HPv HB
                            go_wp2_with (first | (at_builtin; refine wpList_app_run rfl (.tmp 94) (.tmp 96) 40 rfl rfl rfl HRn.out.1 ?_))
                            have HE2d : Hid (∃ Y, Y = (W1.setCell ⟨wq.heap.size, 3, none⟩ (.slice o' sn c')).drew) := ⟨_, rfl⟩
                            obtain ⟨y0, y1, y2, y3, y4⟩ := HE2.out.cells
                            refine region_L 10 (fun X : World => X.cell? ⟨xb, 0, none⟩ = some (.slice so lk.length cp) ∧ X.cell? ⟨wq.heap.size, 0, none⟩ = some (.int .i64 si) ∧ X.cell? ⟨wq.heap.size, 1, none⟩ = some (.int .i64 sl) ∧ X.cell? ⟨wq.heap.size, 2, none⟩ = some (.int .i64 su) ∧ X.cell? ⟨wq.heap.size, 3, none⟩ = some (.slice o' sn c')) (by kernel_rfl) ⟨y0, y1, y2, y3, y4⟩ (fun hHeld => ?_)
                            have HRy := hid (HRn.out.2 _ rfl)
                            generalize (W1.setCell ⟨wq.heap.size, 3, none⟩ (.slice o' sn c')).drew = Y at *
                            clear y0 y1 y2 y3 y4 HRn f1 f1c
                            refine anyT 0 hHeld ?_
                            refine anyT 1 hHeld ?_
                            refine anyT 2 hHeld ?_
                            refine anyT 3 hHeld ?_
                            refine anyT 4 hHeld ?_
                            refine anyT 5 hHeld ?_
                            clear hHeld
                            (try simp only [Act.put, List.setIfInBounds_toArray, List.set_cons_zero, List.set_cons_succ])
                            refine anyO 6 (fun K hK => ?_)
                            go_simp
                            refine hK.out _ _ HRy.out.2.cells ?_
                            clear hK K
                            (try simp only [Act.put, List.setIfInBounds_toArray, List.set_cons_zero, List.set_cons_succ])
                            refine anyO 7 (fun K hK => ?_)
                            refine step_app_run rfl (.tmp 103) (.tmp 105) 22 rfl (by rfl) (by rfl) HRy.out.1 ?_
                            refine hK.out _ _ HE3.out.cells ?_
                            clear hK K HRy
                            have hHeld := HE3.out.cells
                            (try simp only [Act.put, List.setIfInBounds_toArray, List.set_cons_zero, List.set_cons_succ])
                            refine anyO 8 (fun K hK => ?_)
                            go_simp
                            refine hK.out _ _ hHeld ?_
                            clear hK K
                            (try simp only [Act.put, List.setIfInBounds_toArray, List.set_cons_zero, List.set_cons_succ])
                            refine anyO 9 (fun K hK => ?_)
                            go_simp
                            refine hK.out _ _ hHeld ?_
                            clear hK K
                            (try simp only [Act.put, List.setIfInBounds_toArray, List.set_cons_zero, List.set_cons_succ])
                            (try simp only [Act.put, List.setIfInBounds_toArray, List.set_cons_zero, List.set_cons_succ])
                            obtain ⟨hc0, _⟩ := hHeld
                            refine anyZ (fun K hK => ?_)
                            go_simp
                            refine hK.out _ _ ?_
                            clear hK K
                            go_wp2_with fail
                            exact ⟨⟨k + 1, by go_num, by omega, HFin⟩, by simp [intOf]; omega⟩
                    · have hlb : (sl == 0) = false := by simpa using hl0
                      by_cases c7 : (16384 : Int) < (sn : Int)
                      · have c7d : decide ((16384 : Int) < (sn : Int)) = true := by simpa using c7
                        have c7n : decide (16384 < sn) = true := by simp; omega
                        have hbad : Hid (resB ls ck = false) := res_not (fun e => by have := (HMay.out e).2.2.2.2.2; simp only at this; omega)
                        clear HUs HPr HPu HNx HMay HXa HKe HIa HHa HOb HQa HSz
                        go_wp2_with fail
                        rw [← HWa.out]
                        go_quiet (fail)
                        go_wp2_with fail
                        refine bodyPost_ret (v := .tuple #[.pointer none, .int .i64 1]) (by simp [results, Tryd.results9, go_sem]) rfl ?_
                        exact ⟨HBd.out _ ⟨rfl, rfl, rfl, Nat.le_refl _, fun _ _ => rfl⟩, .inl ⟨hbad.out, rfl⟩⟩
                      · have c7d : decide ((16384 : Int) < (sn : Int)) = false := by simpa using c7
                        have c7n : decide (16384 < sn) = false := by simp; omega
                        have HMy : Hid (MayB ⟨si, sl, su, t0, sn, sc, sb⟩ ck) := ⟨fun e => absurd e hl0, (by dsimp only; omega), (by dsimp only; omega), (by dsimp only; omega), (by dsimp only; omega), (by dsimp only; omega)⟩
                        have HPv : Hid (∀ h0 : 0 < k, (ls[k - 1]'(by omega)).i < si) := fun h0 => absurd h0 HK0.out
                        go_wp2_with fail
                        rw [← HWa.out]
                        go_quiet (fail)
                        go_wp2_with fail
                        go_loopw [9] (fun i wr => ∃ j : Nat, i = .int .i64 (j : Int) ∧ j ≤ k ∧ Hid (Below wa.heap.size wa wr ∧ ∀ t (ht : t < ls.length), t < j → ls[t].u ≠ su)) (fun i _ => k - (intOf i).toNat)
                        case atStart => exact ⟨0, rfl, Nat.zero_le _, hid ⟨⟨rfl, rfl, rfl, Nat.le_refl _, fun _ _ => rfl⟩, fun t _ ht => absurd ht (by omega)⟩⟩
                        case round =>
                          obtain ⟨j, rfl, hj, HB⟩ := hrel
                          clear q0 q1 q2 q3 s0 s1 s2 s3
                          by_cases hjk : j < k
                          · have hjI : (j : Int) < (k : Int) := by omega
                            have hjN : (j : Int) < (n : Int) := by omega
                            have hjl : j < ls.length := by omega
                            have p2 := HUs.out _ HB.out.1 j hjl
                            have e2 := (HQa.out.kx (L := fun _ => False) (.below HB.out.1) (fun e => e) (fun e => e)).cells.2.2.2.1
                            by_cases heq : ls[j].u = su
                            · have hbad : Hid (resB ls ck = false) := res_not (fun e => HPu.out j hjl hjk e heq)
                              rw [heq] at p2
                              clear HUs HPr HPu HNx HMay HXa HKe HIa HHa HOb HQa HSz
                              go_wp2_with fail
                              go_quiet (fail)
                              go_wp2_with fail
                              refine bodyPost_ret (v := .tuple #[.pointer none, .int .i64 1]) (by simp [results, Tryd.results9, go_sem]) rfl ?_
                              exact ⟨HBd.out _ (HB.out.1.trans ⟨rfl, rfl, rfl, Nat.le_refl _, fun _ _ => rfl⟩), .inl ⟨hbad.out, rfl⟩⟩
                            · have HN : Hid (∀ t (ht : t < ls.length), t < j + 1 → ls[t].u ≠ su) := fun t ht h => by
                                rcases Nat.lt_or_eq_of_le (Nat.le_of_lt_succ h) with h | rfl
                                · exact HB.out.2 t ht h
                                · exact heq
                              have b1 : (ls[j].u == su) = false := by simpa using heq
                              have HBk := HB
                              generalize ls[j].u = y at p2 b1 heq
                              clear HUs HPr HPu HNx HMay HXa HKe HIa HHa HOb HQa HSz HMy HPv
                              go_wp2_with fail
                              go_quiet (fail)
                              go_wp2_with fail
                              exact ⟨⟨j + 1, by go_num, by omega, hid ⟨HBk.out.1.trans ⟨rfl, rfl, rfl, Nat.le_refl _, fun _ _ => rfl⟩, HN.out⟩⟩, by simp [intOf]; omega⟩
                          · have hjI : ¬ (j : Int) < (k : Int) := by omega
                            have hjd : decide ((j : Int) < (k : Int)) = false := by simpa using hjI
                            have hjd2 : decide (j < k) = false := by simpa using hjk
                            have hEx := HQa.out.kx (L := fun _ => False) (.below HB.out.1) (fun e => e) (fun e => e)
                            have e3a := (hEx.kx (L := fun _ => False) (.below (below_al wr (.cells #[] 5))) (fun e => e) (fun e => e)).cells.2.2.2.2
                            obtain ⟨o', c', W1, so3, cp3, W3, r1, f1, f1c, hE2, r2, hE3, f3, hXF, hBF⟩ := put_last (HXa.out.below HB.out.1) (by have := HKe.out.2; omega) hEx HOb.out HSz.out (HHa.out.below HB.out.1) HMy.out.2.2.2.2.2 ⟨HIa.out.1, HIa.out.2.1, HIa.out.2.2.1⟩
                            have HFin : Hid (RX w xb ls ck (k + 1) (W3.setCell ⟨xb, 0, none⟩ (.slice so3 (lk.length + 1) cp3))) := HNx.out _ _ _ _ _ HMy.out HPv.out (fun t ht h => HB.out.2 t ht (by omega)) HKe.out.1 hXF ((HBd.out _ HB.out.1).trans hBF)
                            have HRn := hid (And.intro r1 r2)
                            have HE2 := hid hE2
                            have HE3 := hid hE3
                            clear r1 r2 hE2 hE3 hXF hBF hEx HUs HPr HPu HNx HMay HXa HKe HIa HHa HOb HQa HSz HMy HPv HB
                            go_wp2_with (first | (at_builtin; refine wpList_app_run rfl (.tmp 94) (.tmp 96) 40 rfl rfl rfl HRn.out.1 ?_))
                            have HE2d : Hid (∃ Y, Y = (W1.setCell ⟨wq.heap.size, 3, none⟩ (.slice o' sn c')).drew) := ⟨_, rfl⟩
                            obtain ⟨y0, y1, y2, y3, y4⟩ := HE2.out.cells
                            refine region_L 10 (fun X : World => X.cell? ⟨xb, 0, none⟩ = some (.slice so lk.length cp) ∧ X.cell? ⟨wq.heap.size, 0, none⟩ = some (.int .i64 si) ∧ X.cell? ⟨wq.heap.size, 1, none⟩ = some (.int .i64 sl) ∧ X.cell? ⟨wq.heap.size, 2, none⟩ = some (.int .i64 su) ∧ X.cell? ⟨wq.heap.size, 3, none⟩ = some (.slice o' sn c')) (by kernel_rfl) ⟨y0, y1, y2, y3, y4⟩ (fun hHeld => ?_)
                            have HRy := hid (HRn.out.2 _ rfl)
                            generalize (W1.setCell ⟨wq.heap.size, 3, none⟩ (.slice o' sn c')).drew = Y at *
                            clear y0 y1 y2 y3 y4 HRn f1 f1c
                            refine anyT 0 hHeld ?_
                            refine anyT 1 hHeld ?_
                            refine anyT 2 hHeld ?_
                            refine anyT 3 hHeld ?_
                            refine anyT 4 hHeld ?_
                            refine anyT 5 hHeld ?_
                            clear hHeld
                            (try simp only [Act.put, List.setIfInBounds_toArray, List.set_cons_zero, List.set_cons_succ])
                            refine anyO 6 (fun K hK => ?_)
                            go_simp
                            refine hK.out _ _ HRy.out.2.cells ?_
                            clear hK K
                            (try simp only [Act.put, List.setIfInBounds_toArray, List.set_cons_zero, List.set_cons_succ])
                            refine anyO 7 (fun K hK => ?_)
                            refine step_app_run rfl (.tmp 103) (.tmp 105) 22 rfl (by rfl) (by rfl) HRy.out.1 ?_
                            refine hK.out _ _ HE3.out.cells ?_
                            clear hK K HRy
                            have hHeld := HE3.out.cells
                            (try simp only [Act.put, List.setIfInBounds_toArray, List.set_cons_zero, List.set_cons_succ])
                            refine anyO 8 (fun K hK => ?_)
                            go_simp
                            refine hK.out _ _ hHeld ?_
                            clear hK K
                            (try simp only [Act.put, List.setIfInBounds_toArray, List.set_cons_zero, List.set_cons_succ])
                            refine anyO 9 (fun K hK => ?_)
                            go_simp
                            refine hK.out _ _ hHeld ?_
                            clear hK K
                            (try simp only [Act.put, List.setIfInBounds_toArray, List.set_cons_zero, List.set_cons_succ])
                            (try simp only [Act.put, List.setIfInBounds_toArray, List.set_cons_zero, List.set_cons_succ])
                            obtain ⟨hc0, _⟩ := hHeld
                            refine anyZ (fun K hK => ?_)
                            go_simp
                            refine hK.out _ _ ?_
                            clear hK K
                            go_wp2_with fail
                            exact ⟨⟨k + 1, by go_num, by omega, HFin⟩, by simp [intOf]; omega⟩
        · have hkI : ¬ (k : Int) < (n : Int) := by omega
          have hkd : decide ((k : Int) < (n : Int)) = false := by simpa using hkI
          have hkd2 : decide (k < n) = false := by simpa using hkn
          have HF : Hid (RestX w ls ck (.returned (.tuple #[.pointer (some ⟨xb, 0, none⟩), .int .i64 0])) wr) := by
            obtain ⟨⟨v, lk, hT, hke⟩, hg, hbel⟩ := HR.out
            have hkl : k = ls.length := by rw [HNl.out]; omega
            subst hkl
            rw [List.take_length] at hke
            exact ⟨hbel, .inr ⟨res_of (by have := H0.out; omega) (by rw [HNl.out]; have := H8.out; omega) hg, xb, v, lk, rfl, hT, hke⟩⟩
          clear HR
          go_wp2_with fail
          refine bodyPost_ret (v := .tuple #[.pointer (some ⟨xb, 0, none⟩), .int .i64 0]) (by simp [results, Tryd.results9, go_sem]) rfl ?_
          exact HF.out
end Go.Proofs.YtjhclpionimjbaaDoor
