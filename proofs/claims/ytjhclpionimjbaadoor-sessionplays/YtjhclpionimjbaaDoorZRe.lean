/-
  Restore at any sessions. Conditions: those that each theorem names.
-/
import Derived.Test.YtjhclpionimjbaaDoorZMs
import Derived.Test.YtjhclpionimjbaaDoorZW
namespace Go.Proofs.YtjhclpionimjbaaDoor
open Go.RowKit Go.Maps
set_option linter.unusedVariables false
/-- May that be a table? -/
def resB (ls : List Sx) (ck : Int) : Bool := decide (0 ≤ ck) && decide (ls.length ≤ 8) && stB ls ck
/-- What Restore answers. -/
def RestQ (w : World) (ls : List Sx) (ck : Int) (e : Ending) (w' : World) : Prop :=
  Below w.heap.size w w' ∧ ((resB ls ck = false ∧ e = .returned (.tuple #[.pointer none, .iface 31 (.int .i64 1)])) ∨
    (resB ls ck = true ∧ ∃ tb B l, e = .returned (.tuple #[.pointer (some ⟨tb, 0, none⟩), .nilIface]) ∧ Tb w' tb B l ck ∧ l.map key = ls.map key ∧ w.heap.size ≤ tb ∧ w.heap.size ≤ B))
theorem st_facts {ls : List Sx} {ck : Int} (h : stB ls ck = true) : (∀ s ∈ ls, MayB s ck) ∧ Rise ls ∧ (usS ls).Pairwise (· < ·) := by
  unfold stB at h
  simp only [Bool.and_eq_true] at h
  obtain ⟨h1, h2, h3⟩ := h
  refine ⟨fun s hs => (mayB_iff s ck).1 (List.all_eq_true.1 h1 s hs), ?_, of_decide_eq_true h3⟩
  have := of_decide_eq_true (p := (ls.map Sx.i).Pairwise (· < ·)) h2
  rw [List.pairwise_map] at this
  exact this
theorem ins_last {s : Sx} : ∀ {l : List Sx}, (∀ t ∈ l, t.i < s.i) → ins l s = l ++ [s]
  | [], _ => rfl
  | a :: r, h => by
    unfold ins
    rw [if_pos (h a (by simp)), ins_last (fun t ht => h t (by simp [ht]))]
    rfl
/-- While the sessions are put in. -/
structure RI (w : World) (tb B : Nat) (ls : List Sx) (ck : Int) (k : Nat) (X : World) : Prop where
  st : ∃ lk, Tb X tb B lk ck ∧ lk.map key = (ls.take k).map key
  bel : Below w.heap.size w X
theorem RI.next {X Y : World} {tb B k : Nat} {ls lk : List Sx} {ck : Int} (hT : Tb X tb B lk ck) (hke : lk.map key = (ls.take k).map key) (hk : k < ls.length) (h8 : ls.length ≤ 8) (hst : stB ls ck = true) (hI : inI ls[k].i ∧ inI ls[k].l ∧ inI ls[k].u) (hXY : Below X.heap.size X Y)
    {o' : Option Addr} {c' : Nat} (hh : Has Y o' ls[k].n c' ls[k].b) (hf : Fr X.heap.size Y o' c') :
    ∃ Z, (Instr.mapUpdate 61 (.map (some B)) (.int .i64 ls[k].i) (sxv ⟨ls[k].i, ls[k].l, ls[k].u, o', ls[k].n, c', ls[k].b⟩)).run Tryd.prog Y = .ok () Z ∧ Kx (own2 tb B) Y Z ∧ ∃ l2, Tb Z tb B l2 ck ∧ l2.map key = (ls.take (k + 1)).map key := by
  obtain ⟨hm, hr, _⟩ := st_facts hst
  have hTY := hT.below hXY
  have hlt : ∀ t ∈ lk, t.i < ls[k].i := fun t ht => by
    obtain ⟨j, hj, rfl⟩ := List.getElem_of_mem ht
    have hlen : lk.length = (ls.take k).length := by have := congrArg List.length hke; simpa using this
    have hj2 : j < k := by rw [List.length_take] at hlen; omega
    have h1 : (lk.map key)[j]'(by simpa using hj) = ((ls.take k).map key)[j]'(by simp; omega) := by simp only [hke]
    have h2 : key lk[j] = key ls[j] := by simpa using h1
    have e1 : lk[j].i = ls[j].i := congrArg (fun x => x.1) h2
    have := List.pairwise_iff_getElem.1 hr j k (by omega) hk hj2
    omega
  have hne : ∀ t ∈ lk, t.i ≠ ls[k].i := fun t ht e => by have := hlt t ht; omega
  have hlen : lk.length = k := by have := congrArg List.length hke; simp at this; omega
  obtain ⟨Z, hu, hmZ, hg⟩ := hTY.m.upd (s := ⟨ls[k].i, ls[k].l, ls[k].u, o', ls[k].n, c', ls[k].b⟩) (l' := ins lk ⟨ls[k].i, ls[k].l, ls[k].u, o', ls[k].n, c', ls[k].b⟩) hI.1 (by unfold maxLen; omega) (rise_ins hTY.m.1 hne) (fun x => fnd_ins _ x lk hne)
  have hK : Kx (own2 tb B) Y Z := .grown hg (fun g e => by cases e; exact .inr rfl)
  have hmay := hm _ (List.getElem_mem hk)
  refine ⟨Z, hu, hK, _, hTY.map_turn hmZ hg (by rw [len_ins]; omega) (fun t ht => ?_), ?_⟩
  · rcases mem_ins.1 ht with rfl | ht
    · refine .inr ⟨hmay.2.1, hI.1, hI.2.1, hI.2.2, hh.kx hK hTY.nob, .inr ?_, hmay.2.2.2.2.2⟩
      refine ((hf.kx hK (fun g hg hl => ?_)).mono (Nat.zero_le _))
      have h1 := node_lt hT.blk
      have h2 := hT.m.lt
      rcases hl with rfl | rfl <;> omega
    · exact .inl ht
  · rw [ins_last (s := ⟨ls[k].i, ls[k].l, ls[k].u, o', ls[k].n, c', ls[k].b⟩) hlt, List.map_append, hke, List.take_succ_eq_append_getElem hk, List.map_append]
    rfl
set_option maxRecDepth 100000 in
set_option maxHeartbeats 8000000 in
theorem restore_ok {w : World} {a : Option Addr} {n cap : Nat} {ls : List Sx} (h : RowA w a n cap ls) (ck : Int) (hck : inI ck) :
    Calls Tryd.prog 8 #[.slice a n cap, .int .i64 ck] w (RestQ w ls ck) := by
  have HA := hid h
  have hnl := h.ln
  have hnm := h.le
  have HBad : Hid (resB ls ck = false → ∀ X, Below w.heap.size w X → RestQ w ls ck (.returned (.tuple #[.pointer none, .iface 31 (.int .i64 1)])) X) := fun h X hX => ⟨hX, .inl ⟨h, rfl⟩⟩
  have hnI : (n : Int) ≤ 9223372036854775807 := by unfold maxLen at hnm; omega
  have HNl := hid hnl
  clear h hnm
  by_cases h0 : ck < 0
  · have hb := hid (HBad.out (by unfold resB; rw [decide_eq_false (by omega)]; rfl) w (Below.refl _ _))
    have a0 : decide (ck < 0) = true := by simpa using h0
    go_enter Tryd.func8, Tryd.ntmps8
    go_wp2_with fail
    refine bodyPost_ret (v := .tuple #[.pointer none, .iface 31 (.int .i64 1)]) (by simp [results, Tryd.results8, go_sem]) rfl ?_
    exact hb.out
  · have a0 : decide (ck < 0) = false := by simpa using h0
    by_cases h8 : 8 < n
    · have hb := hid (HBad.out (by unfold resB; rw [decide_eq_false (p := ls.length ≤ 8) (by omega)]; simp) w (Below.refl _ _))
      have a1 : (8 : Int) < (n : Int) := by omega
      have a2 : decide ((8 : Int) < (n : Int)) = true := by simpa using a1
      have a3 : decide (8 < n) = true := by simpa using h8
      clear hnl
      go_enter Tryd.func8, Tryd.ntmps8
      go_wp2_with fail
      refine bodyPost_ret (v := .tuple #[.pointer none, .iface 31 (.int .i64 1)]) (by simp [results, Tryd.results8, go_sem]) rfl ?_
      exact hb.out
    · have a1 : ¬ (8 : Int) < (n : Int) := by omega
      have a2 : decide ((8 : Int) < (n : Int)) = false := by simpa using a1
      have a3 : decide (8 < n) = false := by simpa using h8
      have HSt := hid (stand_ok HA.out (by omega) ck)
      obtain ⟨M, hM⟩ : ∃ M, M = stB ls ck := ⟨_, rfl⟩
      rw [← hM] at HSt
      have HM := hid hM
      have H0 := hid h0
      have H8 := hid h8
      clear hM hnl
      go_enter Tryd.func8, Tryd.ntmps8
      go_wp2_with fail
      refine HSt.out.mono ?_
      rintro e w1 ⟨rfl, hb1⟩
      have HB1 := hid hb1
      clear hb1 HSt
      cases M with
      | false =>
        have hb := hid (HBad.out (by unfold resB; rw [← HM.out]; simp) w1 HB1.out)
        go_wp2_with fail
        refine bodyPost_ret (v := .tuple #[.pointer none, .iface 31 (.int .i64 1)]) (by simp [results, Tryd.results8, go_sem]) rfl ?_
        exact hb.out
      | true =>
        go_wp2_with fail
        refine (new_ok w1).mono ?_
        rintro e w2 ⟨tb, B, rfl, hT, ht, hB, hb2⟩
        have hlt1 := HB1.out.size
        obtain ⟨c1, f1⟩ := cell_in hT.blk 1 _ rfl
        obtain ⟨w3, hw3⟩ : ∃ w3, w3 = w2.setCell ⟨tb, 1, none⟩ (.int .i64 ck) := ⟨_, rfl⟩
        have hk3 : Kx (own2 tb B) w2 w3 := by rw [hw3]; exact Kx.set (.inl rfl) _
        have hT3 : Tb w3 tb B [] ck := ⟨by rw [hw3]; exact set_in hT.blk 1 _, hT.m.same (by rw [hw3]; exact Below.heap_setCell _ _ _ _ hT.ne), by simp, by simp, hck⟩
        have HR0 : Hid (RI w tb B ls ck 0 w3) := ⟨⟨[], hT3, rfl⟩, (HB1.out.trans (hb2.mono hlt1)).trans (hk3.to (by have := hb2.size; omega) (fun g e => by rcases e with rfl | rfl <;> omega))⟩
        have HY := hid (show w.heap.size ≤ tb ∧ w.heap.size ≤ B by omega)
        have HW3 := hid hw3
        simp only [List.getElem_toArray, List.getElem_cons_zero, List.getElem_cons_succ] at c1
        clear hT ht hB hb2 hw3 hk3 hT3 hlt1 HBad
        go_wp2_with fail
        rw [← HW3.out]
        clear HW3 c1 f1
        go_loopw [30] (fun i wr => ∃ k : Nat, i = .int .i64 (k : Int) ∧ k ≤ n ∧ Hid (RI w tb B ls ck k wr)) (fun i _ => n - (intOf i).toNat)
        case atStart => exact ⟨0, rfl, Nat.zero_le _, HR0⟩
        case round =>
          obtain ⟨k, rfl, hk, HR⟩ := hrel
          clear HR0
          by_cases hkn : k < n
          · have hkI : (k : Int) < (n : Int) := by omega
            have hrow := HA.out.below HR.out.bel
            have hkx : k < ls.length := by rw [HNl.out]; exact hkn
            obtain ⟨g, off, rfl, hg, hcs⟩ := hrow.at' (by omega)
            obtain ⟨q0, q1, q2, q3⟩ := hcs k hkx
            obtain ⟨⟨lk, hT, hke⟩, hbel⟩ := HR.out
            have hI := hrow.ok _ (List.getElem_mem hkx)
            obtain ⟨wa, hwa⟩ : ∃ wa, wa = wr.alloc (.cells #[.int .i64 ls[k].i, .int .i64 ls[k].l, .int .i64 ls[k].u, .slice ls[k].o ls[k].n ls[k].c] 59) := ⟨_, rfl⟩
            have hba : Below wr.heap.size wr wa := by rw [hwa]; exact below_al wr _
            have qa : wa.heap[wr.heap.size]? = some (.cells #[.int .i64 ls[k].i, .int .i64 ls[k].l, .int .i64 ls[k].u, .slice ls[k].o ls[k].n ls[k].c] 59) := by rw [hwa]; exact new_block_at wr _ rfl
            have hTa := hT.below hba
            have hmay := (st_facts HM.out.symm).1 _ (List.getElem_mem hkx)
            have HS0 : Hid ((fun X : World => X.cell? ⟨tb, 0, none⟩ = some (.map (some B)) ∧ X.cell? ⟨wr.heap.size, 0, none⟩ = some (.int .i64 ls[k].i) ∧ X.cell? ⟨wr.heap.size, 1, none⟩ = some (.int .i64 ls[k].l) ∧ X.cell? ⟨wr.heap.size, 2, none⟩ = some (.int .i64 ls[k].u) ∧ X.cell? ⟨wr.heap.size, 3, none⟩ = some (.slice ls[k].o ls[k].n ls[k].c) ∧ tb < X.heap.size ∧ wr.heap.size < X.heap.size) wa.drew) :=
              ⟨(cell_in hTa.blk 0 _ rfl).1, (cell_in qa 0 _ rfl).1, (cell_in qa 1 _ rfl).1, (cell_in qa 2 _ rfl).1, (cell_in qa 3 _ rfl).1, node_lt hTa.blk, node_lt qa⟩
            have HSb : Hid (∀ X, Below wa.heap.size wa X → (fun X : World => X.cell? ⟨tb, 0, none⟩ = some (.map (some B)) ∧ X.cell? ⟨wr.heap.size, 0, none⟩ = some (.int .i64 ls[k].i) ∧ X.cell? ⟨wr.heap.size, 1, none⟩ = some (.int .i64 ls[k].l) ∧ X.cell? ⟨wr.heap.size, 2, none⟩ = some (.int .i64 ls[k].u) ∧ X.cell? ⟨wr.heap.size, 3, none⟩ = some (.slice ls[k].o ls[k].n ls[k].c) ∧ tb < X.heap.size ∧ wr.heap.size < X.heap.size) X) := fun X hX => by
              have l1 := node_lt hTa.blk
              have l2 := node_lt qa
              exact ⟨(hX.cell (p := ⟨tb, 0, none⟩) l1).trans (cell_in hTa.blk 0 _ rfl).1, (hX.cell (p := ⟨wr.heap.size, 0, none⟩) l2).trans (cell_in qa 0 _ rfl).1, (hX.cell (p := ⟨wr.heap.size, 1, none⟩) l2).trans (cell_in qa 1 _ rfl).1, (hX.cell (p := ⟨wr.heap.size, 2, none⟩) l2).trans (cell_in qa 2 _ rfl).1, (hX.cell (p := ⟨wr.heap.size, 3, none⟩) l2).trans (cell_in qa 3 _ rfl).1, Nat.lt_of_lt_of_le l1 hX.size, Nat.lt_of_lt_of_le l2 hX.size⟩
            have HCp := hid (copied_ok ls[k] wa.drew ((hI.2.2.2.below hba).below (Below.refl _ wa).drew) (by have := hmay.2.2.2.2.2; omega))
            have HNx : Hid (∀ (Y : World) (o' : Option Addr) (c' : Nat), Below wa.heap.size wa Y → Has Y o' ls[k].n c' ls[k].b → Fr wa.heap.size Y o' c' → ∃ Z, (Instr.mapUpdate 61 (.map (some B)) (.int .i64 ls[k].i) (sxv ⟨ls[k].i, ls[k].l, ls[k].u, o', ls[k].n, c', ls[k].b⟩)).run Tryd.prog Y = .ok () Z ∧ RI w tb B ls ck (k + 1) Z) := fun Y o' c' hY hh hf => by
              obtain ⟨Z, e1, e2, l2, e3, e4⟩ := RI.next hTa hke hkx (by rw [HNl.out]; have := H8.out; omega) HM.out.symm ⟨hI.1, hI.2.1, hI.2.2.1⟩ hY hh hf
              have b1 := hbel.trans ((hba.mono hbel.size).trans (hY.mono (Nat.le_trans hbel.size hba.size)))
              exact ⟨Z, e1, ⟨l2, e3, e4⟩, b1.trans (e2.to b1.size (fun g e => by rcases e with rfl | rfl; exact HY.out.1; exact HY.out.2))⟩
            have HWa := hid hwa
            clear hrow hcs hT hke hbel hI hwa hba qa hTa hmay HR
            generalize ls[k] = s at *
            obtain ⟨si, sl, su, so, sn, sc, sb⟩ := s
            dsimp only at q0 q1 q2 q3 HS0 HSb HCp HNx HWa
            go_wp2_with fail
            rw [← HWa.out]
            refine region_L 8 (fun X : World => X.cell? ⟨tb, 0, none⟩ = some (.map (some B)) ∧ X.cell? ⟨wr.heap.size, 0, none⟩ = some (.int .i64 si) ∧ X.cell? ⟨wr.heap.size, 1, none⟩ = some (.int .i64 sl) ∧ X.cell? ⟨wr.heap.size, 2, none⟩ = some (.int .i64 su) ∧ X.cell? ⟨wr.heap.size, 3, none⟩ = some (.slice so sn sc) ∧ tb < X.heap.size ∧ wr.heap.size < X.heap.size) (by kernel_rfl) HS0.out (fun hHeld => ?_)
            refine anyT 0 hHeld ?_
            refine anyT 1 hHeld ?_
            refine anyT 2 hHeld ?_
            refine anyT 3 hHeld ?_
            refine anyT 4 hHeld ?_
            refine anyT 5 hHeld ?_
            refine anyT 6 hHeld ?_
            (try simp only [Act.put, List.setIfInBounds_toArray, List.set_cons_zero, List.set_cons_succ])
            clear hHeld q0 q1 q2 q3
            refine anyO 7 (fun K hK => ?_)
            go_simp
            refine HCp.out.mono ?_
            rintro e X1 ⟨o', c', rfl, k1, k2, k3⟩
            have hY : Below wa.heap.size wa X1 := (Below.refl _ wa).drew.trans k3
            obtain ⟨Z, hu, hRI⟩ := HNx.out X1 o' c' hY k1 k2
            have HRI := hid hRI
            have hHeld := HSb.out X1 hY
            dsimp only [sxv] at hu
            go_simp
            refine hK.out _ _ hHeld ?_
            clear hK K hHeld k1 k2 k3 hY hRI HNx HCp HSb HS0 HWa
            (try simp only [Act.put, List.setIfInBounds_toArray, List.set_cons_zero, List.set_cons_succ])
            refine anyZ (fun K hK => ?_)
            go_simp
            refine hK.out _ _ ?_
            clear hK K hu
            go_wp2_with fail
            exact ⟨⟨k + 1, by go_num, by omega, HRI⟩, by simp [intOf]; omega⟩
          · have hkI : ¬ (k : Int) < (n : Int) := by omega
            have hkd : decide ((k : Int) < (n : Int)) = false := by simpa using hkI
            have hkd2 : decide (k < n) = false := by simpa using hkn
            have HF : Hid (RestQ w ls ck (.returned (.tuple #[.pointer (some ⟨tb, 0, none⟩), .nilIface])) wr) := by
              obtain ⟨⟨lk, hT, hke⟩, hbel⟩ := HR.out
              have hkl : k = ls.length := by rw [HNl.out]; omega
              rw [hkl, List.take_length] at hke
              refine ⟨hbel, .inr ⟨?_, tb, B, lk, rfl, hT, hke, HY.out.1, HY.out.2⟩⟩
              unfold resB
              rw [← HM.out, decide_eq_true (p := 0 ≤ ck) (by have := H0.out; omega), decide_eq_true (p := ls.length ≤ 8) (by rw [HNl.out]; have := H8.out; omega)]
              rfl
            clear HR
            go_wp2_with fail
            refine bodyPost_ret (v := .tuple #[.pointer (some ⟨tb, 0, none⟩), .nilIface]) (by simp [results, Tryd.results8, go_sem]) rfl ?_
            exact HF.out
end Go.Proofs.YtjhclpionimjbaaDoor
