/-
  Owned at one row of bytes; what stands while the laws' tells overwrites a list. Conditions: those that each theorem names.
-/
import Derived.Test.YtjhclpionimjbaaDoorZXn
import Derived.Test.YtjhclpionimjbaaDoorZOwned
import Derived.Test.YtjhclpionimjbaaDoorZSame
namespace Go.Proofs.YtjhclpionimjbaaDoor
open Go.RowKit Go.Maps
set_option linter.unusedVariables false
/-- What Owned does to the one row that it gets. -/
structure OwnK (o : Option Addr) (w w' : World) : Prop where
  os : w'.os = w.os
  tape : w'.tape = w.tape
  output : w'.output = w.output
  size : w.heap.size ≤ w'.heap.size
  blk : ∀ k, k < w.heap.size → o ≠ some ⟨k, 0, none⟩ → w'.heap[k]? = w.heap[k]?
  own : ∀ g cur, o = some ⟨g, 0, none⟩ → w.heap[g]? = some (.cells cur 5 (0, 0)) → ∃ cur', w'.heap[g]? = some (.cells cur' 5 (0, 0)) ∧ cur'.size = cur.size
theorem one_owned {w : World} {m b n c : Nat} {o : Option Addr} (hf : Fr m w o c) (hn : n ≤ c) (hb : w.cell? ⟨b, 0, none⟩ = some (.slice o n c)) (hbT : NoT w b) :
    Calls Tryd.prog 26 #[.slice (some ⟨b, 0, none⟩) 1 1] w fun e w' => e = .returned (.bool true) ∧ OwnK o w w' := by
  rcases hf with ⟨rfl, rfl⟩ | ⟨g, cur, rfl, hm, hg, hsz, hmx⟩
  · obtain rfl : n = 0 := by omega
    refine (owned_any b 0 1 1 [(none, 0, 0)] w ⟨fun j hj => ?_, fun j hj g e => ?_, fun j hj => ?_, fun i j h1 h2 g hne => ?_, fun j hj => ?_⟩ rfl (by omega)).mono ?_
    · obtain rfl : j = 0 := by simpa using hj
      exact hb
    · obtain rfl : j = 0 := by simpa using hj
      cases e
    · obtain rfl : j = 0 := by simpa using hj
      exact ⟨by simp, by simp, fun _ => rfl⟩
    · obtain rfl : i = 0 := by simpa using h1
      obtain rfl : j = 0 := by simpa using h2
      exact absurd rfl hne
    · obtain rfl : j = 0 := by simpa using hj
      intro e
      cases e
    · rintro e w' ⟨rfl, hI⟩
      exact ⟨rfl, hI.os, hI.tape, hI.output, hI.size, fun k hk _ => hI.blk k hk (fun j hj e => by
        obtain rfl : j = 0 := by simpa using hj
        cases e), fun g cur e => by cases e⟩
  · refine (owned_any b 0 1 1 [(some g, n, c)] w ⟨fun j hj => ?_, fun j hj g' e => ?_, fun j hj => ?_, fun i j h1 h2 g hne => ?_, fun j hj => ?_⟩ rfl (by omega)).mono ?_
    · obtain rfl : j = 0 := by simpa using hj
      exact hb
    · obtain rfl : j = 0 := by simpa using hj
      cases e
      exact ⟨cur, hg, hsz⟩
    · obtain rfl : j = 0 := by simpa using hj
      exact ⟨hn, by unfold maxLen at hmx; simpa using hmx, fun e => by cases e⟩
    · obtain rfl : i = 0 := by simpa using h1
      obtain rfl : j = 0 := by simpa using h2
      exact absurd rfl hne
    · obtain rfl : j = 0 := by simpa using hj
      intro e
      cases e
      exact hbT _ hg
    · rintro e w' ⟨rfl, hI⟩
      refine ⟨rfl, hI.os, hI.tape, hI.output, hI.size, fun k hk hne => hI.blk k hk (fun j hj e => ?_), fun g' cur' e hg' => ?_⟩
      · obtain rfl : j = 0 := by simpa using hj
        cases e
        exact hne rfl
      · cases e
        rw [hg] at hg'
        cases hg'
        obtain ⟨cur2, k1, k2⟩ := (hI.done 0 (by simp) g (by omega) rfl).ob
        exact ⟨cur2, k1, k2.trans hsz.symm⟩
theorem OwnK.fr {o p : Option Addr} {w w' : World} {m c : Nat} (h : OwnK o w w') (hf : Fr m w p c) : Fr m w' p c := by
  rcases hf with hf | ⟨g, cur, rfl, hm, hg, hsz, hmx⟩
  · exact .inl hf
  · by_cases e : o = some ⟨g, 0, none⟩
    · obtain ⟨cur', k1, k2⟩ := h.own g cur e hg
      exact .inr ⟨g, cur', rfl, hm, k1, k2.trans hsz, hmx⟩
    · exact .inr ⟨g, cur, rfl, hm, (h.blk g (node_lt hg) e).trans hg, hsz, hmx⟩
theorem OwnK.notT {o : Option Addr} {w w' : World} {m c g : Nat} {obj : Obj} (h : OwnK o w w') (hf : Fr m w o c) (hg : w.heap[g]? = some obj) (hT : NoT w g) : w'.heap[g]? = some obj := by
  refine (h.blk g (node_lt hg) (fun e => ?_)).trans hg
  rcases hf with ⟨e2, _⟩ | ⟨g2, cur, e2, _, hg2, _⟩
  · rw [e] at e2; cases e2
  · rw [e] at e2; cases e2
    exact hT _ hg2
theorem OwnK.below {o : Option Addr} {w w' : World} {m c : Nat} (h : OwnK o w w') (hf : Fr m w o c) (hmw : m ≤ w.heap.size) : Below m w w' :=
  ⟨h.os, h.tape, h.output, h.size, fun k hk => by
    refine h.blk k (Nat.lt_of_lt_of_le hk hmw) (fun e => ?_)
    rcases hf with ⟨e2, _⟩ | ⟨g2, cur, e2, hm, _⟩
    · rw [e] at e2; cases e2
    · rw [e] at e2; cases e2; omega⟩
/-- While tells overwrites the list: what stands of it. -/
structure TI (w : World) (g1 : Nat) (ls : List Sx) (j : Nat) (wr : World) : Prop where
  bel : Below w.heap.size w wr
  ge : w.heap.size ≤ g1
  blk : ∃ cur, wr.heap[g1]? = some (.cells cur 59 (0, 0)) ∧ ls.length * 4 ≤ cur.size
  rest : ∀ k (hk : k < ls.length), j ≤ k → wr.cell? ⟨g1, k * 4 + 3, none⟩ = some (.slice ls[k].o ls[k].n ls[k].c) ∧ Fr w.heap.size wr ls[k].o ls[k].c
theorem TI.next {w wr w3 : World} {g1 j : Nat} {ls : List Sx} {ob : Obj} (h : TI w g1 ls j wr) (hj : j < ls.length) (hO : OwnK ls[j].o (wr.alloc ob) w3) : TI w g1 ls (j + 1) (st4 w3 g1 j ⟨-7, 0, 0, none, 0, 0, []⟩) := by
  obtain ⟨cur, hg, hcs⟩ := h.blk
  have hba := below_al wr ob
  have hga : (wr.alloc ob).heap[g1]? = some (.cells cur 59 (0, 0)) := (hba.block g1 (node_lt hg)).trans hg
  have hfa : Fr w.heap.size (wr.alloc ob) ls[j].o ls[j].c := (h.rest j hj (Nat.le_refl _)).2.below hba
  have hg3 := hO.notT hfa hga (NoT.cells hga (by decide))
  have hk4 := st4_kx w3 g1 j ⟨-7, 0, 0, none, 0, 0, []⟩
  have hL4 : ∀ x, x < w3.heap.size → x = g1 → NoT w3 x := fun x _ e => by rw [e]; exact NoT.cells hg3 (by decide)
  have hb3 : Below w.heap.size w w3 := (h.bel.trans (hba.mono h.bel.size)).trans (hO.below hfa (Nat.le_trans h.bel.size hba.size))
  have hg4 := set_in (set_in (set_in (set_in hg3 (j * 4) (.int .i64 (-7))) (j * 4 + 1) (.int .i64 0)) (j * 4 + 2) (.int .i64 0)) (j * 4 + 3) (.slice none 0 0)
  refine ⟨hb3.trans (hk4.to hb3.size (fun g e => by rw [e]; exact h.ge)), h.ge, ⟨_, hg4, by simpa using hcs⟩, fun k hk hjk => ?_⟩
  obtain ⟨k1, k2⟩ := h.rest k hk (by omega)
  refine ⟨?_, (hO.fr (k2.below hba)).kxT hk4 hL4⟩
  have hc : cur[k * 4 + 3]? = some (.slice ls[k].o ls[k].n ls[k].c) := by
    simp only [World.cell?, hg] at k1
    simpa using k1
  refine (cell_in hg4 (k * 4 + 3) _ ?_).1
  rw [Array.getElem?_setIfInBounds_ne (by omega), Array.getElem?_setIfInBounds_ne (by omega), Array.getElem?_setIfInBounds_ne (by omega), Array.getElem?_setIfInBounds_ne (by omega)]
  exact hc
set_option maxRecDepth 100000 in
set_option maxHeartbeats 8000000 in
theorem tells_ok {w : World} {m tb B xb : Nat} {v : Value} {l l2 : List Sx} {ck : Int} (hT : Tb w tb B l ck) (hX : Xt w m xb v l2 ck) (he : l.map key = l2.map key) :
    Calls Tryd.prog 14 #[.pointer (some ⟨tb, 0, none⟩), .pointer (some ⟨xb, 0, none⟩)] w fun e w' => e = .returned (.bool true) ∧ Below w.heap.size w w' := by
  have HT := hid hT
  have HX := hid hX
  have HE := hid he
  have HLi := hid (list_ok hT)
  clear hT hX he
  go_enter Tryd.func14, Tryd.ntmps14
  go_wp2_with fail
  refine HLi.out.mono ?_
  rintro e w1 ⟨v1, ls, rfl, hrow, hk1, hb1⟩
  have hX1 := HX.out.below hb1
  obtain ⟨so1, cp1, rfl, hc1, hle1, hn1⟩ := hrow.c
  obtain ⟨so2, cp2, rfl, hc2, _, _⟩ := hX1.row.c
  have c0 := hX1.cells.1
  have HSa := hid (same_ok (cap := cp1) (cap2 := cp2) hc1 hc2 (hk1.trans HE.out))
  have hl8 : ls.length ≤ 8 := by have := congrArg List.length hk1; simp at this; have := HT.out.few; omega
  have hnI : (ls.length : Int) ≤ 8 := by omega
  have HRow := hid hrow
  have HB1 := hid hb1
  have HKe := hid hk1
  clear hrow hk1 hb1 hX1 hc1 hc2 HLi
  go_wp2_with fail
  refine HSa.out.mono ?_
  rintro e w2 ⟨rfl, hb2⟩
  have HB2 : Hid (Below w.heap.size w w2) := HB1.out.trans (hb2.mono HB1.out.size)
  have HTI : Hid (∀ g1, so1 = some ⟨g1, 0, none⟩ → TI w g1 ls 0 w2) := fun g1 e => by
    subst e
    have hr2 := HRow.out.below hb2
    rcases Nat.eq_zero_or_pos ls.length with h0 | h0
    · obtain ⟨cur, hg⟩ := row_blk hr2 (g := g1) rfl
      exact ⟨HB2.out, (row_not hr2.own g1 rfl).2.1, ⟨cur, hg, by omega⟩, fun k hk => by omega⟩
    · obtain ⟨g, cap, cur, e, hm, hg, hn, hmx, hsz, htk⟩ := row_form hr2 h0
      cases e
      exact ⟨HB2.out, hm, ⟨cur, hg, by omega⟩, fun k hk _ => ⟨(row_cell (n := 0) hg htk hk 3 (by omega) _ rfl).1, (hr2.has _ (List.getElem_mem hk)).2.1⟩⟩
  have HForm : Hid (0 < ls.length → ∃ g1, so1 = some ⟨g1, 0, none⟩) := fun h0 => by
    obtain ⟨g, cap, cur, e, _⟩ := row_form HRow.out h0
    cases e
    exact ⟨_, rfl⟩
  have HNc : Hid (∀ k (hk : k < ls.length), ls[k].n ≤ ls[k].c) := fun k hk => (HRow.out.has _ (List.getElem_mem hk)).1.2.1
  clear hb2 HSa HRow HB1 c0
  go_wp2_with fail
  go_loopw [7] (fun i wr => ∃ j : Nat, i = .int .i64 (j : Int) ∧ j ≤ ls.length ∧ Hid (Below w.heap.size w wr ∧ ∀ g1, so1 = some ⟨g1, 0, none⟩ → TI w g1 ls j wr)) (fun i _ => ls.length - (intOf i).toNat)
  case atStart => exact ⟨0, rfl, Nat.zero_le _, hid ⟨HB2.out, HTI.out⟩⟩
  case round =>
    obtain ⟨j, rfl, hj, HR⟩ := hrel
    clear HTI
    by_cases hjn : j < ls.length
    · have hjI : (j : Int) < (ls.length : Int) := by omega
      obtain ⟨g1, rfl⟩ := HForm.out (by omega)
      have HI := hid (HR.out.2 g1 rfl)
      obtain ⟨q3, hfr⟩ := HI.out.rest j hjn (Nat.le_refl _)
      have HNx := hid (fun (ob : Obj) (w3 : World) (h : OwnK ls[j].o (wr.alloc ob) w3) => HI.out.next hjn h)
      obtain ⟨wa, hwa⟩ : ∃ wa, wa = wr.alloc (.cells #[.slice ls[j].o ls[j].n ls[j].c] 40) := ⟨_, rfl⟩
      have hba : Below wr.heap.size wr wa := by rw [hwa]; exact below_al wr _
      have hga : wa.heap[wr.heap.size]? = some (.cells #[.slice ls[j].o ls[j].n ls[j].c] 40) := by rw [hwa]; exact new_block_at wr _ rfl
      have HOw : Hid (ls[j].n ≤ ls[j].c → Calls Tryd.prog 26 #[.slice (some ⟨wr.heap.size, 0, none⟩) 1 1] wa fun e w' => e = .returned (.bool true) ∧ OwnK ls[j].o wa w') := fun hn => one_owned (hfr.below hba) hn (cell_in hga 0 _ rfl).1 (NoT.cells hga (by decide))
      have hn := HNc.out j hjn
      have HWa := hid hwa
      have HFr := hid (hfr.below hba)
      have HBk : Hid (∃ cur, wa.heap[g1]? = some (.cells cur 59 (0, 0)) ∧ ls.length * 4 ≤ cur.size) := by
        obtain ⟨cur, k1, k2⟩ := HI.out.blk
        exact ⟨cur, (hba.block g1 (node_lt k1)).trans k1, k2⟩
      have HCall := hid (HOw.out hn)
      clear hwa hba hga hfr HOw hn HR HI
      generalize ls[j].o = o0 at *
      generalize ls[j].n = n0 at *
      generalize ls[j].c = c0 at *
      go_wp2_with fail
      rw [← HWa.out]
      refine HCall.out.mono ?_
      rintro e w3 ⟨rfl, hO⟩
      obtain ⟨cur, k1, k2⟩ := HBk.out
      have hg3 := hO.notT HFr.out k1 (NoT.cells k1 (by decide))
      have hcu : ∀ i, i < 4 → ∃ u, cur[j * 4 + i]? = some u := fun i hi => ⟨_, Array.getElem?_eq_getElem (by omega)⟩
      obtain ⟨u0, h0⟩ := hcu 0 (by omega)
      obtain ⟨u1, h1⟩ := hcu 1 (by omega)
      obtain ⟨u2, h2⟩ := hcu 2 (by omega)
      obtain ⟨u3, h3⟩ := hcu 3 (by omega)
      obtain ⟨z0, zf0⟩ := cell_in hg3 _ _ h0
      obtain ⟨z1, zf1⟩ := cell_in hg3 _ _ h1
      obtain ⟨z2, zf2⟩ := cell_in hg3 _ _ h2
      obtain ⟨z3, zf3⟩ := cell_in hg3 _ _ h3
      rw [Nat.add_zero] at z0 zf0
      have HFin := hid (HNx.out _ w3 (by rw [← HWa.out]; exact hO))
      clear hO k1 k2 hg3 hcu h0 h1 h2 h3 HCall HNx HBk HFr HWa q3
      go_wp2_with fail
      exact ⟨⟨j + 1, by go_num, by omega, hid ⟨HFin.out.bel, fun g e => by cases e; exact HFin.out⟩⟩, by simp [intOf]; omega⟩
    · have hjI : ¬ (j : Int) < (ls.length : Int) := by omega
      have hjd : decide ((j : Int) < (ls.length : Int)) = false := by simpa using hjI
      have hjd2 : decide (j < ls.length) = false := by simpa using hjn
      have HBr := hid HR.out.1
      clear HR
      go_wp2_with fail
      have hTd := HT.out.below HBr.out.drew
      have hXd := HX.out.below HBr.out.drew
      obtain ⟨y0, y1, _, _, yl, _⟩ := hXd.cells
      have HS : Hid (XS xb (.slice so2 l2.length cp2) ck wr.drew) := hid ⟨y0, y1, yl⟩
      have HTd := hid hTd
      have HXd := hid hXd
      have HLd := hid (list_ok hTd)
      have HBd : Hid (Below w.heap.size w wr.drew) := HBr.out.drew
      clear hTd hXd y0 y1 yl HT HX HBr
      refine region_L 99 (fun X : World => X.cell? ⟨xb, 0, none⟩ = some (.slice so2 l2.length cp2) ∧ X.cell? ⟨xb, 1, none⟩ = some (.int .i64 ck) ∧ xb < X.heap.size) (by kernel_rfl) HS.out (fun hHeld => ?_)
      generalize wr.drew = W at *
      refine anyT 0 hHeld ?_
      refine anyT 1 hHeld ?_
      refine anyT 2 hHeld ?_
      refine anyT 4 hHeld ?_
      refine anyT 5 hHeld ?_
      refine anyT 6 hHeld ?_
      refine anyT 7 hHeld ?_
      (try simp only [Act.put, List.setIfInBounds_toArray, List.set_cons_zero, List.set_cons_succ])
      clear hHeld
      refine anyO 3 (fun K hK => ?_)
      go_simp
      refine HLd.out.mono ?_
      rintro e w4 ⟨v4, ls4, rfl, hrow4, hk4, hb4⟩
      have hHeld := HS.out.below hb4
      obtain ⟨so4, cp4, rfl, hc4, _, _⟩ := hrow4.c
      have hX4 := HXd.out.below hb4
      obtain ⟨so5, cp5, e5, hc5, _, _⟩ := hX4.row.c
      cases e5
      have HSa := hid (same_ok (cap := cp4) (cap2 := cp2) hc4 hc5 (hk4.trans HE.out))
      have HT4 := hid (HTd.out.below hb4)
      have HB4 := hid (HBd.out.trans (hb4.mono HBd.out.size))
      have HS4 := hid hHeld
      clear hrow4 hk4 hb4 hc4 hX4 hc5 HS HTd HXd HLd HBd
      go_simp
      refine hK.out _ _ hHeld ?_
      clear hK K hHeld
      (try simp only [Act.put, List.setIfInBounds_toArray, List.set_cons_zero, List.set_cons_succ])
      refine anyO 8 (fun K hK => ?_)
      go_simp
      refine HSa.out.mono ?_
      rintro e w5 ⟨rfl, hb5⟩
      have hHeld := HS4.out.below hb5
      have HT5 := hid (HT4.out.below hb5)
      have HB5 := hid (HB4.out.trans (hb5.mono HB4.out.size))
      have HS5 := hid hHeld
      clear hb5 HSa HT4 HB4 HS4
      go_simp
      refine hK.out _ _ hHeld ?_
      clear hK K
      (try simp only [Act.put, List.setIfInBounds_toArray, List.set_cons_zero, List.set_cons_succ])
      refine anyT 9 hHeld ?_
      refine anyT 10 hHeld ?_
      refine anyT 11 hHeld ?_
      refine anyT 13 hHeld ?_
      refine anyT 14 hHeld ?_
      refine anyT 15 hHeld ?_
      refine anyT 16 hHeld ?_
      (try simp only [Act.put, List.setIfInBounds_toArray, List.set_cons_zero, List.set_cons_succ])
      clear hHeld
      refine anyO 12 (fun K hK => ?_)
      go_simp
      refine (clock_ok HT5.out).mono ?_
      rintro e w6 ⟨rfl, rfl⟩
      have hHeld := HS5.out
      unfold XS at hHeld
      go_simp
      refine hK.out _ _ hHeld ?_
      clear hK K
      (try simp only [Act.put, List.setIfInBounds_toArray, List.set_cons_zero, List.set_cons_succ])
      refine anyT 17 hHeld ?_
      refine anyT 18 hHeld ?_
      refine anyT 19 hHeld ?_
      refine ⟨by kernel_rfl, ?_⟩
      clear hHeld
      go_wp2_with fail
      go_ret
      exact ⟨rfl, HB5.out⟩
end Go.Proofs.YtjhclpionimjbaaDoor
