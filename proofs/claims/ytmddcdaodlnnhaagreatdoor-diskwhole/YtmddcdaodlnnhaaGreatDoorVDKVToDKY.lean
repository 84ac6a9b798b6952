/-
  Read and Files of package disk. Conditions: those that each theorem names.
  Files of package disk. Conditions: those that each theorem names.
-/
import Derived.Test.YtmddcdaodlnnhaaGreatDoorVDKW
namespace Go.Proofs.YtmddcdaodlnnhaaGreatDoor
open Go.RowKit Go.Maps
set_option linter.unusedVariables false
def readB (off : Bool) (S : ByteArray) (P : List Pf) : List UInt8 := if fiP off S P = 0 then (oldP P S.data.toList).b else []
section
variable {m T T' : Nat} {w w' W X Y : World} {d B : Nat} {fs : List Fx} {off arm : Bool} {ah pa : Int}
set_option maxRecDepth 100000 in
set_option maxHeartbeats 2000000 in
theorem dkread_ok (h : Dk m T w d B fs off arm ah pa) (hT : T < 1099511627776) (S : ByteArray) (hS : S.size ≤ 9007199254740992) :
    Calls Tryz.prog 16 #[.pointer (some ⟨d, 0, none⟩), .string S] w fun e w' => ∃ o n c, e = .returned (.tuple #[.slice o n c, evV (fiP off S (fs.map pl))]) ∧ w'.ownsRow w.heap.size 5 1 (.slice o n c) n ((readB off S (fs.map pl)).map bv) ∧ Below w.heap.size w w' := by
  have HFi := hid (dkfind_ok h S hS)
  unfold readB
  rw [← fiC_P]
  by_cases hc : fiC off S fs = 0
  · obtain ⟨hc0, f, hf, hfv⟩ := fiC_some hc
    simp only [if_pos hc]
    rw [hc, hfv] at HFi
    have HFi : Hid (Calls Tryz.prog 36 #[.pointer (some ⟨d, 0, none⟩), .string S] w fun e w' => e = .returned (.tuple #[.pointer (some ⟨f.p, 0, none⟩), .nilIface]) ∧ w' = w) := HFi
    obtain ⟨hm, hnx, hok, hbd⟩ := h.at hf
    obtain ⟨⟨c0, c1⟩, g0, g1⟩ := two_cells hok.blk
    have flt := node_lt hok.blk
    have HC := hid (cloneR_ok f.o f.k f.c f.b w hok.has (by omega))
    have hob : (oldP (fs.map pl) S.data.toList).b = f.b := by rw [oldP_some hf]; rfl
    rw [hob, hc]
    have he : evV 0 = .nilIface := rfl
    rw [he]
    clear h hc hc0 hf hfv hm hnx hok hbd hob he
    obtain ⟨fn, fp, fo, fk, fc, fb, fs0⟩ := f
    dsimp only at *
    go_enter Tryz.func16, Tryz.ntmps16
    go_wp2_with fail
    refine HFi.out.mono ?_
    rintro e wf ⟨rfl, rfl⟩
    clear HFi
    go_wp2_with (first
      | (go_at_call 33; refine HC.out.mono ?_; rintro e X ⟨o', c', rfl, k1, k2⟩; have HX := hid (And.intro k1 k2); clear k1 k2 HC))
    refine bodyPost_ret (v := .tuple #[.slice o' fk c', .nilIface]) (by simp [results, Tryz.results16, go_sem]) rfl ?_
    exact ⟨o', fk, c', rfl, HX.out.1, HX.out.2⟩
  · simp only [if_neg hc]
    obtain ⟨c, hcc⟩ : ∃ c, c = fiC off S fs := ⟨_, rfl⟩
    obtain ⟨p, hp⟩ := fiV_ptr off S fs
    rw [← hcc] at HFi hc ⊢
    rw [hp] at HFi
    have e : evV c = .iface 51 (.int .i64 c) := if_neg hc
    rw [e] at HFi ⊢
    clear h hc hcc hp e
    go_enter Tryz.func16, Tryz.ntmps16
    go_wp2_with fail
    refine HFi.out.mono ?_
    rintro e wf ⟨rfl, rfl⟩
    clear HFi
    go_wp2_with fail
    refine bodyPost_ret (v := .tuple #[.slice none 0 0, .iface 51 (.int .i64 c)]) (by simp [results, Tryz.results16, go_sem]) rfl ?_
    exact ⟨none, 0, 0, rfl, ⟨rfl, .inl ⟨rfl, rfl⟩⟩, Below.refl _ _⟩
/-- Where names lie. -/
theorem names_at {w : World} {b : Nat} {v : Value} {l : List Nm} (h : w.ownsRow b 9 1 v l.length (l.map encStr)) : ∃ so cp, v = .slice so l.length cp ∧ (so = none → cp = 0) ∧ l.length ≤ cp ∧ (0 < l.length → ∃ g, so = some ⟨g, 0, none⟩ ∧ b ≤ g ∧ g < w.heap.size ∧ (∃ cur, w.heap[g]? = some (.cells cur 9 (0, 0))) ∧ ∀ i (h : i < l.length), w.cell? ⟨g, i, none⟩ = some (.string ⟨l[i].toArray⟩)) := by
  obtain ⟨hll, hk | ⟨g, cap, cur, rfl, hm, hg, hn, hmx, hsz, htk⟩⟩ := h
  · obtain ⟨rfl, h0⟩ := hk
    exact ⟨none, 0, by rw [h0], fun _ => rfl, by omega, fun h => absurd h (by omega)⟩
  · refine ⟨_, cap, rfl, (fun e => by cases e), hn, fun _ => ⟨g, rfl, hm, node_lt hg, ⟨cur, hg⟩, fun i hi => ?_⟩⟩
    have h1 : cur[i]? = some (.string ⟨l[i].toArray⟩) := by
      have : (cur.toList.take (l.length * 1))[i]? = some (.string ⟨l[i].toArray⟩) := by rw [htk]; simp [hi]
      rw [List.getElem?_take_of_lt (by omega)] at this
      simpa using this
    exact (cell_in hg i _ h1).1
/-- Files so far. -/
def FI (wb : World) (P : List Pf) (j : Nat) (v : Value) (wr : World) : Prop := ∃ ls : List Gx, ls.map pg = P.take j ∧ RowG wb.heap.size wr v ls ∧ Below wb.heap.size wb wr
theorem RowG.nil (m : Nat) (w : World) : RowG m w (.slice none 0 0) [] := ⟨⟨rfl, .inl ⟨rfl, rfl⟩⟩, by simp⟩
theorem three_new (w : World) (a b c : Value) (t : TypeId) : ∀ j u, [a, b, c][j]? = some u → (w.alloc (.cells #[a, b, c] t)).cell? ((⟨w.heap.size, 0, none⟩ : Addr).add j) = some u := by
  intro j u hj
  rw [Addr.add_lit, Nat.zero_add]
  refine (cell_in (new_block_at w _ rfl) j u ?_).1
  simpa using hj
/-- One more. -/
theorem FI.next {wb w1 w2 w3 : World} {P : List Pf} {j : Nat} {v : Value} {ls : List Gx} (e1 : ls.map pg = P.take j) (hr : RowG wb.heap.size w1 v ls) (hb : Below wb.heap.size wb w1) (hj : j < P.length) (hj2 : j < 1099511627776) {o' : Option Addr} {c' : Nat}
    (h12 : Below w1.heap.size w1 w2) (hrow : w2.ownsRow wb.heap.size 5 1 (.slice o' P[j].b.length c') P[j].b.length (P[j].b.map bv)) (hs : P[j].s ≤ P[j].b.length)
    (hw3 : w3 = w2.alloc (.cells #[.string ⟨P[j].n.toArray⟩, .slice o' P[j].b.length c', .int .i64 (P[j].s : Int)] 40)) :
    ∃ v' w4, (Builtin.append_ #[33, 33] 33 #[v, .slice (some ⟨w2.heap.size, 0, none⟩) 1 1]).run Tryz.prog w3 = .ok v' w4 ∧ FI wb P (j + 1) v' w4 ∧ Below wb.heap.size w1 w4 ∧ Kx (fun g => v.ownBlock = some g) w3 w4 := by
  have h23 : Below w2.heap.size w2 w3 := by rw [hw3]; exact below_al _ _
  have hr3 := (hr.below h12).below h23
  obtain ⟨x, hx⟩ : ∃ x : Gx, x = ⟨P[j].n, o', P[j].b.length, c', P[j].b, P[j].s⟩ := ⟨_, rfl⟩
  have hlen : ls.length = j := by
    have := congrArg List.length e1
    simpa [List.length_take, Nat.min_eq_left (Nat.le_of_lt hj)] using this
  have hsrc : Src w3 (some ⟨w2.heap.size, 0, none⟩) 1 (cl [x]) := by
    refine .inr ⟨_, rfl, ?_⟩
    rw [hx, hw3]
    exact three_new w2 _ _ _ _
  obtain ⟨v', w4, hrun, ho, hg, hbl⟩ := app_row (W := w3) (base := wb.heap.size) (v := v) (ls := ls) (N := ls.length) (ps := [x]) (M := 1) hr3.own rfl 1 rfl hsrc (fun e => by cases e) (Nat.le_trans hb.size (Nat.le_trans h12.size h23.size)) (by omega)
  refine ⟨v', w4, hrun, ⟨ls ++ [x], ?_, ⟨by simpa using ho, fun g hg' => ?_⟩, ?_⟩, ?_, .grown hg fun g e => e⟩
  · rw [List.map_append, e1, List.take_succ_eq_append_getElem hj, hx]
    rfl
  · have hkg : Kx (fun g => v.ownBlock = some g) w3 w4 := .grown hg fun g e => e
    have hne : ∀ y : Gx, w3.ownsRow wb.heap.size 5 1 (gsl y) y.k (y.b.map bv) → ∀ g, (gsl y).ownBlock = some g → ¬ v.ownBlock = some g := fun y hy g e e2 => by
      obtain ⟨_, _, cur, hc⟩ := own_lt hy g e
      obtain ⟨_, _, cur2, hc2⟩ := own_lt hr3.own g e2
      rw [hc] at hc2
      cases hc2
    rcases List.mem_append.1 hg' with hm | hm
    · exact ⟨own_kx (hr3.rep g hm).1 hkg (hne g (hr3.rep g hm).1), (hr3.rep g hm).2⟩
    · obtain rfl := List.mem_singleton.1 hm
      have h3 : w3.ownsRow wb.heap.size 5 1 (gsl g) g.k (g.b.map bv) := by
        rw [hx]
        exact own_keep hrow h23
      exact ⟨own_kx h3 hkg (hne g h3), by rw [hx]; exact hs⟩
  · exact hb.trans (((h12.trans (h23.mono h12.size)).mono hb.size).trans hbl)
  · exact ((h12.trans (h23.mono h12.size)).mono hb.size).trans hbl
end
end Go.Proofs.YtmddcdaodlnnhaaGreatDoor
namespace Go.Proofs.YtmddcdaodlnnhaaGreatDoor
open Go.RowKit Go.Maps
set_option linter.unusedVariables false
section
variable {m T T' : Nat} {w w' W X Y : World} {d B : Nat} {fs : List Fx} {off arm : Bool} {ah pa : Int}
set_option maxRecDepth 100000 in
set_option maxHeartbeats 4000000 in
theorem dkfiles_ok (h : Dk m T w d B fs off arm ah pa) (hT : T < 1099511627776) :
    Calls Tryz.prog 11 #[.pointer (some ⟨d, 0, none⟩)] w fun e w' => ∃ v ls, e = .returned v ∧ RowG w.heap.size w' v ls ∧ ls.map pg = fs.map pl ∧ Below w.heap.size w w' := by
  have HN := hid (names_ok h (by omega))
  have HD := hid h
  have hlt := node_lt h.blk
  have hfew := h.few
  obtain ⟨N, hN⟩ : ∃ N, N = fs.length := ⟨_, rfl⟩
  clear h
  go_enter Tryz.func11, Tryz.ntmps11
  go_wp2_with fail
  refine HN.out.mono ?_
  rintro e w2 ⟨v, rfl, hrow, hbw⟩
  have hrow' : w2.ownsRow w.heap.size 9 1 v (fs.map Fx.n).length ((fs.map Fx.n).map encStr) := by rw [List.length_map, List.map_map]; exact hrow
  obtain ⟨so, cp, rfl, hso, hcp, hcs⟩ := names_at hrow'
  rw [List.length_map, ← hN] at hcp
  have hln : (fs.map Fx.n).length = N := by rw [List.length_map, hN]
  simp only [List.length_map, ← hN]
  have HCe : Hid (0 < N → ∃ g, so = some ⟨g, 0, none⟩ ∧ w.heap.size ≤ g ∧ g < w2.heap.size ∧ ∀ i (h : i < fs.length), w2.cell? ⟨g, i, none⟩ = some (.string ⟨fs[i].n.toArray⟩)) := hid fun h0 => by
    obtain ⟨g, a1, a2, a3, _, a5⟩ := hcs (by rw [hln]; exact h0)
    exact ⟨g, a1, a2, a3, fun i hi => by have := a5 i (by simpa using hi); simpa using this⟩
  have HT2 := hid (HD.out.below hbw)
  have hsz := hbw.size
  have HL0 : Hid (FI w2 (fs.map pl) 0 (.slice none 0 0) w2) := ⟨[], rfl, RowG.nil _ _, Below.refl _ _⟩
  have HNl := hid hN
  have HB2 := hid hbw
  have hNT : N < 1099511627776 := by omega
  clear HN hrow hrow' hbw HD hN hcs hfew hln
  go_wp2_with fail
  go_loopw [3, 10] (fun o i wr => ∃ j : Nat, j ≤ N ∧ i = .int .i64 (j : Int) ∧ Hid (FI w2 (fs.map pl) j o wr) ∧ Hid (Below w2.heap.size w2 wr)) (fun o i _ => N - (intOf i).toNat)
  case atStart => exact ⟨0, Nat.zero_le _, rfl, HL0, Below.refl _ _⟩
  case round =>
    obtain ⟨j, hj, rfl, HR, HBr⟩ := hrel
    clear HL0
    by_cases hjn : j < N
    · have hjI : (j : Int) < (N : Int) := by omega
      have hjs : j < fs.length := by rw [← HNl.out]; exact hjn
      obtain ⟨g, rfl, hgw, hgl, hcs⟩ := HCe.out (by omega)
      have hcell := (HBr.out.cell (p := ⟨g, j, none⟩) hgl).trans (hcs j hjs)
      have hTr := HT2.out.below HBr.out
      obtain ⟨cm, _⟩ := (five_cells hTr.blk).1
      have dlt := node_lt hTr.blk
      have hok := hTr.ok _ (List.getElem_mem hjs)
      have hbd := hTr.bd _ (List.getElem_mem hjs)
      obtain ⟨sn, hsn⟩ : ∃ sn : ByteArray, sn = ⟨fs[j].n.toArray⟩ := ⟨_, rfl⟩
      have hsl : sn.data.toList = fs[j].n := by rw [hsn]
      have hss : sn.size ≤ 32 := by
        have e1 : sn.size = sn.data.toList.length := by rw [Array.length_toList]; rfl
        rw [e1, hsl]; exact hok.nl
      have hlk := hTr.mp.look (x := sn) (by unfold maxLen; omega)
      unfold lookV at hlk
      rw [hsl, show fnd fs fs[j].n = some fs[j] from fnd_mem hTr.mp.1 (List.getElem_mem hjs)] at hlk
      replace hlk : (Instr.lookup 57 (.map (some B)) (.string sn) false).run Tryz.prog wr = .ok (.pointer (some ⟨fs[j].p, 0, none⟩)) wr := hlk
      rw [← hsn] at hcell
      obtain ⟨V, hV⟩ : ∃ V, V = wr.drew := ⟨_, rfl⟩
      have hbV : Below wr.heap.size wr V := by rw [hV]; exact (Below.refl _ wr).drew
      have hokV : ∀ Z, Below V.heap.size V Z → FxOk m Z fs[j] := fun Z hZ => (hok.kx (L := fun _ => False) (.below hbV) (fun _ _ e => e)).kx (L := fun _ => False) (.below hZ) (fun _ _ e => e)
      have HSb : Hid (∀ Z, Below V.heap.size V Z → (fun Z : World => Z.cell? ⟨fs[j].p, 0, none⟩ = some (.slice fs[j].o fs[j].k fs[j].c) ∧ Z.cell? ⟨fs[j].p, 1, none⟩ = some (.int .i64 (fs[j].s : Int)) ∧ fs[j].p < Z.heap.size) Z) := hid fun Z hZ => ⟨(two_cells (hokV Z hZ).blk).1.1, (two_cells (hokV Z hZ).blk).1.2, node_lt (hokV Z hZ).blk⟩
      have HS0 := hid (HSb.out V (Below.refl _ _))
      have HC1 := hid (clone_any sn V (by omega))
      have HC2 : Hid (∀ Z, Below V.heap.size V Z → Calls Tryz.prog 33 #[.slice fs[j].o fs[j].k fs[j].c] Z fun e w' => ∃ o' c', e = .returned (.slice o' fs[j].k c') ∧ w'.ownsRow Z.heap.size 5 1 (.slice o' fs[j].k c') fs[j].k (fs[j].b.map bv) ∧ Below Z.heap.size Z w') := hid fun Z hZ => cloneR_ok _ _ _ _ Z (hokV Z hZ).has (by omega)
      obtain ⟨ls, e1, e2, e3⟩ := HR.out
      have HNx : Hid (∀ (Z1 Z2 : World) (o' : Option Addr) (c' : Nat), Below V.heap.size V Z1 → Z2.ownsRow Z1.heap.size 5 1 (.slice o' fs[j].k c') fs[j].k (fs[j].b.map bv) → Below Z1.heap.size Z1 Z2 →
          ∃ v' w4, (Builtin.append_ #[33, 33] 33 #[u3, .slice (some ⟨Z2.heap.size, 0, none⟩) 1 1]).run Tryz.prog (Z2.alloc (.cells #[.string sn, .slice o' fs[j].k c', .int .i64 (fs[j].s : Int)] 40)) = .ok v' w4 ∧ FI w2 (fs.map pl) (j + 1) v' w4 ∧ Below w2.heap.size w2 w4 ∧
            (fun Z : World => Z.cell? ⟨fs[j].p, 0, none⟩ = some (.slice fs[j].o fs[j].k fs[j].c) ∧ Z.cell? ⟨fs[j].p, 1, none⟩ = some (.int .i64 (fs[j].s : Int)) ∧ fs[j].p < Z.heap.size) w4) := hid fun Z1 Z2 o' c' hZ1 hr2 hZ2 => by
        have hjP : j < (fs.map pl).length := by rw [List.length_map]; exact hjs
        have ePj : (fs.map pl)[j] = pl fs[j] := by simp
        have hbl : fs[j].b.length = fs[j].k := hok.len
        have hrV : Below wr.heap.size wr Z2 := hbV.trans ((hZ1.mono hbV.size).trans (hZ2.mono (Nat.le_trans hbV.size hZ1.size)))
        have hw2Z1 : w2.heap.size ≤ Z1.heap.size := Nat.le_trans e3.size (Nat.le_trans hbV.size hZ1.size)
        obtain ⟨v', w4, r1, r2, r3, r4⟩ := FI.next (P := fs.map pl) (j := j) (w2 := Z2) (w3 := Z2.alloc (.cells #[.string sn, .slice o' fs[j].k c', .int .i64 (fs[j].s : Int)] 40)) (o' := o') (c' := c') e1 e2 e3 hjP (by omega) hrV
          (by rw [ePj]; show Z2.ownsRow _ 5 1 (.slice o' fs[j].b.length c') fs[j].b.length (fs[j].b.map bv); rw [hbl]; exact own_mono hr2 hw2Z1) (by rw [ePj]; show fs[j].s ≤ fs[j].b.length; rw [hbl]; exact hok.sk) (by rw [ePj, hsn]; show _ = Z2.alloc (.cells #[.string ⟨fs[j].n.toArray⟩, .slice o' fs[j].b.length c', .int .i64 (fs[j].s : Int)] 40); rw [hbl])
        refine ⟨v', w4, r1, r2, e3.trans r3, ?_⟩
        have hb23 := below_al Z2 (.cells #[.string sn, .slice o' fs[j].k c', .int .i64 (fs[j].s : Int)] 40)
        have hok3 : FxOk m (Z2.alloc (.cells #[.string sn, .slice o' fs[j].k c', .int .i64 (fs[j].s : Int)] 40)) fs[j] := (hokV Z2 (hZ1.trans (hZ2.mono hZ1.size))).kx (L := fun _ => False) (.below hb23) (fun _ _ e => e)
        have hpb : w4.heap[fs[j].p]? = some (.cells #[.slice fs[j].o fs[j].k fs[j].c, .int .i64 (fs[j].s : Int)] 71) := by
          rw [r4.block _ (node_lt hok3.blk) (fun e => ?_)]
          · exact hok3.blk
          · obtain ⟨_, _, cur, hc⟩ := own_lt ((e2.below hrV).below hb23).own _ e
            rw [hok3.blk] at hc
            cases hc
        exact ⟨(two_cells hpb).1.1, (two_cells hpb).1.2, node_lt hpb⟩
      have HVb := hid hV
      clear hcs hTr hok hbd hsl hss e1 e2 e3 HR hbV hokV hsn
      generalize fs[j] = f at *
      obtain ⟨fn, fp, fo, fk, fc, fb, fs0⟩ := f
      dsimp only at hlk HSb HS0 HC2 HNx
      go_wp2_with fail
      refine region_L 99 (fun Z : World => Z.cell? ⟨fp, 0, none⟩ = some (.slice fo fk fc) ∧ Z.cell? ⟨fp, 1, none⟩ = some (.int .i64 (fs0 : Int)) ∧ fp < Z.heap.size) (by kernel_rfl) (by rw [← hV]; exact HS0.out) (fun hHeld => ?_)
      rw [← hV] at hHeld ⊢
      clear hV HVb cm hlk hcell
      refine anyT 0 hHeld ?_
      refine anyT 1 hHeld ?_
      refine anyT 3 hHeld ?_
      refine anyT 4 hHeld ?_
      refine anyT 5 hHeld ?_
      refine anyT 6 hHeld ?_
      refine anyT 8 hHeld ?_
      refine anyT 9 hHeld ?_
      refine anyT 10 hHeld ?_
      refine anyT 11 hHeld ?_
      (try simp only [Act.put, List.setIfInBounds_toArray, List.set_cons_zero, List.set_cons_succ])
      clear hHeld
      refine anyO 2 (fun K hK => ?_)
      go_simp
      refine HC1.out.mono ?_
      rintro e Z1 ⟨rfl, hZ1⟩
      have HZ1 := hid hZ1
      clear hZ1 HC1
      go_simp
      refine hK.out _ _ (HSb.out _ HZ1.out) ?_
      clear hK K
      (try simp only [Act.put, List.setIfInBounds_toArray, List.set_cons_zero, List.set_cons_succ])
      refine anyO 7 (fun K hK => ?_)
      go_simp
      refine (HC2.out Z1 HZ1.out).mono ?_
      rintro e Z2 ⟨o', c', rfl, k1, k2⟩
      obtain ⟨v', w4, r1, r2, r3, r4⟩ := HNx.out Z1 Z2 o' c' HZ1.out k1 k2
      have HZ2 : Hid (Below V.heap.size V Z2) := hid (HZ1.out.trans (k2.mono HZ1.out.size))
      have HRun := hid r1
      have HF := hid (And.intro r2 r3)
      have HS4 := hid r4
      clear k1 k2 r1 r2 r3 r4 HNx HC2
      go_simp
      refine hK.out _ _ (HSb.out _ HZ2.out) ?_
      clear hK K
      (try simp only [Act.put, List.setIfInBounds_toArray, List.set_cons_zero, List.set_cons_succ])
      refine anyO 12 (fun K hK => ?_)
      go_simp
      refine hK.out _ _ (HSb.out _ HZ2.out) ?_
      clear hK K
      (try simp only [Act.put, List.setIfInBounds_toArray, List.set_cons_zero, List.set_cons_succ])
      refine anyO 13 (fun K hK => ?_)
      go_simp
      refine hK.out _ _ (HSb.out _ (HZ2.out.trans ((below_al Z2 _).mono HZ2.out.size))) ?_
      clear hK K
      (try simp only [Act.put, List.setIfInBounds_toArray, List.set_cons_zero, List.set_cons_succ])
      refine anyO 14 (fun K hK => ?_)
      refine step_app_run rfl (.tmp 20) (.tmp 33) 33 rfl (by rfl) (by rfl) HRun.out ?_
      refine hK.out _ _ HS4.out ?_
      clear hK K
      (try simp only [Act.put, List.setIfInBounds_toArray, List.set_cons_zero, List.set_cons_succ])
      have hHeld := HS4.out
      refine anyT 15 hHeld ?_
      refine ⟨by kernel_rfl, ?_⟩
      (try simp only [Act.put, List.setIfInBounds_toArray, List.set_cons_zero, List.set_cons_succ])
      clear hHeld HSb HS0 HZ1 HZ2 HRun HS4
      go_wp2_with fail
      exact ⟨⟨j + 1, by omega, by go_num, HF.out.1, HF.out.2⟩, by simp [intOf]; omega⟩
    · obtain rfl : j = N := by omega
      have HF : Hid (∃ ls, RowG w.heap.size wr u3 ls ∧ ls.map pg = fs.map pl ∧ Below w.heap.size w wr) := by
        obtain ⟨ls, e1, e2, e3⟩ := HR.out
        rw [HNl.out, List.take_of_length_le (by rw [List.length_map]; exact Nat.le_refl _)] at e1
        exact ⟨ls, e2.mono hsz, e1, HB2.out.trans (e3.mono hsz)⟩
      clear HR HBr HCe HT2 HB2
      go_wp2_with fail
      go_ret
      obtain ⟨ls, h⟩ := HF.out
      exact ⟨_, ls, rfl, h⟩
end
end Go.Proofs.YtmddcdaodlnnhaaGreatDoor
