/-
  The document's set: a file at its place. Conditions: those that each theorem names.
-/
import Derived.Test.YtmddcdaodlnnhaaGreatDoorVDLDToDLE
namespace Go.Proofs.YtmddcdaodlnnhaaGreatDoor
open Go.RowKit Go.Maps
set_option linter.unusedVariables false
/-- What holds while three pieces are put together. -/
def XS (x b : Nat) (v : Value) (s : Gx) (W : World) : Prop := W.cell? ⟨x, 0, none⟩ = some v ∧ x < W.heap.size ∧ W.cell? ⟨b, 0, none⟩ = some (.string ⟨s.n.toArray⟩) ∧ W.cell? ⟨b, 1, none⟩ = some (.slice s.o s.k s.c) ∧ W.cell? ⟨b, 2, none⟩ = some (.int .i64 (s.s : Int)) ∧ b < W.heap.size
section
variable {m T T' : Nat} {w w' W X Y : World} {x : Nat} {v : Value} {l : List Gx} {off : Bool} {ac pa : Int}
/-- The row with a new file put in. -/
theorem put_in {n0 : Nat} {w0 W : World} {so : Option Addr} {cp k : Nat} (h : Xd m T w0 x (.slice so l.length cp) l off ac pa) (hn0 : n0 ≤ w0.heap.size) (hb : Below w0.heap.size w0 W) (hk : k ≤ l.length) (hT : T < 1099511627776) {s : Gx} (hI : ins l s = l.take k ++ s :: l.drop k) (hno : ∀ t ∈ l, nm t ≠ nm s)
    (hr : W.ownsRow m 5 1 (.slice s.o s.k s.c) s.k (s.b.map bv)) (ho : ∀ g, (gsl s).ownBlock = some g → OX x (.slice so l.length cp) l g ∨ n0 ≤ g) (hs : s.s ≤ s.k) (hT' : T + 1 ≤ T') (hsk : s.k ≤ T') (hnl : s.n.length ≤ 32) {b : Nat} (hB : W.heap[b]? = some (.cells #[.string ⟨s.n.toArray⟩, .slice s.o s.k s.c, .int .i64 (s.s : Int)] 40)) :
    ∃ v1 W1 v2 W2 so3 cp3 W3 so2, (Builtin.append_ #[33, 33] 33 #[.slice none 0 0, .slice so k cp]).run Tryz.prog W = .ok v1 W1 ∧ (Builtin.append_ #[33, 33] 33 #[v1, .slice (some ⟨W1.heap.size, 0, none⟩) 1 1]).run Tryz.prog (W1.alloc (.cells #[.string ⟨s.n.toArray⟩, .slice s.o s.k s.c, .int .i64 (s.s : Int)] 40)) = .ok v2 W2 ∧
      (∀ X : World, (Instr.slice 33 (.slice so l.length cp) none (some (.int .i64 (k : Int))) none).run Tryz.prog X = .ok (.slice so k cp) X) ∧ (∀ X : World, (Instr.slice 33 (.slice so l.length cp) (some (.int .i64 (k : Int))) none none).run Tryz.prog X = .ok (.slice so2 (l.length - k) (cp - k)) X) ∧
      (Builtin.append_ #[33, 33] 33 #[v2, .slice so2 (l.length - k) (cp - k)]).run Tryz.prog W2 = .ok (.slice so3 (l.length + 1) cp3) W3 ∧ XS x b (.slice so l.length cp) s W1 ∧ XS x b (.slice so l.length cp) s W2 ∧ XS x b (.slice so l.length cp) s W3 ∧ W3.frozen? ⟨x, 0, none⟩ = false ∧
      Xd m T' (W3.setCell ⟨x, 0, none⟩ (.slice so3 (l.length + 1) cp3)) x (.slice so3 (l.length + 1) cp3) (ins l s) off ac pa ∧ StpN n0 (OX x (.slice so l.length cp) l) w0 (OX x (.slice so3 (l.length + 1) cp3) (ins l s)) (W3.setCell ⟨x, 0, none⟩ (.slice so3 (l.length + 1) cp3)) := by
  have hX := h.below hb
  obtain ⟨so', cp', e, hsr⟩ := hX.row.src
  cases e
  have hfew := h.few
  have h0W := hb.size
  obtain ⟨so2, hsl2, e1, e2, e3⟩ := slice_loF (so := so) (n := l.length) (cp := cp) (k := k) hk hsr.le hsr.nil
  obtain ⟨v1, W1, hr1, ho1, hg1, hb1⟩ := app_row (W := W) (base := W.heap.size) (v := .slice none 0 0) (ls := []) (N := 0) (ps := l.take k) (M := k) ⟨rfl, .inl ⟨rfl, rfl⟩⟩ rfl cp (by rw [List.length_take]; omega) (hsr.hi hk) hsr.nil (Nat.le_refl _) (by omega)
  obtain ⟨Wa, hWa⟩ : ∃ Wa, Wa = W1.alloc (.cells #[.string ⟨s.n.toArray⟩, .slice s.o s.k s.c, .int .i64 (s.s : Int)] 40) := ⟨_, rfl⟩
  have hba : Below W1.heap.size W1 Wa := by rw [hWa]; exact below_al W1 _
  have hsrcA : Src Wa (some ⟨W1.heap.size, 0, none⟩) 1 (cl [s]) := .inr ⟨_, rfl, by rw [hWa]; exact three_new W1 _ _ _ _⟩
  have hbW1 : Below W.heap.size W Wa := hb1.trans (hba.mono hb1.size)
  obtain ⟨v2, W2, hr2, ho2, hg2, hb2⟩ := app_row (W := Wa) (base := W.heap.size) (v := v1) (N := 0 + k) (ps := [s]) (M := 1) (own_keep ho1 hba) (by simp; omega) 1 rfl hsrcA (fun e => by cases e) hbW1.size (by omega)
  have hbW2 := hbW1.trans hb2
  have hsrc2 : Src W2 so2 (l.length - k) (cl (l.drop k)) := (hsr.below hbW2).lo (so' := so2) hk e1 e2
  obtain ⟨v3, W3, hr3, ho3, hg3, hb3⟩ := app_row (W := W2) (base := W.heap.size) (v := v2) (N := 0 + k + 1) (ps := l.drop k) (M := l.length - k) ho2 (by simp; omega) (cp - k) (by simp) hsrc2 (fun e => e3 e) hbW2.size (by omega)
  have hbW3 := hbW2.trans hb3
  have hcl : cl ([] ++ l.take k ++ [s] ++ l.drop k) = cl (ins l s) := by rw [hI]; simp
  have hln : 0 + k + 1 + (l.length - k) = l.length + 1 := by omega
  rw [hcl, hln] at ho3
  obtain ⟨so3, cp3, rfl⟩ := own_any_shape ho3
  have hX3 := hX.below hbW3
  have hxl := node_lt hX.blk
  have hbl := node_lt hB
  have hxs : ∀ Y, Below W.heap.size W Y → XS x b (.slice so l.length cp) s Y := fun Y hY => ⟨(hY.cell (p := ⟨x, 0, none⟩) hxl).trans (four_cells hX.blk).1.1, Nat.lt_of_lt_of_le hxl hY.size, (hY.cell (p := ⟨b, 0, none⟩) hbl).trans (cell_in hB 0 _ rfl).1, (hY.cell (p := ⟨b, 1, none⟩) hbl).trans (cell_in hB 1 _ rfl).1, (hY.cell (p := ⟨b, 2, none⟩) hbl).trans (cell_in hB 2 _ rfl).1, Nat.lt_of_lt_of_le hbl hY.size⟩
  have hT := h.turn hn0 (W := W3) (T' := T') (v' := .slice so3 (l.length + 1) cp3) (l' := ins l s) (hb.trans (hbW3.mono h0W)) (by rw [len_ins]; exact own_mono ho3 h0W) (rise_ins h.rise hno) (by omega) (by rw [len_ins]; omega) (fun t ht => by
    rcases mem_ins.1 ht with rfl | ht
    · exact .inr ⟨own_keep hr hbW3, hs, hsk, hnl, ho⟩
    · exact .inl ht)
  refine ⟨v1, W1, v2, W2, so3, cp3, W3, so2, hr1, by rw [← hWa]; exact hr2, slice_hiF hk hsr.le hsr.nil, hsl2, ?_, hxs _ hb1, hxs _ hbW2, hxs _ hbW3, (four_cells hX3.blk).2.1, hT.1, hT.2⟩
  rw [← hln]
  rw [← hln] at hr3
  exact hr3
/-- What set does. -/
def SetR (n0 m T' : Nat) (w0 : World) (x : Nat) (v : Value) (l : List Gx) (off : Bool) (ac pa : Int) (s : Gx) (e : Ending) (w' : World) : Prop :=
  e = .returned (.tuple #[]) ∧ ∃ v' l', l'.map pg = setA (l.map pg) (pg s) ∧ Xd m T' w' x v' l' off ac pa ∧ StpN n0 (OX x v l) w0 (OX x v' l') w'
set_option maxRecDepth 100000 in
set_option maxHeartbeats 8000000 in
theorem rdset_ok {n0 : Nat} {w0 w : World} (h : Xd m T w0 x v l off ac pa) (hn0 : n0 ≤ w0.heap.size) (hb : Below w0.heap.size w0 w) (hT : T < 1099511627776) (s : Gx)
    (hr : w.ownsRow m 5 1 (.slice s.o s.k s.c) s.k (s.b.map bv)) (ho : ∀ g, (gsl s).ownBlock = some g → OX x v l g ∨ n0 ≤ g) (hs : s.s ≤ s.k) (hT' : T + 1 ≤ T') (hsk : s.k ≤ T') (hnl : s.n.length ≤ 32) :
    Calls Tryz.prog 52 #[.pointer (some ⟨x, 0, none⟩), .agg #[.string ⟨s.n.toArray⟩, .slice s.o s.k s.c, .int .i64 (s.s : Int)]] w (SetR n0 m T' w0 x v l off ac pa s) := by
  obtain ⟨w1, hw1⟩ : ∃ w1, w1 = w.alloc (.cells #[.string ⟨s.n.toArray⟩, .slice s.o s.k s.c, .int .i64 (s.s : Int)] 40) := ⟨_, rfl⟩
  have hb1 : Below w.heap.size w w1 := by rw [hw1]; exact below_al w _
  have q1 : w1.heap[w.heap.size]? = some (.cells #[.string ⟨s.n.toArray⟩, .slice s.o s.k s.c, .int .i64 (s.s : Int)] 40) := by rw [hw1]; exact new_block_at w _ rfl
  have hb01 : Below w0.heap.size w0 w1 := hb.trans (hb1.mono hb.size)
  have HX := hid h
  have HP := hid (And.intro (own_keep hr hb1) (And.intro ho (And.intro hs (And.intro hsk hnl))))
  have HF := hid (rdfind_ok (h.below hb01) hT ⟨s.n.toArray⟩)
  have hxlt := node_lt (h.below hb01).blk
  have c0 := (four_cells (h.below hb01).blk).1.1
  have hfew := h.few
  have HQ := hid q1
  have HB1 := hid hb01
  have klt := node_lt q1
  have hnd : ({ data := s.n.toArray } : ByteArray).data.toList = s.n := rfl
  rw [hnd] at HF
  obtain ⟨so, cp, rfl, hsrc⟩ := h.row.src
  obtain ⟨Q0, hQ0⟩ : ∃ Q0, Q0 = SetR n0 m T' w0 x (.slice so l.length cp) l off ac pa s := ⟨_, rfl⟩
  have HQ0 := hid hQ0
  rw [← hQ0]
  obtain ⟨sn, hsn⟩ : ∃ sn : ByteArray, sn = ⟨s.n.toArray⟩ := ⟨_, rfl⟩
  have HSn := hid hsn
  rw [← hsn] at HF hw1 ⊢
  have k0 : w1.cell? ⟨w.heap.size, 0, none⟩ = some (.string sn) := by rw [hsn]; exact (cell_in q1 0 _ rfl).1
  have k1 : w1.cell? ⟨w.heap.size, 1, none⟩ = some (.slice s.o s.k s.c) := (cell_in q1 1 _ rfl).1
  have k2 : w1.cell? ⟨w.heap.size, 2, none⟩ = some (.int .i64 (s.s : Int)) := (cell_in q1 2 _ rfl).1
  have HW1 := hid hw1
  have HSr := hid (hsrc.below hb01)
  clear h hb hr ho hs hsk hnl hw1 hb1 q1 hb01 hnd hsrc hQ0 hsn
  go_enter Tryz.func52, Tryz.ntmps52
  go_wp2_with fail
  rw [← HW1.out]
  refine HF.out.mono ?_
  rintro e w2 ⟨hb2, ⟨k, hk, hkn, hfk, rfl⟩ | ⟨hfk, rfl⟩⟩
  · have hk0 : (0 : Int) ≤ (k : Int) := by omega
    have a0 : decide ((0 : Int) ≤ (k : Int)) = true := by simp
    have hkI : (k : Int) < (l.length : Int) := by omega
    obtain ⟨V, hV⟩ : ∃ V, V = w2.drew := ⟨_, rfl⟩
    have hb1V : Below w1.heap.size w1 V := by rw [hV]; exact hb2.drew
    have HS0 : Hid ((fun Z : World => Z.cell? ⟨x, 0, none⟩ = some (.slice so l.length cp) ∧ Z.cell? ⟨w.heap.size, 0, none⟩ = some (.string sn) ∧ Z.cell? ⟨w.heap.size, 1, none⟩ = some (.slice s.o s.k s.c) ∧ Z.cell? ⟨w.heap.size, 2, none⟩ = some (.int .i64 (s.s : Int)) ∧ x < Z.heap.size ∧ w.heap.size < Z.heap.size) V) :=
      hid ⟨(hb1V.cell (p := ⟨x, 0, none⟩) hxlt).trans c0, (hb1V.cell (p := ⟨w.heap.size, 0, none⟩) klt).trans k0, (hb1V.cell (p := ⟨w.heap.size, 1, none⟩) klt).trans k1, (hb1V.cell (p := ⟨w.heap.size, 2, none⟩) klt).trans k2, Nat.lt_of_lt_of_le hxlt hb1V.size, Nat.lt_of_lt_of_le klt hb1V.size⟩
    obtain ⟨g, rfl, hgl, q0, q1, q2⟩ := (HSr.out.below hb1V).cell k hk
    obtain ⟨g', cap, cur, e, hm, hg, _⟩ := row_form (HX.out.below (HB1.out.trans (hb1V.mono HB1.out.size))).row (by omega)
    cases e
    have y0 : V.frozen? ⟨g, k * 3, none⟩ = false := by simp [World.frozen?, hg]
    have y1 : V.frozen? ⟨g, k * 3 + 1, none⟩ = false := by simp [World.frozen?, hg]
    have y2 : V.frozen? ⟨g, k * 3 + 2, none⟩ = false := by simp [World.frozen?, hg]
    obtain ⟨hp1, hp2⟩ := HX.out.put3 hn0 (HB1.out.trans (hb1V.mono HB1.out.size)) hk (s := s) hkn.symm (own_keep (own_keep HP.out.1 (Below.refl _ _)) hb1V) HP.out.2.1 HP.out.2.2.1 (T' := T') (by omega) HP.out.2.2.2.1 rfl
    have HFin : Hid (Q0 (.returned (.tuple #[])) (st3 V g k s)) := hid (by
      rw [HQ0.out]
      refine ⟨rfl, _, l.set k s, ?_, hp1, hp2⟩
      rw [← put_at HX.out.rise hk (s := s) hkn, map_put nm_pg]
      unfold setA
      rw [map_fnd nm_pg, show fnd l (nm (pg s)) = some l[k] from hfk]
      rfl)
    unfold st3 at HFin
    rw [← HSn.out] at HFin
    clear hp1 hp2 hg hm hb1V hb2 hkn hfk HX HP HQ0 HB1 HSr HF HQ HW1
    go_wp2_with fail
    refine region_L 7 (fun Z : World => Z.cell? ⟨x, 0, none⟩ = some (.slice (some ⟨g, 0, none⟩) l.length cp) ∧ Z.cell? ⟨w.heap.size, 0, none⟩ = some (.string sn) ∧ Z.cell? ⟨w.heap.size, 1, none⟩ = some (.slice s.o s.k s.c) ∧ Z.cell? ⟨w.heap.size, 2, none⟩ = some (.int .i64 (s.s : Int)) ∧ x < Z.heap.size ∧ w.heap.size < Z.heap.size) (by kernel_rfl) (by rw [← hV]; exact HS0.out) (fun hHeld => ?_)
    rw [← hV] at hHeld ⊢
    clear hV
    refine anyT 0 hHeld ?_
    refine anyT 1 hHeld ?_
    refine anyT 2 hHeld ?_
    refine anyT 3 hHeld ?_
    refine anyT 4 hHeld ?_
    refine anyT 5 hHeld ?_
    (try simp only [Act.put, List.setIfInBounds_toArray, List.set_cons_zero, List.set_cons_succ])
    refine anyO 6 (fun K hK => ?_)
    go_simp
    refine hK.out _ _ HS0.out ?_
    clear hK K hHeld
    (try simp only [Act.put, List.setIfInBounds_toArray, List.set_cons_zero, List.set_cons_succ])
    obtain ⟨z0, z1, z2, z3, z4, z5⟩ := HS0.out
    refine anyZ (fun K hK => ?_)
    go_simp
    refine hK.out _ _ ?_
    clear hK K
    go_wp2_with fail
    exact bodyPost_end (v := .tuple #[]) (by simp [results, Tryz.results52, go_sem]) rfl HFin.out
  · have HFn := hid hfk
    have HB2 := hid hb2
    have a0 : decide ((0 : Int) ≤ -1) = false := rfl
    clear hfk hb2 HF
    go_wp2_with fail
    go_loopw [4] (fun i wr => ∃ k : Nat, i = .int .i64 (k : Int) ∧ k ≤ l.length ∧ Hid (Below w1.heap.size w1 wr ∧ ∀ j (hj : j < l.length), j < k → bytesBefore (nm l[j]) s.n = true)) (fun i _ => l.length - (intOf i).toNat)
    case atStart => exact ⟨0, rfl, Nat.zero_le _, hid ⟨HB2.out, fun j _ hj => absurd hj (by omega)⟩⟩
    case round =>
      obtain ⟨k, rfl, hk, HB⟩ := hrel
      have c0 := (HB.out.1.cell (p := ⟨x, 0, none⟩) hxlt).trans c0
      have k0 := (HB.out.1.cell (p := ⟨w.heap.size, 0, none⟩) klt).trans k0
      have k1 := (HB.out.1.cell (p := ⟨w.heap.size, 1, none⟩) klt).trans k1
      have k2 := (HB.out.1.cell (p := ⟨w.heap.size, 2, none⟩) klt).trans k2
      have hxl := Nat.lt_of_lt_of_le hxlt HB.out.1.size
      have hkl := Nat.lt_of_lt_of_le klt HB.out.1.size
      have HNo : Hid (∀ t ∈ l, nm t ≠ nm s) := hid (fnd_none HFn.out)
      by_cases hkn : k < l.length
      · have hkI : (k : Int) < (l.length : Int) := by omega
        obtain ⟨g, rfl, hg, q0, _, _⟩ := (HSr.out.below HB.out.1).cell k hkn
        obtain ⟨yn, hyn⟩ : ∃ yn : ByteArray, yn = ⟨l[k].n.toArray⟩ := ⟨_, rfl⟩
        rw [← hyn] at q0
        have hless : Op.bytesLess yn.toList sn.toList = bytesBefore l[k].n s.n := by
          rw [Go.ByteArray.toList_eq, Go.ByteArray.toList_eq, hyn, HSn.out, before_less]
        by_cases hlt : bytesBefore l[k].n s.n = true
        · have HN : Hid (∀ j (hj : j < l.length), j < k + 1 → bytesBefore (nm l[j]) s.n = true) := hid fun j hj h => by
            rcases Nat.lt_or_eq_of_le (Nat.le_of_lt_succ h) with h | rfl
            · exact HB.out.2 j hj h
            · exact hlt
          rw [hlt] at hless
          clear hyn hlt HNo
          go_wp2_with fail
          go_quiet (fail)
          go_wp2_with fail
          exact ⟨⟨k + 1, by go_num, by omega, hid ⟨below_drewN HB.out.1 _, HN.out⟩⟩, by simp [intOf]; omega⟩
        · have HI : Hid (ins l s = l.take k ++ s :: l.drop k) := hid (ins_at hk (fun j hj h => HB.out.2 j hj h) (fun _ => hlt))
          have hlf : bytesBefore l[k].n s.n = false := by simpa using hlt
          rw [hlf] at hless
          clear hyn hlt hlf
          go_wp2_with fail
          go_quiet (fail)
          have HBq : Hid (Below w1.heap.size w1 (wr.drewN nq)) := hid (below_drewN HB.out.1 _)
          obtain ⟨v1, W1, v2, W2, so3, cp3, W3, so2, r1, r2, r3, r4, r5, x1, x2, x3, f3, hTt, hK⟩ := put_in HX.out hn0 (HB1.out.trans (HBq.out.mono HB1.out.size)) hk hT HI.out HNo.out (own_keep HP.out.1 HBq.out) HP.out.2.1 HP.out.2.2.1 hT' HP.out.2.2.2.1 HP.out.2.2.2.2 ((HBq.out.block _ (node_lt HQ.out)).trans HQ.out)
          rw [← HSn.out] at r2
          unfold XS at x1 x2 x3
          rw [← HSn.out] at x1 x2 x3
          have HRn := hid (And.intro r1 (And.intro r2 (And.intro r3 (And.intro r4 r5))))
          have HFin : Hid (Q0 (.returned (.tuple #[])) (W3.setCell ⟨x, 0, none⟩ (.slice so3 (l.length + 1) cp3))) := hid (by rw [HQ0.out]; exact ⟨rfl, _, ins l s, by rw [map_ins nm_pg]; unfold setA; rw [map_fnd nm_pg, show fnd l (nm (pg s)) = none from HFn.out]; rfl, hTt, hK⟩)
          obtain ⟨u1, ul1, z0, z1, z2, zl⟩ := x1
          have u2 : (W1.alloc (.cells #[.string sn, .slice s.o s.k s.c, .int .i64 (s.s : Int)] 40)).heap.size = W1.heap.size + 1 := by simp
          obtain ⟨u3, ul3, _⟩ := x2
          obtain ⟨u4, ul4, _⟩ := x3
          clear r1 r2 r3 r4 r5 hTt hK HB HBq HX HP HI HNo HQ0 HFn
          go_wp2_with (first
            | (refine wpList_slice_hiF rfl (.tmp 45) (.tmp 46) rfl rfl rfl (HRn.out.2.2.1 _) ?_)
            | (refine wpList_slice_loF rfl (.tmp 58) (.tmp 59) rfl rfl rfl (HRn.out.2.2.2.1 _) ?_)
            | (at_builtin; refine wpList_app_run rfl (.tmp 41) (.tmp 47) 33 rfl rfl rfl HRn.out.1 ?_)
            | (at_builtin; refine wpList_app_run rfl (.tmp 49) (.tmp 51) 33 rfl rfl rfl HRn.out.2.1 ?_)
            | (at_builtin; refine wpList_app_run rfl (.tmp 54) (.tmp 60) 33 rfl rfl rfl HRn.out.2.2.2.2 ?_))
          exact bodyPost_end (v := .tuple #[]) (by simp [results, Tryz.results52, go_sem]) rfl HFin.out
      · have hkI : ¬ (k : Int) < (l.length : Int) := by omega
        have hkd : decide ((k : Int) < (l.length : Int)) = false := by simpa using hkI
        have hkd2 : decide (k < l.length) = false := by simpa using hkn
        have HI : Hid (ins l s = l.take k ++ s :: l.drop k) := hid (ins_at hk (fun j hj h => HB.out.2 j hj h) (fun h => absurd h hkn))
        go_wp2_with fail
        go_quiet (fail)
        have HBq : Hid (Below w1.heap.size w1 (wr.drewN nq)) := hid (below_drewN HB.out.1 _)
        obtain ⟨v1, W1, v2, W2, so3, cp3, W3, so2, r1, r2, r3, r4, r5, x1, x2, x3, f3, hTt, hK⟩ := put_in HX.out hn0 (HB1.out.trans (HBq.out.mono HB1.out.size)) hk hT HI.out HNo.out (own_keep HP.out.1 HBq.out) HP.out.2.1 HP.out.2.2.1 hT' HP.out.2.2.2.1 HP.out.2.2.2.2 ((HBq.out.block _ (node_lt HQ.out)).trans HQ.out)
        rw [← HSn.out] at r2
        unfold XS at x1 x2 x3
        rw [← HSn.out] at x1 x2 x3
        have HRn := hid (And.intro r1 (And.intro r2 (And.intro r3 (And.intro r4 r5))))
        have HFin : Hid (Q0 (.returned (.tuple #[])) (W3.setCell ⟨x, 0, none⟩ (.slice so3 (l.length + 1) cp3))) := hid (by rw [HQ0.out]; exact ⟨rfl, _, ins l s, by rw [map_ins nm_pg]; unfold setA; rw [map_fnd nm_pg, show fnd l (nm (pg s)) = none from HFn.out]; rfl, hTt, hK⟩)
        obtain ⟨u1, ul1, z0, z1, z2, zl⟩ := x1
        have u2 : (W1.alloc (.cells #[.string sn, .slice s.o s.k s.c, .int .i64 (s.s : Int)] 40)).heap.size = W1.heap.size + 1 := by simp
        obtain ⟨u3, ul3, _⟩ := x2
        obtain ⟨u4, ul4, _⟩ := x3
        clear r1 r2 r3 r4 r5 hTt hK HB HBq HX HP HI HNo HQ0 HFn
        go_wp2_with (first
          | (refine wpList_slice_hiF rfl (.tmp 45) (.tmp 46) rfl rfl rfl (HRn.out.2.2.1 _) ?_)
          | (refine wpList_slice_loF rfl (.tmp 58) (.tmp 59) rfl rfl rfl (HRn.out.2.2.2.1 _) ?_)
          | (at_builtin; refine wpList_app_run rfl (.tmp 41) (.tmp 47) 33 rfl rfl rfl HRn.out.1 ?_)
          | (at_builtin; refine wpList_app_run rfl (.tmp 49) (.tmp 51) 33 rfl rfl rfl HRn.out.2.1 ?_)
          | (at_builtin; refine wpList_app_run rfl (.tmp 54) (.tmp 60) 33 rfl rfl rfl HRn.out.2.2.2.2 ?_))
        exact bodyPost_end (v := .tuple #[]) (by simp [results, Tryz.results52, go_sem]) rfl HFin.out
end
end Go.Proofs.YtmddcdaodlnnhaaGreatDoor
