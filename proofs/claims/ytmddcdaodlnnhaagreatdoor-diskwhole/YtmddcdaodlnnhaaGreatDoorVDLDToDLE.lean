/-
  The document's Read. Conditions: those that each theorem names.
  A file stored in the document's row; a new row in its place. Conditions: those that each theorem names.
-/
import Derived.Test.YtmddcdaodlnnhaaGreatDoorVDLBToDLD0
namespace Go.Proofs.YtmddcdaodlnnhaaGreatDoor
open Go.RowKit Go.Maps
set_option linter.unusedVariables false
section
variable {m T T' : Nat} {w w' W X Y : World} {x : Nat} {v : Value} {l : List Gx} {off : Bool} {ac pa : Int}
set_option maxRecDepth 100000 in
set_option maxHeartbeats 2000000 in
theorem rdread_ok (h : Xd m T w x v l off ac pa) (hT : T < 1099511627776) (S : ByteArray) (hS : S.size ≤ 9007199254740992) :
    Calls Tryz.prog 28 #[.pointer (some ⟨x, 0, none⟩), .string S] w fun e w' => ∃ o n c, e = .returned (.tuple #[.slice o n c, .int .i64 (fiP off S (l.map pg))]) ∧ w'.ownsRow w.heap.size 5 1 (.slice o n c) n ((readB off S (l.map pg)).map bv) ∧ Below w.heap.size w w' := by
  have HMy : Hid (Calls Tryz.prog 48 #[.pointer (some ⟨x, 0, none⟩), .string S, .bool true] w fun e w' => e = .returned (.int .i64 (fiP off S (l.map pg))) ∧ Below w.heap.size w w') := hid (rdmay_ok h hT S hS true)
  have HD := hid h
  obtain ⟨c, hc⟩ : ∃ c, c = fiP off S (l.map pg) := ⟨_, rfl⟩
  obtain ⟨so, cp, rfl, hsrc⟩ := h.row.src
  have HSrc := hid hsrc
  have hlt := node_lt h.blk
  unfold readB
  rw [← hc] at HMy ⊢
  by_cases h0 : c = 0
  · obtain ⟨f, hf⟩ : ∃ f, fnd l S.data.toList = some f := by
      rw [hc] at h0
      unfold fiP at h0
      by_cases hr : rfC off S = 0
      · rw [if_pos hr, map_fnd nm_pg, Option.isSome_map] at h0
        cases hf : fnd l S.data.toList with
        | none => rw [hf] at h0; simp at h0
        | some f => exact ⟨f, rfl⟩
      · rw [if_neg hr] at h0; exact absurd h0 hr
    rw [h0] at HMy ⊢
    have hob : (oldP (l.map pg) S.data.toList).b = f.b := by unfold oldP; rw [map_fnd nm_pg, hf]; rfl
    rw [if_pos rfl, hob]
    have hfm := (fnd_some hf).1
    have HFm := hid hfm
    have HFf := hid hf
    have hbd := (h.bd f hfm).1
    obtain ⟨bo, bn, bc, bb, hx1, hx2, hx3, hx4⟩ : ∃ bo bn bc bb, bo = f.o ∧ bn = f.k ∧ bc = f.c ∧ bb = f.b := ⟨_, _, _, _, rfl, rfl, rfl, rfl⟩
    rw [← hx4]
    clear h hc h0 hob hsrc hfm hf
    go_enter Tryz.func28, Tryz.ntmps28
    go_wp2_with (go_at_call 48; refine HMy.out.mono ?_; rintro e w1 ⟨rfl, hb⟩; have HB := hid hb; clear hb)
    have c0 := (HB.out.cell (p := ⟨x, 0, none⟩) hlt).trans (four_cells HD.out.blk).1.1
    have xlt := Nat.lt_of_lt_of_le hlt HB.out.size
    obtain ⟨V, hV⟩ : ∃ V, V = w1.drew := ⟨_, rfl⟩
    have hbV : Below w.heap.size w V := by rw [hV]; exact HB.out.drew
    have HXV := hid (HD.out.below hbV)
    have HL0 : Hid (∀ Z, Below V.heap.size V Z → Z.cell? ⟨x, 0, none⟩ = some (.slice so l.length cp) ∧ x < Z.heap.size) := hid fun Z hZ => ⟨(hZ.cell (p := ⟨x, 0, none⟩) (node_lt HXV.out.blk)).trans (four_cells HXV.out.blk).1.1, Nat.lt_of_lt_of_le (node_lt HXV.out.blk) hZ.size⟩
    have HFind : Hid (∀ Z, Below V.heap.size V Z → Calls Tryz.prog 49 #[.pointer (some ⟨x, 0, none⟩), .string S] Z fun e w' => Below Z.heap.size Z w' ∧ ∃ k, ∃ h : k < l.length, l[k] = f ∧ e = .returned (.int .i64 (k : Int))) := hid fun Z hZ => (rdfind_ok (HXV.out.below hZ) hT S).mono fun e w' he => by
      obtain ⟨hb, ⟨k, hk, _, h2, rfl⟩ | ⟨h2, _⟩⟩ := he
      · rw [HFf.out] at h2
        exact ⟨hb, k, hk, (Option.some.inj h2).symm, rfl⟩
      · rw [HFf.out] at h2; cases h2
    have HCell : Hid (∀ k (hk : k < l.length), l[k] = f → ∃ gr, so = some ⟨gr, 0, none⟩ ∧ ∀ Z, Below V.heap.size V Z → Z.cell? ⟨gr, k * 3 + 1, none⟩ = some (.slice bo bn bc) ∧ gr < Z.heap.size) := hid fun k hk e => by
      obtain ⟨gr, e1, e2, _, e3, _⟩ := (HSrc.out.below hbV).cell k hk
      rw [e, ← hx1, ← hx2, ← hx3] at e3
      exact ⟨gr, e1, fun Z hZ => ⟨(hZ.cell (p := ⟨gr, k * 3 + 1, none⟩) e2).trans e3, Nat.lt_of_lt_of_le e2 hZ.size⟩⟩
    have HNx : Hid (∀ Y g, Below V.heap.size V Y → V.heap.size ≤ g → Y.heap[g]? = some (.cells #[] 5) → ∃ o' c' Y', (Builtin.append_ #[29, 29] 29 #[.slice (some ⟨g, 0, none⟩) 0 0, .slice bo bn bc]).run Tryz.prog Y = .ok (.slice o' bn c') Y' ∧ Y'.ownsRow w.heap.size 5 1 (.slice o' bn c') bn (bb.map bv) ∧ Below V.heap.size V Y' ∧ Below w.heap.size w Y') := hid fun Y g hY hg hh => by
      have hHas : Has Y bo bn bc bb := by rw [hx1, hx2, hx3, hx4]; exact (HXV.out.row.below hY).has HFm.out
      obtain ⟨o', c', Y', r1, r2, r3⟩ := app_empty hh hg hHas (by rw [hx2]; omega)
      exact ⟨o', c', Y', r1, own_mono r2 hbV.size, hY.trans r3, hbV.trans ((hY.trans r3).mono hbV.size)⟩
    clear HMy HSrc HFf HFm HB hx1 hx2 hx3 hx4 hbd hbV
    go_wp2_with fail
    refine region_L 99 (fun Z : World => Below V.heap.size V Z) (by kernel_rfl) (by rw [← hV]; exact Below.refl _ _) (fun hHeld => ?_)
    rw [← hV] at hHeld ⊢
    clear hV c0 xlt HD HXV
    refine anyT 1 hHeld ?_
    refine anyT 2 hHeld ?_
    refine anyT 3 hHeld ?_
    refine anyT (v := .slice so l.length cp) 4 hHeld ?_ (hy := by
      refine Or.inl ⟨by rfl, ?_⟩
      intro w hSw
      obtain ⟨q0, q1⟩ := HL0.out w hSw
      go_simp)
    refine anyT 5 hHeld ?_
    refine anyT 6 hHeld ?_
    (try simp only [Act.put, List.setIfInBounds_toArray, List.set_cons_zero, List.set_cons_succ])
    clear hHeld
    refine anyD 0 7 (fun K hK => ?_) (fun K hK => ?_)
    · go_simp
      have HY1 : Hid (Below V.heap.size V (V.alloc (.cells #[] 5))) := hid (below_al V _)
      have HG : Hid (V.heap.size ≤ V.heap.size ∧ (V.alloc (.cells #[] 5)).heap[V.heap.size]? = some (.cells #[] 5)) := hid ⟨Nat.le_refl _, new_block_at V _ rfl⟩
      refine hK.out _ _ HY1.out ?_
      clear hK K
      (try simp only [Act.put, List.setIfInBounds_toArray, List.set_cons_zero, List.set_cons_succ])
      refine anyO 7 (fun K hK => ?_)
      go_simp
      refine (HFind.out _ HY1.out).mono ?_
      rintro e Y ⟨hb, k, hk, hkf, rfl⟩
      obtain ⟨gr, rfl, hcr⟩ := HCell.out k hk hkf
      have HBy := hid hcr
      have HY : Hid (Below V.heap.size V Y) := hid (HY1.out.trans (hb.mono HY1.out.size))
      replace HG : Hid (V.heap.size ≤ V.heap.size ∧ Y.heap[V.heap.size]? = some (.cells #[] 5)) := hid ⟨Nat.le_refl _, (hb.block _ (node_lt HG.out.2)).trans HG.out.2⟩
      have hkI : (k : Int) < (l.length : Int) := by omega
      clear hb hkf hcr HCell HFind HL0 HY1
      go_simp
      refine hK.out _ _ HY.out ?_
      clear hK K
      (try simp only [Act.put, List.setIfInBounds_toArray, List.set_cons_zero, List.set_cons_succ])
      have hHeld := HY.out
      refine anyT 8 hHeld ?_
      refine anyT 9 hHeld ?_
      refine anyT (v := .slice bo bn bc) 10 hHeld ?_ (hy := by
        refine Or.inl ⟨by rfl, ?_⟩
        intro w hSw
        obtain ⟨q0, q1⟩ := HBy.out w hSw
        go_simp)
      (try simp only [Act.put, List.setIfInBounds_toArray, List.set_cons_zero, List.set_cons_succ])
      obtain ⟨o', c', Y', r1, r2, r3, r4⟩ := HNx.out _ _ HY.out HG.out.1 HG.out.2
      have HF := hid (And.intro r2 (And.intro r3 r4))
      have HRun := hid r1
      clear hHeld r1 r2 r3 r4
      refine anyO 11 (fun K hK => ?_)
      refine step_app_run rfl (.tmp 13) (.tmp 23) 29 rfl (by rfl) (by rfl) HRun.out ?_
      refine hK.out _ _ HF.out.2.1 ?_
      clear hK K
      (try simp only [Act.put, List.setIfInBounds_toArray, List.set_cons_zero, List.set_cons_succ])
      have hHeld := HF.out.2.1
      refine anyT 12 hHeld ?_
      refine anyT 13 hHeld ?_
      refine ⟨by kernel_rfl, ?_⟩
      (try simp only [Act.put, List.setIfInBounds_toArray, List.set_cons_zero, List.set_cons_succ])
      clear hHeld
      go_wp2_with fail
      refine bodyPost_ret (v := .tuple #[.slice o' bn c', .int .i64 0]) (by simp [results, Tryz.results28, go_sem]) rfl ?_
      exact ⟨o', bn, c', rfl, HF.out.1, HF.out.2.2⟩
    · go_simp
      refine (HFind.out _ (Below.refl _ _)).mono ?_
      rintro e Z ⟨hb, k, hk, hkf, rfl⟩
      obtain ⟨gr, rfl, hcr⟩ := HCell.out k hk hkf
      have HBy := hid hcr
      have HZ : Hid (Below V.heap.size V Z) := hid hb
      have hkI : (k : Int) < (l.length : Int) := by omega
      clear hb hkf hcr HCell HFind HL0
      go_simp
      refine hK.out _ _ HZ.out ?_
      clear hK K
      (try simp only [Act.put, List.setIfInBounds_toArray, List.set_cons_zero, List.set_cons_succ])
      have HZ8 := HZ.out
      refine anyT 8 HZ8 ?_
      refine anyT 9 HZ8 ?_
      refine anyT (v := .slice bo bn bc) 10 HZ8 ?_ (hy := by
        refine Or.inl ⟨by rfl, ?_⟩
        intro w hSw
        obtain ⟨q0, q1⟩ := HBy.out w hSw
        go_simp)
      (try simp only [Act.put, List.setIfInBounds_toArray, List.set_cons_zero, List.set_cons_succ])
      clear HZ8
      refine anyO 0 (fun K hK => ?_)
      go_simp
      have HY : Hid (Below V.heap.size V (Z.alloc (.cells #[] 5))) := hid (HZ.out.trans ((below_al Z _).mono HZ.out.size))
      have HG : Hid (V.heap.size ≤ Z.heap.size ∧ (Z.alloc (.cells #[] 5)).heap[Z.heap.size]? = some (.cells #[] 5)) := hid ⟨HZ.out.size, new_block_at Z _ rfl⟩
      refine hK.out _ _ HY.out ?_
      clear hK K
      (try simp only [Act.put, List.setIfInBounds_toArray, List.set_cons_zero, List.set_cons_succ])
      obtain ⟨o', c', Y', r1, r2, r3, r4⟩ := HNx.out _ _ HY.out HG.out.1 HG.out.2
      have HF := hid (And.intro r2 (And.intro r3 r4))
      have HRun := hid r1
      clear r1 r2 r3 r4
      refine anyO 11 (fun K hK => ?_)
      refine step_app_run rfl (.tmp 13) (.tmp 23) 29 rfl (by rfl) (by rfl) HRun.out ?_
      refine hK.out _ _ HF.out.2.1 ?_
      clear hK K
      (try simp only [Act.put, List.setIfInBounds_toArray, List.set_cons_zero, List.set_cons_succ])
      have hHeld := HF.out.2.1
      refine anyT 12 hHeld ?_
      refine anyT 13 hHeld ?_
      refine ⟨by kernel_rfl, ?_⟩
      (try simp only [Act.put, List.setIfInBounds_toArray, List.set_cons_zero, List.set_cons_succ])
      clear hHeld
      go_wp2_with fail
      refine bodyPost_ret (v := .tuple #[.slice o' bn c', .int .i64 0]) (by simp [results, Tryz.results28, go_sem]) rfl ?_
      exact ⟨o', bn, c', rfl, HF.out.1, HF.out.2.2⟩
  · rw [if_neg h0]
    have a0 : (c == 0) = false := by simpa using h0
    clear h HD hc h0 hsrc HSrc
    go_enter Tryz.func28, Tryz.ntmps28
    go_wp2_with (go_at_call 48; refine HMy.out.mono ?_; rintro e w1 ⟨rfl, hb⟩; have HB := hid hb; clear hb)
    refine bodyPost_ret (v := .tuple #[.slice none 0 0, .int .i64 c]) (by simp [results, Tryz.results28, go_sem]) rfl ?_
    exact ⟨none, 0, 0, rfl, ⟨rfl, .inl ⟨rfl, rfl⟩⟩, HB.out⟩
end
end Go.Proofs.YtmddcdaodlnnhaaGreatDoor
namespace Go.Proofs.YtmddcdaodlnnhaaGreatDoor
open Go.RowKit Go.Maps
set_option linter.unusedVariables false
/-- Only the blocks of O, and new ones, have turned; what is owned now was owned, or lies from n on. -/
structure StpN (n : Nat) (O : Nat → Prop) (W : World) (O' : Nat → Prop) (W' : World) : Prop where
  kx : Kx O W W'
  own : ∀ g, O' g → O g ∨ n ≤ g
theorem StpN.stp {O O' : Nat → Prop} {W W' : World} (h : StpN W.heap.size O W O' W') : Stp O W O' W' := ⟨h.kx, h.own⟩
def st3 (w : World) (g k : Nat) (s : Gx) : World := ((w.setCell ⟨g, k * 3, none⟩ (.string ⟨s.n.toArray⟩)).setCell ⟨g, k * 3 + 1, none⟩ (.slice s.o s.k s.c)).setCell ⟨g, k * 3 + 2, none⟩ (.int .i64 (s.s : Int))
theorem st3_kx (w : World) (g k : Nat) (s : Gx) : Kx (fun x => x = g) w (st3 w g k s) := ((Kx.set (P := fun x => x = g) (g := g) rfl _).trans (Kx.set (P := fun x => x = g) (g := g) rfl _)).trans (Kx.set (P := fun x => x = g) (g := g) rfl _)
theorem row_form {w : World} {m : Nat} {v : Value} {l : List Gx} (h : RowG m w v l) (h0 : 0 < l.length) : ∃ g cap cur, v = .slice (some ⟨g, 0, none⟩) l.length cap ∧ m ≤ g ∧ w.heap[g]? = some (.cells cur 40 (0, 0)) ∧ l.length ≤ cap ∧ cap ≤ maxLen ∧ cur.size = cap * 3 ∧ cur.toList.take (l.length * 3) = cl l := by
  obtain ⟨_, h1 | h1⟩ := h.own
  · omega
  · exact h1
section
variable {m T T' : Nat} {w w' W X Y : World} {x : Nat} {v : Value} {l : List Gx} {off : Bool} {ac pa : Int}
theorem Xd.put3 {n0 : Nat} (h : Xd m T w x v l off ac pa) (hn0 : n0 ≤ w.heap.size) (hb : Below w.heap.size w W) {k : Nat} (hk : k < l.length) {s : Gx} (hn : s.n = l[k].n) (hr : W.ownsRow m 5 1 (.slice s.o s.k s.c) s.k (s.b.map bv)) (ho : ∀ g, (gsl s).ownBlock = some g → OX x v l g ∨ n0 ≤ g) (hs : s.s ≤ s.k) (hT : T ≤ T') (hsk : s.k ≤ T')
    {g n cp : Nat} (hv : v = .slice (some ⟨g, 0, none⟩) n cp) : Xd m T' (st3 W g k s) x v (l.set k s) off ac pa ∧ StpN n0 (OX x v l) w (OX x v (l.set k s)) (st3 W g k s) := by
  have hW := h.below hb
  obtain ⟨g', cap, cur, e, hm, hg, hcn, hmx, hsz, htk⟩ := row_form hW.row (by omega)
  rw [hv] at e
  cases e
  have hk3 := st3_kx W g k s
  have hg3 := set_in (set_in (set_in hg (k * 3) (.string ⟨s.n.toArray⟩)) (k * 3 + 1) (.slice s.o s.k s.c)) (k * 3 + 2) (.int .i64 (s.s : Int))
  have hxg : x ≠ g := fun e => by have := hW.blk; rw [e, hg] at this; cases this
  have hne : ∀ y : Gx, W.ownsRow m 5 1 (.slice y.o y.k y.c) y.k (y.b.map bv) → ∀ q, (gsl y).ownBlock = some q → ¬ q = g := fun y hy q e e2 => by
    obtain ⟨_, _, cur2, hc⟩ := own_lt hy q e
    rw [e2, hg] at hc
    cases hc
  have hset : put l s = l.set k s := put_at h.rise hk hn.symm
  refine ⟨⟨(hk3.block x (node_lt hW.blk) hxg).trans hW.blk, h.mx, ⟨?_, fun y hy => ?_⟩, ?_, by rw [List.length_set]; exact Nat.le_trans h.few hT, fun y hy => ?_⟩, (Kx.below hb).trans (hk3.wide fun q e => .inr (.inl (by rw [hv, e]; rfl))), fun q hq => ?_⟩
  · rw [hv, List.length_set]
    refine ⟨by rw [cl_len, List.length_set], .inr ⟨g, _, _, rfl, hm, hg3, hcn, hmx, by simpa using hsz, ?_⟩⟩
    rw [cl_set s l k hk, ← htk]
    simp [List.take_set]
  · rcases List.mem_or_eq_of_mem_set hy with hy | rfl
    · exact ⟨own_kx (hW.row.rep y hy).1 hk3 (hne y (hW.row.rep y hy).1), (hW.row.rep y hy).2⟩
    · exact ⟨own_kx hr hk3 (hne y hr), hs⟩
  · rw [← hset]; exact rise_put h.rise s
  · rcases List.mem_or_eq_of_mem_set hy with hy | rfl
    · exact ⟨Nat.le_trans (h.bd y hy).1 hT, (h.bd y hy).2⟩
    · exact ⟨hsk, by rw [hn]; exact (h.bd _ (List.getElem_mem hk)).2⟩
  · rcases hq with e | e | ⟨y, hy, e⟩
    · exact .inl (.inl e)
    · exact .inl (.inr (.inl e))
    · rcases List.mem_or_eq_of_mem_set hy with hy | rfl
      · exact .inl (.inr (.inr ⟨y, hy, e⟩))
      · exact ho q e
/-- A new row put in the place of the old one. -/
theorem Xd.turn {n0 : Nat} (h : Xd m T w x v l off ac pa) (hn0 : n0 ≤ w.heap.size) (hb : Below w.heap.size w W) {v' : Value} {l' : List Gx} (hr : W.ownsRow w.heap.size 40 3 v' l'.length (cl l')) (hl : Rise l') (hT : T ≤ T') (hln : l'.length ≤ T') (hs : ∀ s ∈ l', s ∈ l ∨ (W.ownsRow m 5 1 (.slice s.o s.k s.c) s.k (s.b.map bv) ∧ s.s ≤ s.k ∧ s.k ≤ T' ∧ s.n.length ≤ 32 ∧ ∀ g, (gsl s).ownBlock = some g → OX x v l g ∨ n0 ≤ g)) :
    Xd m T' (W.setCell ⟨x, 0, none⟩ v') x v' l' off ac pa ∧ StpN n0 (OX x v l) w (OX x v' l') (W.setCell ⟨x, 0, none⟩ v') := by
  have hW := h.below hb
  have hmw : m ≤ w.heap.size := Nat.le_trans h.mx (Nat.le_of_lt (node_lt h.blk))
  have hk : Kx (fun g => g = x) W (W.setCell ⟨x, 0, none⟩ v') := Kx.set (P := fun g => g = x) (g := x) rfl _
  have hne : ∀ y : Gx, W.ownsRow m 5 1 (.slice y.o y.k y.c) y.k (y.b.map bv) → ∀ q, (gsl y).ownBlock = some q → ¬ q = x := fun y hy q e e2 => by
    obtain ⟨_, _, cur2, hc⟩ := own_lt hy q e
    rw [e2, hW.blk] at hc
    cases hc
  refine ⟨⟨by rw [set_in hW.blk 0 _]; rfl, h.mx, ⟨own_mono (own_kx hr hk fun q e e2 => ?_) hmw, fun y hy => ?_⟩, hl, hln, fun y hy => ?_⟩, (Kx.below hb).trans (hk.wide fun q e => .inl e), fun q hq => ?_⟩
  · have := (own_lt hr q e).1
    have := node_lt h.blk
    omega
  · rcases hs y hy with hy | ⟨h1, h2, _⟩
    · exact ⟨own_kx (hW.row.rep y hy).1 hk (hne y (hW.row.rep y hy).1), (hW.row.rep y hy).2⟩
    · exact ⟨own_kx h1 hk (hne y h1), h2⟩
  · rcases hs y hy with hy | ⟨_, _, h3, h4, _⟩
    · exact ⟨Nat.le_trans (h.bd y hy).1 hT, (h.bd y hy).2⟩
    · exact ⟨h3, h4⟩
  · rcases hq with e | e | ⟨y, hy, e⟩
    · exact .inl (.inl e)
    · exact .inr (Nat.le_trans hn0 (own_lt hr q e).1)
    · rcases hs y hy with hy | ⟨_, _, _, _, h5⟩
      · exact .inl (.inr (.inr ⟨y, hy, e⟩))
      · exact h5 q e
end
end Go.Proofs.YtmddcdaodlnnhaaGreatDoor
