/-
  The document's Start. Conditions: those that each theorem names.
-/
import Derived.Test.YtmddcdaodlnnhaaGreatDoorVDLGToDLH
namespace Go.Proofs.YtmddcdaodlnnhaaGreatDoor
open Go.RowKit Go.Maps
set_option linter.unusedVariables false
section
variable {m T T' : Nat} {w w' W X Y : World} {x : Nat} {v : Value} {l : List Gx} {off : Bool} {ac pa : Int}
/-- Files so far. -/
def XI (m T : Nat) (w : World) (x : Nat) (v : Value) (l : List Gx) (off : Bool) (ac pa : Int) (ks : List Int) (j : Nat) (wr : World) : Prop := ∃ l' : List Gx, l'.map pg = mixL (l.map pg) ks j ∧ Xd m T wr x v l' off ac pa ∧ Stp (OX x v l) w (OX x v l') wr
/-- What is done to one. -/
theorem XI.next {wr wa V : World} {g n cp : Nat} {ks : List Int} {j : Nat} {l' : List Gx} (e1 : l'.map pg = mixL (l.map pg) ks j) (hX : Xd m T wr x (.slice (some ⟨g, 0, none⟩) n cp) l' off ac pa) (hS : Stp (OX x (.slice (some ⟨g, 0, none⟩) n cp) l) w (OX x (.slice (some ⟨g, 0, none⟩) n cp) l') wr) (hjl : j < l.length) (hj : j < l'.length)
    {f : Gx} (hf : f = l'[j]) {k : Nat} (hk : k = stK (pg f) ks[j]?) (hT : T < 1099511627776) (hwa : wa = wr.alloc (.cells #[.string ⟨f.n.toArray⟩, .slice f.o f.k f.c, .int .i64 (f.s : Int)] 40)) (hV : Below wa.heap.size wa V) :
    ∃ o' c' W3, (Builtin.append_ #[29, 29] 29 #[.slice (some ⟨V.heap.size, 0, none⟩) 0 0, .slice f.o k f.c]).run Tryz.prog ((V.setCell ⟨wr.heap.size, 2, none⟩ (.int .i64 (k : Int))).alloc (.cells #[] 5)) = .ok (.slice o' k c') W3 ∧ W3.heap[wr.heap.size]? = some (.cells #[.string ⟨f.n.toArray⟩, .slice f.o f.k f.c, .int .i64 (k : Int)] 40) ∧
      ∀ Z, Z = (W3.setCell ⟨wr.heap.size, 1, none⟩ (.slice o' k c')).drew → Z.heap[wr.heap.size]? = some (.cells #[.string ⟨f.n.toArray⟩, .slice o' k c', .int .i64 (k : Int)] 40) ∧ Z.cell? ⟨x, 0, none⟩ = some (.slice (some ⟨g, 0, none⟩) n cp) ∧ x < Z.heap.size ∧ (∃ cur, Z.heap[g]? = some (.cells cur 40 (0, 0))) ∧ (∃ u0 u1 u2, Z.cell? ⟨g, j * 3, none⟩ = some u0 ∧ Z.cell? ⟨g, j * 3 + 1, none⟩ = some u1 ∧ Z.cell? ⟨g, j * 3 + 2, none⟩ = some u2) ∧
        XI m T w x (.slice (some ⟨g, 0, none⟩) n cp) l off ac pa ks (j + 1) (st3 Z g j ⟨f.n, o', k, c', f.b.take k, k⟩) := by
  have hfm : f ∈ l' := by rw [hf]; exact List.getElem_mem hj
  obtain ⟨hrf, hsf⟩ := hX.row.rep f hfm
  have hbl : f.b.length = f.k := hX.row.blen hfm
  have hkb := stK_le (f := pg f) ks[j]? (by show f.s ≤ f.b.length; rw [hbl]; exact hsf)
  rw [← hk] at hkb
  have hk2 : k ≤ f.k := by rw [← hbl]; exact hkb.2
  have hbd := hX.bd f hfm
  have hsa : wa.heap.size = wr.heap.size + 1 := by rw [hwa]; simp
  have hba : Below wr.heap.size wr wa := by rw [hwa]; exact below_al _ _
  have qa : wa.heap[wr.heap.size]? = some (.cells #[.string ⟨f.n.toArray⟩, .slice f.o f.k f.c, .int .i64 (f.s : Int)] 40) := by rw [hwa]; exact new_block_at _ _ rfl
  have qV := (hV.block _ (node_lt qa)).trans qa
  have hbV : Below wr.heap.size wr V := hba.trans (hV.mono hba.size)
  have hVs := hV.size
  have q1 := set_in qV 2 (.int .i64 (k : Int))
  have hb1 : Below wr.heap.size wr (V.setCell ⟨wr.heap.size, 2, none⟩ (.int .i64 (k : Int))) := hbV.setCell (Nat.le_refl _) _
  have hs1 : (V.setCell ⟨wr.heap.size, 2, none⟩ (.int .i64 (k : Int))).heap.size = V.heap.size := by simp [World.setCell]
  obtain ⟨W2, hW2⟩ : ∃ W2, W2 = (V.setCell ⟨wr.heap.size, 2, none⟩ (.int .i64 (k : Int))).alloc (.cells #[] 5) := ⟨_, rfl⟩
  have hb12 : Below V.heap.size (V.setCell ⟨wr.heap.size, 2, none⟩ (.int .i64 (k : Int))) W2 := by rw [hW2, ← hs1]; exact below_al _ _
  have hb2 : Below wr.heap.size wr W2 := hb1.trans (hb12.mono (by omega))
  have q2 : W2.heap[wr.heap.size]? = some (.cells #[.string ⟨f.n.toArray⟩, .slice f.o f.k f.c, .int .i64 (k : Int)] 40) := (hb12.block _ (by omega)).trans q1
  have qe : W2.heap[V.heap.size]? = some (.cells #[] 5) := by rw [hW2]; exact new_block_at _ _ hs1.symm
  obtain ⟨o', c', W3, r1, r2, r3⟩ := app_empty qe (base := V.heap.size) (Nat.le_refl _) (((hX.row.below hb2).has hfm).pre k hk2) (by omega)
  have hb3 : Below wr.heap.size wr W3 := hb2.trans (r3.mono (by omega))
  have q3 := (r3.block _ (by omega)).trans q2
  refine ⟨o', c', W3, by rw [← hW2]; exact r1, q3, fun Z hZ => ?_⟩
  have q4 := set_in q3 1 (.slice o' k c')
  have hb4 : Below wr.heap.size wr Z := by rw [hZ]; exact (hb3.setCell (Nat.le_refl _) _).drew
  have hXZ := hX.below hb4
  have qZ : Z.heap[wr.heap.size]? = some (.cells #[.string ⟨f.n.toArray⟩, .slice o' k c', .int .i64 (k : Int)] 40) := by rw [hZ]; exact q4
  have hrZ : Z.ownsRow m 5 1 (.slice o' k c') k ((f.b.take k).map bv) := by
    have hk1 : Kx (fun q => q = wr.heap.size) W3 Z := by rw [hZ]; exact (Kx.set (P := fun q => q = wr.heap.size) (g := wr.heap.size) rfl _).trans ⟨rfl, rfl, rfl, Nat.le_refl _, fun _ _ _ => rfl⟩
    refine own_mono (own_kx r2 hk1 fun q e e2 => ?_) (Nat.le_trans hX.mx (Nat.le_trans (Nat.le_of_lt (node_lt hX.blk)) (by omega)))
    have := (own_lt r2 q e).1
    omega
  obtain ⟨p1, p2⟩ := hX.put3 (Nat.le_refl _) hb4 hj (s := ⟨f.n, o', k, c', f.b.take k, k⟩) (by rw [← hf]) hrZ (fun q e => .inr (by have := (own_lt r2 q e).1; omega)) (Nat.le_refl _) (T' := T) (Nat.le_refl _) (by show k ≤ T; omega) rfl
  obtain ⟨g', cap, cur, e, hm, hg, _⟩ := row_form hXZ.row (by omega)
  cases e
  obtain ⟨so', cp', e, hsr⟩ := hXZ.row.src
  cases e
  obtain ⟨g2, e, hgl, u0, u1, u2⟩ := hsr.cell j hj
  cases e
  refine ⟨qZ, (four_cells hXZ.blk).1.1, node_lt hXZ.blk, ⟨cur, hg⟩, ⟨_, _, _, u0, u1, u2⟩, l'.set j ⟨f.n, o', k, c', f.b.take k, k⟩, ?_, p1, hS.trans p2.stp⟩
  have hjP : j < (l.map pg).length := by rw [List.length_map]; exact hjl
  rw [List.map_set, e1, mixL_succ _ _ _ hjP]
  have hat : (l.map pg)[j] = pg f := by
    have h1 : (l'.map pg)[j]'(by rw [List.length_map]; exact hj) = (mixL (l.map pg) ks j)[j]'(by rw [mixL_len _ _ _ (by omega)]; exact hjP) := by simp only [e1]
    rw [mixL_at _ _ _ hjP] at h1
    rw [← h1, List.getElem_map, hf]
  have ee : pg (⟨f.n, o', k, c', f.b.take k, k⟩ : Gx) = stF (pg f) ks[j]? := by
    unfold stF
    rw [← hk]
    rfl
  rw [hat, ee]
set_option maxRecDepth 100000 in
set_option maxHeartbeats 8000000 in
theorem rdstart_ok (h : Xd m T w x v l off ac pa) (hT : T < 1099511627776) {ko : Option Addr} {kn kc : Nat} {ks : List Int} (hks : IntsAt w ko kn kc ks) (hko : ∀ a, ko = some a ∧ 0 < kn → ¬ OX x v l a.block) :
    Calls Tryz.prog 27 #[.pointer (some ⟨x, 0, none⟩), .slice ko kn kc] w fun e w' => e = .returned (.tuple #[]) ∧ ∃ l', l'.map pg = startL (l.map pg) ks ∧ Xd m T w' x v l' false (-1) pa ∧ Stp (OX x v l) w (OX x v l') w' := by
  have HD := hid h
  have hlt := node_lt h.blk
  have hfew := h.few
  obtain ⟨so, cp, rfl, hsrc⟩ := h.row.src
  obtain ⟨N, hN⟩ : ∃ N, N = l.length := ⟨_, rfl⟩
  have HL0 : Hid (XI m T w x (.slice so l.length cp) l off ac pa ks 0 w) := ⟨l, (mixL_zero _ _).symm, h, Stp.refl _ _⟩
  have HNl := hid hN
  have HKs := hid hks
  have HKo := hid hko
  have HkI : Hid (∀ x ∈ ks, inI x) := hid hks.2.2.1
  have HkL := hid hks.1
  rw [← hN] at HL0 HKo HD hfew ⊢
  clear h hks hko hsrc hN
  go_enter Tryz.func27, Tryz.ntmps27
  go_wp2_with fail
  go_loopw [4] (fun i wr => ∃ j : Nat, j ≤ N ∧ i = .int .i64 (j : Int) ∧ Hid (XI m T w x (.slice so N cp) l off ac pa ks j wr)) (fun i _ => N - (intOf i).toNat)
  case atStart => exact ⟨0, Nat.zero_le _, rfl, HL0⟩
  case round =>
    obtain ⟨j, hj, rfl, HR⟩ := hrel
    clear HL0
    obtain ⟨l', e1, hX, hS⟩ := HR.out
    obtain ⟨⟨c0, c1, c2, c3⟩, f0, f1, f2, f3⟩ := four_cells hX.blk
    have xlt := node_lt hX.blk
    have hll : l'.length = N := by have := congrArg List.length e1; rw [List.length_map, mixL_len _ _ _ (by rw [List.length_map]; have := HNl.out; omega), List.length_map] at this; rw [this, HNl.out]
    by_cases hjn : j < N
    · have hjI : (j : Int) < (N : Int) := by omega
      have hjl : j < l'.length := by omega
      obtain ⟨so', cp', e, hsr⟩ := hX.row.src
      rw [hll] at e
      cases e
      obtain ⟨g, rfl, hgl, q0, q1, q2⟩ := hsr.cell j hjl
      obtain ⟨f, hfj⟩ : ∃ f, f = l'[j] := ⟨_, rfl⟩
      rw [← hfj] at q0 q1 q2
      obtain ⟨sn, hsn⟩ : ∃ sn : ByteArray, sn = ⟨f.n.toArray⟩ := ⟨_, rfl⟩
      rw [← hsn] at q0
      have hfm : f ∈ l' := by rw [hfj]; exact List.getElem_mem hjl
      have hbl : f.b.length = f.k := hX.row.blen hfm
      have hsf := (hX.row.rep f hfm).2
      have hhas := hX.row.has hfm
      have hbd := hX.bd f hfm
      have hkb := stK_le (f := pg f) ks[j]? (by show f.s ≤ f.b.length; rw [hbl]; exact hsf)
      obtain ⟨k, hk⟩ : ∃ k, k = stK (pg f) ks[j]? := ⟨_, rfl⟩
      rw [← hk] at hkb
      have hk1 : f.s ≤ k := hkb.1
      have hk2 : k ≤ f.k := by rw [← hbl]; exact hkb.2
      have hnk := HkL.out
      obtain ⟨wa, hwa⟩ : ∃ wa, wa = wr.alloc (.cells #[.string sn, .slice f.o f.k f.c, .int .i64 (f.s : Int)] 40) := ⟨_, rfl⟩
      have hba : Below wr.heap.size wr wa := by rw [hwa]; exact below_al wr _
      have qa : wa.heap[wr.heap.size]? = some (.cells #[.string sn, .slice f.o f.k f.c, .int .i64 (f.s : Int)] 40) := by rw [hwa]; exact new_block_at wr _ rfl
      have alt := node_lt qa
      have hsa : wa.heap.size = wr.heap.size + 1 := by rw [hwa]; simp
      by_cases hjk : j < kn
      · have hjK : (j : Int) < (kn : Int) := by omega
        obtain ⟨VV, hVV⟩ : ∃ VV, VV = wa.drew := ⟨_, rfl⟩
        have HBV : Hid (Below wa.heap.size wa VV) := hid (by rw [hVV]; exact (Below.refl _ wa).drew)
        have hjl2 : j < ks.length := by rw [hnk]; exact hjk
        have hkx : ks[j]? = some ks[j] := List.getElem?_eq_getElem hjl2
        have hKr := (HKs.out.kxA hS.kx HKo.out).below (hba.trans (HBV.out.mono hba.size))
        obtain ⟨kg, koff, rfl, hkg, hkcs⟩ := hKr.2.2.2.2 (by omega)
        have kcell := hkcs j hjl2
        have hxI := HkI.out ks[j] (List.getElem_mem hjl2)
        obtain ⟨o', c', W3, r1, r2, r3⟩ := XI.next (V := VV) (k := k) (wa := wa) e1 hX hS (by rw [← HNl.out]; exact hjn) hjl hfj hk hT (by rw [← hsn]; exact hwa) HBV.out
        obtain ⟨Z, hZ⟩ : ∃ Z, Z = (W3.setCell ⟨wr.heap.size, 1, none⟩ (.slice o' k c')).drew := ⟨_, rfl⟩
        obtain ⟨z1, z2, z3, ⟨cur, z4⟩, ⟨u0, u1, u2, t0, t1, t2⟩, z5⟩ := r3 Z hZ
        have HS0 : Hid ((fun Z : World => Z.cell? ⟨x, 0, none⟩ = some (.slice (some ⟨g, 0, none⟩) N cp) ∧ Z.cell? ⟨wr.heap.size, 0, none⟩ = some (.string sn) ∧ Z.cell? ⟨wr.heap.size, 1, none⟩ = some (.slice o' k c') ∧ Z.cell? ⟨wr.heap.size, 2, none⟩ = some (.int .i64 (k : Int)) ∧ x < Z.heap.size ∧ wr.heap.size < Z.heap.size) Z) := hid ⟨z2, by rw [hsn]; exact (cell_in z1 0 _ rfl).1, (cell_in z1 1 _ rfl).1, (cell_in z1 2 _ rfl).1, z3, node_lt z1⟩
        have HG : Hid ((Z.cell? ⟨g, j * 3, none⟩ = some u0 ∧ Z.cell? ⟨g, j * 3 + 1, none⟩ = some u1 ∧ Z.cell? ⟨g, j * 3 + 2, none⟩ = some u2) ∧ Z.frozen? ⟨g, j * 3, none⟩ = false ∧ Z.frozen? ⟨g, j * 3 + 1, none⟩ = false ∧ Z.frozen? ⟨g, j * 3 + 2, none⟩ = false) := hid ⟨⟨t0, t1, t2⟩, by simp [World.frozen?, z4], by simp [World.frozen?, z4], by simp [World.frozen?, z4]⟩
        have HF := hid z5
        unfold st3 at HF
        dsimp only at HF
        rw [← hsn] at HF
        have HRun := hid r1
        obtain ⟨b0, d0⟩ := cell_in r2 0 _ rfl
        obtain ⟨b1, d1⟩ := cell_in r2 1 _ rfl
        obtain ⟨b2, d2⟩ := cell_in r2 2 _ rfl
        have blt := node_lt r2
        have HSl := hid (slice_hiB hk2 hhas.2.1 hhas.2.2.2.1)
        obtain ⟨y, hy⟩ : ∃ y, y = ks[j] := ⟨_, rfl⟩
        rw [← hy] at kcell hxI hkx
        rw [hkx] at hk
        obtain ⟨r, hr⟩ : ∃ r : Nat, r = (y % ((f.k : Int) - (f.s : Int) + 1)).toNat := ⟨_, rfl⟩
        have m1 := Int.emod_nonneg y (show ((f.k : Int) - (f.s : Int) + 1) ≠ 0 by omega)
        have m2 := Int.emod_lt_of_pos y (show (0 : Int) < (f.k : Int) - (f.s : Int) + 1 by omega)
        have hxr : y % ((f.k : Int) - (f.s : Int) + 1) = (r : Int) := by omega
        have hkr : k = f.s + r := by
          rw [hk, hr]
          unfold stK
          simp only
          show f.s + (y % (((f.b.length - f.s : Nat) : Int) + 1)).toNat = _
          rw [hbl]
          congr 3
          omega
        have HMd : Hid (∀ W : World, Calls Tryz.prog 47 #[.int .i64 y, .int .i64 ((f.k : Int) - (f.s : Int) + 1)] W fun e w' => e = .returned (.int .i64 (r : Int)) ∧ w' = W) := hid fun W => by
          have := rdmod_ok y ((f.k : Int) - (f.s : Int) + 1) W hxI (by omega) (by omega)
          rwa [hxr] at this
        have v1 : IntKind.i64.wrap ((f.k : Int) - (f.s : Int)) = (f.k : Int) - (f.s : Int) := by rw [IntKind.wrap_i64]; omega
        have v2 : IntKind.i64.wrap ((f.k : Int) - (f.s : Int) + 1) = (f.k : Int) - (f.s : Int) + 1 := by rw [IntKind.wrap_i64]; omega
        have v3 : IntKind.i64.wrap ((f.s : Int) + (r : Int)) = (k : Int) := by rw [IntKind.wrap_i64]; omega
        have qV := (HBV.out.block _ alt).trans qa
        have HS1 : Hid ((fun Z : World => Z.cell? ⟨wr.heap.size, 1, none⟩ = some (.slice f.o f.k f.c) ∧ Z.cell? ⟨wr.heap.size, 2, none⟩ = some (.int .i64 (f.s : Int)) ∧ Z.cell? ⟨kg, koff + j, none⟩ = some (.int .i64 y) ∧ wr.heap.size < Z.heap.size ∧ kg < Z.heap.size) VV) := hid ⟨(cell_in qV 1 _ rfl).1, (cell_in qV 2 _ rfl).1, kcell, node_lt qV, hkg⟩
        have HV2 : Hid (VV.cell? ⟨wr.heap.size, 0, none⟩ = some (.string sn) ∧ VV.frozen? ⟨wr.heap.size, 2, none⟩ = false) := hid ⟨(cell_in qV 0 _ rfl).1, (cell_in qV 2 _ rfl).2⟩
        have HWa := hid hwa
        clear e1 hX hS hfm hbl hsf hhas hbd hkb hk hk1 hk2 hwa hba qa alt HBV hkx hKr hkcs hxI r1 r2 r3 z1 z2 z3 z4 z5 t0 t1 t2 hr m1 m2 hxr hkr qV hy hfj HR hsr hsn
        obtain ⟨fn, fo, fk, fc, fb, fs0⟩ := f
        dsimp only at *
        go_wp2_with fail
        rw [← HWa.out]
        clear HWa
        refine region_L 99 (fun Z : World => Z.cell? ⟨wr.heap.size, 1, none⟩ = some (.slice fo fk fc) ∧ Z.cell? ⟨wr.heap.size, 2, none⟩ = some (.int .i64 (fs0 : Int)) ∧ Z.cell? ⟨kg, koff + j, none⟩ = some (.int .i64 y) ∧ wr.heap.size < Z.heap.size ∧ kg < Z.heap.size) (by kernel_rfl) (by rw [← hVV]; exact HS1.out) (fun hHeld => ?_)
        rw [← hVV] at hHeld ⊢
        clear hVV
        refine anyT 0 hHeld ?_
        refine anyT 1 hHeld ?_
        refine anyT 2 hHeld ?_
        refine anyT 3 hHeld ?_
        refine anyT 4 hHeld ?_
        refine anyT 5 hHeld ?_
        refine anyT 6 hHeld ?_
        refine anyT 7 hHeld ?_
        refine anyT 8 hHeld ?_
        refine anyT 9 hHeld ?_
        refine anyT 10 hHeld ?_
        (try simp only [Act.put, List.setIfInBounds_toArray, List.set_cons_zero, List.set_cons_succ])
        clear hHeld
        refine anyO 11 (fun K hK => ?_)
        go_simp
        refine (HMd.out _).mono ?_
        rintro e Z2 ⟨rfl, rfl⟩
        clear HMd
        go_simp
        refine hK.out _ _ HS1.out ?_
        clear hK K
        (try simp only [Act.put, List.setIfInBounds_toArray, List.set_cons_zero, List.set_cons_succ])
        have hHeld := HS1.out
        refine anyT 12 hHeld ?_
        refine ⟨by kernel_rfl, ?_⟩
        (try simp only [Act.put, List.setIfInBounds_toArray, List.set_cons_zero, List.set_cons_succ])
        obtain ⟨p1, p2, _, p4, _⟩ := hHeld
        obtain ⟨p0, pf2⟩ := HV2.out
        clear HS1 HV2
        go_wp2_with (first
          | (refine wpList_slice_hiB rfl (.tmp 46) (.tmp 48) rfl rfl rfl (HSl.out _) ?_)
          | (at_builtin; refine wpList_app_run rfl (.tmp 44) (.tmp 49) 29 rfl rfl rfl HRun.out ?_))
        refine region_L 7 (fun Z : World => Z.cell? ⟨x, 0, none⟩ = some (.slice (some ⟨g, 0, none⟩) N cp) ∧ Z.cell? ⟨wr.heap.size, 0, none⟩ = some (.string sn) ∧ Z.cell? ⟨wr.heap.size, 1, none⟩ = some (.slice o' k c') ∧ Z.cell? ⟨wr.heap.size, 2, none⟩ = some (.int .i64 (k : Int)) ∧ x < Z.heap.size ∧ wr.heap.size < Z.heap.size) (by kernel_rfl) (by rw [← hZ]; exact HS0.out) (fun hHeld => ?_)
        rw [← hZ] at hHeld ⊢
        clear hZ
        refine anyT 0 hHeld ?_
        refine anyT 1 hHeld ?_
        refine anyT 2 hHeld ?_
        refine anyT 3 hHeld ?_
        refine anyT 4 hHeld ?_
        refine anyT 5 hHeld ?_
        (try simp only [Act.put, List.setIfInBounds_toArray, List.set_cons_zero, List.set_cons_succ])
        refine anyO 6 (fun K hK => ?_)
        go_simp
        refine hK.out _ _ HS0.out ?_
        clear hK K hHeld
        (try simp only [Act.put, List.setIfInBounds_toArray, List.set_cons_zero, List.set_cons_succ])
        obtain ⟨z0, z1, z2, z3, z4, z5⟩ := HS0.out
        obtain ⟨⟨t0, t1, t2⟩, s0, s1, s2⟩ := HG.out
        refine anyZ (fun K hK => ?_)
        go_simp
        refine hK.out _ _ ?_
        clear hK K
        go_wp2_with fail
        exact ⟨⟨j + 1, by omega, by go_num, HF.out⟩, by simp [intOf]; omega⟩
      · have hjK : ¬ (j : Int) < (kn : Int) := by omega
        have hjd : decide ((j : Int) < (kn : Int)) = false := by simpa using hjK
        have hjd2 : decide (j < kn) = false := by simpa using hjk
        have hkx : ks[j]? = none := List.getElem?_eq_none (by omega)
        have hkr : k = f.s := by rw [hk, hkx]; unfold stK; simp only; rfl
        obtain ⟨VV, hVV⟩ : ∃ VV, VV = wa := ⟨_, rfl⟩
        have HBV : Hid (Below wa.heap.size wa VV) := hid (by rw [hVV]; exact Below.refl _ wa)
        obtain ⟨o', c', W3, r1, r2, r3⟩ := XI.next (V := VV) (k := k) (wa := wa) e1 hX hS (by rw [← HNl.out]; exact hjn) hjl hfj hk hT (by rw [← hsn]; exact hwa) HBV.out
        obtain ⟨Z, hZ⟩ : ∃ Z, Z = (W3.setCell ⟨wr.heap.size, 1, none⟩ (.slice o' k c')).drew := ⟨_, rfl⟩
        obtain ⟨z1, z2, z3, ⟨cur, z4⟩, ⟨u0, u1, u2, t0, t1, t2⟩, z5⟩ := r3 Z hZ
        have HS0 : Hid ((fun Z : World => Z.cell? ⟨x, 0, none⟩ = some (.slice (some ⟨g, 0, none⟩) N cp) ∧ Z.cell? ⟨wr.heap.size, 0, none⟩ = some (.string sn) ∧ Z.cell? ⟨wr.heap.size, 1, none⟩ = some (.slice o' k c') ∧ Z.cell? ⟨wr.heap.size, 2, none⟩ = some (.int .i64 (k : Int)) ∧ x < Z.heap.size ∧ wr.heap.size < Z.heap.size) Z) := hid ⟨z2, by rw [hsn]; exact (cell_in z1 0 _ rfl).1, (cell_in z1 1 _ rfl).1, (cell_in z1 2 _ rfl).1, z3, node_lt z1⟩
        have HG : Hid ((Z.cell? ⟨g, j * 3, none⟩ = some u0 ∧ Z.cell? ⟨g, j * 3 + 1, none⟩ = some u1 ∧ Z.cell? ⟨g, j * 3 + 2, none⟩ = some u2) ∧ Z.frozen? ⟨g, j * 3, none⟩ = false ∧ Z.frozen? ⟨g, j * 3 + 1, none⟩ = false ∧ Z.frozen? ⟨g, j * 3 + 2, none⟩ = false) := hid ⟨⟨t0, t1, t2⟩, by simp [World.frozen?, z4], by simp [World.frozen?, z4], by simp [World.frozen?, z4]⟩
        have HF := hid z5
        unfold st3 at HF
        dsimp only at HF
        rw [← hsn] at HF
        have HRun := hid r1
        obtain ⟨b0, d0⟩ := cell_in r2 0 _ rfl
        obtain ⟨b1, d1⟩ := cell_in r2 1 _ rfl
        obtain ⟨b2, d2⟩ := cell_in r2 2 _ rfl
        have blt := node_lt r2
        have HSl := hid (slice_hiB hk2 hhas.2.1 hhas.2.2.2.1)
        have v1 : IntKind.i64.wrap ((f.s : Int) + 0) = (k : Int) := by rw [IntKind.wrap_i64, hkr]; omega
        have v2 : IntKind.i64.wrap (f.s : Int) = (k : Int) := by rw [IntKind.wrap_i64, hkr]; omega
        rw [← hVV] at qa alt
        obtain ⟨p0, pf0⟩ := cell_in qa 0 _ rfl
        obtain ⟨p1, pf1⟩ := cell_in qa 1 _ rfl
        obtain ⟨p2, pf2⟩ := cell_in qa 2 _ rfl
        have HWa : Hid (VV = wr.alloc (.cells #[.string sn, .slice f.o f.k f.c, .int .i64 (f.s : Int)] 40)) := hid (by rw [hVV]; exact hwa)
        clear e1 hX hS hfm hbl hsf hhas hbd hkb hk hk1 hk2 hba qa HBV hkx r1 r2 r3 z1 z2 z3 z4 z5 t0 t1 t2 hkr hfj HR hsr hsn hsa hwa hVV
        obtain ⟨fn, fo, fk, fc, fb, fs0⟩ := f
        dsimp only at *
        go_upto_region 7 with fail
        rw [← HWa.out]
        clear HWa
        go_wp2_with (first
          | (refine wpList_slice_hiB rfl (.tmp 46) (.tmp 48) rfl rfl rfl (HSl.out _) ?_)
          | (at_builtin; refine wpList_app_run rfl (.tmp 44) (.tmp 49) 29 rfl rfl rfl HRun.out ?_))
        refine region_L 7 (fun Z : World => Z.cell? ⟨x, 0, none⟩ = some (.slice (some ⟨g, 0, none⟩) N cp) ∧ Z.cell? ⟨wr.heap.size, 0, none⟩ = some (.string sn) ∧ Z.cell? ⟨wr.heap.size, 1, none⟩ = some (.slice o' k c') ∧ Z.cell? ⟨wr.heap.size, 2, none⟩ = some (.int .i64 (k : Int)) ∧ x < Z.heap.size ∧ wr.heap.size < Z.heap.size) (by kernel_rfl) (by rw [← hZ]; exact HS0.out) (fun hHeld => ?_)
        rw [← hZ] at hHeld ⊢
        clear hZ
        refine anyT 0 hHeld ?_
        refine anyT 1 hHeld ?_
        refine anyT 2 hHeld ?_
        refine anyT 3 hHeld ?_
        refine anyT 4 hHeld ?_
        refine anyT 5 hHeld ?_
        (try simp only [Act.put, List.setIfInBounds_toArray, List.set_cons_zero, List.set_cons_succ])
        refine anyO 6 (fun K hK => ?_)
        go_simp
        refine hK.out _ _ HS0.out ?_
        clear hK K hHeld
        (try simp only [Act.put, List.setIfInBounds_toArray, List.set_cons_zero, List.set_cons_succ])
        obtain ⟨z0, z1, z2, z3, z4, z5⟩ := HS0.out
        obtain ⟨⟨t0, t1, t2⟩, s0, s1, s2⟩ := HG.out
        refine anyZ (fun K hK => ?_)
        go_simp
        refine hK.out _ _ ?_
        clear hK K
        go_wp2_with fail
        exact ⟨⟨j + 1, by omega, by go_num, HF.out⟩, by simp [intOf]; omega⟩
    · obtain rfl : j = N := by omega
      have hjI : ¬ (j : Int) < (j : Int) := by omega
      have hjP : (l.map pg).length = j := by rw [List.length_map, HNl.out]
      rw [← hjP, mixL_all] at e1
      obtain ⟨k1, k2⟩ := hX.flags (off' := false) (ac' := -1) (pa' := pa) ((Kx.set (P := fun g => g = x) (g := x) rfl (.bool false)).trans (Kx.set (P := fun g => g = x) (g := x) rfl (.int .i64 (-1)))) (set_in (set_in hX.blk 1 (.bool false)) 2 (.int .i64 (-1)))
      have HF := hid (And.intro e1 (And.intro k1 (hS.trans k2)))
      obtain ⟨so', cp', e, _⟩ := hX.row.src
      rw [hll] at e
      cases e
      clear e1 hX hS k1 k2 HR HKs HKo hjP hll
      go_wp2_with fail
      exact bodyPost_end (v := .tuple #[]) (by simp [results, Tryz.results27, go_sem]) rfl ⟨rfl, l', HF.out.1, HF.out.2.1, HF.out.2.2⟩
end
end Go.Proofs.YtmddcdaodlnnhaaGreatDoor
