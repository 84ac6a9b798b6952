/-
  The document's unset: a file is no more. Conditions: those that each theorem names.
  The document's Same, at two rows of files that say the same. Conditions: those that each theorem names.
-/
import Derived.Test.YtmddcdaodlnnhaaGreatDoorVDLF
namespace Go.Proofs.YtmddcdaodlnnhaaGreatDoor
open Go.RowKit Go.Maps
set_option linter.unusedVariables false
theorem exec_slice_hiF {w : World} {o : Oper} {ev : Operand → Value} {s x : Operand} (ho : o.op = .slice 33 s none (some x) none) {so : Option Addr} {n cp k : Nat} {v : Value} (hs : ev s = .slice so n cp) (hx : ev x = .int .i64 (k : Int))
    (hr : (Instr.slice 33 (.slice so n cp) none (some (.int .i64 (k : Int))) none).run Tryz.prog w = .ok v w) : (execOp ev o).run Tryz.prog w = .ok (.value v) w := by
  unfold execOp
  simp only [ho, Sem.run_bind, Sem.run_pure, Result.andThen_ok, Option.map_some, Option.map_none, hs, hx, run_sliceAt_slice (h := Tryz.elemF), hr]
theorem exec_slice_loF {w : World} {o : Oper} {ev : Operand → Value} {s x : Operand} (ho : o.op = .slice 33 s (some x) none none) {so : Option Addr} {n cp k : Nat} {v : Value} (hs : ev s = .slice so n cp) (hx : ev x = .int .i64 (k : Int))
    (hr : (Instr.slice 33 (.slice so n cp) (some (.int .i64 (k : Int))) none none).run Tryz.prog w = .ok v w) : (execOp ev o).run Tryz.prog w = .ok (.value v) w := by
  unfold execOp
  simp only [ho, Sem.run_bind, Sem.run_pure, Result.andThen_ok, Option.map_some, Option.map_none, hs, hx, run_sliceAt_slice (h := Tryz.elemF), hr]
section
variable {m T T' : Nat} {w w' W X Y : World} {x : Nat} {v : Value} {l : List Gx} {off : Bool} {ac pa : Int}
set_option maxRecDepth 100000 in
set_option maxHeartbeats 8000000 in
theorem rdunset_ok {w0 w : World} (h : Xd m T w0 x v l off ac pa) (hb : Below w0.heap.size w0 w) (hT : T < 1099511627776) (S : ByteArray) {f : Gx} (hf : fnd l S.data.toList = some f) :
    Calls Tryz.prog 51 #[.pointer (some ⟨x, 0, none⟩), .string S] w fun e w' => e = .returned (.tuple #[]) ∧ ∃ v' l', l'.map pg = del (l.map pg) S.data.toList ∧ Xd m T w' x v' l' off ac pa ∧ Stp (OX x v l) w0 (OX x v' l') w' := by
  have HX := hid h
  have HB := hid hb
  have HF : Hid (Calls Tryz.prog 49 #[.pointer (some ⟨x, 0, none⟩), .string S] w fun e w' => Below w.heap.size w w' ∧ ∃ k, ∃ h : k < l.length, nm l[k] = S.data.toList ∧ e = .returned (.int .i64 (k : Int))) := hid ((rdfind_ok (h.below hb) hT S).mono fun e w' he => by
    obtain ⟨hb, ⟨k, hk, h1, _, rfl⟩ | ⟨h2, _⟩⟩ := he
    · exact ⟨hb, k, hk, h1, rfl⟩
    · rw [hf] at h2; cases h2)
  have hfew := h.few
  obtain ⟨so, cp, rfl, hsrc⟩ := h.row.src
  have c0 := (four_cells (h.below hb).blk).1.1
  have xlt := node_lt (h.below hb).blk
  obtain ⟨N, hN⟩ : ∃ N, N = S.data.toList := ⟨_, rfl⟩
  rw [← hN] at HF ⊢
  have HSr := hid hsrc
  clear h hb hf hN
  go_enter Tryz.func51, Tryz.ntmps51
  go_wp2_with fail
  refine HF.out.mono ?_
  rintro e w2 ⟨hb2, j, hj, hjn, rfl⟩
  have hb02 : Below w0.heap.size w0 w2 := HB.out.trans (hb2.mono HB.out.size)
  obtain ⟨V, hV⟩ : ∃ V, V = w2.drew := ⟨_, rfl⟩
  have hb0V : Below w0.heap.size w0 V := by rw [hV]; exact hb02.drew
  have hbV : Below w.heap.size w V := by rw [hV]; exact hb2.drew
  have hXV := HX.out.below hb0V
  have HS0 : Hid ((fun Z : World => Z.cell? ⟨x, 0, none⟩ = some (.slice so l.length cp) ∧ x < Z.heap.size) V) := hid ⟨(hbV.cell (p := ⟨x, 0, none⟩) xlt).trans c0, Nat.lt_of_lt_of_le xlt hbV.size⟩
  have hw1 : IntKind.i64.wrap ((j : Int) + 1) = ((j + 1 : Nat) : Int) := by rw [IntKind.wrap_i64]; omega
  have hsrc : RSrc V so cp l := HSr.out.below hb0V
  obtain ⟨so2, hsl2, e1, e2, e3⟩ := slice_loF (so := so) (n := l.length) (cp := cp) (k := j + 1) hj hsrc.le hsrc.nil
  have HSh := hid (slice_hiF (so := so) (n := l.length) (cp := cp) (k := j) (by omega) hsrc.le hsrc.nil)
  have HSl := hid hsl2
  obtain ⟨v1, W1, hr1, ho1, hg1, hb1⟩ := app_row (W := V) (base := V.heap.size) (v := .slice none 0 0) (ls := []) (N := 0) (ps := l.take j) (M := j) ⟨rfl, .inl ⟨rfl, rfl⟩⟩ rfl cp (by rw [List.length_take]; omega) (hsrc.hi (by omega)) hsrc.nil (Nat.le_refl _) (by omega)
  have hsrc1 : Src W1 so2 (l.length - (j + 1)) (cl (l.drop (j + 1))) := (hsrc.below hb1).lo (so' := so2) hj e1 e2
  obtain ⟨v2, W2, hr2, ho2, hg2, hb2'⟩ := app_row (W := W1) (base := V.heap.size) (v := v1) (N := 0 + j) (ps := l.drop (j + 1)) (M := l.length - (j + 1)) ho1 (by simp; omega) (cp - (j + 1)) (by simp) hsrc1 (fun e => e3 e) hb1.size (by omega)
  have hdl : del l N = l.take j ++ l.drop (j + 1) := by rw [← hjn]; exact del_at HX.out.rise hj
  have hcl : cl ([] ++ l.take j ++ l.drop (j + 1)) = cl (del l N) := by rw [hdl]; rfl
  have hlen : 0 + j + (l.length - (j + 1)) = (del l N).length := by rw [hdl]; simp; omega
  rw [hcl, hlen] at ho2
  obtain ⟨so3, cp3, rfl⟩ := own_any_shape ho2
  have hb12 := hb1.trans hb2'
  have h0V := hb0V.size
  obtain ⟨hT1, hT2⟩ := HX.out.turn (Nat.le_refl _) (W := W2) (T' := T) (v' := .slice so3 (del l N).length cp3) (l' := del l N) (hb0V.trans (hb12.mono h0V)) (own_mono ho2 h0V) (rise_del HX.out.rise _) (Nat.le_refl _) (Nat.le_trans (len_del_le _ _) hfew) (fun s hs => .inl (mem_del.1 hs).1)
  have HFin : Hid (∃ v' l', l'.map pg = del (l.map pg) N ∧ Xd m T (W2.setCell ⟨x, 0, none⟩ (.slice so3 (del l N).length cp3)) x v' l' off ac pa ∧ Stp (OX x (.slice so l.length cp) l) w0 (OX x v' l') (W2.setCell ⟨x, 0, none⟩ (.slice so3 (del l N).length cp3))) := hid ⟨_, _, map_del nm_pg N l, hT1, hT2.stp⟩
  have HRun := hid (And.intro hr1 hr2)
  have HS1 := hid (show (fun Z : World => Z.cell? ⟨x, 0, none⟩ = some (.slice so l.length cp) ∧ x < Z.heap.size) W1 from ⟨(hb1.cell (p := ⟨x, 0, none⟩) HS0.out.2).trans HS0.out.1, Nat.lt_of_lt_of_le HS0.out.2 hb1.size⟩)
  have HS2 := hid (show (fun Z : World => Z.cell? ⟨x, 0, none⟩ = some (.slice so l.length cp) ∧ x < Z.heap.size) W2 from ⟨(hb12.cell (p := ⟨x, 0, none⟩) HS0.out.2).trans HS0.out.1, Nat.lt_of_lt_of_le HS0.out.2 hb12.size⟩)
  have HFr : Hid (W2.frozen? ⟨x, 0, none⟩ = false) := hid (four_cells (hXV.below hb12).blk).2.1
  clear hb02 hb0V hbV hXV hsrc e1 e2 e3 hsl2 hr1 ho1 hg1 hb1 hsrc1 hr2 ho2 hg2 hb2' hdl hcl hlen hb12 h0V hT1 hT2 hjn HX HB HSr HF c0 xlt hb2
  go_wp2_with fail
  refine region_L 99 (fun Z : World => Z.cell? ⟨x, 0, none⟩ = some (.slice so l.length cp) ∧ x < Z.heap.size) (by kernel_rfl) (by rw [← hV]; exact HS0.out) (fun hHeld => ?_)
  rw [← hV] at hHeld ⊢
  clear hV
  refine anyT 0 hHeld ?_
  refine anyT 1 hHeld ?_
  refine anyT 2 hHeld ?_
  refine anyT 3 hHeld ?_
  refine anyT 4 hHeld ?_
  refine anyT 5 hHeld ?_
  refine anyT (v := .slice so j cp) 6 hHeld ?_ (hy := Or.inl ⟨by rfl, fun w _ => exec_slice_hiF (by rfl) (by rfl) (by rfl) (HSh.out w)⟩)
  refine anyT 8 hHeld ?_
  refine anyT 9 hHeld ?_
  refine anyT 10 hHeld ?_
  refine anyT 11 hHeld ?_
  refine anyT 12 hHeld ?_
  refine anyT (v := .int .i64 ((j + 1 : Nat) : Int)) 13 hHeld ?_ (hy := by refine Or.inl ⟨by rfl, ?_⟩; intro w hSw; (try dsimp only at hSw); go_simp; (try rw [hw1]))
  refine anyT (v := .slice so2 (l.length - (j + 1)) (cp - (j + 1))) 14 hHeld ?_ (hy := Or.inl ⟨by rfl, fun w _ => exec_slice_loF (by rfl) (by rfl) (by rfl) (HSl.out w)⟩)
  (try simp only [Act.put, List.setIfInBounds_toArray, List.set_cons_zero, List.set_cons_succ])
  clear hHeld
  refine anyO 7 (fun K hK => ?_)
  refine step_app_run rfl (.tmp 9) (.tmp 15) 33 rfl (by rfl) (by rfl) HRun.out.1 ?_
  refine hK.out _ _ HS1.out ?_
  clear hK K
  (try simp only [Act.put, List.setIfInBounds_toArray, List.set_cons_zero, List.set_cons_succ])
  refine anyO 15 (fun K hK => ?_)
  refine step_app_run rfl (.tmp 16) (.tmp 23) 33 rfl (by rfl) (by rfl) HRun.out.2 ?_
  refine hK.out _ _ HS2.out ?_
  clear hK K
  (try simp only [Act.put, List.setIfInBounds_toArray, List.set_cons_zero, List.set_cons_succ])
  have hHeld := HS2.out
  obtain ⟨z0, z1⟩ := HS2.out
  have z2 := HFr.out
  refine anyT 16 hHeld ?_
  refine ⟨by kernel_rfl, ?_⟩
  (try simp only [Act.put, List.setIfInBounds_toArray, List.set_cons_zero, List.set_cons_succ])
  clear hHeld
  go_wp2_with fail
  exact bodyPost_end (v := .tuple #[]) (by simp [results, Tryz.results51, go_sem]) rfl ⟨rfl, HFin.out⟩
end
end Go.Proofs.YtmddcdaodlnnhaaGreatDoor
namespace Go.Proofs.YtmddcdaodlnnhaaGreatDoor
open Go.RowKit Go.Maps
set_option linter.unusedVariables false
/-- A row of files, wherever it lies. -/
structure RowC (w : World) (a : Option Addr) (len : Nat) (ls : List Gx) : Prop where
  ln : ls.length = len
  le : len ≤ maxLen
  at' : 0 < len → ∃ g off, a = some ⟨g, off, none⟩ ∧ g < w.heap.size ∧ ∀ j (h : j < ls.length), w.cell? ⟨g, off + j * 3, none⟩ = some (.string ⟨ls[j].n.toArray⟩) ∧ w.cell? ⟨g, off + j * 3 + 1, none⟩ = some (.slice ls[j].o ls[j].k ls[j].c) ∧ w.cell? ⟨g, off + j * 3 + 2, none⟩ = some (.int .i64 (ls[j].s : Int))
  has : ∀ s ∈ ls, Has w s.o s.k s.c s.b
theorem RowC.below {w w' : World} {a : Option Addr} {len : Nat} {ls : List Gx} (h : RowC w a len ls) (hb : Below w.heap.size w w') : RowC w' a len ls := by
  refine ⟨h.ln, h.le, fun h0 => ?_, fun s hs => (h.has s hs).below hb⟩
  obtain ⟨g, off, h1, h2, h3⟩ := h.at' h0
  refine ⟨g, off, h1, Nat.lt_of_lt_of_le h2 hb.size, fun j hj => ?_⟩
  obtain ⟨k0, k1, k2⟩ := h3 j hj
  exact ⟨(hb.cell (p := ⟨g, off + j * 3, none⟩) h2).trans k0, (hb.cell (p := ⟨g, off + j * 3 + 1, none⟩) h2).trans k1, (hb.cell (p := ⟨g, off + j * 3 + 2, none⟩) h2).trans k2⟩
theorem RowG.c {w : World} {m : Nat} {v : Value} {ls : List Gx} (h : RowG m w v ls) : ∃ so cp, v = .slice so ls.length cp ∧ RowC w so ls.length ls ∧ ls.length ≤ cp ∧ (so = none → cp = 0) := by
  obtain ⟨so, cp, rfl, hs⟩ := h.src
  refine ⟨so, cp, rfl, ⟨rfl, Nat.le_trans hs.le hs.max, fun h0 => ?_, fun s hs => h.has hs⟩, hs.le, hs.nil⟩
  obtain ⟨g, rfl, hg, _⟩ := hs.cell 0 h0
  refine ⟨g, 0, rfl, hg, fun j hj => ?_⟩
  obtain ⟨g', e, _, q⟩ := hs.cell j hj
  cases e
  rw [Nat.zero_add]
  exact q
theorem key_of {xs ys : List Gx} (h : xs.map pg = ys.map pg) {k : Nat} (hk : k < xs.length) (hk2 : k < ys.length) : ys[k].n = xs[k].n ∧ ys[k].b = xs[k].b ∧ ys[k].s = xs[k].s := by
  have h1 : (xs.map pg)[k]'(by simpa using hk) = (ys.map pg)[k]'(by simpa using hk2) := by simp only [h]
  have h2 : pg xs[k] = pg ys[k] := by simpa using h1
  exact ⟨(congrArg Pf.n h2).symm, (congrArg Pf.b h2).symm, (congrArg Pf.s h2).symm⟩
set_option maxRecDepth 100000 in
set_option maxHeartbeats 8000000 in
theorem same_ok {w : World} {a b : Option Addr} {n cap m cap2 : Nat} {xs ys : List Gx} (h1 : RowC w a n xs) (h2 : RowC w b m ys) (he : xs.map pg = ys.map pg) :
    Calls Tryz.prog 12 #[.slice a n cap, .slice b m cap2] w fun e w' => e = .returned (.bool true) ∧ Below w.heap.size w w' := by
  have hnm : n = m := by have := congrArg List.length he; simp only [List.length_map] at this; rw [← h1.ln, ← h2.ln, this]
  subst hnm
  have H1 := hid h1
  have H2 := hid h2
  have HK := hid he
  have hnI : (n : Int) ≤ 9223372036854775807 := by have := h1.le; unfold maxLen at this; omega
  clear h1 h2 he
  go_enter Tryz.func12, Tryz.ntmps12
  go_wp2_with fail
  go_loopw [5] (fun i wr => ∃ k : Nat, i = .int .i64 (k : Int) ∧ k ≤ n ∧ Hid (Below w.heap.size w wr)) (fun i _ => n - (intOf i).toNat)
  case atStart => exact ⟨0, rfl, Nat.zero_le _, Below.refl _ _⟩
  case round =>
    obtain ⟨k, rfl, hk, HB⟩ := hrel
    by_cases hkn : k < n
    · have hkI : (k : Int) < (n : Int) := by omega
      have r1 := H1.out.below HB.out
      have r2 := H2.out.below HB.out
      have hk1 : k < xs.length := by rw [H1.out.ln]; exact hkn
      have hk2 : k < ys.length := by rw [H2.out.ln]; exact hkn
      obtain ⟨g1, o1, rfl, hg1, hc1⟩ := r1.at' (by omega)
      obtain ⟨g2, o2, rfl, hg2, hc2⟩ := r2.at' (by omega)
      obtain ⟨p0, p1, p2⟩ := hc1 k hk1
      obtain ⟨q0, q1, q2⟩ := hc2 k hk2
      obtain ⟨e0, e1, e2⟩ := key_of HK.out hk1 hk2
      have v1 := fun q => ((r1.has _ (List.getElem_mem hk1)).drewN q).conv
      have v2 := fun q => ((r2.has _ (List.getElem_mem hk2)).drewN q).conv
      rw [e0] at q0
      rw [e2] at q2
      rw [e1] at v2
      generalize xs[k] = s at *
      generalize ys[k] = t at *
      obtain ⟨sn, so, sk, sc, sb, ss⟩ := s
      obtain ⟨tn, t0, tk, tc, tb, ts⟩ := t
      dsimp only at p0 p1 p2 q0 q1 q2 v1 v2
      generalize bs sb = T at *
      generalize (⟨sn.toArray⟩ : ByteArray) = S at *
      clear r1 r2 hk1 hk2 hg1 hg2 hc1 hc2 e0 e1 e2
      go_wp2_with fail
      go_quiet (fail)
      go_wp2_with fail
      exact ⟨⟨k + 1, by go_num, by omega, HB.out.trans ⟨rfl, rfl, rfl, Nat.le_refl _, fun _ _ => rfl⟩⟩, by simp [intOf]; omega⟩
    · have hkI : ¬ (k : Int) < (n : Int) := by omega
      have hkd : decide ((k : Int) < (n : Int)) = false := by simpa using hkI
      have hkd2 : decide (k < n) = false := by simpa using hkn
      go_wp2_with fail
      go_ret
      exact ⟨rfl, HB.out⟩
end Go.Proofs.YtmddcdaodlnnhaaGreatDoor
