/-
  What is done by Append, of package disk. Conditions: those that each theorem names.
  What is done by Sync, Cut, Remove of package disk, wholly or not. Conditions: those that each theorem names.
-/
import Derived.Test.YtmddcdaodlnnhaaGreatDoorVDKHToDKI
namespace Go.Proofs.YtmddcdaodlnnhaaGreatDoor
open Go.RowKit Go.Maps
set_option linter.unusedVariables false
/-- A box of one value. -/
def Bx (W : World) (b : Nat) (v : Value) (t : TypeId) : Prop := W.heap[b]? = some (.cells #[v] t)
theorem Bx.cell {W : World} {b : Nat} {v : Value} {t : TypeId} (h : Bx W b v t) : W.cell? ⟨b, 0, none⟩ = some v := (cell_in h 0 _ rfl).1
theorem Bx.lt {W : World} {b : Nat} {v : Value} {t : TypeId} (h : Bx W b v t) : b < W.heap.size := node_lt h
theorem Bx.kx {W W' : World} {b : Nat} {v : Value} {t : TypeId} {L : Nat → Prop} (h : Bx W b v t) (hk : Kx L W W') (hL : ¬ L b) : Bx W' b v t := (hk.block b h.lt hL).trans h
section
variable {m T T' : Nat} {w w' W X Y : World} {d B : Nat} {fs : List Fx} {off arm : Bool} {ah pa : Int}
set_option maxRecDepth 100000 in
set_option maxHeartbeats 2000000 in
theorem capp_ok (h : Dk m T W d B fs off arm ah pa) (S : ByteArray) (hS : S.size ≤ 32) {po : Option Addr} {pn pc : Nat} {pb : List UInt8} (hT : T + pn < 1099511627776) {b1 b2 b3 : Nat} (B1 : Bx W b1 (.pointer (some ⟨d, 0, none⟩)) 24) (B2 : Bx W b2 (.string S) 9) (B3 : Bx W b3 (.slice po pn pc) 29)
    (n3 : ¬ OD d B fs b3) (hp : Has W po pn pc pb) (hpo : ∀ a, po = some a ∧ 0 < pn → ¬ OD d B fs a.block) (n : Nat) (hn : n ≤ pn) :
    Calls Tryz.prog 43 #[.int .i64 (n : Int), .pointer (some ⟨b1, 0, none⟩), .pointer (some ⟨b2, 0, none⟩), .pointer (some ⟨b3, 0, none⟩)] W fun e W' => e = .returned (.tuple #[]) ∧
      ∃ fs', fs'.map pl = setA (fs.map pl) ⟨S.data.toList, (oldP (fs.map pl) S.data.toList).b ++ pb.take n, (oldP (fs.map pl) S.data.toList).s⟩ ∧ Dk m (T + 1 + pn) W' d B fs' off arm ah pa ∧ Stp (OD d B fs) W (OD d B fs') W' := by
  have k1 := B1.cell
  have k2 := B2.cell
  have l1 := B1.lt
  have l2 := B2.lt
  have l3 := B3.lt
  have HM := hid (made_ok h S hS (by omega))
  have HB := hid (And.intro hp (And.intro hpo (And.intro n3 B3)))
  have hmW : m ≤ W.heap.size := Nat.le_trans h.md (Nat.le_of_lt (node_lt h.blk))
  clear h hp hpo n3 B1 B2 B3
  go_enter Tryz.func43, Tryz.ntmps43
  go_wp2_with (first
    | (go_at_call 41; refine HM.out.mono ?_; rintro e X ⟨f, fs1, rfl, hR, hD, hSt⟩))
  obtain ⟨hp, hpo, n3, B3⟩ := HB.out
  have hpX := hp.kxA hSt.kx hpo
  have B3X := B3.kx hSt.kx n3
  obtain ⟨V, hV⟩ : ∃ V, V = X.drew := ⟨_, rfl⟩
  have hbV : Below X.heap.size X V := by rw [hV]; exact (Below.refl _ X).drew
  have hDV := hD.below hbV
  have hok := hDV.ok f hR.1
  have hpV := hpX.below hbV
  have B3V : Bx V b3 (.slice po pn pc) 29 := (hbV.block _ B3X.lt).trans B3X
  have HS0 : Hid ((fun Z : World => Z.cell? ⟨f.p, 0, none⟩ = some (.slice f.o f.k f.c) ∧ Z.cell? ⟨b3, 0, none⟩ = some (.slice po pn pc) ∧ f.p < Z.heap.size ∧ b3 < Z.heap.size) V) := ⟨(two_cells hok.blk).1.1, B3V.cell, node_lt hok.blk, B3V.lt⟩
  have HSl := hid (slice_hiB hn hpV.2.1 hpV.2.2.2.1)
  obtain ⟨i0, hi, hz0, hz1, hz2⟩ := info_parts Tryz.info5
  obtain ⟨s1, s2, s3⟩ := (hpV.pre n hn).src
  have hbd := hDV.bd f hR.1
  obtain ⟨v', V', hr, ho, hg, hat⟩ := app_any Tryz.underlying29 hi hz0 hz1 hz2 rfl (by decide) hok.row pc s3 s1 (bv_oneCell _) (by unfold maxLen; omega) (by omega) (Nat.le_trans hmW (Nat.le_trans hSt.kx.size hbV.size)) 29 s2
  rw [← List.map_append] at ho
  obtain ⟨o', c', rfl⟩ := own_any_shape ho
  have hkg : Kx (fun g => (fsl f).ownBlock = some g) V V' := .grown hg fun g e => e
  have hb' : V'.heap[f.p]? = some (.cells #[.slice f.o f.k f.c, .int .i64 (f.s : Int)] 71) := (hkg.block _ (node_lt hok.blk) fun e => hok.ne e rfl).trans hok.blk
  have hset := set_in hb' 0 (.slice o' (f.k + n) c')
  obtain ⟨f', e1, e2, e3, e4, e5, hF1, hF2⟩ := hDV.stored hR.1 hkg ho (fun g e => by
    rcases hat with e2 | e2
    · exact .inl (e2.symm.trans e)
    · rw [e2] at e; cases e; exact .inr (Nat.le_refl _)) (Nat.le_trans hok.sk (Nat.le_add_right _ _)) (T' := T + 1 + pn) (by omega) (by omega) hset (Kx.set (P := fun g => g = f.p) (g := f.p) rfl _)
  have HF : Hid (∃ fs', fs'.map pl = setA (fs.map pl) ⟨S.data.toList, (oldP (fs.map pl) S.data.toList).b ++ pb.take n, (oldP (fs.map pl) S.data.toList).s⟩ ∧ Dk m (T + 1 + pn) (V'.setCell ⟨f.p, 0, none⟩ (.slice o' (f.k + n) c')) d B fs' off arm ah pa ∧ Stp (OD d B fs) W (OD d B fs') (V'.setCell ⟨f.p, 0, none⟩ (.slice o' (f.k + n) c'))) := by
    refine ⟨put fs1 f', ?_, hF1, (hSt.trans (.below hbV)).trans hF2⟩
    rw [made_set hR e1, map_setA nm_pl, made_old hR]
    congr 1
    unfold pl
    rw [e1, e2, e3, hR.2.1]
  have HRun := hid hr
  have HHe : Hid ((fun Z : World => Z.cell? ⟨f.p, 0, none⟩ = some (.slice f.o f.k f.c) ∧ Z.cell? ⟨b3, 0, none⟩ = some (.slice po pn pc) ∧ f.p < Z.heap.size ∧ b3 < Z.heap.size) V') := by
    have n3V : ¬ ((fsl f).ownBlock = some b3) := fun e => by
      obtain ⟨_, _, cur, hc⟩ := own_lt hok.row _ e
      have := B3V
      unfold Bx at this
      rw [hc] at this
      cases this
    refine ⟨(two_cells hb').1.1, ((World.cell?_of_block (w := V) (hkg.block _ B3V.lt n3V)).trans B3V.cell), node_lt hb', Nat.lt_of_lt_of_le B3V.lt hkg.size⟩
  have hfr := (two_cells hb').2.1
  have HFr := hid hfr
  clear hp hpo n3 B3 hpX B3X hbV hDV hpV B3V hi hz0 hz1 hz2 s1 s2 s3 ho hg hat hkg hset e1 e2 e3 e4 e5 hF1 hF2 hr hR hD hSt hok hb' hbd hfr HB HM k1 k2 l1 l2 l3
  obtain ⟨fn, fp, fo, fk, fc, fb, fs0⟩ := f
  dsimp only at *
  go_wp2_with fail
  refine region_L 11 (fun Z : World => Z.cell? ⟨fp, 0, none⟩ = some (.slice fo fk fc) ∧ Z.cell? ⟨b3, 0, none⟩ = some (.slice po pn pc) ∧ fp < Z.heap.size ∧ b3 < Z.heap.size) (by kernel_rfl) (by rw [← hV]; exact HS0.out) (fun hHeld => ?_)
  rw [← hV] at hHeld ⊢
  refine anyT 0 hHeld ?_
  refine anyT 1 hHeld ?_
  refine anyT 2 hHeld ?_
  refine anyT 3 hHeld ?_
  refine anyT 4 hHeld ?_
  refine anyT 5 hHeld ?_
  refine anyT 6 hHeld ?_
  refine anyT (v := .slice po n pc) 7 hHeld ?_ (hy := Or.inl ⟨by rfl, fun w _ => exec_slice_hiB (by rfl) (by rfl) (by rfl) (HSl.out w)⟩)
  (try simp only [Act.put, List.setIfInBounds_toArray, List.set_cons_zero, List.set_cons_succ])
  refine anyO 8 (fun K hK => ?_)
  refine step_app_run rfl (.tmp 13) (.tmp 16) 29 rfl (by rfl) (by rfl) HRun.out ?_
  refine hK.out _ _ HHe.out ?_
  clear hK K hHeld
  (try simp only [Act.put, List.setIfInBounds_toArray, List.set_cons_zero, List.set_cons_succ])
  obtain ⟨x0, x1, x2, x3⟩ := HHe.out
  have y0 := HFr.out
  refine anyO 9 (fun K hK => ?_)
  go_simp
  refine hK.out _ _ HHe.out ?_
  clear hK K
  (try simp only [Act.put, List.setIfInBounds_toArray, List.set_cons_zero, List.set_cons_succ])
  refine anyO 10 (fun K hK => ?_)
  go_simp
  refine hK.out _ _ HHe.out ?_
  clear hK K
  (try simp only [Act.put, List.setIfInBounds_toArray, List.set_cons_zero, List.set_cons_succ])
  refine anyZ (fun K hK => ?_)
  go_simp
  refine hK.out _ _ ?_
  clear hK K
  go_wp2_with fail
  exact bodyPost_end (v := .tuple #[]) (by simp [results, Tryz.results43, go_sem]) rfl ⟨rfl, HF.out⟩
end
end Go.Proofs.YtmddcdaodlnnhaaGreatDoor
namespace Go.Proofs.YtmddcdaodlnnhaaGreatDoor
open Go.RowKit Go.Maps
set_option linter.unusedVariables false
theorem wholly_ok (Gn : Nat) (gp : Array Value) (w : World) : Calls Tryz.prog 39 #[.func (.func Gn) #[] gp] w fun e w' => e = .returned (.func (.func 57) #[] #[.pointer (some ⟨w.heap.size, 0, none⟩)]) ∧ w' = w.alloc (.cells #[.func (.func Gn) #[] gp] 1) := by
  go_enter Tryz.func39, Tryz.ntmps39
  go_wp2_with fail
  go_ret
  exact ⟨rfl, rfl⟩
set_option maxRecDepth 100000 in
theorem whole_ok {W : World} {bf Gn : Nat} {gp : Array Value} (hB : Bx W bf (.func (.func Gn) #[] gp) 1) (hen : ∀ xs w, (callFunc Gn xs).run Tryz.prog w = .ok (.enter Gn xs) w) (n : Nat) {Q : World → Prop} (hQ : n = 1 → Calls Tryz.prog Gn gp W fun e W' => e = .returned (.tuple #[]) ∧ Q W') :
    Calls Tryz.prog 57 #[.int .i64 (n : Int), .pointer (some ⟨bf, 0, none⟩)] W fun e W' => e = .returned (.tuple #[]) ∧ (n = 1 → Q W') ∧ (n ≠ 1 → W' = W) := by
  have k1 := hB.cell
  have l1 := hB.lt
  by_cases hn : n = 1
  · subst hn
    have HQ := hid (hQ rfl)
    have hgp : #[] ++ gp = gp := by simp
    clear hQ hB
    go_enter Tryz.func57, Tryz.ntmps57
    go_wp2_with fail
    (try rw [hgp])
    refine HQ.out.mono ?_
    rintro e X ⟨rfl, hX⟩
    have HX := hid hX
    clear hX HQ
    go_wp2_with fail
    exact bodyPost_end (v := .tuple #[]) (by simp [results, Tryz.results57, go_sem]) rfl ⟨rfl, fun _ => HX.out, fun h => absurd rfl h⟩
  · have a0 : ((n : Int) == 1) = false := by simp; omega
    have HN := hid hn
    clear hQ hB hn
    go_enter Tryz.func57, Tryz.ntmps57
    go_wp2_with fail
    exact bodyPost_end (v := .tuple #[]) (by simp [results, Tryz.results57, go_sem]) rfl ⟨rfl, fun h => absurd h HN.out, fun _ => rfl⟩
section
variable {m T T' : Nat} {w w' W X Y : World} {d B : Nat} {fs : List Fx} {off arm : Bool} {ah pa : Int}
set_option maxRecDepth 100000 in
set_option maxHeartbeats 2000000 in
theorem csync_ok (h : Dk m T W d B fs off arm ah pa) {x : Nm} {f : Fx} (hf : fnd fs x = some f) {b1 : Nat} (B1 : Bx W b1 (fptr f) 68) (n1 : ¬ OD d B fs b1) :
    Calls Tryz.prog 44 #[.pointer (some ⟨b1, 0, none⟩)] W fun e W' => e = .returned (.tuple #[]) ∧
      ∃ fs', fs'.map pl = setA (fs.map pl) ⟨x, (oldP (fs.map pl) x).b, (oldP (fs.map pl) x).b.length⟩ ∧ Dk m T W' d B fs' off arm ah pa ∧ Stp (OD d B fs) W (OD d B fs') W' := by
  obtain ⟨hm, hn, hok, hbd⟩ := h.at hf
  obtain ⟨V, hV⟩ : ∃ V, V = W.drew := ⟨_, rfl⟩
  have hbV : Below W.heap.size W V := by rw [hV]; exact (Below.refl _ W).drew
  have hDV := h.below hbV
  have hokV := hDV.ok f hm
  have B1V : Bx V b1 (fptr f) 68 := (hbV.block _ B1.lt).trans B1
  have HS0 : Hid ((fun Z : World => Z.cell? ⟨b1, 0, none⟩ = some (.pointer (some ⟨f.p, 0, none⟩)) ∧ Z.cell? ⟨f.p, 0, none⟩ = some (.slice f.o f.k f.c) ∧ b1 < Z.heap.size ∧ f.p < Z.heap.size) V) := ⟨B1V.cell, (two_cells hokV.blk).1.1, B1V.lt, node_lt hokV.blk⟩
  obtain ⟨⟨c0, c1⟩, g0, g1⟩ := two_cells hokV.blk
  have hset := set_in hokV.blk 1 (.int .i64 (f.k : Int))
  obtain ⟨f', e1, e2, e3, e4, e5, hF1, hF2⟩ := hDV.stored hm (X := V) (Kx.refl _ _) hokV.row (fun g e => .inl e) (Nat.le_refl _) (T' := T) (Nat.le_refl _) hbd hset (Kx.set (P := fun g => g = f.p) (g := f.p) rfl _)
  have HF : Hid (∃ fs', fs'.map pl = setA (fs.map pl) ⟨x, (oldP (fs.map pl) x).b, (oldP (fs.map pl) x).b.length⟩ ∧ Dk m T (V.setCell ⟨f.p, 1, none⟩ (.int .i64 (f.k : Int))) d B fs' off arm ah pa ∧ Stp (OD d B fs) W (OD d B fs') (V.setCell ⟨f.p, 1, none⟩ (.int .i64 (f.k : Int)))) := by
    refine ⟨put fs f', ?_, hF1, (Stp.below hbV).trans hF2⟩
    rw [put_set hf e1, map_setA nm_pl, oldP_some hf]
    congr 1
    unfold pl
    rw [e1, e2, e3, hn, hok.len]
  have HG1 := hid (And.intro g1 c1)
  clear h hf B1 n1 hm hn hok hbd hbV hDV hokV B1V hset e1 e2 e3 e4 e5 hF1 hF2 c0 c1 g0 g1
  obtain ⟨fn, fp, fo, fk, fc, fb, fs0⟩ := f
  dsimp only at *
  go_enter Tryz.func44, Tryz.ntmps44
  go_wp2_with fail
  refine region_L 8 (fun Z : World => Z.cell? ⟨b1, 0, none⟩ = some (.pointer (some ⟨fp, 0, none⟩)) ∧ Z.cell? ⟨fp, 0, none⟩ = some (.slice fo fk fc) ∧ b1 < Z.heap.size ∧ fp < Z.heap.size) (by kernel_rfl) (by rw [← hV]; exact HS0.out) (fun hHeld => ?_)
  rw [← hV] at hHeld ⊢
  clear hV
  refine anyT 0 hHeld ?_
  refine anyT 1 hHeld ?_
  refine anyT 2 hHeld ?_
  refine anyT 3 hHeld ?_
  refine anyT 4 hHeld ?_
  refine anyT 5 hHeld ?_
  (try simp only [Act.put, List.setIfInBounds_toArray, List.set_cons_zero, List.set_cons_succ])
  obtain ⟨x0, x1, x2, x3⟩ := HS0.out
  obtain ⟨y1, z1⟩ := HG1.out
  refine anyO 6 (fun K hK => ?_)
  go_simp
  refine hK.out _ _ HS0.out ?_
  clear hK K
  (try simp only [Act.put, List.setIfInBounds_toArray, List.set_cons_zero, List.set_cons_succ])
  refine anyO 7 (fun K hK => ?_)
  go_simp
  refine hK.out _ _ HS0.out ?_
  clear hK K
  (try simp only [Act.put, List.setIfInBounds_toArray, List.set_cons_zero, List.set_cons_succ])
  refine anyZ (fun K hK => ?_)
  go_simp
  refine hK.out _ _ ?_
  clear hK K
  go_wp2_with fail
  exact bodyPost_end (v := .tuple #[]) (by simp [results, Tryz.results44, go_sem]) rfl ⟨rfl, HF.out⟩
set_option maxRecDepth 100000 in
theorem ccut_ok (h : Dk m T W d B fs off arm ah pa) {x : Nm} {f : Fx} (hf : fnd fs x = some f) {b1 b2 n : Nat} (hT : T < 1099511627776) (B1 : Bx W b1 (fptr f) 68) (B2 : Bx W b2 (.int .i64 (n : Int)) 3) (hn : n ≤ f.k) :
    Calls Tryz.prog 45 #[.pointer (some ⟨b1, 0, none⟩), .pointer (some ⟨b2, 0, none⟩)] W fun e W' => e = .returned (.tuple #[]) ∧
      ∃ fs', fs'.map pl = setA (fs.map pl) ⟨x, (oldP (fs.map pl) x).b.take n, min (oldP (fs.map pl) x).s n⟩ ∧ Dk m T W' d B fs' off arm ah pa ∧ Stp (OD d B fs) W (OD d B fs') W' := by
  obtain ⟨hm, hnx, hok, hbd⟩ := h.at hf
  have k1 := B1.cell
  have k2 := B2.cell
  have l1 := B1.lt
  have l2 := B2.lt
  have HC := hid (dkcut_ok h hm n hn hT)
  have HP : Hid (∀ f' : Fx, f'.n = f.n → f'.b = f.b.take n → f'.s = min f.s n → (put fs f').map pl = setA (fs.map pl) ⟨x, (oldP (fs.map pl) x).b.take n, min (oldP (fs.map pl) x).s n⟩) := fun f' e1 e2 e3 => by
    rw [put_set hf e1, map_setA nm_pl, oldP_some hf]
    congr 1
    unfold pl
    rw [e1, e2, e3, hnx]
  clear h hf B1 B2 hn hm hnx hok hbd
  go_enter Tryz.func45, Tryz.ntmps45
  go_wp2_with (first
    | (go_at_call 35; refine HC.out.mono ?_; rintro e X ⟨rfl, f', e1, e2, e3, e4, e5, hD, hS, _⟩; have HX := hid (And.intro (HP.out f' e1 e2 e3) (And.intro hD hS)); clear e1 e2 e3 e4 e5 hD hS))
  exact bodyPost_end (v := .tuple #[]) (by simp [results, Tryz.results45, go_sem]) rfl ⟨rfl, _, HX.out.1, HX.out.2.1, HX.out.2.2⟩
set_option maxRecDepth 100000 in
set_option maxHeartbeats 2000000 in
theorem cremove_ok (h : Dk m T W d B fs off arm ah pa) (S : ByteArray) (hS : S.size ≤ 32) {b1 b2 : Nat} (B1 : Bx W b1 (.pointer (some ⟨d, 0, none⟩)) 24) (B2 : Bx W b2 (.string S) 9) :
    Calls Tryz.prog 46 #[.pointer (some ⟨b1, 0, none⟩), .pointer (some ⟨b2, 0, none⟩)] W fun e W' => e = .returned (.tuple #[]) ∧
      ∃ fs', fs'.map pl = del (fs.map pl) S.data.toList ∧ Dk m T W' d B fs' off arm ah pa ∧ Stp (OD d B fs) W (OD d B fs') W' := by
  obtain ⟨V, hV⟩ : ∃ V, V = W.drew := ⟨_, rfl⟩
  have hbV : Below W.heap.size W V := by rw [hV]; exact (Below.refl _ W).drew
  have hDV := h.below hbV
  have B1V : Bx V b1 (.pointer (some ⟨d, 0, none⟩)) 24 := (hbV.block _ B1.lt).trans B1
  have B2V : Bx V b2 (.string S) 9 := (hbV.block _ B2.lt).trans B2
  have HS0 : Hid ((fun Z : World => Z.cell? ⟨b1, 0, none⟩ = some (.pointer (some ⟨d, 0, none⟩)) ∧ Z.cell? ⟨b2, 0, none⟩ = some (.string S) ∧ Z.cell? ⟨d, 0, none⟩ = some (.map (some B)) ∧ b1 < Z.heap.size ∧ b2 < Z.heap.size ∧ d < Z.heap.size) V) := ⟨B1V.cell, B2V.cell, (five_cells hDV.blk).1.1, B1V.lt, B2V.lt, node_lt hDV.blk⟩
  obtain ⟨V', hrun0, hm', hg'⟩ := hDV.mp.drop (x := S) (l' := del fs S.data.toList) (by unfold maxLen; omega) (rise_del hDV.mp.1 _) (fun y => fnd_del _ y fs) 0
  have hrun : ∀ ty, (Builtin.delete_ #[57, 9] ty #[.map (some B), .string S]).run Tryz.prog V = .ok (.tuple #[]) V' := fun ty => hrun0
  have hVd : V'.heap[d]? = V.heap[d]? := hg'.block _ (node_lt hDV.blk) (fun e => hDV.ne_dB (by cases e; rfl))
  have nbx : ∀ b v t, Bx V b v t → V'.heap[b]? = V.heap[b]? := fun b v t hb => hg'.block _ hb.lt (fun e => by
    obtain ⟨es, k, h1⟩ := hDV.mapblk
    cases e
    have : V.heap[B]? = some (.cells #[v] t) := hb
    rw [h1] at this
    cases this)
  have HHe : Hid ((fun Z : World => Z.cell? ⟨b1, 0, none⟩ = some (.pointer (some ⟨d, 0, none⟩)) ∧ Z.cell? ⟨b2, 0, none⟩ = some (.string S) ∧ Z.cell? ⟨d, 0, none⟩ = some (.map (some B)) ∧ b1 < Z.heap.size ∧ b2 < Z.heap.size ∧ d < Z.heap.size) V') :=
    ⟨(World.cell?_of_block (w := V) (nbx _ _ _ B1V)).trans B1V.cell, (World.cell?_of_block (w := V) (nbx _ _ _ B2V)).trans B2V.cell, (World.cell?_of_block (w := V) hVd).trans (five_cells hDV.blk).1.1, Nat.lt_of_lt_of_le B1V.lt hg'.size, Nat.lt_of_lt_of_le B2V.lt hg'.size, Nat.lt_of_lt_of_le (node_lt hDV.blk) hg'.size⟩
  obtain ⟨hF1, hF2⟩ := hDV.less (.grown hg' fun g e => by cases e; rfl) hm'
  have HF := hid (And.intro (map_del nm_pl S.data.toList fs) (And.intro hF1 ((Stp.below hbV).trans hF2)))
  have HRun := hid hrun
  clear h B1 B2 hbV hDV B1V B2V hrun0 hrun hm' hg' hF1 hF2 hVd nbx
  go_enter Tryz.func46, Tryz.ntmps46
  go_wp2_with fail
  refine region_L 99 (fun Z : World => Z.cell? ⟨b1, 0, none⟩ = some (.pointer (some ⟨d, 0, none⟩)) ∧ Z.cell? ⟨b2, 0, none⟩ = some (.string S) ∧ Z.cell? ⟨d, 0, none⟩ = some (.map (some B)) ∧ b1 < Z.heap.size ∧ b2 < Z.heap.size ∧ d < Z.heap.size) (by kernel_rfl) (by rw [← hV]; exact HS0.out) (fun hHeld => ?_)
  rw [← hV] at hHeld ⊢
  clear hV
  refine anyT 0 hHeld ?_
  refine anyT 1 hHeld ?_
  refine anyT 2 hHeld ?_
  refine anyT 3 hHeld ?_
  refine anyT 4 hHeld ?_
  (try simp only [Act.put, List.setIfInBounds_toArray, List.set_cons_zero, List.set_cons_succ])
  refine anyO 5 (fun K hK => ?_)
  refine step_del_run rfl (.tmp 5) (.tmp 6) 57 9 rfl (by rfl) (by rfl) HRun.out ?_
  refine hK.out _ _ HHe.out ?_
  clear hK K hHeld
  refine ⟨by kernel_rfl, ?_⟩
  go_wp2_with fail
  exact bodyPost_end (v := .tuple #[]) (by simp [results, Tryz.results46, go_sem]) rfl ⟨rfl, _, HF.out.1, HF.out.2.1, HF.out.2.2⟩
end
end Go.Proofs.YtmddcdaodlnnhaaGreatDoor
