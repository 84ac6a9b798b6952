/-
  Slices of rows of bytes and of files. Conditions: those that each theorem names.
  What made and cut of package disk do. Conditions: those that each theorem names.
-/
import Derived.Test.YtmddcdaodlnnhaaGreatDoorVDKEToDKS
namespace Go.Proofs.YtmddcdaodlnnhaaGreatDoor
open Go.RowKit Go.Maps
set_option linter.unusedVariables false
theorem Tryz.infoFile : (Tryz.prog.info? 40).map (fun i => (i.zero, i.size, i.bytes)) = some (some (.agg #[.string ⟨#[]⟩, .slice none 0 0, .int .i64 0]), 3, 48) := by kernel_rfl
theorem slice_hiB {so : Option Addr} {n cp k : Nat} (hk : k ≤ n) (hn : n ≤ cp) (hso : so = none → cp = 0) : ∀ W : World, (Instr.slice 29 (.slice so n cp) none (some (.int .i64 (k : Int))) none).run Tryz.prog W = .ok (.slice so k cp) W := by
  obtain ⟨iT, hiT, hzT0, hzT1, hzT2⟩ := info_parts Tryz.info5
  have k3 : ¬ (cp : Int) < (k : Int) := by omega
  have k4 : ¬ (k : Int) < 0 := by omega
  cases so with
  | none =>
    have hc : cp = 0 := hso rfl
    have hk0 : k = 0 := by omega
    have hn0 : n = 0 := by omega
    subst hc hk0 hn0
    intro W
    simp [Instr.slice, run_underlying Tryz.underlying29, Instr.sliceBounds, Instr.sliceBound, asIntOf, sizeOf, typeInfo, hiT]
  | some a =>
    intro W
    have k6 : k ≤ cp := by omega
    obtain ⟨g, off, sp⟩ := a
    have k7 : (⟨g, off, sp⟩ : Addr).add 0 = ⟨g, off, sp⟩ := by simp [Addr.add]
    by_cases hc : cp = 0 <;> simp [Instr.slice, run_underlying Tryz.underlying29, Instr.sliceBounds, Instr.sliceBound, asIntOf, sizeOf, typeInfo, hiT, k6, k7, hc]
    omega
theorem Tryz.elemB : Tryz.prog.underlying 29 = some (.slice (Tryz.prog.elem 29)) := by kernel_rfl
theorem wpList_slice_hiB {w : World} {ops : Array Oper} {rest : List Oper} {o : Oper} {a : Act} {Q : Exit → Act → World → Prop} (hgd : o.guard = none) (s x : Operand)
    (ho : o.op = .slice 29 s none (some x) none) {so : Option Addr} {n cp k : Nat} {v : Value} (hs : a.eval s = .slice so n cp) (hx : a.eval x = .int .i64 (k : Int))
    (hr : (Instr.slice 29 (.slice so n cp) none (some (.int .i64 (k : Int))) none).run Tryz.prog w = .ok v w) (h : wpList Tryz.prog ops Q rest (a.put o.dst v) w) : wpList Tryz.prog ops Q (o :: rest) a w := by
  refine wpList_plain hgd fun K hK => ?_
  unfold Oper.wp execOp
  simp only [ho, Sem.run_bind, Sem.run_pure, Result.andThen_ok, Option.map_some, Option.map_none, hs, hx, run_sliceAt_slice (h := Tryz.elemB), hr]
  exact hK _ _ h
theorem slice_loF {so : Option Addr} {n cp k : Nat} (hk : k ≤ n) (hn : n ≤ cp) (hso : so = none → cp = 0) : ∃ so' , (∀ W : World, (Instr.slice 33 (.slice so n cp) (some (.int .i64 (k : Int))) none none).run Tryz.prog W = .ok (.slice so' (n - k) (cp - k)) W) ∧ (so = none → so' = none) ∧ (∀ g, so = some ⟨g, 0, none⟩ → k < n → so' = some ⟨g, k * 3, none⟩) ∧ (so' = none → cp - k = 0) := by
  obtain ⟨iT, hiT, hzT0, hzT1, hzT2⟩ := info_parts Tryz.infoFile
  have k3 : ¬ (n : Int) < (k : Int) := by omega
  have k4 : ¬ (k : Int) < 0 := by omega
  have k5 : ¬ (cp : Int) < (n : Int) := by omega
  cases so with
  | none =>
    have hc : cp = 0 := hso rfl
    have hk0 : k = 0 := by omega
    have hn0 : n = 0 := by omega
    subst hc hk0 hn0
    exact ⟨none, fun W => by simp [Instr.slice, run_underlying Tryz.underlying33, Instr.sliceBounds, Instr.sliceBound, asIntOf, sizeOf, typeInfo, hiT], fun _ => rfl, fun g e => (by cases e), fun _ => rfl⟩
  | some a =>
    by_cases hc : cp = k
    · refine ⟨some a, fun W => ?_, fun e => (by cases e), fun g e hlt => (by omega), fun e => (by cases e)⟩
      subst hc
      have hnk : n = cp := by omega
      subst hnk
      simp [Instr.slice, run_underlying Tryz.underlying33, Instr.sliceBounds, Instr.sliceBound, asIntOf, sizeOf, typeInfo, hiT]
    · refine ⟨some (a.add (k * 3)), fun W => ?_, fun e => (by cases e), fun g e hlt => (by cases e; rw [Addr.add_lit, Nat.zero_add]), fun e => (by cases e)⟩
      simp [Instr.slice, run_underlying Tryz.underlying33, Instr.sliceBounds, Instr.sliceBound, asIntOf, sizeOf, typeInfo, hiT, hzT1, hc]
      first | done | omega
theorem slice_hiF {so : Option Addr} {n cp k : Nat} (hk : k ≤ n) (hn : n ≤ cp) (hso : so = none → cp = 0) : ∀ W : World, (Instr.slice 33 (.slice so n cp) none (some (.int .i64 (k : Int))) none).run Tryz.prog W = .ok (.slice so k cp) W := by
  obtain ⟨iT, hiT, hzT0, hzT1, hzT2⟩ := info_parts Tryz.infoFile
  have k3 : ¬ (cp : Int) < (k : Int) := by omega
  have k4 : ¬ (k : Int) < 0 := by omega
  cases so with
  | none =>
    have hc : cp = 0 := hso rfl
    have hk0 : k = 0 := by omega
    have hn0 : n = 0 := by omega
    subst hc hk0 hn0
    intro W
    simp [Instr.slice, run_underlying Tryz.underlying33, Instr.sliceBounds, Instr.sliceBound, asIntOf, sizeOf, typeInfo, hiT]
  | some a =>
    intro W
    have k6 : k ≤ cp := by omega
    obtain ⟨g, off, sp⟩ := a
    have k7 : (⟨g, off, sp⟩ : Addr).add 0 = ⟨g, off, sp⟩ := by simp [Addr.add]
    by_cases hc : cp = 0 <;> simp [Instr.slice, run_underlying Tryz.underlying33, Instr.sliceBounds, Instr.sliceBound, asIntOf, sizeOf, typeInfo, hiT, k6, k7, hc]
    omega
theorem Tryz.elemF : Tryz.prog.underlying 33 = some (.slice (Tryz.prog.elem 33)) := by kernel_rfl
theorem wpList_slice_hiF {w : World} {ops : Array Oper} {rest : List Oper} {o : Oper} {a : Act} {Q : Exit → Act → World → Prop} (hgd : o.guard = none) (s x : Operand)
    (ho : o.op = .slice 33 s none (some x) none) {so : Option Addr} {n cp k : Nat} {v : Value} (hs : a.eval s = .slice so n cp) (hx : a.eval x = .int .i64 (k : Int))
    (hr : (Instr.slice 33 (.slice so n cp) none (some (.int .i64 (k : Int))) none).run Tryz.prog w = .ok v w) (h : wpList Tryz.prog ops Q rest (a.put o.dst v) w) : wpList Tryz.prog ops Q (o :: rest) a w := by
  refine wpList_plain hgd fun K hK => ?_
  unfold Oper.wp execOp
  simp only [ho, Sem.run_bind, Sem.run_pure, Result.andThen_ok, Option.map_some, Option.map_none, hs, hx, run_sliceAt_slice (h := Tryz.elemF), hr]
  exact hK _ _ h
theorem wpList_slice_loF {w : World} {ops : Array Oper} {rest : List Oper} {o : Oper} {a : Act} {Q : Exit → Act → World → Prop} (hgd : o.guard = none) (s x : Operand)
    (ho : o.op = .slice 33 s (some x) none none) {so : Option Addr} {n cp k : Nat} {v : Value} (hs : a.eval s = .slice so n cp) (hx : a.eval x = .int .i64 (k : Int))
    (hr : (Instr.slice 33 (.slice so n cp) (some (.int .i64 (k : Int))) none none).run Tryz.prog w = .ok v w) (h : wpList Tryz.prog ops Q rest (a.put o.dst v) w) : wpList Tryz.prog ops Q (o :: rest) a w := by
  refine wpList_plain hgd fun K hK => ?_
  unfold Oper.wp execOp
  simp only [ho, Sem.run_bind, Sem.run_pure, Result.andThen_ok, Option.map_some, Option.map_none, hs, hx, run_sliceAt_slice (h := Tryz.elemF), hr]
  exact hK _ _ h
end Go.Proofs.YtmddcdaodlnnhaaGreatDoor
namespace Go.Proofs.YtmddcdaodlnnhaaGreatDoor
open Go.RowKit Go.Maps
set_option linter.unusedVariables false
/-- What made answers, and the files behind it. -/
def MadeR (fs : List Fx) (x : Nm) (f : Fx) (fs' : List Fx) : Prop := f ∈ fs' ∧ f.n = x ∧ ((fnd fs x = some f ∧ fs' = fs) ∨ (fnd fs x = none ∧ fs' = ins fs f ∧ f.b = [] ∧ f.s = 0 ∧ f.k = 0))
section
variable {m T : Nat} {w w' : World} {d B : Nat} {fs : List Fx} {off arm : Bool} {ah pa : Int}
set_option maxRecDepth 100000 in
set_option maxHeartbeats 2000000 in
theorem made_ok (h : Dk m T w d B fs off arm ah pa) (S : ByteArray) (hS : S.size ≤ 32) (hT : T < 1099511627776) : Calls Tryz.prog 41 #[.pointer (some ⟨d, 0, none⟩), .string S] w fun e w' =>
    ∃ f fs', e = .returned (fptr f) ∧ MadeR fs S.data.toList f fs' ∧ Dk m (T + 1) w' d B fs' off arm ah pa ∧ Stp (OD d B fs) w (OD d B fs') w' := by
  have hlt := node_lt h.blk
  obtain ⟨c0, f0⟩ := cell_in h.blk 0 _ rfl
  have hlk := h.mp.look_ok (x := S) (by unfold maxLen; omega)
  have HD := hid h
  have hmw : m ≤ w.heap.size := Nat.le_trans h.md (Nat.le_of_lt hlt)
  unfold lookV at hlk
  clear h
  cases hf : fnd fs S.data.toList with
  | some f =>
    have HF := hid hf
    rw [hf] at hlk
    clear hf
    have hlk : (Instr.lookup 57 (.map (some B)) (.string S) true).run Tryz.prog w = .ok (.tuple #[.pointer (some ⟨f.p, 0, none⟩), .bool true]) w := hlk
    go_enter Tryz.func41, Tryz.ntmps41
    go_wp2_with fail
    go_ret
    exact ⟨f, rfl, fs, ⟨(fnd_some HF.out).1, (fnd_some HF.out).2, .inl ⟨HF.out, rfl⟩⟩, HD.out.mono (by omega), Stp.refl _ _⟩
  | none =>
    have HF := hid hf
    rw [hf] at hlk
    clear hf
    have hlk : (Instr.lookup 57 (.map (some B)) (.string S) true).run Tryz.prog w = .ok (.tuple #[.pointer none, .bool false]) w := hlk
    obtain ⟨w1, hw1⟩ : ∃ w1, w1 = w.alloc (.cells #[.slice none 0 0, .int .i64 0] 71) := ⟨_, rfl⟩
    have hb1 : Below w.heap.size w w1 := by rw [hw1]; exact below_al w _
    have q1 : w1.heap[w.heap.size]? = some (.cells #[.slice none 0 0, .int .i64 0] 71) := by rw [hw1]; exact new_block_at w _ rfl
    have hs1 : w1.heap.size = w.heap.size + 1 := by rw [hw1]; simp
    have hD1 := HD.out.below hb1
    have HSb : Hid (∀ X, Below w1.heap.size w1 X → (fun X : World => X.cell? ⟨d, 0, none⟩ = some (.map (some B)) ∧ d < X.heap.size) X) := fun X hX => ⟨(hX.cell (p := ⟨d, 0, none⟩) (node_lt hD1.blk)).trans (cell_in hD1.blk 0 _ rfl).1, Nat.lt_of_lt_of_le (node_lt hD1.blk) hX.size⟩
    have HS0 : Hid ((fun X : World => X.cell? ⟨d, 0, none⟩ = some (.map (some B)) ∧ d < X.heap.size) w1.drew) := HSb.out _ (Below.refl _ w1).drew
    have HC := hid (clone_any S w1.drew (by omega))
    have HNx : Hid (∀ X, Below w1.heap.size w1 X → ∃ Z, (Instr.mapUpdate 57 (.map (some B)) (.string S) (.pointer (some ⟨w.heap.size, 0, none⟩))).run Tryz.prog X = .ok () Z ∧
        ∃ f fs', Value.pointer (some ⟨w.heap.size, 0, none⟩) = fptr f ∧ MadeR fs S.data.toList f fs' ∧ Dk m (T + 1) Z d B fs' off arm ah pa ∧ Stp (OD d B fs) w (OD d B fs') Z) := fun X hX => by
      have hDX := hD1.below hX
      have hno := fnd_none HF.out
      obtain ⟨f, hfe⟩ : ∃ f : Fx, f = ⟨S.data.toList, w.heap.size, none, 0, 0, [], 0⟩ := ⟨_, rfl⟩
      have en : f.n = S.data.toList := by rw [hfe]
      have ep : f.p = w.heap.size := by rw [hfe]
      have hno' : ∀ t ∈ fs, nm t ≠ nm f := fun t ht => by rw [show nm f = S.data.toList from en]; exact hno t ht
      have hfew := HD.out.few
      obtain ⟨Z, u1, u2, u3⟩ := hDX.mp.upd (s := f) (l' := ins fs f) (x := S) (by unfold maxLen; omega) en (by unfold maxLen; omega) (rise_ins hDX.mp.1 hno') (fun x => fnd_ins f x fs hno')
      have hkB : Kx (fun g => g = B) X Z := .grown u3 (fun g e => by cases e; rfl)
      have hkw : Kx (fun g => g = B) w Z := (Kx.below (hb1.trans (hX.mono hb1.size))).trans hkB
      have hBl := HD.out.mp.lt
      have qZ : Z.heap[w.heap.size]? = some (.cells #[.slice none 0 0, .int .i64 0] 71) := by
        have l1 : w.heap.size < X.heap.size := Nat.lt_of_lt_of_le (by omega) hX.size
        rw [hkB.block _ l1 (by omega), hX.block _ (by omega)]
        exact q1
      have hok : FxOk m Z f := by
        rw [hfe]
        exact ⟨qZ, hmw, ⟨rfl, .inl ⟨rfl, rfl⟩⟩, Nat.le_refl _, by show S.data.toList.length ≤ 32; rw [Array.length_toList]; exact hS⟩
      obtain ⟨hA, hB⟩ := HD.out.add (f := f) (by rw [en]; exact HF.out) hkw u2 hok (fun g hg => by
        rcases hg with e | e
        · omega
        · rw [hfe] at e; cases e) (Nat.le_refl (T + 1)) (by rw [hfe]; exact Nat.zero_le _)
      rw [hfe] at u1
      exact ⟨Z, u1, f, ins fs f, by rw [hfe], ⟨mem_ins.2 (.inl rfl), en, .inr ⟨HF.out, rfl, by rw [hfe], by rw [hfe], by rw [hfe]⟩⟩, hA, hB⟩
    have HW1 := hid hw1
    clear hb1 q1 hs1 hD1 hw1 HD HF
    go_enter Tryz.func41, Tryz.ntmps41
    go_wp2_with fail
    rw [← HW1.out]
    clear c0 f0 hlk HW1 hlt
    refine region_L 7 (fun X : World => X.cell? ⟨d, 0, none⟩ = some (.map (some B)) ∧ d < X.heap.size) (by kernel_rfl) HS0.out (fun hHeld => ?_)
    refine anyT 0 hHeld ?_
    refine anyT 1 hHeld ?_
    refine anyT 2 hHeld ?_
    refine anyT 3 hHeld ?_
    refine anyT 4 hHeld ?_
    refine anyT 6 hHeld ?_
    (try simp only [Act.put, List.setIfInBounds_toArray, List.set_cons_zero, List.set_cons_succ])
    refine anyO 5 (fun K hK => ?_)
    go_simp
    refine HC.out.mono ?_
    rintro e X ⟨rfl, k1⟩
    have hX : Below w1.heap.size w1 X := (Below.refl _ w1).drew.trans k1
    obtain ⟨Z, hu, hR⟩ := HNx.out X hX
    have HR := hid hR
    have hHeld2 := HSb.out X hX
    clear hHeld k1 hX hR
    go_simp
    refine hK.out _ _ hHeld2 ?_
    clear hK K
    (try simp only [Act.put, List.setIfInBounds_toArray, List.set_cons_zero, List.set_cons_succ])
    refine anyZ (fun K hK => ?_)
    clear hHeld2 HNx HC HSb HS0
    go_simp
    refine hK.out _ _ ?_
    clear hK K hu
    go_wp2_with fail
    go_ret
    obtain ⟨f, fs', e1, e2⟩ := HR.out
    exact ⟨f, fs', by rw [← e1]; rfl, e2⟩
/-- Fewer of what is held. -/
theorem Has.pre {w : World} {a : Option Addr} {len cap : Nat} {l : List UInt8} (h : Has w a len cap l) (x : Nat) (hx : x ≤ len) : Has w a x cap (l.take x) := by
  obtain ⟨h1, h2, h3, h4, h5⟩ := h
  refine ⟨by simp; omega, by omega, h3, h4, fun h0 => ?_⟩
  obtain ⟨b, off, ha, hlt, hc⟩ := h5 (by omega)
  refine ⟨b, off, ha, hlt, fun i hi => ?_⟩
  simp at hi
  rw [hc i (by omega)]
  simp

theorem FxOk.has {f : Fx} (h : FxOk m w f) : Has w f.o f.k f.c f.b := Has.of_owned h.row
theorem two_cells {w : World} {p : Nat} {u v : Value} {t : TypeId} (h : w.heap[p]? = some (.cells #[u, v] t)) : (w.cell? ⟨p, 0, none⟩ = some u ∧ w.cell? ⟨p, 1, none⟩ = some v) ∧ w.frozen? ⟨p, 0, none⟩ = false ∧ w.frozen? ⟨p, 1, none⟩ = false :=
  ⟨⟨(cell_in h 0 _ rfl).1, (cell_in h 1 _ rfl).1⟩, (cell_in h 0 _ rfl).2, (cell_in h 1 _ rfl).2⟩
set_option maxRecDepth 100000 in
set_option maxHeartbeats 2000000 in
theorem dkcut_ok (h : Dk m T w d B fs off arm ah pa) {f : Fx} (hf : f ∈ fs) (n : Nat) (hn : n ≤ f.k) (hT : T < 1099511627776) : Calls Tryz.prog 35 #[fptr f, .int .i64 (n : Int)] w fun e w' =>
    e = .returned (.tuple #[]) ∧ ∃ f', f'.n = f.n ∧ f'.b = f.b.take n ∧ f'.s = min f.s n ∧ f'.p = f.p ∧ f'.k = n ∧ Dk m T w' d B (put fs f') off arm ah pa ∧ Stp (OD d B fs) w (OD d B (put fs f')) w' ∧ w'.heap[f.p]? = some (.cells #[fsl f', .int .i64 (f'.s : Int)] 71) := by
  have hok := h.ok f hf
  have hbd := h.bd f hf
  have hlt := node_lt hok.blk
  obtain ⟨⟨c0, c1⟩, q0, q1⟩ := two_cells hok.blk
  have hsl := slice_hiB hn hok.has.2.1 hok.has.2.2.2.1
  have HS := hid hsl
  have HC := hid (cloneR_ok f.o n f.c (f.b.take n) w (hok.has.pre n hn) (by omega))
  have hmw : m ≤ w.heap.size := Nat.le_trans hok.mp (Nat.le_of_lt hlt)
  have HF : Hid (∀ X o' c', X.ownsRow w.heap.size 5 1 (.slice o' n c') n ((f.b.take n).map bv) → Below w.heap.size w X →
      X.heap[f.p]? = some (.cells #[.slice f.o f.k f.c, .int .i64 (f.s : Int)] 71) ∧ ∃ f' : Fx, f'.n = f.n ∧ f'.b = f.b.take n ∧ f'.s = min f.s n ∧ f'.p = f.p ∧ f'.k = n ∧ Dk m T ((X.setCell ⟨f.p, 0, none⟩ (.slice o' n c')).setCell ⟨f.p, 1, none⟩ (.int .i64 ((min f.s n : Nat) : Int))) d B (put fs f') off arm ah pa ∧
        Stp (OD d B fs) w (OD d B (put fs f')) ((X.setCell ⟨f.p, 0, none⟩ (.slice o' n c')).setCell ⟨f.p, 1, none⟩ (.int .i64 ((min f.s n : Nat) : Int))) ∧ ((X.setCell ⟨f.p, 0, none⟩ (.slice o' n c')).setCell ⟨f.p, 1, none⟩ (.int .i64 ((min f.s n : Nat) : Int))).heap[f.p]? = some (.cells #[fsl f', .int .i64 (f'.s : Int)] 71)) := fun X o' c' hr hb => by
    have hbX : X.heap[f.p]? = some (.cells #[.slice f.o f.k f.c, .int .i64 (f.s : Int)] 71) := (hb.block _ hlt).trans hok.blk
    refine ⟨hbX, ?_⟩
    obtain ⟨f', hfe⟩ : ∃ f' : Fx, f' = ⟨f.n, f.p, o', n, c', f.b.take n, min f.s n⟩ := ⟨_, rfl⟩
    have h1 := set_in hbX 0 (.slice o' n c')
    have h2 := set_in h1 1 (.int .i64 ((min f.s n : Nat) : Int))
    have hkp : Kx (fun g => g = f.p) X ((X.setCell ⟨f.p, 0, none⟩ (.slice o' n c')).setCell ⟨f.p, 1, none⟩ (.int .i64 ((min f.s n : Nat) : Int))) := (Kx.set (P := fun g => g = f.p) (g := f.p) rfl _).trans (Kx.set (P := fun g => g = f.p) (g := f.p) rfl _)
    have hk : Kx (OF f) w ((X.setCell ⟨f.p, 0, none⟩ (.slice o' n c')).setCell ⟨f.p, 1, none⟩ (.int .i64 ((min f.s n : Nat) : Int))) := (Kx.below hb).trans (hkp.wide fun g e => .inl e)
    have hro : ∀ g, (Value.slice o' n c').ownBlock = some g → w.heap.size ≤ g := fun g e => (own_lt hr g e).1
    have hok' : FxOk m ((X.setCell ⟨f.p, 0, none⟩ (.slice o' n c')).setCell ⟨f.p, 1, none⟩ (.int .i64 ((min f.s n : Nat) : Int))) f' := by
      rw [hfe]
      refine ⟨h2, hok.mp, ?_, Nat.min_le_right _ _, hok.nl⟩
      have := own_kx hr hkp fun g e e2 => by have := hro g e; omega
      obtain ⟨k1, k2 | ⟨g, cap, cur, k2, k3, k4⟩⟩ := this
      · exact ⟨k1, .inl k2⟩
      · exact ⟨k1, .inr ⟨g, cap, cur, k2, Nat.le_trans hmw k3, k4⟩⟩
    obtain ⟨a1, a2⟩ := h.turn hf (f' := f') (by rw [hfe]) (by rw [hfe]) hk hok' (fun g e => .inr (hro g (by rw [hfe] at e; exact e))) (Nat.le_refl T) (by rw [hfe]; exact Nat.le_trans hn hbd)
    exact ⟨f', by rw [hfe], by rw [hfe], by rw [hfe], by rw [hfe], by rw [hfe], a1, a2, by rw [hfe]; exact h2⟩
  clear h hok hsl
  obtain ⟨fn, fp, fo, fk, fc, fb, fs0⟩ := f
  dsimp only at *
  clear hf
  rcases Nat.le_total fs0 n with hle | hle
  · rw [Nat.min_eq_left hle] at HF
    have hmin : min (fs0 : Int) (n : Int) = (fs0 : Int) := by omega
    go_enter Tryz.func35, Tryz.ntmps35
    go_wp2_with (first
      | (refine wpList_slice_hiB rfl (.tmp 8) (.tmp 9) rfl rfl rfl (HS.out _) ?_)
      | (go_at_call 33; refine HC.out.mono ?_; rintro e X ⟨o', c', rfl, k1, k2⟩; obtain ⟨hbX, hR⟩ := HF.out X o' c' k1 k2; have HR := hid (And.intro True.intro hR); obtain ⟨⟨x0, x1⟩, y0, y1⟩ := two_cells hbX; have xlt := node_lt hbX; clear k1 k2 hR hbX))
    obtain ⟨f', hR⟩ := HR.out.2
    have e1 : min fs0 n = fs0 := Nat.min_eq_left hle
    exact bodyPost_end (v := .tuple #[]) (by simp [results, Tryz.results35, go_sem]) rfl ⟨rfl, f', by rw [e1]; exact hR⟩
  · rw [Nat.min_eq_right hle] at HF
    have hmin : min (fs0 : Int) (n : Int) = (n : Int) := by omega
    go_enter Tryz.func35, Tryz.ntmps35
    go_wp2_with (first
      | (refine wpList_slice_hiB rfl (.tmp 8) (.tmp 9) rfl rfl rfl (HS.out _) ?_)
      | (go_at_call 33; refine HC.out.mono ?_; rintro e X ⟨o', c', rfl, k1, k2⟩; obtain ⟨hbX, hR⟩ := HF.out X o' c' k1 k2; have HR := hid (And.intro True.intro hR); obtain ⟨⟨x0, x1⟩, y0, y1⟩ := two_cells hbX; have xlt := node_lt hbX; clear k1 k2 hR hbX))
    obtain ⟨f', hR⟩ := HR.out.2
    have e1 : min fs0 n = n := Nat.min_eq_right hle
    exact bodyPost_end (v := .tuple #[]) (by simp [results, Tryz.results35, go_sem]) rfl ⟨rfl, f', by rw [e1]; exact hR⟩
end
end Go.Proofs.YtmddcdaodlnnhaaGreatDoor
