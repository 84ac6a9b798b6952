/-
  act of package disk, of any that is done. Conditions: those that each theorem names.
  A file stored in its place; what the files are, plainly. Conditions: those that each theorem names.
-/
import Derived.Test.YtmddcdaodlnnhaaGreatDoorVDKPToDKG
namespace Go.Proofs.YtmddcdaodlnnhaaGreatDoor
open Go.RowKit Go.Maps
set_option linter.unusedVariables false
/-- What is done, as a contract. -/
def ClO (m T T' d B : Nat) (fs : List Fx) (off : Bool) (pa : Int) (Fn : Nat) (cp : Array Value) (w0 : World) (N : Nat) (R : Nat → List Fx → Prop) : Prop :=
  ∀ (W : World) (arm : Bool) (ah : Int) (n : Nat), n ≤ N → Kx (fun g => g = d) w0 W → Dk m T W d B fs off arm ah pa →
    Calls Tryz.prog Fn (#[.int .i64 (n : Int)] ++ cp) W fun e W' => e = .returned (.tuple #[]) ∧ ∃ fs', R n fs' ∧ Dk m T' W' d B fs' off arm ah pa ∧ Stp (OD d B fs) W (OD d B fs') W'
def actC (arm : Bool) (ah : Int) : Bool := arm && decide (ah = 0)
def actN (arm : Bool) (ah pa : Int) (N : Nat) : Nat := if actC arm ah then (pa % ((N : Int) + 1)).toNat else N
section
variable {m T T' : Nat} {w w' : World} {d B : Nat} {fs : List Fx} {off arm : Bool} {ah pa : Int}
set_option maxRecDepth 100000 in
set_option maxHeartbeats 2000000 in
theorem act_ok (h : Dk m T w d B fs off arm ah pa) (N : Nat) (hN : N ≤ 140737488355328) (hpa : inI pa) (hah : inI ah) (harm : arm = true → 0 ≤ ah) {Fn : Nat} {cp : Array Value} (hen : ∀ xs w, (callFunc Fn xs).run Tryz.prog w = .ok (.enter Fn xs) w) {R : Nat → List Fx → Prop}
    (hC : ClO m T T' d B fs off pa Fn cp w N R) : Calls Tryz.prog 38 #[.pointer (some ⟨d, 0, none⟩), .int .i64 (N : Int), .func (.func Fn) #[] cp] w fun e w' =>
    e = .returned (evV (if actC arm ah then 80 else 0)) ∧ ∃ fs', R (actN arm ah pa N) fs' ∧ Dk m T' w' d B fs' (off || actC arm ah) (arm && !actC arm ah) (if arm && !actC arm ah then ah - 1 else ah) pa ∧ Stp (OD d B fs) w (OD d B fs') w' := by
  have hlt := node_lt h.blk
  obtain ⟨⟨c0, c1, c2, c3, c4⟩, f0, f1, f2, f3, f4⟩ := five_cells h.blk
  unfold inI at hah
  have HD := hid h
  have HC := hid hC
  clear h hC
  cases arm with
  | false =>
    have HR : Hid (Calls Tryz.prog Fn (#[.int .i64 (N : Int)] ++ cp) w fun e W' => e = .returned (.tuple #[]) ∧ ∃ fs', R N fs' ∧ Dk m T' W' d B fs' off false ah pa ∧ Stp (OD d B fs) w (OD d B fs') W') := HC.out w false ah N (Nat.le_refl _) (Kx.refl _ _) HD.out
    clear HC HD
    go_enter Tryz.func38, Tryz.ntmps38
    go_wp2_with fail
    refine HR.out.mono ?_
    rintro e X ⟨rfl, hX⟩
    have HX := hid hX
    clear hX HR
    go_wp2_with fail
    go_ret
    refine ⟨by simp [evV], ?_⟩
    simpa [actC, actN] using HX.out
  | true =>
    have h0 := harm rfl
    by_cases ha : ah = 0
    · subst ha
      obtain ⟨r, hr⟩ : ∃ r : Nat, r = (pa % ((N : Int) + 1)).toNat := ⟨_, rfl⟩
      have h1 := Int.emod_nonneg pa (show (N : Int) + 1 ≠ 0 by omega)
      have h2 := Int.emod_lt_of_pos pa (show (0 : Int) < (N : Int) + 1 by omega)
      have hrr : pa % ((N : Int) + 1) = (r : Int) := by omega
      have HM := hid (modulo_ok pa ((N : Int) + 1) w hpa (by omega) (by omega))
      rw [hrr] at HM
      have HR : Hid (Calls Tryz.prog Fn (#[.int .i64 (r : Int)] ++ cp) w fun e W' => e = .returned (.tuple #[]) ∧ ∃ fs', R r fs' ∧ Dk m T' W' d B fs' off true 0 pa ∧ Stp (OD d B fs) w (OD d B fs') W') := HC.out w true 0 r (by omega) (Kx.refl _ _) HD.out
      have hw1 : IntKind.i64.wrap ((N : Int) + 1) = (N : Int) + 1 := by rw [IntKind.wrap_i64]; omega
      have HRr := hid hr
      clear HC HD h1 h2 hrr hr harm h0 hpa
      go_enter Tryz.func38, Tryz.ntmps38
      go_wp2_with (first
        | (go_at_call 34; refine HM.out.mono ?_; rintro e w1 ⟨rfl, rfl⟩))
      refine HR.out.mono ?_
      rintro e X ⟨rfl, fs', hX1, hX2, hX3⟩
      have HX := hid (And.intro hX1 (And.intro hX2 hX3))
      obtain ⟨⟨x0, x1, x2, x3, x4⟩, y0, y1, y2, y3, y4⟩ := five_cells hX2.blk
      have xlt := node_lt hX2.blk
      have HF := hid (hX2.flags (off' := true) (arm' := false) (ah' := 0) (pa' := pa) ((Kx.set (P := fun g => g = d) (g := d) rfl _).trans (Kx.set (P := fun g => g = d) (g := d) rfl _)) (set_in (set_in hX2.blk 1 (.bool true)) 2 (.bool false)))
      clear hX1 hX2 hX3 HR HM
      go_wp2_with fail
      go_ret
      refine ⟨by simp [evV], fs', ?_, ?_, HX.out.2.2.trans HF.out.2⟩
      · have e1 : actN true 0 pa N = r := by rw [HRr.out]; simp [actN, actC]
        rw [e1]
        exact HX.out.1
      · simpa [actC] using HF.out.1
    · have a0 : (ah == 0) = false := by simp; omega
      have hw1 : IntKind.i64.wrap (ah - 1) = ah - 1 := by rw [IntKind.wrap_i64]; omega
      obtain ⟨w1, hw⟩ : ∃ w1, w1 = w.setCell ⟨d, 3, none⟩ (.int .i64 (ah - 1)) := ⟨_, rfl⟩
      have hk1 : Kx (fun g => g = d) w w1 := by rw [hw]; exact Kx.set (P := fun g => g = d) (g := d) rfl _
      obtain ⟨hD1, hS1⟩ := HD.out.flags (off' := off) (arm' := true) (ah' := ah - 1) (pa' := pa) hk1 (by rw [hw, set_in HD.out.blk 3 _]; rfl)
      have HR : Hid (Calls Tryz.prog Fn (#[.int .i64 (N : Int)] ++ cp) w1 fun e W' => e = .returned (.tuple #[]) ∧ ∃ fs', R N fs' ∧ Dk m T' W' d B fs' off true (ah - 1) pa ∧ Stp (OD d B fs) w1 (OD d B fs') W') := HC.out w1 true (ah - 1) N (Nat.le_refl _) hk1 hD1
      have HS1 := hid hS1
      have HW := hid hw
      have ha2 : actC true ah = false := by simp [actC, ha]
      have eN : actN true ah pa N = N := by unfold actN; rw [ha2]; rfl
      rw [eN, ha2]
      simp only [Bool.false_eq_true, if_false, Bool.not_false, Bool.and_self, Bool.or_false, if_true]
      clear HC HD hw hk1 hD1 hS1 harm h0 ha ha2 hpa eN
      go_enter Tryz.func38, Tryz.ntmps38
      go_wp2_with fail
      rw [← HW.out]
      refine HR.out.mono ?_
      rintro e X ⟨rfl, fs', hX1, hX2, hX3⟩
      have HX := hid (And.intro hX1 (And.intro hX2 hX3))
      clear hX1 hX2 hX3 HR
      go_wp2_with fail
      go_ret
      exact ⟨by simp [evV], fs', HX.out.1, HX.out.2.1, HS1.out.trans HX.out.2.2⟩
end
end Go.Proofs.YtmddcdaodlnnhaaGreatDoor
namespace Go.Proofs.YtmddcdaodlnnhaaGreatDoor
open Go.RowKit Go.Maps
set_option linter.unusedVariables false
/-- A file, plainly. -/
structure Pf where
  n : Nm
  b : List UInt8
  s : Nat
instance : Nmd Pf := ⟨Pf.n⟩
def pl (f : Fx) : Pf := ⟨f.n, f.b, f.s⟩
theorem nm_pl (f : Fx) : nm (pl f) = nm f := rfl
theorem nm_pf (f : Pf) : nm f = f.n := rfl
section
variable {α : Type} [Nmd α]
/-- Put in its place, or in. -/
def setA (l : List α) (s : α) : List α := if (fnd l (nm s)).isSome then put l s else ins l s
theorem put_id {l : List α} {s : α} (h : ∀ t ∈ l, nm t ≠ nm s) : put l s = l := by
  unfold put
  have : ∀ a ∈ l, (if nm a = nm s then s else a) = id a := fun a ha => if_neg (h a ha)
  rw [List.map_congr_left this, List.map_id]
theorem put_ins {s t : α} (e : nm t = nm s) : ∀ {l : List α}, (∀ a ∈ l, nm a ≠ nm s) → put (ins l s) t = ins l t
  | [], _ => by simp [ins, put, e]
  | a :: r, h => by
    have ha : ¬ nm a = nm t := fun k => h a (by simp) (k.trans e)
    unfold ins
    rw [e]
    by_cases hl : bytesBefore (nm a) (nm s) = true
    · rw [if_pos hl, if_pos hl, ← put_ins e (l := r) (fun b hb => h b (by simp [hb]))]
      show (if nm a = nm t then t else a) :: put (ins r s) t = _
      rw [if_neg ha]
    · rw [if_neg hl, if_neg hl]
      have hp := put_id (l := a :: r) (s := t) fun b hb k => h b hb (k.trans e)
      show (if nm s = nm t then t else s) :: put (a :: r) t = _
      rw [if_pos e.symm, hp]
theorem fnd_setA (l : List α) (s : α) (x : Nm) : fnd (setA l s) x = if x = nm s then some s else fnd l x := by
  unfold setA
  split
  · rename_i h
    obtain ⟨t, ht⟩ := Option.isSome_iff_exists.1 h
    exact fnd_put s x l ⟨t, (fnd_some ht).1, (fnd_some ht).2⟩
  · rename_i h
    exact fnd_ins s x l (fnd_none (by simpa using h))
theorem rise_setA {l : List α} (h : Rise l) (s : α) : Rise (setA l s) := by
  unfold setA
  split
  · exact rise_put h s
  · rename_i h'
    exact rise_ins h (fnd_none (by simpa using h'))
end
theorem map_setA {α β : Type} [Nmd α] [Nmd β] {π : α → β} (hp : ∀ a, nm (π a) = nm a) (s : α) (l : List α) : (setA l s).map π = setA (l.map π) (π s) := by
  unfold setA
  rw [hp, map_fnd hp, Option.isSome_map]
  split
  · exact map_put hp s l
  · exact map_ins hp s l
theorem made_set {fs fs1 : List Fx} {x : Nm} {f f' : Fx} (h : MadeR fs x f fs1) (e : f'.n = f.n) : put fs1 f' = setA fs f' := by
  obtain ⟨h1, h2, ⟨h3, h4⟩ | ⟨h3, h4, _⟩⟩ := h
  · unfold setA
    rw [h4, show nm f' = x from e.trans h2, h3]
    rfl
  · unfold setA
    rw [h4, show nm f' = x from e.trans h2, h3]
    exact put_ins e (fun a ha k => fnd_none h3 a ha (k.trans h2))
theorem put_set {fs : List Fx} {x : Nm} {f f' : Fx} (h : fnd fs x = some f) (e : f'.n = f.n) : put fs f' = setA fs f' := by
  unfold setA
  rw [show nm f' = x from e.trans (fnd_some h).2, h]
  rfl
/-- What a file was, or an empty one. -/
def oldP (P : List Pf) (x : Nm) : Pf := (fnd P x).getD ⟨x, [], 0⟩
theorem oldP_some {fs : List Fx} {x : Nm} {f : Fx} (h : fnd fs x = some f) : oldP (fs.map pl) x = pl f := by
  unfold oldP
  rw [map_fnd nm_pl, h]
  rfl
theorem oldP_none {fs : List Fx} {x : Nm} (h : fnd fs x = none) : oldP (fs.map pl) x = ⟨x, [], 0⟩ := by
  unfold oldP
  rw [map_fnd nm_pl, h]
  rfl
theorem made_old {fs fs1 : List Fx} {x : Nm} {f : Fx} (h : MadeR fs x f fs1) : oldP (fs.map pl) x = ⟨x, f.b, f.s⟩ := by
  obtain ⟨h1, h2, ⟨h3, h4⟩ | ⟨h3, h4, h5, h6, h7⟩⟩ := h
  · rw [oldP_some h3]; unfold pl; rw [h2]
  · rw [oldP_none h3, h5, h6]
section
variable {m T T' : Nat} {w w' X Y : World} {d B : Nat} {fs : List Fx} {off arm : Bool} {ah pa : Int}
theorem Dk.stored (h : Dk m T w d B fs off arm ah pa) {f : Fx} (hf : f ∈ fs) (hk : Kx (fun g => (fsl f).ownBlock = some g) w X) {o' : Option Addr} {k' c' s' : Nat} {b' : List UInt8} (hr : X.ownsRow m 5 1 (.slice o' k' c') k' (b'.map bv))
    (ho : ∀ g, (Value.slice o' k' c').ownBlock = some g → (fsl f).ownBlock = some g ∨ w.heap.size ≤ g) (hs : s' ≤ k') (hT : T ≤ T') (hk' : k' ≤ T') (hY : Y.heap[f.p]? = some (.cells #[.slice o' k' c', .int .i64 (s' : Int)] 71)) (hkY : Kx (fun g => g = f.p) X Y) :
    ∃ f' : Fx, f'.n = f.n ∧ f'.b = b' ∧ f'.s = s' ∧ f'.p = f.p ∧ f'.k = k' ∧ Dk m T' Y d B (put fs f') off arm ah pa ∧ Stp (OD d B fs) w (OD d B (put fs f')) Y := by
  obtain ⟨f', hfe⟩ : ∃ f' : Fx, f' = ⟨f.n, f.p, o', k', c', b', s'⟩ := ⟨_, rfl⟩
  have hok := h.ok f hf
  have hne : ∀ g, (Value.slice o' k' c').ownBlock = some g → g ≠ f.p := fun g e => by
    rcases ho g e with e2 | e2
    · exact hok.ne e2
    · have := node_lt hok.blk
      omega
  have hok' : FxOk m Y f' := by
    rw [hfe]
    exact ⟨hY, hok.mp, own_kx hr hkY fun g e e2 => hne g e e2, hs, hok.nl⟩
  obtain ⟨a1, a2⟩ := h.turn hf (f' := f') (by rw [hfe]) (by rw [hfe]) ((hk.wide fun g e => .inr e).trans (hkY.wide fun g e => .inl e)) hok' (fun g e => ho g (by rw [hfe] at e; exact e)) hT (by rw [hfe]; exact hk')
  exact ⟨f', by rw [hfe], by rw [hfe], by rw [hfe], by rw [hfe], by rw [hfe], a1, a2⟩
end
theorem Has.kxA {W W' : World} {L : Nat → Prop} {o : Option Addr} {n c : Nat} {b : List UInt8} (h : Has W o n c b) (hk : Kx L W W') (hL : ∀ a, o = some a ∧ 0 < n → ¬ L a.block) : Has W' o n c b := by
  obtain ⟨h1, h2, h3, h4, h5⟩ := h
  refine ⟨h1, h2, h3, h4, fun h0 => ?_⟩
  obtain ⟨g, off, ha, hlt, hc⟩ := h5 h0
  exact ⟨g, off, ha, Nat.lt_of_lt_of_le hlt hk.size, fun i hi => (World.cell?_of_block (w := W) (hk.block g hlt (hL _ ⟨ha, h0⟩))).trans (hc i hi)⟩
theorem exec_slice_hiB {w : World} {o : Oper} {ev : Operand → Value} {s x : Operand} (ho : o.op = .slice 29 s none (some x) none) {so : Option Addr} {n cp k : Nat} {v : Value} (hs : ev s = .slice so n cp) (hx : ev x = .int .i64 (k : Int))
    (hr : (Instr.slice 29 (.slice so n cp) none (some (.int .i64 (k : Int))) none).run Tryz.prog w = .ok v w) : (execOp ev o).run Tryz.prog w = .ok (.value v) w := by
  unfold execOp
  simp only [ho, Sem.run_bind, Sem.run_pure, Result.andThen_ok, Option.map_some, Option.map_none, hs, hx, run_sliceAt_slice (h := Tryz.elemB), hr]
theorem step_del_run {w w' : World} {ops : Array Oper} {o : Oper} {a : Act} {K : Act → World → Prop} {Q : Exit → Act → World → Prop} {E : Prop} (hgd : o.guard = none) (s x : Operand) (t k : TypeId)
    (ho : o.op = .call { callee := .builtin .delete, args := #[s, x], argTypes := #[t, k] }) {v u : Value} (hs : a.eval s = v) (hx : a.eval x = u)
    (hr : ∀ ty, (Builtin.delete_ #[t, k] ty #[v, u]).run Tryz.prog w = .ok (.tuple #[]) w') (h : K (a.put o.dst (.tuple #[])) w') : if Region.wanted o (yielded ops a.tmps) = true then Oper.wp Tryz.prog o a w K Q else E := by
  have hw : Region.wanted o (yielded ops a.tmps) = true := by simp [Region.wanted, hgd]
  rw [if_pos hw]
  unfold Oper.wp execOp
  simp only [ho, resolve, invoke, builtin, Sem.run_bind, Sem.run_pure, Result.andThen_ok, List.map_toArray, List.map_cons, List.map_nil, hs, hx, hr]
  exact h
end Go.Proofs.YtmddcdaodlnnhaaGreatDoor
