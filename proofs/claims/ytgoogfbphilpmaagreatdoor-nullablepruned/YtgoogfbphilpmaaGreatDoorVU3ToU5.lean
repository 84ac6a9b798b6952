/-
  What nullable's answers.of answers at an expression without parts. Conditions: those that each theorem names.
  The map of nullable's answers: names, and what their rules may come to; answers.of at a Ref. Conditions: those that each theorem names.
  A region that draws its order and stores at its end what it has read: a condition that holds behind each operation but the last. Conditions: those that each theorem names.
  What nullable's answers.of answers at a Set, a Ref; answers.ofSeq and answers.ofAlt. Conditions: those that each theorem names.
-/
import Derived.Test.YtgoogfbphilpmaaGreatDoorVU2
import Derived.Test.YtgoogfbphilpmaaGreatDoorVS1ToO4
import Derived.Deep.RegionHeld3
import Derived.ProofKit
namespace Go.Proofs.YtgoogfbphilpmaaGreatDoor
open Go.RowKit Go.Shelf
set_option linter.unusedVariables false
set_option maxRecDepth 100000 in
set_option maxHeartbeats 4000000 in
theorem uof_1 (m : Option Nat) (T : ByteArray) (a b c d : Int) (so : Option Addr) (n cap : Nat) (p : Int) (w : World) : Calls Tryz.prog 27 #[.map m, .agg #[.int .i64 1, .string T, .int .u64 a, .int .u64 b, .int .u64 c, .int .u64 d, .slice so n cap, .int .i64 p]] w fun e w' => e = .returned (ov (true, false, false)) ∧ Hid (Below w.heap.size w w') := by
  have HB : Hid (∀ o1 o2 : Obj, Below w.heap.size w ((w.alloc o1).alloc o2)) := fun o1 o2 => ((Below.refl _ w).alloc (Nat.le_refl _) o1).alloc (by simp) o2
  go_enter Tryz.func27, Tryz.ntmps27
  go_wp2_with fail
  refine bodyPost_ret (v := .agg #[.bool true, .bool false, .bool false]) (by simp [results, Tryz.results27, go_sem]) rfl ?_
  exact ⟨rfl, hid (HB.out _ _)⟩
set_option maxRecDepth 100000 in
set_option maxHeartbeats 4000000 in
theorem uof_4 (m : Option Nat) (T : ByteArray) (a b c d : Int) (so : Option Addr) (n cap : Nat) (p : Int) (w : World) : Calls Tryz.prog 27 #[.map m, .agg #[.int .i64 4, .string T, .int .u64 a, .int .u64 b, .int .u64 c, .int .u64 d, .slice so n cap, .int .i64 p]] w fun e w' => e = .returned (ov (false, true, true)) ∧ Hid (Below w.heap.size w w') := by
  have HB : Hid (∀ o1 o2 : Obj, Below w.heap.size w ((w.alloc o1).alloc o2)) := fun o1 o2 => ((Below.refl _ w).alloc (Nat.le_refl _) o1).alloc (by simp) o2
  go_enter Tryz.func27, Tryz.ntmps27
  go_wp2_with fail
  refine bodyPost_ret (v := .agg #[.bool false, .bool true, .bool true]) (by simp [results, Tryz.results27, go_sem]) rfl ?_
  exact ⟨rfl, hid (HB.out _ _)⟩
set_option maxRecDepth 100000 in
set_option maxHeartbeats 4000000 in
theorem uof_2e (m : Option Nat) (T : ByteArray) (a b c d : Int) (so : Option Addr) (n cap : Nat) (p : Int) (w : World) (hT : T = { data := #[] }) : Calls Tryz.prog 27 #[.map m, .agg #[.int .i64 2, .string T, .int .u64 a, .int .u64 b, .int .u64 c, .int .u64 d, .slice so n cap, .int .i64 p]] w fun e w' => e = .returned (ov (true, false, false)) ∧ Hid (Below w.heap.size w w') := by
  subst hT
  have HB : Hid (∀ o1 o2 : Obj, Below w.heap.size w ((w.alloc o1).alloc o2)) := fun o1 o2 => ((Below.refl _ w).alloc (Nat.le_refl _) o1).alloc (by simp) o2
  go_enter Tryz.func27, Tryz.ntmps27
  go_wp2_with fail
  refine bodyPost_ret (v := .agg #[.bool true, .bool false, .bool false]) (by simp [results, Tryz.results27, go_sem]) rfl ?_
  exact ⟨rfl, hid (HB.out _ _)⟩
set_option maxRecDepth 100000 in
set_option maxHeartbeats 4000000 in
theorem uof_2n (m : Option Nat) (T : ByteArray) (a b c d : Int) (so : Option Addr) (n cap : Nat) (p : Int) (w : World) (hT : T.toList.isEmpty = false) : Calls Tryz.prog 27 #[.map m, .agg #[.int .i64 2, .string T, .int .u64 a, .int .u64 b, .int .u64 c, .int .u64 d, .slice so n cap, .int .i64 p]] w fun e w' => e = .returned (ov (false, true, true)) ∧ Hid (Below w.heap.size w w') := by
  have HB : Hid (∀ o1 o2 : Obj, Below w.heap.size w ((w.alloc o1).alloc o2)) := fun o1 o2 => ((Below.refl _ w).alloc (Nat.le_refl _) o1).alloc (by simp) o2
  go_enter Tryz.func27, Tryz.ntmps27
  go_wp2_with fail
  refine bodyPost_ret (v := .agg #[.bool false, .bool true, .bool true]) (by simp [results, Tryz.results27, go_sem]) rfl ?_
  exact ⟨rfl, hid (HB.out _ _)⟩
end Go.Proofs.YtgoogfbphilpmaaGreatDoor
namespace Go.Proofs.YtgoogfbphilpmaaGreatDoor
open Go.RowKit Go.Shelf Go.Maps
set_option linter.unusedVariables false
/-- An answer, as the map's element reads. -/
def dO (x : Ot) : DataW Unit := .agg [.lit (.bool x.1), .lit (.bool x.2.1), .lit (.bool x.2.2)]
def oEl (v : Value) : Option (DataW Unit × List MemPlace) := match v with
  | .agg cs => match cs.toList with
    | [.bool a, .bool b, .bool c] => some (dO (a, b, c), [])
    | _ => none
  | _ => none
theorem dO_inj {x y : Ot} (h : dO x = dO y) : x = y := by
  obtain ⟨a, b, c⟩ := x
  obtain ⟨d, e, f⟩ := y
  simp only [dO, DataW.agg.injEq, List.cons.injEq, DataW.lit.injEq, Lit.bool.injEq, and_true] at h
  obtain ⟨rfl, rfl, rfl⟩ := h
  rfl
theorem oEl_mk (x : Ot) : oEl (ov x) = some (dO x, []) := rfl
theorem oEl_inv {v : Value} {x : Ot} {ps : List MemPlace} (h : oEl v = some (dO x, ps)) : v = ov x := by
  unfold oEl at h
  split at h
  · rename_i cs
    split at h
    · rename_i a b c hc
      have e := dO_inj (Prod.mk.inj (Option.some.inj h)).1
      subst e
      obtain ⟨l⟩ := cs
      simp only at hc
      subst hc
      rfl
    · cases h
  · cases h
theorem ozero (w : World) : (zeroValue 39).run Tryz.prog w = .ok (ov (false, false, false)) w := by kernel_rfl
theorem oans : Tryz.prog.underlying 62 = some (.map 9 39) := by kernel_rfl
/-- Block B is a map of names to what is known of their rules. -/
def Nm (W : World) (B : Nat) (n : Nat) (K : ByteArray → Ot) : Prop := ∃ D : DataW Unit, W.ownsMap Tryz.prog 9 oEl B n D ∧ ∀ s, D.atKey (kls s) (dO (false, false, false)) = dO (K s)
theorem Nm.made (w : World) : Nm (w.alloc (.map #[] 0)) w.heap.size 0 z0O := ⟨.map [], World.ownsMap_made w _ _ _, fun s => rfl⟩
theorem Nm.kept {W W' : World} {B n : Nat} {K : ByteArray → Ot} {row : Option Nat} (h : Nm W B n K) (hg : W.grownBy W' row) (hne : some B ≠ row) : Nm W' B n K := by
  obtain ⟨D, h1, h2⟩ := h
  exact ⟨D, h1.kept hg hne, h2⟩
theorem Nm.below {W W' : World} {B n base : Nat} {K : ByteArray → Ot} (h : Nm W B n K) (hb : Below base W W') (hB : B < base) : Nm W' B n K := by
  obtain ⟨D, ⟨es, ck, h1, h2, h3, h4⟩, h5⟩ := h
  exact ⟨D, ⟨es, ck, (hb.block B hB).trans h1, h2, h3, h4⟩, h5⟩
/-- A look-up. -/
theorem Nm.look {W : World} {B n : Nat} {K : ByteArray → Ot} (h : Nm W B n K) {s : ByteArray} (hs : s.size ≤ maxLen) : (Instr.lookup 62 (.map (some B)) (.string s) false).run Tryz.prog W = .ok (ov (K s)) W := by
  obtain ⟨D, h1, h2⟩ := h
  obtain ⟨v, ps, h3, h4⟩ := h1.lookup klaw oans (ozero W) (oEl_mk (false, false, false)) (kls_key hs)
  rw [h2 s] at h4
  rw [h3, oEl_inv h4]
/-- A store. -/
theorem Nm.put {W : World} {B n : Nat} {K : ByteArray → Ot} (h : Nm W B n K) {s : ByteArray} (hs : s.size ≤ maxLen) (x : Ot) (hn : n < maxLen) : ∃ W', (Instr.mapUpdate 62 (.map (some B)) (.string s) (ov x)).run Tryz.prog W = .ok () W' ∧ Nm W' B (n + 1) (updO K s x) ∧ W.grownBy W' (some B) := by
  obtain ⟨D, h1, h2⟩ := h
  obtain ⟨W', h3, h4, h5⟩ := h1.update klaw oans hn (kls_key hs) (oEl_mk x)
  refine ⟨W', h3, ⟨_, h4, fun t => ?_⟩, h5⟩
  unfold updO
  by_cases e : t = s
  · subst e
    rw [if_pos rfl, Maps.atKey_put_same h1.isMap (kls_lit _)]
  · rw [if_neg e, Maps.atKey_put_other (fun h => e (kls_inj h)), h2 t]
end Go.Proofs.YtgoogfbphilpmaaGreatDoor
namespace Go.Proofs.YtgoogfbphilpmaaGreatDoor
open Go.RowKit
set_option linter.unusedVariables false
section
variable {P : Program} {md : Region.Mode} {ops : Array Oper} {Q : Exit → Act → World → Prop} {S : World → Prop} {z : Nat}
/-- Whatever order is picked, S holds behind each operation but number z. -/
def anyL (P : Program) (md : Region.Mode) (ops : Array Oper) (Q : Exit → Act → World → Prop) (S : World → Prop) (z : Nat) : Nat → Array Bool → Act → World → Prop
  | 0, l, a, w => Region.ready md ops l = [] ∧ Q .normal a w
  | n + 1, l, a, w => (Region.ready md ops l = [] → Q .normal a w) ∧ ∀ i ∈ Region.ready md ops l, wpOp P ops Q i (fun a' w' => (i ≠ z → S w') ∧ anyL P md ops Q S z n (l.setIfInBounds i true) a' w') a w
theorem anyL_any : ∀ (n : Nat) (l : Array Bool) (a : Act) (w : World), anyL P md ops Q S z n l a w → wpAny P md ops Q n l a w
  | 0, _, _, _, h => h
  | n + 1, _, _, _, h => ⟨h.1, fun i hi => wpOp_mono (fun a' w' k => anyL_any n _ a' w' k.2) (h.2 i hi)⟩
/-- Number z waits for number i. -/
def lastW (md : Region.Mode) (ops : Array Oper) (z i : Nat) : Bool := match ops[z]? with
  | some o => o.after.any fun e => Region.binds md e && e.on == i
  | none => true
theorem lastW_not {i : Nat} {l : Array Bool} (h : lastW md ops z i = true) (hr : i ∈ Region.ready md ops l) : z ∉ Region.ready md ops l := fun hz => by
  obtain ⟨_, oz, hoz, hall⟩ := mem_ready.1 hz
  unfold lastW at h
  rw [hoz] at h
  simp only [Array.any_eq_true'] at h
  obtain ⟨e, he, hb⟩ := h
  rw [Bool.and_eq_true, beq_iff_eq] at hb
  have h1 := hall e he hb.1
  have h0 := (mem_ready.1 hr).1
  rw [hb.2] at h1
  rcases Nat.lt_or_ge i l.size with h' | h'
  · simp [h'] at h0 h1; rw [h0] at h1; cases h1
  · simp [Array.getElem?_eq_none h'] at h1
theorem anyL_first {i : Nat} {oi : Oper} {v : Value} (hi : ops[i]? = some oi) (hsel : ∀ (j : Nat) (o : Oper) cs b, ops[j]? = some o → o.op ≠ .select cs b) (hz : lastW md ops z i = true)
    (hQ : ∀ c a w, Q (.panic c) (a.put oi.dst v) w → Q (.panic c) a w) :
    ∀ (n : Nat) (l : Array Bool) (a : Act) (w : World),
      (∀ j oj, ops[j]? = some oj → j ≠ i → l.getD j true = false → (∀ e ∈ oj.after, Region.binds md e = true → e.on ≠ i) → oi.apart ops oj = true) →
      i ∈ Region.ready md ops l → YieldsIf P ops S oi v a → S w →
      anyL P md ops Q S z n (l.setIfInBounds i true) (a.put oi.dst v) w → anyL P md ops Q S z (n + 1) l a w := by
  intro n
  induction n with
  | zero =>
    intro l a w _ hr hy hS H
    refine ⟨fun h => (by rw [h] at hr; cases hr), fun j hj => ?_⟩
    by_cases hji : j = i
    · subst hji; exact hy.wpOp hi hS ⟨fun _ => hS, H⟩
    · have := ready_mono hj hji
      rw [H.1] at this
      cases this
  | succ n ih =>
    intro l a w hfree hr hy hS H
    refine ⟨fun h => (by rw [h] at hr; cases hr), fun j hj => ?_⟩
    by_cases hji : j = i
    · subst hji; exact hy.wpOp hi hS ⟨fun _ => hS, H⟩
    · have h1 := H.2 j (ready_mono hj hji)
      have hjz : j ≠ z := fun e => lastW_not hz hr (e ▸ hj)
      obtain ⟨hjun, oj, hoj, hall⟩ := mem_ready.1 hj
      have hnot : ∀ e ∈ oj.after, Region.binds md e = true → e.on ≠ i := fun e he hb heq => by
        have h1 := hall e he hb
        have h0 := (mem_ready.1 hr).1
        rw [heq] at h1
        rcases Nat.lt_or_ge i l.size with h' | h'
        · simp [h'] at h0 h1; rw [h0] at h1; cases h1
        · simp [Array.getElem?_eq_none h'] at h1
      have h2 := wpOp_putIf hoj (hfree j oj hoj hji hjun hnot) (fun cs b => hsel i oi cs b hi) (fun cs b => hsel j oj cs b hoj) hQ hy h1
      have hfree' : ∀ k ok, ops[k]? = some ok → k ≠ i → (l.setIfInBounds j true).getD k true = false →
          (∀ e ∈ ok.after, Region.binds md e = true → e.on ≠ i) → oi.apart ops ok = true := fun k ok hk hki hun hno => by
        refine hfree k ok hk hki ?_ hno
        by_cases hjk : j = k
        · subst hjk; exact hjun
        · rw [getD_set_ne true hjk] at hun; exact hun
      refine wpOp_mono (fun a' w' h3 => ⟨fun _ => h3.2.1 hjz, ih (l.setIfInBounds j true) a' w' hfree' (ready_mono hr (Ne.symm hji)) h3.1 (h3.2.1 hjz) ?_⟩) h2
      rw [Array.setIfInBounds_comm _ _ hji]
      exact h3.2.2
theorem anyL_take {i : Nat} {oi : Oper} {v : Value} {n : Nat} {l : Array Bool} {a : Act} {w : World} (hi : ops[i]? = some oi)
    (hs : Region.noSelect ops = true) (hf : (Region.free md ops l i && lastW md ops z i) = true) (hr : (Region.ready md ops l).contains i = true)
    (hQ : ∀ c a w, Q (.panic c) (a.put oi.dst v) w → Q (.panic c) a w) (hy : YieldsIf P ops S oi v a) (hS : S w)
    (h : anyL P md ops Q S z n (l.setIfInBounds i true) (a.put oi.dst v) w) : anyL P md ops Q S z (n + 1) l a w := by
  rw [Bool.and_eq_true] at hf
  exact anyL_first hi (Region.noSelect_spec hs) hf.2 hQ n l a w (Region.free_spec hi hf.1) (by simpa using hr) hy hS h
/-- The one that may come up now. -/
theorem anyL_one {i : Nat} {o : Oper} {n : Nat} {l : Array Bool} {a : Act} {w : World} (hr : Region.ready md ops l = [i]) (ho : ops[i]? = some o)
    (h : ∀ K' : Act → World → Prop, Shut (∀ a w, S w → anyL P md ops Q S z n (l.setIfInBounds i true) a w → K' a w) → if Region.wanted o (yielded ops a.tmps) = true then Oper.wp P o a w K' Q else K' (a.put o.dst undef) w) : anyL P md ops Q S z (n + 1) l a w := by
  refine ⟨(fun h0 => by rw [hr] at h0; cases h0), fun j hj => ?_⟩
  rw [hr, List.mem_singleton] at hj
  subst hj
  exact wpOp_step ho fun K' hK => h K' fun a w hS hW => hK a w ⟨fun _ => hS, hW⟩
/-- The last one. -/
theorem anyL_last {o : Oper} {n : Nat} {l : Array Bool} {a : Act} {w : World} (hr : Region.ready md ops l = [z]) (hl : Region.ready md ops (l.setIfInBounds z true) = []) (ho : ops[z]? = some o)
    (h : ∀ K' : Act → World → Prop, Shut (∀ a w, Q .normal a w → K' a w) → if Region.wanted o (yielded ops a.tmps) = true then Oper.wp P o a w K' Q else K' (a.put o.dst undef) w) : anyL P md ops Q S z (n + 1) l a w := by
  refine ⟨(fun h0 => by rw [hr] at h0; cases h0), fun j hj => ?_⟩
  rw [hr, List.mem_singleton] at hj
  subst hj
  refine wpOp_step ho fun K' hK => h K' fun a w hW => hK a w ⟨fun hne => absurd rfl hne, ?_⟩
  cases n with
  | zero => exact ⟨hl, hW⟩
  | succ n => exact ⟨fun _ => hW, fun i hi => by rw [hl] at hi; cases hi⟩
theorem region_L {id : Nat} {a : Act} {w : World} (z : Nat) (S : World → Prop) (hm : P.follows .mixedOrders = true) (hS : S w.drew)
    (h : S w.drew → anyL P .any ops Q S z ops.size (Array.replicate ops.size false) a w.drew) : (Code.region id ops true).wp P Q a w :=
  wp_region_any hm (anyL_any _ _ _ _ (h hS))
end
end Go.Proofs.YtgoogfbphilpmaaGreatDoor
namespace Go.Proofs.YtgoogfbphilpmaaGreatDoor
open Go.RowKit Go.Shelf Go.Maps
set_option linter.unusedVariables false
theorem Nm.lt {W : World} {B n : Nat} {K : ByteArray → Ot} (h : Nm W B n K) : B < W.heap.size := by
  obtain ⟨D, h1, _⟩ := h
  exact h1.lt
theorem ofS_snoc (K : ByteArray → Ot) (t : RT) : ∀ (l : List RT) (x : Ot), ofS K x (l ++ [t]) = seqO (ofS K x l) (ofT K t)
  | [], x => by rw [List.nil_append, ofS, ofS, ofS]
  | a :: r, x => by rw [List.cons_append, ofS, ofS, ofS_snoc K t r]
theorem ofA_snoc (K : ByteArray → Ot) (t : RT) : ∀ (l : List RT) (x : Ot), ofA K x (l ++ [t]) = altO (ofA K x l) (ofT K t)
  | [], x => by rw [List.nil_append, ofA, ofA, ofA]
  | a :: r, x => by rw [List.cons_append, ofA, ofA, ofA_snoc K t r]
theorem ofS_next (K : ByteArray → Ot) (x : Ot) (s : List RT) (j : Nat) (hj : j < s.length) : ofS K x (s.take (j + 1)) = seqO (ofS K x (s.take j)) (ofT K s[j]) := by
  rw [show s.take (j + 1) = s.take j ++ [s[j]] by simp, ofS_snoc]
theorem ofA_next (K : ByteArray → Ot) (x : Ot) (s : List RT) (j : Nat) (hj : j < s.length) : ofA K x (s.take (j + 1)) = altO (ofA K x (s.take j)) (ofT K s[j]) := by
  rw [show s.take (j + 1) = s.take j ++ [s[j]] by simp, ofA_snoc]
theorem three_put {W : World} {R : Nat} {a b c v0 v1 v2 : Value} {t : TypeId} (h : W.heap[R]? = some (.cells #[a, b, c] t)) : (((W.setCell ⟨R, 0, none⟩ v0).setCell ⟨R, 1, none⟩ v1).setCell ⟨R, 2, none⟩ v2).heap[R]? = some (.cells #[v0, v1, v2] t) := set_in (set_in (set_in h 0 _) 1 _) 2 _
theorem keep_seq {w w4 W W' : World} {x1 x2 x3 y1 y2 y3 : Bool} (h : Hid (Below w.heap.size w W) ∧ Hid (W.heap[w.heap.size]? = some (.cells #[.bool false, .bool false, .bool false] 39)) ∧ Hid (W.heap[w.heap.size + 1]? = some (.cells #[.bool x1, .bool x2, .bool x3] 39)) ∧ W.cell? ⟨w.heap.size + 1, 0, none⟩ = some (.bool x1) ∧ W.cell? ⟨w.heap.size + 1, 1, none⟩ = some (.bool x2) ∧ W.cell? ⟨w.heap.size + 1, 2, none⟩ = some (.bool x3) ∧ W.cell? ⟨w4.heap.size, 0, none⟩ = some (.bool y1) ∧ W.cell? ⟨w4.heap.size, 1, none⟩ = some (.bool y2) ∧ W.cell? ⟨w4.heap.size, 2, none⟩ = some (.bool y3)) (hb : Below W.heap.size W W') : Hid (Below w.heap.size w W') ∧ Hid (W'.heap[w.heap.size]? = some (.cells #[.bool false, .bool false, .bool false] 39)) ∧ Hid (W'.heap[w.heap.size + 1]? = some (.cells #[.bool x1, .bool x2, .bool x3] 39)) ∧ W'.cell? ⟨w.heap.size + 1, 0, none⟩ = some (.bool x1) ∧ W'.cell? ⟨w.heap.size + 1, 1, none⟩ = some (.bool x2) ∧ W'.cell? ⟨w.heap.size + 1, 2, none⟩ = some (.bool x3) ∧ W'.cell? ⟨w4.heap.size, 0, none⟩ = some (.bool y1) ∧ W'.cell? ⟨w4.heap.size, 1, none⟩ = some (.bool y2) ∧ W'.cell? ⟨w4.heap.size, 2, none⟩ = some (.bool y3) := by
  obtain ⟨h1, h2, h3, z0, z1, z2, z3, z4, z5⟩ := h
  have e : ∀ (a : Addr) (u : Value), W.cell? a = some u → W'.cell? a = some u := fun a u h => (hb.cell (p := a) (World.block_lt_of_cell? W _ h)).trans h
  exact ⟨hid (h1.out.trans (hb.mono h1.out.size)), hid ((hb.block _ (node_lt h2.out)).trans h2.out), hid ((hb.block _ (node_lt h3.out)).trans h3.out), e _ _ z0, e _ _ z1, e _ _ z2, e _ _ z3, e _ _ z4, e _ _ z5⟩
theorem drew3 (W : World) (a b c : Addr) (x y z : Value) : (((W.setCell a x).setCell b y).setCell c z).drew = ((W.drew.setCell a x).setCell b y).setCell c z := rfl
theorem seqO_q {x1 x2 x3 y1 y2 y3 q : Bool} (h : q = suc (y1, y2, y3)) : seqO (x1, x2, x3) (y1, y2, y3) = (x1 && y1, x2 && q || x1 && y2, x3 || (x1 || x2) && y3) := by rw [h]; rfl
set_option maxRecDepth 100000 in
set_option maxHeartbeats 4000000 in
theorem uof_5 (B nn : Nat) (K : ByteArray → Ot) (T : ByteArray) (a b c d : Int) (so : Option Addr) (n cap : Nat) (p : Int) (w : World) (hM : Nm w B nn K) (hT : T.size ≤ maxLen) : Calls Tryz.prog 27 #[.map (some B), .agg #[.int .i64 5, .string T, .int .u64 a, .int .u64 b, .int .u64 c, .int .u64 d, .slice so n cap, .int .i64 p]] w fun e w' => e = .returned (ov (K T)) ∧ Hid (Below w.heap.size w w') := by
  have HB : Hid (∀ o1 o2 : Obj, Below w.heap.size w ((w.alloc o1).alloc o2)) := fun o1 o2 => ((Below.refl _ w).alloc (Nat.le_refl _) o1).alloc (by simp) o2
  have hL := ((hM.kept (World.grownBy_alloc w (.cells #[.int .i64 5, .string T, .int .u64 a, .int .u64 b, .int .u64 c, .int .u64 d, .slice so n cap, .int .i64 p] 30) none) (by simp)).kept (World.grownBy_alloc _ (.cells #[.bool false, .bool false, .bool false] 39) none) (by simp)).look hT
  obtain ⟨⟨x1, x2, x3⟩, hx⟩ : ∃ x, x = K T := ⟨_, rfl⟩
  rw [← hx] at hL ⊢
  dsimp only [ov] at hL
  clear hx hM
  go_enter Tryz.func27, Tryz.ntmps27
  go_wp2_with fail
  refine bodyPost_ret (v := .agg #[.bool x1, .bool x2, .bool x3]) (by simp [results, Tryz.results27, go_sem]) rfl ?_
  exact ⟨rfl, hid (HB.out _ _)⟩
set_option maxRecDepth 100000 in
set_option maxHeartbeats 4000000 in
theorem uof_3 (m : Option Nat) (T : ByteArray) (a b c d : Int) (so : Option Addr) (n cap : Nat) (p : Int) (w : World) : Calls Tryz.prog 27 #[.map m, .agg #[.int .i64 3, .string T, .int .u64 a, .int .u64 b, .int .u64 c, .int .u64 d, .slice so n cap, .int .i64 p]] w fun e w' => e = .returned (ov (if zc a b c d then (false, false, true) else (false, true, true))) ∧ Hid (Below w.heap.size w w') := by
  have HB : Hid (∀ o1 o2 : Obj, Below w.heap.size w ((w.alloc o1).alloc o2)) := fun o1 o2 => ((Below.refl _ w).alloc (Nat.le_refl _) o1).alloc (by simp) o2
  have e3 : ∀ w : World, (Op.equalIn 10000 27 (.agg #[.int .u64 a, .int .u64 b, .int .u64 c, .int .u64 d]) (.agg #[.int .u64 0, .int .u64 0, .int .u64 0, .int .u64 0])).run Tryz.prog w = .ok (zc a b c d) w := fun w => eq_words 9998 w a b c d 0 0 0 0
  cases hz : zc a b c d with
  | true =>
    rw [hz] at e3
    clear hz
    go_enter Tryz.func27, Tryz.ntmps27
    go_wp2_with fail
    refine bodyPost_ret (v := .agg #[.bool false, .bool false, .bool true]) (by simp [results, Tryz.results27, go_sem]) rfl ?_
    exact ⟨rfl, hid (HB.out _ _)⟩
  | false =>
    rw [hz] at e3
    clear hz
    go_enter Tryz.func27, Tryz.ntmps27
    go_wp2_with fail
    refine bodyPost_ret (v := .agg #[.bool false, .bool true, .bool true]) (by simp [results, Tryz.results27, go_sem]) rfl ?_
    exact ⟨rfl, hid (HB.out _ _)⟩
end Go.Proofs.YtgoogfbphilpmaaGreatDoor
