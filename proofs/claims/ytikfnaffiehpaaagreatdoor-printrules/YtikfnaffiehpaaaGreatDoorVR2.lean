/-
  What printer.yieldPart answers, given what yieldNode does at the part. Conditions: those that each theorem names.
-/
import Derived.Test.YtikfnaffiehpaaaGreatDoorVR1
import Derived.Test.YtikfnaffiehpaaaGreatDoorVQ5
import Derived.RangeFuncNested
import Derived.RangeFuncBound
import Derived.RangeFuncCalls
import Derived.RangeFuncLeaves
import Derived.Shelf.Abstract
import Derived.WalkKit
import Derived.OwnWalkIn
import Derived.TacticsInMore
import Derived.LoopNIn
import Derived.LoopIn
namespace Go.Proofs.YtikfnaffiehpaaaGreatDoor
open Go.RowKit Go.Shelf
set_option linter.unusedVariables false
attribute [local go_sem] Oper.semAt_some
theorem wide_d (k : Nat) : Fence.wide.depth.isSome = true → 1 ≤ k := fun h => by cases h
/-- The eight cells of a node. -/
@[reducible] def v8 (kd : Nat) (T : ByteArray) (C : Nat) (sv : Value) (p : Int) : List Value :=
  [.int .i64 (kd : Int), .string T, .int .u64 (wd C 0 : Nat), .int .u64 (wd C 1 : Nat), .int .u64 (wd C 2 : Nat), .int .u64 (wd C 3 : Nat), sv, .int .i64 p]
mutual
/-- These eight cells are that tree but for places; what is within lies below s0. -/
def NdV (s0 : Nat) (w : World) : Nd → List Value → Prop
  | .mk kd T C s _, cs => ∃ so cap p, cs = v8 kd T C (.slice so (ndLen s) cap) p ∧ (s.isEmpty = true ∨ (s.isEmpty = false ∧ ∃ g o, so = some ⟨g, o, none⟩ ∧ g < s0 ∧ ndLen s ≤ maxLen ∧ NdsV s0 w g o s))
/-- The cells from there on begin with those trees. -/
def NdsV (s0 : Nat) (w : World) (g : Nat) : Nat → List Nd → Prop
  | _, [] => True
  | o, n :: r => (∃ cs, NdV s0 w n cs ∧ ∀ j u, cs[j]? = some u → w.cell? ⟨g, o + j, none⟩ = some u) ∧ NdsV s0 w g (o + 8) r
end
mutual
theorem NdV.kept {w w' : World} {s0 : Nat} (h : ∀ g o u, g < s0 → w.cell? ⟨g, o, none⟩ = some u → w'.cell? ⟨g, o, none⟩ = some u) : ∀ (t : Nd) (cs : List Value), NdV s0 w t cs → NdV s0 w' t cs
  | .mk kd T C s p, cs, ht => by
    rw [NdV] at ht ⊢
    obtain ⟨so, cap, p, rfl, ht⟩ := ht
    refine ⟨so, cap, p, rfl, ?_⟩
    rcases ht with h1 | ⟨h1, g, o, h2, h3, h4, h5⟩
    · exact .inl h1
    · exact .inr ⟨h1, g, o, h2, h3, h4, NdsV.kept h h3 s o h5⟩
theorem NdsV.kept {w w' : World} {s0 g : Nat} (h : ∀ g o u, g < s0 → w.cell? ⟨g, o, none⟩ = some u → w'.cell? ⟨g, o, none⟩ = some u) (hg : g < s0) : ∀ (s : List Nd) (o : Nat), NdsV s0 w g o s → NdsV s0 w' g o s
  | [], o, _ => by rw [NdsV]; trivial
  | t :: r, o, ht => by
    rw [NdsV] at ht ⊢
    obtain ⟨⟨cs, h1, h2⟩, h3⟩ := ht
    exact ⟨⟨cs, NdV.kept h t cs h1, fun j u hj => h g _ u hg (h2 j u hj)⟩, NdsV.kept h hg r _ h3⟩
end
/-- Nodes, rules and grammars in memory, all that lies below s0, and the table of the numbers of zeros, lie as they lay. -/
def Kt (s0 : Nat) (W W' : World) : Prop := W.heap.size ≤ W'.heap.size ∧ (∀ (j : Nat) (cur : Array Value) (t : TypeId), (t = 30 ∨ t = 50 ∨ t = 24) → W.heap[j]? = some (.cells cur t) → W'.heap[j]? = W.heap[j]?) ∧ (∀ (j : Nat) (v : Value), W.cell? ⟨2, j, none⟩ = some v → W'.cell? ⟨2, j, none⟩ = some v) ∧ (∀ j, j < s0 → ∀ o, W.heap[j]? = some o → W'.heap[j]? = some o)
section
variable {s0 : Nat}
theorem Kt.refl (W : World) : Kt s0 W W := ⟨Nat.le_refl _, fun _ _ _ _ _ => rfl, fun _ _ h => h, fun _ _ _ h => h⟩
theorem Kt.trans {A B C : World} (h : Kt s0 A B) (k : Kt s0 B C) : Kt s0 A C := ⟨Nat.le_trans h.1 k.1, fun j cur t ht hj => (k.2.1 j cur t ht ((h.2.1 j cur t ht hj).trans hj)).trans (h.2.1 j cur t ht hj), fun j v hv => k.2.2.1 j v (h.2.2.1 j v hv), fun j hj o ho => k.2.2.2 j hj o (h.2.2.2 j hj o ho)⟩
theorem Kt.below {W W' : World} (h : Below W.heap.size W W') : Kt s0 W W' := ⟨h.size, fun j cur t _ hj => h.block j (by
  rcases Nat.lt_or_ge j W.heap.size with h1 | h1
  · exact h1
  · rw [Array.getElem?_eq_none h1] at hj; cases hj), fun j v hv => (h.cell (p := ⟨2, j, none⟩) (World.block_lt_of_cell? W _ hv)).trans hv, fun j _ o ho => (h.block j (Array.getElem?_eq_some_iff.1 ho).1).trans ho⟩
theorem Kt.tab {W W' : World} (h : Kt s0 W W') (hT : TabIs W) : TabIs W' := fun j hj => h.2.2.1 j _ (hT j hj)
theorem Kt.alloc (W : World) (o : Obj) : Kt s0 W (W.alloc o) := Kt.below ((Below.refl _ W).alloc (Nat.le_refl _) o)
theorem Kt.cell {W W' : World} (h : Kt s0 W W') {g o : Nat} {u : Value} (hg : g < s0) (hu : W.cell? ⟨g, o, none⟩ = some u) : W'.cell? ⟨g, o, none⟩ = some u := by
  have hl := World.block_lt_of_cell? W _ hu
  have e : W'.heap[g]? = W.heap[g]? := (h.2.2.2 g hg _ (Array.getElem?_eq_getElem hl)).trans (Array.getElem?_eq_getElem hl).symm
  exact (World.cell?_of_block (w := W) (a := ⟨g, o, none⟩) e).trans hu
theorem Kt.node {W W' : World} (h : Kt s0 W W') {n : Nd} {cs : List Value} (hn : NdV s0 W n cs) : NdV s0 W' n cs := NdV.kept (fun g o u hg hu => h.cell hg hu) _ _ hn
theorem Kt.eight {W W' : World} (h : Kt s0 W W') {g : Nat} {a b c d e f i k : Value} (hg : W.heap[g]? = some (.cells #[a, b, c, d, e, f, i, k] 30)) : W'.heap[g]? = some (.cells #[a, b, c, d, e, f, i, k] 30) :=
  (h.2.1 g _ _ (.inl rfl) hg).trans hg
end
/-- What a caller of yield knows: l the loop, J what holds when pieces have come, Jx when a round has said no more. -/
structure Yl (s0 l N : Nat) (J Jx : List ByteArray → World → Prop) : Prop where
  grow : ∀ s A B, J s A → A.grownBy B none → J s B
  call : ∀ m pre x W, J pre W → pre.length < N → x.size ≤ 4096 → YieldAt Fence.wide m Tryz.prog l #[.string x] W fun e W' =>
    (e = .returned (.bool true) ∧ J (pre ++ [x]) W' ∧ Kt s0 W W') ∨ (e = .returned (.bool false) ∧ Jx (pre ++ [x]) W')
/-- What a function hands back that yields these pieces. -/
def Yp (s0 : Nat) (J Jx : List ByteArray → World → Prop) (pre ps : List ByteArray) (W : World) (e : Ending) (W' : World) : Prop :=
  (e = .returned (.bool true) ∧ J (pre ++ ps) W' ∧ Kt s0 W W') ∨ (e = .returned (.bool false) ∧ ∃ q, q <+: ps ∧ Jx (pre ++ q) W')
/-- What yieldNode does at a node. -/
def YN (s0 l N : Nat) (J Jx : List ByteArray → World → Prop) (QT : ByteArray → ByteArray) (CT : Nat → ByteArray) (n : Nd) : Prop :=
  ∀ (m : Nat) (cs : List Value) (pre : List ByteArray) (W : World), NdV s0 W n cs → TabIs W → J pre W → pre.length + (pN QT CT n).length ≤ N →
    CallsIn Fence.wide m Tryz.prog 57 #[.agg cs.toArray, .func (.yield l) #[] #[]] W (Yp s0 J Jx pre (pN QT CT n) W)
section
variable {s0 l N : Nat} {J Jx : List ByteArray → World → Prop} {QT : ByteArray → ByteArray} {CT : Nat → ByteArray}
theorem Yl.alloc (h : Yl s0 l N J Jx) {s : List ByteArray} {A : World} (hs : J s A) (o : Obj) : J s (A.alloc o) := h.grow s A _ hs (World.grownBy_alloc A o none)
theorem nd_cells {W : World} {kd : Nat} {T : ByteArray} {C pn : Nat} {s : List Nd} {cs : List Value} (h : NdV s0 W (.mk kd T C s pn) cs) : ∃ so sl sc p, cs = v8 kd T C (.slice so sl sc) p := by
  rw [NdV] at h
  obtain ⟨so, cap, p, rfl, _⟩ := h
  exact ⟨_, _, _, _, rfl⟩
set_option maxRecDepth 100000 in
set_option maxHeartbeats 4000000 in
theorem ypart_in (hY : Yl s0 l N J Jx) {n : Nd} (hN : YN s0 l N J Jx QT CT n) (over m : Nat) (cs : List Value) (pre : List ByteArray) (W : World) (ho1 : 6 ≤ over) (ho2 : over ≤ 12) (hk1 : 1 ≤ n.kd) (hk2 : n.kd ≤ 12) (hn : NdV s0 W n cs) (hT : TabIs W) (hJ : J pre W) (hl : pre.length + (pP QT CT over n).length ≤ N) :
    CallsIn Fence.wide m Tryz.prog 106 #[.int .i64 (over : Int), .agg cs.toArray, .func (.yield l) #[] #[]] W (Yp s0 J Jx pre (pP QT CT over n) W) := by
  obtain ⟨kd, T, C, s, pn⟩ := n
  have hk1' : 1 ≤ kd := hk1
  have hk2' : kd ≤ 12 := hk2
  obtain ⟨so, sl, sc, p, rfl⟩ := nd_cells hn
  have HWr := hid (fun w : World => niswr_any over kd w ho1 ho2 hk1' hk2')
  have hdd := wide_d
  cases hw : wr over kd with
  | false =>
    rw [hw] at HWr
    have ep : pP QT CT over (.mk kd T C s pn) = pN QT CT (.mk kd T C s pn) := by
      unfold pP
      rw [show (Nd.mk kd T C s pn).kd = kd from rfl, hw]
      rfl
    rw [ep] at hl ⊢
    have HI := hid (fun o : Obj => hN (m - 1) _ pre (W.alloc o) ((Kt.alloc W o).node hn) ((Kt.alloc (s0 := s0) W o).tab hT) (hY.alloc hJ o) hl)
    clear hn hN hJ hl ep hw hT
    dsimp only [v8] at HI ⊢
    refine callsIn_of_wp Tryz.func106 rfl trivial ?_ rfl
    simp only [Tryz.ntmps106, List.size_toArray, List.length_cons, List.length_nil, Nat.reduceAdd, Nat.reduceSub, Array.replicate_succ, Array.replicate_zero, List.push_toArray, List.append_toArray, List.nil_append, List.cons_append]
    gi_wp2_with (first
      | (refine ⟨trivial, hdd _, ?_⟩; gi_at_call 130; refine (callsIn_wide.2 (HWr.out _)).mono ?_; rintro e W1 ⟨rfl, rfl⟩)
      | (refine ⟨trivial, hdd _, ?_⟩; gi_at_call 57; refine (HI.out _).mono ?_; rintro e W2 (⟨rfl, hJ2, hb2⟩ | ⟨rfl, q, hq, hx⟩)))
    · go_ret
      exact .inl ⟨rfl, hJ2, (Kt.alloc W _).trans hb2⟩
    · go_ret
      exact .inr ⟨rfl, q, hq, hx⟩
  | true =>
    rw [hw] at HWr
    have ep : pP QT CT over (.mk kd T C s pn) = bO :: (pN QT CT (.mk kd T C s pn) ++ [bC]) := by
      unfold pP
      rw [show (Nd.mk kd T C s pn).kd = kd from rfl, hw]
      rfl
    rw [ep] at hl ⊢
    simp only [List.length_cons, List.length_append, List.length_nil] at hl
    obtain ⟨ps, hps⟩ : ∃ ps, ps = pN QT CT (.mk kd T C s pn) := ⟨_, rfl⟩
    have HW0 : Hid ((W.alloc (.cells #[.int .i64 (kd : Int), .string T, .int .u64 (wd C 0 : Nat), .int .u64 (wd C 1 : Nat), .int .u64 (wd C 2 : Nat), .int .u64 (wd C 3 : Nat), .slice so sl sc, .int .i64 p] 30)).heap[W.heap.size]? = some (.cells #[.int .i64 (kd : Int), .string T, .int .u64 (wd C 0 : Nat), .int .u64 (wd C 1 : Nat), .int .u64 (wd C 2 : Nat), .int .u64 (wd C 3 : Nat), .slice so sl sc, .int .i64 p] 30)) := new_block_at W _ rfl
    have HI := hid (fun (W2 : World) (hJ2 : J (pre ++ [bO]) W2) (hk : Kt s0 W W2) => hN (m - 1) _ (pre ++ [bO]) W2 (hk.node hn) (hk.tab hT) hJ2 (by simp; omega))
    have HY1 := hid (fun o : Obj => hY.call (m - 1) pre bO (W.alloc o) (hY.alloc hJ o) (by omega) (by decide))
    have HY3 := hid (fun (W3 : World) (hJ3 : J (pre ++ [bO] ++ ps) W3) => hY.call (m - 1) _ bC W3 hJ3 (by rw [hps]; simp; omega) (by decide))
    rw [← hps] at HI ⊢
    clear hn hN hJ hl ep hw hps hY hT
    dsimp only [v8] at HI ⊢
    obtain ⟨fn, tmps, assign, body, hy, hR⟩ := HY1.out (.cells #[.int .i64 (kd : Int), .string T, .int .u64 (wd C 0 : Nat), .int .u64 (wd C 1 : Nat), .int .u64 (wd C 2 : Nat), .int .u64 (wd C 3 : Nat), .slice so sl sc, .int .i64 p] 30)
    have HR := hid hR
    clear hR HY1
    unfold bO at hy
    refine callsIn_of_wp Tryz.func106 rfl trivial ?_ rfl
    simp only [Tryz.ntmps106, List.size_toArray, List.length_cons, List.length_nil, Nat.reduceAdd, Nat.reduceSub, Array.replicate_succ, Array.replicate_zero, List.push_toArray, List.append_toArray, List.nil_append, List.cons_append]
    gi_wp2_with (first
      | (refine ⟨trivial, hdd _, ?_⟩; gi_at_call 130; refine (callsIn_wide.2 (HWr.out _)).mono ?_; rintro e W1 ⟨rfl, rfl⟩))
    refine ⟨hdd _, HR.out.mono ?_⟩
    clear HR hy
    rintro e W2 (⟨rfl, hJ2, hk2⟩ | ⟨rfl, hx2⟩)
    · have hb2 := hk2.eight HW0.out
      obtain ⟨⟨c0, c1, c2, c3, c4, c5, c6, c7⟩, _⟩ := eight_cells hb2
      have HI2 : Hid (CallsIn Fence.wide (m - 1) Tryz.prog 57 #[.agg #[.int .i64 (kd : Int), .string T, .int .u64 (wd C 0 : Nat), .int .u64 (wd C 1 : Nat), .int .u64 (wd C 2 : Nat), .int .u64 (wd C 3 : Nat), .slice so sl sc, .int .i64 p], .func (.yield l) #[] #[]] W2 fun e W3 => (e = .returned (.bool true) ∧ YieldAt Fence.wide (m - 1) Tryz.prog l #[.string { data := #[41] }] W3 (fun e W4 => (e = .returned (.bool true) ∧ J (pre ++ [bO] ++ ps ++ [bC]) W4 ∧ Kt s0 W W4) ∨ (e = .returned (.bool false) ∧ Jx (pre ++ [bO] ++ ps ++ [bC]) W4))) ∨ (e = .returned (.bool false) ∧ ∃ q, q <+: ps ∧ Jx (pre ++ [bO] ++ q) W3)) :=
        (HI.out W2 hJ2 ((Kt.alloc W _).trans hk2)).mono fun e W3 h => h.elim
          (fun ⟨he, hj, hk3⟩ => .inl ⟨he, YieldAt.mono (HY3.out W3 hj) fun e W4 h => h.elim (fun ⟨he, hj, hk4⟩ => .inl ⟨he, hj, (((Kt.alloc W _).trans hk2).trans hk3).trans hk4⟩) .inr⟩) .inr
      clear HI HY3 hJ2 hk2 hb2 HW0
      gi_wp2_with (first
        | (refine ⟨trivial, hdd _, ?_⟩; gi_at_call 57; refine HI2.out.mono ?_; clear HI2; rintro e W3 (⟨rfl, fn3, tmps3, as3, bd3, hy3, hR3⟩ | ⟨rfl, q, hq, hx3⟩))
        | (refine ⟨hdd _, ?_⟩; refine hR3.mono ?_; clear hR3; rintro e W4 (⟨rfl, hJ4, hk4⟩ | ⟨rfl, hx4⟩)))
      · go_ret
        exact .inl ⟨rfl, by simpa [List.append_assoc] using hJ4, hk4⟩
      · go_ret
        exact .inr ⟨rfl, bO :: (ps ++ [bC]), List.prefix_refl _, by simpa [List.append_assoc] using hx4⟩
      · refine ⟨fun _ h => (by cases h), ?_⟩
        gi_wp2
        go_ret
        obtain ⟨r, hr⟩ := hq
        exact .inr ⟨rfl, bO :: q, ⟨r ++ [bC], by rw [← hr]; simp⟩, by simpa [List.append_assoc] using hx3⟩
    · clear HI HY3 HW0
      gi_wp2
      refine ⟨trivial, ?_⟩
      gi_wp2
      refine ⟨fun _ h => (by cases h), ?_⟩
      gi_wp2
      go_ret
      exact .inr ⟨rfl, [bO], ⟨ps ++ [bC], rfl⟩, hx2⟩
end
end Go.Proofs.YtikfnaffiehpaaaGreatDoor
