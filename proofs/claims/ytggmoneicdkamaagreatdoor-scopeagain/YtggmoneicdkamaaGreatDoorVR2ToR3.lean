/-
  What printer.yieldPart answers, given what yieldNode does at the part. Conditions: those that each theorem names.
  What printer.yieldParts answers, given what yieldNode does at each part. Conditions: those that each theorem names.
-/
import Derived.Test.YtggmoneicdkamaaGreatDoorVY15ToR1
import Derived.Test.YtggmoneicdkamaaGreatDoorVP5ToQ5
import Derived.RangeFuncNested
import Derived.RangeFuncBound
import Derived.RangeFuncCalls
import Derived.RangeFuncLeaves
import Derived.Shelf.Abstract
import Derived.WalkKit
import Derived.OwnWalkIn
import Derived.TacticsInMore
import Derived.LoopNIn
import Derived.LoopIn
namespace Go.Proofs.YtggmoneicdkamaaGreatDoor
open Go.RowKit Go.Shelf
set_option linter.unusedVariables false
attribute [local go_sem] Oper.semAt_some
theorem wide_d (k : Nat) : Fence.wide.depth.isSome = true → 1 ≤ k := fun h => by cases h
/-- The eight cells of a node. -/
@[reducible] def v8 (kd : Nat) (T : ByteArray) (C : Nat) (sv : Value) (p : Int) : List Value :=
  [.int .i64 (kd : Int), .string T, .int .u64 (wd C 0 : Nat), .int .u64 (wd C 1 : Nat), .int .u64 (wd C 2 : Nat), .int .u64 (wd C 3 : Nat), sv, .int .i64 p]
mutual
/-- These eight cells are that tree but for places; what is within lies below s0. -/
def NdV (s0 : Nat) (w : World) : Nd → List Value → Prop
  | .mk kd T C s _, cs => ∃ so cap p, cs = v8 kd T C (.slice so (ndLen s) cap) p ∧ (s.isEmpty = true ∨ (s.isEmpty = false ∧ ∃ g o, so = some ⟨g, o, none⟩ ∧ g < s0 ∧ ndLen s ≤ maxLen ∧ NdsV s0 w g o s))
/-- The cells from there on begin with those trees. -/
def NdsV (s0 : Nat) (w : World) (g : Nat) : Nat → List Nd → Prop
  | _, [] => True
  | o, n :: r => (∃ cs, NdV s0 w n cs ∧ ∀ j u, cs[j]? = some u → w.cell? ⟨g, o + j, none⟩ = some u) ∧ NdsV s0 w g (o + 8) r
end
mutual
theorem NdV.kept {w w' : World} {s0 : Nat} (h : ∀ g o u, g < s0 → w.cell? ⟨g, o, none⟩ = some u → w'.cell? ⟨g, o, none⟩ = some u) : ∀ (t : Nd) (cs : List Value), NdV s0 w t cs → NdV s0 w' t cs
  | .mk kd T C s p, cs, ht => by
    rw [NdV] at ht ⊢
    obtain ⟨so, cap, p, rfl, ht⟩ := ht
    refine ⟨so, cap, p, rfl, ?_⟩
    rcases ht with h1 | ⟨h1, g, o, h2, h3, h4, h5⟩
    · exact .inl h1
    · exact .inr ⟨h1, g, o, h2, h3, h4, NdsV.kept h h3 s o h5⟩
theorem NdsV.kept {w w' : World} {s0 g : Nat} (h : ∀ g o u, g < s0 → w.cell? ⟨g, o, none⟩ = some u → w'.cell? ⟨g, o, none⟩ = some u) (hg : g < s0) : ∀ (s : List Nd) (o : Nat), NdsV s0 w g o s → NdsV s0 w' g o s
  | [], o, _ => by rw [NdsV]; trivial
  | t :: r, o, ht => by
    rw [NdsV] at ht ⊢
    obtain ⟨⟨cs, h1, h2⟩, h3⟩ := ht
    exact ⟨⟨cs, NdV.kept h t cs h1, fun j u hj => h g _ u hg (h2 j u hj)⟩, NdsV.kept h hg r _ h3⟩
end
/-- Nodes, rules and grammars in memory, all that lies below s0, and the table of the numbers of zeros, lie as they lay. -/
def Kt (s0 : Nat) (W W' : World) : Prop := W.heap.size ≤ W'.heap.size ∧ (∀ (j : Nat) (cur : Array Value) (t : TypeId), (t = 58 ∨ t = 60 ∨ t = 24) → W.heap[j]? = some (.cells cur t) → W'.heap[j]? = W.heap[j]?) ∧ (∀ (j : Nat) (v : Value), W.cell? ⟨2, j, none⟩ = some v → W'.cell? ⟨2, j, none⟩ = some v) ∧ (∀ j, j < s0 → ∀ o, W.heap[j]? = some o → W'.heap[j]? = some o)
section
variable {s0 : Nat}
theorem Kt.refl (W : World) : Kt s0 W W := ⟨Nat.le_refl _, fun _ _ _ _ _ => rfl, fun _ _ h => h, fun _ _ _ h => h⟩
theorem Kt.trans {A B C : World} (h : Kt s0 A B) (k : Kt s0 B C) : Kt s0 A C := ⟨Nat.le_trans h.1 k.1, fun j cur t ht hj => (k.2.1 j cur t ht ((h.2.1 j cur t ht hj).trans hj)).trans (h.2.1 j cur t ht hj), fun j v hv => k.2.2.1 j v (h.2.2.1 j v hv), fun j hj o ho => k.2.2.2 j hj o (h.2.2.2 j hj o ho)⟩
theorem Kt.below {W W' : World} (h : Below W.heap.size W W') : Kt s0 W W' := ⟨h.size, fun j cur t _ hj => h.block j (by
  rcases Nat.lt_or_ge j W.heap.size with h1 | h1
  · exact h1
  · rw [Array.getElem?_eq_none h1] at hj; cases hj), fun j v hv => (h.cell (p := ⟨2, j, none⟩) (World.block_lt_of_cell? W _ hv)).trans hv, fun j _ o ho => (h.block j (Array.getElem?_eq_some_iff.1 ho).1).trans ho⟩
theorem Kt.tab {W W' : World} (h : Kt s0 W W') (hT : TabIs W) : TabIs W' := fun j hj => h.2.2.1 j _ (hT j hj)
theorem Kt.alloc (W : World) (o : Obj) : Kt s0 W (W.alloc o) := Kt.below ((Below.refl _ W).alloc (Nat.le_refl _) o)
theorem Kt.cell {W W' : World} (h : Kt s0 W W') {g o : Nat} {u : Value} (hg : g < s0) (hu : W.cell? ⟨g, o, none⟩ = some u) : W'.cell? ⟨g, o, none⟩ = some u := by
  have hl := World.block_lt_of_cell? W _ hu
  have e : W'.heap[g]? = W.heap[g]? := (h.2.2.2 g hg _ (Array.getElem?_eq_getElem hl)).trans (Array.getElem?_eq_getElem hl).symm
  exact (World.cell?_of_block (w := W) (a := ⟨g, o, none⟩) e).trans hu
theorem Kt.node {W W' : World} (h : Kt s0 W W') {n : Nd} {cs : List Value} (hn : NdV s0 W n cs) : NdV s0 W' n cs := NdV.kept (fun g o u hg hu => h.cell hg hu) _ _ hn
theorem Kt.eight {W W' : World} (h : Kt s0 W W') {g : Nat} {a b c d e f i k : Value} (hg : W.heap[g]? = some (.cells #[a, b, c, d, e, f, i, k] 58)) : W'.heap[g]? = some (.cells #[a, b, c, d, e, f, i, k] 58) :=
  (h.2.1 g _ _ (.inl rfl) hg).trans hg
end
/-- What a caller of yield knows: l the loop, J what holds when pieces have come, Jx when a round has said no more. -/
structure Yl (s0 l N : Nat) (J Jx : List ByteArray → World → Prop) : Prop where
  grow : ∀ s A B, J s A → A.grownBy B none → J s B
  call : ∀ m pre x W, J pre W → pre.length < N → x.size ≤ 4096 → YieldAt Fence.wide m Tryz.prog l #[.string x] W fun e W' =>
    (e = .returned (.bool true) ∧ J (pre ++ [x]) W' ∧ Kt s0 W W') ∨ (e = .returned (.bool false) ∧ Jx (pre ++ [x]) W')
/-- What a function hands back that yields these pieces. -/
def Yp (s0 : Nat) (J Jx : List ByteArray → World → Prop) (pre ps : List ByteArray) (W : World) (e : Ending) (W' : World) : Prop :=
  (e = .returned (.bool true) ∧ J (pre ++ ps) W' ∧ Kt s0 W W') ∨ (e = .returned (.bool false) ∧ ∃ q, q <+: ps ∧ Jx (pre ++ q) W')
/-- What yieldNode does at a node. -/
def YN (s0 l N : Nat) (J Jx : List ByteArray → World → Prop) (QT : ByteArray → ByteArray) (CT : Nat → ByteArray) (n : Nd) : Prop :=
  ∀ (m : Nat) (cs : List Value) (pre : List ByteArray) (W : World), NdV s0 W n cs → TabIs W → J pre W → pre.length + (pN QT CT n).length ≤ N →
    CallsIn Fence.wide m Tryz.prog 157 #[.agg cs.toArray, .func (.yield l) #[] #[]] W (Yp s0 J Jx pre (pN QT CT n) W)
section
variable {s0 l N : Nat} {J Jx : List ByteArray → World → Prop} {QT : ByteArray → ByteArray} {CT : Nat → ByteArray}
theorem Yl.alloc (h : Yl s0 l N J Jx) {s : List ByteArray} {A : World} (hs : J s A) (o : Obj) : J s (A.alloc o) := h.grow s A _ hs (World.grownBy_alloc A o none)
theorem nd_cells {W : World} {kd : Nat} {T : ByteArray} {C pn : Nat} {s : List Nd} {cs : List Value} (h : NdV s0 W (.mk kd T C s pn) cs) : ∃ so sl sc p, cs = v8 kd T C (.slice so sl sc) p := by
  rw [NdV] at h
  obtain ⟨so, cap, p, rfl, _⟩ := h
  exact ⟨_, _, _, _, rfl⟩
set_option maxRecDepth 100000 in
set_option maxHeartbeats 4000000 in
theorem ypart_in (hY : Yl s0 l N J Jx) {n : Nd} (hN : YN s0 l N J Jx QT CT n) (over m : Nat) (cs : List Value) (pre : List ByteArray) (W : World) (ho1 : 6 ≤ over) (ho2 : over ≤ 12) (hk1 : 1 ≤ n.kd) (hk2 : n.kd ≤ 12) (hn : NdV s0 W n cs) (hT : TabIs W) (hJ : J pre W) (hl : pre.length + (pP QT CT over n).length ≤ N) :
    CallsIn Fence.wide m Tryz.prog 188 #[.int .i64 (over : Int), .agg cs.toArray, .func (.yield l) #[] #[]] W (Yp s0 J Jx pre (pP QT CT over n) W) := by
  obtain ⟨kd, T, C, s, pn⟩ := n
  have hk1' : 1 ≤ kd := hk1
  have hk2' : kd ≤ 12 := hk2
  obtain ⟨so, sl, sc, p, rfl⟩ := nd_cells hn
  have HWr := hid (fun w : World => niswr_any over kd w ho1 ho2 hk1' hk2')
  have hdd := wide_d
  cases hw : wr over kd with
  | false =>
    rw [hw] at HWr
    have ep : pP QT CT over (.mk kd T C s pn) = pN QT CT (.mk kd T C s pn) := by
      unfold pP
      rw [show (Nd.mk kd T C s pn).kd = kd from rfl, hw]
      rfl
    rw [ep] at hl ⊢
    have HI := hid (fun o : Obj => hN (m - 1) _ pre (W.alloc o) ((Kt.alloc W o).node hn) ((Kt.alloc (s0 := s0) W o).tab hT) (hY.alloc hJ o) hl)
    clear hn hN hJ hl ep hw hT
    dsimp only [v8] at HI ⊢
    refine callsIn_of_wp Tryz.func188 rfl trivial ?_ rfl
    simp only [Tryz.ntmps188, List.size_toArray, List.length_cons, List.length_nil, Nat.reduceAdd, Nat.reduceSub, Array.replicate_succ, Array.replicate_zero, List.push_toArray, List.append_toArray, List.nil_append, List.cons_append]
    gi_wp2_with (first
      | (refine ⟨trivial, hdd _, ?_⟩; gi_at_call 196; refine (callsIn_wide.2 (HWr.out _)).mono ?_; rintro e W1 ⟨rfl, rfl⟩)
      | (refine ⟨trivial, hdd _, ?_⟩; gi_at_call 157; refine (HI.out _).mono ?_; rintro e W2 (⟨rfl, hJ2, hb2⟩ | ⟨rfl, q, hq, hx⟩)))
    · go_ret
      exact .inl ⟨rfl, hJ2, (Kt.alloc W _).trans hb2⟩
    · go_ret
      exact .inr ⟨rfl, q, hq, hx⟩
  | true =>
    rw [hw] at HWr
    have ep : pP QT CT over (.mk kd T C s pn) = bO :: (pN QT CT (.mk kd T C s pn) ++ [bC]) := by
      unfold pP
      rw [show (Nd.mk kd T C s pn).kd = kd from rfl, hw]
      rfl
    rw [ep] at hl ⊢
    simp only [List.length_cons, List.length_append, List.length_nil] at hl
    obtain ⟨ps, hps⟩ : ∃ ps, ps = pN QT CT (.mk kd T C s pn) := ⟨_, rfl⟩
    have HW0 : Hid ((W.alloc (.cells #[.int .i64 (kd : Int), .string T, .int .u64 (wd C 0 : Nat), .int .u64 (wd C 1 : Nat), .int .u64 (wd C 2 : Nat), .int .u64 (wd C 3 : Nat), .slice so sl sc, .int .i64 p] 58)).heap[W.heap.size]? = some (.cells #[.int .i64 (kd : Int), .string T, .int .u64 (wd C 0 : Nat), .int .u64 (wd C 1 : Nat), .int .u64 (wd C 2 : Nat), .int .u64 (wd C 3 : Nat), .slice so sl sc, .int .i64 p] 58)) := new_block_at W _ rfl
    have HI := hid (fun (W2 : World) (hJ2 : J (pre ++ [bO]) W2) (hk : Kt s0 W W2) => hN (m - 1) _ (pre ++ [bO]) W2 (hk.node hn) (hk.tab hT) hJ2 (by simp; omega))
    have HY1 := hid (fun o : Obj => hY.call (m - 1) pre bO (W.alloc o) (hY.alloc hJ o) (by omega) (by decide))
    have HY3 := hid (fun (W3 : World) (hJ3 : J (pre ++ [bO] ++ ps) W3) => hY.call (m - 1) _ bC W3 hJ3 (by rw [hps]; simp; omega) (by decide))
    rw [← hps] at HI ⊢
    clear hn hN hJ hl ep hw hps hY hT
    dsimp only [v8] at HI ⊢
    obtain ⟨fn, tmps, assign, body, hy, hR⟩ := HY1.out (.cells #[.int .i64 (kd : Int), .string T, .int .u64 (wd C 0 : Nat), .int .u64 (wd C 1 : Nat), .int .u64 (wd C 2 : Nat), .int .u64 (wd C 3 : Nat), .slice so sl sc, .int .i64 p] 58)
    have HR := hid hR
    clear hR HY1
    unfold bO at hy
    refine callsIn_of_wp Tryz.func188 rfl trivial ?_ rfl
    simp only [Tryz.ntmps188, List.size_toArray, List.length_cons, List.length_nil, Nat.reduceAdd, Nat.reduceSub, Array.replicate_succ, Array.replicate_zero, List.push_toArray, List.append_toArray, List.nil_append, List.cons_append]
    gi_wp2_with (first
      | (refine ⟨trivial, hdd _, ?_⟩; gi_at_call 196; refine (callsIn_wide.2 (HWr.out _)).mono ?_; rintro e W1 ⟨rfl, rfl⟩))
    refine ⟨hdd _, HR.out.mono ?_⟩
    clear HR hy
    rintro e W2 (⟨rfl, hJ2, hk2⟩ | ⟨rfl, hx2⟩)
    · have hb2 := hk2.eight HW0.out
      obtain ⟨⟨c0, c1, c2, c3, c4, c5, c6, c7⟩, _⟩ := eight_cells hb2
      have HI2 : Hid (CallsIn Fence.wide (m - 1) Tryz.prog 157 #[.agg #[.int .i64 (kd : Int), .string T, .int .u64 (wd C 0 : Nat), .int .u64 (wd C 1 : Nat), .int .u64 (wd C 2 : Nat), .int .u64 (wd C 3 : Nat), .slice so sl sc, .int .i64 p], .func (.yield l) #[] #[]] W2 fun e W3 => (e = .returned (.bool true) ∧ YieldAt Fence.wide (m - 1) Tryz.prog l #[.string { data := #[41] }] W3 (fun e W4 => (e = .returned (.bool true) ∧ J (pre ++ [bO] ++ ps ++ [bC]) W4 ∧ Kt s0 W W4) ∨ (e = .returned (.bool false) ∧ Jx (pre ++ [bO] ++ ps ++ [bC]) W4))) ∨ (e = .returned (.bool false) ∧ ∃ q, q <+: ps ∧ Jx (pre ++ [bO] ++ q) W3)) :=
        (HI.out W2 hJ2 ((Kt.alloc W _).trans hk2)).mono fun e W3 h => h.elim
          (fun ⟨he, hj, hk3⟩ => .inl ⟨he, YieldAt.mono (HY3.out W3 hj) fun e W4 h => h.elim (fun ⟨he, hj, hk4⟩ => .inl ⟨he, hj, (((Kt.alloc W _).trans hk2).trans hk3).trans hk4⟩) .inr⟩) .inr
      clear HI HY3 hJ2 hk2 hb2 HW0
      gi_wp2_with (first
        | (refine ⟨trivial, hdd _, ?_⟩; gi_at_call 157; refine HI2.out.mono ?_; clear HI2; rintro e W3 (⟨rfl, fn3, tmps3, as3, bd3, hy3, hR3⟩ | ⟨rfl, q, hq, hx3⟩))
        | (refine ⟨hdd _, ?_⟩; refine hR3.mono ?_; clear hR3; rintro e W4 (⟨rfl, hJ4, hk4⟩ | ⟨rfl, hx4⟩)))
      · go_ret
        exact .inl ⟨rfl, by simpa [List.append_assoc] using hJ4, hk4⟩
      · go_ret
        exact .inr ⟨rfl, bO :: (ps ++ [bC]), List.prefix_refl _, by simpa [List.append_assoc] using hx4⟩
      · refine ⟨fun _ h => (by cases h), ?_⟩
        gi_wp2
        go_ret
        obtain ⟨r, hr⟩ := hq
        exact .inr ⟨rfl, bO :: q, ⟨r ++ [bC], by rw [← hr]; simp⟩, by simpa [List.append_assoc] using hx3⟩
    · clear HI HY3 HW0
      gi_wp2
      refine ⟨trivial, ?_⟩
      gi_wp2
      refine ⟨fun _ h => (by cases h), ?_⟩
      gi_wp2
      go_ret
      exact .inr ⟨rfl, [bO], ⟨ps ++ [bC], rfl⟩, hx2⟩
end
end Go.Proofs.YtggmoneicdkamaaGreatDoor
namespace Go.Proofs.YtggmoneicdkamaaGreatDoor
open Go.RowKit Go.Shelf
set_option linter.unusedVariables false
attribute [local go_sem] Oper.semAt_some
section
variable {s0 l N : Nat} {J Jx : List ByteArray → World → Prop} {QT : ByteArray → ByteArray} {CT : Nat → ByteArray}
theorem pB_snoc (over : Nat) (sep : ByteArray) (n : Nd) : ∀ (s : List Nd), pB QT CT over sep (s ++ [n]) = pB QT CT over sep s ++ (sep :: pP QT CT over n)
  | [] => by rw [List.nil_append, pB_cons, pB_nil, List.append_nil, List.nil_append]
  | a :: r => by rw [List.cons_append, pB_cons, pB_cons, pB_snoc over sep n r]; simp
theorem pS_snoc (over : Nat) (sep : ByteArray) (n : Nd) : ∀ (s : List Nd), s ≠ [] → pS QT CT over sep (s ++ [n]) = pS QT CT over sep s ++ (sep :: pP QT CT over n)
  | [], h => absurd rfl h
  | a :: r, _ => by rw [List.cons_append, pS_cons, pS_cons, pB_snoc]; simp
theorem pS_one (over : Nat) (sep : ByteArray) (n : Nd) : pS QT CT over sep [n] = pP QT CT over n := by rw [pS_cons, pB_nil, List.append_nil]
theorem take_succ' {s : List Nd} {j : Nat} (hj : j < s.length) : s.take (j + 1) = s.take j ++ [s[j]] := by simp
/-- What has come of the first parts is the beginning of all. -/
theorem pS_pre (over : Nat) (sep : ByteArray) : ∀ (s t : List Nd), ∃ r, pS QT CT over sep (s ++ t) = pS QT CT over sep s ++ r
  | [], t => ⟨_, by rw [List.nil_append, pS, List.nil_append]⟩
  | a :: r, t => by
    have h : ∀ (u v : List Nd), ∃ r, pB QT CT over sep (u ++ v) = pB QT CT over sep u ++ r := fun u v => by
      induction u with
      | nil => exact ⟨_, by rw [List.nil_append, pB, List.nil_append]⟩
      | cons b q ih =>
        obtain ⟨x, hx⟩ := ih
        exact ⟨x, by rw [List.cons_append, pB_cons, pB_cons, hx]; simp⟩
    obtain ⟨x, hx⟩ := h r t
    exact ⟨x, by rw [List.cons_append, pS_cons, pS_cons, hx, List.append_assoc]⟩
theorem pS_upto (over : Nat) (sep : ByteArray) (s : List Nd) (j : Nat) : ∃ r, pS QT CT over sep s = pS QT CT over sep (s.take j) ++ r := by
  have := pS_pre (QT := QT) (CT := CT) over sep (s.take j) (s.drop j)
  rw [List.take_append_drop] at this
  exact this
/-- One part more. -/
theorem pS_next (over : Nat) (sep : ByteArray) (s : List Nd) (j : Nat) (hj : j < s.length) : pS QT CT over sep (s.take (j + 1)) = pS QT CT over sep (s.take j) ++ ((if j = 0 then [] else [sep]) ++ pP QT CT over s[j]) := by
  rw [take_succ' hj]
  by_cases h0 : j = 0
  · subst h0
    rw [List.take_zero, List.nil_append, pS_one, pS, if_pos rfl]
    rfl
  · rw [pS_snoc over sep s[j] (s.take j) (fun e => by
      have h := congrArg List.length e
      rw [List.length_take, List.length_nil] at h
      omega), if_neg h0]
    rfl
theorem NdV.shape {w : World} {n : Nd} {cs : List Value} (h : NdV s0 w n cs) : ∃ kd T C so sl sc p, cs = v8 kd T C (.slice so sl sc) p := by
  cases n
  rw [NdV] at h
  obtain ⟨so, cap, p, rfl, _⟩ := h
  exact ⟨_, _, _, _, _, _, _, rfl⟩
/-- The cells of a node at o in block g. -/
def Cv (w : World) (g o : Nat) (kd : Nat) (T : ByteArray) (C : Nat) (sv : Value) (p : Int) : Prop := w.cell? ⟨g, o, none⟩ = some (.int .i64 (kd : Int)) ∧ w.cell? ⟨g, o + 1, none⟩ = some (.string T) ∧ w.cell? ⟨g, o + 2, none⟩ = some (.int .u64 (wd C 0 : Nat)) ∧ w.cell? ⟨g, o + 3, none⟩ = some (.int .u64 (wd C 1 : Nat)) ∧ w.cell? ⟨g, o + 4, none⟩ = some (.int .u64 (wd C 2 : Nat)) ∧ w.cell? ⟨g, o + 5, none⟩ = some (.int .u64 (wd C 3 : Nat)) ∧ w.cell? ⟨g, o + 6, none⟩ = some sv ∧ w.cell? ⟨g, o + 7, none⟩ = some (.int .i64 p)
theorem ndv_at {w : World} {g : Nat} : ∀ {s : List Nd} {o : Nat}, NdsV s0 w g o s → ∀ (k : Nat) (hk : k < s.length), ∃ kd T C so sl sc p, NdV s0 w s[k] (v8 kd T C (.slice so sl sc) p) ∧ Cv w g (o + k * 8) kd T C (.slice so sl sc) p
  | [], o, h, k, hk => by simp at hk
  | t :: r, o, h, 0, hk => by
    rw [NdsV] at h
    obtain ⟨⟨cs, h1, h2⟩, _⟩ := h
    obtain ⟨kd, T, C, so, sl, sc, p, rfl⟩ := h1.shape
    refine ⟨kd, T, C, so, sl, sc, p, h1, ?_⟩
    rw [Nat.zero_mul, Nat.add_zero]
    exact ⟨h2 0 _ rfl, h2 1 _ rfl, h2 2 _ rfl, h2 3 _ rfl, h2 4 _ rfl, h2 5 _ rfl, h2 6 _ rfl, h2 7 _ rfl⟩
  | t :: r, o, h, k + 1, hk => by
    rw [NdsV] at h
    obtain ⟨kd, T, C, so, sl, sc, p, h1, h2⟩ := ndv_at h.2 k (by simpa using hk)
    refine ⟨kd, T, C, so, sl, sc, p, h1, ?_⟩
    rw [show o + (k + 1) * 8 = o + 8 + k * 8 by omega]
    exact h2
theorem ndv_block {w : World} {kd : Nat} {T : ByteArray} {C pn : Nat} {s : List Nd} {cs : List Value} (h : NdV s0 w (.mk kd T C s pn) cs) (hs : s.isEmpty = false) : ∃ g o cap p, cs = v8 kd T C (.slice (some ⟨g, o, none⟩) s.length cap) p ∧ g < s0 ∧ s.length ≤ maxLen ∧ NdsV s0 w g o s := by
  rw [NdV] at h
  obtain ⟨so, cap, p, rfl, h1 | ⟨_, g, o, rfl, hg, hm, h4⟩⟩ := h
  · rw [hs] at h1; cases h1
  · exact ⟨g, o, cap, p, by rw [ndLen_eq], hg, by rw [← ndLen_eq]; exact hm, h4⟩
theorem ndsv_lt {w : World} {g o : Nat} {s : List Nd} (h : NdsV s0 w g o s) (hs : 0 < s.length) : g < w.heap.size := by
  obtain ⟨kd, T, C, so, sl, sc, p, _, h2⟩ := ndv_at h 0 hs
  exact World.block_lt_of_cell? w _ h2.1
set_option maxRecDepth 100000 in
set_option maxHeartbeats 8000000 in
theorem yparts_in (hY : Yl s0 l N J Jx) {kd : Nat} {T : ByteArray} {C pn : Nat} {s : List Nd} (hs : s.isEmpty = false) (hN : ∀ n ∈ s, YN s0 l N J Jx QT CT n ∧ 1 ≤ n.kd ∧ n.kd ≤ 12) (sep : ByteArray) (hsep : sep.size ≤ 4096) (m : Nat) (cs : List Value) (pre : List ByteArray) (W : World) (ho1 : 6 ≤ kd) (ho2 : kd ≤ 12) (hn : NdV s0 W (.mk kd T C s pn) cs) (hT : TabIs W) (hJ : J pre W) (hl : pre.length + (pS QT CT kd sep s).length ≤ N) :
    CallsIn Fence.wide m Tryz.prog 172 #[.agg cs.toArray, .string sep, .func (.yield l) #[] #[]] W (Yp s0 J Jx pre (pS QT CT kd sep s) W) := by
  obtain ⟨g, o, cap, p, rfl, hg, hlen, hns⟩ := ndv_block hn hs
  unfold maxLen at hlen
  obtain ⟨n, hnl⟩ : ∃ n, n = s.length := ⟨_, rfl⟩
  have hdd := wide_d
  obtain ⟨W1, hW1⟩ : ∃ W1, W1 = W.alloc (.cells #[.int .i64 (kd : Int), .string T, .int .u64 (wd C 0 : Nat), .int .u64 (wd C 1 : Nat), .int .u64 (wd C 2 : Nat), .int .u64 (wd C 3 : Nat), .slice (some ⟨g, o, none⟩) n cap, .int .i64 p] 58) := ⟨_, rfl⟩
  have HK1 : Hid (Kt s0 W W1) := by rw [hW1]; exact Kt.alloc W _
  have HB1 : Hid (W1.heap[W.heap.size]? = some (.cells #[.int .i64 (kd : Int), .string T, .int .u64 (wd C 0 : Nat), .int .u64 (wd C 1 : Nat), .int .u64 (wd C 2 : Nat), .int .u64 (wd C 3 : Nat), .slice (some ⟨g, o, none⟩) n cap, .int .i64 p] 58)) := by rw [hW1]; exact new_block_at W _ rfl
  have HJ1 : Hid (J pre W1) := by rw [hW1]; exact hY.alloc hJ _
  have HG : Hid (g < s0 ∧ NdsV s0 W g o s) := ⟨hg, hns⟩
  have HY : Hid (Yl s0 l N J Jx) := hY
  have HN := hid hN
  have HNl : Hid (n = s.length) := hnl
  have HL := hid hl
  have hn6 : n ≤ 9223372036854775807 := by omega
  rw [← hnl]
  have HW1 := hid hW1
  have HT := hid hT
  clear hn hg hns hJ hY hN hl hlen hnl hW1 hT
  dsimp only [v8]
  refine callsIn_of_wp Tryz.func172 rfl trivial ?_ rfl
  simp only [Tryz.ntmps172, List.size_toArray, List.length_cons, List.length_nil, Nat.reduceAdd, Nat.reduceSub, Array.replicate_succ, Array.replicate_zero, List.push_toArray, List.append_toArray, List.nil_append, List.cons_append]
  gi_wp2
  rw [← HW1.out]
  clear HW1
  gi_loopw [12] (fun i wr => ∃ j : Nat, i = .int .i64 (j : Int) ∧ j ≤ n ∧ Hid (J (pre ++ pS QT CT kd sep (s.take j)) wr) ∧ Hid (Kt s0 W1 wr)) (fun i _ => n - (intOf i).toNat)
  case atStart => exact ⟨0, rfl, Nat.zero_le _, by rw [List.take_zero, pS, List.append_nil]; exact HJ1, hid (Kt.refl _)⟩
  case round =>
    obtain ⟨j, rfl, hj, HJr, HKr⟩ := hrel
    by_cases hjn : j < n
    · have hjI : (j : Int) < (n : Int) := by omega
      have a0 : decide ((j : Int) < (n : Int)) = true := by simp; omega
      have hjs : j < s.length := by rw [← HNl.out]; exact hjn
      obtain ⟨⟨c0, c1, c2, c3, c4, c5, c6, c7⟩, _⟩ := eight_cells (HKr.out.eight HB1.out)
      have hKw : Kt s0 W wr := HK1.out.trans HKr.out
      obtain ⟨kd1, T1, C1, so1, sl1, sc1, p1, nd1, z0, z1, z2, z3, z4, z5, z6, z7⟩ := ndv_at (NdsV.kept (fun q c u hq hu => hKw.cell hq hu) HG.out.1 s o HG.out.2) j hjs
      obtain ⟨yn, k1, k2⟩ := HN.out s[j] (List.getElem_mem hjs)
      have hnx := pS_next (QT := QT) (CT := CT) kd sep s j hjs
      obtain ⟨rr, hrr⟩ := pS_upto (QT := QT) (CT := CT) kd sep s (j + 1)
      have hlj : pre.length + (pS QT CT kd sep (s.take j)).length + ((if j = 0 then [] else [sep]).length + (pP QT CT kd s[j]).length) ≤ N := by
        have h1 := HL.out
        rw [hrr, hnx] at h1
        simp only [List.length_append] at h1
        omega
      have HRR := hid hrr
      have HNX := hid hnx
      obtain ⟨dn, hdn⟩ : ∃ dn, dn = pS QT CT kd sep (s.take j) := ⟨_, rfl⟩
      rw [← hdn] at HJr HNX hlj
      obtain ⟨pp, hpp⟩ : ∃ pp, pp = pP QT CT kd s[j] := ⟨_, rfl⟩
      have HPP := hid hpp
      have K2 := hid (Kt.alloc (s0 := s0) wr (.cells #[.int .i64 (kd1 : Int), .string T1, .int .u64 (wd C1 0 : Nat), .int .u64 (wd C1 1 : Nat), .int .u64 (wd C1 2 : Nat), .int .u64 (wd C1 3 : Nat), .slice so1 sl1 sc1, .int .i64 p1] 58))
      have B2 : Hid ((wr.alloc (.cells #[.int .i64 (kd1 : Int), .string T1, .int .u64 (wd C1 0 : Nat), .int .u64 (wd C1 1 : Nat), .int .u64 (wd C1 2 : Nat), .int .u64 (wd C1 3 : Nat), .slice so1 sl1 sc1, .int .i64 p1] 58)).heap[wr.heap.size]? = some (.cells #[.int .i64 (kd1 : Int), .string T1, .int .u64 (wd C1 0 : Nat), .int .u64 (wd C1 1 : Nat), .int .u64 (wd C1 2 : Nat), .int .u64 (wd C1 3 : Nat), .slice so1 sl1 sc1, .int .i64 p1] 58)) := new_block_at wr _ rfl
      have J2 := hid (HY.out.alloc HJr.out (.cells #[.int .i64 (kd1 : Int), .string T1, .int .u64 (wd C1 0 : Nat), .int .u64 (wd C1 1 : Nat), .int .u64 (wd C1 2 : Nat), .int .u64 (wd C1 3 : Nat), .slice so1 sl1 sc1, .int .i64 p1] 58))
      have hBl : W.heap.size < wr.heap.size := node_lt (HKr.out.eight HB1.out)
      have hgl : g < wr.heap.size := Nat.lt_of_lt_of_le (ndsv_lt HG.out.2 (by omega)) hKw.1
      by_cases hj0 : j = 0
      · have hj0I : decide ((0 : Int) < (j : Int)) = false := by simp; omega
        have hj0N : ¬ 0 < j := by omega
        have hj0D : decide (0 < j) = false := by simp; omega
        have HP := hid (ypart_in HY.out yn kd (m - 1) _ (pre ++ dn) (wr.alloc (.cells #[.int .i64 (kd1 : Int), .string T1, .int .u64 (wd C1 0 : Nat), .int .u64 (wd C1 1 : Nat), .int .u64 (wd C1 2 : Nat), .int .u64 (wd C1 3 : Nat), .slice so1 sl1 sc1, .int .i64 p1] 58)) ho1 ho2 k1 k2 (K2.out.node nd1) (K2.out.tab (hKw.tab HT.out)) J2.out (by rw [if_pos hj0] at hlj; simp at hlj ⊢; omega))
        rw [if_pos hj0, List.nil_append] at HNX
        rw [← hpp] at HP HNX
        clear hnx hrr hlj nd1 yn hdn hpp hj0 J2 hKw HN
        dsimp only [v8] at HP
        gi_wp2
        refine ⟨fun _ h => (by cases h), ?_⟩
        gi_wp2_with (first | (refine ⟨trivial, hdd _, ?_⟩; gi_at_call 188; refine HP.out.mono ?_; clear HP; rintro e W3 (⟨rfl, hJ3, hk3⟩ | ⟨rfl, q, hq, hx⟩)))
        · go_roundw
          case rel => exact ⟨j + 1, by go_num, by omega, hid (by rw [HNX.out, ← List.append_assoc]; exact hJ3), hid ((HKr.out.trans K2.out).trans hk3)⟩
          case measure => simp [intOf]; omega
        · go_ret
          obtain ⟨r, hr⟩ := hq
          exact .inr ⟨rfl, dn ++ q, ⟨r ++ rr, by rw [HRR.out, HNX.out, ← hr]; simp⟩, by rw [← List.append_assoc]; exact hx⟩
      · have hj0I : decide ((0 : Int) < (j : Int)) = true := by simp; omega
        have hj0N : 0 < j := by omega
        have hj0D : decide (0 < j) = true := by simp; omega
        obtain ⟨fn, tmps, assign, body, hy, hR⟩ := HY.out.call (m - 1) (pre ++ dn) sep (wr.alloc (.cells #[.int .i64 (kd1 : Int), .string T1, .int .u64 (wd C1 0 : Nat), .int .u64 (wd C1 1 : Nat), .int .u64 (wd C1 2 : Nat), .int .u64 (wd C1 3 : Nat), .slice so1 sl1 sc1, .int .i64 p1] 58)) J2.out (by rw [if_neg hj0] at hlj; simp at hlj ⊢; omega) hsep
        have HR := hid hR
        have HP := hid (fun (W3 : World) (hJ3 : J (pre ++ dn ++ [sep]) W3) (hk3 : Kt s0 (wr.alloc (.cells #[.int .i64 (kd1 : Int), .string T1, .int .u64 (wd C1 0 : Nat), .int .u64 (wd C1 1 : Nat), .int .u64 (wd C1 2 : Nat), .int .u64 (wd C1 3 : Nat), .slice so1 sl1 sc1, .int .i64 p1] 58)) W3) => ypart_in HY.out yn kd (m - 1) _ (pre ++ dn ++ [sep]) W3 ho1 ho2 k1 k2 (hk3.node (K2.out.node nd1)) (hk3.tab (K2.out.tab (hKw.tab HT.out))) hJ3 (by rw [if_neg hj0] at hlj; simp at hlj ⊢; omega))
        rw [if_neg hj0] at HNX
        rw [← hpp] at HP HNX
        clear hnx hrr hlj nd1 yn hdn hpp hj0 J2 hKw HN hR
        dsimp only [v8] at HP
        gi_wp2
        refine ⟨hdd _, HR.out.mono ?_⟩
        clear HR hy c0 c1 c2 c3 c4 c5 c6 c7 z0 z1 z2 z3 z4 z5 z6 z7
        rintro e W3 (⟨rfl, hJ3, hk3⟩ | ⟨rfl, hx3⟩)
        · obtain ⟨⟨c0, c1, c2, c3, c4, c5, c6, c7⟩, _⟩ := eight_cells (((HKr.out.trans K2.out).trans hk3).eight HB1.out)
          obtain ⟨⟨d0, d1, d2, d3, d4, d5, d6, d7⟩, _⟩ := eight_cells (hk3.eight B2.out)
          have HP3 := hid (HP.out W3 hJ3 hk3)
          have HK3 := hid hk3
          clear HP hJ3 hk3
          gi_wp2_with (first | (refine ⟨trivial, hdd _, ?_⟩; gi_at_call 188; refine HP3.out.mono ?_; clear HP3; rintro e W4 (⟨rfl, hJ4, hk4⟩ | ⟨rfl, q, hq, hx⟩)))
          · go_roundw
            case rel => exact ⟨j + 1, by go_num, by omega, hid (by rw [HNX.out]; simpa [List.append_assoc] using hJ4), hid (((HKr.out.trans K2.out).trans HK3.out).trans hk4)⟩
            case measure => simp [intOf]; omega
          · go_ret
            obtain ⟨r, hr⟩ := hq
            exact .inr ⟨rfl, dn ++ ([sep] ++ q), ⟨r ++ rr, by rw [HRR.out, HNX.out, ← hr]; simp⟩, by simpa [List.append_assoc] using hx⟩
        · clear HP
          gi_wp2
          go_ret
          exact .inr ⟨rfl, dn ++ [sep], ⟨pp ++ rr, by rw [HRR.out, HNX.out]; simp⟩, by simpa [List.append_assoc] using hx3⟩
    · have a0 : decide ((j : Int) < (n : Int)) = false := by simp; omega
      have hjn' : s.take j = s := List.take_of_length_le (by rw [← HNl.out]; omega)
      rw [hjn'] at HJr
      clear hjn'
      gi_wp2
      go_ret
      exact .inl ⟨rfl, HJr.out, HK1.out.trans HKr.out⟩
end
end Go.Proofs.YtggmoneicdkamaaGreatDoor
