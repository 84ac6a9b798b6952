/-
  slices.Sort and slices.Compact at integers that a call has made, by the library's contracts. Conditions: those that each theorem names.
  What scope.used answers: the places of the rules that an expression uses, each once, rising. Conditions: those that each theorem names.
  A block's cells, read and stored. Conditions: those that each theorem names.
  What scope.Check and scope.Uses answer. Conditions: those that each theorem names.
  What a rule leads to: marks, a row of places, and what a visit does to them. Plain facts on lists.
  What the closure of scope.reached does at a place. Conditions: those that each theorem names.
  What scope.reached answers: a place, and all to which it leads, rising. Conditions: those that each theorem names.
  What printer.Print answers at any grammar in memory. Conditions: those that each theorem names.
  Trees that may be printed, as they lie in memory and as they are read. Conditions: those that each theorem names.
  Two rows of tokens that are one but for places: what is read of them is one but for places, or wrong alike. Plain facts on tokens and trees.
  What printer.Print answers at what syntax.Parse has read; the laws' own small case. Conditions: those that each theorem names.
-/
import Derived.Test.YtgoogfbphilpmaaGreatDoorVO5
import Derived.Shelf.Lay
import Derived.Shelf.Sort.Plain
import Derived.Shelf.Slices.CompactI
import Derived.Shelf.Slices.In.SortNone
import Derived.Sort.OwnSortedInts
import Derived.Ground.NamesProg
import Derived.Ground.Names2Prog
import Derived.Test.YtgoogfbphilpmaaGreatDoorVS1ToO4
import Derived.Laws.EntriesVeiled
import Derived.Test.YtgoogfbphilpmaaGreatDoorVY15ToR1
namespace Go.Proofs
open Go.Shelf
shelf_lay Lays.n189 Nm 189 at Tryz as Tryz.lays189
shelf_lay Lays2.n20 Nm2 20 at Tryz as Tryz.lays2_20
end Go.Proofs
namespace Go.Proofs.YtgoogfbphilpmaaGreatDoor
open Go.RowKit Go.Shelf Go.Sort
set_option linter.unusedVariables false
end Go.Proofs.YtgoogfbphilpmaaGreatDoor
namespace Go.Proofs.YtgoogfbphilpmaaGreatDoor
open Go.RowKit Go.Shelf Go.Maps
set_option linter.unusedVariables false
attribute [local go_sem] Oper.semAt_some
end Go.Proofs.YtgoogfbphilpmaaGreatDoor
namespace Go.Proofs.YtgoogfbphilpmaaGreatDoor
open Go.RowKit Go.Shelf
set_option linter.unusedVariables false
theorem cell_in {w : World} {g : Nat} {cur : Array Value} {t : TypeId} (h : w.heap[g]? = some (.cells cur t)) (j : Nat) (v : Value) (hj : cur[j]? = some v) : w.cell? ⟨g, j, none⟩ = some v ∧ w.frozen? ⟨g, j, none⟩ = false := by
  constructor
  · simp [World.cell?, h, hj]
  · simp [World.frozen?, h]
theorem set_in {w : World} {g : Nat} {cur : Array Value} {t : TypeId} (h : w.heap[g]? = some (.cells cur t)) (j : Nat) (v : Value) : (w.setCell ⟨g, j, none⟩ v).heap[g]? = some (.cells (cur.setIfInBounds j v) t) := by
  obtain ⟨hlt, hk⟩ := Array.getElem?_eq_some_iff.1 h
  show (w.heap.modify g _)[g]? = _
  rw [Array.getElem?_eq_getElem (by rw [Array.size_modify]; exact hlt), Array.getElem_modify_self, hk]
  rfl
end Go.Proofs.YtgoogfbphilpmaaGreatDoor
namespace Go.Proofs.YtgoogfbphilpmaaGreatDoor
open Go.RowKit Go.Shelf Go.Maps
set_option linter.unusedVariables false
end Go.Proofs.YtgoogfbphilpmaaGreatDoor
namespace Go.Proofs.YtgoogfbphilpmaaGreatDoor
set_option linter.unusedVariables false
end Go.Proofs.YtgoogfbphilpmaaGreatDoor
namespace Go.Proofs.YtgoogfbphilpmaaGreatDoor
open Go.RowKit Go.Shelf Go.Maps
set_option linter.unusedVariables false
end Go.Proofs.YtgoogfbphilpmaaGreatDoor
namespace Go.Proofs.YtgoogfbphilpmaaGreatDoor
open Go.RowKit Go.Shelf Go.Maps
set_option linter.unusedVariables false
end Go.Proofs.YtgoogfbphilpmaaGreatDoor
namespace Go.Proofs.YtgoogfbphilpmaaGreatDoor
open Go.RowKit Go.Shelf
set_option linter.unusedVariables false
mutual
/-- A tree in memory is that tree but for places. -/
def Tq : RT → Nd → Prop
  | .mk k T a b c d s _, .mk kd T' C s' _ => k = (kd : Int) ∧ T' = T ∧ a = (wd C 0 : Nat) ∧ b = (wd C 1 : Nat) ∧ c = (wd C 2 : Nat) ∧ d = (wd C 3 : Nat) ∧ TqL s s'
def TqL : List RT → List Nd → Prop
  | [], [] => True
  | t :: r, n :: q => Tq t n ∧ TqL r q
  | _, _ => False
end
theorem TqL.len : ∀ {s : List RT} {q : List Nd}, TqL s q → ndLen q = rtLen s ∧ q.isEmpty = s.isEmpty
  | [], [], _ => ⟨rfl, rfl⟩
  | [], _ :: _, h => by simp [TqL] at h
  | _ :: _, [], h => by simp [TqL] at h
  | t :: r, n :: q, h => by
    rw [TqL] at h
    exact ⟨by rw [ndLen, rtLen, h.2.len.1], rfl⟩
mutual
theorem rt_v {w : World} {B s0 : Nat} (hB : B ≤ s0) : ∀ (t : RT) (n : Nd) (cs : List Value), Tq t n → RtIs w B t cs → NdV s0 w n cs
  | .mk k T a b c d s p, .mk kd T' C s' pn, cs, h, ht => by
    rw [Tq] at h
    obtain ⟨rfl, rfl, rfl, rfl, rfl, rfl, hs⟩ := h
    rw [RtIs] at ht
    obtain ⟨so, cap, rfl, ht⟩ := ht
    rw [NdV]
    refine ⟨so, cap, p, by rw [hs.len.1], ?_⟩
    rcases ht with h1 | ⟨h1, g, o, rfl, h3, h4, h5⟩
    · exact .inl (by rw [hs.len.2]; exact h1)
    · exact .inr ⟨by rw [hs.len.2]; exact h1, g, o, rfl, by omega, by rw [hs.len.1]; exact h4, rts_v hB s s' g o hs h5⟩
theorem rts_v {w : World} {B s0 : Nat} (hB : B ≤ s0) : ∀ (s : List RT) (q : List Nd) (g o : Nat), TqL s q → RtsIs w B g o s → NdsV s0 w g o q
  | [], [], g, o, _, _ => by rw [NdsV]; trivial
  | [], _ :: _, _, _, h, _ => by simp [TqL] at h
  | _ :: _, [], _, _, h, _ => by simp [TqL] at h
  | t :: r, n :: q, g, o, h, ht => by
    rw [TqL] at h
    rw [RtsIs] at ht
    obtain ⟨⟨cs, h1, h2⟩, h3⟩ := ht
    rw [NdsV]
    exact ⟨⟨cs, rt_v hB t n cs h.1 h1, h2⟩, rts_v hB r q g _ h.2 h3⟩
end
/-- Rules in memory are those rules but for places. -/
def TqR : List Rr → List Rl → Prop
  | [], [] => True
  | x :: r, y :: q => y.1 = x.1 ∧ Tq x.2.1 y.2.1 ∧ TqR r q
  | _, _ => False
theorem TqR.len : ∀ {rs : List Rr} {ns : List Rl}, TqR rs ns → ns.length = rs.length
  | [], [], _ => rfl
  | [], _ :: _, h => by simp [TqR] at h
  | _ :: _, [], h => by simp [TqR] at h
  | x :: r, y :: q, h => by
    rw [TqR] at h
    simp [h.2.2.len]
theorem TqR.get : ∀ {rs : List Rr} {ns : List Rl}, TqR rs ns → ∀ (j : Nat) (h1 : j < rs.length) (h2 : j < ns.length), ns[j].1 = rs[j].1 ∧ Tq rs[j].2.1 ns[j].2.1
  | [], [], _, j, h1, _ => by simp at h1
  | [], _ :: _, h, _, _, _ => by simp [TqR] at h
  | _ :: _, [], h, _, _, _ => by simp [TqR] at h
  | x :: r, y :: q, h, 0, _, _ => by
    rw [TqR] at h
    exact ⟨h.1, h.2.1⟩
  | x :: r, y :: q, h, j + 1, h1, h2 => by
    rw [TqR] at h
    exact h.2.2.get j (by simpa using h1) (by simpa using h2)
theorem rg_v {w : World} {B s0 n : Nat} {so : Option Addr} {rs : List Rr} {ns : List Rl} (hB : B ≤ s0) (hq : TqR rs ns) (h : RgIs w B so n rs) : RgV s0 w so n ns := by
  refine ⟨by rw [hq.len]; exact h.1, h.2.1, fun j hj => ?_⟩
  have hj' : j < rs.length := by rw [← hq.len]; exact hj
  obtain ⟨g, o, h1, hg, k, T, a, b, c, d, so1, n1, cap, p, rt, z0, z1, z2, z3, z4, z5, z6, z7, z8, z9⟩ := h.2.2 j hj'
  obtain ⟨e1, e2⟩ := hq.get j hj' hj
  have hv := rt_v hB _ _ _ e2 rt
  obtain ⟨kd, T1, C, so2, sl, sc, p1, e3⟩ := hv.shape
  dsimp only [r8, v8] at e3
  cases e3
  exact ⟨g, o, h1, by omega, kd, T, C, so1, n1, cap, p, _, hv, by rw [e1]; exact z0, z1, z2, z3, z4, z5, z6, z7, z8, z9⟩
set_option maxRecDepth 100000 in
set_option maxHeartbeats 8000000 in
theorem nprint_bad (so : Option Addr) (n cap : Nat) (rs : List Rr) (B : Nat) (w : World) (hz : RgZ rs) (h : RgIs w B so n rs) (hB : B ≤ w.heap.size) (hk : okG rs = false) :
    Calls Tryz.prog 46 #[.agg #[.slice so n cap]] w fun e w' => e = .returned (.tuple #[.string { data := #[] }, .iface 43 (.int .i64 20)]) ∧ Below w.heap.size w w' := by
  have HI := hid (fun (W : World) (hb : Below w.heap.size w W) => nistree_any so n cap rs B W hz (h.below (hb.mono hB)) (Nat.le_trans hB hb.size))
  rw [hk] at HI
  clear h hz
  go_enter Tryz.func46, Tryz.ntmps46
  go_wp2_with (first | (go_at_call 70; refine (HI.out _ ?hh).mono ?_; (case hh => exact (Below.refl _ _).alloc (Nat.le_refl _) _); rintro e wq ⟨rfl, hbq⟩))
  go_ret2
  exact ⟨rfl, ((Below.refl _ w).alloc (Nat.le_refl _) _).trans (hbq.mono (by simp))⟩
set_option maxRecDepth 100000 in
set_option maxHeartbeats 8000000 in
theorem nprint_ok (so : Option Addr) (n cap : Nat) (rs : List Rr) (ns : List Rl) (B : Nat) (w : World) (hz : RgZ rs) (h : RgIs w B so n rs) (hB : B ≤ w.heap.size) (hk : okG rs = true) (hq : TqR rs ns) (hx : ∀ x ∈ ns, Ruk Nmq x) (hT : TabIs w) :
    Calls Tryz.prog 46 #[.agg #[.slice so n cap]] w fun e w' => e = .returned (ansT ns) ∧ Below w.heap.size w w' := by
  have HI := hid (fun (W : World) (hb : Below w.heap.size w W) => nistree_any so n cap rs B W hz (h.below (hb.mono hB)) (Nat.le_trans hB hb.size))
  have HT := hid (fun (W : World) (hb : Below w.heap.size w W) => ntext_any hx n cap so W (rg_v (Nat.le_trans hB hb.size) hq (h.below (hb.mono hB))) (hT.below hb hT.lt))
  rw [hk] at HI
  obtain ⟨A, E, hA⟩ : ∃ A E, ansT ns = .tuple #[A, E] := by
    unfold ansT
    split
    · exact ⟨_, _, rfl⟩
    · split
      · exact ⟨_, _, rfl⟩
      · exact ⟨_, _, rfl⟩
  rw [hA] at HT ⊢
  obtain ⟨W1, hW1⟩ : ∃ W1, W1 = w.alloc (.cells #[.slice so n cap] 24) := ⟨_, rfl⟩
  have HB1 : Hid (Below w.heap.size w W1) := by rw [hW1]; exact (Below.refl _ w).alloc (Nat.le_refl _) _
  have HC1 : Hid (W1.heap[w.heap.size]? = some (.cells #[.slice so n cap] 24)) := by rw [hW1]; exact new_block_at w _ rfl
  have HZ1 : Hid (W1.heap.size = w.heap.size + 1) := by rw [hW1]; exact World.size_alloc _ _
  have HW1 := hid hW1
  clear hW1 h hz hT hx hq hA
  go_enter Tryz.func46, Tryz.ntmps46
  go_wp2_with (first | (go_at_call 70; rw [← HW1.out]; refine (HI.out _ HB1.out).mono ?_; rintro e wq ⟨rfl, hbq⟩; have c0 := (one_cell ((hbq.block _ (by rw [HZ1.out]; exact Nat.lt_succ_self _)).trans HC1.out)).1; have HBq : Hid (Below w.heap.size w wq) := HB1.out.trans (hbq.mono HB1.out.size)) | (go_at_call 71; refine (HT.out _ HBq.out).mono ?_; rintro e wz ⟨rfl, hbz⟩))
  go_ret2
  exact ⟨rfl, HBq.out.trans (hbz.mono HBq.out.size)⟩
end Go.Proofs.YtgoogfbphilpmaaGreatDoor
namespace Go.Proofs.YtgoogfbphilpmaaGreatDoor
open Go.RowKit Go.Shelf
set_option linter.unusedVariables false
mutual
/-- A tree that was read, as it lies in memory. -/
def toR : Nd → RT
  | .mk kd T C s p => .mk (kd : Int) T (wd C 0 : Nat) (wd C 1 : Nat) (wd C 2 : Nat) (wd C 3 : Nat) (toRs s) (p : Int)
def toRs : List Nd → List RT
  | [] => []
  | n :: r => toR n :: toRs r
end
mutual
theorem tq_toR : ∀ n : Nd, Tq (toR n) n
  | .mk kd T C s p => by
    rw [toR, Tq]
    exact ⟨rfl, rfl, rfl, rfl, rfl, rfl, tq_toRs s⟩
theorem tq_toRs : ∀ s : List Nd, TqL (toRs s) s
  | [] => by rw [toRs, TqL]; trivial
  | n :: r => by
    rw [toRs, TqL]
    exact ⟨tq_toR n, tq_toRs r⟩
end
theorem toRs_len : ∀ s : List Nd, rtLen (toRs s) = ndLen s ∧ (toRs s).isEmpty = s.isEmpty
  | [] => ⟨rfl, rfl⟩
  | n :: r => ⟨by rw [toRs, rtLen, ndLen, (toRs_len r).1], by rw [toRs]; rfl⟩
mutual
theorem nd_rt {w : World} {P : Nat → Prop} : ∀ (n : Nd) (cs : List Value), Sm n n → NdIs w P n cs → RtIs w w.heap.size (toR n) cs
  | .mk kd T C s p, cs, hs, h => by
    rw [Sm] at hs
    rw [NdIs] at h
    obtain ⟨_, _, _, hl, hn⟩ := hs
    obtain ⟨sv, rfl, h⟩ := h
    rw [toR, RtIs]
    rcases h with ⟨h1, rfl⟩ | ⟨h1, g, cap, cur, rfl, _, hg, _, h5⟩
    · have hs0 : s = [] := by simpa using h1
      subst hs0
      exact ⟨none, 0, rfl, .inl rfl⟩
    · refine ⟨some ⟨g, 0, none⟩, cap, by rw [(toRs_len s).1], .inr ⟨by rw [(toRs_len s).2]; exact h1, g, 0, rfl, node_lt hg, by rw [(toRs_len s).1, ndLen_eq]; unfold maxLen; omega, nds_rt s cur.toList g 0 hl h5 fun j u hj => ?_⟩⟩
      rw [Array.getElem?_toList] at hj
      simp [World.cell?, hg, hj]
theorem nds_rt {w : World} {P : Nat → Prop} : ∀ (s : List Nd) (vs : List Value) (g o : Nat), SmL s s → NdsIs w P s vs → (∀ j u, vs[j]? = some u → w.cell? ⟨g, o + j, none⟩ = some u) → RtsIs w w.heap.size g o (toRs s)
  | [], vs, g, o, _, _, _ => by rw [toRs, RtsIs]; trivial
  | n :: r, vs, g, o, hs, h, hc => by
    rw [SmL] at hs
    rw [NdsIs] at h
    obtain ⟨c, rest, rfl, h1, h2⟩ := h
    have hl := h1.len
    rw [toRs, RtsIs]
    refine ⟨⟨c, nd_rt n c hs.1 h1, fun j u hj => hc j u ?_⟩, nds_rt r rest g (o + 8) hs.2 h2 fun j u hj => ?_⟩
    · have : j < c.length := (List.getElem?_eq_some_iff.1 hj).1
      rw [List.getElem?_append_left this]
      exact hj
    · rw [Nat.add_assoc]
      refine hc (8 + j) u ?_
      rw [List.getElem?_append_right (by omega), hl, Nat.add_sub_cancel_left]
      exact hj
end
theorem empty_list {T : ByteArray} (h : T = { data := #[] }) : T.toList.isEmpty = true := by
  subst h
  rw [ByteArray.toList_eq]
  rfl
theorem list_empty {T : ByteArray} (h : T.toList.isEmpty = true) : T = { data := #[] } := by
  rw [ByteArray.toList_eq] at h
  apply ByteArray.ext
  simpa using h
theorem TqL.length {s : List RT} {q : List Nd} (h : TqL s q) : q.length = rtLen s := by rw [← ndLen_eq]; exact h.len.1
theorem zc_zero : zc ((wd 0 0 : Nat) : Int) ((wd 0 1 : Nat) : Int) ((wd 0 2 : Nat) : Int) ((wd 0 3 : Nat) : Int) = true := by decide
theorem okN_of {kd : Nat} {T : ByteArray} {C n : Nat} {s : List Nd} (hn : s.length = n) (hv : (kd = 1 ∧ T = { data := #[] } ∧ C = 0 ∧ s = []) ∨ (kd = 2 ∧ C = 0 ∧ s = []) ∨ (kd = 3 ∧ T = { data := #[] } ∧ s = []) ∨ (kd = 4 ∧ T = { data := #[] } ∧ C = 0 ∧ s = []) ∨ (kd = 5 ∧ C = 0 ∧ s = []) ∨
      ((kd = 6 ∨ kd = 7) ∧ T = { data := #[] } ∧ C = 0 ∧ 2 ≤ s.length) ∨ (8 ≤ kd ∧ kd ≤ 12 ∧ T = { data := #[] } ∧ C = 0 ∧ s.length = 1)) (w2 : kd = 2 → T.size ≤ 255) (w5 : kd = 5 → nmS T = true) :
    okN (kd : Int) T (wd C 0 : Nat) (wd C 1 : Nat) (wd C 2 : Nat) (wd C 3 : Nat) n = true := by
  unfold okN
  subst hn
  rcases hv with ⟨rfl, hT, rfl, rfl⟩ | ⟨rfl, rfl, rfl⟩ | ⟨rfl, hT, rfl⟩ | ⟨rfl, hT, rfl, rfl⟩ | ⟨rfl, rfl, rfl⟩ | ⟨hk, hT, rfl, hl⟩ | ⟨h8, h12, hT, rfl, hl⟩
  · rw [if_pos (by decide), empty_list hT, zc_zero]; rfl
  · rw [if_neg (by decide), if_pos (by decide), zc_zero, decide_eq_true (by have := w2 rfl; omega)]; rfl
  · rw [if_neg (by decide), if_neg (by decide), if_pos (by decide), empty_list hT]; rfl
  · rw [if_pos (by decide), empty_list hT, zc_zero]; rfl
  · rw [if_neg (by decide), if_neg (by decide), if_neg (by decide), if_pos (by decide), zc_zero, w5 rfl]; rfl
  · rw [if_neg (by omega), if_neg (by omega), if_neg (by omega), if_neg (by omega), if_pos (by omega), empty_list hT, zc_zero, decide_eq_true (by omega)]; rfl
  · rw [if_neg (by omega), if_neg (by omega), if_neg (by omega), if_neg (by omega), if_neg (by omega), if_pos (by omega), empty_list hT, zc_zero, hl]; rfl
mutual
/-- What may be printed is found to be so. -/
theorem okT_of : ∀ (t : RT) (n : Nd), Tq t n → Vk n → Wf Nmq n → okT t = true ∧ RtZ t
  | .mk k T a b c d s p, .mk kd T' C s' pn, h, hv, hw => by
    rw [Tq] at h
    obtain ⟨rfl, rfl, rfl, rfl, rfl, rfl, hs⟩ := h
    have hkd := hv.kd
    rw [Vk] at hv
    rw [Wf] at hw
    obtain ⟨hv1, hvs⟩ := hv
    obtain ⟨w2, w5, wc, ws⟩ := hw
    obtain ⟨h1, h2⟩ := okL_of s s' hs hvs ws
    rw [okT, RtZ, h1, Bool.and_true]
    refine ⟨okN_of hs.length hv1 w2 w5, ?_, h2⟩
    have hz : ∀ T : ByteArray, T = { data := #[] } → T.size ≤ 9223372036854775807 := fun T h => by rw [h]; decide
    rcases hv1 with q | q | q | q | q | q | q
    · exact hz _ q.2.1
    · have := w2 q.1; omega
    · exact hz _ q.2.1
    · exact hz _ q.2.1
    · have := nm_size (w5 q.1); omega
    · exact hz _ q.2.1
    · exact hz _ q.2.2.1
theorem okL_of : ∀ (s : List RT) (q : List Nd), TqL s q → VkL q → WfL Nmq q → okL s = true ∧ RtsZ s
  | [], [], _, _, _ => by rw [okL, RtsZ]; exact ⟨rfl, trivial⟩
  | [], _ :: _, h, _, _ => by simp [TqL] at h
  | _ :: _, [], h, _, _ => by simp [TqL] at h
  | t :: r, n :: q, h, hv, hw => by
    rw [TqL] at h
    rw [VkL] at hv
    rw [WfL] at hw
    obtain ⟨a1, a2⟩ := okT_of t n h.1 hv.1 hw.1
    obtain ⟨b1, b2⟩ := okL_of r q h.2 hv.2 hw.2
    rw [okL, RtsZ, a1, b1]
    exact ⟨rfl, a2, b2⟩
end
end Go.Proofs.YtgoogfbphilpmaaGreatDoor
namespace Go.Proofs.YtgoogfbphilpmaaGreatDoor
open Go.RowKit
set_option linter.unusedVariables false
structure Ly (L1 L2 : List Tok) : Prop where
  len : L2.length = L1.length
  same : ∀ k, tk3 (gL L2 k) = tk3 (gL L1 k)
  big : L1.length ≤ 10000
def Rq (r1 r2 : Pr) : Prop := match r1, r2 with
  | .inr (n, k), .inr (n', k') => k' = k ∧ Sm n n'
  | .inl c, .inl c' => c'.1 = c.1
  | _, _ => False
theorem Rq.cases {r1 r2 : Pr} (h : Rq r1 r2) : (∃ n n' k, r1 = .inr (n, k) ∧ r2 = .inr (n', k) ∧ Sm n n') ∨ (∃ c c', r1 = .inl c ∧ r2 = .inl c' ∧ c'.1 = c.1) := by
  cases r1 with
  | inl c => cases r2 with
    | inl c' => exact .inr ⟨c, c', rfl, rfl, h⟩
    | inr q => exact h.elim
  | inr p => cases r2 with
    | inl c' => exact h.elim
    | inr q =>
      obtain ⟨n, k⟩ := p
      obtain ⟨n', k'⟩ := q
      obtain ⟨h1, h2⟩ := h
      subst h1
      exact .inl ⟨n, n', k', rfl, rfl, h2⟩
section
variable {L1 L2 : List Tok}
theorem Ly.kd (h : Ly L1 L2) (k : Nat) : (gL L2 k).1 = (gL L1 k).1 ∧ (gL L2 k).2.1 = (gL L1 k).2.1 ∧ (gL L2 k).2.2.1 = (gL L1 k).2.2.1 := by
  have := h.same k
  unfold tk3 at this
  simp only [Prod.mk.injEq] at this
  exact this
theorem Ly.sg (h : Ly L1 L2) (k : Nat) : sgT (gL L2 k) = sgT (gL L1 k) := sgT_eq (h.same k)
theorem Ly.wr (h : Ly L1 L2) (k : Nat) : wrC (gL L2 k) = wrC (gL L1 k) := by unfold wrC; rw [(h.kd k).1]
theorem Ly.hd (h : Ly L1 L2) (k : Nat) : hdB L2 k = hdB L1 k := by
  have hl := h.len
  rcases Nat.lt_or_ge (k + 1) L1.length with h1 | h1
  · rw [hdB_gL L1 k h1, hdB_gL L2 k (by omega), (h.kd k).1, (h.kd (k + 1)).1]
  · unfold hdB
    rw [List.getElem?_eq_none (show L1.length ≤ k + 1 by omega), List.getElem?_eq_none (show L2.length ≤ k + 1 by omega)]
    cases L2[k]? <;> cases L1[k]? <;> rfl
theorem Ly.pt (h : Ly L1 L2) (k : Nat) : ptB L2 k (gL L2 k) = ptB L1 k (gL L1 k) := by
  unfold ptB
  rw [(h.kd k).1, (h.kd k).2.1, h.hd k]
theorem one_q (h : Ly L1 L2) {i1 i2 : Nat → Pr} (hi : ∀ k, Rq (i1 k) (i2 k)) (k : Nat) : Rq (oneS L1 i1 k) (oneS L2 i2 k) := by
  have q := h.kd k
  unfold oneS
  simp only [q.1, q.2.1, q.2.2, h.hd k, h.sg k, h.wr k]
  split
  · exact ⟨rfl, Sm_mk SmL_nil (by simp)⟩
  · split
    · exact ⟨rfl, Sm_mk SmL_nil (by simp)⟩
    · split
      · exact ⟨rfl, Sm_mk SmL_nil (by simp)⟩
      · split
        · exact ⟨rfl, Sm_mk SmL_nil (by simp)⟩
        · split
          · exact hi k
          · exact (rfl : wrC (gL L1 k) = wrC (gL L1 k))
theorem rep_q (h : Ly L1 L2) {r1 r2 : Pr} (hr : Rq r1 r2) : Rq (repE L1 r1) (repE L2 r2) := by
  rcases hr.cases with ⟨n, n', k, rfl, rfl, hs⟩ | ⟨c, c', rfl, rfl, hc⟩
  · unfold repE
    simp only [h.sg k]
    split
    · exact ⟨rfl, hs⟩
    · exact ⟨rfl, Sm_mk (SmL_one hs) (by simp)⟩
  · exact hc
theorem ov_q {kd p p' : Nat} {r1 r2 : Pr} (hr : Rq r1 r2) : Rq (ovS kd p r1) (ovS kd p' r2) := by
  rcases hr.cases with ⟨n, n', k, rfl, rfl, hs⟩ | ⟨c, c', rfl, rfl, hc⟩
  · exact ⟨rfl, Sm_mk (SmL_one hs) (by simp)⟩
  · exact hc
theorem part_q (h : Ly L1 L2) {i1 i2 : Nat → Pr} (hi : ∀ k, Rq (i1 k) (i2 k)) (k : Nat) : Rq (partS L1 i1 k) (partS L2 i2 k) := by
  unfold partS
  simp only [h.sg k]
  split
  · exact ov_q (rep_q h (one_q h hi (k + 1)))
  · split
    · exact ov_q (rep_q h (one_q h hi (k + 1)))
    · exact rep_q h (one_q h hi k)
theorem row_q (h : Ly L1 L2) {i1 i2 : Nat → Pr} (hi : ∀ k, Rq (i1 k) (i2 k)) : ∀ (f k : Nat) (a1 a2 : List Nd), SmL a1 a2 → a1.length + f ≤ 1000000 → Rq (rowS L1 i1 f k a1) (rowS L2 i2 f k a2)
  | 0, k, a1, a2, _, _ => by
    rw [rowS, rowS]
    exact (rfl : (0 : Nat) = 0)
  | f + 1, k, a1, a2, ha, hl => by
    have hp := part_q h hi k
    rw [rowS, rowS, h.pt k]
    split
    · rcases hp.cases with ⟨n, n', k', e1, e2, hs⟩ | ⟨c, c', e1, e2, hc⟩
      · rw [e1, e2]
        exact row_q h hi f k' (a1 ++ [n]) (a2 ++ [n']) (SmL_snoc ha hs) (by simp; omega)
      · rw [e1, e2]
        exact hc
    · have hle := ha.len
      have hem : a2.isEmpty = a1.isEmpty := by
        cases a1 with
        | nil => cases a2 with
          | nil => rfl
          | cons _ _ => simp at hle
        | cons _ _ => cases a2 with
          | nil => simp at hle
          | cons _ _ => rfl
      rw [hem]
      split
      · exact ⟨rfl, Sm_mk SmL_nil (by simp)⟩
      · rename_i hne
        exact ⟨rfl, Sm_join 6 ha (by omega) (fun he => hne (by rw [he]; rfl))⟩
theorem alt_q (h : Ly L1 L2) {i1 i2 : Nat → Pr} (hi : ∀ k, Rq (i1 k) (i2 k)) : ∀ (f k : Nat) (a1 a2 : List Nd), SmL a1 a2 → a1 ≠ [] → a1.length + f ≤ 1000000 → Rq (altS L1 i1 f k a1) (altS L2 i2 f k a2)
  | 0, k, a1, a2, _, _, _ => by
    rw [altS, altS]
    exact (rfl : (0 : Nat) = 0)
  | f + 1, k, a1, a2, ha, hne, hl => by
    have hbig := h.big
    have hp := row_q h hi L1.length (k + 1) [] [] SmL_nil (by simp; omega)
    rw [altS, altS, h.len]
    simp only [h.sg k]
    split
    · rcases hp.cases with ⟨n, n', k', e1, e2, hs⟩ | ⟨c, c', e1, e2, hc⟩
      · rw [e1, e2]
        exact alt_q h hi f k' (a1 ++ [n]) (a2 ++ [n']) (SmL_snoc ha hs) (by simp) (by simp; omega)
      · rw [e1, e2]
        exact hc
    · exact ⟨rfl, Sm_join 7 ha (by omega) hne⟩
theorem ch_q (h : Ly L1 L2) {i1 i2 : Nat → Pr} (hi : ∀ k, Rq (i1 k) (i2 k)) (k : Nat) : Rq (chS L1 i1 k) (chS L2 i2 k) := by
  have hbig := h.big
  have hp := row_q h hi L1.length k [] [] SmL_nil (by simp; omega)
  unfold chS
  rw [h.len]
  rcases hp.cases with ⟨n, n', k', e1, e2, hs⟩ | ⟨c, c', e1, e2, hc⟩
  · rw [e1, e2]
    unfold chE
    simp only
    rw [h.len]
    exact alt_q h hi L1.length k' [n] [n'] (SmL_one hs) (by simp) (by simp; omega)
  · rw [e1, e2]
    exact hc
theorem inn_q (h : Ly L1 L2) : ∀ (d k : Nat), Rq (innS L1 d k) (innS L2 d k)
  | 0, k => by
    rw [innS, innS]
    exact (rfl : (2 : Nat) = 2)
  | d + 1, k => by
    have hp := ch_q h (inn_q h d) (k + 1)
    rw [innS, innS]
    rcases hp.cases with ⟨n, n', k', e1, e2, hs⟩ | ⟨c, c', e1, e2, hc⟩
    · rw [e1, e2]
      unfold innE
      simp only [h.sg k', h.wr k']
      split
      · exact ⟨rfl, hs⟩
      · exact (rfl : wrC (gL L1 k') = wrC (gL L1 k'))
    · rw [e1, e2]
      exact hc
def Ru (r1 r2 : (Nat × Nat) ⊕ (Rl × Nat)) : Prop := (∃ x y k, r1 = .inr (x, k) ∧ r2 = .inr (y, k) ∧ RlS x y) ∨ (∃ c c', r1 = .inl c ∧ r2 = .inl c' ∧ c'.1 = c.1)
theorem ru_q (h : Ly L1 L2) (ru k : Nat) : Ru (ruS L1 ru k) (ruS L2 ru k) := by
  have hp := ch_q h (inn_q h 24) (k + 2)
  unfold ruS
  rw [(h.kd k).1, (h.kd (k + 1)).1, h.wr k, h.wr (k + 1)]
  split
  · exact .inr ⟨_, _, rfl, rfl, rfl⟩
  · split
    · exact .inr ⟨_, _, rfl, rfl, rfl⟩
    · split
      · exact .inr ⟨_, _, rfl, rfl, rfl⟩
      · rcases hp.cases with ⟨n, n', k', e1, e2, hs⟩ | ⟨c, c', e1, e2, hc⟩
        · rw [e1, e2]
          exact .inl ⟨_, _, _, rfl, rfl, (h.kd k).2.1, hs⟩
        · rw [e1, e2]
          exact .inr ⟨_, _, rfl, rfl, hc⟩
def Rg (r1 r2 : (Nat × Nat) ⊕ List Rl) : Prop := (∃ x y, r1 = .inr x ∧ r2 = .inr y ∧ RlL x y) ∨ (∃ c c', r1 = .inl c ∧ r2 = .inl c' ∧ c'.1 = c.1)
theorem rls_q (h : Ly L1 L2) : ∀ (f k : Nat) (a1 a2 : List Rl), RlL a1 a2 → Rg (rlsS L1 f k a1) (rlsS L2 f k a2)
  | 0, k, a1, a2, _ => by
    rw [rlsS, rlsS]
    exact .inr ⟨_, _, rfl, rfl, rfl⟩
  | f + 1, k, a1, a2, ha => by
    rw [rlsS, rlsS, (h.kd k).1, ha.len]
    split
    · exact .inl ⟨_, _, rfl, rfl, ha⟩
    · rcases ru_q h a1.length k with ⟨x, y, k', e1, e2, hs⟩ | ⟨c, c', e1, e2, hc⟩
      · rw [e1, e2]
        exact rls_q h f k' (a1 ++ [x]) (a2 ++ [y]) (ha.app (by rw [RlL]; exact ⟨hs, by rw [RlL]; trivial⟩))
      · rw [e1, e2]
        exact .inr ⟨_, _, rfl, rfl, hc⟩
theorem gra_q (h : Ly L1 L2) : Rg (graS L1) (graS L2) := by
  unfold graS
  rcases ru_q h 0 0 with ⟨x, y, k', e1, e2, hs⟩ | ⟨c, c', e1, e2, hc⟩
  · rw [e1, e2]
    unfold graE
    simp only
    rw [h.len]
    exact rls_q h L1.length k' [x] [y] (by rw [RlL]; exact ⟨hs, by rw [RlL]; trivial⟩)
  · rw [e1, e2]
    exact .inr ⟨_, _, rfl, rfl, hc⟩
end
end Go.Proofs.YtgoogfbphilpmaaGreatDoor
namespace Go.Proofs.YtgoogfbphilpmaaGreatDoor
open Go.RowKit Go.Shelf
set_option linter.unusedVariables false
theorem par_inv {S : ByteArray} {rs : List Rl} (h : parS S = .inr rs) : ∃ m, tks S (sb S 0) [] = .inr m ∧ (∀ t ∈ m, TokOk t) ∧ m.length ≤ S.size ∧ graS (m ++ [(6, { data := #[] }, 0, S.size)]) = .inr rs := by
  unfold parS at h
  cases ht : tkS S with
  | inl c => rw [ht] at h; cases h
  | inr L =>
    rw [ht] at h
    obtain ⟨m, hm, rfl⟩ := tkS_inv ht
    have hgood := tkl_good _ _ _ _ _ hm (fun t ht => by simp at ht)
    refine ⟨m, hm, hgood.1, ?_, h⟩
    have h2 := hgood.2
    simp at h2
    omega
theorem rls_le (L : List Tok) : ∀ (f k : Nat) (acc rs : List Rl), rlsS L f k acc = .inr rs → acc.length ≤ 64 → rs.length ≤ 64 ∧ acc.length ≤ rs.length
  | 0, _, _, _, h, _ => by rw [rlsS] at h; cases h
  | f + 1, k, acc, rs, h, ha => by
    rw [rlsS] at h
    split at h
    · simp only [Sum.inr.injEq] at h; subst h; exact ⟨ha, Nat.le_refl _⟩
    · split at h
      · cases h
      · rename_i x k' hr
        have := ruS_ne hr
        have h2 := rls_le L f k' (acc ++ [x]) rs h (by simp; omega)
        rw [List.length_append] at h2
        exact ⟨h2.1, by omega⟩
theorem par_le {S : ByteArray} {rs : List Rl} (h : parS S = .inr rs) : rs.length ≤ 64 ∧ 1 ≤ rs.length := by
  obtain ⟨m, _, _, _, hg⟩ := par_inv h
  unfold graS at hg
  cases hr : ruS (m ++ [(6, { data := #[] }, 0, S.size)]) 0 0 with
  | inl c => rw [hr] at hg; cases hg
  | inr q =>
    obtain ⟨x, k⟩ := q
    rw [hr] at hg
    exact rls_le _ _ _ _ _ hg (by simp)
theorem rll_mem : ∀ {s : List Rl}, RlL s s → ∀ x ∈ s, Sm x.2.1 x.2.1
  | [], _, x, hx => by simp at hx
  | a :: r, h, x, hx => by
    rw [RlL] at h
    rcases List.mem_cons.1 hx with rfl | hx
    · exact h.1.2
    · exact rll_mem h.2 x hx
theorem par_sm {S : ByteArray} {rs : List Rl} (hS : S.size ≤ 8192) (h : parS S = .inr rs) : RlL rs rs := by
  obtain ⟨m, _, _, hl, hg⟩ := par_inv h
  rcases gra_q (L1 := m ++ [(6, { data := #[] }, 0, S.size)]) ⟨rfl, fun _ => rfl, by simp; omega⟩ with ⟨x, y, e1, e2, hs⟩ | ⟨c, c', e1, _, _⟩
  · rw [hg] at e1 e2
    cases e1
    cases e2
    exact hs
  · rw [hg] at e1
    cases e1
/-- What was read, as it lies in memory. -/
def toG (rs : List Rl) : List Rr := rs.map fun x => (x.1, toR x.2.1, (x.2.2 : Int))
theorem toG_q : ∀ rs : List Rl, TqR (toG rs) rs
  | [] => by unfold toG; rw [List.map_nil, TqR]; trivial
  | x :: r => by
    have := toG_q r
    unfold toG at this ⊢
    rw [List.map_cons, TqR]
    exact ⟨rfl, tq_toR _, this⟩
theorem toG_is {W : World} {B g n cap : Nat} {rs : List Rl} (h : RoR B (.slice (some ⟨g, 0, none⟩) n cap) rs W) (hs : ∀ x ∈ rs, Sm x.2.1 x.2.1) (h64 : rs.length ≤ 64) : RgIs W W.heap.size (some ⟨g, 0, none⟩) n (toG rs) := by
  have hl : n = rs.length := h.len
  have hgl : (toG rs).length = rs.length := by unfold toG; rw [List.length_map]
  refine ⟨by omega, by unfold maxLen; omega, fun j hj => ?_⟩
  have hj' : j < rs.length := by omega
  obtain ⟨c, ⟨cs, rfl, hn⟩, h2⟩ := h.get j hj'
  have e : (toG rs)[j] = (rs[j].1, toR rs[j].2.1, (rs[j].2.2 : Int)) := List.getElem_map _
  have rt := nd_rt _ _ (hs _ (List.getElem_mem hj')) hn
  obtain ⟨k, T, a, b, c, d, so, n1, cap1, p, rfl⟩ := rt.shape
  refine ⟨g, 0, rfl, h.lt, ?_⟩
  rw [e, Nat.zero_add]
  exact ⟨k, T, a, b, c, d, so, n1, cap1, p, rt, h2 0 _ rfl, h2 1 _ rfl, h2 2 _ rfl, h2 3 _ rfl, h2 4 _ rfl, h2 5 _ rfl, h2 6 _ rfl, h2 7 _ rfl, h2 8 _ rfl, h2 9 _ rfl⟩
theorem ok_all : ∀ {rs : List Rr} {ns : List Rl}, TqR rs ns → (∀ x ∈ ns, Ruk Nmq x) → rs.all okR = true ∧ RgZ rs
  | [], [], _, _ => ⟨rfl, fun x hx => by simp at hx⟩
  | [], _ :: _, h, _ => by simp [TqR] at h
  | _ :: _, [], h, _ => by simp [TqR] at h
  | x :: r, y :: q, h, hx => by
    rw [TqR] at h
    obtain ⟨h1, h2⟩ := ok_all h.2.2 (fun z hz => hx z (by simp [hz]))
    obtain ⟨n1, n2, n3⟩ := hx y (by simp)
    obtain ⟨o1, o2⟩ := okT_of _ _ h.2.1 n2 n3
    have n1' : nmS x.1 = true := by rw [← h.1]; exact n1
    refine ⟨by rw [List.all_cons, h1]; unfold okR; rw [n1', o1]; rfl, fun z hz => ?_⟩
    rcases List.mem_cons.1 hz with rfl | hz
    · exact ⟨by have := nm_size n1'; omega, o2⟩
    · exact h2 z hz
theorem okG_of {rs : List Rr} {ns : List Rl} (h : TqR rs ns) (hx : ∀ x ∈ ns, Ruk Nmq x) (h1 : 1 ≤ ns.length) (h64 : ns.length ≤ 64) : okG rs = true := by
  unfold okG
  rw [(ok_all h hx).1, decide_eq_true (by have := h.len; omega), decide_eq_true (p := rs.length ≤ 64) (by have := h.len; omega)]
  rfl
/-- printer.Print at what was read. -/
theorem nprint_read {S : ByteArray} {rs : List Rl} (hS : S.size ≤ 8192) (h : parS S = .inr rs) (B g n cap : Nat) (W : World) (hr : RoR B (.slice (some ⟨g, 0, none⟩) n cap) rs W) (hT : TabIs W) :
    Calls Tryz.prog 46 #[.agg #[.slice (some ⟨g, 0, none⟩) n cap]] W fun e w' => e = .returned (ansT rs) ∧ Below W.heap.size W w' := by
  have hx : ∀ x ∈ rs, Ruk Nmq x := fun x hx => (par_ok h x hx).1
  have hl := par_le h
  exact nprint_ok _ n cap (toG rs) rs W.heap.size W (ok_all (toG_q rs) hx).2 (toG_is hr (rll_mem (par_sm hS h)) hl.1) (Nat.le_refl _) (okG_of (toG_q rs) hx hl.2 hl.1) (toG_q rs) hx hT
end Go.Proofs.YtgoogfbphilpmaaGreatDoor
