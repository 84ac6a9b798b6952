/-
  muntinlaw06.ScopeMore answers true at any grammar, expression and place. Conditions: those that each theorem names.
-/
import Derived.Test.YtplffhmefnnieaaGreatDoorO24
import Derived.Deep.RegionLaw
import Derived.Deep.DeepCutAuto
namespace Go.Proofs.YtplffhmefnnieaaGreatDoor
open Go.RowKit Go.Shelf
set_option linter.unusedVariables false
/-- append of nothing onto nil, as a step of a region that draws. -/
theorem step_append_zero {P : Program} {w : World} {ops : Array Oper} {o : Oper} {a : Act} {K : Act → World → Prop} {Q : Exit → Act → World → Prop} {E : Prop} (hgd : o.guard = none) (s x : Operand) (t : TypeId)
    (ho : o.op = .call { callee := .builtin .append, args := #[s, x], argTypes := #[t, t] }) (e : TypeId) (i : TypeInfo) (ht : P.underlying t = some (.slice e)) (hi : P.info? e = some i) (so : Option Addr) (c : Nat)
    (hs : a.eval s = .slice none 0 0) (hx : a.eval x = .slice so 0 c) (h : K (a.put o.dst (.slice none 0 0)) w) :
    if Region.wanted o (yielded ops a.tmps) = true then Oper.wp P o a w K Q else E := by
  have hw : Region.wanted o (yielded ops a.tmps) = true := by simp [Region.wanted, hgd]
  rw [if_pos hw]
  have hr : (Builtin.append_ #[t, t] o.type #[.slice none 0 0, .slice so 0 c]).run P w = .ok (.slice none 0 0) w := by
    cases so <;> simp [Builtin.append_, run_underlying ht, sizeOf, typeInfo, hi, Builtin.lenOf, Builtin.firstCells, loadCells, loadCellsFrom]
  unfold Oper.wp execOp
  simp only [ho, resolve, invoke, builtin, Sem.run_bind, Sem.run_pure, Result.andThen_ok, List.map_toArray, List.map_cons, List.map_nil, hs, hx, hr]
  exact h
theorem keep_more {w2 W W' : World} {g h : Nat} {y0 y1 y2 y3 y4 y5 y6 y7 v : Value} (hs : Hid (Below w2.heap.size w2 W) ∧ W.cell? ⟨g, 0, none⟩ = some v ∧ W.cell? ⟨h, 0, none⟩ = some y0 ∧ W.cell? ⟨h, 1, none⟩ = some y1 ∧ W.cell? ⟨h, 2, none⟩ = some y2 ∧ W.cell? ⟨h, 3, none⟩ = some y3 ∧ W.cell? ⟨h, 4, none⟩ = some y4 ∧ W.cell? ⟨h, 5, none⟩ = some y5 ∧ W.cell? ⟨h, 6, none⟩ = some y6 ∧ W.cell? ⟨h, 7, none⟩ = some y7) (hg : Hid (g < w2.heap.size ∧ h < w2.heap.size)) (hb : Below w2.heap.size W W') :
    Hid (Below w2.heap.size w2 W') ∧ W'.cell? ⟨g, 0, none⟩ = some v ∧ W'.cell? ⟨h, 0, none⟩ = some y0 ∧ W'.cell? ⟨h, 1, none⟩ = some y1 ∧ W'.cell? ⟨h, 2, none⟩ = some y2 ∧ W'.cell? ⟨h, 3, none⟩ = some y3 ∧ W'.cell? ⟨h, 4, none⟩ = some y4 ∧ W'.cell? ⟨h, 5, none⟩ = some y5 ∧ W'.cell? ⟨h, 6, none⟩ = some y6 ∧ W'.cell? ⟨h, 7, none⟩ = some y7 := by
  obtain ⟨z, z0, z1, z2, z3, z4, z5, z6, z7, z8⟩ := hs
  have e : ∀ j, W'.cell? ⟨h, j, none⟩ = W.cell? ⟨h, j, none⟩ := fun j => hb.cell (p := ⟨h, j, none⟩) hg.out.2
  exact ⟨hid (z.out.trans hb), (hb.cell (p := ⟨g, 0, none⟩) hg.out.1).trans z0, (e _).trans z1, (e _).trans z2, (e _).trans z3, (e _).trans z4, (e _).trans z5, (e _).trans z6, (e _).trans z7, (e _).trans z8⟩
theorem keep_all {w2 W : World} (o : Obj) (h : Hid (Below w2.heap.size w2 W)) : Below w2.heap.size W (W.alloc o) := (Below.refl _ W).alloc h.out.size o
theorem keep_to {w2 W W' : World} (h : Hid (Below w2.heap.size w2 W)) (hb : Below w2.heap.size W W') : Hid (Below w2.heap.size w2 W') := hid (h.out.trans hb)
theorem keep_set {w2 W : World} {g h M : Nat} {u y0 y1 y2 y3 y4 y5 y6 y7 v : Value} (hs : Hid (Below w2.heap.size w2 W) ∧ W.cell? ⟨g, 0, none⟩ = some v ∧ W.cell? ⟨h, 0, none⟩ = some y0 ∧ W.cell? ⟨h, 1, none⟩ = some y1 ∧ W.cell? ⟨h, 2, none⟩ = some y2 ∧ W.cell? ⟨h, 3, none⟩ = some y3 ∧ W.cell? ⟨h, 4, none⟩ = some y4 ∧ W.cell? ⟨h, 5, none⟩ = some y5 ∧ W.cell? ⟨h, 6, none⟩ = some y6 ∧ W.cell? ⟨h, 7, none⟩ = some y7) (hg : Hid (g < w2.heap.size ∧ h < w2.heap.size)) (hM : Hid (M = w2.heap.size)) :
    Hid (Below w2.heap.size w2 (W.setCell ⟨M, 0, none⟩ u)) ∧ (W.setCell ⟨M, 0, none⟩ u).cell? ⟨g, 0, none⟩ = some v ∧ (W.setCell ⟨M, 0, none⟩ u).cell? ⟨h, 0, none⟩ = some y0 ∧ (W.setCell ⟨M, 0, none⟩ u).cell? ⟨h, 1, none⟩ = some y1 ∧ (W.setCell ⟨M, 0, none⟩ u).cell? ⟨h, 2, none⟩ = some y2 ∧ (W.setCell ⟨M, 0, none⟩ u).cell? ⟨h, 3, none⟩ = some y3 ∧ (W.setCell ⟨M, 0, none⟩ u).cell? ⟨h, 4, none⟩ = some y4 ∧ (W.setCell ⟨M, 0, none⟩ u).cell? ⟨h, 5, none⟩ = some y5 ∧ (W.setCell ⟨M, 0, none⟩ u).cell? ⟨h, 6, none⟩ = some y6 ∧ (W.setCell ⟨M, 0, none⟩ u).cell? ⟨h, 7, none⟩ = some y7 :=
  keep_more hs hg ((Below.refl _ W).setCell (p := ⟨M, 0, none⟩) (Nat.le_of_eq hM.out.symm) u)
theorem keep_grn {w2 W W' : World} {row : Option Nat} (h : Hid (Below w2.heap.size w2 W)) (hg : W.grownBy W' row) (hr : ∀ g, row = some g → w2.heap.size ≤ g) : Below w2.heap.size W W' := (Below.refl _ W).grown hg h.out.size hr
theorem add_is (g o j : Nat) : (⟨g, o, none⟩ : Addr).add j = ⟨g, o + j, none⟩ := by unfold Addr.add; split <;> simp_all
theorem add_lt {g o j n : Nat} (h : g < n) : ((⟨g, o, none⟩ : Addr).add j).block < n := by rw [add_is]; exact h
theorem more_row {w2 w5 : World} {M g5 n cap5 : Nat} {xs : List Value} (h : w5.ownsRow (M + 1) 60 10 (.slice (some ⟨g5, 0, none⟩) n cap5) n xs) (hM : Hid (M = w2.heap.size)) : ∀ g, Value.ownBlock (.slice (some ⟨g5, 0, none⟩) n cap5) = some g → w2.heap.size ≤ g := fun g e => by
  have := (h.lt g e).1
  have := hM.out
  omega
theorem more_A {Wz w5 w6 : World} {M g5 n cap5 : Nat} {xs : List Value} {X : Obj} (hZ : Wz.heap.size = M + 1) (hm : Wz.heap[M]? = some Zg) (h5 : Wz.drew.grownBy w5 (Value.ownBlock (.slice none 0 0))) (h : w5.ownsRow (M + 1) 60 10 (.slice (some ⟨g5, 0, none⟩) n cap5) n xs) (h6 : (w5.alloc X).grownBy w6 (Value.ownBlock (.slice (some ⟨g5, 0, none⟩) n cap5))) : w6.heap[M]? = some Zg := by
  have s5 := h5.size
  have e : Wz.drew.heap.size = M + 1 := hZ
  refine (h6.block M (by rw [World.size_alloc]; omega) (fun e => by have := (h.lt M e.symm).1; omega)).trans ((Below.heap_alloc _ _ _ (by omega)).trans ((h5.block M (by omega) (fun e => by cases e)).trans hm))
theorem more_B {Wz w5 w6 : World} {M g5 n cap5 : Nat} {xs : List Value} {X : Obj} (hZ : Wz.heap.size = M + 1) (hm : Wz.heap[M]? = some Zg) (h5 : (Wz.alloc X).drew.grownBy w5 (Value.ownBlock (.slice none 0 0))) (h : w5.ownsRow (M + 1) 60 10 (.slice (some ⟨g5, 0, none⟩) n cap5) n xs) (h6 : w5.grownBy w6 (Value.ownBlock (.slice (some ⟨g5, 0, none⟩) n cap5))) : w6.heap[M]? = some Zg := by
  have s5 : (Wz.alloc X).heap.size ≤ w5.heap.size := h5.size
  rw [World.size_alloc] at s5
  refine (h6.block M (by omega) (fun e => by have := (h.lt M e.symm).1; omega)).trans ((h5.block M (by show _ < (Wz.alloc X).heap.size; rw [World.size_alloc]; omega) (fun e => by cases e)).trans ((Below.heap_alloc _ _ _ (by omega)).trans hm))
/-- The new grammar, as the law has it in memory. -/
theorem more_end {w w2 w6 : World} {M g6 cap6 n : Nat} {so : Option Addr} {rs : List Rr} {k a1 b1 c1 d1 p : Int} {T : ByteArray} {so1 : Option Addr} {n1 cap1 : Nat} {t : RT} {xs : List Value} (hM : M = w2.heap.size) (h : RgIs w w.heap.size so n rs) (hb : Below w.heap.size w w2) (hw : Below w2.heap.size w2 w6)
    (ht : RtIs w w.heap.size t (r8 k T a1 b1 c1 d1 so1 n1 cap1 p)) (hn : n + 1 ≤ maxLen) (hl : xs.length = n * 10) (hx : ∀ g o, so = some ⟨g, o, none⟩ → ∀ i u, xs[i]? = some u → w.cell? ⟨g, o + i, none⟩ = some u)
    (hown : w6.ownsRow (M + 1) 60 10 (.slice (some ⟨g6, 0, none⟩) (n + 1) cap6) (n + 1) (xs ++ [.string { data := #[115, 99, 111, 112, 101, 109, 111, 114, 101] }, .int .i64 k, .string T, .int .u64 a1, .int .u64 b1, .int .u64 c1, .int .u64 d1, .slice so1 n1 cap1, .int .i64 p, .int .i64 0])) (v : Value) :
    RgIs (w6.setCell ⟨M, 0, none⟩ v) (w6.setCell ⟨M, 0, none⟩ v).heap.size (some ⟨g6, 0, none⟩) (n + 1) (rs ++ [({ data := #[115, 99, 111, 112, 101, 109, 111, 114, 101] }, t, 0)]) ∧ Below w2.heap.size w2 (w6.setCell ⟨M, 0, none⟩ v) := by
  have hB : Below w2.heap.size w2 (w6.setCell ⟨M, 0, none⟩ v) := hw.setCell (p := ⟨M, 0, none⟩) (by show _ ≤ M; omega) v
  refine ⟨?_, hB⟩
  have hb7 : Below w.heap.size w (w6.setCell ⟨M, 0, none⟩ v) := hb.trans (hB.mono hb.size)
  have hg6 : M + 1 ≤ g6 ∧ g6 < w6.heap.size := hown.lt g6 rfl
  have hown7 : (w6.setCell ⟨M, 0, none⟩ v).ownsRow (M + 1) 60 10 (.slice (some ⟨g6, 0, none⟩) (n + 1) cap6) (n + 1) (xs ++ [.string { data := #[115, 99, 111, 112, 101, 109, 111, 114, 101] }, .int .i64 k, .string T, .int .u64 a1, .int .u64 b1, .int .u64 c1, .int .u64 d1, .slice so1 n1 cap1, .int .i64 p, .int .i64 0]) := hown.kept (G.setR (G.refl w6 M)) (.inr (fun e => by have e2 : g6 = M := Option.some.inj e; omega))
  obtain ⟨W7, hW7⟩ : ∃ W7, W7 = w6.setCell ⟨M, 0, none⟩ v := ⟨_, rfl⟩
  have hs7 : W7.heap.size = w6.heap.size := by rw [hW7, World.size_setCell]
  rw [← hW7] at hb7 hown7 ⊢
  have hR : ∀ o', (∀ q u, ([.string { data := #[115, 99, 111, 112, 101, 109, 111, 114, 101] }, .int .i64 k, .string T, .int .u64 a1, .int .u64 b1, .int .u64 c1, .int .u64 d1, .slice so1 n1 cap1, .int .i64 p, .int .i64 0] : List Value)[q]? = some u → W7.cell? ⟨g6, o' + q, none⟩ = some u) → Rk W7 W7.heap.size g6 o' ({ data := #[115, 99, 111, 112, 101, 109, 111, 114, 101] }, t, 0) := fun o' hc =>
    ⟨k, T, a1, b1, c1, d1, so1, n1, cap1, p, RtIs.upto hb7.size _ _ (ht.below hb7), hc 0 _ rfl, hc 1 _ rfl, hc 2 _ rfl, hc 3 _ rfl, hc 4 _ rfl, hc 5 _ rfl, hc 6 _ rfl, hc 7 _ rfl, hc 8 _ rfl, hc 9 _ rfl⟩
  cases rs with
  | nil =>
    have hn0 : n = 0 := h.1
    subst hn0
    have hx0 : xs = [] := List.eq_nil_of_length_eq_zero (by simpa using hl)
    subst hx0
    refine ⟨rfl, hn, fun j hj => ⟨g6, 0, rfl, by omega, ?_⟩⟩
    have ej : j = 0 := by simp at hj; omega
    subst ej
    refine hR _ fun q u hq => ?_
    have hc := hown7.cells (g := g6) rfl q u hq
    simp only [Addr.add] at hc
    by_cases h0 : q = 0
    · subst h0; simpa using hc
    · rw [if_neg h0] at hc
      rw [Nat.zero_mul, Nat.zero_add]
      rw [Nat.zero_add] at hc
      exact hc
  | cons y r =>
    obtain ⟨g, o, rfl, hg, _⟩ := h.2.2 0 (by simp)
    exact rows_more h hl (hx g o rfl) hb7 hb7.size hn (by omega) hown7 hR
theorem rz_more {rs : List Rr} {x : Rr} (h : RgZ rs) (h1 : x.1.size ≤ 9223372036854775807) (h2 : RtZ x.2.1) : RgZ (rs ++ [x]) := fun y hy => by
  rcases List.mem_append.1 hy with h' | h'
  · exact h y h'
  · obtain rfl := List.mem_singleton.1 h'
    exact ⟨h1, h2⟩
theorem ru_more {rs : List Rr} {x : Rr} (h : RgU rs) (h2 : RtU x.2.1) : RgU (rs ++ [x]) := fun y hy => by
  rcases List.mem_append.1 hy with h' | h'
  · exact h y h'
  · obtain rfl := List.mem_singleton.1 h'
    exact h2
/-- What Reach told. -/
def ReQ (rs : List Rr) (X : Option (Int ⊕ (Int × Int))) (a : Int) (rso : Option Addr) (rn rcap : Nat) (ev : Value) (W : World) : Prop :=
  (∃ t u, ev = .iface t u) ∨ (ev = .nilIface ∧ X = none ∧ ∃ (k : Nat) (L : List Int), a = (k : Int) ∧ k < rs.length ∧ LdIs (rs.map (usR (nmL rs))) k L ∧ L.length ≤ rs.length ∧ rn = L.length ∧ RowM W W.heap.size (.slice rso rn rcap) L)
theorem re_q {rs : List Rr} {X : Option (Int ⊕ (Int × Int))} {a : Int} {W w' : World} {e : Ending} (hX : CkX rs X) (h : ReP rs X a W e w') : ∃ rso rn rcap ev, e = .returned (.tuple #[.slice rso rn rcap, ev]) ∧ Hid (ReQ rs X a rso rn rcap ev w') ∧ Below W.heap.size W w' := by
  obtain ⟨hb, ⟨hx, v, rfl, he⟩ | ⟨hx, _, rfl⟩ | ⟨hx, k, v, L, h1, h2, rfl, h3, h4, h5⟩⟩ := h
  · exact ⟨_, _, _, _, rfl, .inl (he.shape hx), hb⟩
  · exact ⟨_, _, _, _, rfl, .inl ⟨_, _, rfl⟩, hb⟩
  · obtain ⟨so, sc, rfl⟩ := own_any h5
    subst hx
    have h64 := okG_len hX.1
    exact ⟨_, _, _, _, rfl, .inr ⟨rfl, rfl, k, L, h1, h2, h3, h4, rfl, row_M h5 (by omega)⟩, hb⟩
set_option maxRecDepth 100000 in
set_option maxHeartbeats 8000000 in
theorem more_any (a : Int) (so : Option Addr) (n cap : Nat) (rs : List Rr) (k : Int) (T : ByteArray) (a1 b1 c1 d1 : Int) (so1 : Option Addr) (n1 cap1 : Nat) (p : Int) (t : RT) (w : World) (hE : ErrIs w) (hT : TabIs w) (hz : RgZ rs) (hu : RgU rs) (h : RgIs w w.heap.size so n rs) (hn : n * 112 ≤ 140737488351232)
    (ht : RtIs w w.heap.size t (r8 k T a1 b1 c1 d1 so1 n1 cap1 p)) (hzt : RtZ t) (hut : RtU t) :
    Calls Tryz.prog 7 #[.agg #[.slice so n cap], .agg (r8 k T a1 b1 c1 d1 so1 n1 cap1 p).toArray, .int .i64 a] w fun e w' => e = .returned (.bool true) ∧ Below w.heap.size w w' := by
  obtain ⟨X, hX, hC⟩ := checked_all so n cap rs w.heap.size w hz hu h (Nat.le_refl _) hT
  obtain ⟨u1, hu1⟩ : ∃ u1, u1 = (w.alloc (.cells #[.slice so n cap] 24)).alloc (.cells #[.int .i64 k, .string T, .int .u64 a1, .int .u64 b1, .int .u64 c1, .int .u64 d1, .slice so1 n1 cap1, .int .i64 p] 58) := ⟨_, rfl⟩
  have hbu : Below w.heap.size w u1 := by rw [hu1]; exact ((Below.refl _ w).alloc (Nat.le_refl _) _).alloc (by simp) _
  have gu : u1.heap[w.heap.size]? = some (.cells #[.slice so n cap] 24) := by rw [hu1]; exact (Below.heap_alloc _ _ _ (by simp)).trans (new_block_at w _ rfl)
  have gn : u1.heap[w.heap.size + 1]? = some (.cells #[.int .i64 k, .string T, .int .u64 a1, .int .u64 b1, .int .u64 c1, .int .u64 d1, .slice so1 n1 cap1, .int .i64 p] 58) := by rw [hu1]; exact new_block_at _ _ (by simp)
  have HS := hid (osmall_ok u1 (hE.below hbu hE.lt) (hT.below hbu hT.lt))
  have hTl := hT.lt
  have HRe := hid (fun (b : Int) (W : World) (hb : Below w.heap.size w W) => (reach_of so n cap rs X w.heap.size b W hX (CkC.from hC hb) (h.below hb) hb.size hz (Nat.lt_of_lt_of_le hTl hb.size)).mono fun e w' he => re_q hX he)
  have HNl : Hid (n = rs.length) := h.1
  have HX := hid hX
  have HRg := hid h
  have HT := hid hT
  have HZ := hid (rz_more (x := ({ data := #[115, 99, 111, 112, 101, 109, 111, 114, 101] }, t, 0)) hz (by show 9 ≤ 9223372036854775807; omega) hzt)
  have HU := hid (ru_more (x := ({ data := #[115, 99, 111, 112, 101, 109, 111, 114, 101] }, t, 0)) hu hut)
  have HTr := hid ht
  have HN : Hid (n * 112 ≤ 140737488351232) := hn
  have nI : (n : Int) ≤ 9223372036854775807 := by omega
  clear hE hT hz hu h hC hX hTl ht hzt hut hn
  go_enter Tryz.func7, Tryz.ntmps7
  go_wp2_with fail
  rw [← hu1]
  refine HS.out.mono ?_
  rintro e w1 ⟨rfl, HB1⟩
  have HBw1 := hid (hbu.trans (HB1.out.mono hbu.size))
  have HG1 := hid ((HB1.out.block _ (node_lt gu)).trans gu)
  have HN1 := hid ((HB1.out.block _ (node_lt gn)).trans gn)
  obtain ⟨x1, f1⟩ := one_cell HG1.out
  clear HS HB1 hu1 hbu gu gn
  go_wp2_with fail
  refine (HRe.out a w1 HBw1.out).mono ?_
  rintro e w2 ⟨rso, rn, rcap, ev, rfl, HQ, hb2⟩
  have HBw2 := hid (HBw1.out.trans (hb2.mono HBw1.out.size))
  have HG2 := hid ((hb2.block _ (node_lt HG1.out)).trans HG1.out)
  have HN2 := hid ((hb2.block _ (node_lt HN1.out)).trans HN1.out)
  obtain ⟨M, hM⟩ : ∃ M, M = w2.heap.size := ⟨_, rfl⟩
  obtain ⟨Wz, hWz⟩ : ∃ Wz, Wz = w2.alloc Zg := ⟨_, rfl⟩
  have HBz : Hid (Below w2.heap.size w2 Wz) := by rw [hWz]; exact (Below.refl _ w2).alloc (Nat.le_refl _) _
  have hZz : Wz.heap.size = M + 1 := by rw [hWz, hM]; exact World.size_alloc _ _
  have HMz : Hid (Wz.heap[M]? = some Zg) := by rw [hWz, hM]; exact new_block_at w2 _ rfl
  have HM : Hid (M = w2.heap.size) := hM
  clear HRe hb2 x1 f1 HG1 HN1
  go_wp2_with fail
  rw [← hWz, ← hM]
  clear hWz hM
  have HKl : Hid (w.heap.size < w2.heap.size ∧ w.heap.size + 1 < w2.heap.size) := ⟨node_lt HG2.out, node_lt HN2.out⟩
  obtain ⟨iT, hiT, hzT0, hzT1, hzT2⟩ := info_parts Tryz.infoRl
  go_cut [29] (fun c wx => ∃ (g6 cap6 : Nat) (w6 : World) (xs : List Value), wx = w6.setCell ⟨M, 0, none⟩ (.slice (some ⟨g6, 0, none⟩) (n + 1) cap6) ∧ Hid (w6.heap[M]? = some Zg) ∧ Hid (Below w2.heap.size w2 w6) ∧ Hid (xs.length = n * 10) ∧ Hid (∀ g o, so = some ⟨g, o, none⟩ → ∀ i u, xs[i]? = some u → w.cell? ⟨g, o + i, none⟩ = some u) ∧ Hid (w6.ownsRow (M + 1) 60 10 (.slice (some ⟨g6, 0, none⟩) (n + 1) cap6) (n + 1) (xs ++ [.string { data := #[115, 99, 111, 112, 101, 109, 111, 114, 101] }, .int .i64 k, .string T, .int .u64 a1, .int .u64 b1, .int .u64 c1, .int .u64 d1, .slice so1 n1 cap1, .int .i64 p, .int .i64 0])))
  case first =>
    obtain ⟨y0, yf⟩ := one_cell HG2.out
    obtain ⟨⟨q0, q1, q2, q3, q4, q5, q6, q7⟩, qf⟩ := eight_cells HN2.out
    have S2 : (fun W : World => Hid (Below w2.heap.size w2 W) ∧ W.cell? ⟨w.heap.size, 0, none⟩ = some (.slice so n cap) ∧ W.cell? ⟨w.heap.size + 1, 0, none⟩ = some (.int .i64 k) ∧ W.cell? ⟨w.heap.size + 1, 1, none⟩ = some (.string T) ∧ W.cell? ⟨w.heap.size + 1, 2, none⟩ = some (.int .u64 a1) ∧ W.cell? ⟨w.heap.size + 1, 3, none⟩ = some (.int .u64 b1) ∧ W.cell? ⟨w.heap.size + 1, 4, none⟩ = some (.int .u64 c1) ∧ W.cell? ⟨w.heap.size + 1, 5, none⟩ = some (.int .u64 d1) ∧ W.cell? ⟨w.heap.size + 1, 6, none⟩ = some (.slice so1 n1 cap1) ∧ W.cell? ⟨w.heap.size + 1, 7, none⟩ = some (.int .i64 p)) Wz.drew := keep_more ⟨hid (Below.refl _ w2), y0, q0, q1, q2, q3, q4, q5, q6, q7⟩ HKl HBz.out.drew
    obtain ⟨mz, mf⟩ := one_cell HMz.out
    have lM : M < Wz.heap.size := by omega
    have HSd := hid S2
    have HST : Hid ((fun W : World => Hid (Below w2.heap.size w2 W) ∧ W.cell? ⟨w.heap.size, 0, none⟩ = some (.slice so n cap) ∧ W.cell? ⟨w.heap.size + 1, 0, none⟩ = some (.int .i64 k) ∧ W.cell? ⟨w.heap.size + 1, 1, none⟩ = some (.string T) ∧ W.cell? ⟨w.heap.size + 1, 2, none⟩ = some (.int .u64 a1) ∧ W.cell? ⟨w.heap.size + 1, 3, none⟩ = some (.int .u64 b1) ∧ W.cell? ⟨w.heap.size + 1, 4, none⟩ = some (.int .u64 c1) ∧ W.cell? ⟨w.heap.size + 1, 5, none⟩ = some (.int .u64 d1) ∧ W.cell? ⟨w.heap.size + 1, 6, none⟩ = some (.slice so1 n1 cap1) ∧ W.cell? ⟨w.heap.size + 1, 7, none⟩ = some (.int .i64 p)) (Wz.alloc (.cells ([.string { data := #[115, 99, 111, 112, 101, 109, 111, 114, 101] }, .int .i64 k, .string T, .int .u64 a1, .int .u64 b1, .int .u64 c1, .int .u64 d1, .slice so1 n1 cap1, .int .i64 p, .int .i64 0] : List Value).toArray 60)).drew) := hid (keep_more S2 HKl ((Below.refl _ Wz.drew).alloc (o := (.cells ([.string { data := #[115, 99, 111, 112, 101, 109, 111, 114, 101] }, .int .i64 k, .string T, .int .u64 a1, .int .u64 b1, .int .u64 c1, .int .u64 d1, .slice so1 n1 cap1, .int .i64 p, .int .i64 0] : List Value).toArray 60)) HBz.out.drew.size))
    clear y0 yf q0 q1 q2 q3 q4 q5 q6 q7 qf
    obtain ⟨y0, yf⟩ := one_cell ((HBz.out.block _ HKl.out.1).trans HG2.out)
    obtain ⟨⟨q0, q1, q2, q3, q4, q5, q6, q7⟩, qf⟩ := eight_cells ((HBz.out.block _ HKl.out.2).trans HN2.out)
    have lG : w.heap.size < Wz.heap.size := Nat.lt_of_lt_of_le HKl.out.1 HBz.out.size
    have lN : w.heap.size + 1 < Wz.heap.size := Nat.lt_of_lt_of_le HKl.out.2 HBz.out.size
    clear S2
    have m0 : 0 < (10 : Nat) := by decide
    have m9 : 0 < (1 : Nat) := by decide
    have m5 : M + 1 ≤ Wz.drew.heap.size := Nat.le_of_eq hZz.symm
    have HI : Hid (∀ g o, so = some ⟨g, o, none⟩ → ∀ i u, ([] : List Value)[i]? = some u → w.cell? ⟨g, o + i, none⟩ = some u) := fun g o _ i u hi => by simp at hi
    have HNw : Hid (∀ u ∈ ([.string { data := #[115, 99, 111, 112, 101, 109, 111, 114, 101] }, .int .i64 k, .string T, .int .u64 a1, .int .u64 b1, .int .u64 c1, .int .u64 d1, .slice so1 n1 cap1, .int .i64 p, .int .i64 0] : List Value), u.oneCell' = true) := ten_ok _ _ _ _ _ _ _ _ _ _ _ _
    have HTn : Hid (∀ j x, ([.string { data := #[115, 99, 111, 112, 101, 109, 111, 114, 101] }, .int .i64 k, .string T, .int .u64 a1, .int .u64 b1, .int .u64 c1, .int .u64 d1, .slice so1 n1 cap1, .int .i64 p, .int .i64 0] : List Value)[j]? = some x → (Wz.alloc (.cells ([.string { data := #[115, 99, 111, 112, 101, 109, 111, 114, 101] }, .int .i64 k, .string T, .int .u64 a1, .int .u64 b1, .int .u64 c1, .int .u64 d1, .slice so1 n1 cap1, .int .i64 p, .int .i64 0] : List Value).toArray 60)).drew.cell? ((⟨Wz.heap.size, 0, none⟩ : Addr).add j) = some x) := by
      have h1 := ten_new Wz (.string { data := #[115, 99, 111, 112, 101, 109, 111, 114, 101] }) (.int .i64 k) (.string T) (.int .u64 a1) (.int .u64 b1) (.int .u64 c1) (.int .u64 d1) (.slice so1 n1 cap1) (.int .i64 p) (.int .i64 0) 60
      exact h1
    have m6 : M + 1 ≤ (Wz.alloc (.cells ([.string { data := #[115, 99, 111, 112, 101, 109, 111, 114, 101] }, .int .i64 k, .string T, .int .u64 a1, .int .u64 b1, .int .u64 c1, .int .u64 d1, .slice so1 n1 cap1, .int .i64 p, .int .i64 0] : List Value).toArray 60)).drew.heap.size := by show _ ≤ (Wz.alloc _).heap.size; rw [World.size_alloc]; omega
    have m8 : M < (Wz.alloc (.cells ([.string { data := #[115, 99, 111, 112, 101, 109, 111, 114, 101] }, .int .i64 k, .string T, .int .u64 a1, .int .u64 b1, .int .u64 c1, .int .u64 d1, .slice so1 n1 cap1, .int .i64 p, .int .i64 0] : List Value).toArray 60)).drew.heap.size := by omega
    have HZz : Hid (Wz.heap.size = M + 1) := hZz
    by_cases hn0 : n = 0
    · subst hn0
      clear hZz
      have m1 : 0 + 1 ≤ maxLen := by decide
      have m2 : (0 + 1) * 112 ≤ 140737488355328 := by omega
      go_region_law (first
        | (refine step_append_zero rfl (.tmp 22) (.tmp 24) 22 rfl 60 iT Tryz.underlying22 hiT so cap (by rfl) (by rfl) ?_)
        | (refine step_append_lies _ rfl (.tmp 25) (.tmp 28) 22 rfl (M + 1) 60 iT (.agg #[.string { data := #[] }, .int .i64 0, .string { data := #[] }, .int .u64 0, .int .u64 0, .int .u64 0, .int .u64 0, .slice none 0 0, .int .i64 0, .int .i64 0]) 10 112 Tryz.underlying22 hiT hzT0 hzT1 hzT2 rfl m0 (.slice none 0 0) 0 [] (by rfl) (World.ownsRow_nil _ _ _ _) ⟨Wz.heap.size, 0, none⟩ 1 1 [.string { data := #[115, 99, 111, 112, 101, 109, 111, 114, 101] }, .int .i64 k, .string T, .int .u64 a1, .int .u64 b1, .int .u64 c1, .int .u64 d1, .slice so1 n1 cap1, .int .i64 p, .int .i64 0] (by rfl) rfl HTn.out HNw.out m9 m1 m2 m6 _ rfl ?_; intro g6 cap6 w6 hown6 hgr6 hat6 hlt6; have hb6 := keep_grn HST.out.1 hgr6 (fun g e => by cases e); have hbw6 := keep_to HST.out.1 hb6; have k6 := (hgr6.block M m8 (fun e => by cases e)).trans ((Below.heap_alloc _ _ _ lM).trans HMz.out); obtain ⟨z0, z1⟩ := one_cell k6; have z2 := node_lt k6))
      all_goals (
        go_wp2_with fail
        go_meet
        case rel => exact ⟨g6, cap6, w6, [], rfl, hid k6, hbw6, hid rfl, HI, hid hown6⟩)
    · have HRg' := HRg.out
      have hr0 : 0 < rs.length := by rw [← HNl.out]; omega
      obtain ⟨g, o, rfl, hg, _⟩ := HRg'.2.2 0 hr0
      obtain ⟨xs, hxl, hxc, hxo⟩ := rows_cells HRg'
      have HX0 : Hid (∀ W, Hid (Below w2.heap.size w2 W) → ∀ j u, xs[j]? = some u → W.cell? ((⟨g, o, none⟩ : Addr).add j) = some u) := fun W hW j u hj => by
        have hadd : (⟨g, o, none⟩ : Addr).add j = ⟨g, o + j, none⟩ := add_is g o j
        rw [hadd]
        exact ((HBw2.out.trans (hW.out.mono HBw2.out.size)).cell (p := ⟨g, o + j, none⟩) hg).trans (hxc j u hj)
      have AL : Hid (xs.length = n * 10) := hxl
      have AX : Hid (∀ g' o', (some ⟨g, o, none⟩ : Option Addr) = some ⟨g', o', none⟩ → ∀ i u, xs[i]? = some u → w.cell? ⟨g', o' + i, none⟩ = some u) := fun g' o' e i u hi => by
        simp only [Option.some.injEq, Addr.mk.injEq, and_true] at e
        obtain ⟨rfl, rfl⟩ := e
        exact hxc i u hi
      have A3 : Hid (∀ u ∈ xs, u.oneCell' = true) := hxo
      have hnp : 0 < n := by omega
      have hnn := HN.out
      have m1 : 0 + n ≤ maxLen := by unfold maxLen; omega
      have m2 : (0 + n) * 112 ≤ 140737488355328 := by omega
      have m3 : 0 + n + 1 ≤ maxLen := by unfold maxLen; omega
      have m4 : (0 + n + 1) * 112 ≤ 140737488355328 := by omega
      have HTB : Hid (∀ w5, (Wz.alloc (.cells ([.string { data := #[115, 99, 111, 112, 101, 109, 111, 114, 101] }, .int .i64 k, .string T, .int .u64 a1, .int .u64 b1, .int .u64 c1, .int .u64 d1, .slice so1 n1 cap1, .int .i64 p, .int .i64 0] : List Value).toArray 60)).drew.grownBy w5 none → ∀ j x, ([.string { data := #[115, 99, 111, 112, 101, 109, 111, 114, 101] }, .int .i64 k, .string T, .int .u64 a1, .int .u64 b1, .int .u64 c1, .int .u64 d1, .slice so1 n1 cap1, .int .i64 p, .int .i64 0] : List Value)[j]? = some x → w5.cell? ((⟨Wz.heap.size, 0, none⟩ : Addr).add j) = some x) := fun w5 h5 j x hj => (h5.cell_far _ (add_lt (by show _ < (Wz.alloc _).heap.size; rw [World.size_alloc]; omega)) (fun e => by cases e)).trans (HTn.out j x hj)
      have HSA : Hid (∀ w5 X, Wz.drew.grownBy w5 none → M + 1 ≤ (w5.alloc X).heap.size) := fun w5 X h5 => by have := h5.size; rw [World.size_alloc]; omega
      have HSB : Hid (∀ w5, (Wz.alloc (.cells ([.string { data := #[115, 99, 111, 112, 101, 109, 111, 114, 101] }, .int .i64 k, .string T, .int .u64 a1, .int .u64 b1, .int .u64 c1, .int .u64 d1, .slice so1 n1 cap1, .int .i64 p, .int .i64 0] : List Value).toArray 60)).drew.grownBy w5 none → M + 1 ≤ w5.heap.size) := fun w5 h5 => by have := h5.size; omega
      clear HRg' hxl hxc hxo hZz
      go_region_law (first
        | (refine step_append_lies _ rfl (.tmp 22) (.tmp 24) 22 rfl (M + 1) 60 iT (.agg #[.string { data := #[] }, .int .i64 0, .string { data := #[] }, .int .u64 0, .int .u64 0, .int .u64 0, .int .u64 0, .slice none 0 0, .int .i64 0, .int .i64 0]) 10 112 Tryz.underlying22 hiT hzT0 hzT1 hzT2 rfl m0 (.slice none 0 0) 0 [] (by rfl) (World.ownsRow_nil _ _ _ _) ⟨g, o, none⟩ n cap xs (by rfl) AL.out (HX0.out _ (by first | exact HSd.out.1 | exact HST.out.1)) A3.out hnp m1 m2 (by first | exact m5 | exact m6) _ rfl ?_; intro g5 cap5 w5 hown5 hgr5 hat5 hlt5; have hb5 := keep_grn (by first | exact HSd.out.1 | exact HST.out.1) hgr5 (fun g e => by cases e); have HS5 := hid (keep_more (by first | exact HSd.out | exact HST.out) HKl hb5); obtain ⟨_, t0, t1, t2, t3, t4, t5, t6, t7, t8⟩ := HS5.out; have lN5 := World.block_lt_of_cell? _ _ t1)
        | (refine step_append_lies _ rfl (.tmp 25) (.tmp 28) 22 rfl (M + 1) 60 iT (.agg #[.string { data := #[] }, .int .i64 0, .string { data := #[] }, .int .u64 0, .int .u64 0, .int .u64 0, .int .u64 0, .slice none 0 0, .int .i64 0, .int .i64 0]) 10 112 Tryz.underlying22 hiT hzT0 hzT1 hzT2 rfl m0 (.slice (some ⟨g5, 0, none⟩) (0 + n) cap5) (0 + n) ([] ++ xs) (by first | rfl | simp [Act.eval]) (hown5.alloc _) ⟨w5.heap.size, 0, none⟩ 1 1 [.string { data := #[115, 99, 111, 112, 101, 109, 111, 114, 101] }, .int .i64 k, .string T, .int .u64 a1, .int .u64 b1, .int .u64 c1, .int .u64 d1, .slice so1 n1 cap1, .int .i64 p, .int .i64 0] (by rfl) rfl (ten_new _ _ _ _ _ _ _ _ _ _ _ _) HNw.out m9 m3 m4 (HSA.out w5 _ hgr5) _ rfl ?_; intro g6 cap6 w6 hown6 hgr6 hat6 hlt6; have hb6 := keep_grn (keep_to HS5.out.1 (keep_all _ HS5.out.1)) hgr6 (more_row hown5 HM); have hbw6 := keep_to (keep_to HS5.out.1 (keep_all _ HS5.out.1)) hb6; have k6 := more_A HZz.out HMz.out hgr5 hown5 hgr6; obtain ⟨z0, z1⟩ := one_cell k6; have z2 := node_lt k6)
        | (refine step_append_lies _ rfl (.tmp 25) (.tmp 28) 22 rfl (M + 1) 60 iT (.agg #[.string { data := #[] }, .int .i64 0, .string { data := #[] }, .int .u64 0, .int .u64 0, .int .u64 0, .int .u64 0, .slice none 0 0, .int .i64 0, .int .i64 0]) 10 112 Tryz.underlying22 hiT hzT0 hzT1 hzT2 rfl m0 (.slice (some ⟨g5, 0, none⟩) (0 + n) cap5) (0 + n) ([] ++ xs) (by first | rfl | simp [Act.eval]) hown5 ⟨Wz.heap.size, 0, none⟩ 1 1 [.string { data := #[115, 99, 111, 112, 101, 109, 111, 114, 101] }, .int .i64 k, .string T, .int .u64 a1, .int .u64 b1, .int .u64 c1, .int .u64 d1, .slice so1 n1 cap1, .int .i64 p, .int .i64 0] (by rfl) rfl (HTB.out w5 hgr5) HNw.out m9 m3 m4 (HSB.out w5 hgr5) _ rfl ?_; intro g6 cap6 w6 hown6 hgr6 hat6 hlt6; have hb6 := keep_grn HS5.out.1 hgr6 (more_row hown5 HM); have hbw6 := keep_to HS5.out.1 hb6; have k6 := more_B HZz.out HMz.out hgr5 hown5 hgr6; obtain ⟨z0, z1⟩ := one_cell k6; have z2 := node_lt k6))
      all_goals (
        go_wp2_with fail
        go_meet
        case rel => exact ⟨g6, cap6, w6, xs, (by first | rfl | simp only [Nat.zero_add]), hid k6, hbw6, AL, AX, hid (by simpa only [Nat.zero_add, List.nil_append] using hown6)⟩)
  case rest =>
    obtain ⟨g6, cap6, w6, xs, hwx, HMx, HB6, HXl, HXc, HO6⟩ := hcut
    subst hwx
    obtain ⟨wx, hwx⟩ : ∃ wx, wx = w6.setCell ⟨M, 0, none⟩ (.slice (some ⟨g6, 0, none⟩) (n + 1) cap6) := ⟨_, rfl⟩
    rw [← hwx]
    obtain ⟨hRg7, hB7⟩ := more_end (v := .slice (some ⟨g6, 0, none⟩) (n + 1) cap6) HM.out HRg.out HBw2.out HB6.out HTr.out (by have := HN.out; unfold maxLen; omega) HXl.out HXc.out HO6.out
    have hk7 : wx.heap[M]? = some (.cells #[.slice (some ⟨g6, 0, none⟩) (n + 1) cap6] 24) := by rw [hwx]; exact set_in HMx.out 0 _
    rw [← hwx] at hRg7 hB7
    have HBw7 := hid (HBw2.out.trans (hB7.mono HBw2.out.size))
    have hT7 := HT.out.below HBw7.out HT.out.lt
    obtain ⟨X7, hX7, hC7⟩ := checked_all (some ⟨g6, 0, none⟩) (n + 1) cap6 _ wx.heap.size wx HZ.out HU.out hRg7 (Nat.le_refl _) hT7
    have HR7 := hid ((reach_of (some ⟨g6, 0, none⟩) (n + 1) cap6 _ X7 wx.heap.size a wx hX7 hC7 hRg7 (Nat.le_refl _) HZ.out hT7.lt).mono fun e w' he => re_q hX7 he)
    have HG7 := hid ((hB7.block _ HKl.out.1).trans HG2.out)
    have HQ7 : Hid (∀ L, RowM w2 w2.heap.size (.slice rso rn rcap) L → RowM wx w2.heap.size (.slice rso rn rcap) L) := fun L hL => hL.below hB7 (Nat.le_refl _)
    have HS7 : Hid (w2.heap.size ≤ wx.heap.size) := hB7.size
    have HX7 := hid hX7
    obtain ⟨x7, f7⟩ := one_cell hk7
    have l7 := node_lt hk7
    clear hwx HMx HB6 HXl HXc HO6 hRg7 hB7 hT7 hX7 hC7 HZ HU HTr HRg HT hk7 HN2 HKl HMz HBz hZz hiT hzT0 hzT1 hzT2
    go_wp2_with fail
    refine HR7.out.mono ?_
    rintro e w8 ⟨sso, sn, scap, fv, rfl, HF, hb8⟩
    have HBw8 := hid (HBw7.out.trans (hb8.mono HBw7.out.size))
    have HG8 := hid ((hb8.block _ (node_lt HG7.out)).trans HG7.out)
    obtain ⟨x8, f8⟩ := one_cell HG8.out
    have l8 := node_lt HG8.out
    clear HR7 x7 f7 l7 HG7
    rcases HQ.out with ⟨te, ue, rfl⟩ | ⟨rfl, rfl, k0, L, rfl, hk0, hL, hLn, hrn, hRow⟩
    · clear HQ HF HQ7 HX7 HX
      go_wp2_with fail
      go_ret
      exact ⟨rfl, HBw8.out⟩
    rcases HF.out with ⟨te, ue, rfl⟩ | ⟨rfl, rfl, k1, L1, hk1, hk1n, hL1, hL1n, hsn, hRow1⟩
    · clear HQ HF HQ7 HX7 HX hL hRow
      go_wp2_with fail
      go_ret
      exact ⟨rfl, HBw8.out⟩
    obtain rfl : k0 = k1 := by omega
    have hLL : L = L1 := ld_more HX.out.2.1 hk0 hL hL1
    subst hLL
    have h64 := okG_len HX.out.1
    have hpos : 0 < L.length := List.length_pos_of_mem ((hL.2 (k0 : Int)).2 ⟨k0, rfl, .refl⟩)
    subst hrn
    subst hsn
    have HA := hid ((HQ7.out L hRow).below hb8 HS7.out)
    have HB := hid hRow1
    have a0 : decide ((n : Int) ≤ (k0 : Int)) = false := by have := HNl.out; simp; omega
    have hk0I : (k0 : Int) < (n : Int) := by have := HNl.out; omega
    have a2 : decide (n ≤ k0) = false := by simp; omega
    have a3 : ¬ n ≤ k0 := by omega
    obtain ⟨kL, hkL⟩ : ∃ kL, kL = L.length := ⟨_, rfl⟩
    rw [← hkL] at HA HB hpos ⊢
    have HKL : Hid (kL = L.length) := hkL
    have hkL2 : kL ≤ 64 := by omega
    have b0 : decide ((kL : Int) = 0) = false := by simp; omega
    have b1 : ¬ ((kL : Int) = 0) := by omega
    have b2 : ¬ (kL = 0) := by omega
    have b3 : ((kL : Int) == 0) = false := by simp; omega
    clear HQ HF HQ7 HX7 HX hL hRow hL1 hRow1 hL1n hLn h64 hkL hk0 hk1n hb8
    go_wp2_with fail
    go_loopw [13] (fun i wr => ∃ j : Nat, i = .int .i64 (j : Int) ∧ j ≤ kL ∧ Hid (Below w8.heap.size w8 wr)) (fun i _ => kL - (intOf i).toNat)
    case atStart => exact ⟨0, rfl, Nat.zero_le _, Below.refl _ _⟩
    case round =>
      obtain ⟨j, rfl, hj, HBj⟩ := hrel
      by_cases hjn : j < kL
      · have hjI : (j : Int) < (kL : Int) := by omega
        have c0 : decide ((j : Int) < (kL : Int)) = true := by simp; omega
        have hjL : j < L.length := by rw [← HKL.out]; exact hjn
        obtain ⟨so3, cap3, e3, _, hc3⟩ := HA.out
        obtain ⟨g3, o3, e4, _, hc4⟩ := hc3 j hjL
        obtain ⟨so5, cap5, e5, _, hc5⟩ := HB.out
        obtain ⟨g5, o5, e6, _, hc6⟩ := hc5 j hjL
        obtain rfl : rso = some ⟨g3, o3, none⟩ := by injection e3 with h1 h2 h3; rw [h1]; exact e4
        obtain rfl : sso = some ⟨g5, o5, none⟩ := by injection e5 with h1 h2 h3; rw [h1]; exact e6
        obtain ⟨y, hy⟩ : ∃ y, y = L[j] := ⟨_, rfl⟩
        rw [← hy] at hc4 hc6
        have d4 := (HBj.out.cell (p := ⟨g3, o3 + j, none⟩) (World.block_lt_of_cell? _ _ hc4)).trans hc4
        have d6 := (HBj.out.cell (p := ⟨g5, o5 + j, none⟩) (World.block_lt_of_cell? _ _ hc6)).trans hc6
        have l3 : g3 < wr.heap.size := World.block_lt_of_cell? _ _ d4
        have l5 : g5 < wr.heap.size := World.block_lt_of_cell? _ _ d6
        have S1 : (fun W : World => W.cell? ⟨g3, o3 + j, none⟩ = some (.int .i64 y) ∧ W.cell? ⟨g5, o5 + j, none⟩ = some (.int .i64 y)) wr := ⟨d4, d6⟩
        have S2 : (fun W : World => W.cell? ⟨g3, o3 + j, none⟩ = some (.int .i64 y) ∧ W.cell? ⟨g5, o5 + j, none⟩ = some (.int .i64 y)) wr.drew := ⟨d4, d6⟩
        clear e3 e4 e5 e6 hc3 hc5 hy HA HB hc4 hc6
        go_wp2_with fail
        go_region_held3 (fun W : World => W.cell? ⟨g3, o3 + j, none⟩ = some (.int .i64 y) ∧ W.cell? ⟨g5, o5 + j, none⟩ = some (.int .i64 y)) (first | assumption) (first | fail)
        go_wp2_with fail
        exact ⟨⟨j + 1, by go_num, by omega, hid HBj.out.drew⟩, by simp [intOf]; omega⟩
      · have c0 : decide ((j : Int) < (kL : Int)) = false := by simp; omega
        have HBw := hid (HBw8.out.trans (HBj.out.mono HBw8.out.size))
        go_wp2_with fail
        go_ret
        exact ⟨rfl, HBw.out⟩
end Go.Proofs.YtplffhmefnnieaaGreatDoor
