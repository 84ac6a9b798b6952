/-
  From an argument that is a row of acts, or of sessions, to what it holds: each is three numbers and a row of bytes. Conditions: those that each theorem names.
-/
import Derived.Test.YtjhclpionimjbaaDoorZT
import Derived.Test.YtjhclpionimjbaaDoorRowsMem
import Derived.SizedLaws
import Derived.ProofKit
import Derived.OpenShut
import Derived.Laws.IdiomArrays
namespace Go.Proofs.YtjhclpionimjbaaDoor
open Go.ChangeShapes Go.WideShapes Go.ChangeAt Go.RowKit
set_option linter.unusedVariables false
/-- An argument's row: of an act: what is done, the Id, the number, the bytes. -/
structure RowA (w : World) (a : Option Addr) (len cap : Nat) (xs0 : List Sx) : Prop where
  ln : xs0.length = len
  le : len ≤ maxLen
  at' : 0 < len → ∃ g off, a = some ⟨g, off, none⟩ ∧ g < w.heap.size ∧ ∀ j (h : j < xs0.length), w.cell? ⟨g, off + j * 4, none⟩ = some (.int .i64 xs0[j].i) ∧ w.cell? ⟨g, off + j * 4 + 1, none⟩ = some (.int .i64 xs0[j].l) ∧ w.cell? ⟨g, off + j * 4 + 2, none⟩ = some (.int .i64 xs0[j].u) ∧ w.cell? ⟨g, off + j * 4 + 3, none⟩ = some (.slice xs0[j].o xs0[j].n xs0[j].c)
  ok : ∀ s ∈ xs0, inI s.i ∧ inI s.l ∧ inI s.u ∧ Has w s.o s.n s.c s.b
theorem RowA.below {w w' : World} {a : Option Addr} {len cap : Nat} {xs0 : List Sx} (h : RowA w a len cap xs0) (hb : Below w.heap.size w w') : RowA w' a len cap xs0 := by
  refine ⟨h.ln, h.le, fun h0 => ?_, fun s hs => ?_⟩
  · obtain ⟨g, off, h1, h2, h3⟩ := h.at' h0
    refine ⟨g, off, h1, Nat.lt_of_lt_of_le h2 hb.size, fun j hj => ?_⟩
    obtain ⟨k0, k1, k2, k3⟩ := h3 j hj
    exact ⟨(hb.cell (p := ⟨g, off + j * 4, none⟩) h2).trans k0, (hb.cell (p := ⟨g, off + j * 4 + 1, none⟩) h2).trans k1, (hb.cell (p := ⟨g, off + j * 4 + 2, none⟩) h2).trans k2, (hb.cell (p := ⟨g, off + j * 4 + 3, none⟩) h2).trans k3⟩
  · obtain ⟨h1, h2, h3, h4⟩ := h.ok s hs
    exact ⟨h1, h2, h3, h4.below hb⟩
theorem Tryd.cellsInt : Tryd.prog.cellsOf 3 = 1 := by kernel_rfl
theorem Tryd.structSess : Tryd.prog.underlying 59 = some (.struct (Tryd.prog.fieldsOf 59)) := by kernel_rfl
theorem Tryd.fieldsSess : (Tryd.prog.fieldsOf 59).toList.map (fun f => (f.name, f.type, f.offset)) = [("Id", 3, 0), ("Last", 3, 1), ("Used", 3, 2), ("Reply", 40, 3)] := by kernel_rfl
theorem Tryd.cellsSess : Tryd.prog.cellsOf 59 = 4 := by kernel_rfl
theorem Tryd.structAct : Tryd.prog.underlying 42 = some (.struct (Tryd.prog.fieldsOf 42)) := by kernel_rfl
theorem Tryd.fieldsAct : (Tryd.prog.fieldsOf 42).toList.map (fun f => (f.name, f.type, f.offset)) = [("Do", 3, 0), ("Id", 3, 1), ("Seq", 3, 2), ("B", 40, 3)] := by kernel_rfl
theorem Tryd.cellsAct : Tryd.prog.cellsOf 42 = 4 := by kernel_rfl
theorem Tryd.bytesU8 : Tryd.prog.bytesOf 5 = 1 := by kernel_rfl
theorem fieldsq {fs : Array Field} {l : List (String × TypeId × Nat)} (h : fs.toList.map (fun f => (f.name, f.type, f.offset)) = l) (i : Nat) (x : String × TypeId × Nat) (hx : l[i]? = some x) : ∃ f, fs[i]? = some f ∧ f.type = x.2.1 ∧ f.offset = x.2.2 := by
  rw [← h, List.getElem?_map] at hx
  cases hf : fs.toList[i]? with
  | none => rw [hf] at hx; cases hx
  | some f =>
    rw [hf] at hx
    simp only [Option.map_some, Option.some.injEq] at hx
    refine ⟨f, by rw [← Array.getElem?_toList]; exact hf, ?_, ?_⟩
    · rw [← hx]
    · rw [← hx]
theorem fields_size {fs : Array Field} {l : List (String × TypeId × Nat)} (h : fs.toList.map (fun f => (f.name, f.type, f.offset)) = l) : fs.size = l.length := by
  rw [← h, List.length_map, Array.length_toList]
theorem weights_all_mem {H : Type} {P : Program} {e : TypeId} : ∀ {l : List (DataW H)} {d : DataW H}, d ∈ l → ∀ n ∈ d.weights P e, n ∈ DataW.weightsAll P e l
  | a :: r, d, h, n, hn => by
    rw [DataW.weightsAll, List.mem_append]
    rcases List.mem_cons.1 h with rfl | h
    · exact .inl hn
    · exact .inr (weights_all_mem h n hn)
section
variable {H : Type} {enc : TypeId × Value → H} {W : World}
theorem cells_spot {a : Addr} {n : Nat} {cs : List Value} (h : W.cells? 0 (a.add (0 * n)) n = some cs) (hn : 0 < n) : a.spot = none := by
  obtain ⟨_, h2, h3⟩ := World.cells?_some h
  have h0 := h3 0 hn
  rw [Deep.add_add, Nat.zero_mul] at h0
  obtain ⟨c, hc⟩ : ∃ c, cs[0]? = some c := ⟨_, List.getElem?_eq_getElem (by omega)⟩
  rw [hc] at h0
  have := World.cell?_spot h0
  simpa [Addr.add] using this
theorem cells_at {b off k n : Nat} {cs : List Value} (h : W.cells? 0 ((⟨b, off, none⟩ : Addr).add k) n = some cs) (hn : 0 < n) : b < W.heap.size ∧ cs.length = n ∧ ∀ j u, cs[j]? = some u → W.cell? ⟨b, off + k + j, none⟩ = some u := by
  obtain ⟨_, h2, h3⟩ := World.cells?_some h
  have hc : ∀ j u, cs[j]? = some u → W.cell? ⟨b, off + k + j, none⟩ = some u := fun j u hj => by
    have hjl : j < n := by rw [← h2]; exact (List.getElem?_eq_some_iff.1 hj).1
    have := h3 j hjl
    rw [Deep.add_add, Addr.add_lit, hj] at this
    rw [Nat.add_assoc]
    exact this
  exact ⟨World.block_lt_of_cell? W ⟨b, off + k + 0, none⟩ (hc 0 _ (List.getElem?_eq_getElem (by omega))), h2, hc⟩
theorem slice_w {e t : TypeId} {y : DataW H} {elems rest : List (DataW H)} (hu : Tryd.prog.underlying t = some (.slice e)) (hy : y = .slice elems rest) (hw : ∀ n ∈ y.weights Tryd.prog t, n ≤ reachBytes) : elems.length * Tryd.prog.bytesOf e ≤ reachBytes ∧ ∀ d ∈ elems, ∀ n ∈ d.weights Tryd.prog e, n ≤ reachBytes := by
  subst hy
  have hm : ∀ n, n = (elems.length + rest.length) * Tryd.prog.bytesOf e ∨ n ∈ DataW.weightsAll Tryd.prog e elems → n ≤ reachBytes := fun n hn => hw n (by
    simp only [DataW.weights, hu, List.mem_cons, List.mem_append]
    rcases hn with h | h
    · exact .inl h
    · exact .inr (.inl h))
  refine ⟨Nat.le_trans (Nat.mul_le_mul_right _ (Nat.le_add_right _ _)) (hm _ (.inl rfl)), fun d hd n hn => hm n (.inr (weights_all_mem hd n hn))⟩
theorem field_w {t : TypeId} {fs : Array Field} {l : List (String × TypeId × Nat)} (hu : Tryd.prog.underlying t = some (.struct fs)) (hl : fs.toList.map (fun f => (f.name, f.type, f.offset)) = l) {xs : List (DataW H × List MemPlace)} {y : DataW H} (hy : y = .agg (xs.map (·.1))) (hw : ∀ n ∈ y.weights Tryd.prog t, n ≤ reachBytes) {i : Nat} {q : String × TypeId × Nat} {x : DataW H × List MemPlace} (hi : l[i]? = some q) (hx : xs[i]? = some x) : ∀ n ∈ x.1.weights Tryd.prog q.2.1, n ≤ reachBytes := by
  subst hy
  intro n hn
  refine hw n ?_
  simp only [DataW.weights, hu]
  refine DataW.weights_mem_each (j := i) (t := q.2.1) (d := x.1) ?_ (by rw [List.getElem?_map, hx]; rfl) n hn
  have h2 : fs.toList.map (·.type) = l.map (fun x => x.2.1) := by rw [← hl, List.map_map]; rfl
  rw [h2, List.getElem?_map, hi]
  rfl
set_option maxRecDepth 100000 in
theorem open_four {e : TypeId} {a0 a1 a2 a3 : String} (hs : Tryd.prog.underlying e = some (.struct (Tryd.prog.fieldsOf e))) (hf : (Tryd.prog.fieldsOf e).toList.map (fun f => (f.name, f.type, f.offset)) = [(a0, 3, 0), (a1, 3, 1), (a2, 3, 2), (a3, 40, 3)]) (hc : Tryd.prog.cellsOf e = 4)
    {fuel : Nat} {cs : List Value} {x : DataW H × List MemPlace} (h : DataW.trod enc Tryd.prog W 0 (fun _ => true) true fuel e cs = some x) :
    ∃ s : Sx, cs = [.int .i64 s.i, .int .i64 s.l, .int .i64 s.u, .slice s.o s.n s.c] ∧ inI s.i ∧ inI s.l ∧ inI s.u ∧ Has W s.o s.n s.c s.b ∧ ((∀ n ∈ x.1.weights Tryd.prog e, n ≤ reachBytes) → s.n ≤ reachBytes) := by
  obtain ⟨xs, n, rfl, rfl, hlen, hxs, hq⟩ := DataW.trod_struct hs h
  rw [hc] at hlen
  rw [fields_size hf] at hxs
  match cs, hlen with
  | [c0, c1, c2, c3], _ =>
  match xs, hxs with
  | [y0, y1, y2, y3], _ =>
  obtain ⟨f0, g0, t0, o0⟩ := fieldsq hf 0 _ rfl
  obtain ⟨f1, g1, t1, o1⟩ := fieldsq hf 1 _ rfl
  obtain ⟨f2, g2, t2, o2⟩ := fieldsq hf 2 _ rfl
  obtain ⟨f3, g3, t3, o3⟩ := fieldsq hf 3 _ rfl
  have r0 := hq 0 f0 g0
  have r1 := hq 1 f1 g1
  have r2 := hq 2 f2 g2
  have r3 := hq 3 f3 g3
  simp only [t0, o0, t1, o1, t2, o2, t3, o3, Tryd.cellsInt, Tryd.cellsB, List.drop_zero, List.drop_succ_cons, List.take_succ_cons, List.take_zero, List.getElem?_cons_zero, List.getElem?_cons_succ] at r0 r1 r2 r3
  obtain ⟨i, e0, _, w0⟩ := DataW.trod_int Tryd.underlying3 r0
  obtain ⟨l, e1, _, w1⟩ := DataW.trod_int Tryd.underlying3 r1
  obtain ⟨u, e2, _, w2⟩ := DataW.trod_int Tryd.underlying3 r2
  obtain ⟨o, n1, c, b, rfl, hb⟩ := has_cell r3
  simp only [List.cons.injEq, and_true] at e0 e1 e2
  subst e0 e1 e2
  refine ⟨⟨i, l, u, o, n1, c, b⟩, rfl, bounds_i64 w0, bounds_i64 w1, bounds_i64 w2, hb, fun hw => ?_⟩
  have w3 := field_w hs hf rfl hw (i := 3) rfl (x := y3) rfl
  rcases DataW.trod_slice Tryd.underlying40 r3 with ⟨e6, _⟩ | ⟨ad, len, cap', elems, rest, m2, hm2, e6, ex, _, hlc, hcm, hel, hev, _⟩
  · simp only [List.cons.injEq, and_true, Value.slice.injEq] at e6
    obtain ⟨rfl, rfl, rfl⟩ := e6
    exact Nat.zero_le _
  · simp only [List.cons.injEq, and_true, Value.slice.injEq] at e6
    obtain ⟨rfl, rfl, rfl⟩ := e6
    obtain ⟨u1, _⟩ := slice_w Tryd.underlying40 (by rw [ex]) w3
    rw [List.length_map, hel, Tryd.bytesU8] at u1
    simp only
    omega
set_option maxRecDepth 100000 in
theorem open_row {t e : TypeId} {a0 a1 a2 a3 : String} (ht : Tryd.prog.underlying t = some (.slice e)) (hs : Tryd.prog.underlying e = some (.struct (Tryd.prog.fieldsOf e))) (hf : (Tryd.prog.fieldsOf e).toList.map (fun f => (f.name, f.type, f.offset)) = [(a0, 3, 0), (a1, 3, 1), (a2, 3, 2), (a3, 40, 3)]) (hc : Tryd.prog.cellsOf e = 4)
    {so : Option Addr} {n cap : Nat} {d : DataW H} {ps : List MemPlace} (h : DataW.Trod enc Tryd.prog W 0 (fun _ => true) true t (.slice so n cap) d ps) :
    ∃ xs0, RowA W so n cap xs0 ∧ ((∀ m ∈ d.weights Tryd.prog t, m ≤ reachBytes) → ∀ s ∈ xs0, s.n ≤ reachBytes) := by
  obtain ⟨fuel, h⟩ := h
  rcases DataW.trod_slice ht h with ⟨e6, _⟩ | ⟨ad, len, cap', elems, rest, m2, hm2, e6, ex, _, hlc, hcm, hel, hev, _⟩
  · simp only [Value.cells, List.cons.injEq, and_true, Value.slice.injEq] at e6
    obtain ⟨rfl, rfl, rfl⟩ := e6
    exact ⟨[], ⟨rfl, by unfold maxLen; omega, fun h => absurd h (by omega), by simp⟩, by simp⟩
  · simp only [Value.cells, List.cons.injEq, and_true, Value.slice.injEq] at e6
    obtain ⟨rfl, rfl, rfl⟩ := e6
    have key : ∀ i (hi : i < n), ∃ cs', W.cells? 0 (ad.add (i * 4)) 4 = some cs' ∧ DataW.trod enc Tryd.prog W 0 (fun _ => true) true m2 e cs' = some (elems[i]'(by omega)) := fun i hi => by
      have h1 := hev i hi
      rw [List.getElem?_eq_getElem (by omega)] at h1
      obtain ⟨cs', h2, h3⟩ := Option.bind_eq_some_iff.1 h1
      rw [hc] at h2
      exact ⟨cs', h2, h3⟩
    obtain ⟨g, off, spot⟩ := ad
    by_cases h0 : n = 0
    · subst h0
      exact ⟨[], ⟨rfl, by unfold maxLen; omega, fun h => absurd h (by omega), by simp⟩, by simp⟩
    obtain ⟨cs0, h00, _⟩ := key 0 (by omega)
    obtain rfl : spot = none := cells_spot h00 (by omega)
    obtain ⟨hgb, _, _⟩ := cells_at h00 (by omega)
    have hall : ∀ i, ∃ s : Sx, i < n → (W.cell? ⟨g, off + i * 4 + 0, none⟩ = some (.int .i64 s.i) ∧ W.cell? ⟨g, off + i * 4 + 1, none⟩ = some (.int .i64 s.l) ∧ W.cell? ⟨g, off + i * 4 + 2, none⟩ = some (.int .i64 s.u) ∧ W.cell? ⟨g, off + i * 4 + 3, none⟩ = some (.slice s.o s.n s.c)) ∧ (inI s.i ∧ inI s.l ∧ inI s.u ∧ Has W s.o s.n s.c s.b) ∧ ((∀ m ∈ d.weights Tryd.prog t, m ≤ reachBytes) → s.n ≤ reachBytes) := fun i => by
      by_cases hi : i < n
      · obtain ⟨cs', h2, h3⟩ := key i hi
        obtain ⟨_, _, s4⟩ := cells_at h2 (by omega)
        obtain ⟨s, rfl, i1, i2, i3, i4, i5⟩ := open_four hs hf hc h3
        refine ⟨s, fun _ => ⟨⟨s4 0 _ rfl, s4 1 _ rfl, s4 2 _ rfl, s4 3 _ rfl⟩, ⟨i1, i2, i3, i4⟩, fun hw => i5 ?_⟩⟩
        have ex' : d = _ := congrArg Prod.fst ex
        obtain ⟨_, u2⟩ := slice_w ht ex' hw
        exact u2 _ (List.mem_map.2 ⟨_, List.getElem_mem _, rfl⟩)
      · exact ⟨sx0, fun h => absurd h hi⟩
    obtain ⟨f, hf'⟩ := Classical.axiomOfChoice hall
    have hmem : ∀ x ∈ (List.range n).map f, ∃ i, i < n ∧ f i = x := fun x hx => by
      obtain ⟨i, h1, h2⟩ := List.mem_map.1 hx
      exact ⟨i, List.mem_range.1 h1, h2⟩
    refine ⟨(List.range n).map f, ⟨by simp, by omega, fun _ => ⟨g, off, rfl, hgb, fun j hj => ?_⟩, fun x hx => ?_⟩, fun hw x hx => ?_⟩
    · have hj' : j < n := by simpa using hj
      have := (hf' j hj').1
      simpa using this
    · obtain ⟨i, h1, rfl⟩ := hmem x hx
      exact (hf' i h1).2.1
    · obtain ⟨i, h1, rfl⟩ := hmem x hx
      exact (hf' i h1).2.2 hw
end
end Go.Proofs.YtjhclpionimjbaaDoor
