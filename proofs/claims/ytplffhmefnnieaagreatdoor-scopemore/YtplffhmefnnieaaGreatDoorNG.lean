/-
  A grammar that is an argument has no more rules than the card's own reach. Conditions: those that each theorem names.
-/
import Derived.SizedLaws
import Derived.Test.YtplffhmefnnieaaGreatDoorVW4ToS9
namespace Go.Proofs.YtplffhmefnnieaaGreatDoor
open Go.ChangeShapes Go.WideShapes Go.ChangeAt Go.RowKit Go.Shelf
set_option linter.unusedVariables false
theorem Tryz.bytesRule : Tryz.prog.bytesOf 60 = 112 := by kernel_rfl
section
variable {H : Type} {enc : TypeId × Value → H} {W : World} {sp : Nat → Bool} {hl : Bool}
theorem slice_w1 {e t : TypeId} {y : DataW H} {elems rest : List (DataW H)} (hu : Tryz.prog.underlying t = some (.slice e)) (hy : y = .slice elems rest) (hw : ∀ n ∈ y.weights Tryz.prog t, n ≤ reachBytes) : elems.length * Tryz.prog.bytesOf e ≤ reachBytes := by
  subst hy
  refine Nat.le_trans (Nat.mul_le_mul_right _ (Nat.le_add_right _ rest.length)) (hw _ ?_)
  simp only [DataW.weights, hu, List.mem_cons, List.mem_append, true_or]
theorem field_w {t : TypeId} {fs : Array Field} {l : List (String × TypeId × Nat)} (hu : Tryz.prog.underlying t = some (.struct fs)) (hl : fs.toList.map (fun f => (f.name, f.type, f.offset)) = l) {xs : List (DataW H × List MemPlace)} {y : DataW H} (hy : y = .agg (xs.map (·.1))) (hw : ∀ n ∈ y.weights Tryz.prog t, n ≤ reachBytes) {i : Nat} {q : String × TypeId × Nat} {x : DataW H × List MemPlace} (hi : l[i]? = some q) (hx : xs[i]? = some x) : ∀ n ∈ x.1.weights Tryz.prog q.2.1, n ≤ reachBytes := by
  subst hy
  intro n hn
  refine hw n ?_
  simp only [DataW.weights, hu]
  refine DataW.weights_mem_each (j := i) (t := q.2.1) (d := x.1) ?_ (by rw [List.getElem?_map, hx]; rfl) n hn
  have h2 : fs.toList.map (·.type) = l.map (fun x => x.2.1) := by rw [← hl, List.map_map]; rfl
  rw [h2, List.getElem?_map, hi]
  rfl
set_option maxRecDepth 100000 in
theorem gram_w1 {so : Option Addr} {n cap : Nat} {d : DataW H} {ps : List MemPlace} (h : DataW.Trod enc Tryz.prog W 0 sp hl 24 (.agg #[.slice so n cap]) d ps) (hw : ∀ m ∈ d.weights Tryz.prog 24, m ≤ reachBytes) : n * 112 ≤ 140737488351232 := by
  obtain ⟨fuel, hf⟩ := h
  obtain ⟨xs, m, rfl, hx, hlen, hxs, hf⟩ := DataW.trod_struct Tryz.structGram hf
  rw [fields_size Tryz.fieldsGram] at hxs
  match xs, hxs with
  | [y0], _ =>
  have hd : d = .agg ([y0].map (·.1)) := congrArg Prod.fst hx
  have w0 := field_w Tryz.structGram Tryz.fieldsGram hd hw (i := 0) rfl (x := y0) rfl
  obtain ⟨f0, g0, t0, o0⟩ := fieldsq Tryz.fieldsGram 0 _ rfl
  have r0 := hf 0 f0 g0
  simp only [Value.cells, t0, o0, Tryz.cellsRules, List.drop_zero, List.take_succ_cons, List.take_zero, List.getElem?_cons_zero] at r0
  rcases DataW.trod_slice Tryz.sliceRules r0 with ⟨e6, _⟩ | ⟨ad, len, cap', elems, rest, m2, hm2, e6, ex, _, hlc, hcm, hel, hev, _⟩
  · simp only [List.cons.injEq, and_true, Value.slice.injEq] at e6
    obtain ⟨rfl, rfl, rfl⟩ := e6
    omega
  · simp only [List.cons.injEq, and_true, Value.slice.injEq] at e6
    obtain ⟨rfl, rfl, rfl⟩ := e6
    have u1 := slice_w1 Tryz.sliceRules (by rw [ex]) w0
    rw [List.length_map, hel, Tryz.bytesRule] at u1
    exact u1
end
end Go.Proofs.YtplffhmefnnieaaGreatDoor
