/-
  From an argument that is a row of acts to what it holds. Conditions: those that each theorem names.
  What the given list of variables gives a walk that comes to errors.As: the variable of package errors holds the handle of the type error. Condition: the list is met.
-/
import Derived.Test.YtmddcdaodlnnhaaGreatDoorVDLUToRowsMem
import Derived.Test.YtmddcdaodlnnhaaGreatDoorRows
import Derived.SizedLaws
import Derived.ProofKit
import Derived.OpenShut
import Derived.Laws.IdiomArrays
import Derived.Carry
import Derived.Test.YtmddcdaodlnnhaaGreatDoorCards
import Derived.Test.YtmddcdaodlnnhaaGreatDoorTie
import Derived.LaidMore
import Derived.LaidHandle
import Derived.Stop.Joined
import Derived.Lib.LaidTab
namespace Go.Proofs.YtmddcdaodlnnhaaGreatDoor
open Go.ChangeShapes Go.WideShapes Go.ChangeAt Go.RowKit
set_option linter.unusedVariables false
theorem Tryz.dkLaid : laidOutB Tryz.prog = true := by kernel_rfl
theorem Tryz.dkInt : Tryz.prog.cellsOf 3 = 1 := by kernel_rfl
theorem Tryz.dkStr : Tryz.prog.cellsOf 9 = 1 := by kernel_rfl
theorem Tryz.dkIs : Tryz.prog.cellsOf 30 = 1 := by kernel_rfl
theorem Tryz.dkStruct : Tryz.prog.underlying 32 = some (.struct (Tryz.prog.fieldsOf 32)) := by kernel_rfl
theorem Tryz.dkFields : (Tryz.prog.fieldsOf 32).toList.map (fun f => (f.name, f.type, f.offset)) = [("Do", 3, 0), ("Name", 9, 1), ("B", 29, 2), ("N", 3, 3), ("M", 3, 4), ("L", 30, 5)] := by kernel_rfl
theorem Tryz.dkCells : Tryz.prog.cellsOf 32 = 6 := by kernel_rfl
section
variable {H : Type} {enc : TypeId × Value → H} {W : World}
theorem bulk_pos (d : DataW H) : 1 ≤ Rows.uptoBulk d := by
  cases d with
  | lit x => cases x <;> simp [Rows.uptoBulk]
  | _ => simp [Rows.uptoBulk]
theorem bulk_len : ∀ l : List (DataW H), l.length ≤ Rows.uptoBulkAll l
  | [] => Nat.zero_le _
  | d :: r => by
    have h1 := bulk_pos d
    have h2 := bulk_len r
    simp only [Rows.uptoBulkAll, List.length_cons]
    omega
theorem bulk_mem : ∀ {l : List (DataW H)} {d : DataW H}, d ∈ l → Rows.uptoBulk d ≤ Rows.uptoBulkAll l
  | a :: r, d, h => by
    simp only [Rows.uptoBulkAll]
    rcases List.mem_cons.1 h with rfl | h
    · omega
    · have := bulk_mem h; omega
theorem dfieldsq {fs : Array Field} {l : List (String × TypeId × Nat)} (h : fs.toList.map (fun f => (f.name, f.type, f.offset)) = l) (i : Nat) (x : String × TypeId × Nat) (hx : l[i]? = some x) : ∃ f, fs[i]? = some f ∧ f.type = x.2.1 ∧ f.offset = x.2.2 := by
  rw [← h, List.getElem?_map] at hx
  cases hf : fs.toList[i]? with
  | none => rw [hf] at hx; cases hx
  | some f =>
    rw [hf] at hx
    simp only [Option.map_some, Option.some.injEq] at hx
    refine ⟨f, by rw [← Array.getElem?_toList]; exact hf, ?_, ?_⟩
    · rw [← hx]
    · rw [← hx]
theorem dfields_size {fs : Array Field} {l : List (String × TypeId × Nat)} (h : fs.toList.map (fun f => (f.name, f.type, f.offset)) = l) : fs.size = l.length := by
  rw [← h, List.length_map, Array.length_toList]
theorem dcells_spot {a : Addr} {n : Nat} {cs : List Value} (h : W.cells? 0 (a.add (0 * n)) n = some cs) (hn : 0 < n) : a.spot = none := by
  obtain ⟨_, h2, h3⟩ := World.cells?_some h
  have h0 := h3 0 hn
  rw [Deep.add_add, Nat.zero_mul] at h0
  obtain ⟨c, hc⟩ : ∃ c, cs[0]? = some c := ⟨_, List.getElem?_eq_getElem (by omega)⟩
  rw [hc] at h0
  have := World.cell?_spot h0
  simpa [Addr.add] using this
theorem dcells_at {b off k n : Nat} {cs : List Value} (h : W.cells? 0 ((⟨b, off, none⟩ : Addr).add k) n = some cs) (hn : 0 < n) : b < W.heap.size ∧ cs.length = n ∧ ∀ j u, cs[j]? = some u → W.cell? ⟨b, off + k + j, none⟩ = some u := by
  obtain ⟨_, h2, h3⟩ := World.cells?_some h
  have hc : ∀ j u, cs[j]? = some u → W.cell? ⟨b, off + k + j, none⟩ = some u := fun j u hj => by
    have hjl : j < n := by rw [← h2]; exact (List.getElem?_eq_some_iff.1 hj).1
    have := h3 j hjl
    rw [Deep.add_add, Addr.add_lit, hj] at this
    rw [Nat.add_assoc]
    exact this
  exact ⟨World.block_lt_of_cell? W ⟨b, off + k + 0, none⟩ (hc 0 _ (List.getElem?_eq_getElem (by omega))), h2, hc⟩
/-- A row of bytes: what it holds, and where. -/
theorem bytes_in {v : Value} {x : DataW H × List MemPlace} {fuel : Nat} (hf : DataW.trod enc Tryz.prog W 0 (fun _ => true) true fuel 29 [v] = some x) :
    ∃ o c l, v = .slice o l.length c ∧ Has W o l.length c l ∧ l.length ≤ Rows.uptoBulk x.1 ∧ ∀ p, o = some p ∧ 0 < l.length → p.block < W.heap.size := by
  obtain ⟨a, len, cap, l, rfl, hl⟩ := has_cell (ps := x.2) (d := x.1) hf
  have hln := hl.1
  subst hln
  refine ⟨a, cap, l, rfl, hl, ?_, fun p hp => ?_⟩
  · rcases DataW.trod_slice Tryz.underlying29 hf with ⟨e6, _⟩ | ⟨ad, len, cap', elems, rest, m2, hm2, e6, ex, _, hlc, hcm, hel, hev, _⟩
    · simp only [List.cons.injEq, and_true, Value.slice.injEq] at e6
      omega
    · simp only [List.cons.injEq, and_true, Value.slice.injEq] at e6
      rw [ex]
      have := bulk_len (elems.map (·.1))
      rw [List.length_map] at this
      simp only [Rows.uptoBulk]
      omega
  · obtain ⟨_, _, _, _, h5⟩ := hl
    obtain ⟨g, off, ha, hlt, _⟩ := h5 hp.2
    rw [hp.1] at ha
    cases ha
    exact hlt
/-- A row of numbers: what it holds, and where. -/
theorem ints_in {v : Value} {x : DataW H × List MemPlace} {fuel : Nat} (hf : DataW.trod enc Tryz.prog W 0 (fun _ => true) true fuel 30 [v] = some x) :
    ∃ o n c ks, v = .slice o n c ∧ IntsAt W o n c ks ∧ n ≤ Rows.uptoBulk x.1 ∧ ∀ p, o = some p ∧ 0 < n → p.block < W.heap.size := by
  rcases open_ints Tryz.underlying30 Tryz.underlying3 Tryz.dkInt hf with ⟨hcs, _⟩ | ⟨ad, len, cap, zs, hcs, _, hl, hm, hz, hx, hcell, hwz⟩
  · simp at hcs
    subst hcs
    exact ⟨none, 0, 0, [], rfl, ⟨rfl, Nat.le_refl _, by simp, fun _ => rfl, fun h => absurd h (by omega)⟩, Nat.zero_le _, fun p hp => absurd hp.2 (by omega)⟩
  · simp at hcs
    subst hcs
    have hz' : zs.length = cap := by simpa using hz
    have hblk : 0 < len → ∃ g off, some ad = some (⟨g, off, none⟩ : Addr) ∧ g < W.heap.size ∧ ∀ i (h : i < (zs.take len).length), W.cell? ⟨g, off + i, none⟩ = some (.int .i64 (zs.take len)[i]) := fun h0 => by
      obtain ⟨b, off, spot⟩ := ad
      have hc0 := hcell 0 (by omega)
      have hspot : spot = none := by simpa [Addr.add] using World.cell?_spot hc0
      subst hspot
      refine ⟨b, off, rfl, World.block_lt_of_cell? W _ (by rw [Addr.add_lit] at hc0; exact hc0), fun i hi => ?_⟩
      rw [List.length_take] at hi
      have hc := hcell i (by omega)
      rw [Addr.add_lit] at hc
      rw [hc, List.getElem_take, List.getD_eq_getElem?_getD, List.getElem?_eq_getElem (by omega)]
      rfl
    refine ⟨some ad, len, cap, zs.take len, rfl, ⟨by rw [List.length_take]; omega, hl, fun z hz2 => bounds_i64 (hwz z (List.mem_of_mem_take hz2)), fun e => (by cases e), hblk⟩, ?_, fun p hp => ?_⟩
    · have e1 : x.1 = _ := congrArg Prod.fst hx
      rw [e1]
      simp only [Rows.uptoBulk]
      have := bulk_len (lits (H := H) .i64 (zs.take len))
      have e2 : (lits (H := H) .i64 (zs.take len)).length = len := by unfold lits; rw [List.length_map, List.length_take]; omega
      omega
    · obtain ⟨g, off, e, hlt, _⟩ := hblk hp.2
      rw [hp.1] at e
      cases e
      exact hlt
set_option maxRecDepth 100000 in
theorem open_six {fuel : Nat} {cs : List Value} {x : DataW H × List MemPlace} (h : DataW.trod enc Tryz.prog W 0 (fun _ => true) true fuel 32 cs = some x) :
    ∃ a : Ax, cs = [.int .i64 a.K, .string a.S, .slice a.bo a.b.length a.bc, .int .i64 a.N, .int .i64 a.M, .slice a.lo a.ln a.lc] ∧ (Rows.uptoBulk x.1 ≤ 1048576 → a.Ok W.heap.size W) := by
  obtain ⟨xs, n, rfl, rfl, hlen, hxs, hq⟩ := DataW.trod_struct Tryz.dkStruct h
  rw [Tryz.dkCells] at hlen
  rw [dfields_size Tryz.dkFields] at hxs
  match cs, hlen with
  | [c0, c1, c2, c3, c4, c5], _ =>
  match xs, hxs with
  | [y0, y1, y2, y3, y4, y5], _ =>
  obtain ⟨f0, g0, t0, o0⟩ := dfieldsq Tryz.dkFields 0 _ rfl
  obtain ⟨f1, g1, t1, o1⟩ := dfieldsq Tryz.dkFields 1 _ rfl
  obtain ⟨f2, g2, t2, o2⟩ := dfieldsq Tryz.dkFields 2 _ rfl
  obtain ⟨f3, g3, t3, o3⟩ := dfieldsq Tryz.dkFields 3 _ rfl
  obtain ⟨f4, g4, t4, o4⟩ := dfieldsq Tryz.dkFields 4 _ rfl
  obtain ⟨f5, g5, t5, o5⟩ := dfieldsq Tryz.dkFields 5 _ rfl
  have r0 := hq 0 f0 g0
  have r1 := hq 1 f1 g1
  have r2 := hq 2 f2 g2
  have r3 := hq 3 f3 g3
  have r4 := hq 4 f4 g4
  have r5 := hq 5 f5 g5
  simp only [t0, o0, t1, o1, t2, o2, t3, o3, t4, o4, t5, o5, Tryz.dkInt, Tryz.dkStr, Tryz.dkIs, Tryz.cellsB, List.drop_zero, List.drop_succ_cons, List.take_succ_cons, List.take_zero, List.getElem?_cons_zero, List.getElem?_cons_succ] at r0 r1 r2 r3 r4 r5
  obtain ⟨i0, e0, _, w0⟩ := DataW.trod_int Tryz.underlying3 r0
  obtain ⟨s, e1, x1, w1⟩ := DataW.trod_string Tryz.underlying9 r1
  obtain ⟨o, c, b, rfl, hb, hbk, hbm⟩ := bytes_in r2
  obtain ⟨i3, e3, _, w3⟩ := DataW.trod_int Tryz.underlying3 r3
  obtain ⟨i4, e4, _, w4⟩ := DataW.trod_int Tryz.underlying3 r4
  obtain ⟨lo, ln, lc, ks, rfl, hk, hkk, hkm⟩ := ints_in r5
  simp only [List.cons.injEq, and_true] at e0 e1 e3 e4
  subst e0 e1 e3 e4
  refine ⟨⟨i0, s, o, c, b, i3, i4, lo, ln, lc, ks⟩, rfl, fun hw => ?_⟩
  simp only [Rows.uptoBulk, List.map_cons, List.map_nil, Rows.uptoBulkAll] at hw
  have hs1 : Rows.uptoBulk y1.1 = s.size + 1 := by
    rw [x1]
    show s.data.toList.length + 1 = _
    rw [Array.length_toList]
    rfl
  exact ⟨bounds_i64 w0, bounds_i64 w3, bounds_i64 w4, by unfold maxLen at w1; show s.size ≤ _; omega, hb, hbm, hk, hkm, by show b.length ≤ _; omega, by show ln ≤ _; omega⟩
def ax0 : Ax := ⟨0, ⟨#[]⟩, none, 0, [], 0, 0, none, 0, 0, []⟩
set_option maxRecDepth 100000 in
theorem open_acts {so : Option Addr} {n cap : Nat} {d : DataW H} {ps : List MemPlace} (h : DataW.Trod enc Tryz.prog W 0 (fun _ => true) true 22 (.slice so n cap) d ps) (hw : Rows.uptoBulk d ≤ 1048576) :
    ∃ xs, RowA W.heap.size W so n xs := by
  obtain ⟨fuel, h⟩ := h
  rcases DataW.trod_slice Tryz.underlying22 h with ⟨e6, _⟩ | ⟨ad, len, cap', elems, rest, m2, hm2, e6, ex, _, hlc, hcm, hel, hev, _⟩
  · simp only [Value.cells, List.cons.injEq, and_true, Value.slice.injEq] at e6
    obtain ⟨rfl, rfl, rfl⟩ := e6
    exact ⟨[], rfl, by unfold maxLen; omega, fun h => absurd h (by omega), by simp⟩
  · simp only [Value.cells, List.cons.injEq, and_true, Value.slice.injEq] at e6
    obtain ⟨rfl, rfl, rfl⟩ := e6
    have key : ∀ i (hi : i < n), ∃ cs', W.cells? 0 (ad.add (i * 6)) 6 = some cs' ∧ DataW.trod enc Tryz.prog W 0 (fun _ => true) true m2 32 cs' = some (elems[i]'(by omega)) := fun i hi => by
      have h1 := hev i hi
      rw [List.getElem?_eq_getElem (by omega)] at h1
      obtain ⟨cs', h2, h3⟩ := Option.bind_eq_some_iff.1 h1
      rw [Tryz.dkCells] at h2
      exact ⟨cs', h2, h3⟩
    obtain ⟨g, off, spot⟩ := ad
    by_cases h0 : n = 0
    · subst h0
      exact ⟨[], rfl, by unfold maxLen; omega, fun h => absurd h (by omega), by simp⟩
    obtain ⟨cs0, h00, _⟩ := key 0 (by omega)
    obtain rfl : spot = none := dcells_spot h00 (by omega)
    obtain ⟨hgb, _, _⟩ := dcells_at h00 (by omega)
    have ex' : d = _ := congrArg Prod.fst ex
    have hwe : ∀ i (hi : i < n), Rows.uptoBulk (elems[i]'(by omega)).1 ≤ 1048576 := fun i hi => by
      rw [ex'] at hw
      simp only [Rows.uptoBulk] at hw
      have := bulk_mem (l := elems.map (·.1)) (d := (elems[i]'(by omega)).1) (List.mem_map.2 ⟨_, List.getElem_mem _, rfl⟩)
      omega
    have hall : ∀ i, ∃ a : Ax, i < n → (W.cell? ⟨g, off + i * 6 + 0, none⟩ = some (.int .i64 a.K) ∧ W.cell? ⟨g, off + i * 6 + 1, none⟩ = some (.string a.S) ∧ W.cell? ⟨g, off + i * 6 + 2, none⟩ = some (.slice a.bo a.b.length a.bc) ∧ W.cell? ⟨g, off + i * 6 + 3, none⟩ = some (.int .i64 a.N) ∧ W.cell? ⟨g, off + i * 6 + 4, none⟩ = some (.int .i64 a.M) ∧ W.cell? ⟨g, off + i * 6 + 5, none⟩ = some (.slice a.lo a.ln a.lc)) ∧ a.Ok W.heap.size W := fun i => by
      by_cases hi : i < n
      · obtain ⟨cs', h2, h3⟩ := key i hi
        obtain ⟨_, _, s4⟩ := dcells_at h2 (by omega)
        obtain ⟨a, rfl, i5⟩ := open_six h3
        exact ⟨a, fun _ => ⟨⟨s4 0 _ rfl, s4 1 _ rfl, s4 2 _ rfl, s4 3 _ rfl, s4 4 _ rfl, s4 5 _ rfl⟩, i5 (hwe i hi)⟩⟩
      · exact ⟨ax0, fun h => absurd h hi⟩
    obtain ⟨f, hf'⟩ := Classical.axiomOfChoice hall
    have hmem : ∀ x ∈ (List.range n).map f, ∃ i, i < n ∧ f i = x := fun x hx => by
      obtain ⟨i, h1, h2⟩ := List.mem_map.1 hx
      exact ⟨i, List.mem_range.1 h1, h2⟩
    refine ⟨(List.range n).map f, by simp, by omega, fun _ => ⟨g, off, rfl, hgb, fun j hj => ?_⟩, fun x hx => ?_⟩
    · have hj' : j < n := by simpa using hj
      have := (hf' j hj').1
      simpa using this
    · obtain ⟨i, h1, rfl⟩ := hmem x hx
      exact (hf' i h1).2
end
end Go.Proofs.YtmddcdaodlnnhaaGreatDoor
namespace Go.Proofs.YtmddcdaodlnnhaaGreatDoor
open Go.ChangeShapes Go.WideShapes Go.RowKit
set_option linter.unusedVariables false
theorem Tryz.et : Tryz.prog.globalNamed "errors.errorType" = some 0 := by kernel_rfl
theorem Tryz.rt : (Tryz.prog.cutTypes.find? (·.1 == "internal/reflectlite.rtype")).map (·.2) = some 108 := by kernel_rfl
theorem Tryz.oneRow : ((List.range 175).filter fun t => Tryz.prog.rowNamed t [101, 114, 114, 111, 114]) = [46] := by kernel_rfl
theorem Tryz.nTypes : Tryz.prog.types.size = 175 := by kernel_rfl
theorem err_laid {W : World} {l : List (String × DataW Unit)} (h : handlesMet Tryz.prog l W) (hm : ("errors.errorType", Rows.laid_errors_errorType) ∈ l) : ErrIs W := by
  obtain ⟨name, u, ty, e1, e2, e3, e4, e5⟩ := h _ hm
  have en : name = [101, 114, 114, 111, 114] := (Option.some.inj e1).symm
  subst en
  obtain rfl := Option.some.inj (Tryz.rt.symm.trans e2)
  have hm : ty ∈ (List.range 175).filter fun t => Tryz.prog.rowNamed t [101, 114, 114, 111, 114] := List.mem_filter.2 ⟨List.mem_range.2 (by rw [← Tryz.nTypes]; exact e3), e4⟩
  rw [Tryz.oneRow] at hm
  obtain rfl := List.mem_singleton.1 hm
  have hh : typeHandle Tryz.prog 46 = .pointer (some ⟨1, 46, none⟩) := by kernel_rfl
  rw [hh] at e5
  have := World.var?_cell Tryz.et e5 0
  unfold ErrIs
  simpa using this
theorem err_only {W : World} (h : laidMetH Tryz.prog [("errors.errorType", Rows.laid_errors_errorType)] W) : ErrIs W := by
  have h' : laidMet Tryz.prog [] W ∧ handlesMet Tryz.prog [("errors.errorType", Rows.laid_errors_errorType)] W := h
  exact err_laid h'.2 (List.mem_singleton.2 rfl)
end Go.Proofs.YtmddcdaodlnnhaaGreatDoor
