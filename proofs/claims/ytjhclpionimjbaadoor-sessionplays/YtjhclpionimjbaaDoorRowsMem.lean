/-
  Rows of bytes in memory: what it is that a slice of slices holds given rows; from an argument to its rows; 'append' onto memory of the call's own, nil too. Conditions: those that each theorem names.
-/
import Derived.Test.YtjhclpionimjbaaDoorArgs
import Derived.Test.YtjhclpionimjbaaDoorCopied
import Derived.Deep.Slices
namespace Go.Proofs.YtjhclpionimjbaaDoor
open Go.ChangeShapes Go.WideShapes Go.ChangeAt Go.RowKit
set_option linter.unusedVariables false

/-- The slice holds these rows of bytes. -/
def HasRows (w : World) (a : Option Addr) (len cap : Nat) (ls : List (List UInt8)) : Prop :=
  ls.length = len ∧ len ≤ cap ∧ cap ≤ maxLen ∧ (0 < len → ∃ b off, a = some ⟨b, off, none⟩ ∧ b < w.heap.size ∧
    ∀ i (h : i < ls.length), ∃ ao n c, w.cell? ⟨b, off + i, none⟩ = some (.slice ao n c) ∧ Has w ao n c ls[i])
theorem HasRows.below {w w' : World} {a : Option Addr} {len cap : Nat} {ls : List (List UInt8)} (h : HasRows w a len cap ls) (hb : Below w.heap.size w w') : HasRows w' a len cap ls := by
  obtain ⟨h1, h2, h3, h5⟩ := h
  refine ⟨h1, h2, h3, fun h0 => ?_⟩
  obtain ⟨b, off, ha, hlt, hc⟩ := h5 h0
  have := hb.size
  refine ⟨b, off, ha, by omega, fun i hi => ?_⟩
  obtain ⟨ao, n, c, h1, h2⟩ := hc i hi
  exact ⟨ao, n, c, (hb.cell (p := ⟨b, off + i, none⟩) hlt).trans h1, h2.below hb⟩

theorem Tryd.cellsB : Tryd.prog.cellsOf 40 = 1 := by kernel_rfl
theorem has_cell {H : Type} {enc : TypeId × Value → H} {W : World} {v : Value} {d : DataW H} {ps : List MemPlace}
    {fuel : Nat} (hf : DataW.trod enc Tryd.prog W 0 (fun _ => true) true fuel 40 [v] = some (d, ps)) : ∃ a len cap l, v = .slice a len cap ∧ Has W a len cap l := by
  have hs : ∃ a len cap, v = .slice a len cap := by
    rcases open_ints Tryd.underlying40 Tryd.underlying5 Tryd.cells5 hf with ⟨hcs, _⟩ | ⟨x, l, c, zs, hcs, _⟩
    · simp at hcs; exact ⟨_, _, _, hcs⟩
    · simp at hcs; exact ⟨_, _, _, hcs⟩
  obtain ⟨a, len, cap, rfl⟩ := hs
  obtain ⟨l, hl⟩ := has_arg (a := a) (len := len) (cap := cap) hf
  exact ⟨a, len, cap, l, rfl, hl⟩

theorem rows_arg {H : Type} {enc : TypeId × Value → H} {W : World} {a : Option Addr} {len cap : Nat} {d : DataW H} {ps : List MemPlace}
    {fuel : Nat} (hf : DataW.trod enc Tryd.prog W 0 (fun _ => true) true fuel 70 (Value.slice a len cap).cells.toList = some (d, ps)) : ∃ ls, HasRows W a len cap ls := by
  rcases Deep.open_slice1 Tryd.underlying70 Tryd.cellsB hf with ⟨hcs, _⟩ | ⟨x, l, c, m, n, V, D, Pl, hcs, _, hl, hm, hmm, _, hV⟩
  · simp [Value.cells] at hcs
    obtain ⟨rfl, rfl, rfl⟩ := hcs
    exact ⟨[], rfl, Nat.le_refl _, by unfold maxLen; omega, fun h => absurd h (by omega)⟩
  · simp [Value.cells] at hcs
    obtain ⟨rfl, rfl, rfl⟩ := hcs
    simp at hmm
    subst hmm
    have hall : ∀ i, i < m → ∃ r : List UInt8, ∃ ao k c, W.cell? (x.add i) = some (.slice ao k c) ∧ Has W ao k c r := by
      intro i hi
      obtain ⟨h1, h2⟩ := hV i hi
      obtain ⟨ao, k, c, r, e, hr⟩ := has_cell h2
      rw [e] at h1
      exact ⟨r, ao, k, c, h1, hr⟩
    obtain ⟨F, hF⟩ := Deep.choose_lt (α := List UInt8) hall
    refine ⟨(List.range len).map F, by simp, hl, hm, fun h0 => ?_⟩
    obtain ⟨b, off, spot⟩ := x
    obtain ⟨ao, k, c, hc0, _⟩ := hF 0 (by omega)
    have hspot : spot = none := by simpa [Addr.add] using World.cell?_spot hc0
    subst hspot
    refine ⟨b, off, rfl, ?_, fun i hi => ?_⟩
    · have := block_lt hc0
      simpa [Addr.add] using this
    · simp at hi
      obtain ⟨ao, k, c, h1, h2⟩ := hF i (by omega)
      rw [Addr.add_lit] at h1
      exact ⟨ao, k, c, h1, by simpa using h2⟩

/-- 'b = append(b, bytes...)', b nil or the call's own, at least one byte. -/
theorem wpList_grow {w : World} {ops : Array Oper} {rest : List Oper} {o : Oper} {a : Act} {Q : Exit → Act → World → Prop} (hgd : o.guard = none) (s x : Operand)
    (ho : o.op = .call { callee := .builtin .append, args := #[s, x], argTypes := #[40, 40] })
    (base : Nat) (v : Value) (n : Nat) (xs : List Value) (hs : a.eval s = v) (hown : w.ownsRow base 5 1 v n xs)
    (ao : Option Addr) (m c : Nat) (l : List UInt8) (hx : a.eval x = .slice ao m c) (hl : Has w ao m c l) (hpos : 0 < m) (hb : n + m ≤ 140737488355328) (hbase : base ≤ w.heap.size)
    (h : ∀ g cap w', base ≤ g → w'.ownsRow base 5 1 (.slice (some ⟨g, 0, none⟩) (n + m) cap) (n + m) (xs ++ l.map bv) → w.grownBy w' v.ownBlock → wpList Tryd.prog ops Q rest (a.put o.dst (.slice (some ⟨g, 0, none⟩) (n + m) cap)) w') :
    wpList Tryd.prog ops Q (o :: rest) a w := by
  obtain ⟨i0, hi, hz0, hz1, hz2⟩ := info_parts Tryd.info5
  obtain ⟨ad, rfl, hat⟩ := hl.cells (by rw [List.length_map, hl.1]; exact hpos)
  have hsz : (l.map bv).length = m * 1 := by simpa using hl.1
  refine wpList_append_own w hgd s x 40 ho base 5 i0 (.int .u8 0) 1 1 Tryd.underlying40 hi hz0 hz1 hz2 rfl (by decide) v n xs hs hown ad m c (l.map bv) hx hsz hat (bv_oneCell l) (by unfold maxLen; omega) (by omega) hbase ?_
  intro v' w' hown' hgr hnil
  have hsh : ∃ g cap, v' = .slice (some ⟨g, 0, none⟩) (n + m) cap := by
    obtain ⟨_, hx | ⟨g, cap, cur, e, _⟩⟩ := hown'
    · omega
    · exact ⟨g, cap, e⟩
  obtain ⟨g, cap, rfl⟩ := hsh
  exact h g cap w' (hown'.lt g rfl).1 hown' hgr

/-- What is owned, nil or not, holds its bytes. -/
theorem Has.of_owned {w : World} {base n cap : Nat} {a : Option Addr} {l : List UInt8} (h : w.ownsRow base 5 1 (.slice a n cap) n (l.map bv)) : Has w a n cap l := by
  have h0 := h
  obtain ⟨hl, h | h⟩ := h
  · obtain ⟨e, rfl⟩ := h
    simp at e hl
    obtain ⟨rfl, rfl⟩ := e
    subst hl
    exact ⟨rfl, Nat.le_refl _, by unfold maxLen; omega, fun _ => rfl, fun h => absurd h (by omega)⟩
  · obtain ⟨g', cap', cur, e, hb, hh, hn, hm, hs, ht⟩ := h
    simp at e
    obtain ⟨rfl, rfl⟩ := e
    exact Has.of_row h0
theorem owned_block {w : World} {base n cap : Nat} {a : Option Addr} {xs : List Value} (h : w.ownsRow base 5 1 (.slice a n cap) n xs) : ∀ k, (Value.slice a n cap).ownBlock = some k → base ≤ k := fun k hk => (h.lt k hk).1
end Go.Proofs.YtjhclpionimjbaaDoor
