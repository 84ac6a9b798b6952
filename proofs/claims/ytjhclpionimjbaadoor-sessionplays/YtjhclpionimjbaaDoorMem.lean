/-
  Bytes in memory: what it is that a slice of bytes holds given bytes, and that its text is these bytes. Plain facts on worlds; conditions: those that each theorem names.
-/
import Derived.Test.YtjhclpionimjbaaDoorPlain
import Derived.Test.YtjhclpionimjbaaDoorProg
import Derived.WalkKit
import Derived.WalkLawsBesides
import Derived.Laws.IdiomStrings
namespace Go.Proofs.YtjhclpionimjbaaDoor
open Go.RowKit

/-- A byte as a value. -/
def bv (x : UInt8) : Value := .int .u8 (x.toNat : Int)
/-- Bytes as a text. -/
def bs (l : List UInt8) : ByteArray := ⟨l.toArray⟩
theorem bs_toList (l : List UInt8) : (bs l).toList = l := by rw [ByteArray.toList_eq]; rfl
theorem Tryd.info5 : (Tryd.prog.info? 5).map (fun i => (i.zero, i.size, i.bytes)) = some (some (.int .u8 0), 1, 1) := by kernel_rfl
theorem bv_oneCell (l : List UInt8) : ∀ u ∈ l.map bv, u.oneCell' = true := by
  intro u hu
  obtain ⟨x, _, rfl⟩ := List.mem_map.1 hu
  rfl
theorem one_new (w : World) (v : Value) (t : TypeId) : ∀ j u, [v][j]? = some u → (w.alloc (.cells #[v] t)).cell? ((⟨w.heap.size, 0, none⟩ : Addr).add j) = some u := by
  intro j u hj
  match j, hj with
  | 0, hj => simp at hj; subst hj; simp [Addr.add]
theorem one_ok (k : IntKind) (n : Int) : ∀ u ∈ [Value.int k n], u.oneCell' = true := by
  intro u hu; simp at hu; subst hu; rfl

/-- The slice 'a, of l.length and cap' holds the bytes l; its address is known where it has bytes. -/
def Has (w : World) (a : Option Addr) (len cap : Nat) (l : List UInt8) : Prop :=
  l.length = len ∧ len ≤ cap ∧ cap ≤ maxLen ∧ (a = none → cap = 0) ∧ (0 < len → ∃ b off, a = some ⟨b, off, none⟩ ∧ b < w.heap.size ∧ ∀ i (h : i < l.length), w.cell? ⟨b, off + i, none⟩ = some (bv l[i]))

theorem Has.below {w w' : World} {a : Option Addr} {len cap : Nat} {l : List UInt8} (h : Has w a len cap l) (hb : Below w.heap.size w w') : Has w' a len cap l := by
  obtain ⟨h1, h2, h3, h4, h5⟩ := h
  refine ⟨h1, h2, h3, h4, fun h0 => ?_⟩
  obtain ⟨b, off, ha, hlt, hc⟩ := h5 h0
  have := hb.size
  exact ⟨b, off, ha, by omega, fun i hi => (hb.cell (p := ⟨b, off + i, none⟩) hlt).trans (hc i hi)⟩

theorem Has.of_row {w : World} {base g n cap : Nat} {l : List UInt8} (h : w.ownsRow base 5 1 (.slice (some ⟨g, 0, none⟩) n cap) n (l.map bv)) : Has w (some ⟨g, 0, none⟩) n cap l := by
  have h0 := h
  obtain ⟨hl, h | h⟩ := h
  · cases h.1
  · obtain ⟨g', cap', cur, e, hb, hh, hn, hm, hs, ht⟩ := h
    simp at e hl
    obtain ⟨rfl, rfl⟩ := e
    have hgl : g < w.heap.size := by
      rcases Nat.lt_or_ge g w.heap.size with h1 | h1
      · exact h1
      · rw [Array.getElem?_eq_none h1] at hh; cases hh
    refine ⟨hl, hn, hm, fun e => (by cases e), fun _ => ⟨g, 0, rfl, hgl, fun i hi => ?_⟩⟩
    have := h0.cellAt i (by omega)
    rw [Nat.zero_add, this]
    simp [hi]

theorem Has.drewN {w : World} {a : Option Addr} {len cap : Nat} {l : List UInt8} (h : Has w a len cap l) (q : Nat) : Has (w.drewN q) a len cap l := by
  obtain ⟨h1, h2, h3, h4, h5⟩ := h
  refine ⟨h1, h2, h3, h4, fun h0 => ?_⟩
  obtain ⟨b, off, ha, hlt, hc⟩ := h5 h0
  exact ⟨b, off, ha, by simpa using hlt, fun i hi => by simpa using hc i hi⟩
theorem run_conv_nil (w : World) (c : Nat) : (convert 40 9 (.slice none 0 c)).run Tryd.prog w = .ok (.string (bs [])) w := by
  rw [run_convert_bytes_string w 40 9 5 none 0 c Tryd.underlying40 Tryd.underlying5 Tryd.underlying9]
  simp [Conv.bytesToString, Sem.run_pure]
  rfl
theorem Has.conv {w : World} {a : Option Addr} {len cap : Nat} {l : List UInt8} (h : Has w a len cap l) : (convert 40 9 (.slice a len cap)).run Tryd.prog w = .ok (.string (bs l)) w := by
  obtain ⟨rfl, h2, h3, h4, h5⟩ := h
  cases a with
  | none =>
    have := h4 rfl
    obtain rfl : l = [] := List.eq_nil_of_length_eq_zero (by omega)
    exact run_conv_nil w cap
  | some x =>
    refine run_convert_bytes_back w 40 9 5 x cap l Tryd.underlying40 Tryd.underlying5 Tryd.underlying9 fun j hj => ?_
    obtain ⟨b, off, ha, _, hc⟩ := h5 (by omega)
    cases ha
    rw [Addr.add_lit]
    exact hc j hj
end Go.Proofs.YtjhclpionimjbaaDoor
