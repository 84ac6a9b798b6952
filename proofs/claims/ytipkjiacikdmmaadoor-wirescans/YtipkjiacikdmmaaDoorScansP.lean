/-
  Plain facts for muntinlaw01.WireScans: how many frames bytes begin with, how long they are; rows of blocks of their own, and one more. Conditions: those that each theorem names.
-/
import Derived.Test.YtipkjiacikdmmaaDoorRSc
namespace Go.Proofs.YtipkjiacikdmmaaDoor
open Go.RowKit
set_option linter.unusedVariables false
theorem scan_few : ∀ (f : Nat) (l : List UInt8), 8 * (scanN f l).1.length ≤ l.length ∧ ∀ p ∈ (scanN f l).1, p.length ≤ l.length
  | 0, l => by simp [scanN]
  | f + 1, l => by
    rw [scanN]
    split
    · simp
    · split
      · rename_i h0
        have hb := opn_bd l h0
        have ih := scan_few f (l.drop (opn l).2.1)
        rw [List.length_drop] at ih
        refine ⟨by simp; omega, fun p hp => ?_⟩
        rcases List.mem_cons.1 hp with rfl | hp
        · omega
        · have := ih.2 p hp; omega
      · simp
/-- The rows, as Owned is told them. -/
def rsl : List Nat → List (List UInt8) → List (Option Nat × Nat × Nat)
  | g :: gs, p :: ps => (some g, p.length, p.length) :: rsl gs ps
  | _, _ => []
theorem rsl_map : ∀ (gs : List Nat) (ps : List (List UInt8)), (rsl gs ps).map rv = svs gs ps
  | [], _ => by simp [rsl, svs]
  | _ :: _, [] => by simp [rsl, svs]
  | g :: gs, p :: ps => by simp only [rsl, svs, List.map_cons, rsl_map gs ps]; rfl
theorem rsl_length (gs : List Nat) (ps : List (List UInt8)) (h : gs.length = ps.length) : (rsl gs ps).length = ps.length := by
  have := congrArg List.length (rsl_map gs ps)
  rw [List.length_map, svs_length gs ps h] at this
  exact this
theorem rsl_get : ∀ (gs : List Nat) (ps : List (List UInt8)) (i : Nat) (h : i < (rsl gs ps).length) (h1 : i < gs.length) (h2 : i < ps.length), (rsl gs ps)[i] = (some gs[i], ps[i].length, ps[i].length)
  | [], _, i, h, h1, _ => by simp at h1
  | _ :: _, [], i, h, _, h2 => by simp at h2
  | g :: gs, p :: ps, 0, _, _, _ => rfl
  | g :: gs, p :: ps, i + 1, h, h1, h2 => by
    simp only [rsl, List.getElem_cons_succ]
    exact rsl_get gs ps i _ (by simpa using h1) (by simpa using h2)
theorem rows_more {w : World} {base g2 cap B gin n : Nat} {gs : List Nat} {ps : List (List UInt8)} (ho : w.ownsRow base 22 1 (.slice (some ⟨g2, 0, none⟩) (ps.length + 1) cap) (ps.length + 1) (svs gs ps ++ [.slice (some ⟨gin, 0, none⟩) n (n + 1)]))
    (hp : OwnParts w B gs ps) (hi : OB w gin (n + 1)) (hgB : gin < B) (hn : n ≤ 1073741824) (hl : ∀ p ∈ ps, p.length ≤ 1073741824) : Rows4 w g2 0 (rsl gs ps ++ [(some gin, n, n + 1)]) := by
  have hlen := rsl_length gs ps hp.len
  have hmap : (rsl gs ps ++ [(some gin, n, n + 1)]).map rv = svs gs ps ++ [.slice (some ⟨gin, 0, none⟩) n (n + 1)] := by rw [List.map_append, rsl_map]; rfl
  have hL : (rsl gs ps ++ [(some gin, n, n + 1)]).length = ps.length + 1 := by simp [hlen]
  have hg22 : ∃ cur, w.heap[g2]? = some (.cells cur 22 (0, 0)) := by
    obtain ⟨_, h | ⟨g, c, cur, e, _, hh, _⟩⟩ := ho
    · exact absurd h.1 (by simp)
    · simp only [Value.slice.injEq, Option.some.injEq, Addr.mk.injEq] at e
      exact ⟨cur, by rw [e.1.1]; exact hh⟩
  obtain ⟨cur, hcur⟩ := hg22
  have hget : ∀ j (h : j < (rsl gs ps ++ [(some gin, n, n + 1)]).length), (∃ (h1 : j < gs.length) (h2 : j < ps.length), (rsl gs ps ++ [(some gin, n, n + 1)])[j] = (some gs[j], ps[j].length, ps[j].length)) ∨ (j = ps.length ∧ (rsl gs ps ++ [(some gin, n, n + 1)])[j] = (some gin, n, n + 1)) := by
    intro j hj
    by_cases h : j < ps.length
    · left
      refine ⟨by rw [hp.len]; exact h, h, ?_⟩
      rw [List.getElem_append_left (by omega)]
      exact rsl_get gs ps j _ _ _
    · right
      have e : j = ps.length := by omega
      refine ⟨e, ?_⟩
      rw [List.getElem_append_right (by omega)]
      simp
  have hpo : ∀ j (h1 : j < gs.length) (h2 : j < ps.length), OB w gs[j] ps[j].length := fun j h1 h2 => ⟨_, hp.block j h1 h2, by simp⟩
  refine ⟨fun j hj => ?_, fun j hj g e => ?_, fun j hj => ?_, fun i j hi' hj g hij e => ?_, fun j hj e => ?_⟩
  · have h := ho.cellAt j (by omega)
    rw [Nat.zero_add, h, ← hmap, List.getElem?_map, List.getElem?_eq_getElem hj]
    rfl
  · rcases hget j hj with ⟨h1, h2, h3⟩ | ⟨_, h3⟩
    · rw [h3] at e ⊢
      simp only [Option.some.injEq] at e
      subst e
      exact hpo j h1 h2
    · rw [h3] at e ⊢
      simp only [Option.some.injEq] at e
      subst e
      exact hi
  · rcases hget j hj with ⟨h1, h2, h3⟩ | ⟨_, h3⟩
    · rw [h3]
      have := hl _ (List.getElem_mem h2)
      exact ⟨Nat.le_refl _, by simp only; omega, fun e => by cases e⟩
    · rw [h3]
      exact ⟨by simp, by simp only; omega, fun e => by cases e⟩
  · rcases hget i hi' with ⟨h1, h2, h3⟩ | ⟨hi1, h3⟩ <;> rcases hget j hj with ⟨k1, k2, k3⟩ | ⟨hj1, k3⟩ <;> rw [h3] at e <;> rw [k3] <;> simp only [Option.some.injEq] at e <;> simp only [ne_eq, Option.some.injEq] <;> intro e2
    · rcases Nat.lt_or_ge i j with h | h
      · have := hp.sorted i j h1 k1 h; omega
      · have := hp.sorted j i k1 h1 (by omega); omega
    · have := hp.above _ (List.getElem_mem h1); omega
    · have := hp.above _ (List.getElem_mem k1); omega
    · omega
  · have h5 : ∃ c5 : Array Value, w.heap[g2]? = some (.cells c5 5 (0, 0)) := by
      rcases hget j hj with ⟨h1, h2, h3⟩ | ⟨_, h3⟩
      · rw [h3] at e
        simp only [Option.some.injEq] at e
        subst e
        exact ⟨_, hp.block j h1 h2⟩
      · rw [h3] at e
        simp only [Option.some.injEq] at e
        subst e
        obtain ⟨c, hc, _⟩ := hi
        exact ⟨c, hc⟩
    obtain ⟨c5, h5⟩ := h5
    rw [hcur] at h5
    simp at h5
theorem own_shapeR {w : World} {base : Nat} {e : TypeId} {v : Value} {n : Nat} {xs : List Value} (h : w.ownsRow base e 1 v n xs) : ∃ a c, v = .slice a n c := by
  obtain ⟨_, ⟨rfl, rfl⟩ | ⟨g, c, cur, rfl, _⟩⟩ := h
  · exact ⟨none, 0, rfl⟩
  · exact ⟨_, _, rfl⟩
theorem own_addrR {w : World} {base : Nat} {e : TypeId} {a : Option Addr} {c n : Nat} {xs : List Value} (h : w.ownsRow base e 1 (.slice a n c) n xs) (h0 : 0 < n) : ∃ g, a = some ⟨g, 0, none⟩ ∧ (∀ j, j < n → w.cell? ⟨g, j, none⟩ = xs[j]?) ∧ (∀ j, w.frozen? ⟨g, j, none⟩ = false) ∧ n ≤ c ∧ c ≤ maxLen ∧ base ≤ g := by
  have hh := h
  obtain ⟨_, ⟨_, rfl⟩ | ⟨g, c', cur, e1, hb, h3, h4, h5, _⟩⟩ := h
  · omega
  · simp at e1
    obtain ⟨rfl, rfl⟩ := e1
    exact ⟨g, rfl, fun j hj => hh.cellAt j (by omega), fun j => by simp [World.frozen?, h3], h4, h5, hb⟩
theorem own_setB {w : World} {base n g cap : Nat} {X : List UInt8} (h : w.ownsRow base 5 1 (.slice (some ⟨g, 0, none⟩) n cap) n (X.map bv)) (j : Nat) (u : UInt8) : (w.setCell ⟨g, j, none⟩ (bv u)).ownsRow base 5 1 (.slice (some ⟨g, 0, none⟩) n cap) n ((X.set j u).map bv) := by
  obtain ⟨h1, h | ⟨g', cap', cur, e1, h2, h3, h4, h5, h6, h7⟩⟩ := h
  · exact absurd h.1 (by simp)
  · simp only [Value.slice.injEq, Option.some.injEq, Addr.mk.injEq] at e1
    obtain ⟨⟨rfl, _⟩, _, rfl⟩ := e1
    refine ⟨by simpa using h1, .inr ⟨g, cap, cur.setIfInBounds j (bv u), rfl, h2, ?_, h4, h5, by simpa using h6, ?_⟩⟩
    · simp only [World.setCell, Array.getElem?_modify, if_true, h3]
      simp
    · rw [Array.toList_setIfInBounds, List.take_set, h7, List.map_set]
theorem Has.preR {w : World} {a : Option Addr} {len cap : Nat} {l : List UInt8} (h : Has w a len cap l) (x : Nat) (hx : x ≤ len) : Has w a x cap (l.take x) := by
  obtain ⟨h1, h2, h3, h4, h5⟩ := h
  refine ⟨by simp; omega, by omega, h3, h4, fun h0 => ?_⟩
  obtain ⟨b, off, ha, hlt, hc⟩ := h5 (by omega)
  refine ⟨b, off, ha, hlt, fun i hi => ?_⟩
  simp at hi
  rw [hc i (by omega)]
  simp
theorem xor_u8 (a b : UInt8) : bits BinOp.xor IntKind.u8 (a.toNat : Int) (b.toNat : Int) = (((a ^^^ b).toNat : Nat) : Int) := by
  have : ∀ x : Fin 256, ∀ y : Fin 256, bits BinOp.xor IntKind.u8 ((x.val : Nat) : Int) ((y.val : Nat) : Int) = ((x.val ^^^ y.val : Nat) : Int) := by decide +kernel
  have h := this ⟨a.toNat, a.toNat_lt⟩ ⟨b.toNat, b.toNat_lt⟩
  rw [h]
  simp
end Go.Proofs.YtipkjiacikdmmaaDoor
