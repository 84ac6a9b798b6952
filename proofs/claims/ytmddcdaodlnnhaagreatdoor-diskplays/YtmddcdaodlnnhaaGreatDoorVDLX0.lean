/-
  Rows of files that are written over. Conditions: those that each theorem names.
-/
import Derived.Test.YtmddcdaodlnnhaaGreatDoorVDLUToRowsMem
namespace Go.Proofs.YtmddcdaodlnnhaaGreatDoor
open Go.RowKit Go.Maps
set_option linter.unusedVariables false
/-- A row of bytes whose place may be written over. -/
def Wb (M : Nat) (w : World) (x : Gx) : Prop := x.k ≤ x.c ∧ ((x.o = none ∧ x.c = 0) ∨ ∃ g cur, x.o = some ⟨g, 0, none⟩ ∧ M ≤ g ∧ w.heap[g]? = some (.cells cur 5 (0, 0)) ∧ cur.size = x.c ∧ x.c ≤ maxLen)
theorem Wb.of {M : Nat} {w : World} {x : Gx} (h : w.ownsRow M 5 1 (.slice x.o x.k x.c) x.k (x.b.map bv)) : Wb M w x := by
  obtain ⟨_, ⟨e, h0⟩ | ⟨g, cap, cur, e, hg, hq, hn, hm, hz, _⟩⟩ := h
  · have e1 := (Value.slice.inj e)
    obtain ⟨e1, e2, e3⟩ := e1
    exact ⟨by omega, .inl ⟨e1, e3⟩⟩
  · obtain ⟨e1, e2, e3⟩ := Value.slice.inj e
    exact ⟨by omega, .inr ⟨g, cur, e1, hg, hq, by omega, by omega⟩⟩
/-- While the files are written over. -/
structure SpI (M : Nat) (w5 : World) (g cp : Nat) (ls : List Gx) (k : Nat) (wr : World) : Prop where
  bel : Below M w5 wr
  mg : M ≤ g
  row : ∃ cur, wr.heap[g]? = some (.cells cur 40 (0, 0)) ∧ cur.size = cp * 3 ∧ ∀ j (h : j < ls.length), k ≤ j → cur[j * 3 + 1]? = some (.slice ls[j].o ls[j].k ls[j].c)
  wb : ∀ x ∈ ls, Wb M wr x
theorem SpI.kx {M : Nat} {w5 : World} {g cp : Nat} {ls : List Gx} {k : Nat} {wr w' : World} (h : SpI M w5 g cp ls k wr) (hM : M ≤ wr.heap.size) (hb : Below wr.heap.size wr w') : SpI M w5 g cp ls k w' := by
  refine ⟨h.bel.trans (hb.mono hM), h.mg, ?_, fun x hx => ?_⟩
  · obtain ⟨cur, h1, h2, h3⟩ := h.row
    exact ⟨cur, (hb.block _ (node_lt h1)).trans h1, h2, h3⟩
  · obtain ⟨h0, h1 | ⟨gg, cur, e, h1, h2, h3⟩⟩ := h.wb x hx
    · exact ⟨h0, .inl h1⟩
    · exact ⟨h0, .inr ⟨gg, cur, e, h1, (hb.block _ (node_lt h2)).trans h2, h3⟩⟩
/-- One row of bytes is written over. -/
theorem SpI.own {M : Nat} {w5 : World} {g cp : Nat} {ls : List Gx} {k : Nat} {w : World} {b : Nat} (h : SpI M w5 g cp ls k w) {x : Gx} (hx : x ∈ ls) (hb : w.cell? ⟨b, 0, none⟩ = some (.slice x.o x.k x.c)) (hbT : NoT w b) :
    Calls Tryz.prog 13 #[.slice (some ⟨b, 0, none⟩) 1 1] w fun e w' => e = .returned (.bool true) ∧ SpI M w5 g cp ls k w' := by
  obtain ⟨hn, ⟨e1, e2⟩ | ⟨gg, cur, e1, hM, hg, hsz, hmx⟩⟩ := h.wb x hx
  · have hk0 : x.k = 0 := by omega
    rw [e1, e2, hk0] at hb
    refine (owned_any b 0 1 1 [(none, 0, 0)] w ⟨fun j hj => ?_, fun j hj g e => ?_, fun j hj => ?_, fun i j h1 h2 g hne => ?_, fun j hj => ?_⟩ rfl (by omega)).mono ?_
    · obtain rfl : j = 0 := by simpa using hj
      exact hb
    · obtain rfl : j = 0 := by simpa using hj
      cases e
    · obtain rfl : j = 0 := by simpa using hj
      exact ⟨by simp, by simp, fun _ => rfl⟩
    · obtain rfl : i = 0 := by simpa using h1
      obtain rfl : j = 0 := by simpa using h2
      exact absurd rfl hne
    · obtain rfl : j = 0 := by simpa using hj
      intro e
      cases e
    · rintro e w' ⟨rfl, hI⟩
      have hbl : ∀ y, y < w.heap.size → w'.heap[y]? = w.heap[y]? := fun y hy => hI.blk y hy (fun j hj e => by
        obtain rfl : j = 0 := by simpa using hj
        cases e)
      refine ⟨rfl, ⟨hI.os.trans h.bel.os, hI.tape.trans h.bel.tape, hI.output.trans h.bel.output, Nat.le_trans h.bel.size hI.size, fun y hy => (?_ : _)⟩, h.mg, ?_, fun z hz => ?_⟩
      · by_cases hyw : y < w.heap.size
        · exact (hbl y hyw).trans (h.bel.block y hy)
        · obtain ⟨_, hr, _⟩ := h.row
          have := node_lt hr
          have := h.mg
          omega
      · obtain ⟨cur, h1, h2, h3⟩ := h.row
        exact ⟨cur, (hbl _ (node_lt h1)).trans h1, h2, h3⟩
      · obtain ⟨h0, h1 | ⟨gg, cur, e, h1, h2, h3⟩⟩ := h.wb z hz
        · exact ⟨h0, .inl h1⟩
        · exact ⟨h0, .inr ⟨gg, cur, e, h1, (hbl _ (node_lt h2)).trans h2, h3⟩⟩
  · rw [e1] at hb
    refine (owned_any b 0 1 1 [(some gg, x.k, x.c)] w ⟨fun j hj => ?_, fun j hj g' e => ?_, fun j hj => ?_, fun i j h1 h2 g hne => ?_, fun j hj => ?_⟩ rfl (by omega)).mono ?_
    · obtain rfl : j = 0 := by simpa using hj
      exact hb
    · obtain rfl : j = 0 := by simpa using hj
      cases e
      exact ⟨cur, hg, hsz⟩
    · obtain rfl : j = 0 := by simpa using hj
      exact ⟨hn, by unfold maxLen at hmx; simp; omega, fun e => by cases e⟩
    · obtain rfl : i = 0 := by simpa using h1
      obtain rfl : j = 0 := by simpa using h2
      exact absurd rfl hne
    · obtain rfl : j = 0 := by simpa using hj
      intro e
      cases e
      exact hbT cur hg
    · rintro e w' ⟨rfl, hI⟩
      have hbl : ∀ y, y < w.heap.size → y ≠ gg → w'.heap[y]? = w.heap[y]? := fun y hy hne => hI.blk y hy (fun j hj e => by
        obtain rfl : j = 0 := by simpa using hj
        cases e
        exact hne rfl)
      obtain ⟨cu2, hq2, hz2, _⟩ := hI.done 0 (by simp) gg (by omega) rfl
      refine ⟨rfl, ⟨hI.os.trans h.bel.os, hI.tape.trans h.bel.tape, hI.output.trans h.bel.output, Nat.le_trans h.bel.size hI.size, fun y hy => (?_ : _)⟩, h.mg, ?_, fun z hz => ?_⟩
      · have hlt := node_lt hg
        exact (hbl y (by omega) (by omega)).trans (h.bel.block y hy)
      · obtain ⟨cur, h1, h2, h3⟩ := h.row
        refine ⟨cur, (hbl _ (node_lt h1) fun e => ?_).trans h1, h2, h3⟩
        rw [e, hg] at h1
        have e9 := Obj.cells.inj (Option.some.inj h1)
        exact absurd e9.2.1 (by decide)
      · obtain ⟨h0, h1 | ⟨g3, cur3, e, h1, h2, h3, h4⟩⟩ := h.wb z hz
        · exact ⟨h0, .inl h1⟩
        · by_cases hgg : g3 = gg
          · subst hgg
            rw [hg] at h2
            have e9 := (Obj.cells.inj (Option.some.inj h2)).1
            refine ⟨h0, .inr ⟨g3, cu2, e, h1, hq2, ?_, h4⟩⟩
            rw [hz2]
            show x.c = z.c
            rw [← hsz, ← h3, e9]
          · exact ⟨h0, .inr ⟨g3, cur3, e, h1, (hbl _ (node_lt h2) hgg).trans h2, h3, h4⟩⟩
/-- One file is written over. -/
theorem SpI.put {M : Nat} {w5 : World} {g cp : Nat} {ls : List Gx} {k : Nat} {w : World} (h : SpI M w5 g cp ls k w) (s : Gx) : SpI M w5 g cp ls (k + 1) (st3 w g k s) := by
  have hk := st3_kx w g k s
  have hmg := h.mg
  obtain ⟨cur, h1, h2, h3⟩ := h.row
  have hgl := node_lt h1
  refine ⟨⟨hk.os.trans h.bel.os, hk.tape.trans h.bel.tape, hk.output.trans h.bel.output, Nat.le_trans h.bel.size hk.size, fun y hy => ?_⟩, h.mg, ?_, fun z hz => ?_⟩
  · exact (hk.block y (by omega) (by omega)).trans (h.bel.block y hy)
  · have e1 := set_in h1 (k * 3) (.string ⟨s.n.toArray⟩)
    have e2 := set_in e1 (k * 3 + 1) (.slice s.o s.k s.c)
    have e3 := set_in e2 (k * 3 + 2) (.int .i64 (s.s : Int))
    refine ⟨_, e3, by simp [h2], fun j hj hkj => ?_⟩
    rw [Array.getElem?_setIfInBounds_ne (by omega), Array.getElem?_setIfInBounds_ne (by omega), Array.getElem?_setIfInBounds_ne (by omega)]
    exact h3 j hj (by omega)
  · obtain ⟨h0, e | ⟨g3, cur3, e, q1, q2, q3⟩⟩ := h.wb z hz
    · exact ⟨h0, .inl e⟩
    · refine ⟨h0, .inr ⟨g3, cur3, e, q1, (hk.block _ (node_lt q2) fun e2 => ?_).trans q2, q3⟩⟩
      rw [e2, h1] at q2
      have e9 := Obj.cells.inj (Option.some.inj q2)
      exact absurd e9.2.1 (by decide)
end Go.Proofs.YtmddcdaodlnnhaaGreatDoor
