/-
  What the reader's method one answers where a literal or a class stands, and where no part can begin. Conditions: those that each theorem names.
-/
import Derived.Test.YtggmoneicdkamaaGreatDoorVY3ToY4
import Derived.WalkLawsBesides
namespace Go.Proofs.YtggmoneicdkamaaGreatDoor
open Go.RowKit
set_option linter.unusedVariables false
abbrev Pr := (Nat × Nat) ⊕ (Nd × Nat)
/-- What a method that reads a node hands back: the node and where the reader stands, or a Fault that is thrown. Only the reader and new memory are written. -/
def AnsP (r : Pr) (B R b : Nat) (v : Value) (L : List Tok) (ru ne : Nat) (w : World) (e : Ending) (w' : World) : Prop :=
  match r with
  | .inr (n, k') => ∃ cs : List Value, e = .returned (.agg cs.toArray) ∧ Hid (NdIs w' (fun g => B ≤ g) n cs) ∧ Hid (Rd w' R b v L k' ru ne) ∧ Hid (w.grownBy w' (some R))
  | .inl c => ∃ f, e = .panicked [{ v := .iface 77 (.pointer (some ⟨f, 0, none⟩)), recovered := false }] ∧ Hid (w.heap.size ≤ f ∧ Flt w' f c) ∧ Hid (w.grownBy w' (some R))
theorem Rd.other {w : World} {R b g j : Nat} {v u : Value} {L : List Tok} {k ru ne : Nat} (h : Rd w R b v L k ru ne) (hg : g ≠ R) (hv : v.ownBlock ≠ some g) : Rd (w.setCell ⟨g, j, none⟩ u) R b v L k ru ne :=
  ⟨(Below.heap_setCell _ _ _ _ (Ne.symm hg)).trans h.1, h.2.kept (row := some g) ⟨rfl, rfl, rfl, by simp, fun i hi hne => Below.heap_setCell _ _ _ _ (fun e => hne (by rw [e]))⟩ (.inr hv)⟩
theorem G.below {w w' : World} {R : Nat} (h : Below w.heap.size w w') : w.grownBy w' (some R) := ⟨h.os, h.tape, h.output, h.size, fun j hj _ => h.block j hj⟩
theorem G.setR {w w' : World} {R j : Nat} {u : Value} (h : w.grownBy w' (some R)) : w.grownBy (w'.setCell ⟨R, j, none⟩ u) (some R) :=
  ⟨h.os, h.tape, h.output, by simpa using h.size, fun i hi hne => (Below.heap_setCell _ _ _ _ (fun e => hne (by rw [e]))).trans (h.block i hi hne)⟩
theorem G.setN {w w' : World} {R g j : Nat} {u : Value} (h : w.grownBy w' (some R)) (hg : w.heap.size ≤ g) : w.grownBy (w'.setCell ⟨g, j, none⟩ u) (some R) :=
  ⟨h.os, h.tape, h.output, by simpa using h.size, fun i hi hne => (Below.heap_setCell _ _ _ _ (fun e => by have e2 : i = g := e; omega)).trans (h.block i hi hne)⟩
theorem G.alloc {w w' : World} {r : Option Nat} {o : Obj} (h : w.grownBy w' r) : w.grownBy (w'.alloc o) r :=
  ⟨h.os, h.tape, h.output, by have := h.size; simp; omega, fun i hi hne => (Below.heap_alloc w' o i (Nat.lt_of_lt_of_le hi h.size)).trans (h.block i hi hne)⟩
/-- A node is laid in block g. -/
@[reducible] def st8 (w : World) (g : Nat) (kd : Int) (T : ByteArray) (c0 c1 c2 c3 : Int) (sv : Value) (p : Int) : World := (((((((w.setCell ⟨g, 0, none⟩ (.int .i64 kd)).setCell ⟨g, 1, none⟩ (.string T)).setCell ⟨g, 2, none⟩ (.int .u64 c0)).setCell ⟨g, 3, none⟩ (.int .u64 c1)).setCell ⟨g, 4, none⟩ (.int .u64 c2)).setCell ⟨g, 5, none⟩ (.int .u64 c3)).setCell ⟨g, 6, none⟩ sv).setCell ⟨g, 7, none⟩ (.int .i64 p)
theorem st8_block {w : World} {g : Nat} {a0 a1 a2 a3 a4 a5 a6 a7 : Value} (h : w.heap[g]? = some (.cells #[a0, a1, a2, a3, a4, a5, a6, a7] 58)) (kd : Int) (T : ByteArray) (c0 c1 c2 c3 : Int) (sv : Value) (p : Int) :
    (st8 w g kd T c0 c1 c2 c3 sv p).heap[g]? = some (.cells #[.int .i64 kd, .string T, .int .u64 c0, .int .u64 c1, .int .u64 c2, .int .u64 c3, sv, .int .i64 p] 58) := by
  simp only [World.setCell, Array.getElem?_modify, if_true, Option.map_map]
  rw [h]
  simp
set_option maxRecDepth 100000 in
set_option maxHeartbeats 8000000 in
theorem yone_lit (B R b : Nat) (v : Value) (L : List Tok) (k ru ne : Nat) (T : ByteArray) (C p : Nat) (w : World) (h : Rd w R b v L k ru ne) (hk : k < L.length) (ht : L[k] = (3, T, C, p)) (hl : L.length ≤ 10000) (hB : B ≤ w.heap.size) :
    Calls Tryz.prog 192 #[.pointer (some ⟨R, 0, none⟩)] w fun e w' => AnsP (.inr (.mk 2 T C [] p, k + 1)) B R b v L ru ne w e w' := by
  have fd0 := Tryz.fld0
  have HT : Hid (∀ w : World, Rd w R b v L k ru ne → Calls Tryz.prog 92 #[.pointer (some ⟨R, 0, none⟩)] w fun e w' => e = .returned (tkv (3, T, C, p)) ∧ Below w.heap.size w w') := fun w h => ht ▸ ytoken_any R b v L k ru ne w h hk hl
  have HR : Hid (Rd w R b v L k ru ne) := h
  have hRl := h.lt
  obtain ⟨W, hW⟩ : ∃ W, W = w.alloc (.cells #[.int .i64 0, .string { data := #[] }, .int .u64 0, .int .u64 0, .int .u64 0, .int .u64 0, .slice none 0 0, .int .i64 0] 58) := ⟨_, rfl⟩
  have HBW : Hid (Below w.heap.size w W) := by show Below _ _ _; rw [hW]; exact (Below.refl _ _).alloc (Nat.le_refl _) _
  clear h ht
  go_enter Tryz.func192, Tryz.ntmps192
  go_wp2_with fail
  rw [← hW]
  refine (HT.out W (HR.out.below HBW.out)).mono ?_
  rintro e w1 ⟨rfl, hb1⟩
  have HB1 : Hid (Below w.heap.size w w1) := HBW.out.trans (hb1.mono HBW.out.size)
  have HR1 : Hid (Rd w1 R b v L k ru ne) := (HR.out.below HBW.out).below hb1
  obtain ⟨r0, r1, r2, r3, q0, q1, q2, q3⟩ := HR1.out.cells
  have hR1 := HR1.out.lt
  have hw1 : W.heap.size ≤ w1.heap.size := hb1.size
  have HK : Hid (w1.heap[w.heap.size]? = some (.cells #[.int .i64 0, .string { data := #[] }, .int .u64 0, .int .u64 0, .int .u64 0, .int .u64 0, .slice none 0 0, .int .i64 0] 58)) := by
    show _ = _
    rw [hb1.block w.heap.size (by rw [hW]; simp), hW]
    exact new_block_at w _ rfl
  obtain ⟨k0, k1, k2, k3, k4, k5, k6, k7⟩ : w1.cell? ⟨w.heap.size, 0, none⟩ = some (.int .i64 0) ∧ w1.cell? ⟨w.heap.size, 1, none⟩ = some (.string { data := #[] }) ∧ w1.cell? ⟨w.heap.size, 2, none⟩ = some (.int .u64 0) ∧ w1.cell? ⟨w.heap.size, 3, none⟩ = some (.int .u64 0) ∧ w1.cell? ⟨w.heap.size, 4, none⟩ = some (.int .u64 0) ∧ w1.cell? ⟨w.heap.size, 5, none⟩ = some (.int .u64 0) ∧ w1.cell? ⟨w.heap.size, 6, none⟩ = some (.slice none 0 0) ∧ w1.cell? ⟨w.heap.size, 7, none⟩ = some (.int .i64 0) := by
    refine ⟨?_, ?_, ?_, ?_, ?_, ?_, ?_, ?_⟩ <;> simp [World.cell?, HK.out]
  obtain ⟨f0, f1, f2, f3, f4, f5, f6, f7⟩ : w1.frozen? ⟨w.heap.size, 0, none⟩ = false ∧ w1.frozen? ⟨w.heap.size, 1, none⟩ = false ∧ w1.frozen? ⟨w.heap.size, 2, none⟩ = false ∧ w1.frozen? ⟨w.heap.size, 3, none⟩ = false ∧ w1.frozen? ⟨w.heap.size, 4, none⟩ = false ∧ w1.frozen? ⟨w.heap.size, 5, none⟩ = false ∧ w1.frozen? ⟨w.heap.size, 6, none⟩ = false ∧ w1.frozen? ⟨w.heap.size, 7, none⟩ = false := by
    refine ⟨?_, ?_, ?_, ?_, ?_, ?_, ?_, ?_⟩ <;> simp [World.frozen?, HK.out]
  have hws : w.heap.size < w1.heap.size := by have hWs : w.heap.size < W.heap.size := (by rw [hW]; simp)
                                              omega
  have hRne : R ≠ w.heap.size := by omega
  clear hb1 hW
  dsimp only [tkv]
  go_wp2_with fail
  have hX : (w1.setCell ⟨R, 1, none⟩ (.int .i64 ((k : Int) + 1))).heap[w.heap.size]? = some (.cells #[.int .i64 0, .string { data := #[] }, .int .u64 0, .int .u64 0, .int .u64 0, .int .u64 0, .slice none 0 0, .int .i64 0] 58) := (Below.heap_setCell _ _ _ _ (Ne.symm hRne)).trans HK.out
  have hY := st8_block hX 2 T (wd C 0 : Nat) (wd C 1 : Nat) (wd C 2 : Nat) (wd C 3 : Nat) (.slice none 0 0) (p : Int)
  have hZ : ∀ o1 o2 : Obj, (((st8 (w1.setCell ⟨R, 1, none⟩ (.int .i64 ((k : Int) + 1))) w.heap.size 2 T (wd C 0 : Nat) (wd C 1 : Nat) (wd C 2 : Nat) (wd C 3 : Nat) (.slice none 0 0) (p : Int)).alloc o1).alloc o2).heap[w.heap.size]? = some (.cells #[.int .i64 2, .string T, .int .u64 (wd C 0 : Nat), .int .u64 (wd C 1 : Nat), .int .u64 (wd C 2 : Nat), .int .u64 (wd C 3 : Nat), .slice none 0 0, .int .i64 (p : Int)] 58) := fun o1 o2 =>
    (Below.heap_alloc _ o2 _ (by simp; omega)).trans ((Below.heap_alloc _ o1 _ (by simp; omega)).trans hY)
  have hZ1 := hZ (.cells #[.int .i64 3, .string T, .int .u64 (wd C 0 : Nat), .int .u64 (wd C 1 : Nat), .int .u64 (wd C 2 : Nat), .int .u64 (wd C 3 : Nat), .int .i64 (p : Int)] 122) (.cells #[.int .i64 2, .string T, .int .u64 (wd C 0 : Nat), .int .u64 (wd C 1 : Nat), .int .u64 (wd C 2 : Nat), .int .u64 (wd C 3 : Nat), .slice none 0 0, .int .i64 (p : Int)] 58)
  obtain ⟨FW, hFW⟩ : ∃ FW, FW = ((st8 (w1.setCell ⟨R, 1, none⟩ (.int .i64 ((k : Int) + 1))) w.heap.size 2 T (wd C 0 : Nat) (wd C 1 : Nat) (wd C 2 : Nat) (wd C 3 : Nat) (.slice none 0 0) (p : Int)).alloc (.cells #[.int .i64 3, .string T, .int .u64 (wd C 0 : Nat), .int .u64 (wd C 1 : Nat), .int .u64 (wd C 2 : Nat), .int .u64 (wd C 3 : Nat), .int .i64 (p : Int)] 122)).alloc (.cells #[.int .i64 2, .string T, .int .u64 (wd C 0 : Nat), .int .u64 (wd C 1 : Nat), .int .u64 (wd C 2 : Nat), .int .u64 (wd C 3 : Nat), .slice none 0 0, .int .i64 (p : Int)] 58) := ⟨_, rfl⟩
  rw [← hFW] at hZ1 ⊢
  (try simp only [Exit.inBlock, Exit.then])
  have c0 : FW.cell? ⟨w.heap.size, 0, none⟩ = some (.int .i64 2) := by simp [World.cell?, hZ1]
  have c1 : FW.cell? ⟨w.heap.size, 1, none⟩ = some (.string T) := by simp [World.cell?, hZ1]
  have c2 : FW.cell? ⟨w.heap.size, 2, none⟩ = some (.int .u64 (wd C 0 : Nat)) := by simp [World.cell?, hZ1]
  have c3 : FW.cell? ⟨w.heap.size, 3, none⟩ = some (.int .u64 (wd C 1 : Nat)) := by simp [World.cell?, hZ1]
  have c4 : FW.cell? ⟨w.heap.size, 4, none⟩ = some (.int .u64 (wd C 2 : Nat)) := by simp [World.cell?, hZ1]
  have c5 : FW.cell? ⟨w.heap.size, 5, none⟩ = some (.int .u64 (wd C 3 : Nat)) := by simp [World.cell?, hZ1]
  have c6 : FW.cell? ⟨w.heap.size, 6, none⟩ = some (.slice none 0 0) := by simp [World.cell?, hZ1]
  have c7 : FW.cell? ⟨w.heap.size, 7, none⟩ = some (.int .i64 (p : Int)) := by simp [World.cell?, hZ1]
  refine bodyPost_ret (v := .agg (n8 2 T C (.slice none 0 0) p).toArray) (by simp [results, Tryz.results192, go_sem, c0, c1, c2, c3, c4, c5, c6, c7]) rfl ?_
  have hv : v.ownBlock ≠ some w.heap.size := fun e => by have := (HR.out.2.lt _ e).2; omega
  have hN : Rd (w1.setCell ⟨R, 1, none⟩ (.int .i64 ((k : Int) + 1))) R b v L (k + 1) ru ne := by
    have := HR1.out.next (k + 1)
    rw [show (((k + 1 : Nat) : Int)) = (k : Int) + 1 by omega] at this
    exact this
  refine ⟨_, rfl, hid (by rw [NdIs]; exact ⟨_, rfl, .inl ⟨rfl, rfl⟩⟩), hid ?_, hid ?_⟩
  · rw [hFW]
    exact (((((((((hN.other (Ne.symm hRne) hv).other (Ne.symm hRne) hv).other (Ne.symm hRne) hv).other (Ne.symm hRne) hv).other (Ne.symm hRne) hv).other (Ne.symm hRne) hv).other (Ne.symm hRne) hv).other (Ne.symm hRne) hv).below ((Below.refl _ _).alloc (Nat.le_refl _) _)).below ((Below.refl _ _).alloc (Nat.le_refl _) _)
  · rw [hFW]
    have hg := Nat.le_refl w.heap.size
    exact G.alloc (G.alloc (G.setN (G.setN (G.setN (G.setN (G.setN (G.setN (G.setN (G.setN (G.setR (G.below HB1.out)) hg) hg) hg) hg) hg) hg) hg) hg))
set_option maxRecDepth 100000 in
set_option maxHeartbeats 8000000 in
theorem yone_cls (B R b : Nat) (v : Value) (L : List Tok) (k ru ne : Nat) (T : ByteArray) (C p : Nat) (w : World) (h : Rd w R b v L k ru ne) (hk : k < L.length) (ht : L[k] = (4, T, C, p)) (hl : L.length ≤ 10000) (hB : B ≤ w.heap.size) :
    Calls Tryz.prog 192 #[.pointer (some ⟨R, 0, none⟩)] w fun e w' => AnsP (.inr (.mk 3 T C [] p, k + 1)) B R b v L ru ne w e w' := by
  have fd0 := Tryz.fld0
  have HT : Hid (∀ w : World, Rd w R b v L k ru ne → Calls Tryz.prog 92 #[.pointer (some ⟨R, 0, none⟩)] w fun e w' => e = .returned (tkv (4, T, C, p)) ∧ Below w.heap.size w w') := fun w h => ht ▸ ytoken_any R b v L k ru ne w h hk hl
  have HR : Hid (Rd w R b v L k ru ne) := h
  have hRl := h.lt
  obtain ⟨W, hW⟩ : ∃ W, W = w.alloc (.cells #[.int .i64 0, .string { data := #[] }, .int .u64 0, .int .u64 0, .int .u64 0, .int .u64 0, .slice none 0 0, .int .i64 0] 58) := ⟨_, rfl⟩
  have HBW : Hid (Below w.heap.size w W) := by show Below _ _ _; rw [hW]; exact (Below.refl _ _).alloc (Nat.le_refl _) _
  clear h ht
  go_enter Tryz.func192, Tryz.ntmps192
  go_wp2_with fail
  rw [← hW]
  refine (HT.out W (HR.out.below HBW.out)).mono ?_
  rintro e w1 ⟨rfl, hb1⟩
  have HB1 : Hid (Below w.heap.size w w1) := HBW.out.trans (hb1.mono HBW.out.size)
  have HR1 : Hid (Rd w1 R b v L k ru ne) := (HR.out.below HBW.out).below hb1
  obtain ⟨r0, r1, r2, r3, q0, q1, q2, q3⟩ := HR1.out.cells
  have hR1 := HR1.out.lt
  have hw1 : W.heap.size ≤ w1.heap.size := hb1.size
  have HK : Hid (w1.heap[w.heap.size]? = some (.cells #[.int .i64 0, .string { data := #[] }, .int .u64 0, .int .u64 0, .int .u64 0, .int .u64 0, .slice none 0 0, .int .i64 0] 58)) := by
    show _ = _
    rw [hb1.block w.heap.size (by rw [hW]; simp), hW]
    exact new_block_at w _ rfl
  obtain ⟨k0, k1, k2, k3, k4, k5, k6, k7⟩ : w1.cell? ⟨w.heap.size, 0, none⟩ = some (.int .i64 0) ∧ w1.cell? ⟨w.heap.size, 1, none⟩ = some (.string { data := #[] }) ∧ w1.cell? ⟨w.heap.size, 2, none⟩ = some (.int .u64 0) ∧ w1.cell? ⟨w.heap.size, 3, none⟩ = some (.int .u64 0) ∧ w1.cell? ⟨w.heap.size, 4, none⟩ = some (.int .u64 0) ∧ w1.cell? ⟨w.heap.size, 5, none⟩ = some (.int .u64 0) ∧ w1.cell? ⟨w.heap.size, 6, none⟩ = some (.slice none 0 0) ∧ w1.cell? ⟨w.heap.size, 7, none⟩ = some (.int .i64 0) := by
    refine ⟨?_, ?_, ?_, ?_, ?_, ?_, ?_, ?_⟩ <;> simp [World.cell?, HK.out]
  obtain ⟨f0, f1, f2, f3, f4, f5, f6, f7⟩ : w1.frozen? ⟨w.heap.size, 0, none⟩ = false ∧ w1.frozen? ⟨w.heap.size, 1, none⟩ = false ∧ w1.frozen? ⟨w.heap.size, 2, none⟩ = false ∧ w1.frozen? ⟨w.heap.size, 3, none⟩ = false ∧ w1.frozen? ⟨w.heap.size, 4, none⟩ = false ∧ w1.frozen? ⟨w.heap.size, 5, none⟩ = false ∧ w1.frozen? ⟨w.heap.size, 6, none⟩ = false ∧ w1.frozen? ⟨w.heap.size, 7, none⟩ = false := by
    refine ⟨?_, ?_, ?_, ?_, ?_, ?_, ?_, ?_⟩ <;> simp [World.frozen?, HK.out]
  have hws : w.heap.size < w1.heap.size := by have hWs : w.heap.size < W.heap.size := (by rw [hW]; simp)
                                              omega
  have hRne : R ≠ w.heap.size := by omega
  clear hb1 hW
  dsimp only [tkv]
  go_wp2_with fail
  have hX : (w1.setCell ⟨R, 1, none⟩ (.int .i64 ((k : Int) + 1))).heap[w.heap.size]? = some (.cells #[.int .i64 0, .string { data := #[] }, .int .u64 0, .int .u64 0, .int .u64 0, .int .u64 0, .slice none 0 0, .int .i64 0] 58) := (Below.heap_setCell _ _ _ _ (Ne.symm hRne)).trans HK.out
  have hY := st8_block hX 3 T (wd C 0 : Nat) (wd C 1 : Nat) (wd C 2 : Nat) (wd C 3 : Nat) (.slice none 0 0) (p : Int)
  have hZ : ∀ o1 o2 : Obj, (((st8 (w1.setCell ⟨R, 1, none⟩ (.int .i64 ((k : Int) + 1))) w.heap.size 3 T (wd C 0 : Nat) (wd C 1 : Nat) (wd C 2 : Nat) (wd C 3 : Nat) (.slice none 0 0) (p : Int)).alloc o1).alloc o2).heap[w.heap.size]? = some (.cells #[.int .i64 3, .string T, .int .u64 (wd C 0 : Nat), .int .u64 (wd C 1 : Nat), .int .u64 (wd C 2 : Nat), .int .u64 (wd C 3 : Nat), .slice none 0 0, .int .i64 (p : Int)] 58) := fun o1 o2 =>
    (Below.heap_alloc _ o2 _ (by simp; omega)).trans ((Below.heap_alloc _ o1 _ (by simp; omega)).trans hY)
  have hZ1 := hZ (.cells #[.int .i64 4, .string T, .int .u64 (wd C 0 : Nat), .int .u64 (wd C 1 : Nat), .int .u64 (wd C 2 : Nat), .int .u64 (wd C 3 : Nat), .int .i64 (p : Int)] 122) (.cells #[.int .i64 3, .string T, .int .u64 (wd C 0 : Nat), .int .u64 (wd C 1 : Nat), .int .u64 (wd C 2 : Nat), .int .u64 (wd C 3 : Nat), .slice none 0 0, .int .i64 (p : Int)] 58)
  obtain ⟨FW, hFW⟩ : ∃ FW, FW = ((st8 (w1.setCell ⟨R, 1, none⟩ (.int .i64 ((k : Int) + 1))) w.heap.size 3 T (wd C 0 : Nat) (wd C 1 : Nat) (wd C 2 : Nat) (wd C 3 : Nat) (.slice none 0 0) (p : Int)).alloc (.cells #[.int .i64 4, .string T, .int .u64 (wd C 0 : Nat), .int .u64 (wd C 1 : Nat), .int .u64 (wd C 2 : Nat), .int .u64 (wd C 3 : Nat), .int .i64 (p : Int)] 122)).alloc (.cells #[.int .i64 3, .string T, .int .u64 (wd C 0 : Nat), .int .u64 (wd C 1 : Nat), .int .u64 (wd C 2 : Nat), .int .u64 (wd C 3 : Nat), .slice none 0 0, .int .i64 (p : Int)] 58) := ⟨_, rfl⟩
  rw [← hFW] at hZ1 ⊢
  (try simp only [Exit.inBlock, Exit.then])
  have c0 : FW.cell? ⟨w.heap.size, 0, none⟩ = some (.int .i64 3) := by simp [World.cell?, hZ1]
  have c1 : FW.cell? ⟨w.heap.size, 1, none⟩ = some (.string T) := by simp [World.cell?, hZ1]
  have c2 : FW.cell? ⟨w.heap.size, 2, none⟩ = some (.int .u64 (wd C 0 : Nat)) := by simp [World.cell?, hZ1]
  have c3 : FW.cell? ⟨w.heap.size, 3, none⟩ = some (.int .u64 (wd C 1 : Nat)) := by simp [World.cell?, hZ1]
  have c4 : FW.cell? ⟨w.heap.size, 4, none⟩ = some (.int .u64 (wd C 2 : Nat)) := by simp [World.cell?, hZ1]
  have c5 : FW.cell? ⟨w.heap.size, 5, none⟩ = some (.int .u64 (wd C 3 : Nat)) := by simp [World.cell?, hZ1]
  have c6 : FW.cell? ⟨w.heap.size, 6, none⟩ = some (.slice none 0 0) := by simp [World.cell?, hZ1]
  have c7 : FW.cell? ⟨w.heap.size, 7, none⟩ = some (.int .i64 (p : Int)) := by simp [World.cell?, hZ1]
  refine bodyPost_ret (v := .agg (n8 3 T C (.slice none 0 0) p).toArray) (by simp [results, Tryz.results192, go_sem, c0, c1, c2, c3, c4, c5, c6, c7]) rfl ?_
  have hv : v.ownBlock ≠ some w.heap.size := fun e => by have := (HR.out.2.lt _ e).2; omega
  have hN : Rd (w1.setCell ⟨R, 1, none⟩ (.int .i64 ((k : Int) + 1))) R b v L (k + 1) ru ne := by
    have := HR1.out.next (k + 1)
    rw [show (((k + 1 : Nat) : Int)) = (k : Int) + 1 by omega] at this
    exact this
  refine ⟨_, rfl, hid (by rw [NdIs]; exact ⟨_, rfl, .inl ⟨rfl, rfl⟩⟩), hid ?_, hid ?_⟩
  · rw [hFW]
    exact (((((((((hN.other (Ne.symm hRne) hv).other (Ne.symm hRne) hv).other (Ne.symm hRne) hv).other (Ne.symm hRne) hv).other (Ne.symm hRne) hv).other (Ne.symm hRne) hv).other (Ne.symm hRne) hv).other (Ne.symm hRne) hv).below ((Below.refl _ _).alloc (Nat.le_refl _) _)).below ((Below.refl _ _).alloc (Nat.le_refl _) _)
  · rw [hFW]
    have hg := Nat.le_refl w.heap.size
    exact G.alloc (G.alloc (G.setN (G.setN (G.setN (G.setN (G.setN (G.setN (G.setN (G.setN (G.setR (G.below HB1.out)) hg) hg) hg) hg) hg) hg) hg) hg))
set_option maxRecDepth 100000 in
set_option maxHeartbeats 8000000 in
theorem yone_bad (B R b : Nat) (v : Value) (L : List Tok) (k ru ne : Nat) (t : Tok) (w : World) (h : Rd w R b v L k ru ne) (hk : k < L.length) (ht : L[k] = t) (h1 : t.1 ≠ 1) (h3 : t.1 ≠ 3) (h4 : t.1 ≠ 4) (hd : ¬ sgT t = { data := #[46] }) (hp : ¬ sgT t = { data := #[40] }) (hl : L.length ≤ 10000) (hB : B ≤ w.heap.size) :
    Calls Tryz.prog 192 #[.pointer (some ⟨R, 0, none⟩)] w fun e w' => AnsP (.inl (wrC t, t.2.2.2)) B R b v L ru ne w e w' := by
  have fd0 := Tryz.fld0
  have HT : Hid (∀ w : World, Rd w R b v L k ru ne → Calls Tryz.prog 92 #[.pointer (some ⟨R, 0, none⟩)] w fun e w' => e = .returned (tkv t) ∧ Below w.heap.size w w') := fun w h => ht ▸ ytoken_any R b v L k ru ne w h hk hl
  have HS : Hid (∀ w : World, Rd w R b v L k ru ne → Calls Tryz.prog 153 #[.pointer (some ⟨R, 0, none⟩)] w fun e w' => e = .returned (.string (sgT t)) ∧ Below w.heap.size w w') := fun w h => ht ▸ ysign_any R b v L k ru ne w h hk hl
  have HW : Hid (∀ w : World, Rd w R b v L k ru ne → Calls Tryz.prog 121 #[.pointer (some ⟨R, 0, none⟩)] w fun e w' => ∃ f, e = .returned (.pointer (some ⟨f, 0, none⟩)) ∧ Hid (w.heap.size ≤ f ∧ Flt w' f (wrC t, t.2.2.2) ∧ Below w.heap.size w w')) := fun w h => ht ▸ ywrong_any R b v L k ru ne w h hk hl
  have HR : Hid (Rd w R b v L k ru ne) := h
  obtain ⟨Z, hZ⟩ : ∃ Z, Z = sgT t := ⟨_, rfl⟩
  rw [← hZ] at HS hd hp
  have s1 : (Z.toList == [46]) = false := str_neL hd
  have s2 : (Z.toList == [40]) = false := str_neL hp
  obtain ⟨kd, T, C, p⟩ := t
  have t1 : ((kd : Int) == 1) = false := by have h1' : kd ≠ 1 := h1; simp; omega
  have t3 : ((kd : Int) == 3) = false := by have h1' : kd ≠ 3 := h3; simp; omega
  have t4 : ((kd : Int) == 4) = false := by have h1' : kd ≠ 4 := h4; simp; omega
  obtain ⟨W, hW⟩ : ∃ W, W = w.alloc (.cells #[.int .i64 0, .string { data := #[] }, .int .u64 0, .int .u64 0, .int .u64 0, .int .u64 0, .slice none 0 0, .int .i64 0] 58) := ⟨_, rfl⟩
  have HBW : Hid (Below w.heap.size w W) := by show Below _ _ _; rw [hW]; exact (Below.refl _ _).alloc (Nat.le_refl _) _
  clear h ht hd hp hZ h1 h3 h4
  go_enter Tryz.func192, Tryz.ntmps192
  go_wp2_with fail
  rw [← hW]
  clear hW
  refine (HT.out W (HR.out.below HBW.out)).mono ?_
  rintro e w1 ⟨rfl, hb1⟩
  have HB1 : Hid (Below w.heap.size w w1) := HBW.out.trans (hb1.mono HBW.out.size)
  clear hb1 HT
  dsimp only [tkv]
  have HB2 : ∀ a c : Obj, Hid (Below w.heap.size w ((w1.alloc a).alloc c)) := fun a c => (HB1.out.alloc HB1.out.size _).alloc (by have := HB1.out.size; simp; omega) _
  have HB2' := hid HB2
  clear HB2
  go_wp2_with fail
  refine (HS.out _ (HR.out.below (HB2'.out _ _).out)).mono ?_
  rintro e w2 ⟨rfl, hb2⟩
  have HB3 : Hid (Below w.heap.size w w2) := (HB2'.out _ _).out.trans (hb2.mono (HB2'.out _ _).out.size)
  clear hb2 HB2'
  go_wp2_with fail
  refine (HS.out w2 (HR.out.below HB3.out)).mono ?_
  rintro e w3 ⟨rfl, hb3⟩
  have HB4 : Hid (Below w.heap.size w w3) := HB3.out.trans (hb3.mono HB3.out.size)
  clear hb3 HB3 HS
  go_wp2_with fail
  refine (HW.out w3 (HR.out.below HB4.out)).mono ?_
  rintro e w4 ⟨f, rfl, HP⟩
  have HB5 : Hid (Below w.heap.size w w4) := HB4.out.trans (HP.out.2.2.mono HB4.out.size)
  have HF5 : Hid (w.heap.size ≤ f ∧ Flt w4 f (wrC (kd, T, C, p), p)) := ⟨Nat.le_trans HB4.out.size HP.out.1, HP.out.2.1⟩
  clear HP HB4 HW
  go_wp2_with fail
  exact ⟨rfl, ⟨f, rfl, HF5, hid (G.below HB5.out)⟩⟩
end Go.Proofs.YtggmoneicdkamaaGreatDoor
