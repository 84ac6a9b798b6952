/-
  Bytes in memory of the call's own: what they read as, what an append of them leaves, the text that they are; tokens in a block. Conditions: those that each theorem names.
-/
import Derived.Test.YtkofhmmnlapnnaaGreatDoorX2
import Derived.Deep.RegionHeld3
namespace Go.Proofs.YtkofhmmnlapnnaaGreatDoor
open Go.RowKit
set_option linter.unusedVariables false
/-- Bytes in memory. -/
def nv (l : List Nat) : List Value := l.map fun (x : Nat) => Value.int .u8 (x : Int)
theorem nv_append (a b : List Nat) : nv (a ++ b) = nv a ++ nv b := List.map_append
theorem nv_length (a : List Nat) : (nv a).length = a.length := List.length_map ..
theorem nv_ok (l : List Nat) : ∀ u ∈ nv l, u.oneCell' = true := by
  intro u hu
  obtain ⟨x, _, rfl⟩ := List.mem_map.1 hu
  rfl
theorem Tryz.infoByte : (Tryz.prog.info? 5).map (fun i => (i.zero, i.size, i.bytes)) = some (some (.int .u8 0), 1, 1) := by kernel_rfl
theorem one_newB (w : World) (u : Value) (t : TypeId) : ∀ j x, [u][j]? = some x → (w.alloc (.cells #[u] t)).cell? ((⟨w.heap.size, 0, none⟩ : Addr).add j) = some x := by
  intro j x hj
  match j, hj with
  | 0, hj => simp at hj; subst hj; simp [Addr.add]
theorem two_new (w : World) (u v : Value) (t : TypeId) : ∀ j x, [u, v][j]? = some x → (w.alloc (.cells #[u, v] t)).cell? ((⟨w.heap.size, 0, none⟩ : Addr).add j) = some x := by
  intro j x hj
  match j, hj with
  | 0, hj => simp at hj; subst hj; simp [Addr.add]
  | 1, hj => simp at hj; subst hj; simp [Addr.add]
theorem four_new (w : World) (a b c d : Value) (t : TypeId) : ∀ j x, [a, b, c, d][j]? = some x → (w.alloc (.cells #[a, b, c, d] t)).cell? ((⟨w.heap.size, 0, none⟩ : Addr).add j) = some x := by
  intro j x hj
  match j, hj with
  | 0, hj => simp at hj; subst hj; simp [Addr.add]
  | 1, hj => simp at hj; subst hj; simp [Addr.add]
  | 2, hj => simp at hj; subst hj; simp [Addr.add]
  | 3, hj => simp at hj; subst hj; simp [Addr.add]
theorem bytes_ok (l : List Int) : ∀ u ∈ l.map (fun x => Value.int .u8 x), u.oneCell' = true := by
  intro u hu
  obtain ⟨x, _, rfl⟩ := List.mem_map.1 hu
  rfl
theorem dig_at (q : Nat) (hq : q < 16) (w : World) : (Instr.index 9 (.string { data := #[48, 49, 50, 51, 52, 53, 54, 55, 56, 57, 97, 98, 99, 100, 101, 102] }) (.int .u8 (q : Int))).run Tryz.prog w = .ok (.int .u8 ((hexd q : Nat) : Int)) w := by
  have : q = 0 ∨ q = 1 ∨ q = 2 ∨ q = 3 ∨ q = 4 ∨ q = 5 ∨ q = 6 ∨ q = 7 ∨ q = 8 ∨ q = 9 ∨ q = 10 ∨ q = 11 ∨ q = 12 ∨ q = 13 ∨ q = 14 ∨ q = 15 := by omega
  rcases this with rfl | rfl | rfl | rfl | rfl | rfl | rfl | rfl | rfl | rfl | rfl | rfl | rfl | rfl | rfl | rfl <;> (show (Instr.index 9 _ _).run Tryz.prog w = _; kernel_rfl)
/-- Bytes as a text. -/
def nb (l : List Nat) : ByteArray := ⟨(l.map UInt8.ofNat).toArray⟩
theorem new_block_at (w : World) (o : Obj) {n : Nat} (hn : n = w.heap.size) : (w.alloc o).heap[n]? = some o := by
  subst hn
  show (w.heap.push o)[w.heap.size]? = _
  simp
theorem nb_size (l : List Nat) : (nb l).size = l.length := by simp [nb, ByteArray.size]
theorem own_shape {w : World} {base e size n : Nat} {v : Value} {xs : List Value} (h : w.ownsRow base e size v n xs) (hn : 0 < n) : ∃ g cap, v = .slice (some ⟨g, 0, none⟩) n cap := by
  obtain ⟨_, h | ⟨g, cap, cur, e, _⟩⟩ := h
  · omega
  · exact ⟨g, cap, e⟩
theorem conv_own {w : World} {base n g cap : Nat} {l : List Nat} (h : w.ownsRow base 5 1 (.slice (some ⟨g, 0, none⟩) n cap) n (nv l)) (hl : ∀ x ∈ l, x < 256) :
    (convert 86 9 (.slice (some ⟨g, 0, none⟩) n cap)).run Tryz.prog w = .ok (.string (nb l)) w := by
  have hn : l.length = n := by have := h.1; rw [nv_length] at this; omega
  have := run_convert_bytes_back w 86 9 5 ⟨g, 0, none⟩ cap (l.map UInt8.ofNat) Tryz.underlying86 Tryz.underlying5 Tryz.underlying9 (fun j hj => by
    rw [Addr.add_lit, Nat.zero_add]
    simp at hj
    rw [h.cellAt j (by omega)]
    have hx := hl _ (List.getElem_mem hj)
    simp [nv, hj]
    omega)
  rw [List.length_map, hn] at this
  exact this
theorem own_keep {w w' : World} {base e size n : Nat} {v : Value} {xs : List Value} (h : w.ownsRow base e size v n xs) (hb : Below w.heap.size w w') : w'.ownsRow base e size v n xs :=
  h.kept (row := none) ⟨hb.os, hb.tape, hb.output, hb.size, fun j hj _ => hb.block j hj⟩ (by cases hq : v.ownBlock <;> simp)

theorem Tryz.convNil (w : World) : (convert 86 9 (.slice none 0 0)).run Tryz.prog w = .ok (.string (nb [])) w := by kernel_rfl
theorem conv_any {w : World} {base n : Nat} {v : Value} {l : List Nat} (h : w.ownsRow base 5 1 v n (nv l)) (hl : ∀ x ∈ l, x < 256) : (convert 86 9 v).run Tryz.prog w = .ok (.string (nb l)) w := by
  have h0 := h
  obtain ⟨h1, ⟨rfl, rfl⟩ | ⟨g, cap, cur, rfl, _⟩⟩ := h
  · have : l = [] := List.eq_nil_of_length_eq_zero (by rw [nv_length] at h1; omega)
    subst this
    exact Tryz.convNil w
  · exact conv_own h0 hl
/-- Block g holds a token. -/
def Tk (w : World) (g : Nat) (kd : Int) (T : ByteArray) (c0 c1 c2 c3 : Int) (p : Int) : Prop := w.heap[g]? = some (.cells #[.int .i64 kd, .string T, .int .u64 c0, .int .u64 c1, .int .u64 c2, .int .u64 c3, .int .i64 p] 32)
/-- A token as a value. -/
@[reducible] def tv (kd : Int) (T : ByteArray) (c0 c1 c2 c3 : Int) (p : Int) : Value := .agg #[.int .i64 kd, .string T, .int .u64 c0, .int .u64 c1, .int .u64 c2, .int .u64 c3, .int .i64 p]
/-- Seven stores. -/
@[reducible] def st7 (w : World) (g : Nat) (kd : Int) (T : ByteArray) (c0 c1 c2 c3 : Int) (p : Int) : World := ((((((w.setCell ⟨g, 0, none⟩ (.int .i64 kd)).setCell ⟨g, 1, none⟩ (.string T)).setCell ⟨g, 2, none⟩ (.int .u64 c0)).setCell ⟨g, 3, none⟩ (.int .u64 c1)).setCell ⟨g, 4, none⟩ (.int .u64 c2)).setCell ⟨g, 5, none⟩ (.int .u64 c3)).setCell ⟨g, 6, none⟩ (.int .i64 p)
theorem Tk.cells {w : World} {g : Nat} {kd : Int} {T : ByteArray} {c0 c1 c2 c3 p : Int} (h : Tk w g kd T c0 c1 c2 c3 p) : w.cell? ⟨g, 0, none⟩ = some (.int .i64 kd) ∧ w.cell? ⟨g, 1, none⟩ = some (.string T) ∧ w.cell? ⟨g, 2, none⟩ = some (.int .u64 c0) ∧ w.cell? ⟨g, 3, none⟩ = some (.int .u64 c1) ∧ w.cell? ⟨g, 4, none⟩ = some (.int .u64 c2) ∧ w.cell? ⟨g, 5, none⟩ = some (.int .u64 c3) ∧ w.cell? ⟨g, 6, none⟩ = some (.int .i64 p) := by
  unfold Tk at h
  simp [World.cell?, h]
theorem Tk.thaw {w : World} {g : Nat} {kd : Int} {T : ByteArray} {c0 c1 c2 c3 p : Int} (h : Tk w g kd T c0 c1 c2 c3 p) : w.frozen? ⟨g, 0, none⟩ = false ∧ w.frozen? ⟨g, 1, none⟩ = false ∧ w.frozen? ⟨g, 2, none⟩ = false ∧ w.frozen? ⟨g, 3, none⟩ = false ∧ w.frozen? ⟨g, 4, none⟩ = false ∧ w.frozen? ⟨g, 5, none⟩ = false ∧ w.frozen? ⟨g, 6, none⟩ = false := by
  unfold Tk at h
  simp [World.frozen?, h]
theorem Tk.lt {w : World} {g : Nat} {kd : Int} {T : ByteArray} {c0 c1 c2 c3 p : Int} (h : Tk w g kd T c0 c1 c2 c3 p) : g < w.heap.size := by
  unfold Tk at h
  rcases Nat.lt_or_ge g w.heap.size with h2 | h2
  · exact h2
  · rw [Array.getElem?_eq_none h2] at h; cases h
theorem Tk.below {w w' : World} {g B : Nat} {kd : Int} {T : ByteArray} {c0 c1 c2 c3 p : Int} (h : Tk w g kd T c0 c1 c2 c3 p) (hb : Below B w w') (hg : g < B) : Tk w' g kd T c0 c1 c2 c3 p := (hb.block g hg).trans h
theorem Tk.alloc {w : World} {g : Nat} {kd : Int} {T : ByteArray} {c0 c1 c2 c3 p : Int} (h : Tk w g kd T c0 c1 c2 c3 p) (o : Obj) : Tk (w.alloc o) g kd T c0 c1 c2 c3 p := (Below.heap_alloc w o g h.lt).trans h
theorem Tk.new (w : World) (kd : Int) (T : ByteArray) (c0 c1 c2 c3 p : Int) : Tk (w.alloc (.cells #[.int .i64 kd, .string T, .int .u64 c0, .int .u64 c1, .int .u64 c2, .int .u64 c3, .int .i64 p] 32)) w.heap.size kd T c0 c1 c2 c3 p := by
  show (w.heap.push _)[w.heap.size]? = _
  simp
theorem Tk.st7 {w : World} {g : Nat} {kd : Int} {T : ByteArray} {c0 c1 c2 c3 p : Int} (h : Tk w g kd T c0 c1 c2 c3 p) (kd' : Int) (T' : ByteArray) (d0 d1 d2 d3 p' : Int) : Tk (Proofs.YtkofhmmnlapnnaaGreatDoor.st7 w g kd' T' d0 d1 d2 d3 p') g kd' T' d0 d1 d2 d3 p' := by
  unfold Tk at *
  simp only [World.setCell, Array.getElem?_modify, if_true, Option.map_map]
  rw [h]
  simp
theorem Below.st7 {B : Nat} {a w : World} (h : Below B a w) {g : Nat} (hg : B ≤ g) (kd : Int) (T : ByteArray) (c0 c1 c2 c3 p : Int) : Below B a (Proofs.YtkofhmmnlapnnaaGreatDoor.st7 w g kd T c0 c1 c2 c3 p) :=
  (((((((h.setCell (p := ⟨g, 0, none⟩) hg _).setCell (p := ⟨g, 1, none⟩) hg _).setCell (p := ⟨g, 2, none⟩) hg _).setCell (p := ⟨g, 3, none⟩) hg _).setCell (p := ⟨g, 4, none⟩) hg _).setCell (p := ⟨g, 5, none⟩) hg _).setCell (p := ⟨g, 6, none⟩) hg _)
theorem Flt.st7 {w : World} {q g : Nat} {c : Nat × Nat} (h : Flt w q c) (hne : q ≠ g) (kd : Int) (T : ByteArray) (c0 c1 c2 c3 p : Int) : Flt (Proofs.YtkofhmmnlapnnaaGreatDoor.st7 w g kd T c0 c1 c2 c3 p) q c := by
  unfold Flt at *
  rw [Below.heap_setCell _ _ _ _ hne, Below.heap_setCell _ _ _ _ hne, Below.heap_setCell _ _ _ _ hne, Below.heap_setCell _ _ _ _ hne, Below.heap_setCell _ _ _ _ hne, Below.heap_setCell _ _ _ _ hne, Below.heap_setCell _ _ _ _ hne]
  exact h
/-- A row of bytes stays while a token's block is written. -/
theorem own_st7 {w : World} {base n g : Nat} {v : Value} {xs : List Value} {k0 : Int} {T0 : ByteArray} {a0 a1 a2 a3 p0 : Int} (h : w.ownsRow base 5 1 v n xs) (hk : Tk w g k0 T0 a0 a1 a2 a3 p0) (hg : g < base) (kd : Int) (T : ByteArray) (c0 c1 c2 c3 p : Int) : (Proofs.YtkofhmmnlapnnaaGreatDoor.st7 w g kd T c0 c1 c2 c3 p).ownsRow base 5 1 v n xs :=
  ownsRow_setCell_below (ownsRow_setCell_below (ownsRow_setCell_below (ownsRow_setCell_below (ownsRow_setCell_below (ownsRow_setCell_below (ownsRow_setCell_below h (a := ⟨g, 0, none⟩) hg _) (a := ⟨g, 1, none⟩) hg _) (a := ⟨g, 2, none⟩) hg _) (a := ⟨g, 3, none⟩) hg _) (a := ⟨g, 4, none⟩) hg _) (a := ⟨g, 5, none⟩) hg _) (a := ⟨g, 6, none⟩) hg _
end Go.Proofs.YtkofhmmnlapnnaaGreatDoor
