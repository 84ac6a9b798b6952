/-
  Bytes in memory of the call's own: what they read as, what an append of them leaves, the text that they are; tokens in a block. Conditions: those that each theorem names.
  What lex.takeLiteral answers at any text: a literal's bytes, or what is wrong first. Conditions: those that each theorem names.
-/
import Derived.Test.YtggmoneicdkamaaGreatDoorVX2
import Derived.Deep.RegionHeld3
namespace Go.Proofs.YtggmoneicdkamaaGreatDoor
open Go.RowKit
set_option linter.unusedVariables false
/-- Bytes in memory. -/
def nv (l : List Nat) : List Value := l.map fun (x : Nat) => Value.int .u8 (x : Int)
theorem nv_append (a b : List Nat) : nv (a ++ b) = nv a ++ nv b := List.map_append
theorem nv_length (a : List Nat) : (nv a).length = a.length := List.length_map ..
theorem Tryz.infoByte : (Tryz.prog.info? 5).map (fun i => (i.zero, i.size, i.bytes)) = some (some (.int .u8 0), 1, 1) := by kernel_rfl
theorem one_newB (w : World) (u : Value) (t : TypeId) : ∀ j x, [u][j]? = some x → (w.alloc (.cells #[u] t)).cell? ((⟨w.heap.size, 0, none⟩ : Addr).add j) = some x := by
  intro j x hj
  match j, hj with
  | 0, hj => simp at hj; subst hj; simp [Addr.add]
theorem two_new (w : World) (u v : Value) (t : TypeId) : ∀ j x, [u, v][j]? = some x → (w.alloc (.cells #[u, v] t)).cell? ((⟨w.heap.size, 0, none⟩ : Addr).add j) = some x := by
  intro j x hj
  match j, hj with
  | 0, hj => simp at hj; subst hj; simp [Addr.add]
  | 1, hj => simp at hj; subst hj; simp [Addr.add]
theorem four_new (w : World) (a b c d : Value) (t : TypeId) : ∀ j x, [a, b, c, d][j]? = some x → (w.alloc (.cells #[a, b, c, d] t)).cell? ((⟨w.heap.size, 0, none⟩ : Addr).add j) = some x := by
  intro j x hj
  match j, hj with
  | 0, hj => simp at hj; subst hj; simp [Addr.add]
  | 1, hj => simp at hj; subst hj; simp [Addr.add]
  | 2, hj => simp at hj; subst hj; simp [Addr.add]
  | 3, hj => simp at hj; subst hj; simp [Addr.add]
theorem bytes_ok (l : List Int) : ∀ u ∈ l.map (fun x => Value.int .u8 x), u.oneCell' = true := by
  intro u hu
  obtain ⟨x, _, rfl⟩ := List.mem_map.1 hu
  rfl
theorem dig_at (q : Nat) (hq : q < 16) (w : World) : (Instr.index 9 (.string { data := #[48, 49, 50, 51, 52, 53, 54, 55, 56, 57, 97, 98, 99, 100, 101, 102] }) (.int .u8 (q : Int))).run Tryz.prog w = .ok (.int .u8 ((hexd q : Nat) : Int)) w := by
  have : q = 0 ∨ q = 1 ∨ q = 2 ∨ q = 3 ∨ q = 4 ∨ q = 5 ∨ q = 6 ∨ q = 7 ∨ q = 8 ∨ q = 9 ∨ q = 10 ∨ q = 11 ∨ q = 12 ∨ q = 13 ∨ q = 14 ∨ q = 15 := by omega
  rcases this with rfl | rfl | rfl | rfl | rfl | rfl | rfl | rfl | rfl | rfl | rfl | rfl | rfl | rfl | rfl | rfl <;> (show (Instr.index 9 _ _).run Tryz.prog w = _; kernel_rfl)
/-- Bytes as a text. -/
def nb (l : List Nat) : ByteArray := ⟨(l.map UInt8.ofNat).toArray⟩
theorem new_block_at (w : World) (o : Obj) {n : Nat} (hn : n = w.heap.size) : (w.alloc o).heap[n]? = some o := by
  subst hn
  show (w.heap.push o)[w.heap.size]? = _
  simp
theorem nb_size (l : List Nat) : (nb l).size = l.length := by simp [nb, ByteArray.size]
theorem own_shape {w : World} {base e size n : Nat} {v : Value} {xs : List Value} (h : w.ownsRow base e size v n xs) (hn : 0 < n) : ∃ g cap, v = .slice (some ⟨g, 0, none⟩) n cap := by
  obtain ⟨_, h | ⟨g, cap, cur, e, _⟩⟩ := h
  · omega
  · exact ⟨g, cap, e⟩
theorem conv_own {w : World} {base n g cap : Nat} {l : List Nat} (h : w.ownsRow base 5 1 (.slice (some ⟨g, 0, none⟩) n cap) n (nv l)) (hl : ∀ x ∈ l, x < 256) :
    (convert 99 9 (.slice (some ⟨g, 0, none⟩) n cap)).run Tryz.prog w = .ok (.string (nb l)) w := by
  have hn : l.length = n := by have := h.1; rw [nv_length] at this; omega
  have := run_convert_bytes_back w 99 9 5 ⟨g, 0, none⟩ cap (l.map UInt8.ofNat) Tryz.underlying99 Tryz.underlying5 Tryz.underlying9 (fun j hj => by
    rw [Addr.add_lit, Nat.zero_add]
    simp at hj
    rw [h.cellAt j (by omega)]
    have hx := hl _ (List.getElem_mem hj)
    simp [nv, hj]
    omega)
  rw [List.length_map, hn] at this
  exact this
theorem own_keep {w w' : World} {base e size n : Nat} {v : Value} {xs : List Value} (h : w.ownsRow base e size v n xs) (hb : Below w.heap.size w w') : w'.ownsRow base e size v n xs :=
  h.kept (row := none) ⟨hb.os, hb.tape, hb.output, hb.size, fun j hj _ => hb.block j hj⟩ (by cases hq : v.ownBlock <;> simp)
theorem Tryz.convNil (w : World) : (convert 99 9 (.slice none 0 0)).run Tryz.prog w = .ok (.string (nb [])) w := by kernel_rfl
theorem conv_any {w : World} {base n : Nat} {v : Value} {l : List Nat} (h : w.ownsRow base 5 1 v n (nv l)) (hl : ∀ x ∈ l, x < 256) : (convert 99 9 v).run Tryz.prog w = .ok (.string (nb l)) w := by
  have h0 := h
  obtain ⟨h1, ⟨rfl, rfl⟩ | ⟨g, cap, cur, rfl, _⟩⟩ := h
  · have : l = [] := List.eq_nil_of_length_eq_zero (by rw [nv_length] at h1; omega)
    subst this
    exact Tryz.convNil w
  · exact conv_own h0 hl
/-- Block g holds a token. -/
def Tk (w : World) (g : Nat) (kd : Int) (T : ByteArray) (c0 c1 c2 c3 : Int) (p : Int) : Prop := w.heap[g]? = some (.cells #[.int .i64 kd, .string T, .int .u64 c0, .int .u64 c1, .int .u64 c2, .int .u64 c3, .int .i64 p] 122)
/-- Seven stores. -/
@[reducible] def st7 (w : World) (g : Nat) (kd : Int) (T : ByteArray) (c0 c1 c2 c3 : Int) (p : Int) : World := ((((((w.setCell ⟨g, 0, none⟩ (.int .i64 kd)).setCell ⟨g, 1, none⟩ (.string T)).setCell ⟨g, 2, none⟩ (.int .u64 c0)).setCell ⟨g, 3, none⟩ (.int .u64 c1)).setCell ⟨g, 4, none⟩ (.int .u64 c2)).setCell ⟨g, 5, none⟩ (.int .u64 c3)).setCell ⟨g, 6, none⟩ (.int .i64 p)
theorem Tk.cells {w : World} {g : Nat} {kd : Int} {T : ByteArray} {c0 c1 c2 c3 p : Int} (h : Tk w g kd T c0 c1 c2 c3 p) : w.cell? ⟨g, 0, none⟩ = some (.int .i64 kd) ∧ w.cell? ⟨g, 1, none⟩ = some (.string T) ∧ w.cell? ⟨g, 2, none⟩ = some (.int .u64 c0) ∧ w.cell? ⟨g, 3, none⟩ = some (.int .u64 c1) ∧ w.cell? ⟨g, 4, none⟩ = some (.int .u64 c2) ∧ w.cell? ⟨g, 5, none⟩ = some (.int .u64 c3) ∧ w.cell? ⟨g, 6, none⟩ = some (.int .i64 p) := by
  unfold Tk at h
  simp [World.cell?, h]
theorem Tk.thaw {w : World} {g : Nat} {kd : Int} {T : ByteArray} {c0 c1 c2 c3 p : Int} (h : Tk w g kd T c0 c1 c2 c3 p) : w.frozen? ⟨g, 0, none⟩ = false ∧ w.frozen? ⟨g, 1, none⟩ = false ∧ w.frozen? ⟨g, 2, none⟩ = false ∧ w.frozen? ⟨g, 3, none⟩ = false ∧ w.frozen? ⟨g, 4, none⟩ = false ∧ w.frozen? ⟨g, 5, none⟩ = false ∧ w.frozen? ⟨g, 6, none⟩ = false := by
  unfold Tk at h
  simp [World.frozen?, h]
theorem Tk.lt {w : World} {g : Nat} {kd : Int} {T : ByteArray} {c0 c1 c2 c3 p : Int} (h : Tk w g kd T c0 c1 c2 c3 p) : g < w.heap.size := by
  unfold Tk at h
  rcases Nat.lt_or_ge g w.heap.size with h2 | h2
  · exact h2
  · rw [Array.getElem?_eq_none h2] at h; cases h
theorem Tk.below {w w' : World} {g B : Nat} {kd : Int} {T : ByteArray} {c0 c1 c2 c3 p : Int} (h : Tk w g kd T c0 c1 c2 c3 p) (hb : Below B w w') (hg : g < B) : Tk w' g kd T c0 c1 c2 c3 p := (hb.block g hg).trans h
theorem Tk.alloc {w : World} {g : Nat} {kd : Int} {T : ByteArray} {c0 c1 c2 c3 p : Int} (h : Tk w g kd T c0 c1 c2 c3 p) (o : Obj) : Tk (w.alloc o) g kd T c0 c1 c2 c3 p := (Below.heap_alloc w o g h.lt).trans h
theorem Tk.new (w : World) (kd : Int) (T : ByteArray) (c0 c1 c2 c3 p : Int) : Tk (w.alloc (.cells #[.int .i64 kd, .string T, .int .u64 c0, .int .u64 c1, .int .u64 c2, .int .u64 c3, .int .i64 p] 122)) w.heap.size kd T c0 c1 c2 c3 p := by
  show (w.heap.push _)[w.heap.size]? = _
  simp
theorem Tk.st7 {w : World} {g : Nat} {kd : Int} {T : ByteArray} {c0 c1 c2 c3 p : Int} (h : Tk w g kd T c0 c1 c2 c3 p) (kd' : Int) (T' : ByteArray) (d0 d1 d2 d3 p' : Int) : Tk (Proofs.YtggmoneicdkamaaGreatDoor.st7 w g kd' T' d0 d1 d2 d3 p') g kd' T' d0 d1 d2 d3 p' := by
  unfold Tk at *
  simp only [World.setCell, Array.getElem?_modify, if_true, Option.map_map]
  rw [h]
  simp
theorem Below.st7 {B : Nat} {a w : World} (h : Below B a w) {g : Nat} (hg : B ≤ g) (kd : Int) (T : ByteArray) (c0 c1 c2 c3 p : Int) : Below B a (Proofs.YtggmoneicdkamaaGreatDoor.st7 w g kd T c0 c1 c2 c3 p) :=
  (((((((h.setCell (p := ⟨g, 0, none⟩) hg _).setCell (p := ⟨g, 1, none⟩) hg _).setCell (p := ⟨g, 2, none⟩) hg _).setCell (p := ⟨g, 3, none⟩) hg _).setCell (p := ⟨g, 4, none⟩) hg _).setCell (p := ⟨g, 5, none⟩) hg _).setCell (p := ⟨g, 6, none⟩) hg _)
theorem Flt.st7 {w : World} {q g : Nat} {c : Nat × Nat} (h : Flt w q c) (hne : q ≠ g) (kd : Int) (T : ByteArray) (c0 c1 c2 c3 p : Int) : Flt (Proofs.YtggmoneicdkamaaGreatDoor.st7 w g kd T c0 c1 c2 c3 p) q c := by
  unfold Flt at *
  rw [Below.heap_setCell _ _ _ _ hne, Below.heap_setCell _ _ _ _ hne, Below.heap_setCell _ _ _ _ hne, Below.heap_setCell _ _ _ _ hne, Below.heap_setCell _ _ _ _ hne, Below.heap_setCell _ _ _ _ hne, Below.heap_setCell _ _ _ _ hne]
  exact h
end Go.Proofs.YtggmoneicdkamaaGreatDoor
namespace Go.Proofs.YtggmoneicdkamaaGreatDoor
open Go.RowKit
set_option linter.unusedVariables false
abbrev Ls := (Nat × Nat) ⊕ (List Nat × Nat)
/-- A literal's signs from k on, up to the quote q; it began at p. -/
def llit (S : ByteArray) (q p : Nat) : Nat → Nat → List Nat → Ls
  | 0, k, _ => .inl (flt S k)
  | f + 1, k, acc =>
    if bt S k = some q then .inr (acc, k + 1) else
    match lsg S k with
    | .inl e => .inl e
    | .inr (b, n) => if acc.length = 255 then .inl (2, p) else llit S q p f n (acc ++ [b])
def ll (S : ByteArray) (q p k : Nat) (acc : List Nat) : Ls := llit S q p (S.size + 1 - k) k acc
theorem llit_fuel (S : ByteArray) (q p : Nat) : ∀ (f g k : Nat) (acc : List Nat), S.size + 1 - k ≤ f → S.size + 1 - k ≤ g → llit S q p f k acc = llit S q p g k acc
  | 0, 0, _, _, _, _ => rfl
  | 0, g + 1, k, acc, hf, _ => by
    have hb := bt_ge (S := S) (k := k) (by omega)
    have hm : lsg S k = .inl (flt S k) := by unfold lsg; rw [hb]
    rw [llit, llit, hb, hm]; simp
  | f + 1, 0, k, acc, _, hg => by
    have hb := bt_ge (S := S) (k := k) (by omega)
    have hm : lsg S k = .inl (flt S k) := by unfold lsg; rw [hb]
    rw [llit, llit, hb, hm]; simp
  | f + 1, g + 1, k, acc, hf, hg => by
    rw [llit, llit]
    split
    · rfl
    · cases hm : lsg S k with
      | inl e => rfl
      | inr r =>
        obtain ⟨b, n⟩ := r
        have := lsg_ok hm
        simp only
        split
        · rfl
        · exact llit_fuel S q p f g n _ (by omega) (by omega)
theorem ll_eq (S : ByteArray) (q p k : Nat) (acc : List Nat) : ll S q p k acc = (if bt S k = some q then .inr (acc, k + 1) else
    match lsg S k with
    | .inl e => .inl e
    | .inr (b, n) => if acc.length = 255 then .inl (2, p) else ll S q p n (acc ++ [b])) := by
  unfold ll
  rw [llit_fuel S q p (S.size + 1 - k) (S.size + 1 - k + 1) k acc (by omega) (by omega), llit]
  split
  · rfl
  · cases hm : lsg S k with
    | inl e => rfl
    | inr r =>
      obtain ⟨b, n⟩ := r
      have := lsg_ok hm
      simp only
      split
      · rfl
      · exact llit_fuel S q p _ _ n _ (by omega) (by omega)
theorem ll_end {S : ByteArray} {q p k : Nat} {acc : List Nat} (h : bt S k = some q) : ll S q p k acc = .inr (acc, k + 1) := by rw [ll_eq, if_pos h]
theorem ll_bad {S : ByteArray} {q p k : Nat} {acc : List Nat} {e : Nat × Nat} (h : ¬ bt S k = some q) (hm : lsg S k = .inl e) : ll S q p k acc = .inl e := by rw [ll_eq, if_neg h, hm]
theorem ll_long {S : ByteArray} {q p k b n : Nat} {acc : List Nat} (h : ¬ bt S k = some q) (hm : lsg S k = .inr (b, n)) (hl : acc.length = 255) : ll S q p k acc = .inl (2, p) := by rw [ll_eq, if_neg h, hm]; simp [hl]
theorem ll_on {S : ByteArray} {q p k b n : Nat} {acc : List Nat} (h : ¬ bt S k = some q) (hm : lsg S k = .inr (b, n)) (hl : acc.length ≠ 255) : ll S q p k acc = ll S q p n (acc ++ [b]) := by rw [ll_eq, if_neg h, hm]; simp [hl]
/-- What a call that takes a token hands back where something is wrong. -/
def BadT (c : Nat × Nat) (w : World) (e : Ending) (w' : World) : Prop := Bad (.agg #[.int .i64 0, .string { data := #[] }, .int .u64 0, .int .u64 0, .int .u64 0, .int .u64 0, .int .i64 0]) c w e w'
def AnsL (r : Ls) (p : Nat) (w : World) (e : Ending) (w' : World) : Prop :=
  match r with
  | .inr (l, n) => e = .returned (.tuple #[.agg #[.int .i64 3, .string (nb l), .int .u64 0, .int .u64 0, .int .u64 0, .int .u64 0, .int .i64 (p : Int)], .int .i64 (n : Int), .nilIface]) ∧ Below w.heap.size w w'
  | .inl c => BadT c w e w'
/-- What stays while a literal is read. -/
def Lr (w : World) (v : Value) (l : List Nat) (w' : World) : Prop :=
  Hid (Below w.heap.size w w') ∧ Hid (w'.ownsRow (w.heap.size + 1) 5 1 v l.length (nv l)) ∧ Hid (Tk w' w.heap.size 0 { data := #[] } 0 0 0 0 0)
theorem Lr.keep {w W w' : World} {v : Value} {l : List Nat} (h : Lr w v l W) (hb : Below W.heap.size W w') : Lr w v l w' :=
  ⟨hid (h.1.out.trans (hb.mono h.1.out.size)), hid (own_keep h.2.1.out hb), hid (h.2.2.out.below hb h.2.2.out.lt)⟩
theorem bad_endT {w w1 : World} {p : Nat} {c : Nat × Nat} (hB : Below w.heap.size w w1) (hF : Flt w1 p c) (hp : w.heap.size ≤ p) (hne : p ≠ w.heap.size) : Hid (w.heap.size ≤ p ∧ Flt (st7 w1 w.heap.size 0 { data := #[] } 0 0 0 0 0) p c ∧ Below w.heap.size w (st7 w1 w.heap.size 0 { data := #[] } 0 0 0 0 0)) :=
  ⟨hp, hF.st7 hne _ _ _ _ _ _ _, Below.st7 hB (Nat.le_refl _) _ _ _ _ _ _ _⟩
set_option maxRecDepth 100000 in
set_option maxHeartbeats 8000000 in
theorem xliteral_any (S : ByteArray) (q p : Nat) (w : World) (h0 : bt S p = some q) (hS : S.size ≤ 9007199254740992) :
    Calls Tryz.prog 86 #[.string S, .int .i64 (p : Int)] w fun e w' => AnsL (ll S q p (p + 1) []) p w e w' := by
  obtain ⟨i0, hi0, hz0, hz1, hz2⟩ := info_parts Tryz.infoByte
  have hql := (bt_lt h0).2
  obtain ⟨hp0, hq0⟩ := bt_at h0
  have hpI : (p : Int) < (S.size : Int) := by omega
  obtain ⟨R, hR⟩ : ∃ R, R = ll S q p (p + 1) [] := ⟨_, rfl⟩
  rw [← hR]
  have HR : Hid (ll S q p (p + 1) [] = R) := hR.symm
  clear hR h0
  go_enter Tryz.func86, Tryz.ntmps86
  go_wp2_with fail
  go_loopw [8, 9] (fun v a wr => ∃ (k : Nat) (acc : List Nat), a = .int .i64 (k : Int) ∧ k ≤ S.size ∧ acc.length ≤ 255 ∧ Hid (∀ x ∈ acc, x < 256) ∧ Hid (ll S q p k acc = R) ∧ Hid (Lr w v acc wr)) (fun _ a _ => S.size - (intOf a).toNat)
  case atStart => exact ⟨p + 1, [], by go_num, by omega, by simp, hid (fun x hx => by simp at hx), HR, hid ⟨hid ((Below.refl _ _).alloc (Nat.le_refl _) _), hid (World.ownsRow_nil _ _ _ _), hid (Tk.new w 0 { data := #[] } 0 0 0 0 0)⟩⟩
  case round =>
    obtain ⟨k, acc, rfl, hks, hal, HX, HM, HL⟩ := hrel
    clear hq0
    by_cases hend : bt S k = some q
    · obtain ⟨hkk, hxk⟩ := bt_at hend
      have hkI : (k : Int) < (S.size : Int) := by omega
      have a0 : decide ((S.size : Int) ≤ (k : Int)) = false := by simp; omega
      have HRe : Hid (R = .inr (acc, k + 1)) := by show _ = _; rw [← HM.out, ll_end hend]
      have HN : Hid (((k + 1 : Nat) : Int) = (k : Int) + 1) := by show _ = _; omega
      have cva := conv_any HL.out.2.1.out HX.out
      obtain ⟨c0, c1, c2, c3, c4, c5, c6⟩ := HL.out.2.2.out.cells
      obtain ⟨f0, f1, f2, f3, f4, f5, f6⟩ := HL.out.2.2.out.thaw
      obtain ⟨TT, hTT⟩ : ∃ TT, TT = nb acc := ⟨_, rfl⟩
      rw [← hTT] at cva
      have HT0 : Hid (Tk wr w.heap.size 0 { data := #[] } 0 0 0 0 0) := HL.out.2.2
      have HB0 : Hid (Below w.heap.size w wr) := HL.out.1
      have HTT : Hid (TT = nb acc) := hTT
      clear hend HM HL hTT
      go_wp2_with fail
      obtain ⟨r0, r1, r2, r3, r4, r5, r6⟩ := (HT0.out.st7 3 TT 0 0 0 0 (p : Int)).cells
      unfold st7 at r0 r1 r2 r3 r4 r5 r6
      refine bodyPost_ret (v := .tuple #[.agg #[.int .i64 3, .string TT, .int .u64 0, .int .u64 0, .int .u64 0, .int .u64 0, .int .i64 (p : Int)], .int .i64 ((k : Int) + 1), .nilIface]) (by simp [results, Tryz.results86, go_sem, r0, r1, r2, r3, r4, r5, r6]) rfl ?_
      rw [HRe.out]
      show _ = _ ∧ _
      rw [HN.out, ← HTT.out]
      exact ⟨rfl, Below.st7 HB0.out (Nat.le_refl _) _ _ _ _ _ _ _⟩
    · have hcond : decide ((S.size : Int) ≤ (k : Int)) = true ∧ S.size ≤ k ∨ (∃ x : Nat, k < S.size ∧ At S k x ∧ x ≠ q ∧ x < 256) := by
        cases hb : bt S k with
        | none => exact .inl ⟨by have := bt_none hb; simp; omega, bt_none hb⟩
        | some x => exact .inr ⟨x, (bt_lt hb).1, bt_at hb, fun e => hend (by rw [hb, e]), (bt_lt hb).2⟩
      cases hm : lsg S k with
      | inl c =>
        have HRe : Hid (R = .inl c) := by show _ = _; rw [← HM.out, ll_bad hend hm]
        have HSg : Hid (∀ w : World, Calls Tryz.prog 117 #[.string S, .int .i64 (k : Int)] w fun e w' => Bad (.int .u8 0) c w e w') := fun w => xsign_bad S k c w hm hS (by omega)
        clear hend HM hm HX
        rcases hcond with ⟨a0, a0'⟩ | ⟨x, hkk, ⟨_, hxk⟩, hxq, hx6⟩
        · go_wp2_with fail
          refine (HSg.out _).mono ?_
          rintro e w1 ⟨f, rfl, HP⟩
          have HB1 : Hid (Below w.heap.size w w1) := HL.out.1.out.trans (HP.out.2.2.mono HL.out.1.out.size)
          have HT1 : Hid (Tk w1 w.heap.size 0 { data := #[] } 0 0 0 0 0) := HL.out.2.2.out.below HP.out.2.2 HL.out.2.2.out.lt
          have HF1 : Hid (Up w w1 f c) := ⟨Nat.le_trans HL.out.1.out.size HP.out.1, fun e => by have h1 := HL.out.2.2.out.lt; have h2 := HP.out.1; omega, HP.out.2.1⟩
          clear HP HL
          obtain ⟨c0, c1, c2, c3, c4, c5, c6⟩ := HT1.out.cells
          obtain ⟨f0, f1, f2, f3, f4, f5, f6⟩ := HT1.out.thaw
          have HT7 : Hid (Tk (st7 w1 w.heap.size 0 { data := #[] } 0 0 0 0 0) w.heap.size 0 { data := #[] } 0 0 0 0 0) := HT1.out.st7 0 { data := #[] } 0 0 0 0 0
          unfold flv
          go_wp2_with fail
          obtain ⟨r0, r1, r2, r3, r4, r5, r6⟩ := HT7.out.cells
          unfold st7 at r0 r1 r2 r3 r4 r5 r6
          (try simp only [Exit.inBlock, Exit.then])
          refine bodyPost_ret (v := .tuple #[.agg #[.int .i64 0, .string { data := #[] }, .int .u64 0, .int .u64 0, .int .u64 0, .int .u64 0, .int .i64 0], .int .i64 0, .iface 77 (.pointer (some ⟨f, 0, none⟩))]) (by simp [results, Tryz.results86, go_sem, r0, r1, r2, r3, r4, r5, r6]) rfl ?_
          rw [HRe.out]
          exact ⟨f, rfl, bad_endT HB1.out HF1.out.2.2 HF1.out.1 HF1.out.2.1⟩
        · have hkI : (k : Int) < (S.size : Int) := by omega
          have a0 : decide ((S.size : Int) ≤ (k : Int)) = false := by simp; omega
          have n0 : ((x : Int) != (q : Int)) = true := by rw [bne_iff_ne]; omega
          clear hxq
          go_wp2_with fail
          refine (HSg.out _).mono ?_
          rintro e w1 ⟨f, rfl, HP⟩
          have HB1 : Hid (Below w.heap.size w w1) := HL.out.1.out.trans (HP.out.2.2.mono HL.out.1.out.size)
          have HT1 : Hid (Tk w1 w.heap.size 0 { data := #[] } 0 0 0 0 0) := HL.out.2.2.out.below HP.out.2.2 HL.out.2.2.out.lt
          have HF1 : Hid (Up w w1 f c) := ⟨Nat.le_trans HL.out.1.out.size HP.out.1, fun e => by have h1 := HL.out.2.2.out.lt; have h2 := HP.out.1; omega, HP.out.2.1⟩
          clear HP HL
          obtain ⟨c0, c1, c2, c3, c4, c5, c6⟩ := HT1.out.cells
          obtain ⟨f0, f1, f2, f3, f4, f5, f6⟩ := HT1.out.thaw
          have HT7 : Hid (Tk (st7 w1 w.heap.size 0 { data := #[] } 0 0 0 0 0) w.heap.size 0 { data := #[] } 0 0 0 0 0) := HT1.out.st7 0 { data := #[] } 0 0 0 0 0
          unfold flv
          go_wp2_with fail
          obtain ⟨r0, r1, r2, r3, r4, r5, r6⟩ := HT7.out.cells
          unfold st7 at r0 r1 r2 r3 r4 r5 r6
          (try simp only [Exit.inBlock, Exit.then])
          refine bodyPost_ret (v := .tuple #[.agg #[.int .i64 0, .string { data := #[] }, .int .u64 0, .int .u64 0, .int .u64 0, .int .u64 0, .int .i64 0], .int .i64 0, .iface 77 (.pointer (some ⟨f, 0, none⟩))]) (by simp [results, Tryz.results86, go_sem, r0, r1, r2, r3, r4, r5, r6]) rfl ?_
          rw [HRe.out]
          exact ⟨f, rfl, bad_endT HB1.out HF1.out.2.2 HF1.out.1 HF1.out.2.1⟩
      | inr r =>
        obtain ⟨b, n⟩ := r
        have hok := lsg_ok hm
        rcases hcond with ⟨a0, a0'⟩ | ⟨x, hkk, ⟨_, hxk⟩, hxq, hx6⟩
        · omega
        · have hkI : (k : Int) < (S.size : Int) := by omega
          have a0 : decide ((S.size : Int) ≤ (k : Int)) = false := by simp; omega
          have n0 : ((x : Int) != (q : Int)) = true := by rw [bne_iff_ne]; omega
          have HSg : Hid (∀ w : World, Calls Tryz.prog 117 #[.string S, .int .i64 (k : Int)] w fun e w' => e = .returned (.tuple #[.int .u8 (b : Int), .int .i64 (n : Int), .nilIface]) ∧ Below w.heap.size w w') := fun w => xsign_ok S k b n w hm hS
          have hsl : ∃ a c, u8 = .slice a acc.length c := by
            obtain ⟨_, ⟨h1, h2⟩ | ⟨g, cap, cur, e, _⟩⟩ := HL.out.2.1.out
            · exact ⟨none, 0, by rw [h1, h2]⟩
            · exact ⟨_, cap, e⟩
          obtain ⟨av, cv, rfl⟩ := hsl
          by_cases hl5 : acc.length = 255
          · have HRe : Hid (R = .inl (2, p)) := by show _ = _; rw [← HM.out, ll_long hend hm hl5]
            rw [hl5] at HL ⊢
            clear hend HM hm HX hxq hok hl5
            go_wp2_with fail
            refine (HSg.out _).mono ?_
            rintro e w1 ⟨rfl, hb1⟩
            have HB1 : Hid (Below w.heap.size w w1) := HL.out.1.out.trans (hb1.mono HL.out.1.out.size)
            have HT1 : Hid (Tk w1 w.heap.size 0 { data := #[] } 0 0 0 0 0) := HL.out.2.2.out.below hb1 HL.out.2.2.out.lt
            clear hb1 HL
            have HT2 : Hid (Tk (w1.alloc (.cells #[.int .i64 2, .int .i64 (p : Int)] 80)) w.heap.size 0 { data := #[] } 0 0 0 0 0) := HT1.out.alloc _
            obtain ⟨c0, c1, c2, c3, c4, c5, c6⟩ := HT2.out.cells
            obtain ⟨f0, f1, f2, f3, f4, f5, f6⟩ := HT2.out.thaw
            go_wp2_with fail
            obtain ⟨r0, r1, r2, r3, r4, r5, r6⟩ := (HT2.out.st7 0 { data := #[] } 0 0 0 0 0).cells
            unfold st7 at r0 r1 r2 r3 r4 r5 r6
            (try simp only [Exit.inBlock, Exit.then])
            refine bodyPost_ret (v := .tuple #[.agg #[.int .i64 0, .string { data := #[] }, .int .u64 0, .int .u64 0, .int .u64 0, .int .u64 0, .int .i64 0], .int .i64 0, .iface 77 (.pointer (some ⟨w1.heap.size, 0, none⟩))]) (by simp [results, Tryz.results86, go_sem, r0, r1, r2, r3, r4, r5, r6]) rfl ?_
            rw [HRe.out]
            exact ⟨w1.heap.size, rfl, bad_endT (HB1.out.alloc HB1.out.size _) (Flt.new w1 (2, p)) HB1.out.size (Nat.ne_of_gt HT1.out.lt)⟩
          · have HM2 : Hid (ll S q p n (acc ++ [b]) = R) := by show _ = _; rw [← HM.out, ll_on hend hm hl5]
            have HX2 : Hid (∀ y ∈ acc ++ [b], y < 256) := fun y hy => by
              rcases List.mem_append.1 hy with h | h
              · exact HX.out y h
              · simp at h; omega
            have d5 : ((acc.length : Int) == 255) = false := by rw [beq_eq_false_iff_ne]; omega
            have hb6 : b < 256 := hok.1
            have hkn : k < n := hok.2.1
            have hns : n ≤ S.size := hok.2.2
            have hal2 : acc.length ≤ 254 := by omega
            clear hend HM hm HX hxq hok hl5
            go_wp2_with fail
            refine (HSg.out _).mono ?_
            rintro e w1 ⟨rfl, hb1⟩
            have HL1 := hid (HL.out.keep hb1)
            have hsz : w.heap.size ≤ w1.heap.size := HL1.out.1.out.size
            have hlt1 : w.heap.size < w1.heap.size := HL1.out.2.2.out.lt
            clear hb1 HL
            go_wp2_with (first | (at_builtin; refine wpList_append_own _ rfl (.tmp 48) (.tmp 50) 99 rfl (w.heap.size + 1) 5 i0 (.int .u8 0) 1 1 Tryz.underlying99 hi0 hz0 hz1 hz2 rfl (by decide) _ _ _ rfl (HL1.out.2.1.out.alloc _) ⟨w1.heap.size, 0, none⟩ 1 1 [.int .u8 (b : Int)] rfl rfl (one_newB _ _ _) (bytes_ok [(b : Int)]) (by unfold maxLen; omega) (by omega) (by simp; omega) ?_; intro v2 w2 hown2 hgr2 hnil2))
            have HL2 : Hid (Lr w v2 (acc ++ [b]) w2) := by
              refine ⟨hid ((HL1.out.1.out.alloc hsz _).grown hgr2 (by simp; omega) (fun y e => by have := (HL1.out.2.1.out.lt y e).1; omega)), hid ?_, hid ?_⟩
              · rw [nv_append, List.length_append]; exact hown2
              · refine (hgr2.block _ (by simp; omega) ?_).trans (HL1.out.2.2.out.alloc _)
                intro e
                have := (HL1.out.2.1.out.lt _ e.symm).1
                omega
            clear hown2 hgr2 hnil2 HL1
            go_roundw
            case rel => exact ⟨n, acc ++ [b], rfl, hns, by simp; omega, HX2, HM2, HL2⟩
            case measure => simp [intOf]; omega
end Go.Proofs.YtggmoneicdkamaaGreatDoor
