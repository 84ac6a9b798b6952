/-
  What the reader's method rule answers. Conditions: those that each theorem names.
-/
import Derived.Test.YtggmoneicdkamaaGreatDoorVY11ToY12
namespace Go.Proofs.YtggmoneicdkamaaGreatDoor
open Go.RowKit
set_option linter.unusedVariables false
/-- A rule: its name, its body, its place. -/
abbrev Rl := ByteArray × Nd × Nat
/-- These ten cells are that rule. -/
def RlIs (w : World) (P : Nat → Prop) (r : Rl) (c : List Value) : Prop := ∃ cs, c = .string r.1 :: (cs ++ [.int .i64 (r.2.2 : Int)]) ∧ NdIs w P r.2.1 cs
def ruE (N : ByteArray) (p : Nat) (r : Pr) : (Nat × Nat) ⊕ (Rl × Nat) := match r with
  | .inl e => .inl e
  | .inr (n, k') => .inr ((N, n, p), k')
/-- A rule of the document, ru of them are read already. -/
def ruS (L : List Tok) (ru k : Nat) : (Nat × Nat) ⊕ (Rl × Nat) :=
  if (gL L k).1 ≠ 1 then .inl (wrC (gL L k), (gL L k).2.2.2)
  else if ru = 64 then .inl (2, (gL L k).2.2.2)
  else if (gL L (k + 1)).1 ≠ 2 then .inl (wrC (gL L (k + 1)), (gL L (k + 1)).2.2.2)
  else ruE (gL L k).2.1 (gL L k).2.2.2 (chS L (innS L 24) (k + 2))
theorem ruS_adv {L : List Tok} (hg : Good L) {ru k k' : Nat} {x : Rl} (hk : k < L.length) (h : ruS L ru k = .inr (x, k')) : k + 2 ≤ k' ∧ k' < L.length := by
  unfold ruS at h
  split at h
  · cases h
  · rename_i h1
    split at h
    · cases h
    · split at h
      · cases h
      · rename_i h2
        have hk1 := hg.nxt k hk (by omega)
        have hk2 := hg.nxt (k + 1) hk1 (by omega)
        cases hs : chS L (innS L 24) (k + 2) with
        | inl e => rw [hs] at h; cases h
        | inr q =>
          obtain ⟨n, j⟩ := q
          rw [hs] at h
          have := chS_adv hg (innS_adv hg 24) hk2 hs
          simp only [ruE, Sum.inr.injEq, Prod.mk.injEq] at h
          omega
/-- What rule hands back. -/
def AnsR (r : (Nat × Nat) ⊕ (Rl × Nat)) (B R b : Nat) (v : Value) (L : List Tok) (ru : Nat) (w : World) (e : Ending) (w' : World) : Prop :=
  match r with
  | .inr (x, k') => ∃ cs : List Value, e = .returned (.agg cs.toArray) ∧ Hid (RlIs w' (fun g => B ≤ g) x cs) ∧ Hid (Rd w' R b v L k' (ru + 1) 0) ∧ Hid (w.grownBy w' (some R))
  | .inl c => ∃ f, e = .panicked [{ v := .iface 77 (.pointer (some ⟨f, 0, none⟩)), recovered := false }] ∧ Hid (w.heap.size ≤ f ∧ Flt w' f c) ∧ Hid (w.grownBy w' (some R))
/-- The reader, what was there, and the variable of the result, laid first: any. -/
def Ek (O : Obj) (w : World) (R b : Nat) (v : Value) (L : List Tok) (k ru ne : Nat) (W : World) : Prop :=
  Rd W R b v L k ru ne ∧ w.grownBy W (some R) ∧ W.heap[w.heap.size]? = some O ∧ R < w.heap.size ∧ (∀ g, w.heap.size ≤ g → v.ownBlock ≠ some g)
section
variable {O : Obj} {w W W' : World} {R b : Nat} {v : Value} {L : List Tok} {k k' ru ru' ne ne' : Nat}
theorem Ek.start (O : Obj) (h : Rd w R b v L k ru ne) : Ek O w R b v L k ru ne (w.alloc O) :=
  ⟨h.alloc _, G.alloc (G.refl w R), new_block_at w _ rfl, h.lt, fun g hg e => by have := (h.2.lt _ e).2; omega⟩
theorem Ek.size (h : Ek O w R b v L k ru ne W) : w.heap.size < W.heap.size := node_lt h.2.2.1
theorem Ek.lt (h : Ek O w R b v L k ru ne W) : R < w.heap.size := h.2.2.2.1
theorem Ek.grown (h : Ek O w R b v L k ru ne W) (hr : Rd W' R b v L k' ru' ne') (hg : W.grownBy W' (some R)) : Ek O w R b v L k' ru' ne' W' :=
  ⟨hr, G.trans h.2.1 hg, (hg.block _ h.size (fun e => by have := Option.some.inj e; have := h.lt; omega)).trans h.2.2.1, h.2.2.2.1, h.2.2.2.2⟩
theorem Ek.below (h : Ek O w R b v L k ru ne W) (hb : Below W.heap.size W W') : Ek O w R b v L k ru ne W' := h.grown (h.1.below hb) (G.below hb)
theorem Ek.alloc (h : Ek O w R b v L k ru ne W) (o : Obj) : Ek O w R b v L k ru ne (W.alloc o) := h.below ((Below.refl _ _).alloc (Nat.le_refl _) _)
theorem Ek.next (h : Ek O w R b v L k ru ne W) : Ek O w R b v L (k + 1) ru ne (W.setCell ⟨R, 1, none⟩ (.int .i64 ((k : Int) + 1))) := h.grown h.1.next1 (G.setR (G.refl W R))
theorem Ek.rules (h : Ek O w R b v L k ru ne W) : Ek O w R b v L k (ru + 1) ne (W.setCell ⟨R, 2, none⟩ (.int .i64 ((ru : Int) + 1))) := by
  have h2 := h.1.rules (ru + 1)
  rw [show (((ru + 1 : Nat) : Int)) = (ru : Int) + 1 by omega] at h2
  exact h.grown h2 (G.setR (G.refl W R))
theorem Ek.up (h : Ek O w R b v L k ru ne W) {c : Nat × Nat} {B f : Nat} {w' : World} (hf : W.heap.size ≤ f) (hF : Flt w' f c) (hg : W.grownBy w' (some R)) : AnsR (.inl c) B R b v L ru' w (.panicked [{ v := .iface 77 (.pointer (some ⟨f, 0, none⟩)), recovered := false }]) w' :=
  ⟨f, rfl, hid ⟨by have := h.size; omega, hF⟩, hid (G.trans h.2.1 hg)⟩
end
/-- A rule's zero cells. -/
@[reducible] def Zr : Obj := .cells #[.string { data := #[] }, .int .i64 0, .string { data := #[] }, .int .u64 0, .int .u64 0, .int .u64 0, .int .u64 0, .slice none 0 0, .int .i64 0, .int .i64 0] 60
/-- A rule is laid in block g. -/
@[reducible] def st10 (w : World) (g : Nat) (N : ByteArray) (kd : Int) (T : ByteArray) (c0 c1 c2 c3 : Int) (sv : Value) (p : Int) (q : Int) : World := (((((((((w.setCell ⟨g, 0, none⟩ (.string N)).setCell ⟨g, 1, none⟩ (.int .i64 kd)).setCell ⟨g, 2, none⟩ (.string T)).setCell ⟨g, 3, none⟩ (.int .u64 c0)).setCell ⟨g, 4, none⟩ (.int .u64 c1)).setCell ⟨g, 5, none⟩ (.int .u64 c2)).setCell ⟨g, 6, none⟩ (.int .u64 c3)).setCell ⟨g, 7, none⟩ sv).setCell ⟨g, 8, none⟩ (.int .i64 p)).setCell ⟨g, 9, none⟩ (.int .i64 q)
theorem st10_block {w : World} {g : Nat} {a0 a1 a2 a3 a4 a5 a6 a7 a8 a9 : Value} (h : w.heap[g]? = some (.cells #[a0, a1, a2, a3, a4, a5, a6, a7, a8, a9] 60)) (N : ByteArray) (kd : Int) (T : ByteArray) (c0 c1 c2 c3 : Int) (sv : Value) (p q : Int) :
    (st10 w g N kd T c0 c1 c2 c3 sv p q).heap[g]? = some (.cells #[.string N, .int .i64 kd, .string T, .int .u64 c0, .int .u64 c1, .int .u64 c2, .int .u64 c3, sv, .int .i64 p, .int .i64 q] 60) := by
  simp only [World.setCell, Array.getElem?_modify, if_true, Option.map_map]
  rw [h]
  simp
theorem ten_cells {w : World} {g : Nat} {a0 a1 a2 a3 a4 a5 a6 a7 a8 a9 : Value} (h : w.heap[g]? = some (.cells #[a0, a1, a2, a3, a4, a5, a6, a7, a8, a9] 60)) :
    (w.cell? ⟨g, 0, none⟩ = some a0 ∧ w.cell? ⟨g, 1, none⟩ = some a1 ∧ w.cell? ⟨g, 2, none⟩ = some a2 ∧ w.cell? ⟨g, 3, none⟩ = some a3 ∧ w.cell? ⟨g, 4, none⟩ = some a4 ∧ w.cell? ⟨g, 5, none⟩ = some a5 ∧ w.cell? ⟨g, 6, none⟩ = some a6 ∧ w.cell? ⟨g, 7, none⟩ = some a7 ∧ w.cell? ⟨g, 8, none⟩ = some a8 ∧ w.cell? ⟨g, 9, none⟩ = some a9) ∧
    (w.frozen? ⟨g, 0, none⟩ = false ∧ w.frozen? ⟨g, 1, none⟩ = false ∧ w.frozen? ⟨g, 2, none⟩ = false ∧ w.frozen? ⟨g, 3, none⟩ = false ∧ w.frozen? ⟨g, 4, none⟩ = false ∧ w.frozen? ⟨g, 5, none⟩ = false ∧ w.frozen? ⟨g, 6, none⟩ = false ∧ w.frozen? ⟨g, 7, none⟩ = false ∧ w.frozen? ⟨g, 8, none⟩ = false ∧ w.frozen? ⟨g, 9, none⟩ = false) := by
  refine ⟨⟨?_, ?_, ?_, ?_, ?_, ?_, ?_, ?_, ?_, ?_⟩, ⟨?_, ?_, ?_, ?_, ?_, ?_, ?_, ?_, ?_, ?_⟩⟩ <;> simp [World.cell?, World.frozen?, h]
theorem seven_cells {w : World} {g : Nat} {a0 a1 a2 a3 a4 a5 a6 : Value} (h : w.heap[g]? = some (.cells #[a0, a1, a2, a3, a4, a5, a6] 122)) :
    w.cell? ⟨g, 0, none⟩ = some a0 ∧ w.cell? ⟨g, 1, none⟩ = some a1 ∧ w.cell? ⟨g, 6, none⟩ = some a6 := by
  refine ⟨?_, ?_, ?_⟩ <;> simp [World.cell?, h]
theorem Ek.fin {w W : World} {B R b : Nat} {v sv : Value} {L : List Tok} {k ru kd C p q : Nat} {N T : ByteArray} {n : Nd} {o : Obj} (h : Ek Zr w R b v L k ru 0 W) (hn : NdIs W (fun g => w.heap.size + 1 ≤ g) n (n8 kd T C sv p)) (hB : B ≤ w.heap.size) :
    AnsR (.inr ((N, n, q), k)) B R b v L ru w (.returned (.agg #[.string N, .int .i64 (kd : Int), .string T, .int .u64 (wd C 0 : Nat), .int .u64 (wd C 1 : Nat), .int .u64 (wd C 2 : Nat), .int .u64 (wd C 3 : Nat), sv, .int .i64 (p : Int), .int .i64 (q : Int)]))
      ((st10 (W.setCell ⟨R, 2, none⟩ (.int .i64 ((ru : Int) + 1))) w.heap.size N (kd : Int) T (wd C 0 : Nat) (wd C 1 : Nat) (wd C 2 : Nat) (wd C 3 : Nat) sv (p : Int) (q : Int)).alloc o) := by
  have h2 := h.rules
  have hRQ : w.heap.size ≠ R := by have := h.lt; omega
  have hv := h.2.2.2.2 w.heap.size (Nat.le_refl _)
  have hg := Nat.le_refl w.heap.size
  have hb : ∀ V : World, Below V.heap.size V (V.alloc o) := fun V => (Below.refl _ V).alloc (Nat.le_refl _) _
  refine ⟨.string N :: (n8 kd T C sv p ++ [.int .i64 (q : Int)]), rfl, hid ⟨n8 kd T C sv p, rfl, ?_⟩, hid ((((((((((((h2.1.other hRQ hv).other hRQ hv).other hRQ hv).other hRQ hv).other hRQ hv).other hRQ hv).other hRQ hv).other hRQ hv).other hRQ hv).other hRQ hv)).below (hb _)), hid (G.alloc (G.setN (G.setN (G.setN (G.setN (G.setN (G.setN (G.setN (G.setN (G.setN (G.setN h2.2.1 hg) hg) hg) hg) hg) hg) hg) hg) hg) hg))⟩
  refine NdIs.below ?_ (hb _)
  refine NdIs.kept (fun g cur hp hq => ⟨?_, show B ≤ g by have hp' : w.heap.size + 1 ≤ g := hp; omega⟩) n _ (NdIs.grown hn (G.setR (u := .int .i64 ((ru : Int) + 1)) (j := 2) (G.refl W R)) h.1.1)
  have hne : ∀ j : Nat, g ≠ (⟨w.heap.size, j, none⟩ : Addr).block := fun j e => by have e2 : g = w.heap.size := e; have hp' : w.heap.size + 1 ≤ g := hp; omega
  have s : ∀ (V : World) (j : Nat) (u : Value), (V.setCell ⟨w.heap.size, j, none⟩ u).heap[g]? = V.heap[g]? := fun V j u => Below.heap_setCell _ _ _ _ (hne j)
  unfold st10
  rw [s, s, s, s, s, s, s, s, s, s]
set_option maxRecDepth 100000 in
set_option maxHeartbeats 16000000 in
theorem yrule_any (R b : Nat) (v : Value) (L : List Tok) (ru k B : Nat) (w : World) (hg : Good L) (h : Rd w R b v L k ru 0) (hk : k < L.length) (hru : ru ≤ 64) (hB : B ≤ w.heap.size) :
    Calls Tryz.prog 91 #[.pointer (some ⟨R, 0, none⟩)] w fun e w' => AnsR (ruS L ru k) B R b v L ru w e w' := by
  have fd0 := Tryz.fld0
  have HT := ytoken_g R b v L k ru 0 hk hg
  have HW := ywrong_g R b v L k ru 0 hk hg
  have HF := yfault_g R b v L k ru 0 hk hg
  have HE : Hid (Ek Zr w R b v L k ru 0 (w.alloc Zr)) := Ek.start Zr h
  have hkl : (k : Int) + 2 < 9223372036854775807 := by have := hg.len; omega
  have HG : Hid (Good L) := hg
  unfold ruS
  by_cases h1 : (gL L k).1 = 1
  · rw [if_neg (by omega)]
    have hk1 := hg.nxt k hk (by omega)
    have HT1 := ytoken_g R b v L (k + 1) ru 0 hk1 hg
    have HW1 := ywrong_g R b v L (k + 1) ru 0 hk1 hg
    obtain ⟨t, ht⟩ : ∃ t, t = gL L k := ⟨_, rfl⟩
    rw [← ht] at HT HF h1 ⊢
    clear ht HW
    obtain ⟨tk, N, tC, q⟩ := t
    have h1' : tk = 1 := h1
    subst h1'
    clear h1 h
    by_cases h64 : ru = 64
    · rw [if_pos h64]
      subst h64
      go_enter Tryz.func91, Tryz.ntmps91
      go_wp2_with fail
      refine (HT.out _ HE.out.1).mono ?_
      rintro e w1 ⟨rfl, hb1⟩
      have HE1 := hid (HE.out.below hb1)
      clear hb1 HE HT
      dsimp only [tkv]
      have HE2 := hid (HE1.out.alloc (.cells #[.int .i64 1, .string N, .int .u64 (wd tC 0 : Nat), .int .u64 (wd tC 1 : Nat), .int .u64 (wd tC 2 : Nat), .int .u64 (wd tC 3 : Nat), .int .i64 (q : Int)] 122))
      obtain ⟨r0, r1, r2, r3, q0, q1, q2, q3⟩ := HE1.out.1.cells
      have r2' : w1.cell? ⟨R, 2, none⟩ = some (.int .i64 64) := r2
      clear r0 r1 r2 r3 q0 q1 q2 q3
      have hR1 := HE1.out.1.lt
      clear HE1
      go_wp2_with fail
      refine (HF.out 2 _ HE2.out.1).mono ?_
      rintro e w3 ⟨f, rfl, HP⟩
      have HA := hid (HE2.out.up (B := B) (ru' := 64) HP.out.1 HP.out.2.1 (G.below HP.out.2.2))
      clear HP HE2 HF r2'
      go_wp2_with fail
      exact ⟨rfl, HA.out⟩
    rw [if_neg h64]
    have t64 : ((ru : Int) == 64) = false := by simp; omega
    by_cases h2 : (gL L (k + 1)).1 = 2
    · rw [if_neg (by omega)]
      have hk2 := hg.nxt (k + 1) hk1 (by omega)
      have HC := hid (fun (W : World) (h : Rd W R b v L (k + 2) ru 0) (hB : w.heap.size + 1 ≤ W.heap.size) => ychoice_all R b v L ru hg 24 0 (by omega) (k + 2) (w.heap.size + 1) W h hk2 trivial hB)
      obtain ⟨t, ht⟩ : ∃ t, t = gL L (k + 1) := ⟨_, rfl⟩
      rw [← ht] at HT1 h2
      clear ht HW1
      obtain ⟨tk, uN, uC, uq⟩ := t
      have h2' : tk = 2 := h2
      subst h2'
      clear h2
      cases hs : chS L (innS L 24) (k + 2) with
      | inl c =>
        rw [hs] at HC
        show Calls _ _ _ _ (fun e w' => AnsR (.inl c) B R b v L ru w e w')
        go_enter Tryz.func91, Tryz.ntmps91
        go_wp2_with fail
        refine (HT.out _ HE.out.1).mono ?_
        rintro e w1 ⟨rfl, hb1⟩
        have HE1 := hid (HE.out.below hb1)
        clear hb1 HE HT HF
        dsimp only [tkv]
        have HE2 := hid (HE1.out.next.alloc (.cells #[.int .i64 1, .string N, .int .u64 (wd tC 0 : Nat), .int .u64 (wd tC 1 : Nat), .int .u64 (wd tC 2 : Nat), .int .u64 (wd tC 3 : Nat), .int .i64 (q : Int)] 122))
        have HK2 : Hid (((w1.setCell ⟨R, 1, none⟩ (.int .i64 ((k : Int) + 1))).alloc (.cells #[.int .i64 1, .string N, .int .u64 (wd tC 0 : Nat), .int .u64 (wd tC 1 : Nat), .int .u64 (wd tC 2 : Nat), .int .u64 (wd tC 3 : Nat), .int .i64 (q : Int)] 122)).heap[w1.heap.size]? = some (.cells #[.int .i64 1, .string N, .int .u64 (wd tC 0 : Nat), .int .u64 (wd tC 1 : Nat), .int .u64 (wd tC 2 : Nat), .int .u64 (wd tC 3 : Nat), .int .i64 (q : Int)] 122)) := new_block_at _ _ (by simp)
        have HS1 : Hid (w.heap.size < w1.heap.size) := HE1.out.size
        obtain ⟨r0, r1, r2, r3, q0, q1, q2, q3⟩ := HE1.out.1.cells
        have hR1 := HE1.out.1.lt
        clear HE1
        go_wp2_with fail
        refine (HT1.out _ HE2.out.1).mono ?_
        rintro e w4 ⟨rfl, hb4⟩
        have HE4 := hid (HE2.out.below hb4)
        have HK4 := hid ((hb4.block _ (by simp)).trans HK2.out)
        have HL4 : Hid (w1.heap.size < w4.heap.size) := Nat.lt_of_lt_of_le (by simp) hb4.size
        clear hb4 HE2 HK2 HT1 r0 r1 r2 r3 q0 q1 q2 q3 hR1
        dsimp only [tkv]
        obtain ⟨r0, r1, r2, r3, q0, q1, q2, q3⟩ := HE4.out.1.cells
        have r1' : w4.cell? ⟨R, 1, none⟩ = some (.int .i64 ((k : Int) + 1)) := by rw [r1]; simp
        clear r1
        have hR4 := HE4.out.1.lt
        have HE5 : Hid (Ek Zr w R b v L (k + 2) ru 0 (w4.setCell ⟨R, 1, none⟩ (.int .i64 ((k : Int) + 2)))) := by
          have := HE4.out.next
          rw [show (((k + 1 : Nat) : Int)) + 1 = (k : Int) + 2 by omega] at this
          exact this
        have HK5 := hid ((Below.heap_setCell w4 ⟨R, 1, none⟩ (.int .i64 ((k : Int) + 2)) w1.heap.size (show w1.heap.size ≠ R by have := HS1.out; have := HE4.out.lt; omega)).trans HK4.out)
        have HL5 := HL4
        have hk2i : (k : Int) + 1 + 1 = (k : Int) + 2 := by omega
        clear HE4 HK4 HL4
        go_wp2_with fail
        refine (HC.out _ HE5.out.1 (by have := HE5.out.size; omega)).mono ?_
        clear r0 r1' r2 r3 q0 q1 q2 q3 hR4
        rintro e w6 ⟨f, rfl, HFl, HGr⟩
        have HA := hid (HE5.out.up (B := B) (ru' := ru) HFl.out.1 HFl.out.2 HGr.out)
        clear HE5 HC HK5 HFl HGr
        go_wp2_with fail
        exact ⟨rfl, HA.out⟩
      | inr x =>
        obtain ⟨n, k'⟩ := x
        rw [hs] at HC
        show Calls _ _ _ _ (fun e w' => AnsR (.inr ((N, n, q), k')) B R b v L ru w e w')
        go_enter Tryz.func91, Tryz.ntmps91
        go_wp2_with fail
        refine (HT.out _ HE.out.1).mono ?_
        rintro e w1 ⟨rfl, hb1⟩
        have HE1 := hid (HE.out.below hb1)
        clear hb1 HE HT HF
        dsimp only [tkv]
        have HE2 := hid (HE1.out.next.alloc (.cells #[.int .i64 1, .string N, .int .u64 (wd tC 0 : Nat), .int .u64 (wd tC 1 : Nat), .int .u64 (wd tC 2 : Nat), .int .u64 (wd tC 3 : Nat), .int .i64 (q : Int)] 122))
        have HK2 : Hid (((w1.setCell ⟨R, 1, none⟩ (.int .i64 ((k : Int) + 1))).alloc (.cells #[.int .i64 1, .string N, .int .u64 (wd tC 0 : Nat), .int .u64 (wd tC 1 : Nat), .int .u64 (wd tC 2 : Nat), .int .u64 (wd tC 3 : Nat), .int .i64 (q : Int)] 122)).heap[w1.heap.size]? = some (.cells #[.int .i64 1, .string N, .int .u64 (wd tC 0 : Nat), .int .u64 (wd tC 1 : Nat), .int .u64 (wd tC 2 : Nat), .int .u64 (wd tC 3 : Nat), .int .i64 (q : Int)] 122)) := new_block_at _ _ (by simp)
        have HS1 : Hid (w.heap.size < w1.heap.size) := HE1.out.size
        obtain ⟨r0, r1, r2, r3, q0, q1, q2, q3⟩ := HE1.out.1.cells
        have hR1 := HE1.out.1.lt
        clear HE1
        go_wp2_with fail
        refine (HT1.out _ HE2.out.1).mono ?_
        rintro e w4 ⟨rfl, hb4⟩
        have HE4 := hid (HE2.out.below hb4)
        have HK4 := hid ((hb4.block _ (by simp)).trans HK2.out)
        have HL4 : Hid (w1.heap.size < w4.heap.size) := Nat.lt_of_lt_of_le (by simp) hb4.size
        clear hb4 HE2 HK2 HT1 r0 r1 r2 r3 q0 q1 q2 q3 hR1
        dsimp only [tkv]
        obtain ⟨r0, r1, r2, r3, q0, q1, q2, q3⟩ := HE4.out.1.cells
        have r1' : w4.cell? ⟨R, 1, none⟩ = some (.int .i64 ((k : Int) + 1)) := by rw [r1]; simp
        clear r1
        have hR4 := HE4.out.1.lt
        have HE5 : Hid (Ek Zr w R b v L (k + 2) ru 0 (w4.setCell ⟨R, 1, none⟩ (.int .i64 ((k : Int) + 2)))) := by
          have := HE4.out.next
          rw [show (((k + 1 : Nat) : Int)) + 1 = (k : Int) + 2 by omega] at this
          exact this
        have HK5 := hid ((Below.heap_setCell w4 ⟨R, 1, none⟩ (.int .i64 ((k : Int) + 2)) w1.heap.size (show w1.heap.size ≠ R by have := HS1.out; have := HE4.out.lt; omega)).trans HK4.out)
        have HL5 := HL4
        have hk2i : (k : Int) + 1 + 1 = (k : Int) + 2 := by omega
        clear HE4 HK4 HL4
        go_wp2_with fail
        refine (HC.out _ HE5.out.1 (by have := HE5.out.size; omega)).mono ?_
        clear r0 r1' r2 r3 q0 q1 q2 q3 hR4
        rintro e w6 ⟨cs, rfl, HN, HR, HGr⟩
        have HE6 := hid (HE5.out.grown HR.out HGr.out)
        have HK6 := hid ((HGr.out.block _ (by have := HL5.out; simp; omega) (fun e => by have e2 : w1.heap.size = R := Option.some.inj e; have := HE5.out.lt; have := HS1.out; omega)).trans HK5.out)
        have HL6 : Hid (w1.heap.size < w6.heap.size) := Nat.lt_of_lt_of_le (by have := HL5.out; simp; omega) HGr.out.size
        clear HE5 HC HK5 HR HGr HL5
        obtain ⟨kd, T, C, so, sl, sc, hcs⟩ := HN.out.shape
        obtain ⟨p, hp⟩ : ∃ p, p = n.at' := ⟨_, rfl⟩
        rw [← hp] at hcs
        subst hcs
        clear hp
        dsimp only [n8]
        obtain ⟨z0, z1, z6⟩ := seven_cells HK6.out
        obtain ⟨⟨k0, k1, k2, k3, k4, k5, k6, k7, k8, k9⟩, ⟨f0, f1, f2, f3, f4, f5, f6, f7, f8, f9⟩⟩ := ten_cells HE6.out.2.2.1
        obtain ⟨r0, r1, r2, r3, q0, q1, q2, q3⟩ := HE6.out.1.cells
        have hR6 := HE6.out.1.lt
        have hRl := HE6.out.lt
        have hS1 := HS1.out
        have hL6 := HL6.out
        have hRT : R ≠ w1.heap.size := by omega
        have hRQ : R ≠ w.heap.size := by omega
        have hQT : w.heap.size ≠ w1.heap.size := by omega
        have hQl : w.heap.size < w6.heap.size := by omega
        have hru2 : (ru : Int) + 1 < 9223372036854775807 := by omega
        clear HK6 HS1 HL6
        go_wp2_with fail
        (try simp only [Exit.inBlock, Exit.then])
        have hS := st10_block (w := w6.setCell ⟨R, 2, none⟩ (.int .i64 ((ru : Int) + 1))) (g := w.heap.size) HE6.out.rules.2.2.1 N (kd : Int) T (wd C 0 : Nat) (wd C 1 : Nat) (wd C 2 : Nat) (wd C 3 : Nat) (.slice so sl sc) (p : Int) (q : Int)
        have hS2 := fun o : Obj => (Below.heap_alloc (st10 (w6.setCell ⟨R, 2, none⟩ (.int .i64 ((ru : Int) + 1))) w.heap.size N (kd : Int) T (wd C 0 : Nat) (wd C 1 : Nat) (wd C 2 : Nat) (wd C 3 : Nat) (.slice so sl sc) (p : Int) (q : Int)) o w.heap.size (by simp; omega)).trans hS
        obtain ⟨⟨c0, c1, c2, c3, c4, c5, c6, c7, c8, c9⟩, _⟩ := ten_cells (hS2 (.cells #[.int .i64 (kd : Int), .string T, .int .u64 (wd C 0 : Nat), .int .u64 (wd C 1 : Nat), .int .u64 (wd C 2 : Nat), .int .u64 (wd C 3 : Nat), .slice so sl sc, .int .i64 (p : Int)] 58))
        refine bodyPost_ret (v := .agg #[.string N, .int .i64 (kd : Int), .string T, .int .u64 (wd C 0 : Nat), .int .u64 (wd C 1 : Nat), .int .u64 (wd C 2 : Nat), .int .u64 (wd C 3 : Nat), .slice so sl sc, .int .i64 (p : Int), .int .i64 (q : Int)]) (by simp [results, Tryz.results91, go_sem, c0, c1, c2, c3, c4, c5, c6, c7, c8, c9]) rfl ?_
        exact HE6.out.fin HN.out hB
    · rw [if_pos h2]
      obtain ⟨t, ht⟩ : ∃ t, t = gL L (k + 1) := ⟨_, rfl⟩
      rw [← ht] at HT1 HW1 h2 ⊢
      clear ht
      obtain ⟨tk, uN, uC, uq⟩ := t
      have t2 : ((tk : Int) != 2) = true := by have h2' : tk ≠ 2 := h2; rw [bne_iff_ne]; omega
      clear h2
      go_enter Tryz.func91, Tryz.ntmps91
      go_wp2_with fail
      refine (HT.out _ HE.out.1).mono ?_
      rintro e w1 ⟨rfl, hb1⟩
      have HE1 := hid (HE.out.below hb1)
      clear hb1 HE HT HF
      dsimp only [tkv]
      have HE2 := hid (HE1.out.next.alloc (.cells #[.int .i64 1, .string N, .int .u64 (wd tC 0 : Nat), .int .u64 (wd tC 1 : Nat), .int .u64 (wd tC 2 : Nat), .int .u64 (wd tC 3 : Nat), .int .i64 (q : Int)] 122))
      have HK2 : Hid (((w1.setCell ⟨R, 1, none⟩ (.int .i64 ((k : Int) + 1))).alloc (.cells #[.int .i64 1, .string N, .int .u64 (wd tC 0 : Nat), .int .u64 (wd tC 1 : Nat), .int .u64 (wd tC 2 : Nat), .int .u64 (wd tC 3 : Nat), .int .i64 (q : Int)] 122)).heap[w1.heap.size]? = some (.cells #[.int .i64 1, .string N, .int .u64 (wd tC 0 : Nat), .int .u64 (wd tC 1 : Nat), .int .u64 (wd tC 2 : Nat), .int .u64 (wd tC 3 : Nat), .int .i64 (q : Int)] 122)) := new_block_at _ _ (by simp)
      have HS1 : Hid (w.heap.size < w1.heap.size) := HE1.out.size
      obtain ⟨r0, r1, r2, r3, q0, q1, q2, q3⟩ := HE1.out.1.cells
      have hR1 := HE1.out.1.lt
      clear HE1
      go_wp2_with fail
      refine (HT1.out _ HE2.out.1).mono ?_
      rintro e w4 ⟨rfl, hb4⟩
      have HE4 := hid (HE2.out.below hb4)
      have HK4 := hid ((hb4.block _ (by simp)).trans HK2.out)
      have HL4 : Hid (w1.heap.size < w4.heap.size) := Nat.lt_of_lt_of_le (by simp) hb4.size
      clear hb4 HE2 HK2 HT1 r0 r1 r2 r3 q0 q1 q2 q3 hR1
      dsimp only [tkv]
      go_wp2_with fail
      refine (HW1.out _ HE4.out.1).mono ?_
      rintro e w5 ⟨f, rfl, HP⟩
      have HA := hid (HE4.out.up (B := B) (ru' := ru) HP.out.1 HP.out.2.1 (G.below HP.out.2.2))
      clear HP HE4 HW1
      go_wp2_with fail
      exact ⟨rfl, HA.out⟩
  · rw [if_pos h1]
    obtain ⟨t, ht⟩ : ∃ t, t = gL L k := ⟨_, rfl⟩
    rw [← ht] at HT HW h1 ⊢
    clear ht HF
    obtain ⟨tk, N, tC, q⟩ := t
    have t1 : ((tk : Int) != 1) = true := by have h2' : tk ≠ 1 := h1; rw [bne_iff_ne]; omega
    clear h1 h
    go_enter Tryz.func91, Tryz.ntmps91
    go_wp2_with fail
    refine (HT.out _ HE.out.1).mono ?_
    rintro e w1 ⟨rfl, hb1⟩
    have HE1 := hid (HE.out.below hb1)
    clear hb1 HE HT
    dsimp only [tkv]
    have HE2 := hid (HE1.out.alloc (.cells #[.int .i64 (tk : Int), .string N, .int .u64 (wd tC 0 : Nat), .int .u64 (wd tC 1 : Nat), .int .u64 (wd tC 2 : Nat), .int .u64 (wd tC 3 : Nat), .int .i64 (q : Int)] 122))
    clear HE1
    go_wp2_with fail
    refine (HW.out _ HE2.out.1).mono ?_
    rintro e w3 ⟨f, rfl, HP⟩
    have HA := hid (HE2.out.up (B := B) (ru' := ru) HP.out.1 HP.out.2.1 (G.below HP.out.2.2))
    clear HP HE2 HW
    go_wp2_with fail
    exact ⟨rfl, HA.out⟩
end Go.Proofs.YtggmoneicdkamaaGreatDoor
