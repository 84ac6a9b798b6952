/-
  The document's Restore. Conditions: those that each theorem names.
-/
import Derived.Test.YtjhclpionimjbaaDoorZXo
import Derived.Test.YtjhclpionimjbaaDoorZQ
namespace Go.Proofs.YtjhclpionimjbaaDoor
open Go.RowKit Go.Maps
set_option linter.unusedVariables false
theorem Xt.turn2 {w W : World} {m xb : Nat} {v v' : Value} {l l' : List Sx} {ck : Int} (h : Xt w m xb v l ck) (hg : w.grownBy W v.ownBlock) (ho : W.ownsRow m 59 4 v' l'.length (cl l')) (hl : l'.length ≤ 8) (hs : ∀ s ∈ l', (inI s.i ∧ inI s.l ∧ inI s.u) ∧ Has w s.o s.n s.c s.b ∧ Fr m w s.o s.c ∧ s.n ≤ 16384) :
    Xt (W.setCell ⟨xb, 0, none⟩ v') m xb v' l' ck ∧ Below m w (W.setCell ⟨xb, 0, none⟩ v') := by
  have hk1 : Kx (fun g => v.ownBlock = some g) w W := .grown hg (fun g e => e)
  have hL1 : ∀ g, g < w.heap.size → v.ownBlock = some g → NoT w g := fun g _ e => (row_not h.row.own g e).1
  have hbX : W.heap[xb]? = some (.cells #[v, .int .i64 ck] 38) := (hk1.block xb (node_lt h.blk) (fun e => by
    obtain ⟨cur, hg⟩ := row_blk h.row e
    rw [h.blk] at hg
    cases hg)).trans h.blk
  have hkX : Kx (fun g => g = xb) W (W.setCell ⟨xb, 0, none⟩ v') := Kx.set (P := fun g => g = xb) rfl _
  have hLX : ∀ g, g < W.heap.size → g = xb → NoT W g := fun g _ e => by rw [e]; exact NoT.cells hbX (by decide)
  have hrW : RowS W m v' l' := ⟨ho, reps_kx (fun s h => (hs s h).2) hk1 hL1⟩
  have hrX := hrW.kx hkX hLX (fun g e e2 => by
    obtain ⟨cur, hg⟩ := row_blk hrW e
    rw [e2, hbX] at hg
    cases hg)
  exact ⟨⟨by rw [set_in hbX 0 _]; rfl, hrX, h.le, Nat.le_trans h.ms (Nat.le_trans hk1.size hkX.size), hl, fun s h => (hs s h).1, h.ckI⟩, ((Below.refl m w).grown hg h.ms (fun k e => (row_not h.row.own k e).2.1)).trans (hkX.to (Nat.le_trans h.ms hk1.size) (fun g e => by rw [e]; exact h.le))⟩
/-- What stands so far may stand. -/
structure GX (ls : List Sx) (ck : Int) (k : Nat) : Prop where
  may : ∀ s ∈ ls.take k, MayB s ck
  rise : Rise (ls.take k)
  us : ((ls.take k).map Sx.u).Nodup
theorem GX.next {ls : List Sx} {ck : Int} {k : Nat} (h : GX ls ck k) (hk : k < ls.length) (h1 : MayB ls[k] ck) (h2 : ∀ h0 : 0 < k, ls[k - 1].i < ls[k].i) (h3 : ∀ j (hj : j < ls.length), j < k → ls[j].u ≠ ls[k].u) : GX ls ck (k + 1) := by
  have e := List.take_succ_eq_append_getElem hk
  refine ⟨fun s hs => ?_, ?_, ?_⟩
  · rw [e, List.mem_append, List.mem_singleton] at hs
    rcases hs with hs | rfl
    · exact h.may s hs
    · exact h1
  · rw [e]
    refine List.pairwise_append.2 ⟨h.rise, List.pairwise_singleton _ _, fun a ha b hb => ?_⟩
    obtain rfl := List.mem_singleton.1 hb
    obtain ⟨j, hj, rfl⟩ := List.getElem_of_mem ha
    have hjk : j < k := by rw [List.length_take] at hj; omega
    rw [List.getElem_take]
    have h5 := h2 (by omega)
    rcases Nat.lt_or_eq_of_le (show j ≤ k - 1 by omega) with hlt | rfl
    · have h6 := List.pairwise_iff_getElem.1 h.rise j (k - 1) hj (by rw [List.length_take]; omega) hlt
      rw [List.getElem_take, List.getElem_take] at h6
      omega
    · exact h5
  · rw [e, List.map_append]
    refine List.nodup_append.2 ⟨h.us, by simp, fun a ha b hb => ?_⟩
    obtain ⟨t, ht, rfl⟩ := List.mem_map.1 ha
    obtain ⟨j, hj, rfl⟩ := List.getElem_of_mem ht
    have hjk : j < k := by rw [List.length_take] at hj; omega
    rw [List.getElem_take]
    simp only [List.map_cons, List.map_nil, List.mem_singleton] at hb
    subst hb
    exact h3 j (by omega) hjk
theorem res_facts {ls : List Sx} {ck : Int} (h : resB ls ck = true) : 0 ≤ ck ∧ ls.length ≤ 8 ∧ (∀ s ∈ ls, MayB s ck) ∧ Rise ls ∧ (ls.map Sx.u).Nodup := by
  unfold resB at h
  simp only [Bool.and_eq_true, decide_eq_true_eq] at h
  obtain ⟨⟨h1, h2⟩, h3⟩ := h
  obtain ⟨h4, h5, h6⟩ := st_facts h3
  refine ⟨h1, h2, h4, h5, ?_⟩
  have h7 : (usS ls).Nodup := h6.imp (fun h => by omega)
  unfold usS at h7
  exact (List.mergeSort_perm _ _).nodup_iff.1 h7
theorem res_of {ls : List Sx} {ck : Int} (h0 : 0 ≤ ck) (h8 : ls.length ≤ 8) (h : GX ls ck ls.length) : resB ls ck = true := by
  obtain ⟨h1, h2, h3⟩ := h
  rw [List.take_length] at h1 h2 h3
  unfold resB stB
  rw [decide_eq_true h0, decide_eq_true h8]
  have e1 : ls.all (fun s => mayB s ck) = true := by
    rw [List.all_eq_true]
    exact fun s hs => (mayB_iff s ck).2 (h1 s hs)
  have e2 : riB (ls.map Sx.i) = true := by
    refine decide_eq_true ?_
    rw [List.pairwise_map]
    exact h2
  have e3 : riB (usS ls) = true := by
    refine decide_eq_true (pw_lt ?_ ?_)
    · unfold usS
      exact (List.pairwise_mergeSort (fun a b c h1 h2 => by simp at *; omega) (fun a b => by simp; omega) _).imp (fun h => by simpa using h)
    · unfold usS
      exact (List.mergeSort_perm _ _).nodup_iff.2 h3
  rw [e1, e2, e3]
  rfl
/-- What the document's Restore answers. -/
def RestX (w : World) (ls : List Sx) (ck : Int) (e : Ending) (w' : World) : Prop :=
  Below w.heap.size w w' ∧ ((resB ls ck = false ∧ e = .returned (.tuple #[.pointer none, .int .i64 1])) ∨
    (resB ls ck = true ∧ ∃ xb v l, e = .returned (.tuple #[.pointer (some ⟨xb, 0, none⟩), .int .i64 0]) ∧ Xt w' w.heap.size xb v l ck ∧ l.map key = ls.map key))
/-- While the sessions are put in. -/
structure RX (w : World) (xb : Nat) (ls : List Sx) (ck : Int) (k : Nat) (X : World) : Prop where
  st : ∃ v lk, Xt X w.heap.size xb v lk ck ∧ lk.map key = (ls.take k).map key
  g : GX ls ck k
  bel : Below w.heap.size w X
/-- What is held while a session is put in. -/
structure ES (xb b8 : Nat) (v : Value) (si sl su : Int) (r : Value) (X : World) : Prop where
  c : X.cell? ⟨xb, 0, none⟩ = some v
  b : X.heap[b8]? = some (.cells #[.int .i64 si, .int .i64 sl, .int .i64 su, r] 59)
  l : xb < X.heap.size
theorem ES.kx {xb b8 : Nat} {v r : Value} {si sl su : Int} {X Y : World} {L : Nat → Prop} (h : ES xb b8 v si sl su r X) (hk : Kx L X Y) (h1 : ¬ L xb) (h2 : ¬ L b8) : ES xb b8 v si sl su r Y :=
  ⟨(World.cell?_of_block (w := X) (hk.block xb h.l h1)).trans h.c, (hk.block b8 (node_lt h.b) h2).trans h.b, Nat.lt_of_lt_of_le h.l hk.size⟩
theorem ES.cells {xb b8 : Nat} {v r : Value} {si sl su : Int} {X : World} (h : ES xb b8 v si sl su r X) : X.cell? ⟨xb, 0, none⟩ = some v ∧ X.cell? ⟨b8, 0, none⟩ = some (.int .i64 si) ∧ X.cell? ⟨b8, 1, none⟩ = some (.int .i64 sl) ∧ X.cell? ⟨b8, 2, none⟩ = some (.int .i64 su) ∧ X.cell? ⟨b8, 3, none⟩ = some r :=
  ⟨h.c, (cell_in h.b 0 _ rfl).1, (cell_in h.b 1 _ rfl).1, (cell_in h.b 2 _ rfl).1, (cell_in h.b 3 _ rfl).1⟩
/-- A session copied and put behind the others: what is run, and what comes of it. -/
theorem put_last {X : World} {m xb b8 : Nat} {so : Option Addr} {cp : Nat} {lk : List Sx} {ck si sl su : Int} {o : Option Addr} {n c : Nat} {b : List UInt8} (hX : Xt X m xb (.slice so lk.length cp) lk ck) (h8 : lk.length + 1 ≤ 8) (hE : ES xb b8 (.slice so lk.length cp) si sl su (.slice o n c) X) (hb8 : ∀ g, ownX xb (.slice so lk.length cp) g → g ≠ b8) (hm8 : m ≤ b8) (hh : Has X o n c b) (hn : n ≤ 16384) (hI : inI si ∧ inI sl ∧ inI su) :
    ∃ o' c' W1 so3 cp3 W3, (Builtin.append_ #[40, 40] 40 #[.slice (some ⟨X.heap.size, 0, none⟩) 0 0, .slice o n c]).run Tryd.prog (X.alloc (.cells #[] 5)) = .ok (.slice o' n c') W1 ∧ W1.frozen? ⟨b8, 3, none⟩ = false ∧ W1.cell? ⟨b8, 3, none⟩ = some (.slice o n c) ∧ ES xb b8 (.slice so lk.length cp) si sl su (.slice o' n c') (W1.setCell ⟨b8, 3, none⟩ (.slice o' n c')).drew ∧
      (∀ Y, Y = (W1.setCell ⟨b8, 3, none⟩ (.slice o' n c')).drew → (Builtin.append_ #[22, 22] 22 #[.slice so lk.length cp, .slice (some ⟨Y.heap.size, 0, none⟩) 1 1]).run Tryd.prog (Y.alloc (.cells #[.int .i64 si, .int .i64 sl, .int .i64 su, .slice o' n c'] 59)) = .ok (.slice so3 (lk.length + 1) cp3) W3 ∧ ES xb b8 (.slice so lk.length cp) si sl su (.slice o' n c') (Y.alloc (.cells #[.int .i64 si, .int .i64 sl, .int .i64 su, .slice o' n c'] 59))) ∧
      ES xb b8 (.slice so lk.length cp) si sl su (.slice o' n c') W3 ∧ W3.frozen? ⟨xb, 0, none⟩ = false ∧ Xt (W3.setCell ⟨xb, 0, none⟩ (.slice so3 (lk.length + 1) cp3)) m xb (.slice so3 (lk.length + 1) cp3) (lk ++ [⟨si, sl, su, o', n, c', b⟩]) ck ∧ Below m X (W3.setCell ⟨xb, 0, none⟩ (.slice so3 (lk.length + 1) cp3)) := by
  have hbe : Below X.heap.size X (X.alloc (.cells #[] 5)) := below_al X _
  obtain ⟨o', c', W1, hr1, hh1, hf1, hb1⟩ := bytes_app (hh.below hbe) (by omega) (owns_empty X X.heap.size (Nat.le_refl _)) hbe.size
  have hbX1 := hbe.trans hb1
  have hX1 := hX.below hbX1
  have hE1 := hE.kx (L := fun _ => False) (.below hbX1) (fun e => e) (fun e => e)
  obtain ⟨W2, hW2⟩ : ∃ W2, W2 = W1.setCell ⟨b8, 3, none⟩ (.slice o' n c') := ⟨_, rfl⟩
  have hk2 : Kx (fun g => g = b8) W1 W2 := by rw [hW2]; exact Kx.set (P := fun g => g = b8) rfl _
  have hL2 : ∀ g, g < W1.heap.size → g = b8 → NoT W1 g := fun g _ e => by rw [e]; exact NoT.cells hE1.b (by decide)
  have hX2 := hX1.kx hk2 hL2 (fun g e e2 => hb8 g e e2)
  obtain ⟨hh2, hf2⟩ := hh1.kxF (hf1.mono (Nat.zero_le _)) hk2 (fun g a b => .inr (hL2 g a b))
  have hne : xb ≠ b8 := hb8 xb (.inl rfl)
  have hE2 : ES xb b8 (.slice so lk.length cp) si sl su (.slice o' n c') W2 := ⟨(World.cell?_of_block (w := W1) (hk2.block xb hE1.l hne)).trans hE1.c, by rw [hW2, set_in hE1.b 3 _]; rfl, Nat.lt_of_lt_of_le hE1.l hk2.size⟩
  have hf2 : Fr m W2 o' c' := by
    exact ((hf1.kx hk2 (fun g hg e => by have := node_lt hE.b; omega)).mono hX.ms)
  obtain ⟨Y, hY⟩ : ∃ Y, Y = W2.drew := ⟨_, rfl⟩
  have hbY : Below W2.heap.size W2 Y := by rw [hY]; exact (Below.refl _ W2).drew
  have hEY := hE2.kx (L := fun _ => False) (.below hbY) (fun e => e) (fun e => e)
  obtain ⟨Ya, hYa⟩ : ∃ Ya, Ya = Y.alloc (.cells #[.int .i64 si, .int .i64 sl, .int .i64 su, .slice o' n c'] 59) := ⟨_, rfl⟩
  have hba : Below Y.heap.size Y Ya := by rw [hYa]; exact below_al Y _
  have hEA := hEY.kx (L := fun _ => False) (.below hba) (fun e => e) (fun e => e)
  have hb2a : Below W2.heap.size W2 Ya := hbY.trans (hba.mono hbY.size)
  have hXA := hX2.below hb2a
  have hsrcA : Src Ya (some ⟨Y.heap.size, 0, none⟩) 1 (cl [⟨si, sl, su, o', n, c', b⟩]) := .inr ⟨_, rfl, by rw [hYa]; exact four_new Y (.int .i64 si) (.int .i64 sl) (.int .i64 su) (.slice o' n c') 59⟩
  obtain ⟨v3, W3, hr3, ho3, hg3, hb3⟩ := app_row (W := Ya) (base := m) (v := .slice so lk.length cp) (N := lk.length) (ls := lk) (ps := [⟨si, sl, su, o', n, c', b⟩]) (M := 1) hXA.row.own rfl 1 rfl hsrcA (fun e => by cases e) hXA.ms (by omega)
  obtain ⟨so3, cp3, rfl⟩ := row_slice ho3
  have hk3 : Kx (fun g => (Value.slice so lk.length cp).ownBlock = some g) Ya W3 := .grown hg3 (fun g e => e)
  have hE3 := hEA.kx hk3 (fun e => by
    obtain ⟨cur, hg⟩ := row_blk hXA.row e
    rw [hXA.blk] at hg
    cases hg) (fun e => hb8 b8 (.inr e) rfl)
  have hT := hXA.turn2 hg3 (l' := lk ++ [⟨si, sl, su, o', n, c', b⟩]) (by simpa using ho3) (by simpa using h8) (fun s hs => by
    rcases List.mem_append.1 hs with hs | hs
    · exact ⟨hXA.idI s hs, hXA.row.has s hs⟩
    · obtain rfl := List.mem_singleton.1 hs
      exact ⟨hI, hh2.below hb2a, hf2.below hb2a, hn⟩)
  have hf3 : W3.frozen? ⟨xb, 0, none⟩ = false := by
    have : W3.heap[xb]? = Ya.heap[xb]? := hk3.block xb hEA.l (fun e => by
      obtain ⟨cur, hg⟩ := row_blk hXA.row e
      rw [hXA.blk] at hg
      cases hg)
    exact (cell_in (this.trans hXA.blk) 0 _ rfl).2
  refine ⟨o', c', W1, so3, cp3, W3, hr1, (cell_in hE1.b 3 _ rfl).2, (cell_in hE1.b 3 _ rfl).1, by rw [← hW2, ← hY]; exact hEY, fun Z hZ => ?_, hE3, hf3, hT.1, ?_⟩
  · rw [← hW2, ← hY] at hZ
    subst hZ
    rw [← hYa]
    exact ⟨hr3, hEA⟩
  · have h1 : Below m X W1 := hbX1.mono hX.ms
    have h2 : Below m W1 W2 := hk2.to hX1.ms (fun g e => by rw [e]; exact hm8)
    exact h1.trans (h2.trans ((hb2a.mono hX2.ms).trans hT.2))
end Go.Proofs.YtjhclpionimjbaaDoor
