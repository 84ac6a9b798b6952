/-
  Which session leastLately finds. Conditions: those that each theorem names.
-/
import Derived.Test.YtjhclpionimjbaaDoorZAsk
namespace Go.Proofs.YtjhclpionimjbaaDoor
open Go.RowKit Go.Maps
set_option linter.unusedVariables false
theorem wpList_next_sess (w : World) {ops : Array Oper} {rest : List Oper} {o : Oper} {a : Act} {Q : Exit → Act → World → Prop} (hg : o.guard = none) (it : Operand) (hop : o.op = Op.next it false) (B r : Nat) (l : List Sx) (left : Lit → Bool) (cnt : Nat)
    (hit : a.eval it = .pointer (some ⟨r, 0, none⟩)) (h : w.ranges Tryd.prog 3 Rs B r l.length (dOf l) left cnt)
    (hDone : (∀ kl, left kl = false) → wpList Tryd.prog ops Q rest (a.put o.dst (.tuple #[.bool false])) w)
    (hMore : ∀ (s : Sx) (w' : World) (cnt' : Nat), s ∈ l → left (.int .i64 s.i) = true → w'.ranges Tryd.prog 3 Rs B r l.length (dOf l) (fun z => left z && !z.sameKey (.int .i64 s.i)) cnt' → cnt' < cnt → w.grownBy w' (some r) → w'.heap.size = w.heap.size →
      (Instr.entry (.pointer (some ⟨r, 0, none⟩))).run Tryd.prog w' = .ok (.tuple #[.int .i64 s.i, sxv s]) w' → wpList Tryd.prog ops Q rest (a.put o.dst (.tuple #[.bool true, .int .i64 s.i, sxv s])) w') : wpList Tryd.prog ops Q (o :: rest) a w :=
  wpList_next_ranges w hg it hop 3 kInt Rs (Value.int .i64) sxv (fun key kl hk => by obtain ⟨x, rfl, _⟩ := Maps.keyOf_int_inv Tryd.underlying3 hk; exact ⟨x, rfl⟩) (fun v y hv => by obtain ⟨s, rfl, _⟩ := Rs_inv hv; exact ⟨s, rfl⟩)
    B r l.length (dOf l) left cnt hit h (fun _ hl => hDone hl) (fun x c kl y w' cnt' hkey hlk hv hat hrg hlt hgr hsz hen => by
      obtain ⟨x', ex, rfl, _⟩ := Maps.keyOf_int_inv Tryd.underlying3 hkey
      cases ex
      have hy : y.1 = .held (sxv c) := by obtain ⟨_, _, e⟩ := Rs_inv hv; rw [e]
      rw [hy] at hat
      cases hf : fnd l x with
      | none =>
        have := hat .nil
        rw [fnd_at, hf] at this
        cases this
      | some s =>
        have := hat .nil
        rw [fnd_at, hf] at this
        have e : sxv s = sxv c := DataW.held.inj this
        obtain ⟨h1, h2⟩ := fnd_some hf
        subst h2
        rw [← e] at hen ⊢
        exact hMore s w' cnt' h1 hlk hrg hlt hgr hsz hen)
/-- While all are gone through. -/
structure LL (w : World) (b0 B r : Nat) (l : List Sx) (left : Lit → Bool) (cnt : Nat) (wr : World) : Prop where
  rg : wr.ranges Tryd.prog 3 Rs B r l.length (dOf l) left cnt
  bel : Below w.heap.size w wr
  lt : r < wr.heap.size
  cell : ∃ m : Sx, wr.heap[b0]? = some (.cells #[.int .i64 m.i, .int .i64 m.l, .int .i64 m.u, .slice m.o m.n m.c] 59) ∧ ((m.i = 0 ∧ ∀ s ∈ l, left (.int .i64 s.i) = true) ∨ (m ∈ l ∧ ∀ t ∈ l, left (.int .i64 t.i) = false → m.u ≤ t.u))
theorem LL.end {w wr : World} {b0 B r cnt : Nat} {l : List Sx} {left : Lit → Bool} (h : LL w b0 B r l left cnt wr) (hne : l ≠ []) (hl : ∀ kl, left kl = false) : ∃ m ∈ l, (∀ t ∈ l, m.u ≤ t.u) ∧ wr.cell? ⟨b0, 0, none⟩ = some (.int .i64 m.i) := by
  obtain ⟨m, h1, h2⟩ := h.cell
  have hc := (cell_in h1 0 _ rfl).1
  rcases h2 with ⟨_, h2⟩ | ⟨h2, h3⟩
  · cases l with
    | nil => exact absurd rfl hne
    | cons s r => have := h2 s (by simp); rw [hl] at this; cases this
  · exact ⟨m, h2, fun t ht => h3 t ht (hl _), hc⟩
theorem strike {left : Lit → Bool} {s t : Sx} (h : (left (.int .i64 t.i) && !(Lit.int .i64 t.i).sameKey (.int .i64 s.i)) = false) : left (.int .i64 t.i) = false ∨ t.i = s.i := by
  rw [int_same] at h
  cases h1 : left (.int .i64 t.i)
  · exact .inl rfl
  · rw [h1] at h
    simp at h
    exact .inr h
theorem ranges_same {w w' : World} {B r n cnt : Nat} {D : DataW Value} {left : Lit → Bool} (h : w.ranges Tryd.prog 3 Rs B r n D left cnt) (hb : w'.heap[B]? = w.heap[B]?) (hr : w'.heap[r]? = w.heap[r]?) : w'.ranges Tryd.prog 3 Rs B r n D left cnt := by
  obtain ⟨es, clock, since, seen, c0, h1, F, hs, hD, h2, rest⟩ := h
  exact ⟨es, clock, since, seen, c0, hb.trans h1, F, hs, hD, hr.trans h2, rest⟩
/-- What holds within a round. -/
structure LR (b0 B r : Nat) (l : List Sx) (left : Lit → Bool) (w w1 wr : World) (s m : Sx) (cnt1 : Nat) : Prop where
  rise : Rise l
  pos : ∀ t ∈ l, 1 ≤ t.i
  mem : s ∈ l
  rg : w1.ranges Tryd.prog 3 Rs B r l.length (dOf l) (fun z => left z && !z.sameKey (.int .i64 s.i)) cnt1
  lt : cnt1 < wr.rangeLeft B r
  cell : w1.heap[b0]? = some (.cells #[.int .i64 m.i, .int .i64 m.l, .int .i64 m.u, .slice m.o m.n m.c] 59)
  or : (m.i = 0 ∧ ∀ s ∈ l, left (.int .i64 s.i) = true) ∨ (m ∈ l ∧ ∀ t ∈ l, left (.int .i64 t.i) = false → m.u ≤ t.u)
  bel : Below w.heap.size w w1
  rlt : r < w1.heap.size
  blt : w.heap.size ≤ b0
  ne : b0 ≠ r
  neB : b0 ≠ B
theorem LR.keep {b0 B r cnt1 : Nat} {l : List Sx} {left : Lit → Bool} {w w1 wr : World} {s m : Sx} (h : LR b0 B r l left w w1 wr s m cnt1) (h0 : m.i ≠ 0) (h1 : ¬ s.u < m.u) (o : Obj) :
    (∃ left cnt, Hid (LL w b0 B r l left cnt (w1.alloc o))) ∧ (w1.alloc o).rangeLeft B r < wr.rangeLeft B r := by
  have hrg := h.rg.alloc o
  refine ⟨⟨_, cnt1, hid ⟨hrg, h.bel.trans ((below_al w1 o).mono h.bel.size), by have := h.rlt; simp; omega, m, ((below_al w1 o).block _ (node_lt h.cell)).trans h.cell, ?_⟩⟩, by rw [hrg.left_eq]; exact h.lt⟩
  rcases h.or with ⟨e, _⟩ | ⟨h2, h3⟩
  · exact absurd e h0
  · refine .inr ⟨h2, fun t ht hl => ?_⟩
    rcases strike hl with e | e
    · exact h3 t ht e
    · rw [rise_mem h.rise ht h.mem e]; omega
theorem LR.swap {b0 B r cnt1 : Nat} {l : List Sx} {left : Lit → Bool} {w w1 wr : World} {s m : Sx} (h : LR b0 B r l left w w1 wr s m cnt1) (h0 : m.i = 0 ∨ s.u < m.u) (o : Obj) (si sl su : Int) (so : Option Addr) (sn sc : Nat) (e1 : s.i = si) (e2 : s.l = sl) (e3 : s.u = su) (e4 : s.o = so) (e5 : s.n = sn) (e6 : s.c = sc) :
    (∃ left cnt, Hid (LL w b0 B r l left cnt (((((w1.setCell ⟨b0, 0, none⟩ (.int .i64 si)).setCell ⟨b0, 1, none⟩ (.int .i64 sl)).setCell ⟨b0, 2, none⟩ (.int .i64 su)).setCell ⟨b0, 3, none⟩ (.slice so sn sc)).alloc o))) ∧
      (((((w1.setCell ⟨b0, 0, none⟩ (.int .i64 si)).setCell ⟨b0, 1, none⟩ (.int .i64 sl)).setCell ⟨b0, 2, none⟩ (.int .i64 su)).setCell ⟨b0, 3, none⟩ (.slice so sn sc)).alloc o).rangeLeft B r < wr.rangeLeft B r := by
  subst e1 e2 e3 e4 e5 e6
  have hc := set_in (set_in (set_in (set_in h.cell 0 (.int .i64 s.i)) 1 (.int .i64 s.l)) 2 (.int .i64 s.u)) 3 (.slice s.o s.n s.c)
  have hk : Kx (fun g => g = b0) w1 ((((w1.setCell ⟨b0, 0, none⟩ (.int .i64 s.i)).setCell ⟨b0, 1, none⟩ (.int .i64 s.l)).setCell ⟨b0, 2, none⟩ (.int .i64 s.u)).setCell ⟨b0, 3, none⟩ (.slice s.o s.n s.c)) := ((Kx.set (P := fun g => g = b0) rfl _).trans (Kx.set (P := fun g => g = b0) rfl _)).trans ((Kx.set (P := fun g => g = b0) rfl _).trans (Kx.set (P := fun g => g = b0) rfl _))
  obtain ⟨w4, hw4⟩ : ∃ w4, w4 = ((((w1.setCell ⟨b0, 0, none⟩ (.int .i64 s.i)).setCell ⟨b0, 1, none⟩ (.int .i64 s.l)).setCell ⟨b0, 2, none⟩ (.int .i64 s.u)).setCell ⟨b0, 3, none⟩ (.slice s.o s.n s.c)) := ⟨_, rfl⟩
  rw [← hw4] at hc hk ⊢
  clear hw4
  have hrg := (ranges_same (w' := w4) h.rg (hk.block _ h.rg.owns.lt (fun e => h.neB e.symm)) (hk.block _ h.rg.lt (fun e => h.ne e.symm))).alloc o
  have hb4 : Below w.heap.size w w4 := h.bel.trans (hk.to h.bel.size (fun g e => by rw [e]; exact h.blt))
  refine ⟨⟨_, cnt1, hid ⟨hrg, hb4.trans ((below_al w4 o).mono hb4.size), by have := h.rlt; have := hk.size; simp; omega, s, ((below_al w4 o).block _ (node_lt hc)).trans (by rw [hc]; simp), ?_⟩⟩, by rw [hrg.left_eq]; exact h.lt⟩
  refine .inr ⟨h.mem, fun t ht hl => ?_⟩
  rcases strike hl with e | e
  · rcases h.or with ⟨_, h2⟩ | ⟨h2, h3⟩
    · rw [h2 t ht] at e; cases e
    · rcases h0 with h0 | h0
      · have := h.pos m h2; omega
      · have := h3 t ht e; omega
  · rw [rise_mem h.rise ht h.mem e]; omega
set_option maxRecDepth 100000 in
set_option maxHeartbeats 2000000 in
theorem least_ok {w : World} {tb B : Nat} {l : List Sx} {ck : Int} (h : Tb w tb B l ck) (hne : l ≠ []) :
    Calls Tryd.prog 44 #[.pointer (some ⟨tb, 0, none⟩)] w fun e w' => ∃ m ∈ l, (∀ t ∈ l, m.u ≤ t.u) ∧ e = .returned (.int .i64 m.i) ∧ Below w.heap.size w w' := by
  obtain ⟨c0, _⟩ := cell_in h.blk 0 _ rfl
  have hlt := node_lt h.blk
  have HOWN := hid (h.m.same (W' := w.alloc (.cells #[.int .i64 0, .int .i64 0, .int .i64 0, .slice none 0 0] 59)) ((below_al w _).block B h.m.lt)).2
  have HB := hid (below_al w (.cells #[.int .i64 0, .int .i64 0, .int .i64 0, .slice none 0 0] 59))
  have HQ := hid (new_block_at w (.cells #[.int .i64 0, .int .i64 0, .int .i64 0, .slice none 0 0] 59) rfl)
  have HT := hid h
  have HNE := hid hne
  clear h hne
  go_enter Tryd.func44, Tryd.ntmps44
  go_wp2_with (first
    | (at_range; refine wpList_range_own _ rfl _ 61 rfl 3 59 kInt Tryd.underlying61 Rs B l.length (dOf l) rfl HOWN.out ?_; intro w0 hrg0 hg0 hs0))
  go_frame
  have hs0' : w0.heap.size = w.heap.size + 2 := by rw [hs0]; simp
  have hre : (w.alloc (.cells #[.int .i64 0, .int .i64 0, .int .i64 0, .slice none 0 0] 59)).heap.size = w.heap.size + 1 := by simp
  rw [hre] at hrg0 ⊢
  have HL0 : Hid (LL w w.heap.size B (w.heap.size + 1) l (Maps.has (dOf l)) (Maps.size (dOf l)) w0) := by
    have hb0 : Below (w.alloc (.cells #[.int .i64 0, .int .i64 0, .int .i64 0, .slice none 0 0] 59)).heap.size (w.alloc (.cells #[.int .i64 0, .int .i64 0, .int .i64 0, .slice none 0 0] 59)) w0 := (Below.refl _ _).grown hg0 (Nat.le_refl _) (fun k e => by cases e)
    refine ⟨hrg0, HB.out.trans (hb0.mono HB.out.size), by omega, sx0, (hb0.block _ (by rw [hre]; omega)).trans HQ.out, .inl ⟨rfl, fun s hs => ?_⟩⟩
    rw [fnd_has, fnd_mem HT.out.m.1 hs]
    rfl
  clear hrg0 hg0 hs0 hs0' hre HOWN HB HQ c0
  go_loopw [5] (fun _ wr => ∃ left cnt, Hid (LL w w.heap.size B (w.heap.size + 1) l left cnt wr)) (fun _ wr => wr.rangeLeft B (w.heap.size + 1))
  case atStart => exact ⟨_, _, HL0⟩
  case round =>
    obtain ⟨left, cnt, HR⟩ := hrel
    clear HL0
    go_wp2_with (first | (at_next; refine wpList_next_sess _ rfl _ rfl B (w.heap.size + 1) l left cnt rfl HR.out.rg ?_ ?_))
    · intro hl0
      obtain ⟨m, hm, hmin, hc⟩ := HR.out.end HNE.out hl0
      have HM := hid (And.intro hm hmin)
      clear hm hmin
      go_wp2_with fail
      go_ret
      exact ⟨m, HM.out.1, HM.out.2, rfl, HR.out.bel⟩
    · intro s w1 cnt1 hs hl hrg1 hlt1 hg1 hs1 hen
      obtain ⟨m, hcm, hor⟩ := HR.out.cell
      have hrl := HR.out.lt
      have hbel := HR.out.bel
      have hcm1 := (hg1.block w.heap.size (by omega) (fun e => by simp at e)).trans hcm
      have hlr := HR.out.rg.left_eq
      obtain ⟨mi, ml, mu, mo, mn, mc, mb⟩ := m
      dsimp only at hcm1 hor
      have q0 := (cell_in hcm1 0 _ rfl).1
      have q1 := (cell_in hcm1 1 _ rfl).1
      have q2 := (cell_in hcm1 2 _ rfl).1
      have q3 := (cell_in hcm1 3 _ rfl).1
      have hw1l : w.heap.size < w1.heap.size := by omega
      have f0 := (cell_in hcm1 0 _ rfl).2
      have f1 := (cell_in hcm1 1 _ rfl).2
      have f2 := (cell_in hcm1 2 _ rfl).2
      have f3 := (cell_in hcm1 3 _ rfl).2
      simp only [List.getElem_toArray, List.getElem_cons_zero, List.getElem_cons_succ] at q0 q1 q2 q3
      have hb1 : Below w.heap.size w w1 := hbel.grown hg1 hbel.size (fun k e => by cases e; omega)
      have HX : Hid (LR w.heap.size B (w.heap.size + 1) l left w w1 wr s ⟨mi, ml, mu, mo, mn, mc, mb⟩ cnt1) := ⟨HT.out.m.1, fun t ht => (HT.out.ok t ht).id1, hs, hrg1, by rw [hlr]; exact hlt1, hcm1, hor, hb1, by omega, Nat.le_refl _, by omega, fun e => by have := HT.out.m.lt; omega⟩
      obtain ⟨si, sl, su, so, sn, sc, sb⟩ := s
      dsimp only at HX hen
      clear hs hl hrg1 hlt1 hg1 hs1 hcm hcm1 hor hb1 hrl hlr hbel HR HT HNE
      by_cases h1 : mi = 0
      · subst h1
        go_wp2_with fail
        exact HX.out.swap (.inl rfl) _ _ _ _ _ _ _ rfl rfl rfl rfl rfl rfl
      · by_cases h2 : su < mu
        · have a2 : decide (su < mu) = true := by simpa using h2
          go_wp2_with fail
          exact HX.out.swap (.inr h2) _ _ _ _ _ _ _ rfl rfl rfl rfl rfl rfl
        · have a2 : decide (su < mu) = false := by simpa using h2
          go_wp2_with fail
          exact HX.out.keep h1 h2 _
end Go.Proofs.YtjhclpionimjbaaDoor
