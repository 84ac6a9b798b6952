/-
  The reader of package syntax in memory; what its methods token, sign, fault and wrong answer. Conditions: those that each theorem names.
  Trees in memory: what they read as, and what leaves them. Plain facts on worlds; conditions: those that each theorem names.
-/
import Derived.Test.YtggmoneicdkamaaGreatDoorVX13ToX16
import Derived.BigQuiet
namespace Go.Proofs.YtggmoneicdkamaaGreatDoor
open Go.RowKit
set_option linter.unusedVariables false
theorem own_any_shape {w : World} {base e size n : Nat} {v : Value} {xs : List Value} (h : w.ownsRow base e size v n xs) : ∃ a c, v = .slice a n c := by
  obtain ⟨_, ⟨h1, h2⟩ | ⟨g, cap, cur, e, _⟩⟩ := h
  · exact ⟨none, 0, by rw [h1, h2]⟩
  · exact ⟨_, cap, e⟩
theorem tvs_get (a : List Tok) (t : Tok) (b : List Tok) : ∀ j x, (tvs [t])[j]? = some x → (tvs (a ++ t :: b))[a.length * 7 + j]? = some x := by
  intro j x hj
  rw [show a ++ t :: b = a ++ ([t] ++ b) by simp, tvs_append, tvs_append]
  have := tvs_length a
  rw [List.getElem?_append_right (by omega), this, Nat.add_sub_cancel_left]
  have hjl : j < (tvs [t]).length := by
    rcases Nat.lt_or_ge j (tvs [t]).length with h1 | h1
    · exact h1
    · rw [List.getElem?_eq_none h1] at hj; cases hj
  rw [List.getElem?_append_left hjl]
  exact hj
theorem tvs_at (L : List Tok) (k : Nat) (hk : k < L.length) : ∀ j x, (tvs [L[k]])[j]? = some x → (tvs L)[k * 7 + j]? = some x := by
  have h := tvs_get (L.take k) L[k] (L.drop (k + 1))
  have hl : (L.take k).length = k := by simp; omega
  have he : L.take k ++ L[k] :: L.drop (k + 1) = L := by rw [List.getElem_cons_drop, List.take_append_drop]
  rw [he, hl] at h
  exact h
/-- The cells of a token. -/
def Cs (w : World) (g o : Nat) (t : Tok) : Prop := w.cell? ⟨g, o, none⟩ = some (.int .i64 (t.1 : Int)) ∧ w.cell? ⟨g, o + 1, none⟩ = some (.string t.2.1) ∧ w.cell? ⟨g, o + 2, none⟩ = some (.int .u64 (wd t.2.2.1 0 : Nat)) ∧ w.cell? ⟨g, o + 3, none⟩ = some (.int .u64 (wd t.2.2.1 1 : Nat)) ∧ w.cell? ⟨g, o + 4, none⟩ = some (.int .u64 (wd t.2.2.1 2 : Nat)) ∧ w.cell? ⟨g, o + 5, none⟩ = some (.int .u64 (wd t.2.2.1 3 : Nat)) ∧ w.cell? ⟨g, o + 6, none⟩ = some (.int .i64 (t.2.2.2 : Int))
theorem own_tok {w : World} {base g n cap : Nat} {L : List Tok} (h : w.ownsRow base 122 7 (.slice (some ⟨g, 0, none⟩) n cap) n (tvs L)) (k : Nat) (hk : k < L.length) (hn : n = L.length) : Cs w g (k * 7) L[k] := by
  have ha := tvs_at L k hk
  refine ⟨?_, ?_, ?_, ?_, ?_, ?_, ?_⟩
  · rw [h.cellAt _ (by omega)]; exact ha 0 _ rfl
  · rw [h.cellAt _ (by omega)]; exact ha 1 _ rfl
  · rw [h.cellAt _ (by omega)]; exact ha 2 _ rfl
  · rw [h.cellAt _ (by omega)]; exact ha 3 _ rfl
  · rw [h.cellAt _ (by omega)]; exact ha 4 _ rfl
  · rw [h.cellAt _ (by omega)]; exact ha 5 _ rfl
  · rw [h.cellAt _ (by omega)]; exact ha 6 _ rfl
theorem own_cap {w : World} {base e size g n cap : Nat} {xs : List Value} (h : w.ownsRow base e size (.slice (some ⟨g, 0, none⟩) n cap) n xs) : cap ≤ 9223372036854775807 := by
  obtain ⟨_, ⟨h1, _⟩ | ⟨g', cap', cur, e, _, _, _, hc, _⟩⟩ := h
  · cases h1
  · cases e
    unfold maxLen at hc
    omega
/-- The reader R goes through the tokens L, a row of its own, and stands at k; ru rules are read, ne parentheses are open. -/
def Rd (w : World) (R b : Nat) (v : Value) (L : List Tok) (k ru ne : Nat) : Prop :=
  w.heap[R]? = some (.cells #[v, .int .i64 (k : Int), .int .i64 (ru : Int), .int .i64 (ne : Int)] 128) ∧ w.ownsRow b 122 7 v L.length (tvs L)
theorem Rd.lt {w : World} {R b : Nat} {v : Value} {L : List Tok} {k ru ne : Nat} (h : Rd w R b v L k ru ne) : R < w.heap.size := by
  rcases Nat.lt_or_ge R w.heap.size with h1 | h1
  · exact h1
  · have := h.1; rw [Array.getElem?_eq_none h1] at this; cases this
theorem Rd.below {w w' : World} {R b : Nat} {v : Value} {L : List Tok} {k ru ne : Nat} (h : Rd w R b v L k ru ne) (hb : Below w.heap.size w w') : Rd w' R b v L k ru ne :=
  ⟨(hb.block R h.lt).trans h.1, own_keep h.2 hb⟩
theorem Rd.cells {w : World} {R b : Nat} {v : Value} {L : List Tok} {k ru ne : Nat} (h : Rd w R b v L k ru ne) :
    w.cell? ⟨R, 0, none⟩ = some v ∧ w.cell? ⟨R, 1, none⟩ = some (.int .i64 (k : Int)) ∧ w.cell? ⟨R, 2, none⟩ = some (.int .i64 (ru : Int)) ∧ w.cell? ⟨R, 3, none⟩ = some (.int .i64 (ne : Int)) ∧
    w.frozen? ⟨R, 0, none⟩ = false ∧ w.frozen? ⟨R, 1, none⟩ = false ∧ w.frozen? ⟨R, 2, none⟩ = false ∧ w.frozen? ⟨R, 3, none⟩ = false := by
  have h1 := h.1
  refine ⟨?_, ?_, ?_, ?_, ?_, ?_, ?_, ?_⟩ <;> simp [World.cell?, World.frozen?, h1]
theorem Rd.apart {w : World} {R b : Nat} {v : Value} {L : List Tok} {k ru ne : Nat} (h : Rd w R b v L k ru ne) : v.ownBlock ≠ some R := by
  obtain ⟨h1, _, ⟨h2, _⟩ | ⟨g, cap, cur, rfl, _, hh, _⟩⟩ := h
  · rw [h2]; simp [Value.ownBlock]
  · intro e
    simp [Value.ownBlock] at e
    subst e
    rw [h1] at hh
    simp at hh
/-- The reader goes on. -/
theorem Rd.next {w : World} {R b : Nat} {v : Value} {L : List Tok} {k ru ne : Nat} (h : Rd w R b v L k ru ne) (k' : Nat) : Rd (w.setCell ⟨R, 1, none⟩ (.int .i64 (k' : Int))) R b v L k' ru ne := by
  refine ⟨?_, h.2.kept (row := some R) ⟨rfl, rfl, rfl, by simp, fun i hi hne => Below.heap_setCell _ _ _ _ (fun e => hne (by rw [e]))⟩ (.inr h.apart)⟩
  simp only [World.setCell, Array.getElem?_modify, if_true]
  rw [h.1]
  simp
theorem Rd.rules {w : World} {R b : Nat} {v : Value} {L : List Tok} {k ru ne : Nat} (h : Rd w R b v L k ru ne) (ru' : Nat) : Rd (w.setCell ⟨R, 2, none⟩ (.int .i64 (ru' : Int))) R b v L k ru' ne := by
  refine ⟨?_, h.2.kept (row := some R) ⟨rfl, rfl, rfl, by simp, fun i hi hne => Below.heap_setCell _ _ _ _ (fun e => hne (by rw [e]))⟩ (.inr h.apart)⟩
  simp only [World.setCell, Array.getElem?_modify, if_true]
  rw [h.1]
  simp
theorem Rd.nest {w : World} {R b : Nat} {v : Value} {L : List Tok} {k ru ne : Nat} (h : Rd w R b v L k ru ne) (ne' : Nat) : Rd (w.setCell ⟨R, 3, none⟩ (.int .i64 (ne' : Int))) R b v L k ru ne' := by
  refine ⟨?_, h.2.kept (row := some R) ⟨rfl, rfl, rfl, by simp, fun i hi hne => Below.heap_setCell _ _ _ _ (fun e => hne (by rw [e]))⟩ (.inr h.apart)⟩
  simp only [World.setCell, Array.getElem?_modify, if_true]
  rw [h.1]
  simp
theorem Tryz.fld0 (a b c d e f g : Value) (w : World) : (Instr.field 122 (.agg #[a, b, c, d, e, f, g]) 0).run Tryz.prog w = .ok a w := by kernel_rfl
theorem Tryz.fld1 (a b c d e f g : Value) (w : World) : (Instr.field 122 (.agg #[a, b, c, d, e, f, g]) 1).run Tryz.prog w = .ok b w := by kernel_rfl
theorem Tryz.fld3 (a b c d e f g : Value) (w : World) : (Instr.field 122 (.agg #[a, b, c, d, e, f, g]) 3).run Tryz.prog w = .ok g w := by kernel_rfl
set_option maxRecDepth 100000 in
set_option maxHeartbeats 4000000 in
theorem ytoken_any (R b : Nat) (v : Value) (L : List Tok) (k ru ne : Nat) (w : World) (h : Rd w R b v L k ru ne) (hk : k < L.length) (hl : L.length ≤ 10000) :
    Calls Tryz.prog 92 #[.pointer (some ⟨R, 0, none⟩)] w fun e w' => e = .returned (tkv L[k]) ∧ Below w.heap.size w w' := by
  obtain ⟨g, cap, rfl⟩ := own_shape h.2 (by omega)
  have hcap := own_cap h.2
  have z := own_tok h.2 k hk rfl
  obtain ⟨t, ht⟩ : ∃ t, t = L[k] := ⟨_, rfl⟩
  rw [← ht] at z ⊢
  obtain ⟨n, hn⟩ : ∃ n, n = L.length := ⟨_, rfl⟩
  rw [← hn] at h hk hl
  have hg : g < w.heap.size := (h.2.lt g rfl).2
  obtain ⟨r0, r1, r2, r3, q0, q1, q2, q3⟩ := h.cells
  have hR := h.lt
  clear h ht
  obtain ⟨kd, T, C, p⟩ := t
  obtain ⟨p0, p1, p2, p3, p4, p5, p6⟩ := z
  have hkI : (k : Int) < (n : Int) := by omega
  clear hn
  go_enter Tryz.func92, Tryz.ntmps92
  go_wp2
  go_region
  go_wp2
  (try simp only [Exit.inBlock, Exit.then])
  refine bodyPost_ret (v := tkv (kd, T, C, p)) (by simp [results, Tryz.results92, go_sem]) rfl ?_
  exact ⟨rfl, by first | exact ((Below.refl _ _).alloc (Nat.le_refl _) _).drew | exact (Below.refl _ _).drew.alloc (Nat.le_refl _) _ | exact ((Below.refl _ _).alloc (Nat.le_refl _) _)⟩
/-- What sign tells of a token. -/
def sgT (t : Tok) : ByteArray := if t.1 = 5 then t.2.1 else { data := #[] }
set_option maxRecDepth 100000 in
set_option maxHeartbeats 4000000 in
theorem ysign_any (R b : Nat) (v : Value) (L : List Tok) (k ru ne : Nat) (w : World) (h : Rd w R b v L k ru ne) (hk : k < L.length) (hl : L.length ≤ 10000) :
    Calls Tryz.prog 153 #[.pointer (some ⟨R, 0, none⟩)] w fun e w' => e = .returned (.string (sgT L[k])) ∧ Below w.heap.size w w' := by
  have fd0 := Tryz.fld0
  have fd1 := Tryz.fld1
  have fd3 := Tryz.fld3
  have HT : Hid (∀ w : World, Rd w R b v L k ru ne → Calls Tryz.prog 92 #[.pointer (some ⟨R, 0, none⟩)] w fun e w' => e = .returned (tkv L[k]) ∧ Below w.heap.size w w') := fun w h => ytoken_any R b v L k ru ne w h hk hl
  have HR : Hid (Rd w R b v L k ru ne) := h
  obtain ⟨t, ht⟩ : ∃ t, t = L[k] := ⟨_, rfl⟩
  rw [← ht] at HT ⊢
  clear ht h
  obtain ⟨kd, T, C, p⟩ := t
  unfold sgT
  simp only
  by_cases h5 : kd = 5
  · have t5 : ((kd : Int) != 5) = false := by simp; omega
    rw [if_pos h5]
    clear h5
    go_enter Tryz.func153, Tryz.ntmps153
    go_wp2_with fail
    refine (HT.out w HR.out).mono ?_
    rintro e w1 ⟨rfl, hb1⟩
    have HB1 : Hid (Below w.heap.size w w1) := hb1
    have HR1 : Hid (Rd w1 R b v L k ru ne) := HR.out.below hb1
    clear hb1
    dsimp only [tkv]
    go_wp2_with fail
    refine (HT.out w1 HR1.out).mono ?_
    rintro e w2 ⟨rfl, hb2⟩
    have HB2 : Hid (Below w.heap.size w w2) := HB1.out.trans (hb2.mono HB1.out.size)
    clear hb2
    dsimp only [tkv]
    go_wp2_with fail
    go_ret
    exact ⟨rfl, HB2.out⟩
  · have t5 : ((kd : Int) != 5) = true := by rw [bne_iff_ne]; omega
    rw [if_neg h5]
    clear h5
    go_enter Tryz.func153, Tryz.ntmps153
    go_wp2_with fail
    refine (HT.out w HR.out).mono ?_
    rintro e w1 ⟨rfl, hb1⟩
    have HB1 : Hid (Below w.heap.size w w1) := hb1
    clear hb1
    dsimp only [tkv]
    go_wp2_with fail
    go_ret
    exact ⟨rfl, HB1.out⟩
set_option maxRecDepth 100000 in
set_option maxHeartbeats 4000000 in
theorem yfault_any (R b : Nat) (v : Value) (L : List Tok) (k ru ne c : Nat) (w : World) (h : Rd w R b v L k ru ne) (hk : k < L.length) (hl : L.length ≤ 10000) :
    Calls Tryz.prog 122 #[.pointer (some ⟨R, 0, none⟩), .int .i64 (c : Int)] w fun e w' => ∃ f, e = .returned (.pointer (some ⟨f, 0, none⟩)) ∧ Hid (w.heap.size ≤ f ∧ Flt w' f (c, (L[k]).2.2.2) ∧ Below w.heap.size w w') := by
  have fd0 := Tryz.fld0
  have fd1 := Tryz.fld1
  have fd3 := Tryz.fld3
  have HT := hid (ytoken_any R b v L k ru ne w h hk hl)
  obtain ⟨t, ht⟩ : ∃ t, t = L[k] := ⟨_, rfl⟩
  rw [← ht] at HT ⊢
  clear ht h
  obtain ⟨kd, T, C, p⟩ := t
  go_enter Tryz.func122, Tryz.ntmps122
  go_wp2_with fail
  refine HT.out.mono ?_
  rintro e w1 ⟨rfl, hb1⟩
  have HB1 : Hid (Below w.heap.size w w1) := hb1
  clear hb1
  dsimp only [tkv]
  go_wp2_with fail
  go_ret
  exact ⟨w1.heap.size, rfl, HB1.out.size, Flt.new w1 (c, p), HB1.out.alloc HB1.out.size _⟩
/-- What is wrong where a token cannot stand. -/
def wrC (t : Tok) : Nat := if t.1 = 6 then 3 else 4
set_option maxRecDepth 100000 in
set_option maxHeartbeats 4000000 in
theorem ywrong_any (R b : Nat) (v : Value) (L : List Tok) (k ru ne : Nat) (w : World) (h : Rd w R b v L k ru ne) (hk : k < L.length) (hl : L.length ≤ 10000) :
    Calls Tryz.prog 121 #[.pointer (some ⟨R, 0, none⟩)] w fun e w' => ∃ f, e = .returned (.pointer (some ⟨f, 0, none⟩)) ∧ Hid (w.heap.size ≤ f ∧ Flt w' f (wrC L[k], (L[k]).2.2.2) ∧ Below w.heap.size w w') := by
  have fd0 := Tryz.fld0
  have fd1 := Tryz.fld1
  have fd3 := Tryz.fld3
  have HT := hid (ytoken_any R b v L k ru ne w h hk hl)
  have HF : Hid (∀ (c : Nat) (w : World), Rd w R b v L k ru ne → Calls Tryz.prog 122 #[.pointer (some ⟨R, 0, none⟩), .int .i64 (c : Int)] w fun e w' => ∃ f, e = .returned (.pointer (some ⟨f, 0, none⟩)) ∧ Hid (w.heap.size ≤ f ∧ Flt w' f (c, (L[k]).2.2.2) ∧ Below w.heap.size w w')) := fun c w h => yfault_any R b v L k ru ne c w h hk hl
  have HR : Hid (Rd w R b v L k ru ne) := h
  obtain ⟨t, ht⟩ : ∃ t, t = L[k] := ⟨_, rfl⟩
  rw [← ht] at HT HF ⊢
  clear ht h
  obtain ⟨kd, T, C, p⟩ := t
  unfold wrC
  simp only at HF ⊢
  by_cases h6 : kd = 6
  · have t6 : ((kd : Int) == 6) = true := by simp; omega
    rw [if_pos h6]
    clear h6
    go_enter Tryz.func121, Tryz.ntmps121
    go_wp2_with fail
    refine HT.out.mono ?_
    rintro e w1 ⟨rfl, hb1⟩
    have HB1 : Hid (Below w.heap.size w w1) := hb1
    have HR1 : Hid (Rd w1 R b v L k ru ne) := HR.out.below hb1
    clear hb1
    dsimp only [tkv]
    go_wp2_with fail
    refine (HF.out 3 w1 HR1.out).mono ?_
    rintro e w2 ⟨f, rfl, HP⟩
    have HP2 : Hid (w.heap.size ≤ f ∧ Flt w2 f (3, p) ∧ Below w.heap.size w w2) := ⟨Nat.le_trans HB1.out.size HP.out.1, HP.out.2.1, HB1.out.trans (HP.out.2.2.mono HB1.out.size)⟩
    clear HP
    go_wp2_with fail
    go_ret
    exact ⟨f, rfl, HP2⟩
  · have t6 : ((kd : Int) == 6) = false := by simp; omega
    rw [if_neg h6]
    clear h6
    go_enter Tryz.func121, Tryz.ntmps121
    go_wp2_with fail
    refine HT.out.mono ?_
    rintro e w1 ⟨rfl, hb1⟩
    have HB1 : Hid (Below w.heap.size w w1) := hb1
    have HR1 : Hid (Rd w1 R b v L k ru ne) := HR.out.below hb1
    clear hb1
    dsimp only [tkv]
    go_wp2_with fail
    refine (HF.out 4 w1 HR1.out).mono ?_
    rintro e w2 ⟨f, rfl, HP⟩
    have HP2 : Hid (w.heap.size ≤ f ∧ Flt w2 f (4, p) ∧ Below w.heap.size w w2) := ⟨Nat.le_trans HB1.out.size HP.out.1, HP.out.2.1, HB1.out.trans (HP.out.2.2.mono HB1.out.size)⟩
    clear HP
    go_wp2_with fail
    go_ret
    exact ⟨f, rfl, HP2⟩
end Go.Proofs.YtggmoneicdkamaaGreatDoor
namespace Go.Proofs.YtggmoneicdkamaaGreatDoor
open Go.RowKit
set_option linter.unusedVariables false
/-- A tree: kind, text, class, parts, place. -/
inductive Nd where
  | mk (kd : Nat) (T : ByteArray) (C : Nat) (subs : List Nd) (p : Nat)
/-- The eight cells of a node. -/
@[reducible] def n8 (kd : Nat) (T : ByteArray) (C : Nat) (sv : Value) (p : Nat) : List Value :=
  [.int .i64 (kd : Int), .string T, .int .u64 (wd C 0 : Nat), .int .u64 (wd C 1 : Nat), .int .u64 (wd C 2 : Nat), .int .u64 (wd C 3 : Nat), sv, .int .i64 (p : Int)]
mutual
/-- These eight cells are that tree; each of its blocks is one of which P holds. -/
def NdIs (w : World) (P : Nat → Prop) : Nd → List Value → Prop
  | .mk kd T C subs p, cs => ∃ sv, cs = n8 kd T C sv p ∧ ((subs.isEmpty = true ∧ sv = .slice none 0 0) ∨
      (subs.isEmpty = false ∧ ∃ g cap cur, sv = .slice (some ⟨g, 0, none⟩) (ndLen subs) cap ∧ P g ∧ w.heap[g]? = some (.cells cur 58) ∧ cap ≤ maxLen ∧ NdsIs w P subs cur.toList))
/-- These cells begin with those trees. -/
def NdsIs (w : World) (P : Nat → Prop) : List Nd → List Value → Prop
  | [], _ => True
  | n :: r, vs => ∃ c rest, vs = c ++ rest ∧ NdIs w P n c ∧ NdsIs w P r rest
def ndLen : List Nd → Nat
  | [] => 0
  | _ :: r => ndLen r + 1
end
theorem ndLen_eq : ∀ l : List Nd, ndLen l = l.length
  | [] => rfl
  | _ :: r => by rw [ndLen, ndLen_eq r]; rfl
theorem NdIs.len {w : World} {P : Nat → Prop} {n : Nd} {c : List Value} (h : NdIs w P n c) : c.length = 8 := by
  cases n with
  | mk kd T C subs p =>
    rw [NdIs] at h
    obtain ⟨sv, rfl, _⟩ := h
    rfl
mutual
theorem NdIs.kept {w w' : World} {P Q : Nat → Prop} (hk : ∀ g cur, P g → w.heap[g]? = some (.cells cur 58) → w'.heap[g]? = w.heap[g]? ∧ Q g) : ∀ (n : Nd) (c : List Value), NdIs w P n c → NdIs w' Q n c
  | .mk kd T C subs p, cs, h => by
    rw [NdIs] at h ⊢
    obtain ⟨sv, h1, h2⟩ := h
    refine ⟨sv, h1, ?_⟩
    rcases h2 with h2 | ⟨h3, g, cap, cur, h4, h5, h6, h7, h8⟩
    · exact .inl h2
    · have := hk g cur h5 h6
      exact .inr ⟨h3, g, cap, cur, h4, this.2, this.1.trans h6, h7, NdsIs.kept hk subs cur.toList h8⟩
theorem NdsIs.kept {w w' : World} {P Q : Nat → Prop} (hk : ∀ g cur, P g → w.heap[g]? = some (.cells cur 58) → w'.heap[g]? = w.heap[g]? ∧ Q g) : ∀ (l : List Nd) (vs : List Value), NdsIs w P l vs → NdsIs w' Q l vs
  | [], vs, h => by rw [NdsIs]; trivial
  | n :: r, vs, h => by
    rw [NdsIs] at h ⊢
    obtain ⟨c, rest, h1, h2, h3⟩ := h
    exact ⟨c, rest, h1, NdIs.kept hk n c h2, NdsIs.kept hk r rest h3⟩
end
theorem NdsIs.append {w : World} {P : Nat → Prop} : ∀ (l : List Nd) (vs : List Value) (n : Nd) (c : List Value), NdsIs w P l vs → vs.length = l.length * 8 → NdIs w P n c → NdsIs w P (l ++ [n]) (vs ++ c)
  | [], vs, n, c, _, hl, hn => by
    have : vs = [] := List.eq_nil_of_length_eq_zero (by simpa using hl)
    subst this
    rw [List.nil_append, NdsIs]
    exact ⟨c, [], by simp, hn, by rw [NdsIs]; trivial⟩
  | m :: r, vs, n, c, h, hl, hn => by
    rw [NdsIs] at h
    obtain ⟨d, rest, rfl, h2, h3⟩ := h
    have hd := h2.len
    rw [List.cons_append, NdsIs]
    refine ⟨d, rest ++ c, by rw [List.append_assoc], h2, NdsIs.append r rest n c h3 ?_ hn⟩
    simp at hl
    omega
theorem NdsIs.more {w : World} {P : Nat → Prop} : ∀ (l : List Nd) (vs us : List Value), NdsIs w P l vs → NdsIs w P l (vs ++ us)
  | [], vs, us, _ => by rw [NdsIs]; trivial
  | m :: r, vs, us, h => by
    rw [NdsIs] at h ⊢
    obtain ⟨d, rest, rfl, h2, h3⟩ := h
    exact ⟨d, rest ++ us, by rw [List.append_assoc], h2, NdsIs.more r rest us h3⟩
/-- What is made in a call leaves the trees ahead. -/
theorem NdIs.below {w w' : World} {P : Nat → Prop} {n : Nd} {c : List Value} (h : NdIs w P n c) (hb : Below w.heap.size w w') : NdIs w' P n c :=
  NdIs.kept (fun g cur hp hg => ⟨hb.block g (by
    rcases Nat.lt_or_ge g w.heap.size with h1 | h1
    · exact h1
    · rw [Array.getElem?_eq_none h1] at hg; cases hg), hp⟩) n c h
/-- A call that writes the reader R alone leaves them. -/
theorem NdIs.grown {w w' : World} {P : Nat → Prop} {R : Nat} {cur0 : Array Value} {n : Nd} {c : List Value} (h : NdIs w P n c) (hg : w.grownBy w' (some R)) (hR : w.heap[R]? = some (.cells cur0 128)) : NdIs w' P n c :=
  NdIs.kept (fun g cur hp hq => ⟨hg.block g (by
    rcases Nat.lt_or_ge g w.heap.size with h1 | h1
    · exact h1
    · rw [Array.getElem?_eq_none h1] at hq; cases hq) (fun e => by
      have e2 : g = R := Option.some.inj e
      rw [e2, hR] at hq
      simp at hq), hp⟩) n c h
end Go.Proofs.YtggmoneicdkamaaGreatDoor
