/-
  What syntax.read and syntax.Parse answer. Conditions: those that each theorem names.
-/
import Derived.Test.YtkofhmmnlapnnaaGreatDoorY14
import Derived.Defers
import Derived.Recover
namespace Go.Proofs.YtkofhmmnlapnnaaGreatDoor
open Go.RowKit
set_option linter.unusedVariables false
theorem Tryz.asFlt (v : Value) (xT : TypeId) (w : World) : (Instr.typeAssert (.iface 64 v) xT 64 true).run Tryz.prog w = .ok (.tuple #[v, .bool true]) w := by kernel_rfl
set_option maxRecDepth 100000 in
theorem yrec_idle (p q : Nat) (w : World) :
    CallsD Tryz.prog 23 #[.pointer (some ⟨p, 0, none⟩), .pointer (some ⟨q, 0, none⟩)] .returning w fun e u' w' => e = .returned (.tuple #[]) ∧ u' = .returning ∧ w' = w := by
  refine callsD_of_wpS Tryz.func23 rfl fun c₀ cs hu => ?_
  apply wpS_seq
  apply wpS_region
  simp [wpOpsS, go_sem, recoverD, hu, Tryz.ntmps23, Exit.thenS]
  refine wpS_of_wp ?_
  go_wp2
  cases c₀
  simp_all [bodyPostS, results, Tryz.results23]
set_option maxRecDepth 100000 in
set_option maxHeartbeats 4000000 in
theorem yrec_fault (p q f : Nat) (older : List PanicEntry) (w : World) (hne : p ≠ q) (hp : w.cell? ⟨p, 0, none⟩ = some (.slice none 0 0)) (hq : w.cell? ⟨q, 0, none⟩ = some .nilIface) (hp2 : w.frozen? ⟨p, 0, none⟩ = false) (hq2 : w.frozen? ⟨q, 0, none⟩ = false) :
    CallsD Tryz.prog 23 #[.pointer (some ⟨p, 0, none⟩), .pointer (some ⟨q, 0, none⟩)] (.panicking ({ v := .iface 64 (.pointer (some ⟨f, 0, none⟩)), recovered := false } :: older)) w fun e u' w' =>
      e = .returned (.tuple #[]) ∧ u' = .panicking ({ v := .iface 64 (.pointer (some ⟨f, 0, none⟩)), recovered := true } :: older) ∧ w' = (w.setCell ⟨p, 0, none⟩ (.slice none 0 0)).setCell ⟨q, 0, none⟩ (.iface 64 (.pointer (some ⟨f, 0, none⟩))) := by
  refine callsD_of_wpS Tryz.func23 rfl fun c₀ cs hu => ?_
  apply wpS_seq
  apply wpS_region
  simp [wpOpsS, go_sem, recoverD, hu, Tryz.ntmps23, Exit.thenS]
  have hta := Tryz.asFlt
  refine wpS_of_wp ?_
  rw [show (#[Value.pointer (some ⟨p, 0, none⟩), Value.pointer (some ⟨q, 0, none⟩)] ++ (Array.replicate 12 undef).setIfInBounds 3 (Value.iface 64 (Value.pointer (some ⟨f, 0, none⟩)))) = #[Value.pointer (some ⟨p, 0, none⟩), Value.pointer (some ⟨q, 0, none⟩), undef, undef, undef, Value.iface 64 (Value.pointer (some ⟨f, 0, none⟩)), undef, undef, undef, undef, undef, undef, undef, undef] from rfl]
  clear hu
  go_wp2_with fail
  simp [bodyPostS, results, Tryz.results23]
/-- What read and Parse hand back. -/
def AnsD (r : (Nat × Nat) ⊕ List Rl) (w : World) (e : Ending) (w' : World) : Prop :=
  match r with
  | .inr rs => ∃ g cap, e = .returned (.tuple #[.agg #[.slice (some ⟨g, 0, none⟩) rs.length cap], .nilIface]) ∧ Hid (RoR w.heap.size (.slice (some ⟨g, 0, none⟩) rs.length cap) rs w') ∧ Hid (Below w.heap.size w w')
  | .inl c => ∃ f, e = .returned (.tuple #[.agg #[.slice none 0 0], flv f]) ∧ Hid (w.heap.size ≤ f ∧ Flt w' f c ∧ Below w.heap.size w w')
theorem RoR.low {B B' : Nat} {pv : Value} {acc : List Rl} {W : World} (h : RoR B pv acc W) (hB : B' ≤ B) : RoR B' pv acc W := by
  obtain ⟨xs, ⟨a, h1⟩, h2⟩ := h
  refine ⟨xs, ⟨a, ?_⟩, RsIs.kept (fun g cur hp hq => ⟨rfl, show B' ≤ g by have hp' : B ≤ g := hp; omega⟩) _ _ h2⟩
  rcases h1 with h1 | ⟨g', cap', cur, hq, hb, rest⟩
  · exact .inl h1
  · exact .inr ⟨g', cap', cur, hq, by omega, rest⟩
theorem Below.setNew {w W : World} {g j : Nat} {u : Value} (h : Below w.heap.size w W) (hg : w.heap.size ≤ g) : Below w.heap.size w (W.setCell ⟨g, j, none⟩ u) :=
  h.grown (G.setR (G.refl W g)) h.size (fun k e => by have := Option.some.inj e; omega)
/-- The result's variables are laid, and the reader. -/
@[reducible] def w3R (w : World) (v : Value) : World := ((w.alloc Zg).alloc (.cells #[.nilIface] 38)).alloc (.cells #[v, .int .i64 0, .int .i64 0, .int .i64 0] 72)
theorem blk_p (w : World) (v : Value) : (w3R w v).heap[w.heap.size]? = some Zg :=
  (Below.heap_alloc _ _ _ (by simp; omega)).trans ((Below.heap_alloc _ _ _ (by simp)).trans (new_block_at w _ rfl))
theorem blk_q (w : World) (v : Value) : (w3R w v).heap[w.heap.size + 1]? = some (.cells #[.nilIface] 38) :=
  (Below.heap_alloc _ _ _ (by simp)).trans (new_block_at _ _ (by simp))
theorem one_cell {w : World} {g : Nat} {a : Value} {t : TypeId} (h : w.heap[g]? = some (.cells #[a] t)) : w.cell? ⟨g, 0, none⟩ = some a ∧ w.frozen? ⟨g, 0, none⟩ = false := by
  constructor <;> simp [World.cell?, World.frozen?, h]
theorem two_set {w : World} {p : Nat} {a b : Value} {s t : TypeId} (hp : w.heap[p]? = some (.cells #[a] s)) (hq : w.heap[p + 1]? = some (.cells #[b] t)) (x y : Value) :
    ((w.setCell ⟨p, 0, none⟩ x).setCell ⟨p + 1, 0, none⟩ y).cell? ⟨p, 0, none⟩ = some x ∧ ((w.setCell ⟨p, 0, none⟩ x).setCell ⟨p + 1, 0, none⟩ y).cell? ⟨p + 1, 0, none⟩ = some y := by
  constructor
  · simp [World.cell?, World.setCell, Array.getElem?_modify, hp]
  · simp [World.cell?, World.setCell, Array.getElem?_modify, hq]
set_option maxRecDepth 100000 in
set_option maxHeartbeats 8000000 in
theorem yread_any (b : Nat) (v : Value) (L : List Tok) (w : World) (ho : w.ownsRow b 32 7 v L.length (tvs L)) (hg : Good L) (hl0 : 0 < L.length) :
    Calls Tryz.prog 13 #[v] w fun e w' => AnsD (graS L) w e w' := by
  have hmf : ∀ (fn : Fn) (first cap : Array Value) (w : World), (Instr.makeFunc fn first cap).run Tryz.prog w = .ok (.func fn first cap) w := fun _ _ _ _ => rfl
  obtain ⟨g, cap, rfl⟩ := own_shape ho (by omega)
  have hR : Rd (w3R w (.slice (some ⟨g, 0, none⟩) L.length cap)) (w.heap.size + 2) b (.slice (some ⟨g, 0, none⟩) L.length cap) L 0 0 0 := ⟨new_block_at _ _ (by simp), ((ho.alloc _).alloc _).alloc _⟩
  have HC := hid (ygrammar_any (w.heap.size + 2) b (w.heap.size + 3) _ L _ hg hR hl0 (by simp))
  have HB : Hid (Below w.heap.size w (w3R w (.slice (some ⟨g, 0, none⟩) L.length cap))) := (((Below.refl _ _).alloc (Nat.le_refl _) _).alloc (by simp) _).alloc (by simp <;> omega) _
  obtain ⟨n, hn⟩ : ∃ n, n = L.length := ⟨_, rfl⟩
  rw [← hn] at HC HB ⊢
  clear hn hR ho
  cases hs : graS L with
  | inl c =>
    rw [hs] at HC
    clear hs
    go_enter_defers Tryz.func13, Tryz.ntmps13
    go_wp2_with fail
    refine HC.out.mono ?_
    rintro e w4 ⟨f, rfl, HF, HG⟩
    have HP : Hid (w4.heap[w.heap.size]? = some Zg) := (HG.out.block _ (by simp; omega) (fun e => by have := Option.some.inj e; omega)).trans (blk_p w _)
    have HQ : Hid (w4.heap[w.heap.size + 1]? = some (.cells #[.nilIface] 38)) := (HG.out.block _ (by simp) (fun e => by have := Option.some.inj e; omega)).trans (blk_q w _)
    have HB4 : Hid (Below w.heap.size w w4) := HB.out.grown HG.out HB.out.size (fun k e => by have := Option.some.inj e; omega)
    have hf : w.heap.size + 3 ≤ f := by have := HF.out.1; simp at this; omega
    have HA : Hid (AnsD (.inl c) w (.returned (.tuple #[.agg #[.slice none 0 0], .iface 64 (.pointer (some ⟨f, 0, none⟩))])) ((w4.setCell ⟨w.heap.size, 0, none⟩ (.slice none 0 0)).setCell ⟨w.heap.size + 1, 0, none⟩ (.iface 64 (.pointer (some ⟨f, 0, none⟩))))) :=
      ⟨f, rfl, hid ⟨by omega, (Below.heap_setCell _ _ _ _ (show f ≠ w.heap.size + 1 by omega)).trans ((Below.heap_setCell _ _ _ _ (show f ≠ w.heap.size by omega)).trans HF.out.2), Below.setNew (Below.setNew HB4.out (Nat.le_refl _)) (by omega)⟩⟩
    clear HC HF HG HB HB4
    go_wp2_with fail
    refine leaves_cons (f := 23) (args := #[.pointer (some ⟨w.heap.size, 0, none⟩), .pointer (some ⟨w.heap.size + 1, 0, none⟩)]) (by simp) (by simp [go_sem]) ?_
    refine (yrec_fault w.heap.size (w.heap.size + 1) f [] w4 (by omega) (one_cell HP.out).1 (one_cell HQ.out).1 (one_cell HP.out).2 (one_cell HQ.out).2).mono ?_
    rintro e u' w'' ⟨rfl, rfl, rfl⟩
    obtain ⟨c0, c1⟩ := two_set HP.out HQ.out (.slice none 0 0) (.iface 64 (.pointer (some ⟨f, 0, none⟩)))
    simp [Leaves, settle, results, Tryz.results13, go_sem, c0, c1]
    exact HA.out
  | inr rs =>
    rw [hs] at HC
    clear hs
    obtain ⟨m, hm⟩ : ∃ m, m = rs.length := ⟨_, rfl⟩
    have HM : Hid (m = rs.length) := hm
    clear hm
    go_enter_defers Tryz.func13, Tryz.ntmps13
    go_wp2_with fail
    refine HC.out.mono ?_
    rintro e w4 ⟨g4, cap4, rfl, HRo, HG⟩
    rw [← HM.out] at HRo ⊢
    have HP : Hid (w4.heap[w.heap.size]? = some Zg) := (HG.out.block _ (by simp; omega) (fun e => by have := Option.some.inj e; omega)).trans (blk_p w _)
    have HQ : Hid (w4.heap[w.heap.size + 1]? = some (.cells #[.nilIface] 38)) := (HG.out.block _ (by simp) (fun e => by have := Option.some.inj e; omega)).trans (blk_q w _)
    have HB4 : Hid (Below w.heap.size w w4) := HB.out.grown HG.out HB.out.size (fun k e => by have := Option.some.inj e; omega)
    have hs4 : w.heap.size + 1 < w4.heap.size := node_lt HQ.out
    have HA : Hid (AnsD (.inr rs) w (.returned (.tuple #[.agg #[.slice (some ⟨g4, 0, none⟩) m cap4], .nilIface])) ((w4.setCell ⟨w.heap.size, 0, none⟩ (.slice (some ⟨g4, 0, none⟩) m cap4)).setCell ⟨w.heap.size + 1, 0, none⟩ .nilIface)) := by
      have hr := (HRo.out.grown (G.setR (u := .slice (some ⟨g4, 0, none⟩) m cap4) (j := 0) (G.refl w4 w.heap.size)) (by omega)).grown (G.setR (u := .nilIface) (j := 0) (G.refl _ (w.heap.size + 1))) (by omega)
      have hm := HM.out
      subst hm
      exact ⟨g4, cap4, rfl, hid (hr.low (by omega)), hid (Below.setNew (Below.setNew HB4.out (Nat.le_refl _)) (by omega))⟩
    obtain ⟨e0, y0⟩ := one_cell HP.out
    obtain ⟨e1, y1⟩ := one_cell HQ.out
    clear HC HRo HG HB HB4
    go_wp2_with fail
    refine leaves_cons (f := 23) (args := #[.pointer (some ⟨w.heap.size, 0, none⟩), .pointer (some ⟨w.heap.size + 1, 0, none⟩)]) (by simp) (by simp [go_sem]) ?_
    refine (yrec_idle w.heap.size (w.heap.size + 1) _).mono ?_
    rintro e u' w'' ⟨rfl, rfl, rfl⟩
    obtain ⟨c0, c1⟩ := two_set HP.out HQ.out (.slice (some ⟨g4, 0, none⟩) m cap4) .nilIface
    simp [Leaves, settle, results, Tryz.results13, go_sem, c0, c1]
    exact HA.out
end Go.Proofs.YtkofhmmnlapnnaaGreatDoor
