/-
  What 'same' of the statements' own package answers at two rows that hold the same pairs: true. Conditions: those that each theorem names.
-/
import Derived.Test.YtcdkgcacmlolnaaDoorKQ3
namespace Go.Proofs.YtcdkgcacmlolnaaDoor
open Go.RowKit
set_option linter.unusedVariables false
theorem Tryd.cellsOfI : Tryd.prog.cellsOf 3 = 1 := by kernel_rfl
theorem Tryd.infoI : (Tryd.prog.info? 3).map (fun i => (i.zero, i.size, i.bytes)) = some (some (.int .i64 0), 1, 8) := by kernel_rfl
theorem eq_pair (a b : Int) (w : World) : (Op.equalIn 10000 44 (.agg #[.int .i64 a, .int .i64 b]) (.agg #[.int .i64 a, .int .i64 b])).run Tryd.prog w = .ok true w := by
  obtain ⟨i, hi⟩ : ∃ i, Tryd.prog.info? 3 = some i := by
    cases h : Tryd.prog.info? 3 with
    | none => have := Tryd.infoI; rw [h] at this; cases this
    | some i => exact ⟨i, rfl⟩
  have hu : Tryd.prog.underlying 44 = some (.array 2 3) := by kernel_rfl
  rw [run_equalIn_array w 9999 _ _ hu hi, Tryd.cellsOfI]
  have p : ∀ (x y : Value) (w : World), (part 3 #[x, y] 0).run Tryd.prog w = .ok x w := fun _ _ _ => by kernel_rfl
  have p1 : ∀ (x y : Value) (w : World), (part 3 #[x, y] 1).run Tryd.prog w = .ok y w := fun _ _ _ => by kernel_rfl
  have e : ∀ (x y : Int) (w : World), (Op.equalIn 9999 3 (.int .i64 x) (.int .i64 y)).run Tryd.prog w = .ok (x == y) w := fun x y w => run_equalIn_int w 9998 3 .i64 .i64 x y Tryd.underlying3
  rw [show List.range 2 = [0, 1] from rfl]
  simp only [Op.eqItems, Sem.run_bind, Nat.mul_one, p, e, Result.andThen_ok]
  simp [Result.andThen, p1, e]
theorem own_any_shape {w : World} {base e size n : Nat} {v : Value} {xs : List Value} (h : w.ownsRow base e size v n xs) : ∃ a c, v = .slice a n c := by
  obtain ⟨_, ⟨h1, h2⟩ | ⟨g, cap, cur, e, _⟩⟩ := h
  · exact ⟨none, 0, by rw [h1, h2]⟩
  · exact ⟨_, cap, e⟩
theorem pv_at2 (L : List (Nat × Nat)) (k : Nat) (hk : k < L.length) : ∃ x y : Nat, (pv L)[k * 2]? = some (.int .i64 (x : Int)) ∧ (pv L)[k * 2 + 1]? = some (.int .i64 (y : Int)) := by
  have h := pv_get (L.take k) L[k] (L.drop (k + 1))
  have hl : (L.take k).length = k := by simp; omega
  have he : L.take k ++ L[k] :: L.drop (k + 1) = L := by rw [List.getElem_cons_drop, List.take_append_drop]
  rw [he, hl] at h
  exact ⟨_, _, h⟩
set_option maxRecDepth 100000 in
set_option maxHeartbeats 4000000 in
theorem same_any (b1 b2 : Nat) (v1 v2 : Value) (L : List (Nat × Nat)) (w : World) (h1 : w.ownsRow b1 44 2 v1 L.length (pv L)) (h2 : w.ownsRow b2 44 2 v2 L.length (pv L)) (hL : L.length ≤ 256) :
    Calls Tryd.prog 22 #[v1, v2] w fun e w' => e = .returned (.bool true) ∧ Below w.heap.size w w' := by
  have H1 : Hid (w.ownsRow b1 44 2 v1 L.length (pv L)) := h1
  have H2 : Hid (w.ownsRow b2 44 2 v2 L.length (pv L)) := h2
  clear h1 h2
  by_cases hz : L.length = 0
  · obtain ⟨a1, c1, rfl⟩ := own_any_shape H1.out
    obtain ⟨a2, c2, rfl⟩ := own_any_shape H2.out
    rw [hz]
    clear H1 H2 hz
    go_enter Tryd.func22, Tryd.ntmps22
    go_wp2_with fail
    refine wp_loop_rounds 1 ?_
    rw [rounds_succ]
    go_wp2_with fail
    go_ret
    exact ⟨rfl, Below.refl _ _⟩
  · obtain ⟨g1, c1, rfl⟩ := own_shape H1.out (by omega)
    obtain ⟨g2, c2, rfl⟩ := own_shape H2.out (by omega)
    have hc1 : c1 ≤ 9223372036854775807 := (own_low H1.out).2.2.1
    have hc2 : c2 ≤ 9223372036854775807 := (own_low H2.out).2.2.1
    obtain ⟨n, hn⟩ : ∃ n, n = L.length := ⟨_, rfl⟩
    have HN : Hid (n = L.length) := hn
    rw [← hn] at hL ⊢
    clear hn
    go_enter Tryd.func22, Tryd.ntmps22
    go_wp2_with fail
    go_loopw [5] (fun i wr => ∃ k q : Nat, i = .int .i64 (k : Int) ∧ k ≤ n ∧ wr = w.drewN q) (fun i _ => n - (intOf i).toNat)
    case atStart => exact ⟨0, 0, rfl, by omega, rfl⟩
    case round =>
      obtain ⟨k, q, rfl, hk, rfl⟩ := hrel
      by_cases hkn : k < n
      · have hkI : (k : Int) < (n : Int) := by omega
        obtain ⟨x, y, hx, hy⟩ := pv_at2 L k (by rw [← HN.out]; exact hkn)
        have e1 := H1.out.cellAt (k * 2) (by have := HN.out; omega)
        have e2 := H1.out.cellAt (k * 2 + 1) (by have := HN.out; omega)
        have e3 := H2.out.cellAt (k * 2) (by have := HN.out; omega)
        have e4 := H2.out.cellAt (k * 2 + 1) (by have := HN.out; omega)
        rw [hx] at e1 e3
        rw [hy] at e2 e4
        have hq := eq_pair (x : Int) (y : Int)
        clear hx hy
        go_wp2_with fail
        go_quiet (fail)
        go_wp2_with fail
        go_roundw
        case rel => exact ⟨k + 1, _, by go_num, by omega, by first | rfl | (rw [World.drewN_drewN])⟩
        case measure => simp [intOf]; omega
      · have hkI : decide ((k : Int) < (n : Int)) = false := by simp; omega
        have hkn' : ¬ k < n := hkn
        go_wp2_with fail
        go_ret
        exact ⟨rfl, below_drewN (Below.refl _ _) q⟩
end Go.Proofs.YtcdkgcacmlolnaaDoor
