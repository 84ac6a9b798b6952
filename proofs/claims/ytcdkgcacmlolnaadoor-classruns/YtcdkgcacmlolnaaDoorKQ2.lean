/-
  What the document's own Runs answers: the rows, in memory of its own. Conditions: those that each theorem names.
-/
import Derived.Test.YtcdkgcacmlolnaaDoorKRef2
import Derived.Test.YtcdkgcacmlolnaaDoorKTxt
namespace Go.Proofs.YtcdkgcacmlolnaaDoor
open Go.RowKit
set_option linter.unusedVariables false
/-- A store into a row of one's own. -/
theorem own_set {w : World} {base e size n g cap : Nat} {xs : List Value} (h : w.ownsRow base e size (.slice (some ⟨g, 0, none⟩) n cap) n xs) (j : Nat) (hj : j < n * size) (u : Value) : (w.setCell ⟨g, j, none⟩ u).ownsRow base e size (.slice (some ⟨g, 0, none⟩) n cap) n (xs.set j u) := by
  obtain ⟨h1, h | ⟨g', cap', cur, e1, h2, h3, h4, h5, h6, h7⟩⟩ := h
  · exact absurd h.1 (by simp)
  · simp only [Value.slice.injEq, Option.some.injEq, Addr.mk.injEq] at e1
    obtain ⟨⟨rfl, _⟩, _, rfl⟩ := e1
    refine ⟨by simp [h1], .inr ⟨g, cap, cur.setIfInBounds j u, rfl, h2, ?_, h4, h5, by simp [h6], ?_⟩⟩
    · simp only [World.setCell, Array.getElem?_modify, if_true, h3]
      simp
    · rw [Array.toList_setIfInBounds, List.take_set, h7]
theorem own_cell_free {w : World} {base e size n g cap : Nat} {xs : List Value} (h : w.ownsRow base e size (.slice (some ⟨g, 0, none⟩) n cap) n xs) (j : Nat) : w.frozen? ⟨g, j, none⟩ = false := by
  obtain ⟨h1, h | ⟨g', cap', cur, e1, h2, h3, h4, h5, h6, h7⟩⟩ := h
  · exact absurd h.1 (by simp)
  · simp only [Value.slice.injEq, Option.some.injEq, Addr.mk.injEq] at e1
    obtain ⟨⟨rfl, _⟩, _, rfl⟩ := e1
    simp [World.frozen?, h3]
theorem own_low {w : World} {base e size n g cap : Nat} {xs : List Value} (h : w.ownsRow base e size (.slice (some ⟨g, 0, none⟩) n cap) n xs) : base ≤ g ∧ g < w.heap.size ∧ cap ≤ maxLen ∧ n ≤ cap := by
  obtain ⟨h1, h | ⟨g', cap', cur, e1, h2, h3, h4, h5, h6, h7⟩⟩ := h
  · exact absurd h.1 (by simp)
  · simp only [Value.slice.injEq, Option.some.injEq, Addr.mk.injEq] at e1
    obtain ⟨⟨rfl, _⟩, _, rfl⟩ := e1
    refine ⟨h2, ?_, h5, h4⟩
    rcases Nat.lt_or_ge g w.heap.size with h9 | h9
    · exact h9
    · rw [Array.getElem?_eq_none h9] at h3; cases h3
theorem own_mono {w : World} {b b' e size n : Nat} {v : Value} {xs : List Value} (h : w.ownsRow b e size v n xs) (hle : b' ≤ b) : w.ownsRow b' e size v n xs := by
  obtain ⟨h1, h | ⟨g, cap, cur, e1, h2, rest⟩⟩ := h
  · exact ⟨h1, .inl h⟩
  · exact ⟨h1, .inr ⟨g, cap, cur, e1, by omega, rest⟩⟩
theorem pv_set (a : List (Nat × Nat)) (p : Nat × Nat) (x : Nat) : (pv (a ++ [p])).set (a.length * 2 + 1) (.int .i64 (x : Int)) = pv (a ++ [(p.1, x)]) := by
  rw [pv_append, pv_append]
  have := pv_length a
  rw [List.set_append_right _ _ (by omega), this, show a.length * 2 + 1 - a.length * 2 = 1 by omega]
  rfl
/-- What stays while the bytes are gone through. -/
def Rr (w : World) (v : Value) (L : List (Nat × Nat)) (C : Nat) (w' : World) : Prop :=
  Hid (Below w.heap.size w w') ∧ Hid (w'.ownsRow (w.heap.size + 1) 44 2 v L.length (pv L)) ∧ Hid (Blk w' w.heap.size C)
theorem Rr.keep {w W w' : World} {v : Value} {L : List (Nat × Nat)} {C : Nat} (h : Rr w v L C W) (hb : Below W.heap.size W w') : Rr w v L C w' :=
  ⟨hid (h.1.out.trans (hb.mono h.1.out.size)), hid (own_keep h.2.1.out hb), hid (h.2.2.out.below hb h.2.2.out.lt)⟩
set_option maxRecDepth 100000 in
set_option maxHeartbeats 4000000 in
theorem rruns_any (C : Nat) (w : World) :
    Calls Tryd.prog 21 #[cv C] w fun e w' => ∃ v, e = .returned v ∧ Hid (w'.ownsRow w.heap.size 44 2 v (rs C 256).length (pv (rs C 256).reverse)) ∧ Hid (Below w.heap.size w w') := by
  obtain ⟨iP, hiP, hzP0, hzP1, hzP2⟩ := info_parts Tryd.infoPair
  unfold cv
  go_enter Tryd.func21, Tryd.ntmps21
  go_wp2_with fail
  go_loopw [3, 4] (fun v b wr => ∃ k : Nat, b = .int .i64 (k : Int) ∧ k ≤ 256 ∧ Hid (Rr w v (rs C k).reverse C wr)) (fun _ b _ => 256 - (intOf b).toNat)
  case atStart => exact ⟨0, rfl, by omega, hid ⟨hid ((Below.refl _ _).alloc (Nat.le_refl _) _), hid (World.ownsRow_nil _ _ _ _), hid (Blk.new w C)⟩⟩
  case round =>
    obtain ⟨k, rfl, hk, HI⟩ := hrel
    by_cases hk6 : k < 256
    · have hkI : decide ((k : Int) < 256) = true := by simp; omega
      obtain ⟨c0, c1, c2, c3⟩ := HI.out.2.2.out.cells
      have hl := HI.out.2.2.out.lt
      cases hbit : C.testBit k with
      | false =>
        have HH : Hid (∀ w : World, Calls Tryd.prog 13 #[cv C, .int .i64 (k : Int)] w fun e w' => e = .returned (.bool false) ∧ Below w.heap.size w w') := fun w => rhas_val C k false w hbit hk6
        have HN : Hid ((rs C (k + 1)).reverse = (rs C k).reverse) := by show _ = _; rw [rs, hbit]; simp
        clear hbit
        go_wp2_with fail
        refine (HH.out _).mono ?_
        rintro e w1 ⟨rfl, hb1⟩
        have HI1 := hid (HI.out.keep hb1)
        clear hb1 HI c0 c1 c2 c3 hl
        go_wp2_with fail
        go_roundw
        case rel => exact ⟨k + 1, by go_num, by omega, by rw [HN.out]; exact HI1⟩
        case measure => simp [intOf]; omega
      | true =>
        have HH : Hid (∀ w : World, Calls Tryd.prog 13 #[cv C, .int .i64 (k : Int)] w fun e w' => e = .returned (.bool true) ∧ Below w.heap.size w w') := fun w => rhas_val C k true w hbit hk6
        have hrl := rs_lt C k
        have hlen := rs_len C k
        cases hr : rs C k with
        | nil =>
          have HN : Hid ((rs C (k + 1)).reverse = [] ++ [(k, k)]) := by show _ = _; rw [rs, hbit, hr]; simp
          rw [hr] at HI
          clear hbit hr hrl hlen
          have hv0 : u3 = .slice none 0 0 ∨ ∃ g cap, u3 = .slice (some ⟨g, 0, none⟩) 0 cap := by
            rcases HI.out.2.1.out.2 with ⟨h, _⟩ | ⟨g, cap, cur, h, _⟩
            · exact .inl h
            · exact .inr ⟨g, cap, h⟩
          go_wp2_with fail
          refine (HH.out _).mono ?_
          rintro e w1 ⟨rfl, hb1⟩
          have HI1 := hid (HI.out.keep hb1)
          clear hb1 HI c0 c1 c2 c3 hl
          have hsz : w.heap.size ≤ w1.heap.size := HI1.out.1.out.size
          rcases hv0 with rfl | ⟨g, cap, rfl⟩
          all_goals
            go_wp2_with (first
              | (at_builtin; refine wpList_append_own _ rfl (.tmp 37) (.tmp 41) 41 rfl (w.heap.size + 1) 44 iP (.agg #[.int .i64 0, .int .i64 0]) 2 16 Tryd.underlying41 hiP hzP0 hzP1 hzP2 rfl (by decide) _ _ _ rfl (HI1.out.2.1.out.alloc _) ⟨w1.heap.size, 0, none⟩ 1 1 [.int .i64 (k : Int), .int .i64 (k : Int)] rfl rfl (two_new _ _ _ _) (two_ok _ _) (by unfold maxLen; simp) (by simp) (by have := HI1.out.2.2.out.lt; simp; omega) ?_; intro v2 w2 hown2 hgr2 hnil2))
            have HI2 : Hid (Rr w v2 ([] ++ [(k, k)]) C w2) := ⟨hid ((HI1.out.1.out.alloc hsz _).grown hgr2 (by simp; omega) (fun x e => by have := (HI1.out.2.1.out.lt x e).1; omega)), hid hown2, hid ((hgr2.block _ (by have := HI1.out.2.2.out.lt; simp; omega) (HI1.out.2.2.out.ne_own HI1.out.2.1.out)).trans (HI1.out.2.2.out.alloc _))⟩
            clear hown2 hgr2 hnil2 HI1
            go_roundw
            case rel => exact ⟨k + 1, by go_num, by omega, by rw [HN.out]; exact HI2⟩
            case measure => simp [intOf]; omega
        | cons p t =>
          rw [hr] at HI hrl hlen
          obtain ⟨hp1, hp2⟩ := hrl p (List.mem_cons_self ..)
          rw [List.reverse_cons] at HI
          obtain ⟨T, hTe⟩ : ∃ T, T = t.reverse := ⟨_, rfl⟩
          obtain ⟨m, hm⟩ : ∃ m, m = T.length := ⟨_, rfl⟩
          obtain ⟨lo, hlo⟩ : ∃ lo, lo = p.1 := ⟨_, rfl⟩
          obtain ⟨hi, hhi⟩ : ∃ hi, hi = p.2 := ⟨_, rfl⟩
          have hpe : p = (lo, hi) := by rw [hlo, hhi]
          have hm6 : m ≤ 256 := by rw [hm, hTe]; simp at hlen ⊢; omega
          rw [← hTe, hpe] at HI
          rw [← hhi] at hp2
          have HNa : Hid (hi + 1 = k → (rs C (k + 1)).reverse = T ++ [(lo, k)]) := fun e => by rw [rs, hbit, hr, hpe]; simp [e, hTe]
          have HNb : Hid (hi + 1 ≠ k → (rs C (k + 1)).reverse = (T ++ [(lo, hi)]) ++ [(k, k)]) := fun e => by rw [rs, hbit, hr, hpe]; simp [e, hTe]
          have hLl : (T ++ [(lo, hi)]).length = m + 1 := by rw [hm]; simp
          have hown := HI.out.2.1.out
          rw [hLl] at hown
          obtain ⟨g, cap, rfl⟩ := own_shape hown (by omega)
          have HMm : Hid (m = T.length) := hm
          clear hbit hr hrl hlen hTe hm hlo hhi hpe hp1 hown
          go_wp2_with fail
          refine (HH.out _).mono ?_
          rintro e w1 ⟨rfl, hb1⟩
          have HI1 := hid (HI.out.keep hb1)
          clear hb1 HI c0 c1 c2 c3 hl
          have hsz : w.heap.size ≤ w1.heap.size := HI1.out.1.out.size
          have HOw : Hid (w1.ownsRow (w.heap.size + 1) 44 2 (.slice (some ⟨g, 0, none⟩) (m + 1) cap) (m + 1) (pv (T ++ [(lo, hi)]))) := by
            have := HI1.out.2.1.out
            rw [hLl] at this
            exact this
          have e1 := HOw.out.cellAt (m * 2 + 1) (by omega)
          have hat := (pv_get T (lo, hi) []).2
          rw [← HMm.out] at hat
          rw [hat] at e1
          have ef := own_cell_free HOw.out (m * 2 + 1)
          obtain ⟨ol1, ol2, ol3, ol4⟩ := own_low HOw.out
          unfold maxLen at ol3
          have hcap : (m : Int) + 1 ≤ (cap : Int) := by omega
          clear hat hLl
          by_cases hj : hi + 1 = k
          · have dj : ((hi : Int) == (k : Int) - 1) = true := by rw [beq_iff_eq]; omega
            have HN := hid (HNa.out hj)
            have HI2 : Hid (Rr w (.slice (some ⟨g, 0, none⟩) (m + 1) cap) (T ++ [(lo, k)]) C (w1.setCell ⟨g, m * 2 + 1, none⟩ (.int .i64 (k : Int)))) := by
              refine ⟨hid (HI1.out.1.out.setCell (p := ⟨g, m * 2 + 1, none⟩) (by simp only; omega) _), hid ?_, hid ?_⟩
              · have h := own_set HOw.out (m * 2 + 1) (by omega) (.int .i64 (k : Int))
                rw [HMm.out, pv_set T (lo, hi) k, ← HMm.out] at h
                rw [show (T ++ [(lo, k)]).length = m + 1 by rw [HMm.out]; simp]
                exact h
              · show Blk _ _ _
                unfold Blk
                rw [Below.heap_setCell _ _ _ _ (show w.heap.size ≠ (⟨g, m * 2 + 1, none⟩ : Addr).block by simp only; omega)]
                exact HI1.out.2.2.out
            clear hj HNa HNb
            go_wp2_with fail
            go_roundw
            case rel => exact ⟨k + 1, by go_num, by omega, by rw [HN.out]; exact HI2⟩
            case measure => simp [intOf]; omega
          · have dj : ((hi : Int) == (k : Int) - 1) = false := by rw [beq_eq_false_iff_ne]; omega
            have HN := hid (HNb.out hj)
            clear hj HNa HNb
            go_wp2_with (first
              | (at_builtin; refine wpList_append_own _ rfl (.tmp 37) (.tmp 41) 41 rfl (w.heap.size + 1) 44 iP (.agg #[.int .i64 0, .int .i64 0]) 2 16 Tryd.underlying41 hiP hzP0 hzP1 hzP2 rfl (by decide) _ _ _ rfl (HOw.out.alloc _) ⟨w1.heap.size, 0, none⟩ 1 1 [.int .i64 (k : Int), .int .i64 (k : Int)] rfl rfl (two_new _ _ _ _) (two_ok _ _) (by unfold maxLen; omega) (by omega) (by have := HI1.out.2.2.out.lt; simp; omega) ?_; intro v2 w2 hown2 hgr2 hnil2))
            have HI2 : Hid (Rr w v2 ((T ++ [(lo, hi)]) ++ [(k, k)]) C w2) := ⟨hid ((HI1.out.1.out.alloc hsz _).grown hgr2 (by simp; omega) (fun x e => by have := (HI1.out.2.1.out.lt x e).1; omega)), hid (by rw [pv_append, show ((T ++ [(lo, hi)]) ++ [(k, k)]).length = m + 1 + 1 by rw [HMm.out]; simp]; exact hown2), hid ((hgr2.block _ (by have := HI1.out.2.2.out.lt; simp; omega) (HI1.out.2.2.out.ne_own HI1.out.2.1.out)).trans (HI1.out.2.2.out.alloc _))⟩
            clear hown2 hgr2 hnil2 HI1
            go_roundw
            case rel => exact ⟨k + 1, by go_num, by omega, by rw [HN.out]; exact HI2⟩
            case measure => simp [intOf]; omega
    · have hkI : decide ((k : Int) < 256) = false := by simp; omega
      obtain rfl : k = 256 := by omega
      go_wp2_with fail
      go_ret
      refine ⟨_, rfl, ?_, HI.out.1⟩
      have h := HI.out.2.1.out
      rw [List.length_reverse] at h
      exact own_mono h (by omega)
end Go.Proofs.YtcdkgcacmlolnaaDoor
