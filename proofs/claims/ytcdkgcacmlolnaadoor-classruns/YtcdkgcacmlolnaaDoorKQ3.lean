/-
  What the document's own Text answers. Conditions: those that each theorem names.
-/
import Derived.Test.YtcdkgcacmlolnaaDoorKQ1
import Derived.Test.YtcdkgcacmlolnaaDoorKQ2
namespace Go.Proofs.YtcdkgcacmlolnaaDoor
open Go.RowKit
set_option linter.unusedVariables false
def Rt (w : World) (v : Value) (L : List (Nat × Nat)) (w' : World) : Prop := Hid (Below w.heap.size w w') ∧ Hid (w'.ownsRow w.heap.size 44 2 v L.length (pv L))
theorem Rt.keep {w W w' : World} {v : Value} {L : List (Nat × Nat)} (h : Rt w v L W) (hb : Below W.heap.size W w') : Rt w v L w' := ⟨hid (h.1.out.trans (hb.mono h.1.out.size)), hid (own_keep h.2.out hb)⟩
theorem Rt.keepD {w W w' : World} {v : Value} {L : List (Nat × Nat)} {q : Nat} (h : Rt w v L W) (hb : Below (W.drewN q).heap.size (W.drewN q) w') : Rt w v L w' := (h.keep (below_drewN (Below.refl _ _) q)).keep hb
theorem Rt.drewN {w W : World} {v : Value} {L : List (Nat × Nat)} (h : Rt w v L W) (q : Nat) : Rt w v L (W.drewN q) := h.keep (below_drewN (Below.refl _ _) q)
set_option maxRecDepth 100000 in
set_option maxHeartbeats 4000000 in
theorem rtext_any (C : Nat) (w : World) :
    Calls Tryd.prog 24 #[cv C] w fun e w' => e = .returned (.string (nb (txt C))) ∧ Below w.heap.size w w' := by
  unfold cv
  go_enter Tryd.func24, Tryd.ntmps24
  go_wp2_with fail
  refine (rruns_any C _).mono ?_
  rintro e w2 ⟨rv, rfl, HO2, hb2⟩
  obtain ⟨L, hL⟩ : ∃ L, L = (rs C 256).reverse := ⟨_, rfl⟩
  have hLl : L.length = (rs C 256).length := by rw [hL]; simp
  have hL6 : L.length ≤ 256 := by rw [hLl]; exact rs_len C 256
  have HQ2 : Hid (∀ p ∈ L, p.1 ≤ p.2 ∧ p.2 < 256) := by rw [hL]; exact fun p hp => rs_lt C 256 p (List.mem_reverse.1 hp)
  have HF : Hid (txt C = ([91] ++ body L) ++ [93]) := by rw [hL]; rfl
  have HX0 : Hid (Rt w rv L w2) := ⟨hid (((Below.refl _ _).alloc (Nat.le_refl _) _).trans (hb2.out.mono (by simp))), hid (own_mono (by rw [hLl, hL]; exact HO2.out) (by simp))⟩
  clear HO2 hb2 hL hLl
  rcases HX0.out.2.out.2 with ⟨rfl, hn0⟩ | ⟨g0, cap, cur, rfl, hg0, hh0, hn1, hn2, hn3, hn4⟩
  · have hL0 : L = [] := List.eq_nil_of_length_eq_zero hn0
    have HFin : Hid (txt C = [91, 93]) := by have := HF.out; rw [hL0] at this; exact this
    clear hL0 hn0
    go_wp2_with fail
    refine wp_loop_rounds 1 ?_
    rw [rounds_succ]
    go_wp2_with fail
    go_ret
    rw [HFin.out]
    exact ⟨rfl, HX0.out.1.out⟩
  · clear hg0 hh0 hn3 hn4 cur
    unfold maxLen at hn2
    go_wp2_with fail
    go_loopw [3, 5] (fun s i wr => ∃ (A B : List (Nat × Nat)) (S : ByteArray), s = .string S ∧ i = .int .i64 ((A.length : Nat) : Int) ∧ Hid (L = A ++ B) ∧ Hid (S = nb ([91] ++ body A)) ∧ A.length ≤ L.length ∧ Hid (Rt w (.slice (some ⟨g0, 0, none⟩) L.length cap) L wr)) (fun _ i _ => L.length - (intOf i).toNat)
    case atStart => exact ⟨[], L, _, rfl, rfl, hid rfl, hid rfl, by simp, HX0⟩
    case round =>
      obtain ⟨A, B, S, rfl, rfl, HAB, HS, hAl, HX⟩ := hrel
      have hS3 : S.size ≤ 2305 := by rw [HS.out, nb_size]; have := body_len A; simp; omega
      cases B with
      | nil =>
        have hk : ((A.length : Nat) : Int) = (L.length : Int) := by have := congrArg List.length HAB.out; simp at this; omega
        have HFin : Hid (nb (txt C) = S ++ { data := #[93] }) := by
          have h1 := HF.out
          rw [HAB.out, List.append_nil] at h1
          show _ = _
          rw [h1, ← nb_app, HS.out]; rfl
        go_wp2_with fail
        go_ret
        rw [HFin.out]
        exact ⟨rfl, HX.out.1.out⟩
      | cons p B' =>
        have HAB2 : Hid (L = (A ++ [p]) ++ B') := by show L = _; rw [HAB.out]; simp
        obtain ⟨p1, p2⟩ := HQ2.out p (by rw [HAB.out]; simp)
        have hat := pv_get A p B'
        rw [← HAB.out] at hat
        have hkl : A.length < L.length := by rw [HAB.out]; simp
        have hkI : ((A.length : Nat) : Int) < (L.length : Int) := by omega
        obtain ⟨lo, hlo⟩ : ∃ lo, lo = p.1 := ⟨_, rfl⟩
        obtain ⟨hi, hhi⟩ : ∃ hi, hi = p.2 := ⟨_, rfl⟩
        rw [← hlo, ← hhi] at hat
        rw [← hlo, ← hhi] at p1
        rw [← hhi] at p2
        have HE : Hid (∀ v : World, Rt w (.slice (some ⟨g0, 0, none⟩) L.length cap) L v → v.cell? ⟨g0, A.length * 2, none⟩ = some (.int .i64 (lo : Int)) ∧ v.cell? ⟨g0, A.length * 2 + 1, none⟩ = some (.int .i64 (hi : Int))) := fun v hv => by
          have e0 := hv.2.out.cellAt (A.length * 2) (by omega)
          have e1 := hv.2.out.cellAt (A.length * 2 + 1) (by omega)
          rw [hat.1] at e0
          rw [hat.2] at e1
          exact ⟨e0, e1⟩
        have HS1 : Hid (∀ w : World, Calls Tryd.prog 34 #[.int .i64 (lo : Int)] w fun e w' => e = .returned (.string (nb (sgn lo))) ∧ Below w.heap.size w w') := fun w => rSign_any lo (by omega) w
        have HS2 : Hid (∀ w : World, Calls Tryd.prog 34 #[.int .i64 (hi : Int)] w fun e w' => e = .returned (.string (nb (sgn hi))) ∧ Below w.heap.size w w') := fun w => rSign_any hi p2 w
        have HN : Hid (nb ([91] ++ body (A ++ [p])) = S ++ nb (memb p)) := by show _ = _; rw [body_snoc, HS.out, nb_app, List.append_assoc]
        have HM : Hid (nb (memb p) = if lo + 1 < hi then (nb (sgn lo) ++ { data := #[45] }) ++ nb (sgn hi) else if lo < hi then nb (sgn lo) ++ nb (sgn hi) else nb (sgn lo)) := by
          show _ = _
          rw [memb, ← hlo, ← hhi]
          by_cases h1 : lo + 1 < hi
          · rw [if_pos (by omega), if_pos (by omega), if_pos h1, show ({ data := #[45] } : ByteArray) = nb [45] from rfl, nb_app, nb_app, List.append_assoc]
          · by_cases h2 : lo < hi
            · rw [if_neg (by omega), if_pos (by omega), if_neg h1, if_pos h2, nb_app]; simp
            · rw [if_neg (by omega), if_neg (by omega), if_neg h1, if_neg h2]; simp
        have hz1 : (nb (sgn lo)).size ≤ 4 := by rw [nb_size]; exact (sgn_len lo).2
        have hz2 : (nb (sgn hi)).size ≤ 4 := by rw [nb_size]; exact (sgn_len hi).2
        obtain ⟨X, hX⟩ : ∃ X, X = nb (sgn lo) := ⟨_, rfl⟩
        obtain ⟨Y, hY⟩ : ∃ Y, Y = nb (sgn hi) := ⟨_, rfl⟩
        rw [← hX] at HS1 HM hz1
        rw [← hY] at HS2 HM hz2
        have e0 := (HE.out _ HX.out).1
        have hA1 : ((A.length + 1 : Nat) : Int) = (A.length : Int) + 1 := by omega
        have HA1 : Hid (((A ++ [p]).length : Nat) = A.length + 1) := by show _ = _; simp
        clear hat HAB hlo hhi hX hY HS hA1 HF
        go_wp2_with fail
        refine (HS1.out _).mono ?_
        rintro e w3 ⟨rfl, hb3⟩
        have HX3 := hid (HX.out.keep hb3)
        obtain ⟨f0, f1⟩ := HE.out _ HX3.out
        clear hb3 e0 HX
        by_cases h1 : lo + 1 < hi
        · have d1 : decide ((lo : Int) + 1 < (hi : Int)) = true := by simp; omega
          have d2 : decide ((lo : Int) < (hi : Int)) = true := by simp; omega
          have d2' : lo < hi := by omega
          have HR : Hid (nb ([91] ++ body (A ++ [p])) = S ++ X ++ { data := #[45] } ++ Y) := by show _ = _; rw [HN.out, HM.out, if_pos h1]; apply ByteArray.ext; simp [ByteArray.data_append]
          clear h1 HN HM
          go_wp2_with fail
          go_quiet (fail)
          go_wp2_with fail
          go_quiet (fail)
          go_wp2_with fail
          refine (HS2.out _).mono ?_
          rintro e w4 ⟨rfl, hb4⟩
          have HX4 := hid (HX3.out.keepD hb4)
          clear hb4 HX3 f0 f1
          go_wp2_with fail
          go_roundw
          case rel => exact ⟨A ++ [p], B', _, rfl, by rw [HA1.out]; go_num, HAB2, hid HR.out.symm, by rw [HA1.out]; omega, HX4⟩
          case measure => simp [intOf]; omega
        · by_cases h2 : lo < hi
          · have d1 : decide ((lo : Int) + 1 < (hi : Int)) = false := by simp; omega
            have d2 : decide ((lo : Int) < (hi : Int)) = true := by simp; omega
            have HR : Hid (nb ([91] ++ body (A ++ [p])) = S ++ X ++ Y) := by show _ = _; rw [HN.out, HM.out, if_neg h1, if_pos h2]; apply ByteArray.ext; simp [ByteArray.data_append]
            clear h1 HN HM
            go_wp2_with fail
            go_quiet (fail)
            go_wp2_with fail
            go_quiet (fail)
            go_wp2_with fail
            refine (HS2.out _).mono ?_
            rintro e w4 ⟨rfl, hb4⟩
            have HX4 := hid (HX3.out.keepD hb4)
            clear hb4 HX3 f0 f1
            go_wp2_with fail
            go_roundw
            case rel => exact ⟨A ++ [p], B', _, rfl, by rw [HA1.out]; go_num, HAB2, hid HR.out.symm, by rw [HA1.out]; omega, HX4⟩
            case measure => simp [intOf]; omega
          · have d1 : decide ((lo : Int) + 1 < (hi : Int)) = false := by simp; omega
            have d2 : decide ((lo : Int) < (hi : Int)) = false := by simp; omega
            have HR : Hid (nb ([91] ++ body (A ++ [p])) = S ++ X) := by show _ = _; rw [HN.out, HM.out, if_neg h1, if_neg h2]
            clear h1 HN HM
            go_wp2_with fail
            go_quiet (fail)
            go_wp2_with fail
            go_quiet (fail)
            go_wp2_with fail
            clear f0 f1
            go_roundw
            case rel => exact ⟨A ++ [p], B', _, rfl, by rw [HA1.out]; go_num, HAB2, hid HR.out.symm, by rw [HA1.out]; omega, hid (by first | exact HX3.out.drewN _ | exact (HX3.out.drewN _).drewN _)⟩
            case measure => simp [intOf]; omega
end Go.Proofs.YtcdkgcacmlolnaaDoor
