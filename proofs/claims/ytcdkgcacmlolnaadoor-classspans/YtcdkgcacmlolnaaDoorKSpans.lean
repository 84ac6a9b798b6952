/-
  For any class: muntinlaw02.ClassSpans answers true. Conditions: those that each theorem names.
-/
import Derived.Test.YtcdkgcacmlolnaaDoorKSmall
import Derived.Test.YtcdkgcacmlolnaaDoorKRuns
import Derived.Deep.DeepCutAuto
namespace Go.Proofs.YtcdkgcacmlolnaaDoor
open Go.RowKit
set_option linter.unusedVariables false
theorem apart_right : ∀ (a b : List (Nat × Nat)), Apart (a ++ b) → Apart b
  | [], b, h => h
  | [p], [], h => trivial
  | [p], q :: t, h => h.2.2
  | p :: q :: t, b, h => apart_right (q :: t) b h.2.2
/-- Where the last row ended. -/
def lastv : List (Nat × Nat) → Int
  | [] => -2
  | q :: _ => (q.2 : Int)
theorem apart_last (p : Nat × Nat) (S : List (Nat × Nat)) (h : Apart (p :: S)) : lastv S + 1 < (p.1 : Int) := by
  match S, h with
  | [], h => simp only [lastv]; omega
  | q :: t, h => have := h.2.1; simp only [lastv]; omega
theorem lastv_bd (S : List (Nat × Nat)) (h : ∀ p ∈ S, p.2 < 256) : -2 ≤ lastv S ∧ lastv S < 256 := by
  match S, h with
  | [], h => simp only [lastv]; omega
  | q :: t, h => have := h q (List.mem_cons_self ..); simp only [lastv]; omega
theorem pv_at : ∀ (a : List (Nat × Nat)) (p : Nat × Nat) (b : List (Nat × Nat)), (pv (a ++ p :: b))[a.length * 2]? = some (.int .i64 (p.1 : Int)) ∧ (pv (a ++ p :: b))[a.length * 2 + 1]? = some (.int .i64 (p.2 : Int)) := by
  intro a p b
  rw [pv_append]
  have := pv_length a
  constructor
  · rw [List.getElem?_append_right (by omega), this, Nat.sub_self]; rfl
  · rw [List.getElem?_append_right (by omega), this, show a.length * 2 + 1 - a.length * 2 = 1 by omega]; rfl
/-- What stays in memory while the rows are read. -/
def Sp (w : World) (base : Nat) (v : Value) (n : Nat) (xs : List Value) (C ga A : Nat) (w' : World) : Prop :=
  Hid (Below w.heap.size w w') ∧ Hid (w'.ownsRow base 44 2 v n xs) ∧ Hid (Cl w' w.heap.size C) ∧ Hid (Blk w' ga A)
theorem Sp.keep {w W w' : World} {base n C ga A : Nat} {v : Value} {xs : List Value} (hb : Below W.heap.size W w') (h : Sp w base v n xs C ga A W) : Sp w base v n xs C ga A w' :=
  ⟨h.1.out.trans (hb.mono h.1.out.size), h.2.1.out.kept (row := none) ⟨hb.os, hb.tape, hb.output, hb.size, fun j hj _ => hb.block j hj⟩ (by cases hq : v.ownBlock <;> simp), h.2.2.1.out.below hb, h.2.2.2.out.below hb h.2.2.2.out.lt⟩
theorem Sp.other {w W : World} {base n C ga A g X : Nat} {v : Value} {xs : List Value} (h : Sp w base v n xs C ga A W) {D : Nat} (hg : Blk W g X) (h1 : w.heap.size < g) (h2 : g ≠ ga) : Sp w base v n xs C ga A (st4 W g D) :=
  ⟨hid (Below.st4 h.1.out (by omega) D), hid (own_st4 hg h.2.1.out), hid (h.2.2.1.out.st4 (by omega) D), hid (h.2.2.2.out.other (Ne.symm h2))⟩
theorem Sp.put {w W : World} {base n C ga A : Nat} {v : Value} {xs : List Value} (h : Sp w base v n xs C ga A W) (D : Nat) (h1 : w.heap.size < ga) : Sp w base v n xs C ga D (st4 W ga D) :=
  ⟨hid (Below.st4 h.1.out (by omega) D), hid (own_st4 h.2.2.2.out h.2.1.out), hid (h.2.2.1.out.st4 (by omega) D), hid (h.2.2.2.out.st4 D)⟩
set_option maxRecDepth 100000 in
set_option maxHeartbeats 4000000 in
theorem spans_any (C : Nat) (w : World) (hC : C < 2 ^ 256) (hT : TabIs w) :
    Calls Tryd.prog 7 #[cv C] w fun e w' => e = .returned (.bool true) ∧ Below w.heap.size w w' := by
  have HT : Hid (TabIs w) := hT
  clear hT
  unfold cv
  go_enter Tryd.func7, Tryd.ntmps7
  go_wp2_with fail
  refine (small_ok _).mono ?_
  rintro e w1 ⟨rfl, hb1⟩
  have HB1 : Hid (Below w.heap.size w w1) := ((Below.refl _ _).alloc (Nat.le_refl _) _).trans (hb1.mono (by simp))
  have HC1 : Hid (Cl w1 w.heap.size C) := (Cl.new w C rfl).below hb1
  clear hb1
  obtain ⟨c0, c1, c2, c3⟩ := HC1.out
  go_wp2_with fail
  refine (runs_any C _ hC (HT.out.below HB1.out HT.out.lt)).mono ?_
  rintro e w2 ⟨v, rfl, HO2, hb2⟩
  have HB2 : Hid (Below w.heap.size w w2) := HB1.out.trans (hb2.out.mono HB1.out.size)
  have HC2 : Hid (Cl w2 w.heap.size C) := HC1.out.below hb2.out
  clear hb2 c0 c1 c2 c3 HC1
  have HS2 : Hid (Sp w w1.heap.size v (rs C 256).length (pv (rs C 256).reverse) C w2.heap.size 0 (w2.alloc (.cells #[.int .u64 0, .int .u64 0, .int .u64 0, .int .u64 0] 24))) :=
    ⟨hid (HB2.out.alloc HB2.out.size _), hid (HO2.out.alloc _), hid (HC2.out.alloc _), hid (Blk.new0 w2)⟩
  have hga : w.heap.size < w2.heap.size := HC2.out.lt
  obtain ⟨Q, hQ⟩ : ∃ Q, Q = rs C 256 := ⟨_, rfl⟩
  have HQ1 : Hid (un Q = C) := by rw [hQ]; exact rs_all C hC
  have HQ2 : Hid (∀ p ∈ Q, p.1 ≤ p.2 ∧ p.2 < 256) := by rw [hQ]; exact rs_lt C 256
  have HQ3 : Hid (Apart Q) := by rw [hQ]; exact rs_apart C 256
  have hQl : Q.length ≤ 256 := by rw [hQ]; exact rs_len C 256
  rw [← hQ] at HS2
  clear HO2 HB2 HC2 hQ
  rcases HS2.out.2.1.out.2 with ⟨rfl, hn0⟩ | ⟨g0, cap, cur, rfl, hg0, hh0, hn1, hn2, hn3, hn4⟩
  · have hQ0 : Q = [] := List.eq_nil_of_length_eq_zero hn0
    have hU : Hid (C = 0) := by have := HQ1.out; rw [hQ0] at this; exact this.symm
    have HA : Hid (Cl (w2.alloc (.cells #[.int .u64 0, .int .u64 0, .int .u64 0, .int .u64 0] 24)) w.heap.size 0) := by have := HS2.out.2.2.1; rw [hU.out] at this; exact this
    obtain ⟨c0, c1, c2, c3⟩ := HA.out
    rw [wd_zero] at c0 c1 c2 c3
    have HB : Hid (Below w.heap.size w (w2.alloc (.cells #[.int .u64 0, .int .u64 0, .int .u64 0, .int .u64 0] 24))) := HS2.out.1
    have q1 : ∀ w : World, (Op.equalIn 10000 24 (.agg #[.int .u64 0, .int .u64 0, .int .u64 0, .int .u64 0]) (.agg #[.int .u64 0, .int .u64 0, .int .u64 0, .int .u64 0])).run Tryd.prog w = .ok true w := fun w => by rw [eq_words]; rfl
    clear HS2 HA hQ0
    go_wp2_with fail
    refine wp_loop_rounds 1 ?_
    rw [rounds_succ]
    go_wp2_with fail
    go_ret
    exact ⟨rfl, HB.out⟩
  · clear hg0 hh0 hn3 hn4 cur
    unfold maxLen at hn2
    go_wp2_with fail
    go_loopw [6, 7] (fun lt i wr => ∃ (P S : List (Nat × Nat)), i = .int .i64 ((S.length : Nat) : Int) ∧ lt = .int .i64 (lastv S) ∧ Hid (Q = P ++ S) ∧ S.length ≤ Q.length ∧ Hid (Sp w w1.heap.size (.slice (some ⟨g0, 0, none⟩) Q.length cap) Q.length (pv Q.reverse) C w2.heap.size (un S) wr)) (fun _ i _ => Q.length - (intOf i).toNat)
    case atStart => exact ⟨Q, [], rfl, rfl, hid (by simp), by simp, HS2⟩
    case round =>
      obtain ⟨P, S, rfl, rfl, HP, hSl, HI⟩ := hrel
      rcases List.eq_nil_or_concat P with hP | ⟨P', p, hP⟩
      · have hk : S.length = Q.length := by rw [HP.out, hP]; simp
        have hkI : ((S.length : Nat) : Int) = (Q.length : Int) := by omega
        have hU : Hid (un S = C) := by
          have h1 := HP.out
          rw [hP] at h1
          have h2 := HQ1.out
          rw [h1] at h2
          exact h2
        have HA : Hid (Blk wr w2.heap.size C) := by have := HI.out.2.2.2; rw [hU.out] at this; exact this
        obtain ⟨c0, c1, c2, c3⟩ := HI.out.2.2.1.out
        obtain ⟨d0, d1, d2, d3⟩ := HA.out.cells
        have q1 := eq_self C
        have HB : Hid (Below w.heap.size w wr) := HI.out.1
        clear hP HI
        go_wp2_with fail
        go_ret
        exact ⟨rfl, HB.out⟩
      · have hP2 : Q = P' ++ p :: S := by rw [HP.out, hP]; simp
        have HP2 : Hid (Q = P' ++ p :: S) := hP2
        obtain ⟨p1, p2⟩ := HQ2.out p (by rw [hP2]; simp)
        have hap := apart_last p S (apart_right P' _ (by rw [← hP2]; exact HQ3.out))
        have hlb := lastv_bd S (fun q hq => (HQ2.out q (by rw [hP2]; simp [hq])).2)
        have hrev : pv Q.reverse = pv (S.reverse ++ p :: P'.reverse) := by rw [hP2]; simp
        have hat := pv_at S.reverse p P'.reverse
        rw [List.length_reverse, ← hrev] at hat
        have hkl : S.length < Q.length := by rw [hP2]; simp; omega
        have hkI : ((S.length : Nat) : Int) < (Q.length : Int) := by omega
        have HAt : Hid (∀ W : World, W.ownsRow w1.heap.size 44 2 (.slice (some ⟨g0, 0, none⟩) Q.length cap) Q.length (pv Q.reverse) → W.cell? ⟨g0, S.length * 2, none⟩ = some (.int .i64 (p.1 : Int)) ∧ W.cell? ⟨g0, S.length * 2 + 1, none⟩ = some (.int .i64 (p.2 : Int)) ∧ g0 < W.heap.size) := fun W ho => by
          have h1 := ho.cellAt (S.length * 2) (by omega)
          have h2 := ho.cellAt (S.length * 2 + 1) (by omega)
          rw [hat.1] at h1
          rw [hat.2] at h2
          exact ⟨h1, h2, World.block_lt_of_cell? W _ h1⟩
        have HRg : Hid (∀ w : World, Calls Tryd.prog 9 #[.int .i64 (p.1 : Int), .int .i64 (p.2 : Int)] w fun e w' => e = .returned (.tuple #[cv (seg p.1 (p.2 + 1)), .nilIface]) ∧ Below w.heap.size w w') := fun w => range_ok p.1 p.2 w p1 p2
        obtain ⟨lo, hlo⟩ : ∃ lo, lo = p.1 := ⟨_, rfl⟩
        obtain ⟨hi, hhi⟩ : ∃ hi, hi = p.2 := ⟨_, rfl⟩
        rw [← hlo, ← hhi] at HAt HRg p1
        rw [← hlo] at hap
        rw [← hhi] at p2
        have HU : Hid (un (p :: S) = un S ||| seg lo (hi + 1)) := by rw [hlo, hhi]; rfl
        have HLv : Hid (lastv (p :: S) = (hi : Int)) := by rw [hhi]; rfl
        obtain ⟨X, hX⟩ : ∃ X, X = seg lo (hi + 1) := ⟨_, rfl⟩
        rw [← hX] at HRg HU
        obtain ⟨e0, e1, hgl⟩ := HAt.out wr HI.out.2.1.out
        have hdec : decide ((lo : Int) ≤ lastv S + 1) = false := by simp; omega
        have S1 : Sp w w1.heap.size (.slice (some ⟨g0, 0, none⟩) Q.length cap) Q.length (pv Q.reverse) C w2.heap.size (un S) wr.drew := HI.out.keep (Below.refl _ _).drew
        have S2 : Sp w w1.heap.size (.slice (some ⟨g0, 0, none⟩) Q.length cap) Q.length (pv Q.reverse) C w2.heap.size (un S) (wr.alloc (.cells #[.int .u64 0, .int .u64 0, .int .u64 0, .int .u64 0] 24)).drew := HI.out.keep (((Below.refl _ _).alloc (Nat.le_refl _) _).drew)
        have HGW : Hid (w2.heap.size < wr.heap.size) := HI.out.2.2.2.out.lt
        have hbdI : -2 ≤ lastv S ∧ lastv S < 256 := hlb
        clear hP hP2 hat hrev hX hlo hhi HP hlb
        go_upto_region 8 with fail
        go_cut [8, 9] (fun q e wx => e = .nilIface ∧ ∃ g8, q = .pointer (some ⟨g8, 0, none⟩) ∧ w.heap.size < g8 ∧ g8 ≠ w2.heap.size ∧ Hid (Sp w w1.heap.size (.slice (some ⟨g0, 0, none⟩) Q.length cap) Q.length (pv Q.reverse) C w2.heap.size (un S) wx) ∧ Hid (Blk wx g8 X))
        case first =>
          first | go_region_with (first
            | (go_at_call 9; refine (HRg.out _).mono ?_; rintro e wq ⟨rfl, hbr⟩; have hTq := Sp.keep hbr (by assumption); (try (have hk8 : Blk wq wr.heap.size 0 := Blk.below (show Blk (wr.alloc (.cells #[.int .u64 0, .int .u64 0, .int .u64 0, .int .u64 0] 24)).drew wr.heap.size 0 from Blk.new0 wr) hbr (by simp); obtain ⟨x0, x1, x2, x3⟩ := hk8.cells; obtain ⟨y0, y1, y2, y3⟩ := hk8.thaw)); dsimp only [cv])) | skip
          all_goals
            go_wp2_with fail
            go_meet
            case rel =>
              refine ⟨rfl, ?_⟩
              first
                | exact ⟨wq.heap.size, rfl, hTq.2.2.1.out.lt, Nat.ne_of_gt hTq.2.2.2.out.lt, hid (hTq.keep ((Below.refl _ _).alloc (Nat.le_refl _) _)), hid (Blk.new wq X)⟩
                | exact ⟨wr.heap.size, rfl, Nat.lt_trans hga HGW.out, Nat.ne_of_gt HGW.out, hid (hTq.other hk8 (Nat.lt_trans hga HGW.out) (Nat.ne_of_gt HGW.out)), hid (hk8.st4 X)⟩
        case rest =>
          obtain ⟨rfl, g8, rfl, hg8, hg8n, HW, HX⟩ := hcut
          obtain ⟨e0, e1, hgl⟩ := HAt.out wc HW.out.2.1.out
          obtain ⟨x0, x1, x2, x3⟩ := HX.out.cells
          obtain ⟨a0, a1, a2, a3⟩ := HW.out.2.2.2.out.cells
          clear S1 S2 HI
          go_wp2_with fail
          refine (either_any _ _ _).mono ?_
          rintro e w5 ⟨rfl, hb5⟩
          have HW5 : Hid (Sp w w1.heap.size (.slice (some ⟨g0, 0, none⟩) Q.length cap) Q.length (pv Q.reverse) C w2.heap.size (un S) w5) := HW.out.keep hb5
          rw [← HU.out]
          clear hb5 HW HX e0 e1 hgl x0 x1 x2 x3 a0 a1 a2 a3
          obtain ⟨e0, e1, hgl⟩ := HAt.out w5 HW5.out.2.1.out
          obtain ⟨a0, a1, a2, a3⟩ := HW5.out.2.2.2.out.cells
          obtain ⟨f0, f1, f2, f3⟩ := HW5.out.2.2.2.out.thaw
          have HW6 := HW5.out.put (un (p :: S)) hga
          obtain ⟨z0, z1, hzl⟩ := HAt.out _ HW6.2.1.out
          have HW7 : Hid (Sp w w1.heap.size (.slice (some ⟨g0, 0, none⟩) Q.length cap) Q.length (pv Q.reverse) C w2.heap.size (un (p :: S)) (st4 w5 w2.heap.size (un (p :: S)))) := HW6
          unfold st4 at z0 z1
          clear HW5 HW6 hzl
          dsimp only [cv]
          go_wp2_with fail
          go_roundw
          case rel => exact ⟨P', p :: S, by go_num, by rw [HLv.out], HP2, by simp; omega, HW7⟩
          case measure => simp [intOf]; omega
end Go.Proofs.YtcdkgcacmlolnaaDoor
