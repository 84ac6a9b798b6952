/-
  What the document's own Parse answers at a text that begins with a class. Conditions: those that each theorem names.
-/
import Derived.Test.YtbdhgfblkgkekaaDoorXR3
namespace Go.Proofs.YtbdhgfblkgkekaaDoor
open Go.RowKit
set_option linter.unusedVariables false
set_option maxRecDepth 100000 in
set_option maxHeartbeats 8000000 in
theorem rparse_pos (S : ByteArray) (w : World) (h0 : bt S 0 = some 91) (h1 : ¬ bt S 1 = some 94) (hS : S.size ≤ 9007199254740992) :
    Calls Tryd.prog 40 #[.string S] w fun e w' => e = .returned (rA (mm S 1 0)) ∧ Below w.heap.size w w' := by
  obtain ⟨hk0', hx0⟩ := bt_at h0
  have hz0 : ((S.size : Int) == 0) = false := by rw [beq_eq_false_iff_ne]; omega
  have hz0' : ¬ S.size = 0 := by omega
  have hkI0 : (0 : Int) < (S.size : Int) := by omega
  have hk0 : 1 ≤ S.size := (bt_lt h0).1
  obtain ⟨R, hR⟩ : ∃ R, R = mm S 1 0 := ⟨_, rfl⟩
  rw [← hR]
  have HR : Hid (mm S 1 0 = R) := hR.symm
  clear hR
  cases hb1 : bt S 1 with
  | none =>
    have hge1 := bt_none hb1
    have d1 : decide ((1 : Int) < (S.size : Int)) = false := by simp; omega
    have d1' : ¬ 1 < S.size := by omega
    have hz1 : S.size = 1 := by omega
    have HRe : Hid (R = .inl (3, 1)) := by show _ = _; rw [← HR.out, mm_bad (by rw [hb1]; simp) (by unfold mbr sg; rw [hb1])]; rw [flt_end hge1, hz1]
    have HS1 : Hid (∀ w : World, Calls Tryd.prog 55 #[.string S, .int .i64 1] w fun e w' => e = .returned (.tuple #[.int .i64 0, .int .i64 1, .int .i64 3]) ∧ w' = w) := fun w => by
      have h := rsign_any S 1 w hS
      rw [show sg S 1 = .inl (3, 1) by unfold sg; rw [hb1]; simp only; rw [flt_end hge1, hz1]] at h
      exact h
    clear h0 h1 hb1 hz1
    go_enter Tryd.func40, Tryd.ntmps40
    go_wp2_with fail
    refine wp_loop_rounds 1 ?_
    rw [rounds_succ]
    go_wp2_with fail
    refine (HS1.out _).mono ?_
    rintro e w3 ⟨rfl, rfl⟩
    go_wp2_with fail
    (try simp only [Exit.inBlock, Exit.then])
    refine bodyPost_ret (v := .tuple #[.agg #[.int .u64 0, .int .u64 0, .int .u64 0, .int .u64 0], .int .i64 1, .int .i64 3]) (by simp [results, Tryd.results40, go_sem]) rfl ?_
    rw [HRe.out]
    exact ⟨by unfold rA; simp only; rw [cv0]; try rfl, ((Below.refl _ _).alloc (Nat.le_refl _) _).alloc (by simp) _⟩
  | some y1 =>
    have hyl1 := (bt_lt hb1).2
    obtain ⟨hk1, hx1⟩ := bt_at hb1
    have hk1I : (1 : Int) < (S.size : Int) := by omega
    have d1 : decide ((1 : Int) < (S.size : Int)) = true := by simp; omega
    have d2 : ((y1 : Int) == 94) = false := by rw [beq_eq_false_iff_ne]; intro e; exact h1 (by rw [hb1]; congr 1; omega)
    clear h0 h1 hb1
    go_enter Tryd.func40, Tryd.ntmps40
    go_wp2_with fail
    go_loopw [6] (fun a wr => ∃ (k acc : Nat), a = .int .i64 (k : Int) ∧ k ≤ S.size ∧ Hid (mm S k acc = R) ∧ Hid (acc < 2 ^ 256) ∧ Hid (Below w.heap.size w wr) ∧ Hid (Blk wr w.heap.size 0) ∧ Hid (Blk wr (w.heap.size + 1) acc)) (fun a _ => S.size - (intOf a).toNat)
    case atStart =>
      refine ⟨1, 0, rfl, hk0, HR, hid (by decide +kernel), hid (((Below.refl _ _).alloc (Nat.le_refl _) _).alloc (by simp) _), hid ((Blk.new0 w).alloc _), ?_⟩
      have h2 := Blk.new0 (w.alloc (.cells #[.int .u64 0, .int .u64 0, .int .u64 0, .int .u64 0] 36))
      rw [World.size_alloc] at h2
      exact hid h2
    case round =>
      obtain ⟨k, acc, rfl, hks, HM, HA, HB, HRb, HO⟩ := hrel
      clear hx0
      by_cases h93 : bt S k = some 93
      · obtain ⟨hkk, hxk⟩ := bt_at h93
        have hkI : (k : Int) < (S.size : Int) := by omega
        have a0 : decide ((S.size : Int) ≤ (k : Int)) = false := by simp; omega
        have HRe : Hid (R = .inr (acc, k + 1)) := by show _ = _; rw [← HM.out, mm_end h93]
        have HN : Hid (((k + 1 : Nat) : Int) = (k : Int) + 1) := by show _ = _; omega
        clear h93 HM
        obtain ⟨c0, c1, c2, c3⟩ := HO.out.cells
        obtain ⟨d0, d1, d2, d3⟩ := HRb.out.cells
        obtain ⟨f0, f1, f2, f3⟩ := HRb.out.thaw
        obtain ⟨r0, r1, r2, r3'⟩ := (HRb.out.st4 acc).cells
        have HBe : Hid (Below w.heap.size w (st4 wr w.heap.size acc)) := Below.st4 HB.out (Nat.le_refl _) _
        unfold st4 at r0 r1 r2 r3'
        clear HRb HO
        go_wp2_with fail
        refine bodyPost_ret (v := .tuple #[cv acc, .int .i64 ((k : Int) + 1), .int .i64 0]) (by simp [results, Tryd.results40, go_sem, r0, r1, r2, r3']) rfl ?_
        rw [HRe.out]
        exact ⟨by unfold rA; simp only; rw [HN.out], HBe.out⟩
      · cases hb0 : bt S k with
        | none =>
          have hge := bt_none hb0
          have a0 : decide ((S.size : Int) ≤ (k : Int)) = true := by simp; omega
          obtain ⟨c, hs⟩ : ∃ c, sg S k = .inl c := ⟨flt S k, by unfold sg; rw [hb0]⟩
          have hc0 : (((c.1 : Nat) : Int) != 0) = true := by have := sg_bad_code hs; rw [bne_iff_ne]; omega
          have HRe : Hid (R = .inl c) := by show _ = _; rw [← HM.out, mm_bad h93 (by unfold mbr; rw [hs])]
          have HS1 : Hid (∀ w : World, Calls Tryd.prog 55 #[.string S, .int .i64 (k : Int)] w fun e w' => e = .returned (.tuple #[.int .i64 0, .int .i64 (c.2 : Int), .int .i64 (c.1 : Int)]) ∧ w' = w) := fun w => by have h := rsign_any S k w hS; rw [hs] at h; exact h
          clear h93 HM hs hb0
          go_wp2_with fail
          refine (HS1.out _).mono ?_
          rintro e w3 ⟨rfl, rfl⟩
          obtain ⟨c0, c1, c2, c3⟩ := HRb.out.cells
          obtain ⟨f0, f1, f2, f3⟩ := HRb.out.thaw
          obtain ⟨r0, r1, r2, r3'⟩ := HRb.out.zero
          unfold z4 at r0 r1 r2 r3'
          go_wp2_with fail
          (try simp only [Exit.inBlock, Exit.then])
          refine bodyPost_ret (v := .tuple #[.agg #[.int .u64 0, .int .u64 0, .int .u64 0, .int .u64 0], .int .i64 (c.2 : Int), .int .i64 (c.1 : Int)]) (by simp [results, Tryd.results40, go_sem, r0, r1, r2, r3']) rfl ?_
          rw [HRe.out]
          refine ⟨by unfold rA; simp only; rw [cv0]; try rfl, ?_⟩
          have hbe := Below.st4 HB.out (Nat.le_refl _) 0
          rw [← z4_eq] at hbe
          exact hbe
        | some x =>
          have hxl := (bt_lt hb0).2
          obtain ⟨hkk, hxk⟩ := bt_at hb0
          have hkI : (k : Int) < (S.size : Int) := by omega
          have a0 : decide ((S.size : Int) ≤ (k : Int)) = false := by simp; omega
          have hx93 : x ≠ 93 := fun e => h93 (by rw [hb0, e])
          have n93 : ((x : Int) != 93) = true := by rw [bne_iff_ne]; omega
          cases hs : sg S k with
          | inl c =>
            have hc0 : (((c.1 : Nat) : Int) != 0) = true := by have := sg_bad_code hs; rw [bne_iff_ne]; omega
            have HRe : Hid (R = .inl c) := by show _ = _; rw [← HM.out, mm_bad h93 (by unfold mbr; rw [hs])]
            have HS1 : Hid (∀ w : World, Calls Tryd.prog 55 #[.string S, .int .i64 (k : Int)] w fun e w' => e = .returned (.tuple #[.int .i64 0, .int .i64 (c.2 : Int), .int .i64 (c.1 : Int)]) ∧ w' = w) := fun w => by have h := rsign_any S k w hS; rw [hs] at h; exact h
            clear h93 HM hs hb0
            go_wp2_with fail
            refine (HS1.out _).mono ?_
            rintro e w3 ⟨rfl, rfl⟩
            obtain ⟨c0, c1, c2, c3⟩ := HRb.out.cells
            obtain ⟨f0, f1, f2, f3⟩ := HRb.out.thaw
            obtain ⟨r0, r1, r2, r3'⟩ := HRb.out.zero
            unfold z4 at r0 r1 r2 r3'
            go_wp2_with fail
            (try simp only [Exit.inBlock, Exit.then])
            refine bodyPost_ret (v := .tuple #[.agg #[.int .u64 0, .int .u64 0, .int .u64 0, .int .u64 0], .int .i64 (c.2 : Int), .int .i64 (c.1 : Int)]) (by simp [results, Tryd.results40, go_sem, r0, r1, r2, r3']) rfl ?_
            rw [HRe.out]
            refine ⟨by unfold rA; simp only; rw [cv0]; try rfl, ?_⟩
            have hbe := Below.st4 HB.out (Nat.le_refl _) 0
            rw [← z4_eq] at hbe
            exact hbe
          | inr q =>
            obtain ⟨lo, n⟩ := q
            have hok := sg_ok hs
            have HS1 : Hid (∀ w : World, Calls Tryd.prog 55 #[.string S, .int .i64 (k : Int)] w fun e w' => e = .returned (.tuple #[.int .i64 (lo : Int), .int .i64 (n : Int), .int .i64 0]) ∧ w' = w) := fun w => by have h := rsign_any S k w hS; rw [hs] at h; exact h
            cases hbn : bt S n with
            | none =>
              have hgn := bt_none hbn
              have g0 : decide ((n : Int) < (S.size : Int)) = false := by simp; omega
              have hmb : mbr S k = .inr (seg lo (lo + 1), n) := by unfold mbr; rw [hs]; simp only; rw [hbn, if_neg (by simp)]
              have hkn : k < n := hok.2.1
              have hNs : n ≤ S.size := hok.2.2
              have hlo : lo < 256 := hok.1
              have HM2 : Hid (mm S n (acc ||| seg lo (lo + 1)) = R) := by show _ = _; rw [← HM.out, mm_on h93 hmb]
              have HA2 : Hid (acc ||| seg lo (lo + 1) < 2 ^ 256) := Nat.or_lt_two_pow HA.out (mbr_ok hmb).1
              clear h93 HM hs hb0 hbn hx93 hok hmb HA
              go_wp2_with fail
              refine (HS1.out _).mono ?_
              rintro e w3 ⟨rfl, rfl⟩
              go_wp2_with fail
              go_loopw [12] (fun bv wq => ∃ (b : Nat), bv = .int .i64 (b : Int) ∧ lo ≤ b ∧ b ≤ lo + 1 ∧ Hid (Below w.heap.size w wq) ∧ Hid (Blk wq w.heap.size 0) ∧ Hid (Blk wq (w.heap.size + 1) (acc ||| seg lo b))) (fun bv _ => lo + 1 - (intOf bv).toNat)
              case atStart => exact ⟨lo, rfl, Nat.le_refl _, by omega, HB, HRb, by rw [seg_zero, Nat.or_zero]; exact HO⟩
              case round =>
                obtain ⟨b, rfl, hb1, hb2, HBq, HRq, HOq⟩ := hrel
                by_cases hbh : b ≤ lo
                · have lb : decide ((b : Int) ≤ (lo : Int)) = true := by simp; omega
                  have HW : Hid (∀ w : World, Calls Tryd.prog 56 #[cv (acc ||| seg lo b), .int .i64 (b : Int)] w fun e w' => e = .returned (cv (acc ||| seg lo (b + 1))) ∧ Below w.heap.size w w') := fun w => by have h := rwith_any (acc ||| seg lo b) b w (by omega); rw [seg_or_step acc lo b hb1] at h; exact h
                  obtain ⟨c0, c1, c2, c3⟩ := HOq.out.cells
                  go_wp2_with fail
                  refine (HW.out _).mono ?_
                  rintro e w5 ⟨rfl, hb5⟩
                  have HB5 : Hid (Below w.heap.size w w5) := HBq.out.trans (hb5.mono HBq.out.size)
                  have HR5 : Hid (Blk w5 w.heap.size 0) := HRq.out.below hb5 HRq.out.lt
                  have HO5 : Hid (Blk w5 (w.heap.size + 1) (acc ||| seg lo b)) := HOq.out.below hb5 HOq.out.lt
                  clear hb5 HBq HRq HOq c0 c1 c2 c3
                  obtain ⟨c0, c1, c2, c3⟩ := HO5.out.cells
                  obtain ⟨f0, f1, f2, f3⟩ := HO5.out.thaw
                  dsimp only [cv]
                  go_wp2_with fail
                  go_roundw
                  case rel => exact ⟨b + 1, by go_num, by omega, by omega, hid (Below.st4 HB5.out (by omega) (acc ||| seg lo (b + 1))), hid (HR5.out.other (by omega)), hid (HO5.out.st4 _)⟩
                  case measure => simp [intOf]; omega
                · have lb : decide ((b : Int) ≤ (lo : Int)) = false := by simp; omega
                  have HO6 := blk_seg HOq (show b = lo + 1 by omega)
                  clear HOq
                  go_wp2_with fail
                  go_roundw
                  case rel => exact ⟨n, acc ||| seg lo (lo + 1), rfl, hNs, HM2, HA2, HBq, HRq, HO6⟩
                  case measure => simp [intOf]; omega
            | some z =>
              have hzl := (bt_lt hbn).2
              obtain ⟨hnk, hzk⟩ := bt_at hbn
              have hnI : (n : Int) < (S.size : Int) := by omega
              have g0 : decide ((n : Int) < (S.size : Int)) = true := by simp; omega
              by_cases h45 : z = 45
              · subst h45
                cases hs2 : sg S (n + 1) with
                | inl c =>
                  have hc0 : (((c.1 : Nat) : Int) != 0) = true := by have := sg_bad_code hs2; rw [bne_iff_ne]; omega
                  have HRe : Hid (R = .inl c) := by show _ = _; rw [← HM.out, mm_bad h93 (by unfold mbr; rw [hs]; simp only; rw [hbn, if_pos rfl, hs2])]
                  have HS2 : Hid (∀ w : World, Calls Tryd.prog 55 #[.string S, .int .i64 ((n : Int) + 1)] w fun e w' => e = .returned (.tuple #[.int .i64 0, .int .i64 (c.2 : Int), .int .i64 (c.1 : Int)]) ∧ w' = w) := fun w => by have h := rsign_any S (n + 1) w hS; rw [hs2, show ((n + 1 : Nat) : Int) = (n : Int) + 1 by omega] at h; exact h
                  clear h93 HM hs hs2 hb0 hbn hx93
                  go_wp2_with fail
                  refine (HS1.out _).mono ?_
                  rintro e w3 ⟨rfl, rfl⟩
                  go_wp2_with fail
                  refine (HS2.out _).mono ?_
                  rintro e w3 ⟨rfl, rfl⟩
                  obtain ⟨c0, c1, c2, c3⟩ := HRb.out.cells
                  obtain ⟨f0, f1, f2, f3⟩ := HRb.out.thaw
                  obtain ⟨r0, r1, r2, r3'⟩ := HRb.out.zero
                  unfold z4 at r0 r1 r2 r3'
                  go_wp2_with fail
                  (try simp only [Exit.inBlock, Exit.then])
                  refine bodyPost_ret (v := .tuple #[.agg #[.int .u64 0, .int .u64 0, .int .u64 0, .int .u64 0], .int .i64 (c.2 : Int), .int .i64 (c.1 : Int)]) (by simp [results, Tryd.results40, go_sem, r0, r1, r2, r3']) rfl ?_
                  rw [HRe.out]
                  refine ⟨by unfold rA; simp only; rw [cv0]; try rfl, ?_⟩
                  have hbe := Below.st4 HB.out (Nat.le_refl _) 0
                  rw [← z4_eq] at hbe
                  exact hbe
                | inr q2 =>
                  obtain ⟨hi, n2⟩ := q2
                  have hok2 := sg_ok hs2
                  have HS2 : Hid (∀ w : World, Calls Tryd.prog 55 #[.string S, .int .i64 ((n : Int) + 1)] w fun e w' => e = .returned (.tuple #[.int .i64 (hi : Int), .int .i64 (n2 : Int), .int .i64 0]) ∧ w' = w) := fun w => by have h := rsign_any S (n + 1) w hS; rw [hs2, show ((n + 1 : Nat) : Int) = (n : Int) + 1 by omega] at h; exact h
                  by_cases hlt : hi < lo
                  · have HRe : Hid (R = .inl (4, k)) := by show _ = _; rw [← HM.out, mm_bad h93 (by unfold mbr; rw [hs]; simp only; rw [hbn, if_pos rfl, hs2]; simp only; rw [if_pos hlt])]; rw [flt_form hkk]
                    have e1 : decide ((hi : Int) < (lo : Int)) = true := by simp; omega
                    clear h93 HM hs hs2 hb0 hbn hx93 hok hok2
                    go_wp2_with fail
                    refine (HS1.out _).mono ?_
                    rintro e w3 ⟨rfl, rfl⟩
                    go_wp2_with fail
                    refine (HS2.out _).mono ?_
                    rintro e w3 ⟨rfl, rfl⟩
                    obtain ⟨c0, c1, c2, c3⟩ := HRb.out.cells
                    obtain ⟨f0, f1, f2, f3⟩ := HRb.out.thaw
                    obtain ⟨r0, r1, r2, r3'⟩ := HRb.out.zero
                    unfold z4 at r0 r1 r2 r3'
                    go_wp2_with fail
                    (try simp only [Exit.inBlock, Exit.then])
                    refine bodyPost_ret (v := .tuple #[.agg #[.int .u64 0, .int .u64 0, .int .u64 0, .int .u64 0], .int .i64 (k : Int), .int .i64 (4 : Int)]) (by simp [results, Tryd.results40, go_sem, r0, r1, r2, r3']) rfl ?_
                    rw [HRe.out]
                    refine ⟨by unfold rA; simp only; rw [cv0]; try rfl, ?_⟩
                    have hbe := Below.st4 HB.out (Nat.le_refl _) 0
                    rw [← z4_eq] at hbe
                    exact hbe
                  · have e1 : decide ((hi : Int) < (lo : Int)) = false := by simp; omega
                    have e2 : lo ≤ hi := by omega
                    have hhi : hi < 256 := hok2.1
                    have hmb : mbr S k = .inr (seg lo (hi + 1), n2) := by unfold mbr; rw [hs]; simp only; rw [hbn, if_pos rfl, hs2]; simp only; rw [if_neg hlt]
                    have hkn : k < n2 := by omega
                    have hNs : n2 ≤ S.size := hok2.2.2
                    have HM2 : Hid (mm S n2 (acc ||| seg lo (hi + 1)) = R) := by show _ = _; rw [← HM.out, mm_on h93 hmb]
                    have HA2 : Hid (acc ||| seg lo (hi + 1) < 2 ^ 256) := Nat.or_lt_two_pow HA.out (mbr_ok hmb).1
                    clear h93 HM hs hs2 hb0 hbn hx93 hok hok2 hmb hlt HA
                    go_wp2_with fail
                    refine (HS1.out _).mono ?_
                    rintro e w3 ⟨rfl, rfl⟩
                    go_wp2_with fail
                    refine (HS2.out _).mono ?_
                    rintro e w3 ⟨rfl, rfl⟩
                    go_wp2_with fail
                    go_loopw [12] (fun bv wq => ∃ (b : Nat), bv = .int .i64 (b : Int) ∧ lo ≤ b ∧ b ≤ hi + 1 ∧ Hid (Below w.heap.size w wq) ∧ Hid (Blk wq w.heap.size 0) ∧ Hid (Blk wq (w.heap.size + 1) (acc ||| seg lo b))) (fun bv _ => hi + 1 - (intOf bv).toNat)
                    case atStart => exact ⟨lo, rfl, Nat.le_refl _, by omega, HB, HRb, by rw [seg_zero, Nat.or_zero]; exact HO⟩
                    case round =>
                      obtain ⟨b, rfl, hb1, hb2, HBq, HRq, HOq⟩ := hrel
                      by_cases hbh : b ≤ hi
                      · have lb : decide ((b : Int) ≤ (hi : Int)) = true := by simp; omega
                        have HW : Hid (∀ w : World, Calls Tryd.prog 56 #[cv (acc ||| seg lo b), .int .i64 (b : Int)] w fun e w' => e = .returned (cv (acc ||| seg lo (b + 1))) ∧ Below w.heap.size w w') := fun w => by have h := rwith_any (acc ||| seg lo b) b w (by omega); rw [seg_or_step acc lo b hb1] at h; exact h
                        obtain ⟨c0, c1, c2, c3⟩ := HOq.out.cells
                        go_wp2_with fail
                        refine (HW.out _).mono ?_
                        rintro e w5 ⟨rfl, hb5⟩
                        have HB5 : Hid (Below w.heap.size w w5) := HBq.out.trans (hb5.mono HBq.out.size)
                        have HR5 : Hid (Blk w5 w.heap.size 0) := HRq.out.below hb5 HRq.out.lt
                        have HO5 : Hid (Blk w5 (w.heap.size + 1) (acc ||| seg lo b)) := HOq.out.below hb5 HOq.out.lt
                        clear hb5 HBq HRq HOq c0 c1 c2 c3
                        obtain ⟨c0, c1, c2, c3⟩ := HO5.out.cells
                        obtain ⟨f0, f1, f2, f3⟩ := HO5.out.thaw
                        dsimp only [cv]
                        go_wp2_with fail
                        go_roundw
                        case rel => exact ⟨b + 1, by go_num, by omega, by omega, hid (Below.st4 HB5.out (by omega) (acc ||| seg lo (b + 1))), hid (HR5.out.other (by omega)), hid (HO5.out.st4 _)⟩
                        case measure => simp [intOf]; omega
                      · have lb : decide ((b : Int) ≤ (hi : Int)) = false := by simp; omega
                        have HO6 := blk_seg HOq (show b = hi + 1 by omega)
                        clear HOq
                        go_wp2_with fail
                        go_roundw
                        case rel => exact ⟨n2, acc ||| seg lo (hi + 1), rfl, hNs, HM2, HA2, HBq, HRq, HO6⟩
                        case measure => simp [intOf]; omega
              · have n45 : ((z : Int) == 45) = false := by rw [beq_eq_false_iff_ne]; omega
                have hmb : mbr S k = .inr (seg lo (lo + 1), n) := by unfold mbr; rw [hs]; simp only; rw [hbn, if_neg (by simpa using h45)]
                have hkn : k < n := hok.2.1
                have hNs : n ≤ S.size := hok.2.2
                have hlo : lo < 256 := hok.1
                have HM2 : Hid (mm S n (acc ||| seg lo (lo + 1)) = R) := by show _ = _; rw [← HM.out, mm_on h93 hmb]
                have HA2 : Hid (acc ||| seg lo (lo + 1) < 2 ^ 256) := Nat.or_lt_two_pow HA.out (mbr_ok hmb).1
                clear h93 HM hs hb0 hbn hx93 hok hmb HA
                go_wp2_with fail
                refine (HS1.out _).mono ?_
                rintro e w3 ⟨rfl, rfl⟩
                go_wp2_with fail
                go_loopw [12] (fun bv wq => ∃ (b : Nat), bv = .int .i64 (b : Int) ∧ lo ≤ b ∧ b ≤ lo + 1 ∧ Hid (Below w.heap.size w wq) ∧ Hid (Blk wq w.heap.size 0) ∧ Hid (Blk wq (w.heap.size + 1) (acc ||| seg lo b))) (fun bv _ => lo + 1 - (intOf bv).toNat)
                case atStart => exact ⟨lo, rfl, Nat.le_refl _, by omega, HB, HRb, by rw [seg_zero, Nat.or_zero]; exact HO⟩
                case round =>
                  obtain ⟨b, rfl, hb1, hb2, HBq, HRq, HOq⟩ := hrel
                  by_cases hbh : b ≤ lo
                  · have lb : decide ((b : Int) ≤ (lo : Int)) = true := by simp; omega
                    have HW : Hid (∀ w : World, Calls Tryd.prog 56 #[cv (acc ||| seg lo b), .int .i64 (b : Int)] w fun e w' => e = .returned (cv (acc ||| seg lo (b + 1))) ∧ Below w.heap.size w w') := fun w => by have h := rwith_any (acc ||| seg lo b) b w (by omega); rw [seg_or_step acc lo b hb1] at h; exact h
                    obtain ⟨c0, c1, c2, c3⟩ := HOq.out.cells
                    go_wp2_with fail
                    refine (HW.out _).mono ?_
                    rintro e w5 ⟨rfl, hb5⟩
                    have HB5 : Hid (Below w.heap.size w w5) := HBq.out.trans (hb5.mono HBq.out.size)
                    have HR5 : Hid (Blk w5 w.heap.size 0) := HRq.out.below hb5 HRq.out.lt
                    have HO5 : Hid (Blk w5 (w.heap.size + 1) (acc ||| seg lo b)) := HOq.out.below hb5 HOq.out.lt
                    clear hb5 HBq HRq HOq c0 c1 c2 c3
                    obtain ⟨c0, c1, c2, c3⟩ := HO5.out.cells
                    obtain ⟨f0, f1, f2, f3⟩ := HO5.out.thaw
                    dsimp only [cv]
                    go_wp2_with fail
                    go_roundw
                    case rel => exact ⟨b + 1, by go_num, by omega, by omega, hid (Below.st4 HB5.out (by omega) (acc ||| seg lo (b + 1))), hid (HR5.out.other (by omega)), hid (HO5.out.st4 _)⟩
                    case measure => simp [intOf]; omega
                  · have lb : decide ((b : Int) ≤ (lo : Int)) = false := by simp; omega
                    have HO6 := blk_seg HOq (show b = lo + 1 by omega)
                    clear HOq
                    go_wp2_with fail
                    go_roundw
                    case rel => exact ⟨n, acc ||| seg lo (lo + 1), rfl, hNs, HM2, HA2, HBq, HRq, HO6⟩
                    case measure => simp [intOf]; omega
end Go.Proofs.YtbdhgfblkgkekaaDoor
