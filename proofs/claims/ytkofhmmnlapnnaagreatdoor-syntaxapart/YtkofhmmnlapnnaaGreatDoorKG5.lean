/-
  What class.Parse answers at any text. Conditions: the text is not longer than 2^53 bytes.
-/
import Derived.Test.YtkofhmmnlapnnaaGreatDoorKG4
namespace Go.Proofs.YtkofhmmnlapnnaaGreatDoor
open Go.RowKit
set_option linter.unusedVariables false
/-- What a call that reads a class hands back. -/
def Ans (r : Rs) (w : World) (e : Ending) (w' : World) : Prop :=
  match r with
  | .inr (C, n) => e = .returned (.tuple #[cv C, .int .i64 (n : Int), .nilIface]) ∧ Below w.heap.size w w'
  | .inl c => Bad (cv 0) c w e w'
def ng (r : Rs) : Rs :=
  match r with
  | .inl e => .inl e
  | .inr (C, n) => .inr (cnot C, n)
set_option maxRecDepth 100000 in
set_option maxHeartbeats 4000000 in
theorem parse_pos (S : ByteArray) (w : World) (h0 : bt S 0 = some 91) (h1 : ¬ bt S 1 = some 94) (hS : S.size ≤ 9007199254740992) :
    Calls Tryz.prog 55 #[.string S] w fun e w' => Ans (mm S 1 0) w e w' := by
  have H1 : Hid (∀ w : World, Calls Tryz.prog 65 #[.string S, .int .i64 0, .int .u8 91] w fun e w' => e = .returned (.bool true) ∧ Below w.heap.size w w') := fun w => begins_yes S 0 91 w h0 hS
  have H2 : Hid (∀ w : World, Calls Tryz.prog 65 #[.string S, .int .i64 1, .int .u8 94] w fun e w' => e = .returned (.bool false) ∧ Below w.heap.size w w') := fun w => begins_no S 1 94 w (by omega) h1 hS
  have hk0 : 1 ≤ S.size := (bt_lt h0).1
  obtain ⟨R, hR⟩ : ∃ R, R = mm S 1 0 := ⟨_, rfl⟩
  rw [← hR]
  have HR : Hid (mm S 1 0 = R) := hR.symm
  clear h0 h1 hR
  go_enter Tryz.func55, Tryz.ntmps55
  go_wp2_with fail
  refine (H1.out _).mono ?_
  rintro e w1 ⟨rfl, hb1⟩
  have HB1 : Hid (Below w.heap.size w w1) := ((Below.refl _ _).alloc (Nat.le_refl _) _).trans (hb1.mono (by simp))
  have HK1 : Hid (Blk w1 w.heap.size 0) := (Blk.new0 w).below hb1 (by simp)
  clear hb1
  go_wp2_with fail
  refine (H2.out _).mono ?_
  rintro e w2 ⟨rfl, hb2⟩
  have HB2 : Hid (Below w.heap.size w w2) := HB1.out.trans (hb2.mono HB1.out.size)
  have HK2 : Hid (Blk w2 w.heap.size 0) := HK1.out.below hb2 HK1.out.lt
  have hlt2 : w.heap.size < w2.heap.size := HK2.out.lt
  clear hb2 HK1 HB1
  go_wp2_with fail
  go_loopw [5] (fun a wr => ∃ (k acc : Nat), a = .int .i64 (k : Int) ∧ k ≤ S.size ∧ Hid (mm S k acc = R) ∧ Hid (acc < 2 ^ 256) ∧ Hid (Below w.heap.size w wr) ∧ Hid (Blk wr w.heap.size 0) ∧ Hid (Blk wr w2.heap.size acc)) (fun a _ => S.size - (intOf a).toNat)
  case atStart => exact ⟨1, 0, rfl, hk0, HR, hid (by decide +kernel), hid (HB2.out.alloc HB2.out.size _), hid (HK2.out.alloc _), hid (Blk.new0 w2)⟩
  case round =>
    obtain ⟨k, acc, rfl, hks, HM, HA, HB, HRb, HO⟩ := hrel
    by_cases h93 : bt S k = some 93
    · have hkk : k < S.size := (bt_lt h93).1
      have HE : Hid (∀ w : World, Calls Tryz.prog 65 #[.string S, .int .i64 (k : Int), .int .u8 93] w fun e w' => e = .returned (.bool true) ∧ Below w.heap.size w w') := fun w => begins_yes S k 93 w h93 hS
      have HRe : Hid (R = .inr (acc, k + 1)) := by show _ = _; rw [← HM.out, mm_end h93]
      have hn : ((k + 1 : Nat) : Int) = (k : Int) + 1 := by omega
      have HN : Hid (((k + 1 : Nat) : Int) = (k : Int) + 1) := hn
      clear h93 HM hn
      go_wp2_with fail
      refine (HE.out _).mono ?_
      rintro e w3 ⟨rfl, hb3⟩
      have HB3 : Hid (Below w.heap.size w w3) := HB.out.trans (hb3.mono HB.out.size)
      have HR3 : Hid (Blk w3 w.heap.size 0) := HRb.out.below hb3 HRb.out.lt
      have HO3 : Hid (Blk w3 w2.heap.size acc) := HO.out.below hb3 HO.out.lt
      clear hb3 HB HRb HO
      obtain ⟨c0, c1, c2, c3⟩ := HO3.out.cells
      obtain ⟨d0, d1, d2, d3⟩ := HR3.out.cells
      obtain ⟨f0, f1, f2, f3⟩ := HR3.out.thaw
      obtain ⟨r0, r1, r2, r3⟩ := (HR3.out.st4 acc).cells
      have HBe : Hid (Below w.heap.size w (st4 w3 w.heap.size acc)) := Below.st4 HB3.out (Nat.le_refl _) _
      unfold st4 at r0 r1 r2 r3
      clear HR3 HO3
      go_wp2_with fail
      refine bodyPost_ret (v := .tuple #[cv acc, .int .i64 ((k : Int) + 1), .nilIface]) (by simp [results, Tryz.results55, go_sem, r0, r1, r2, r3]) rfl ?_
      rw [HRe.out]
      exact ⟨by rw [HN.out], HBe.out⟩
    · have HE : Hid (∀ w : World, Calls Tryz.prog 65 #[.string S, .int .i64 (k : Int), .int .u8 93] w fun e w' => e = .returned (.bool false) ∧ Below w.heap.size w w') := fun w => begins_no S k 93 w (by omega) h93 hS
      cases hm : mbr S k with
      | inl c =>
        have HRe : Hid (R = .inl c) := by show _ = _; rw [← HM.out, mm_bad h93 hm]
        have HTm : Hid (∀ w : World, Calls Tryz.prog 67 #[.string S, .int .i64 (k : Int)] w fun e w' => Bad (cv 0) c w e w') := fun w => tmember_bad S k c w hm hS (by omega)
        rw [cv0] at HTm
        clear h93 HM hm
        go_wp2_with fail
        refine (HE.out _).mono ?_
        rintro e w3 ⟨rfl, hb3⟩
        have HB3 : Hid (Below w.heap.size w w3) := HB.out.trans (hb3.mono HB.out.size)
        have HR3 : Hid (Blk w3 w.heap.size 0) := HRb.out.below hb3 HRb.out.lt
        clear hb3 HB HRb HO
        go_wp2_with fail
        refine (HTm.out _).mono ?_
        rintro e w4 ⟨p, rfl, HP⟩
        have HB4 : Hid (Below w.heap.size w w4) := HB3.out.trans (HP.out.2.2.mono HB3.out.size)
        have HR4 : Hid (Blk w4 w.heap.size 0) := HR3.out.below HP.out.2.2 HR3.out.lt
        have HQ : Hid (Up w w4 p c) := ⟨Nat.le_trans HB3.out.size HP.out.1, fun e => by have h1 := HR3.out.lt; have h2 := HP.out.1; omega, HP.out.2.1⟩
        clear HP HB3 HR3
        obtain ⟨c0, c1, c2, c3⟩ := HR4.out.cells
        obtain ⟨f0, f1, f2, f3⟩ := HR4.out.thaw
        have hl4 : w.heap.size < w4.heap.size := HR4.out.lt
        obtain ⟨r0, r1, r2, r3⟩ := HR4.out.zeroA (.cells #[.int .u64 0, .int .u64 0, .int .u64 0, .int .u64 0] 30)
        unfold z4 at r0 r1 r2 r3
        unfold flv
        go_wp2_with fail
        (try simp only [Exit.inBlock, Exit.then])
        refine bodyPost_ret (v := .tuple #[.agg #[.int .u64 0, .int .u64 0, .int .u64 0, .int .u64 0], .int .i64 0, .iface 64 (.pointer (some ⟨p, 0, none⟩))]) (by simp [results, Tryz.results55, go_sem, r0, r1, r2, r3]) rfl ?_
        rw [HRe.out]
        exact ⟨p, by rw [cv0]; rfl, bad_endA HB4.out (Nat.le_refl _) HQ.out.2.2 HQ.out.1 HQ.out.2.1 _⟩
      | inr q =>
        obtain ⟨X, M⟩ := q
        have hok := mbr_ok hm
        have hkM : k < M := hok.2.1
        have hMs : M ≤ S.size := hok.2.2
        have HM2 : Hid (mm S M (acc ||| X) = R) := by show _ = _; rw [← HM.out, mm_on h93 hm]
        have HA2 : Hid (acc ||| X < 2 ^ 256) := Nat.or_lt_two_pow HA.out hok.1
        have HTm : Hid (∀ w : World, Calls Tryz.prog 67 #[.string S, .int .i64 (k : Int)] w fun e w' => e = .returned (.tuple #[cv X, .int .i64 (M : Int), .nilIface]) ∧ Below w.heap.size w w') := fun w => tmember_ok S k X M w hm hS
        clear h93 HM hm hok HA
        go_wp2_with fail
        refine (HE.out _).mono ?_
        rintro e w3 ⟨rfl, hb3⟩
        have HB3 : Hid (Below w.heap.size w w3) := HB.out.trans (hb3.mono HB.out.size)
        have HR3 : Hid (Blk w3 w.heap.size 0) := HRb.out.below hb3 HRb.out.lt
        have HO3 : Hid (Blk w3 w2.heap.size acc) := HO.out.below hb3 HO.out.lt
        clear hb3 HB HRb HO
        go_wp2_with fail
        refine (HTm.out _).mono ?_
        rintro e w4 ⟨rfl, hb4⟩
        have HB4 : Hid (Below w.heap.size w w4) := HB3.out.trans (hb4.mono HB3.out.size)
        have HR4 : Hid (Blk w4 w.heap.size 0) := HR3.out.below hb4 HR3.out.lt
        have HO4 : Hid (Blk w4 w2.heap.size acc) := HO3.out.below hb4 HO3.out.lt
        clear hb4 HB3 HR3 HO3
        obtain ⟨c0, c1, c2, c3⟩ := HO4.out.cells
        have hl4 : w2.heap.size < w4.heap.size := HO4.out.lt
        dsimp only [cv]
        go_wp2_with fail
        refine (either_any _ _ _).mono ?_
        rintro e w5 ⟨rfl, hb5⟩
        have hb5' : Below w4.heap.size w4 w5 := ((Below.refl _ _).alloc (Nat.le_refl _) _).trans (hb5.mono (by simp))
        have HB5 : Hid (Below w.heap.size w w5) := HB4.out.trans (hb5'.mono HB4.out.size)
        have HR5 : Hid (Blk w5 w.heap.size 0) := HR4.out.below hb5' HR4.out.lt
        have HO5 : Hid (Blk w5 w2.heap.size acc) := HO4.out.below hb5' HO4.out.lt
        clear hb5 hb5' HB4 HR4 HO4 c0 c1 c2 c3
        obtain ⟨c0, c1, c2, c3⟩ := HO5.out.cells
        obtain ⟨f0, f1, f2, f3⟩ := HO5.out.thaw
        dsimp only [cv]
        go_wp2_with fail
        go_roundw
        case rel => exact ⟨M, acc ||| X, rfl, hMs, HM2, HA2, hid (Below.st4 HB5.out (by omega) (acc ||| X)), hid (HR5.out.other (by omega)), hid (HO5.out.st4 _)⟩
        case measure => simp [intOf]; omega
set_option maxRecDepth 100000 in
set_option maxHeartbeats 4000000 in
theorem parse_neg (S : ByteArray) (w : World) (h0 : bt S 0 = some 91) (h1 :  bt S 1 = some 94) (hS : S.size ≤ 9007199254740992) :
    Calls Tryz.prog 55 #[.string S] w fun e w' => Ans (ng (mm S 2 0)) w e w' := by
  have H1 : Hid (∀ w : World, Calls Tryz.prog 65 #[.string S, .int .i64 0, .int .u8 91] w fun e w' => e = .returned (.bool true) ∧ Below w.heap.size w w') := fun w => begins_yes S 0 91 w h0 hS
  have H2 : Hid (∀ w : World, Calls Tryz.prog 65 #[.string S, .int .i64 1, .int .u8 94] w fun e w' => e = .returned (.bool true) ∧ Below w.heap.size w w') := fun w => begins_yes S 1 94 w h1 hS
  have hk0 : 2 ≤ S.size := (bt_lt h1).1
  obtain ⟨R, hR⟩ : ∃ R, R = mm S 2 0 := ⟨_, rfl⟩
  rw [← hR]
  have HR : Hid (mm S 2 0 = R) := hR.symm
  clear h0 h1 hR
  go_enter Tryz.func55, Tryz.ntmps55
  go_wp2_with fail
  refine (H1.out _).mono ?_
  rintro e w1 ⟨rfl, hb1⟩
  have HB1 : Hid (Below w.heap.size w w1) := ((Below.refl _ _).alloc (Nat.le_refl _) _).trans (hb1.mono (by simp))
  have HK1 : Hid (Blk w1 w.heap.size 0) := (Blk.new0 w).below hb1 (by simp)
  clear hb1
  go_wp2_with fail
  refine (H2.out _).mono ?_
  rintro e w2 ⟨rfl, hb2⟩
  have HB2 : Hid (Below w.heap.size w w2) := HB1.out.trans (hb2.mono HB1.out.size)
  have HK2 : Hid (Blk w2 w.heap.size 0) := HK1.out.below hb2 HK1.out.lt
  have hlt2 : w.heap.size < w2.heap.size := HK2.out.lt
  clear hb2 HK1 HB1
  go_wp2_with fail
  go_loopw [5] (fun a wr => ∃ (k acc : Nat), a = .int .i64 (k : Int) ∧ k ≤ S.size ∧ Hid (mm S k acc = R) ∧ Hid (acc < 2 ^ 256) ∧ Hid (Below w.heap.size w wr) ∧ Hid (Blk wr w.heap.size 0) ∧ Hid (Blk wr w2.heap.size acc)) (fun a _ => S.size - (intOf a).toNat)
  case atStart => exact ⟨2, 0, rfl, hk0, HR, hid (by decide +kernel), hid (HB2.out.alloc HB2.out.size _), hid (HK2.out.alloc _), hid (Blk.new0 w2)⟩
  case round =>
    obtain ⟨k, acc, rfl, hks, HM, HA, HB, HRb, HO⟩ := hrel
    by_cases h93 : bt S k = some 93
    · have hkk : k < S.size := (bt_lt h93).1
      have HE : Hid (∀ w : World, Calls Tryz.prog 65 #[.string S, .int .i64 (k : Int), .int .u8 93] w fun e w' => e = .returned (.bool true) ∧ Below w.heap.size w w') := fun w => begins_yes S k 93 w h93 hS
      have HRe : Hid (R = .inr (acc, k + 1)) := by show _ = _; rw [← HM.out, mm_end h93]
      have hn : ((k + 1 : Nat) : Int) = (k : Int) + 1 := by omega
      have HN : Hid (((k + 1 : Nat) : Int) = (k : Int) + 1) := hn
      clear h93 HM hn
      go_wp2_with fail
      refine (HE.out _).mono ?_
      rintro e w3 ⟨rfl, hb3⟩
      have HB3 : Hid (Below w.heap.size w w3) := HB.out.trans (hb3.mono HB.out.size)
      have HR3 : Hid (Blk w3 w.heap.size 0) := HRb.out.below hb3 HRb.out.lt
      have HO3 : Hid (Blk w3 w2.heap.size acc) := HO.out.below hb3 HO.out.lt
      clear hb3 HB HRb HO
      obtain ⟨c0, c1, c2, c3⟩ := HO3.out.cells
      go_wp2_with fail
      refine (not_any _ HA.out _).mono ?_
      rintro e w4 ⟨rfl, hb4⟩
      have HB4 : Hid (Below w.heap.size w w4) := HB3.out.trans (hb4.mono HB3.out.size)
      have HR4 : Hid (Blk w4 w.heap.size 0) := HR3.out.below hb4 HR3.out.lt
      have HO4 : Hid (Blk w4 w2.heap.size acc) := HO3.out.below hb4 HO3.out.lt
      clear hb4 HB3 HR3 HO3 c0 c1 c2 c3
      obtain ⟨c0, c1, c2, c3⟩ := HO4.out.cells
      obtain ⟨f0, f1, f2, f3⟩ := HO4.out.thaw
      have HR5 : Hid (Blk (st4 w4 w2.heap.size (cnot acc)) w.heap.size 0) := HR4.out.other (by omega)
      obtain ⟨d0, d1, d2, d3⟩ := HR5.out.cells
      obtain ⟨g0, g1, g2, g3⟩ := HR5.out.thaw
      obtain ⟨x0, x1, x2, x3⟩ := (HO4.out.st4 (cnot acc)).cells
      obtain ⟨r0, r1, r2, r3⟩ := (HR5.out.st4 (cnot acc)).cells
      have HBe : Hid (Below w.heap.size w (st4 (st4 w4 w2.heap.size (cnot acc)) w.heap.size (cnot acc))) := Below.st4 (Below.st4 HB4.out (by omega) _) (Nat.le_refl _) _
      unfold st4 at d0 d1 d2 d3 g0 g1 g2 g3 x0 x1 x2 x3 r0 r1 r2 r3
      clear HR4 HR5 HO4
      dsimp only [cv]
      go_wp2_with fail
      refine bodyPost_ret (v := .tuple #[cv (cnot acc), .int .i64 ((k : Int) + 1), .nilIface]) (by simp [results, Tryz.results55, go_sem, r0, r1, r2, r3]) rfl ?_
      rw [HRe.out]
      exact ⟨by rw [HN.out], HBe.out⟩
    · have HE : Hid (∀ w : World, Calls Tryz.prog 65 #[.string S, .int .i64 (k : Int), .int .u8 93] w fun e w' => e = .returned (.bool false) ∧ Below w.heap.size w w') := fun w => begins_no S k 93 w (by omega) h93 hS
      cases hm : mbr S k with
      | inl c =>
        have HRe : Hid (R = .inl c) := by show _ = _; rw [← HM.out, mm_bad h93 hm]
        have HTm : Hid (∀ w : World, Calls Tryz.prog 67 #[.string S, .int .i64 (k : Int)] w fun e w' => Bad (cv 0) c w e w') := fun w => tmember_bad S k c w hm hS (by omega)
        rw [cv0] at HTm
        clear h93 HM hm
        go_wp2_with fail
        refine (HE.out _).mono ?_
        rintro e w3 ⟨rfl, hb3⟩
        have HB3 : Hid (Below w.heap.size w w3) := HB.out.trans (hb3.mono HB.out.size)
        have HR3 : Hid (Blk w3 w.heap.size 0) := HRb.out.below hb3 HRb.out.lt
        clear hb3 HB HRb HO
        go_wp2_with fail
        refine (HTm.out _).mono ?_
        rintro e w4 ⟨p, rfl, HP⟩
        have HB4 : Hid (Below w.heap.size w w4) := HB3.out.trans (HP.out.2.2.mono HB3.out.size)
        have HR4 : Hid (Blk w4 w.heap.size 0) := HR3.out.below HP.out.2.2 HR3.out.lt
        have HQ : Hid (Up w w4 p c) := ⟨Nat.le_trans HB3.out.size HP.out.1, fun e => by have h1 := HR3.out.lt; have h2 := HP.out.1; omega, HP.out.2.1⟩
        clear HP HB3 HR3
        obtain ⟨c0, c1, c2, c3⟩ := HR4.out.cells
        obtain ⟨f0, f1, f2, f3⟩ := HR4.out.thaw
        have hl4 : w.heap.size < w4.heap.size := HR4.out.lt
        obtain ⟨r0, r1, r2, r3⟩ := HR4.out.zeroA (.cells #[.int .u64 0, .int .u64 0, .int .u64 0, .int .u64 0] 30)
        unfold z4 at r0 r1 r2 r3
        unfold flv
        go_wp2_with fail
        (try simp only [Exit.inBlock, Exit.then])
        refine bodyPost_ret (v := .tuple #[.agg #[.int .u64 0, .int .u64 0, .int .u64 0, .int .u64 0], .int .i64 0, .iface 64 (.pointer (some ⟨p, 0, none⟩))]) (by simp [results, Tryz.results55, go_sem, r0, r1, r2, r3]) rfl ?_
        rw [HRe.out]
        exact ⟨p, by rw [cv0]; rfl, bad_endA HB4.out (Nat.le_refl _) HQ.out.2.2 HQ.out.1 HQ.out.2.1 _⟩
      | inr q =>
        obtain ⟨X, M⟩ := q
        have hok := mbr_ok hm
        have hkM : k < M := hok.2.1
        have hMs : M ≤ S.size := hok.2.2
        have HM2 : Hid (mm S M (acc ||| X) = R) := by show _ = _; rw [← HM.out, mm_on h93 hm]
        have HA2 : Hid (acc ||| X < 2 ^ 256) := Nat.or_lt_two_pow HA.out hok.1
        have HTm : Hid (∀ w : World, Calls Tryz.prog 67 #[.string S, .int .i64 (k : Int)] w fun e w' => e = .returned (.tuple #[cv X, .int .i64 (M : Int), .nilIface]) ∧ Below w.heap.size w w') := fun w => tmember_ok S k X M w hm hS
        clear h93 HM hm hok HA
        go_wp2_with fail
        refine (HE.out _).mono ?_
        rintro e w3 ⟨rfl, hb3⟩
        have HB3 : Hid (Below w.heap.size w w3) := HB.out.trans (hb3.mono HB.out.size)
        have HR3 : Hid (Blk w3 w.heap.size 0) := HRb.out.below hb3 HRb.out.lt
        have HO3 : Hid (Blk w3 w2.heap.size acc) := HO.out.below hb3 HO.out.lt
        clear hb3 HB HRb HO
        go_wp2_with fail
        refine (HTm.out _).mono ?_
        rintro e w4 ⟨rfl, hb4⟩
        have HB4 : Hid (Below w.heap.size w w4) := HB3.out.trans (hb4.mono HB3.out.size)
        have HR4 : Hid (Blk w4 w.heap.size 0) := HR3.out.below hb4 HR3.out.lt
        have HO4 : Hid (Blk w4 w2.heap.size acc) := HO3.out.below hb4 HO3.out.lt
        clear hb4 HB3 HR3 HO3
        obtain ⟨c0, c1, c2, c3⟩ := HO4.out.cells
        have hl4 : w2.heap.size < w4.heap.size := HO4.out.lt
        dsimp only [cv]
        go_wp2_with fail
        refine (either_any _ _ _).mono ?_
        rintro e w5 ⟨rfl, hb5⟩
        have hb5' : Below w4.heap.size w4 w5 := ((Below.refl _ _).alloc (Nat.le_refl _) _).trans (hb5.mono (by simp))
        have HB5 : Hid (Below w.heap.size w w5) := HB4.out.trans (hb5'.mono HB4.out.size)
        have HR5 : Hid (Blk w5 w.heap.size 0) := HR4.out.below hb5' HR4.out.lt
        have HO5 : Hid (Blk w5 w2.heap.size acc) := HO4.out.below hb5' HO4.out.lt
        clear hb5 hb5' HB4 HR4 HO4 c0 c1 c2 c3
        obtain ⟨c0, c1, c2, c3⟩ := HO5.out.cells
        obtain ⟨f0, f1, f2, f3⟩ := HO5.out.thaw
        dsimp only [cv]
        go_wp2_with fail
        go_roundw
        case rel => exact ⟨M, acc ||| X, rfl, hMs, HM2, HA2, hid (Below.st4 HB5.out (by omega) (acc ||| X)), hid (HR5.out.other (by omega)), hid (HO5.out.st4 _)⟩
        case measure => simp [intOf]; omega
set_option maxRecDepth 100000 in
set_option maxHeartbeats 2000000 in
theorem parse_none (S : ByteArray) (w : World) (h0 : ¬ bt S 0 = some 91) (hS : S.size ≤ 9007199254740992) :
    Calls Tryz.prog 55 #[.string S] w fun e w' => Bad (cv 0) (flt S 0) w e w' := by
  have H1 : Hid (∀ w : World, Calls Tryz.prog 65 #[.string S, .int .i64 0, .int .u8 91] w fun e w' => e = .returned (.bool false) ∧ Below w.heap.size w w') := fun w => begins_no S 0 91 w (by omega) h0 hS
  obtain ⟨c, hc⟩ : ∃ c, c = flt S 0 := ⟨_, rfl⟩
  rw [← hc]
  have HF : Hid (flt S 0 = c) := hc.symm
  clear h0 hc
  rw [cv0]
  go_enter Tryz.func55, Tryz.ntmps55
  go_wp2_with fail
  refine (H1.out _).mono ?_
  rintro e w1 ⟨rfl, hb1⟩
  have HB1 : Hid (Below w.heap.size w w1) := ((Below.refl _ _).alloc (Nat.le_refl _) _).trans (hb1.mono (by simp))
  have HK1 : Hid (Blk w1 w.heap.size 0) := (Blk.new0 w).below hb1 (by simp)
  clear hb1
  go_wp2_with fail
  refine (fault_at S 0 c w1 _ HF.out hS (by omega) (Below.refl _ _)).mono ?_
  rintro e w3 ⟨p, rfl, HP⟩
  have HB3 : Hid (Below w.heap.size w w3) := HB1.out.trans (HP.out.2.2.mono HB1.out.size)
  have HK3 : Hid (Blk w3 w.heap.size 0) := HK1.out.below HP.out.2.2 HK1.out.lt
  have HQ : Hid (Up w w3 p c) := ⟨Nat.le_trans HB1.out.size HP.out.1, fun e => by have h1 := HK1.out.lt; have h2 := HP.out.1; omega, HP.out.2.1⟩
  clear HP HK1
  obtain ⟨c0, c1, c2, c3⟩ := HK3.out.cells
  obtain ⟨f0, f1, f2, f3⟩ := HK3.out.thaw
  obtain ⟨r0, r1, r2, r3⟩ := HK3.out.zero
  unfold z4 at r0 r1 r2 r3
  unfold flv
  go_wp2_with fail
  refine bodyPost_ret (v := .tuple #[.agg #[.int .u64 0, .int .u64 0, .int .u64 0, .int .u64 0], .int .i64 0, .iface 64 (.pointer (some ⟨p, 0, none⟩))]) (by simp [results, Tryz.results55, go_sem, r0, r1, r2, r3]) rfl ⟨p, rfl, bad_end HB3.out (Nat.le_refl _) HQ.out.2.2 HQ.out.1 HQ.out.2.1⟩
theorem clsP_ng (S : ByteArray) : clsP S = if bt S 0 = some 91 then (if bt S 1 = some 94 then ng (mm S 2 0) else mm S 1 0) else .inl (flt S 0) := rfl
/-- class.Parse at any text. -/
theorem parse_all (S : ByteArray) (w : World) (hS : S.size ≤ 9007199254740992) :
    Calls Tryz.prog 55 #[.string S] w fun e w' => Ans (clsP S) w e w' := by
  rw [clsP_ng]
  by_cases h0 : bt S 0 = some 91
  · rw [if_pos h0]
    by_cases h1 : bt S 1 = some 94
    · rw [if_pos h1]; exact parse_neg S w h0 h1 hS
    · rw [if_neg h1]; exact parse_pos S w h0 h1 hS
  · rw [if_neg h0]; exact parse_none S w h0 hS
theorem clsP_ok {S : ByteArray} {C n : Nat} (h : clsP S = .inr (C, n)) : C < 2 ^ 256 ∧ 0 < n ∧ n ≤ S.size := by
  rw [clsP_ng] at h
  split at h
  · split at h
    · cases hm : mm S 2 0 with
      | inl e => rw [hm] at h; cases h
      | inr q =>
        obtain ⟨D, m⟩ := q
        rw [hm] at h
        have h1 := mm_ok (by decide +kernel) hm
        simp only [ng, Sum.inr.injEq, Prod.mk.injEq] at h
        refine ⟨?_, by omega, by omega⟩
        rw [← h.1]
        unfold cnot all256
        omega
    · have h1 := mm_ok (by decide +kernel) h
      exact ⟨h1.1, by omega, h1.2.2⟩
  · cases h
end Go.Proofs.YtkofhmmnlapnnaaGreatDoor
