/-
  What class.takeMember answers where a member stands. Conditions: those that each theorem names.
-/
import Derived.Test.YtcdkgcacmlolnaaDoorKPar2
namespace Go.Proofs.YtcdkgcacmlolnaaDoor
open Go.RowKit
set_option linter.unusedVariables false
set_option maxRecDepth 100000 in
set_option maxHeartbeats 2000000 in
theorem tmember_one (S : ByteArray) (k b N y : Nat) (w : World) (hb : b < 256) (hy : (y == 45) = false) (hN : k + (sgn b).length = N) (h : Here S k (sgn b ++ [y])) (hS : S.size ≤ 9007199254740992) :
    Calls Tryd.prog 37 #[.string S, .int .i64 (k : Int)] w fun e w' => e = .returned (.tuple #[cv (seg b (b + 1)), .int .i64 (N : Int), .nilIface]) ∧ Below w.heap.size w w' := by
  have HT1 : Hid (∀ w : World, Calls Tryd.prog 48 #[.string S, .int .i64 (k : Int)] w fun e w' => e = .returned (.tuple #[.int .u8 (b : Int), .int .i64 (N : Int), .nilIface]) ∧ Below w.heap.size w w') := fun w => tsign_any S k b N w hb hN h.left hS
  have HBg : Hid (∀ w : World, Calls Tryd.prog 35 #[.string S, .int .i64 (N : Int), .int .u8 45] w fun e w' => e = .returned (.bool false) ∧ Below w.heap.size w w') := fun w => begins_at S N y 45 false w (by omega) (by have := h.right.head; rw [hN] at this; exact this) hy hS
  have HSp : Hid (∀ w : World, Calls Tryd.prog 28 #[.int .i64 (b : Int), .int .i64 (b : Int)] w fun e w' => e = .returned (cv (seg b (b + 1))) ∧ Below w.heap.size w w') := fun w => span_any b b w (Nat.le_refl _) hb
  have hw1 : IntKind.i64.wrap (b : Int) = (b : Int) := by rw [IntKind.wrap_i64]; omega
  clear h hN hy
  go_enter Tryd.func37, Tryd.ntmps37
  go_wp2_with fail
  refine (HT1.out _).mono ?_
  rintro e w1 ⟨rfl, hb1⟩
  have HB1 : Hid (Below w.heap.size w w1) := ((Below.refl _ _).alloc (Nat.le_refl _) _).trans (hb1.mono (by simp))
  have HK1 : Hid (Blk w1 w.heap.size 0) := (Blk.new0 w).below hb1 (by simp)
  clear hb1
  go_wp2_with fail
  refine (HBg.out _).mono ?_
  rintro e w2 ⟨rfl, hb2⟩
  have HB2 : Hid (Below w.heap.size w w2) := HB1.out.trans (hb2.mono HB1.out.size)
  have HK2 : Hid (Blk w2 w.heap.size 0) := HK1.out.below hb2 HK1.out.lt
  clear hb2 HK1
  go_wp2_with fail
  refine (HSp.out _).mono ?_
  rintro e w3 ⟨rfl, hb3⟩
  have HB3 : Hid (Below w.heap.size w w3) := HB2.out.trans (hb3.mono HB2.out.size)
  have HK3 : Hid (Blk w3 w.heap.size 0) := HK2.out.below hb3 HK2.out.lt
  clear hb3 HK2
  obtain ⟨c0, c1, c2, c3⟩ := HK3.out.cells
  obtain ⟨f0, f1, f2, f3⟩ := HK3.out.thaw
  obtain ⟨r0, r1, r2, r3⟩ := (HK3.out.st4 (seg b (b + 1))).cells
  have HB4 : Hid (Below w.heap.size w (st4 w3 w.heap.size (seg b (b + 1)))) := Below.st4 HB3.out (Nat.le_refl _) _
  unfold st4 at r0 r1 r2 r3
  clear HK3
  dsimp only [cv]
  go_wp2_with fail
  refine bodyPost_ret (v := .tuple #[cv (seg b (b + 1)), .int .i64 (N : Int), .nilIface]) (by simp [results, Tryd.results37, go_sem, r0, r1, r2, r3]) rfl ⟨rfl, HB4.out⟩
set_option maxRecDepth 100000 in
set_option maxHeartbeats 2000000 in
theorem tmember_two (S : ByteArray) (k lo hi N : Nat) (w : World) (hlo : lo ≤ hi) (hhi : hi < 256) (hN : k + (sgn lo ++ ([45] ++ sgn hi)).length = N) (h : Here S k (sgn lo ++ ([45] ++ sgn hi))) (hS : S.size ≤ 9007199254740992) :
    Calls Tryd.prog 37 #[.string S, .int .i64 (k : Int)] w fun e w' => e = .returned (.tuple #[cv (seg lo (hi + 1)), .int .i64 (N : Int), .nilIface]) ∧ Below w.heap.size w w' := by
  obtain ⟨M, hM⟩ : ∃ M, k + (sgn lo).length = M := ⟨_, rfl⟩
  have hr := h.right
  rw [hM] at hr
  have hr2 := hr.right
  have HT1 : Hid (∀ w : World, Calls Tryd.prog 48 #[.string S, .int .i64 (k : Int)] w fun e w' => e = .returned (.tuple #[.int .u8 (lo : Int), .int .i64 (M : Int), .nilIface]) ∧ Below w.heap.size w w') := fun w => tsign_any S k lo M w (by omega) hM h.left hS
  have HBg : Hid (∀ w : World, Calls Tryd.prog 35 #[.string S, .int .i64 (M : Int), .int .u8 45] w fun e w' => e = .returned (.bool true) ∧ Below w.heap.size w w') := fun w => begins_at S M 45 45 true w (by omega) hr.head rfl hS
  have HT2 : Hid (∀ w : World, Calls Tryd.prog 48 #[.string S, .int .i64 ((M : Int) + 1)] w fun e w' => e = .returned (.tuple #[.int .u8 (hi : Int), .int .i64 (N : Int), .nilIface]) ∧ Below w.heap.size w w') := fun w => by
    have ht := tsign_any S (M + 1) hi N w hhi (by simp at hN; omega) hr2 hS
    rw [show ((M + 1 : Nat) : Int) = (M : Int) + 1 by omega] at ht
    exact ht
  have HSp : Hid (∀ w : World, Calls Tryd.prog 28 #[.int .i64 (lo : Int), .int .i64 (hi : Int)] w fun e w' => e = .returned (cv (seg lo (hi + 1))) ∧ Below w.heap.size w w') := fun w => span_any lo hi w hlo hhi
  have hw1 : IntKind.i64.wrap (lo : Int) = (lo : Int) := by rw [IntKind.wrap_i64]; omega
  have hw2 : IntKind.i64.wrap (hi : Int) = (hi : Int) := by rw [IntKind.wrap_i64]; omega
  have d1 : decide ((hi : Int) < (lo : Int)) = false := by simp; omega
  have d2 : decide (hi < lo) = false := by simp; omega
  have hMs : M < S.size := hr.head.lt
  clear h hN hM hr hr2
  go_enter Tryd.func37, Tryd.ntmps37
  go_wp2_with fail
  refine (HT1.out _).mono ?_
  rintro e w1 ⟨rfl, hb1⟩
  have HB1 : Hid (Below w.heap.size w w1) := ((Below.refl _ _).alloc (Nat.le_refl _) _).trans (hb1.mono (by simp))
  have HK1 : Hid (Blk w1 w.heap.size 0) := (Blk.new0 w).below hb1 (by simp)
  clear hb1
  go_wp2_with fail
  refine (HBg.out _).mono ?_
  rintro e w2 ⟨rfl, hb2⟩
  have HB2 : Hid (Below w.heap.size w w2) := HB1.out.trans (hb2.mono HB1.out.size)
  have HK2 : Hid (Blk w2 w.heap.size 0) := HK1.out.below hb2 HK1.out.lt
  clear hb2 HK1
  go_wp2_with fail
  refine (HT2.out _).mono ?_
  rintro e w5 ⟨rfl, hb5⟩
  have HB5 : Hid (Below w.heap.size w w5) := HB2.out.trans (hb5.mono HB2.out.size)
  have HK5 : Hid (Blk w5 w.heap.size 0) := HK2.out.below hb5 HK2.out.lt
  clear hb5 HK2
  go_wp2_with fail
  refine (HSp.out _).mono ?_
  rintro e w3 ⟨rfl, hb3⟩
  have HB3 : Hid (Below w.heap.size w w3) := HB5.out.trans (hb3.mono HB5.out.size)
  have HK3 : Hid (Blk w3 w.heap.size 0) := HK5.out.below hb3 HK5.out.lt
  clear hb3 HK5
  obtain ⟨c0, c1, c2, c3⟩ := HK3.out.cells
  obtain ⟨f0, f1, f2, f3⟩ := HK3.out.thaw
  obtain ⟨r0, r1, r2, r3⟩ := (HK3.out.st4 (seg lo (hi + 1))).cells
  have HB4 : Hid (Below w.heap.size w (st4 w3 w.heap.size (seg lo (hi + 1)))) := Below.st4 HB3.out (Nat.le_refl _) _
  unfold st4 at r0 r1 r2 r3
  clear HK3
  dsimp only [cv]
  go_wp2_with fail
  refine bodyPost_ret (v := .tuple #[cv (seg lo (hi + 1)), .int .i64 (N : Int), .nilIface]) (by simp [results, Tryd.results37, go_sem, r0, r1, r2, r3]) rfl ⟨rfl, HB4.out⟩
end Go.Proofs.YtcdkgcacmlolnaaDoor
