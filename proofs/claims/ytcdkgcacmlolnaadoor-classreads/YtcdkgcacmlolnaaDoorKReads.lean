/-
  For any text: muntinlaw02.ClassReads answers true. Conditions: those that each theorem names.
-/
import Derived.Test.YtcdkgcacmlolnaaDoorKR5
import Derived.Test.YtcdkgcacmlolnaaDoorEAs2
import Derived.Test.YtcdkgcacmlolnaaDoorKSmall
namespace Go.Proofs.YtcdkgcacmlolnaaDoor
open Go.RowKit
set_option linter.unusedVariables false
theorem clsP_bad_code {S : ByteArray} {c : Nat × Nat} (h : clsP S = .inl c) : c.1 = 3 ∨ c.1 = 4 := by
  have hf : ∀ j, (flt S j).1 = 3 ∨ (flt S j).1 = 4 := fun j => by unfold flt; split <;> simp
  have hb : ∀ j e, mbr S j = .inl e → e.1 = 3 ∨ e.1 = 4 := fun j e he => by
    unfold mbr at he
    split at he
    · rename_i e' hs; simp at he; rw [← he]; exact sg_bad_code hs
    · split at he
      · split at he
        · rename_i e' hs; simp at he; rw [← he]; exact sg_bad_code hs
        · split at he
          · simp at he; rw [← he]; exact hf _
          · cases he
      · cases he
  have hm : ∀ f j acc e, mems S f j acc = .inl e → e.1 = 3 ∨ e.1 = 4 := by
    intro f
    induction f with
    | zero => intro j acc e he; simp [mems] at he; rw [← he]; exact hf _
    | succ f ih =>
      intro j acc e he
      rw [mems] at he
      split at he
      · cases he
      · split at he
        · rename_i e' hs; simp at he; rw [← he]; exact hb _ _ hs
        · exact ih _ _ _ he
  rw [clsP_ng] at h
  split at h
  · split at h
    · cases hmm : mm S 2 0 with
      | inl e => rw [hmm] at h; simp [ng] at h; rw [← h]; exact hm _ _ _ _ hmm
      | inr q => rw [hmm] at h; cases h
    · exact hm _ _ _ _ h
  · simp at h; rw [← h]; exact hf _
set_option maxRecDepth 100000 in
set_option maxHeartbeats 4000000 in
theorem reads_any (S : ByteArray) (w : World) (hS : S.size ≤ 9007199254740992) (hE : ErrIs w) :
    Calls Tryd.prog 5 #[.string S] w fun e w' => e = .returned (.bool true) ∧ Below w.heap.size w w' := by
  have HE : Hid (ErrIs w) := hE
  have HSm : Hid (∀ w : World, Calls Tryd.prog 8 #[] w fun e w' => e = .returned (.bool true) ∧ Below w.heap.size w w') := small_ok
  cases hr : clsP S with
  | inl c =>
    have hc0 : (((c.1 : Nat) : Int) != 0) = true := by have := clsP_bad_code hr; rw [bne_iff_ne]; omega
    have HP : Hid (∀ w : World, Calls Tryd.prog 25 #[.string S] w fun e w' => Bad (.agg #[.int .u64 0, .int .u64 0, .int .u64 0, .int .u64 0]) c w e w') := fun w => by
      have h := parse_all S w hS
      rw [hr] at h
      rw [← cv0]
      exact h
    have HQ : Hid (∀ w : World, Calls Tryd.prog 26 #[.string S] w fun e w' => e = .returned (.tuple #[.agg #[.int .u64 0, .int .u64 0, .int .u64 0, .int .u64 0], .int .i64 (c.2 : Int), .int .i64 (c.1 : Int)]) ∧ Below w.heap.size w w') := fun w => by
      have h := rparse_any S w hS
      rw [hr] at h
      rw [← cv0]
      exact h
    have q0 : ∀ w : World, (Op.equalIn 10000 24 (.agg #[.int .u64 0, .int .u64 0, .int .u64 0, .int .u64 0]) (.agg #[.int .u64 0, .int .u64 0, .int .u64 0, .int .u64 0])).run Tryd.prog w = .ok true w := by rw [← cv0]; exact eq_self 0
    clear hE hr
    go_enter Tryd.func5, Tryd.ntmps5
    go_wp2_with fail
    refine (HSm.out _).mono ?_
    rintro e w1 ⟨rfl, hb1⟩
    have HB1 : Hid (Below w.heap.size w w1) := hb1
    clear hb1
    go_wp2_with fail
    refine (HP.out _).mono ?_
    rintro e w2 ⟨p, rfl, HF⟩
    have HB2 : Hid (Below w.heap.size w w2) := HB1.out.trans (HF.out.2.2.mono HB1.out.size)
    have HF2 : Hid (Flt w2 p c) := HF.out.2.1
    clear HF HB1
    unfold flv
    go_wp2_with fail
    refine (HQ.out _).mono ?_
    rintro e w3 ⟨rfl, hb3⟩
    have HB3 : Hid (Below w.heap.size w w3) := (HB2.out.alloc HB2.out.size _).trans (hb3.mono (by have := HB2.out.size; simp; omega))
    have HF3 : Hid (Flt w3 p c) := (HF2.out.alloc _).below hb3 (by have := HF2.out.lt; simp; omega)
    have HK3 : Hid (Blk w3 w2.heap.size 0) := (Blk.new0 w2).below hb3 (by simp)
    clear hb3 HF2
    obtain ⟨c0, c1, c2, c3⟩ := HK3.out.cells
    simp only [wd_zero] at c0 c1 c2 c3
    have l3 := HK3.out.lt
    go_wp2_with fail
    refine (code_fault p (c.1 : Int) (c.2 : Int) _ ((HE.out.below HB3.out HE.out.lt).alloc _) (HF3.out.alloc _)).mono ?_
    rintro e w4 ⟨rfl, hb4⟩
    have HB4 : Hid (Below w.heap.size w w4) := (HB3.out.alloc HB3.out.size _).trans (hb4.mono (by have := HB3.out.size; simp; omega))
    have HF4 : Hid (Flt w4 p c) := (HF3.out.alloc _).below hb4 (by have := HF3.out.lt; simp; omega)
    clear hb4 HF3 HK3 c0 c1 c2 c3 l3
    go_wp2_with fail
    refine (at_fault p (c.1 : Int) (c.2 : Int) _ (HE.out.below HB4.out HE.out.lt) HF4.out).mono ?_
    rintro e w5 ⟨rfl, hb5⟩
    have HB5 : Hid (Below w.heap.size w w5) := HB4.out.trans (hb5.mono HB4.out.size)
    clear hb5
    go_wp2_with fail
    go_ret
    exact ⟨rfl, HB5.out⟩
  | inr q =>
    obtain ⟨C, n⟩ := q
    have HP : Hid (∀ w : World, Calls Tryd.prog 25 #[.string S] w fun e w' => e = .returned (.tuple #[cv C, .int .i64 (n : Int), .nilIface]) ∧ Below w.heap.size w w') := fun w => by
      have h := parse_all S w hS
      rw [hr] at h
      exact h
    have HQ : Hid (∀ w : World, Calls Tryd.prog 26 #[.string S] w fun e w' => e = .returned (.tuple #[cv C, .int .i64 (n : Int), .int .i64 0]) ∧ Below w.heap.size w w') := fun w => by
      have h := rparse_any S w hS
      rw [hr] at h
      exact h
    have q1 := eq_self C
    clear hE hr
    go_enter Tryd.func5, Tryd.ntmps5
    go_wp2_with fail
    refine (HSm.out _).mono ?_
    rintro e w1 ⟨rfl, hb1⟩
    have HB1 : Hid (Below w.heap.size w w1) := hb1
    clear hb1
    go_wp2_with fail
    refine (HP.out _).mono ?_
    rintro e w2 ⟨rfl, hb2⟩
    have HB2 : Hid (Below w.heap.size w w2) := HB1.out.trans (hb2.mono HB1.out.size)
    clear hb2 HB1
    dsimp only [cv]
    go_wp2_with fail
    refine (HQ.out _).mono ?_
    rintro e w3 ⟨rfl, hb3⟩
    have HB3 : Hid (Below w.heap.size w w3) := (HB2.out.alloc HB2.out.size _).trans (hb3.mono (by have := HB2.out.size; simp; omega))
    have HK3 : Hid (Blk w3 w2.heap.size C) := (Blk.new w2 C).below hb3 (by simp)
    clear hb3
    obtain ⟨c0, c1, c2, c3⟩ := HK3.out.cells
    have l3 := HK3.out.lt
    dsimp only [cv]
    go_wp2_with fail
    go_ret
    exact ⟨rfl, HB3.out.alloc HB3.out.size _⟩
end Go.Proofs.YtcdkgcacmlolnaaDoor
