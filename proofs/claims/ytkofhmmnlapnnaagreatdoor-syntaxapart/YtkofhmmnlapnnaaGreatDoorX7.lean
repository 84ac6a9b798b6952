/-
  What strings.Clone and strings.HasPrefix (by the shelf) and lex.takeName answer at any text. Conditions: those that each theorem names.
-/
import Derived.Test.YtkofhmmnlapnnaaGreatDoorX6
import Derived.Shelf.Lay
import Derived.Shelf.Strconv.Clone
import Derived.Shelf.Strings.Prefix
namespace Go.Proofs
open Go.Shelf
shelf_lay LaysM.n316 Nm 316 at Tryz as Tryz.laysM316
shelf_lay Lays.n206 Nm 206 at Tryz as Tryz.lays206
end Go.Proofs
namespace Go.Proofs.YtkofhmmnlapnnaaGreatDoor
open Go.RowKit
set_option linter.unusedVariables false
theorem slclone_any (T : ByteArray) (w : World) (hS : T.size ≤ 281474976710656) :
    Calls Tryz.prog 62 #[.string T] w fun e w' => e = .returned (.string T) ∧ Below w.heap.size w w' := Any.stringslite_Clone Tryz.laysM316 T w hS
theorem slprefix_any (s p : ByteArray) (w : World) :
    Calls Tryz.prog 56 #[.string s, .string p] w fun e w' => e = .returned (.bool (Lib.hasPrefix s.data.toList p.data.toList)) ∧ w' = w := Any.stringslite_HasPrefix Tryz.lays206 s p w
set_option maxRecDepth 100000 in
set_option maxHeartbeats 4000000 in
theorem clone_any (T : ByteArray) (w : World) (hS : T.size ≤ 281474976710656) :
    Calls Tryz.prog 53 #[.string T] w fun e w' => e = .returned (.string T) ∧ Below w.heap.size w w' := by
  go_enter Tryz.func53, Tryz.ntmps53
  go_wp2_with fail
  refine (slclone_any T _ hS).mono ?_
  rintro e w1 ⟨rfl, hb⟩
  have HB : Hid (Below w.heap.size w w1) := hb
  clear hb
  go_wp2_with fail
  go_ret
  exact ⟨rfl, HB.out⟩
set_option maxRecDepth 100000 in
set_option maxHeartbeats 4000000 in
theorem prefix_any (s p : ByteArray) (w : World) :
    Calls Tryz.prog 40 #[.string s, .string p] w fun e w' => e = .returned (.bool (Lib.hasPrefix s.data.toList p.data.toList)) ∧ w' = w := by
  go_enter Tryz.func40, Tryz.ntmps40
  go_wp2_with fail
  refine (slprefix_any s p _).mono ?_
  rintro e w1 ⟨rfl, rfl⟩
  go_wp2_with fail
  go_ret
  exact ⟨rfl, rfl⟩
/-- What takeName answers. -/
def AnsN (S : ByteArray) (p : Nat) (w : World) (e : Ending) (w' : World) : Prop :=
  if 32 < ne S p - p then BadT (2, p) w e w' else
    e = .returned (.tuple #[.agg #[.int .i64 1, .string (S.extract p (ne S p)), .int .u64 0, .int .u64 0, .int .u64 0, .int .u64 0, .int .i64 (p : Int)], .int .i64 (ne S p : Int), .nilIface]) ∧ Below w.heap.size w w'
set_option maxRecDepth 100000 in
set_option maxHeartbeats 4000000 in
theorem xtakeName_any (S : ByteArray) (p : Nat) (w : World) (hp : p ≤ S.size) (hS : S.size ≤ 9007199254740992) :
    Calls Tryz.prog 37 #[.string S, .int .i64 (p : Int)] w fun e w' => AnsN S p w e w' := by
  unfold AnsN
  have hle := ne_le hp
  have HE : Hid (∀ w : World, Calls Tryz.prog 52 #[.string S, .int .i64 (p : Int)] w fun e w' => e = .returned (.int .i64 (ne S p : Int)) ∧ w' = w) := fun w => xnameEnd_any S p w hp hS
  obtain ⟨N, hN⟩ : ∃ N, N = ne S p := ⟨_, rfl⟩
  rw [← hN] at HE hle ⊢
  clear hN
  obtain ⟨hpN, hNS⟩ := hle
  have HT0 : Hid (Tk (w.alloc (.cells #[.int .i64 0, .string { data := #[] }, .int .u64 0, .int .u64 0, .int .u64 0, .int .u64 0, .int .i64 0] 32)) w.heap.size 0 { data := #[] } 0 0 0 0 0) := Tk.new w 0 { data := #[] } 0 0 0 0 0
  by_cases hl : 32 < N - p
  · simp only [if_pos hl]
    have a0 : decide ((32 : Int) < (N : Int) - (p : Int)) = true := by simp; omega
    obtain ⟨W, hW⟩ : ∃ W, W = w.alloc (.cells #[.int .i64 0, .string { data := #[] }, .int .u64 0, .int .u64 0, .int .u64 0, .int .u64 0, .int .i64 0] 32) := ⟨_, rfl⟩
    have HB1 : Hid (Below w.heap.size w W) := by show Below _ _ _; rw [hW]; exact (Below.refl _ _).alloc (Nat.le_refl _) _
    rw [← hW] at HT0
    go_enter Tryz.func37, Tryz.ntmps37
    go_wp2_with fail
    rw [← hW]
    clear hW
    refine (HE.out _).mono ?_
    rintro e w1 ⟨rfl, rfl⟩
    have HT2 : Hid (Tk (w1.alloc (.cells #[.int .i64 2, .int .i64 (p : Int)] 66)) w.heap.size 0 { data := #[] } 0 0 0 0 0) := HT0.out.alloc _
    obtain ⟨c0, c1, c2, c3, c4, c5, c6⟩ := HT2.out.cells
    obtain ⟨f0, f1, f2, f3, f4, f5, f6⟩ := HT2.out.thaw
    go_wp2_with fail
    obtain ⟨r0, r1, r2, r3, r4, r5, r6⟩ := (HT2.out.st7 0 { data := #[] } 0 0 0 0 0).cells
    unfold st7 at r0 r1 r2 r3 r4 r5 r6
    (try simp only [Exit.inBlock, Exit.then])
    refine bodyPost_ret (v := .tuple #[.agg #[.int .i64 0, .string { data := #[] }, .int .u64 0, .int .u64 0, .int .u64 0, .int .u64 0, .int .i64 0], .int .i64 0, .iface 64 (.pointer (some ⟨w1.heap.size, 0, none⟩))]) (by simp [results, Tryz.results37, go_sem, r0, r1, r2, r3, r4, r5, r6]) rfl ?_
    exact ⟨w1.heap.size, rfl, bad_endT (HB1.out.alloc HB1.out.size _) (Flt.new w1 (2, p)) HB1.out.size (Nat.ne_of_gt HT0.out.lt)⟩
  · simp only [if_neg hl]
    have a0 : decide ((32 : Int) < (N : Int) - (p : Int)) = false := by simp; omega
    have b1 : (p : Int) ≤ (N : Int) := by omega
    have b2 : (N : Int) ≤ (S.size : Int) := by omega
    obtain ⟨T, hT⟩ : ∃ T, T = S.extract p N := ⟨_, rfl⟩
    have hTs : T.size ≤ 281474976710656 := by rw [hT, ByteArray.size_extract]; omega
    have HC : Hid (∀ w : World, Calls Tryz.prog 53 #[.string T] w fun e w' => e = .returned (.string T) ∧ Below w.heap.size w w') := fun w => clone_any T w hTs
    rw [hT] at HC
    obtain ⟨W, hW⟩ : ∃ W, W = w.alloc (.cells #[.int .i64 0, .string { data := #[] }, .int .u64 0, .int .u64 0, .int .u64 0, .int .u64 0, .int .i64 0] 32) := ⟨_, rfl⟩
    have HB1 : Hid (Below w.heap.size w W) := by show Below _ _ _; rw [hW]; exact (Below.refl _ _).alloc (Nat.le_refl _) _
    rw [← hW] at HT0
    rw [← hT]
    rw [← hT] at HC
    have HTT : Hid (T = S.extract p N) := hT
    clear hT hTs
    go_enter Tryz.func37, Tryz.ntmps37
    go_wp2_with fail
    rw [← hW]
    clear hW
    refine (HE.out _).mono ?_
    rintro e w1 ⟨rfl, rfl⟩
    go_wp2_with fail
    rw [← HTT.out]
    refine (HC.out _).mono ?_
    rintro e w2 ⟨rfl, hb2⟩
    have HB2 : Hid (Below w.heap.size w w2) := HB1.out.trans (hb2.mono HB1.out.size)
    have HT2 : Hid (Tk w2 w.heap.size 0 { data := #[] } 0 0 0 0 0) := HT0.out.below hb2 HT0.out.lt
    clear hb2
    obtain ⟨c0, c1, c2, c3, c4, c5, c6⟩ := HT2.out.cells
    obtain ⟨f0, f1, f2, f3, f4, f5, f6⟩ := HT2.out.thaw
    go_wp2_with fail
    obtain ⟨r0, r1, r2, r3, r4, r5, r6⟩ := (HT2.out.st7 1 T 0 0 0 0 (p : Int)).cells
    unfold st7 at r0 r1 r2 r3 r4 r5 r6
    (try simp only [Exit.inBlock, Exit.then])
    refine bodyPost_ret (v := .tuple #[.agg #[.int .i64 1, .string T, .int .u64 0, .int .u64 0, .int .u64 0, .int .u64 0, .int .i64 (p : Int)], .int .i64 (N : Int), .nilIface]) (by simp [results, Tryz.results37, go_sem, r0, r1, r2, r3, r4, r5, r6]) rfl ?_
    exact ⟨rfl, Below.st7 HB2.out (Nat.le_refl _) _ _ _ _ _ _ _⟩
end Go.Proofs.YtkofhmmnlapnnaaGreatDoor
