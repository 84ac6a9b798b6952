/-
  What class.Either answers. Conditions: none.
  What class.Not answers. Condition: the class is below 2^256.
  What class.span answers. Conditions: those that each theorem names.
  A class that lies in a block of memory: what it reads, and what a store of it does. Plain facts on worlds; conditions: those that each theorem names.
  What class.isMark, isPrintable, begins, digit and takeDigits answer where what they ask for stands. Conditions: those that each theorem names.
-/
import Derived.Test.YtikfnaffiehpaaaGreatDoorVKPlain
import Derived.Test.YtikfnaffiehpaaaGreatDoorProg
import Derived.WalkKit
import Derived.WalkLawsBesides
import Derived.Deep.QuietTactic
import Derived.BigQuiet
import Derived.BigRegion
namespace Go.Proofs.YtikfnaffiehpaaaGreatDoor
open Go.RowKit
set_option linter.unusedVariables false
/-- A class as a value. -/
@[reducible] def cv (C : Nat) : Value := .agg #[.int .u64 (wd C 0 : Nat), .int .u64 (wd C 1 : Nat), .int .u64 (wd C 2 : Nat), .int .u64 (wd C 3 : Nat)]
set_option maxRecDepth 100000 in
set_option maxHeartbeats 1000000 in
theorem either_any (C D : Nat) (w : World) :
    Calls Tryz.prog 119 #[cv C, cv D] w fun e w' => e = .returned (cv (C ||| D)) ∧ Below w.heap.size w w' := by
  have b0 : bits BinOp.or IntKind.u64 (wd C 0 : Nat) (wd D 0 : Nat) = (wd (C ||| D) 0 : Nat) := by rw [wd_or]; exact Go.bits_or_u64_nat _ _ (wd_lt _ _) (wd_lt _ _)
  have b1 : bits BinOp.or IntKind.u64 (wd C 1 : Nat) (wd D 1 : Nat) = (wd (C ||| D) 1 : Nat) := by rw [wd_or]; exact Go.bits_or_u64_nat _ _ (wd_lt _ _) (wd_lt _ _)
  have b2 : bits BinOp.or IntKind.u64 (wd C 2 : Nat) (wd D 2 : Nat) = (wd (C ||| D) 2 : Nat) := by rw [wd_or]; exact Go.bits_or_u64_nat _ _ (wd_lt _ _) (wd_lt _ _)
  have b3 : bits BinOp.or IntKind.u64 (wd C 3 : Nat) (wd D 3 : Nat) = (wd (C ||| D) 3 : Nat) := by rw [wd_or]; exact Go.bits_or_u64_nat _ _ (wd_lt _ _) (wd_lt _ _)
  unfold cv
  go_enter Tryz.func119, Tryz.ntmps119
  go_wp2
  refine wp_loop_rounds 5 ?_
  rw [rounds_succ]
  go_wp2
  go_region
  go_wp2
  rw [rounds_succ]
  go_wp2
  go_region
  go_wp2
  rw [rounds_succ]
  go_wp2
  go_region
  go_wp2
  rw [rounds_succ]
  go_wp2
  go_region
  go_wp2
  rw [rounds_succ]
  go_wp2
  refine bodyPost_ret (v := .agg #[.int .u64 (wd (C ||| D) 0 : Nat), .int .u64 (wd (C ||| D) 1 : Nat), .int .u64 (wd (C ||| D) 2 : Nat), .int .u64 (wd (C ||| D) 3 : Nat)]) (by simp [results, Tryz.results119, go_sem]) rfl ⟨rfl, ?_⟩
  exact ((((Below.refl _ _).alloc (Nat.le_refl _) _).alloc (by simp) _).alloc (by simp; omega) _).drew.drew.drew.drew
end Go.Proofs.YtikfnaffiehpaaaGreatDoor
namespace Go.Proofs.YtikfnaffiehpaaaGreatDoor
open Go.RowKit
set_option linter.unusedVariables false
theorem xor_max (x : Nat) (h : x < 18446744073709551616) : 18446744073709551615 ^^^ x = 18446744073709551615 - x := by
  apply Nat.eq_of_testBit_eq
  intro j
  rw [show 18446744073709551615 - x = 2 ^ 64 - (x + 1) by omega, Nat.testBit_two_pow_sub_succ (by omega), Nat.testBit_xor, show (18446744073709551615 : Nat) = 2 ^ 64 - 1 from rfl, Nat.testBit_two_pow_sub_one]
  by_cases hj : j < 64
  · simp [hj]
  · rw [Nat.testBit_lt_two_pow (Nat.lt_of_lt_of_le h (show 2 ^ 64 ≤ 2 ^ j from Nat.pow_le_pow_right (by decide) (by omega)))]
    simp [hj]
theorem not_word (C : Nat) (hC : C < 2 ^ 256) (i : Nat) (hi : i < 4) : bits BinOp.xor IntKind.u64 IntKind.u64.max (wd C i : Nat) = (wd (cnot C) i : Nat) := by
  rw [wd_not C hC i hi, ← xor_max _ (wd_lt C i)]
  exact Go.bits_xor_u64_nat 18446744073709551615 _ (by omega) (wd_lt C i)
set_option maxRecDepth 100000 in
set_option maxHeartbeats 1000000 in
theorem not_any (C : Nat) (hC : C < 2 ^ 256) (w : World) :
    Calls Tryz.prog 120 #[cv C] w fun e w' => e = .returned (cv (cnot C)) ∧ Below w.heap.size w w' := by
  have b0 : bits BinOp.xor IntKind.u64 IntKind.u64.max (wd C 0 : Nat) = (wd (cnot C) 0 : Nat) := not_word C hC 0 (by omega)
  have b1 : bits BinOp.xor IntKind.u64 IntKind.u64.max (wd C 1 : Nat) = (wd (cnot C) 1 : Nat) := not_word C hC 1 (by omega)
  have b2 : bits BinOp.xor IntKind.u64 IntKind.u64.max (wd C 2 : Nat) = (wd (cnot C) 2 : Nat) := not_word C hC 2 (by omega)
  have b3 : bits BinOp.xor IntKind.u64 IntKind.u64.max (wd C 3 : Nat) = (wd (cnot C) 3 : Nat) := not_word C hC 3 (by omega)
  unfold cv
  go_enter Tryz.func120, Tryz.ntmps120
  go_wp2
  refine wp_loop_rounds 5 ?_
  rw [rounds_succ]
  go_wp2
  rw [rounds_succ]
  go_wp2
  rw [rounds_succ]
  go_wp2
  rw [rounds_succ]
  go_wp2
  rw [rounds_succ]
  go_wp2
  refine bodyPost_ret (v := .agg #[.int .u64 (wd (cnot C) 0 : Nat), .int .u64 (wd (cnot C) 1 : Nat), .int .u64 (wd (cnot C) 2 : Nat), .int .u64 (wd (cnot C) 3 : Nat)]) (by simp [results, Tryz.results120, go_sem]) rfl ⟨rfl, ?_⟩
  exact (((Below.refl _ _).alloc (Nat.le_refl _) _).alloc (by simp) _)
end Go.Proofs.YtikfnaffiehpaaaGreatDoor
namespace Go.Proofs.YtikfnaffiehpaaaGreatDoor
open Go.RowKit
set_option linter.unusedVariables false
/-- The bytes from lo on, below b. -/
def seg (lo b : Nat) : Nat := spn lo (b - lo)
theorem seg_bit (lo b j : Nat) : (seg lo b).testBit j = (decide (lo ≤ j) && decide (j < b)) := by
  unfold seg
  rw [spn_bit]
  by_cases h1 : lo ≤ j
  · by_cases h2 : j < b
    · simp [h1, h2, show j < lo + (b - lo) by omega]
    · simp [h1, h2, show ¬ j < lo + (b - lo) by omega]
  · simp [h1]
theorem seg_zero (lo : Nat) : seg lo lo = 0 := by simp [seg, spn]
theorem seg_succ (lo b : Nat) (h : lo ≤ b) : seg lo (b + 1) = seg lo b ||| 2 ^ b := by
  apply Nat.eq_of_testBit_eq
  intro j
  rw [Nat.testBit_or, seg_bit, seg_bit, Nat.testBit_two_pow]
  by_cases h1 : lo ≤ j <;> by_cases h2 : j < b <;> by_cases h3 : b = j <;> simp [h1, h2, h3] <;> omega
theorem seg_lt (lo b : Nat) (h : b ≤ 256) : seg lo b < 2 ^ 256 := by
  by_cases h1 : lo ≤ b
  · exact spn_lt _ _ (by omega)
  · simp [seg, show b - lo = 0 by omega, spn]
/-- What one byte more does to the words. -/
theorem wd_put (C b i : Nat) (hb : b < 256) (hi : i < 4) : wd (C ||| 2 ^ b) i = if b / 64 = i then wd C i ||| 2 ^ (b % 64) else wd C i := by
  apply Nat.eq_of_testBit_eq
  intro j
  rw [wd_bit, Nat.testBit_or, Nat.testBit_two_pow]
  split
  · rename_i h
    rw [Nat.testBit_or, wd_bit, Nat.testBit_two_pow]
    by_cases hj : j < 64
    · have : (b = 64 * i + j) ↔ (b % 64 = j) := by omega
      simp [hj, this]
    · simp [hj]; omega
  · rename_i h
    rw [wd_bit]
    by_cases hj : j < 64
    · have : ¬ (b = 64 * i + j) := by omega
      simp [hj, this]
    · simp [hj]
theorem put_word (C b : Nat) (hb : b < 256) : bits BinOp.or IntKind.u64 (wd C (b / 64) : Nat) (2 ^ (b % 64)) = (wd (C ||| 2 ^ b) (b / 64) : Nat) := by
  have h := Go.bits_or_u64_nat (wd C (b / 64)) (2 ^ (b % 64)) (wd_lt _ _) (show 2 ^ (b % 64) < 2 ^ 64 from Nat.pow_lt_pow_right (by decide) (by omega))
  rw [wd_put C b (b / 64) hb (by omega), if_pos rfl, ← h]
  congr 1
theorem put_cells (C b k : Nat) (hb : b < 256) (hk : b / 64 = k) :
    (#[.int .u64 (wd C 0 : Nat), .int .u64 (wd C 1 : Nat), .int .u64 (wd C 2 : Nat), .int .u64 (wd C 3 : Nat)] : Array Value).setIfInBounds k (.int .u64 (bits BinOp.or IntKind.u64 (wd C k : Nat) (IntKind.u64.wrap (2 ^ (b % 64))))) =
    #[.int .u64 (wd (C ||| 2 ^ b) 0 : Nat), .int .u64 (wd (C ||| 2 ^ b) 1 : Nat), .int .u64 (wd (C ||| 2 ^ b) 2 : Nat), .int .u64 (wd (C ||| 2 ^ b) 3 : Nat)] := by
  have hp : 2 ^ (b % 64) < 2 ^ 64 := Nat.pow_lt_pow_right (by decide) (by omega)
  have hw : IntKind.u64.wrap (2 ^ (b % 64)) = ((2 ^ (b % 64) : Nat) : Int) := by
    rw [IntKind.wrap_u64]
    have : ((2 : Int) ^ (b % 64)) = ((2 ^ (b % 64) : Nat) : Int) := (Int.natCast_pow 2 (b % 64)).symm
    rw [this]
    exact Int.emod_eq_of_lt (Int.natCast_nonneg _) (Int.ofNat_lt.2 hp)
  have h := Go.bits_or_u64_nat (wd C k) (2 ^ (b % 64)) (wd_lt _ _) hp
  rw [hw, h, wd_put C b 0 hb (by omega), wd_put C b 1 hb (by omega), wd_put C b 2 hb (by omega), wd_put C b 3 hb (by omega)]
  subst hk
  have : b / 64 = 0 ∨ b / 64 = 1 ∨ b / 64 = 2 ∨ b / 64 = 3 := by omega
  rcases this with e | e | e | e <;> rw [e] <;> rfl
theorem put_world (W : World) (C b k q n : Nat) (hb : b < 256) (hk : b / 64 = k) (hn : n = W.heap.size) :
    ((W.alloc (.cells #[.int .u64 (wd C 0 : Nat), .int .u64 (wd C 1 : Nat), .int .u64 (wd C 2 : Nat), .int .u64 (wd C 3 : Nat)] 27)).drewN q).setCell ⟨n, k, none⟩ (.int .u64 (bits BinOp.or IntKind.u64 (wd C k : Nat) (IntKind.u64.wrap (2 ^ (b % 64))))) =
    (W.alloc (.cells #[.int .u64 (wd (C ||| 2 ^ b) 0 : Nat), .int .u64 (wd (C ||| 2 ^ b) 1 : Nat), .int .u64 (wd (C ||| 2 ^ b) 2 : Nat), .int .u64 (wd (C ||| 2 ^ b) 3 : Nat)] 27)).drewN q := by
  rw [← put_cells C b k hb hk]
  exact congrArg (World.drewN · q) (World.setCell_alloc_at _ _ _ _ _ hn)
set_option maxRecDepth 100000 in
set_option maxHeartbeats 1000000 in
theorem span_any (lo hi : Nat) (w : World) (h1 : lo ≤ hi) (h2 : hi < 256) :
    Calls Tryz.prog 127 #[.int .i64 (lo : Int), .int .i64 (hi : Int)] w fun e w' => e = .returned (cv (spn lo (hi + 1 - lo))) ∧ Below w.heap.size w w' := by
  go_enter Tryz.func127, Tryz.ntmps127
  go_wp2_with fail
  go_loopw [6] (fun i wr => ∃ b q : Nat, lo ≤ b ∧ b ≤ hi + 1 ∧ i = .int .i64 (b : Int) ∧ wr = ((w.alloc (.cells #[.int .u64 0, .int .u64 0, .int .u64 0, .int .u64 0] 27)).alloc (.cells #[.int .u64 (wd (seg lo b) 0 : Nat), .int .u64 (wd (seg lo b) 1 : Nat), .int .u64 (wd (seg lo b) 2 : Nat), .int .u64 (wd (seg lo b) 3 : Nat)] 27)).drewN q) (fun i _ => hi + 1 - (intOf i).toNat)
  case atStart => exact ⟨lo, 0, Nat.le_refl _, by omega, rfl, by rw [seg_zero]; rfl⟩
  case round =>
    obtain ⟨b, q, hb1, hb2, rfl, rfl⟩ := hrel
    by_cases hbh : b ≤ hi
    · have hd : b / 64 = 0 ∨ b / 64 = 1 ∨ b / 64 = 2 ∨ b / 64 = 3 := by omega
      rcases hd with hd | hd | hd | hd
      · have hdI : (b : Int) / 64 = 0 := by omega
        go_wp2_with fail
        go_region
        go_wp2_with fail
        exact ⟨⟨b + 1, q + 1, by omega, by omega, by push_cast; rfl, by rw [seg_succ lo b hb1]; exact put_world _ _ b 0 _ _ (by omega) hd (by simp)⟩, by simp [intOf]; omega⟩
      · have hdI : (b : Int) / 64 = 1 := by omega
        go_wp2_with fail
        go_region
        go_wp2_with fail
        exact ⟨⟨b + 1, q + 1, by omega, by omega, by push_cast; rfl, by rw [seg_succ lo b hb1]; exact put_world _ _ b 1 _ _ (by omega) hd (by simp)⟩, by simp [intOf]; omega⟩
      · have hdI : (b : Int) / 64 = 2 := by omega
        go_wp2_with fail
        go_region
        go_wp2_with fail
        exact ⟨⟨b + 1, q + 1, by omega, by omega, by push_cast; rfl, by rw [seg_succ lo b hb1]; exact put_world _ _ b 2 _ _ (by omega) hd (by simp)⟩, by simp [intOf]; omega⟩
      · have hdI : (b : Int) / 64 = 3 := by omega
        go_wp2_with fail
        go_region
        go_wp2_with fail
        exact ⟨⟨b + 1, q + 1, by omega, by omega, by push_cast; rfl, by rw [seg_succ lo b hb1]; exact put_world _ _ b 3 _ _ (by omega) hd (by simp)⟩, by simp [intOf]; omega⟩
    · have hbe : b = hi + 1 := by omega
      subst hbe
      have hdec : decide (((hi + 1 : Nat) : Int) ≤ (hi : Int)) = false := by simp; omega
      have sd : ∀ (w : World) (q : Nat) (a : Addr) (v : Value), (w.drewN q).setCell a v = (w.setCell a v).drewN q := fun _ _ _ _ => rfl
      go_wp2_with fail
      refine bodyPost_ret (v := .agg #[.int .u64 (wd (seg lo (hi + 1)) 0 : Nat), .int .u64 (wd (seg lo (hi + 1)) 1 : Nat), .int .u64 (wd (seg lo (hi + 1)) 2 : Nat), .int .u64 (wd (seg lo (hi + 1)) 3 : Nat)]) (by simp [results, Tryz.results127, go_sem]) rfl ⟨rfl, ?_⟩
      exact below_drewN (((Below.refl _ _).alloc (Nat.le_refl _) _).alloc (by simp) _) _
end Go.Proofs.YtikfnaffiehpaaaGreatDoor
namespace Go.Proofs.YtikfnaffiehpaaaGreatDoor
open Go.RowKit
set_option linter.unusedVariables false
/-- Block g holds the class C. -/
def Blk (w : World) (g C : Nat) : Prop := w.heap[g]? = some (.cells #[.int .u64 (wd C 0 : Nat), .int .u64 (wd C 1 : Nat), .int .u64 (wd C 2 : Nat), .int .u64 (wd C 3 : Nat)] 27)
/-- The four stores. -/
def st4 (w : World) (g D : Nat) : World := (((w.setCell ⟨g, 0, none⟩ (.int .u64 (wd D 0 : Nat))).setCell ⟨g, 1, none⟩ (.int .u64 (wd D 1 : Nat))).setCell ⟨g, 2, none⟩ (.int .u64 (wd D 2 : Nat))).setCell ⟨g, 3, none⟩ (.int .u64 (wd D 3 : Nat))
theorem Blk.cells {w : World} {g C : Nat} (h : Blk w g C) : w.cell? ⟨g, 0, none⟩ = some (.int .u64 (wd C 0 : Nat)) ∧ w.cell? ⟨g, 1, none⟩ = some (.int .u64 (wd C 1 : Nat)) ∧ w.cell? ⟨g, 2, none⟩ = some (.int .u64 (wd C 2 : Nat)) ∧ w.cell? ⟨g, 3, none⟩ = some (.int .u64 (wd C 3 : Nat)) := by
  unfold Blk at h
  simp [World.cell?, h]
theorem Blk.thaw {w : World} {g C : Nat} (h : Blk w g C) : w.frozen? ⟨g, 0, none⟩ = false ∧ w.frozen? ⟨g, 1, none⟩ = false ∧ w.frozen? ⟨g, 2, none⟩ = false ∧ w.frozen? ⟨g, 3, none⟩ = false := by
  unfold Blk at h
  simp [World.frozen?, h]
theorem Blk.lt {w : World} {g C : Nat} (h : Blk w g C) : g < w.heap.size := by
  unfold Blk at h
  rcases Nat.lt_or_ge g w.heap.size with h2 | h2
  · exact h2
  · rw [Array.getElem?_eq_none h2] at h; cases h
theorem Blk.below {w w' : World} {g C B : Nat} (h : Blk w g C) (hb : Below B w w') (hg : g < B) : Blk w' g C := (hb.block g hg).trans h
theorem Blk.alloc {w : World} {g C : Nat} (h : Blk w g C) (o : Obj) : Blk (w.alloc o) g C := (Below.heap_alloc w o g h.lt).trans h
theorem Blk.new (w : World) (C : Nat) : Blk (w.alloc (.cells #[.int .u64 (wd C 0 : Nat), .int .u64 (wd C 1 : Nat), .int .u64 (wd C 2 : Nat), .int .u64 (wd C 3 : Nat)] 27)) w.heap.size C := by
  show (w.heap.push _)[w.heap.size]? = _
  simp
theorem wd_zero (i : Nat) : wd 0 i = 0 := by simp [wd]
theorem cv_zero : cv 0 = .agg #[.int .u64 0, .int .u64 0, .int .u64 0, .int .u64 0] := by simp [cv, wd_zero]
theorem Blk.new0 (w : World) : Blk (w.alloc (.cells #[.int .u64 0, .int .u64 0, .int .u64 0, .int .u64 0] 27)) w.heap.size 0 := by
  show (w.heap.push _)[w.heap.size]? = _
  simp [wd_zero]
theorem Blk.other {w : World} {g g' C D : Nat} (h : Blk w g C) (hne : g ≠ g') : Blk (st4 w g' D) g C := by
  unfold Blk st4 at *
  rw [Below.heap_setCell _ _ _ _ hne, Below.heap_setCell _ _ _ _ hne, Below.heap_setCell _ _ _ _ hne, Below.heap_setCell _ _ _ _ hne]
  exact h
theorem Blk.st4 {w : World} {g C : Nat} (h : Blk w g C) (D : Nat) : Blk (st4 w g D) g D := by
  unfold Blk at *
  unfold Proofs.YtikfnaffiehpaaaGreatDoor.st4
  simp only [World.setCell, Array.getElem?_modify, if_true, Option.map_map]
  rw [h]
  simp
theorem st4_size (w : World) (g D : Nat) : (st4 w g D).heap.size = w.heap.size := by simp [st4, World.setCell]
theorem Below.st4 {B : Nat} {a w : World} (h : Below B a w) {g : Nat} (hg : B ≤ g) (D : Nat) : Below B a (st4 w g D) :=
  ((((h.setCell (p := ⟨g, 0, none⟩) hg _).setCell (p := ⟨g, 1, none⟩) hg _).setCell (p := ⟨g, 2, none⟩) hg _).setCell (p := ⟨g, 3, none⟩) hg _)
theorem below_drewN {B : Nat} {a w : World} (h : Below B a w) (q : Nat) : Below B a (w.drewN q) := ⟨h.os, h.tape, h.output, h.size, h.block⟩
theorem Blk.drewN {w : World} {g C : Nat} (h : Blk w g C) (q : Nat) : Blk (w.drewN q) g C := h
end Go.Proofs.YtikfnaffiehpaaaGreatDoor
namespace Go.Proofs.YtikfnaffiehpaaaGreatDoor
open Go.RowKit
set_option linter.unusedVariables false
theorem hid {p : Prop} (h : p) : Hid p := h
def mark (b : Nat) : Bool := b == 91 || b == 93 || b == 92 || b == 45 || b == 94
def hexd (n : Nat) : Nat := if n < 10 then 48 + n else 87 + n
set_option maxRecDepth 100000 in
set_option maxHeartbeats 1000000 in
theorem mark_any (b : Nat) (w : World) (hb : b < 256) :
    Calls Tryz.prog 128 #[.int .u8 (b : Int)] w fun e w' => e = .returned (.bool (mark b)) ∧ w' = w := by
  have h : ∀ n : Nat, ((b : Int) == (n : Int)) = (b == n) := fun n => by
    by_cases e : b = n
    · subst e; simp
    · rw [beq_false_of_ne e]; simp; omega
  have h1 : ((b : Int) == 91) = (b == 91) := h 91
  have h2 : ((b : Int) == 93) = (b == 93) := h 93
  have h3 : ((b : Int) == 92) = (b == 92) := h 92
  have h4 : ((b : Int) == 45) = (b == 45) := h 45
  have h5 : ((b : Int) == 94) = (b == 94) := h 94
  clear h
  unfold mark
  cases k1 : b == 91 <;> rw [k1] at h1 <;> cases k2 : b == 93 <;> rw [k2] at h2 <;> cases k3 : b == 92 <;> rw [k3] at h3 <;> cases k4 : b == 45 <;> rw [k4] at h4 <;> cases k5 : b == 94 <;> rw [k5] at h5
  all_goals
    go_enter Tryz.func128, Tryz.ntmps128
    go_wp2_with fail
    go_ret
    exact ⟨rfl, rfl⟩
set_option maxRecDepth 100000 in
set_option maxHeartbeats 1000000 in
theorem print_any (b : Nat) (w : World) (hb : b < 256) :
    Calls Tryz.prog 129 #[.int .u8 (b : Int)] w fun e w' => e = .returned (.bool (decide (32 ≤ b) && decide (b ≤ 126))) ∧ w' = w := by
  by_cases h1 : 32 ≤ b
  · have a1 : decide (32 ≤ (b : Int)) = true := by simp; omega
    by_cases h2 : b ≤ 126
    · have a2 : decide ((b : Int) ≤ 126) = true := by simp; omega
      rw [decide_eq_true h1, decide_eq_true h2]
      clear h1 h2
      go_enter Tryz.func129, Tryz.ntmps129
      go_wp2_with fail
      go_ret
      exact ⟨rfl, rfl⟩
    · have a2 : decide ((b : Int) ≤ 126) = false := by simp; omega
      rw [decide_eq_true h1, decide_eq_false h2]
      clear h1 h2
      go_enter Tryz.func129, Tryz.ntmps129
      go_wp2_with fail
      go_ret
      exact ⟨rfl, rfl⟩
  · have a1 : decide (32 ≤ (b : Int)) = false := by simp; omega
    rw [decide_eq_false h1]
    clear h1
    go_enter Tryz.func129, Tryz.ntmps129
    go_wp2_with fail
    go_ret
    exact ⟨rfl, rfl⟩
/-- In the text S there stands the byte x at k. -/
def At (S : ByteArray) (k x : Nat) : Prop := ∃ h : k < S.size, (S[k]).toNat = x
theorem At.lt {S : ByteArray} {k x : Nat} (h : At S k x) : k < S.size := h.1
theorem At.u8 {S : ByteArray} {k x : Nat} (h : At S k x) : x < 256 := by
  obtain ⟨h1, rfl⟩ := h
  exact (S[k]).toNat_lt
theorem beqN (x b : Nat) : ((x : Int) == (b : Int)) = (x == b) := by
  by_cases e : x = b
  · subst e; simp
  · rw [beq_false_of_ne e]; simp; omega
set_option maxRecDepth 100000 in
set_option maxHeartbeats 1000000 in
theorem begins_at (S : ByteArray) (k x b : Nat) (v : Bool) (w : World) (hb : b < 256) (h : At S k x) (hv : (x == b) = v) (hS : S.size ≤ 9007199254740992) :
    Calls Tryz.prog 116 #[.string S, .int .i64 (k : Int), .int .u8 (b : Int)] w fun e w' => e = .returned (.bool v) ∧ Below w.heap.size w w' := by
  obtain ⟨hk, hx⟩ := h
  have hkI : (k : Int) < (S.size : Int) := by omega
  have hq := beqN x b
  rw [hv] at hq
  go_enter Tryz.func116, Tryz.ntmps116
  go_wp2_with fail
  go_ret
  exact ⟨rfl, Below.refl _ _⟩
theorem or_dig : ∀ q : Nat, q < 16 → ∀ r : Nat, r < 16 → bits BinOp.or IntKind.u8 ((q : Int) * 16) (r : Int) = ((16 * q + r : Nat) : Int) := by decide +kernel
set_option maxRecDepth 100000 in
set_option maxHeartbeats 1000000 in
theorem digit_at (S : ByteArray) (k d : Nat) (w : World) (hd : d < 16) (h : At S k (hexd d)) (hS : S.size ≤ 9007199254740992) :
    Calls Tryz.prog 150 #[.string S, .int .i64 (k : Int)] w fun e w' => e = .returned (.tuple #[.int .u8 (d : Int), .bool true]) ∧ Below w.heap.size w w' := by
  obtain ⟨x, hxd⟩ : ∃ x, x = hexd d := ⟨_, rfl⟩
  rw [← hxd] at h
  obtain ⟨hk, hx⟩ := h
  have hkI : (k : Int) < (S.size : Int) := by omega
  have a0 : decide ((S.size : Int) ≤ (k : Int)) = false := by simp; omega
  by_cases h10 : d < 10
  · have hx2 : x = 48 + d := by rw [hxd, hexd, if_pos h10]
    have a1 : decide (48 ≤ (x : Int)) = true := by simp; omega
    have a2 : decide ((x : Int) ≤ 57) = true := by simp; omega
    have a3 : IntKind.u8.wrap ((x : Int) - 48) = (d : Int) := by rw [IntKind.wrap_u8]; omega
    clear hxd hx2
    go_enter Tryz.func150, Tryz.ntmps150
    go_wp2_with fail
    go_ret2
    exact ⟨rfl, Below.refl _ _⟩
  · have hx2 : x = 87 + d := by rw [hxd, hexd, if_neg h10]
    have a1 : decide (48 ≤ (x : Int)) = true := by simp; omega
    have a2 : decide ((x : Int) ≤ 57) = false := by simp; omega
    have a4 : decide (97 ≤ (x : Int)) = true := by simp; omega
    have a5 : decide ((x : Int) ≤ 102) = true := by simp; omega
    have a3 : IntKind.u8.wrap ((x : Int) - 97) = ((d - 10 : Nat) : Int) := by rw [IntKind.wrap_u8]; omega
    have a6 : IntKind.u8.wrap (((d - 10 : Nat) : Int) + 10) = (d : Int) := by rw [IntKind.wrap_u8]; omega
    clear hxd hx2
    go_enter Tryz.func150, Tryz.ntmps150
    go_wp2_with fail
    go_ret2
    exact ⟨rfl, Below.refl _ _⟩
set_option maxRecDepth 100000 in
set_option maxHeartbeats 1000000 in
theorem digits_at (S : ByteArray) (k q r c : Nat) (w : World) (hc : 16 * q + r = c) (hq : q < 16) (hr : r < 16) (h : At S k (hexd q)) (h2 : At S (k + 1) (hexd r)) (hS : S.size ≤ 9007199254740992) :
    Calls Tryz.prog 146 #[.string S, .int .i64 (k : Int)] w fun e w' => e = .returned (.tuple #[.int .u8 (c : Int), .int .i64 ((k : Int) + 2), .nilIface]) ∧ Below w.heap.size w w' := by
  have H1 : Hid (∀ w : World, Calls Tryz.prog 150 #[.string S, .int .i64 (k : Int)] w fun e w' => e = .returned (.tuple #[.int .u8 (q : Int), .bool true]) ∧ Below w.heap.size w w') := fun w => digit_at S k q w hq h hS
  have H2 : Hid (∀ w : World, Calls Tryz.prog 150 #[.string S, .int .i64 ((k : Int) + 1)] w fun e w' => e = .returned (.tuple #[.int .u8 (r : Int), .bool true]) ∧ Below w.heap.size w w') := fun w => by
    have h := digit_at S (k + 1) r w hr h2 hS
    rw [show ((k + 1 : Nat) : Int) = (k : Int) + 1 by omega] at h
    exact h
  have hk := h.lt
  have ho := or_dig q hq r hr
  rw [hc] at ho
  clear hc
  have hks : (k : Int) + 2 ≤ 9007199254740994 := by omega
  clear h h2
  go_enter Tryz.func146, Tryz.ntmps146
  go_wp2_with fail
  refine (H1.out _).mono ?_
  rintro e w1 ⟨rfl, hb1⟩
  have HB1 : Hid (Below w.heap.size w w1) := hb1
  clear hb1
  go_wp2_with fail
  refine (H2.out _).mono ?_
  rintro e w2 ⟨rfl, hb2⟩
  have HB2 : Hid (Below w.heap.size w w2) := HB1.out.trans (hb2.mono HB1.out.size)
  clear hb2
  go_wp2_with fail
  go_ret3
  exact ⟨rfl, HB2.out⟩
end Go.Proofs.YtikfnaffiehpaaaGreatDoor
