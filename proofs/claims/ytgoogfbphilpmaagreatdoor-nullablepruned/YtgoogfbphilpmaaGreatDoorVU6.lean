/-
  What nullable's answers.ofSeq answers. Conditions: those that each theorem names.
-/
import Derived.Test.YtgoogfbphilpmaaGreatDoorVU3ToU5
namespace Go.Proofs.YtgoogfbphilpmaaGreatDoor
open Go.RowKit Go.Shelf Go.Maps
set_option linter.unusedVariables false
set_option maxRecDepth 100000 in
set_option maxHeartbeats 16000000 in
theorem useq_any (B : Nat) (K : ByteArray → Ot) (so : Option Addr) (n cap : Nat) (s : List RT) (w : World) (hn : n ≤ 9223372036854775807) (HN : Hid (n = s.length))
    (HC : Hid (∀ j (hj : j < s.length), ∃ g o, so = some ⟨g, o, none⟩ ∧ g < w.heap.size ∧ ∃ k1 T1 a1 b1 c1 d1 so1 n1 cap1 p1, Rc w g (o + j * 8) k1 T1 a1 b1 c1 d1 (.slice so1 n1 cap1) p1 ∧
      ∀ W : World, Below w.heap.size w W → Calls Tryz.prog 27 #[.map (some B), .agg (r8 k1 T1 a1 b1 c1 d1 so1 n1 cap1 p1).toArray] W fun e w' => e = .returned (ov (ofT K s[j])) ∧ Hid (Below W.heap.size W w'))) :
    Calls Tryz.prog 47 #[.map (some B), .slice so n cap] w fun e w' => e = .returned (ov (ofS K (true, false, false) s)) ∧ Hid (Below w.heap.size w w') := by
  obtain ⟨W1, hW1⟩ : ∃ W1, W1 = (w.alloc (.cells #[.bool false, .bool false, .bool false] 39)).alloc (.cells #[.bool true, .bool false, .bool false] 39) := ⟨_, rfl⟩
  have HB1 : Hid (Below w.heap.size w W1) := by rw [hW1]; exact ((Below.refl _ w).alloc (Nat.le_refl _) _).alloc (by simp) _
  have HR1 : Hid (W1.heap[w.heap.size]? = some (.cells #[.bool false, .bool false, .bool false] 39)) := by rw [hW1]; exact (Below.heap_alloc _ _ _ (by simp)).trans (new_block_at w _ rfl)
  have HA1 : Hid (W1.heap[w.heap.size + 1]? = some (.cells #[.bool true, .bool false, .bool false] 39)) := by rw [hW1]; exact new_block_at _ _ (by simp)
  have HW1 := hid hW1
  clear hW1
  go_enter Tryz.func47, Tryz.ntmps47
  go_wp2_with fail
  rw [← HW1.out]
  clear HW1
  go_loopw [12] (fun i wr => ∃ j : Nat, i = .int .i64 (j : Int) ∧ j ≤ n ∧ Hid (Below w.heap.size w wr) ∧ Hid (wr.heap[w.heap.size]? = some (.cells #[.bool false, .bool false, .bool false] 39)) ∧ ∃ x1 x2 x3 : Bool, Hid ((x1, x2, x3) = ofS K (true, false, false) (s.take j)) ∧ Hid (wr.heap[w.heap.size + 1]? = some (.cells #[.bool x1, .bool x2, .bool x3] 39))) (fun i _ => n - (intOf i).toNat)
  case atStart => exact ⟨0, rfl, Nat.zero_le _, HB1, HR1, _, _, _, hid (by rw [List.take_zero, ofS]), HA1⟩
  case round =>
    obtain ⟨j, rfl, hj, HBr, HRr, x1, x2, x3, HX, HAr⟩ := hrel
    by_cases hjn : j < n
    · have hjI : (j : Int) < (n : Int) := by omega
      have a0 : decide ((j : Int) < (n : Int)) = true := by simp; omega
      have hjs : j < s.length := by rw [← HN.out]; exact hjn
      obtain ⟨g, o, rfl, hg, k1, T1, a1, b1, c1, d1, so1, n1, cap1, p1, hrc, hcall⟩ := HC.out j hjs
      obtain ⟨z0, z1, z2, z3, z4, z5, z6, z7⟩ := hrc.below HBr.out hg
      have hgl : g < wr.heap.size := World.block_lt_of_cell? wr _ z0
      obtain ⟨⟨y1, y2, y3⟩, hy⟩ : ∃ y, y = ofT K s[j] := ⟨_, rfl⟩
      have hbp : Below w.heap.size w (wr.alloc (.cells #[.int .i64 k1, .string T1, .int .u64 a1, .int .u64 b1, .int .u64 c1, .int .u64 d1, .slice so1 n1 cap1, .int .i64 p1] 30)) := HBr.out.alloc HBr.out.size _
      have hbq := (Below.refl _ wr).alloc (Nat.le_refl _) (.cells #[.int .i64 k1, .string T1, .int .u64 a1, .int .u64 b1, .int .u64 c1, .int .u64 d1, .slice so1 n1 cap1, .int .i64 p1] 30)
      have HRp := hid ((hbq.block _ (node_lt HRr.out)).trans HRr.out)
      have HAp := hid ((hbq.block _ (node_lt HAr.out)).trans HAr.out)
      have HBp := hid hbp
      have HS := hid (hcall _ hbp)
      rw [← hy] at HS
      have HY := hid hy
      clear hcall hrc hy hbp hbq
      dsimp only [r8, ov] at HS
      go_wp2_with (first
        | (go_at_call 27; refine HS.out.mono ?_; rintro e w4 ⟨rfl, HB4⟩))
      have HBw4 := hid (HBp.out.trans (HB4.out.mono HBp.out.size))
      have HR4 := hid ((HB4.out.block _ (node_lt HRp.out)).trans HRp.out)
      have HA4 := hid ((HB4.out.block _ (node_lt HAp.out)).trans HAp.out)
      clear HS HB4 z0 z1 z2 z3 z4 z5 z6 z7 HRr HAr HBr hgl HBp HRp HAp
      obtain ⟨q, hq⟩ : ∃ q, q = suc (y1, y2, y3) := ⟨_, rfl⟩
      have HSn : Hid (∀ W : World, Calls Tryz.prog 72 #[.agg #[.bool y1, .bool y2, .bool y3]] W fun e w' => e = .returned (.bool q) ∧ Hid (Below W.heap.size W w')) := fun W => by rw [hq]; exact usuc_any y1 y2 y3 W
      have HSa : Hid (∀ W : World, Calls Tryz.prog 72 #[.agg #[.bool x1, .bool x2, .bool x3]] W fun e w' => e = .returned (.bool (x1 || x2)) ∧ Hid (Below W.heap.size W w')) := fun W => usuc_any x1 x2 x3 W
      have HQ := hid hq
      clear hq
      have S0 : (fun W : World => Hid (Below w.heap.size w W) ∧ Hid (W.heap[w.heap.size]? = some (.cells #[.bool false, .bool false, .bool false] 39)) ∧ Hid (W.heap[w.heap.size + 1]? = some (.cells #[.bool x1, .bool x2, .bool x3] 39)) ∧ W.cell? ⟨w.heap.size + 1, 0, none⟩ = some (.bool x1) ∧ W.cell? ⟨w.heap.size + 1, 1, none⟩ = some (.bool x2) ∧ W.cell? ⟨w.heap.size + 1, 2, none⟩ = some (.bool x3) ∧ W.cell? ⟨w4.heap.size, 0, none⟩ = some (.bool y1) ∧ W.cell? ⟨w4.heap.size, 1, none⟩ = some (.bool y2) ∧ W.cell? ⟨w4.heap.size, 2, none⟩ = some (.bool y3)) (w4.alloc (.cells #[.bool y1, .bool y2, .bool y3] 39)).drew := by
        have hb := (Below.refl _ w4).alloc (Nat.le_refl _) (.cells #[.bool y1, .bool y2, .bool y3] 39)
        have h1 := (hb.block _ (node_lt HA4.out)).trans HA4.out
        obtain ⟨⟨t0, t1, t2⟩, _⟩ := three_cells h1
        obtain ⟨⟨u0, u1, u2⟩, _⟩ := three_cells (new_block_at w4 (.cells #[.bool y1, .bool y2, .bool y3] 39) rfl)
        exact ⟨hid (HBw4.out.trans (hb.mono HBw4.out.size)).drew, hid ((hb.block _ (node_lt HR4.out)).trans HR4.out), hid h1, t0, t1, t2, u0, u1, u2⟩
      clear HBw4 HR4 HA4
      cases x1 <;> cases x2 <;> cases x3 <;> cases q <;> (
          simp only [Bool.or_false, Bool.or_true] at HSa
          refine region_L 31 (fun W : World => Hid (Below w.heap.size w W) ∧ Hid (W.heap[w.heap.size]? = some (.cells #[.bool false, .bool false, .bool false] 39)) ∧ Hid (W.heap[w.heap.size + 1]? = some (.cells #[.bool _, .bool _, .bool _] 39)) ∧ W.cell? ⟨w.heap.size + 1, 0, none⟩ = some (.bool _) ∧ W.cell? ⟨w.heap.size + 1, 1, none⟩ = some (.bool _) ∧ W.cell? ⟨w.heap.size + 1, 2, none⟩ = some (.bool _) ∧ W.cell? ⟨w4.heap.size, 0, none⟩ = some (.bool y1) ∧ W.cell? ⟨w4.heap.size, 1, none⟩ = some (.bool y2) ∧ W.cell? ⟨w4.heap.size, 2, none⟩ = some (.bool y3)) (by kernel_rfl) S0 (fun hHeld => ?_)
          (refine anyL_take (i := 0) (oi := { dst := Option.some 19, op := Go.Op.fieldAddr 39 (Go.Operand.tmp 5) 0, type := 0, pos := "nullable.go:102", after := #[], guard := Option.none }) (v := ?_) rfl (by kernel_rfl) (by kernel_rfl) (by kernel_rfl) (fun _ _ _ h => h) (Or.inl ⟨by rfl, ?_⟩) hHeld ?_; rotate_left; (intro w hSw; (try dsimp only at hSw); go_simp; (try with_reducible rfl)); skip)
          (try simp only [Act.put, List.setIfInBounds_toArray, List.set_cons_zero, List.set_cons_succ])
          (refine anyL_take (i := 1) (oi := { dst := Option.some 20, op := Go.Op.load 4 (Go.Operand.tmp 19), type := 4, pos := "nullable.go:102", after := #[{ on := 0, ground := Go.Ground.data }], guard := Option.none }) (v := ?_) rfl (by kernel_rfl) (by kernel_rfl) (by kernel_rfl) (fun _ _ _ h => h) (Or.inl ⟨by rfl, ?_⟩) hHeld ?_; rotate_left; (intro w hSw; (try dsimp only at hSw); go_simp; (try with_reducible rfl)); skip)
          (try simp only [Act.put, List.setIfInBounds_toArray, List.set_cons_zero, List.set_cons_succ])
          (refine anyL_take (i := 2) (oi := { dst := Option.some 21, op := Go.Op.move (Go.Operand.tmp 20), type := 4, pos := "nullable.go:102", after := #[{ on := 1, ground := Go.Ground.data }], guard := Option.none }) (v := ?_) rfl (by kernel_rfl) (by kernel_rfl) (by kernel_rfl) (fun _ _ _ h => h) (Or.inl ⟨by rfl, ?_⟩) hHeld ?_; rotate_left; (intro w hSw; (try dsimp only at hSw); go_simp; (try with_reducible rfl)); skip)
          (try simp only [Act.put, List.setIfInBounds_toArray, List.set_cons_zero, List.set_cons_succ])
          first
            | (refine anyL_take (i := 3) (oi := { dst := Option.some 22, op := Go.Op.fieldAddr 39 (Go.Operand.tmp 8) 0, type := 0, pos := "nullable.go:102", after := #[{ on := 2, ground := Go.Ground.guard }], guard := Option.some (2, Bool.true) }) (v := undef) rfl (by kernel_rfl) (by kernel_rfl) (by kernel_rfl) (fun _ _ _ h => h) (Or.inr ⟨by rfl, rfl⟩) hHeld ?_)
            | (refine anyL_take (i := 3) (oi := { dst := Option.some 22, op := Go.Op.fieldAddr 39 (Go.Operand.tmp 8) 0, type := 0, pos := "nullable.go:102", after := #[{ on := 2, ground := Go.Ground.guard }], guard := Option.some (2, Bool.true) }) (v := ?_) rfl (by kernel_rfl) (by kernel_rfl) (by kernel_rfl) (fun _ _ _ h => h) (Or.inl ⟨by rfl, ?_⟩) hHeld ?_; rotate_left; (intro w hSw; (try dsimp only at hSw); go_simp; (try with_reducible rfl)); skip)
          (try simp only [Act.put, List.setIfInBounds_toArray, List.set_cons_zero, List.set_cons_succ])
          first
            | (refine anyL_take (i := 4) (oi := { dst := Option.some 23, op := Go.Op.load 4 (Go.Operand.tmp 22), type := 4, pos := "nullable.go:102", after := #[{ on := 3, ground := Go.Ground.data }, { on := 2, ground := Go.Ground.guard }], guard := Option.some (2, Bool.true) }) (v := undef) rfl (by kernel_rfl) (by kernel_rfl) (by kernel_rfl) (fun _ _ _ h => h) (Or.inr ⟨by rfl, rfl⟩) hHeld ?_)
            | (refine anyL_take (i := 4) (oi := { dst := Option.some 23, op := Go.Op.load 4 (Go.Operand.tmp 22), type := 4, pos := "nullable.go:102", after := #[{ on := 3, ground := Go.Ground.data }, { on := 2, ground := Go.Ground.guard }], guard := Option.some (2, Bool.true) }) (v := ?_) rfl (by kernel_rfl) (by kernel_rfl) (by kernel_rfl) (fun _ _ _ h => h) (Or.inl ⟨by rfl, ?_⟩) hHeld ?_; rotate_left; (intro w hSw; (try dsimp only at hSw); go_simp; (try with_reducible rfl)); skip)
          (try simp only [Act.put, List.setIfInBounds_toArray, List.set_cons_zero, List.set_cons_succ])
          (refine anyL_take (i := 5) (oi := { dst := Option.some 24, op := Go.Op.pick (Go.Operand.tmp 21) (Go.Operand.tmp 23) (Go.Operand.const (Go.Value.bool Bool.false)), type := 4, pos := "nullable.go:102", after := #[{ on := 2, ground := Go.Ground.data }, { on := 4, ground := Go.Ground.data }], guard := Option.none }) (v := ?_) rfl (by kernel_rfl) (by kernel_rfl) (by kernel_rfl) (fun _ _ _ h => h) (Or.inl ⟨by rfl, ?_⟩) hHeld ?_; rotate_left; (intro w hSw; (try dsimp only at hSw); go_simp; (try with_reducible rfl)); skip)
          (try simp only [Act.put, List.setIfInBounds_toArray, List.set_cons_zero, List.set_cons_succ])
          (refine anyL_take (i := 6) (oi := { dst := Option.some 25, op := Go.Op.fieldAddr 39 (Go.Operand.tmp 5) 1, type := 0, pos := "nullable.go:102", after := #[], guard := Option.none }) (v := ?_) rfl (by kernel_rfl) (by kernel_rfl) (by kernel_rfl) (fun _ _ _ h => h) (Or.inl ⟨by rfl, ?_⟩) hHeld ?_; rotate_left; (intro w hSw; (try dsimp only at hSw); go_simp; (try with_reducible rfl)); skip)
          (try simp only [Act.put, List.setIfInBounds_toArray, List.set_cons_zero, List.set_cons_succ])
          (refine anyL_take (i := 7) (oi := { dst := Option.some 26, op := Go.Op.load 4 (Go.Operand.tmp 25), type := 4, pos := "nullable.go:102", after := #[{ on := 6, ground := Go.Ground.data }], guard := Option.none }) (v := ?_) rfl (by kernel_rfl) (by kernel_rfl) (by kernel_rfl) (fun _ _ _ h => h) (Or.inl ⟨by rfl, ?_⟩) hHeld ?_; rotate_left; (intro w hSw; (try dsimp only at hSw); go_simp; (try with_reducible rfl)); skip)
          (try simp only [Act.put, List.setIfInBounds_toArray, List.set_cons_zero, List.set_cons_succ])
          (refine anyL_take (i := 8) (oi := { dst := Option.some 27, op := Go.Op.move (Go.Operand.tmp 26), type := 4, pos := "nullable.go:102", after := #[{ on := 7, ground := Go.Ground.data }, { on := 2, ground := Go.Ground.chain }], guard := Option.none }) (v := ?_) rfl (by kernel_rfl) (by kernel_rfl) (by kernel_rfl) (fun _ _ _ h => h) (Or.inl ⟨by rfl, ?_⟩) hHeld ?_; rotate_left; (intro w hSw; (try dsimp only at hSw); go_simp; (try with_reducible rfl)); skip)
          (try simp only [Act.put, List.setIfInBounds_toArray, List.set_cons_zero, List.set_cons_succ])
          first
            | (refine anyL_take (i := 9) (oi := { dst := Option.some 28, op := Go.Op.load 39 (Go.Operand.tmp 8), type := 39, pos := "nullable.go:102", after := #[{ on := 8, ground := Go.Ground.guard }], guard := Option.some (8, Bool.true) }) (v := undef) rfl (by kernel_rfl) (by kernel_rfl) (by kernel_rfl) (fun _ _ _ h => h) (Or.inr ⟨by rfl, rfl⟩) hHeld ?_)
            | (refine anyL_take (i := 9) (oi := { dst := Option.some 28, op := Go.Op.load 39 (Go.Operand.tmp 8), type := 39, pos := "nullable.go:102", after := #[{ on := 8, ground := Go.Ground.guard }], guard := Option.some (8, Bool.true) }) (v := ?_) rfl (by kernel_rfl) (by kernel_rfl) (by kernel_rfl) (fun _ _ _ h => h) (Or.inl ⟨by rfl, ?_⟩) hHeld ?_; rotate_left; (intro w hSw; (try dsimp only at hSw); go_simp; (try with_reducible rfl)); skip)
          (try simp only [Act.put, List.setIfInBounds_toArray, List.set_cons_zero, List.set_cons_succ])
          (refine anyL_take (i := 20) (oi := { dst := Option.some 39, op := Go.Op.fieldAddr 39 (Go.Operand.tmp 5) 2, type := 0, pos := "nullable.go:102", after := #[], guard := Option.none }) (v := ?_) rfl (by kernel_rfl) (by kernel_rfl) (by kernel_rfl) (fun _ _ _ h => h) (Or.inl ⟨by rfl, ?_⟩) hHeld ?_; rotate_left; (intro w hSw; (try dsimp only at hSw); go_simp; (try with_reducible rfl)); skip)
          (try simp only [Act.put, List.setIfInBounds_toArray, List.set_cons_zero, List.set_cons_succ])
          (refine anyL_take (i := 21) (oi := { dst := Option.some 40, op := Go.Op.load 4 (Go.Operand.tmp 39), type := 4, pos := "nullable.go:102", after := #[{ on := 20, ground := Go.Ground.data }], guard := Option.none }) (v := ?_) rfl (by kernel_rfl) (by kernel_rfl) (by kernel_rfl) (fun _ _ _ h => h) (Or.inl ⟨by rfl, ?_⟩) hHeld ?_; rotate_left; (intro w hSw; (try dsimp only at hSw); go_simp; (try with_reducible rfl)); skip)
          (try simp only [Act.put, List.setIfInBounds_toArray, List.set_cons_zero, List.set_cons_succ])
          first
            | (refine anyL_take (i := 10) (oi := { dst := Option.some 29, op := Go.Op.call { callee := Go.Callee.value (Go.Operand.func 72), args := #[Go.Operand.tmp 28], argTypes := #[39] }, type := 4, pos := "nullable.go:104", after := #[{ on := 9, ground := Go.Ground.data }, { on := 8, ground := Go.Ground.chain }, { on := 8, ground := Go.Ground.guard }], guard := Option.some (8, Bool.true) }) (v := undef) rfl (by kernel_rfl) (by kernel_rfl) (by kernel_rfl) (fun _ _ _ h => h) (Or.inr ⟨by rfl, rfl⟩) hHeld ?_)
            | (refine anyL_one (i := 10) (o := { dst := Option.some 29, op := Go.Op.call { callee := Go.Callee.value (Go.Operand.func 72), args := #[Go.Operand.tmp 28], argTypes := #[39] }, type := 4, pos := "nullable.go:104", after := #[{ on := 9, ground := Go.Ground.data }, { on := 8, ground := Go.Ground.chain }, { on := 8, ground := Go.Ground.guard }], guard := Option.some (8, Bool.true) }) (by kernel_rfl) rfl (fun K hK => ?_); go_simp; refine (HSn.out _).mono ?_; rintro e w5 ⟨rfl, HB5⟩; go_simp; replace hHeld := keep_seq hHeld HB5.out; refine hK.out _ _ hHeld ?_; clear hK K HB5)
          (try simp only [Act.put, List.setIfInBounds_toArray, List.set_cons_zero, List.set_cons_succ])
          (refine anyL_take (i := 11) (oi := { dst := Option.some 30, op := Go.Op.pick (Go.Operand.tmp 27) (Go.Operand.tmp 29) (Go.Operand.const (Go.Value.bool Bool.false)), type := 4, pos := "nullable.go:102", after := #[{ on := 8, ground := Go.Ground.data }, { on := 10, ground := Go.Ground.data }], guard := Option.none }) (v := ?_) rfl (by kernel_rfl) (by kernel_rfl) (by kernel_rfl) (fun _ _ _ h => h) (Or.inl ⟨by rfl, ?_⟩) hHeld ?_; rotate_left; (intro w hSw; (try dsimp only at hSw); go_simp; (try with_reducible rfl)); skip)
          (try simp only [Act.put, List.setIfInBounds_toArray, List.set_cons_zero, List.set_cons_succ])
          (refine anyL_take (i := 12) (oi := { dst := Option.some 31, op := Go.Op.move (Go.Operand.tmp 30), type := 4, pos := "nullable.go:102", after := #[{ on := 11, ground := Go.Ground.data }, { on := 10, ground := Go.Ground.chain }], guard := Option.none }) (v := ?_) rfl (by kernel_rfl) (by kernel_rfl) (by kernel_rfl) (fun _ _ _ h => h) (Or.inl ⟨by rfl, ?_⟩) hHeld ?_; rotate_left; (intro w hSw; (try dsimp only at hSw); go_simp; (try with_reducible rfl)); skip)
          (try simp only [Act.put, List.setIfInBounds_toArray, List.set_cons_zero, List.set_cons_succ])
          first
            | (refine anyL_take (i := 13) (oi := { dst := Option.some 32, op := Go.Op.fieldAddr 39 (Go.Operand.tmp 5) 0, type := 0, pos := "nullable.go:102", after := #[{ on := 12, ground := Go.Ground.guard }], guard := Option.some (12, Bool.false) }) (v := undef) rfl (by kernel_rfl) (by kernel_rfl) (by kernel_rfl) (fun _ _ _ h => h) (Or.inr ⟨by rfl, rfl⟩) hHeld ?_)
            | (refine anyL_take (i := 13) (oi := { dst := Option.some 32, op := Go.Op.fieldAddr 39 (Go.Operand.tmp 5) 0, type := 0, pos := "nullable.go:102", after := #[{ on := 12, ground := Go.Ground.guard }], guard := Option.some (12, Bool.false) }) (v := ?_) rfl (by kernel_rfl) (by kernel_rfl) (by kernel_rfl) (fun _ _ _ h => h) (Or.inl ⟨by rfl, ?_⟩) hHeld ?_; rotate_left; (intro w hSw; (try dsimp only at hSw); go_simp; (try with_reducible rfl)); skip)
          (try simp only [Act.put, List.setIfInBounds_toArray, List.set_cons_zero, List.set_cons_succ])
          first
            | (refine anyL_take (i := 14) (oi := { dst := Option.some 33, op := Go.Op.load 4 (Go.Operand.tmp 32), type := 4, pos := "nullable.go:102", after := #[{ on := 13, ground := Go.Ground.data }, { on := 12, ground := Go.Ground.guard }], guard := Option.some (12, Bool.false) }) (v := undef) rfl (by kernel_rfl) (by kernel_rfl) (by kernel_rfl) (fun _ _ _ h => h) (Or.inr ⟨by rfl, rfl⟩) hHeld ?_)
            | (refine anyL_take (i := 14) (oi := { dst := Option.some 33, op := Go.Op.load 4 (Go.Operand.tmp 32), type := 4, pos := "nullable.go:102", after := #[{ on := 13, ground := Go.Ground.data }, { on := 12, ground := Go.Ground.guard }], guard := Option.some (12, Bool.false) }) (v := ?_) rfl (by kernel_rfl) (by kernel_rfl) (by kernel_rfl) (fun _ _ _ h => h) (Or.inl ⟨by rfl, ?_⟩) hHeld ?_; rotate_left; (intro w hSw; (try dsimp only at hSw); go_simp; (try with_reducible rfl)); skip)
          (try simp only [Act.put, List.setIfInBounds_toArray, List.set_cons_zero, List.set_cons_succ])
          first
            | (refine anyL_take (i := 15) (oi := { dst := Option.some 34, op := Go.Op.move (Go.Operand.tmp 33), type := 4, pos := "nullable.go:102", after := #[{ on := 14, ground := Go.Ground.data }, { on := 12, ground := Go.Ground.chain }, { on := 12, ground := Go.Ground.guard }], guard := Option.some (12, Bool.false) }) (v := undef) rfl (by kernel_rfl) (by kernel_rfl) (by kernel_rfl) (fun _ _ _ h => h) (Or.inr ⟨by rfl, rfl⟩) hHeld ?_)
            | (refine anyL_take (i := 15) (oi := { dst := Option.some 34, op := Go.Op.move (Go.Operand.tmp 33), type := 4, pos := "nullable.go:102", after := #[{ on := 14, ground := Go.Ground.data }, { on := 12, ground := Go.Ground.chain }, { on := 12, ground := Go.Ground.guard }], guard := Option.some (12, Bool.false) }) (v := ?_) rfl (by kernel_rfl) (by kernel_rfl) (by kernel_rfl) (fun _ _ _ h => h) (Or.inl ⟨by rfl, ?_⟩) hHeld ?_; rotate_left; (intro w hSw; (try dsimp only at hSw); go_simp; (try with_reducible rfl)); skip)
          (try simp only [Act.put, List.setIfInBounds_toArray, List.set_cons_zero, List.set_cons_succ])
          first
            | (refine anyL_take (i := 16) (oi := { dst := Option.some 35, op := Go.Op.fieldAddr 39 (Go.Operand.tmp 8) 1, type := 0, pos := "nullable.go:102", after := #[{ on := 15, ground := Go.Ground.guard }], guard := Option.some (15, Bool.true) }) (v := undef) rfl (by kernel_rfl) (by kernel_rfl) (by kernel_rfl) (fun _ _ _ h => h) (Or.inr ⟨by rfl, rfl⟩) hHeld ?_)
            | (refine anyL_take (i := 16) (oi := { dst := Option.some 35, op := Go.Op.fieldAddr 39 (Go.Operand.tmp 8) 1, type := 0, pos := "nullable.go:102", after := #[{ on := 15, ground := Go.Ground.guard }], guard := Option.some (15, Bool.true) }) (v := ?_) rfl (by kernel_rfl) (by kernel_rfl) (by kernel_rfl) (fun _ _ _ h => h) (Or.inl ⟨by rfl, ?_⟩) hHeld ?_; rotate_left; (intro w hSw; (try dsimp only at hSw); go_simp; (try with_reducible rfl)); skip)
          (try simp only [Act.put, List.setIfInBounds_toArray, List.set_cons_zero, List.set_cons_succ])
          first
            | (refine anyL_take (i := 17) (oi := { dst := Option.some 36, op := Go.Op.load 4 (Go.Operand.tmp 35), type := 4, pos := "nullable.go:102", after := #[{ on := 16, ground := Go.Ground.data }, { on := 15, ground := Go.Ground.guard }], guard := Option.some (15, Bool.true) }) (v := undef) rfl (by kernel_rfl) (by kernel_rfl) (by kernel_rfl) (fun _ _ _ h => h) (Or.inr ⟨by rfl, rfl⟩) hHeld ?_)
            | (refine anyL_take (i := 17) (oi := { dst := Option.some 36, op := Go.Op.load 4 (Go.Operand.tmp 35), type := 4, pos := "nullable.go:102", after := #[{ on := 16, ground := Go.Ground.data }, { on := 15, ground := Go.Ground.guard }], guard := Option.some (15, Bool.true) }) (v := ?_) rfl (by kernel_rfl) (by kernel_rfl) (by kernel_rfl) (fun _ _ _ h => h) (Or.inl ⟨by rfl, ?_⟩) hHeld ?_; rotate_left; (intro w hSw; (try dsimp only at hSw); go_simp; (try with_reducible rfl)); skip)
          (try simp only [Act.put, List.setIfInBounds_toArray, List.set_cons_zero, List.set_cons_succ])
          first
            | (refine anyL_take (i := 18) (oi := { dst := Option.some 37, op := Go.Op.pick (Go.Operand.tmp 34) (Go.Operand.tmp 36) (Go.Operand.const (Go.Value.bool Bool.false)), type := 4, pos := "nullable.go:102", after := #[{ on := 15, ground := Go.Ground.data }, { on := 17, ground := Go.Ground.data }, { on := 12, ground := Go.Ground.guard }], guard := Option.some (12, Bool.false) }) (v := undef) rfl (by kernel_rfl) (by kernel_rfl) (by kernel_rfl) (fun _ _ _ h => h) (Or.inr ⟨by rfl, rfl⟩) hHeld ?_)
            | (refine anyL_take (i := 18) (oi := { dst := Option.some 37, op := Go.Op.pick (Go.Operand.tmp 34) (Go.Operand.tmp 36) (Go.Operand.const (Go.Value.bool Bool.false)), type := 4, pos := "nullable.go:102", after := #[{ on := 15, ground := Go.Ground.data }, { on := 17, ground := Go.Ground.data }, { on := 12, ground := Go.Ground.guard }], guard := Option.some (12, Bool.false) }) (v := ?_) rfl (by kernel_rfl) (by kernel_rfl) (by kernel_rfl) (fun _ _ _ h => h) (Or.inl ⟨by rfl, ?_⟩) hHeld ?_; rotate_left; (intro w hSw; (try dsimp only at hSw); go_simp; (try with_reducible rfl)); skip)
          (try simp only [Act.put, List.setIfInBounds_toArray, List.set_cons_zero, List.set_cons_succ])
          (refine anyL_take (i := 19) (oi := { dst := Option.some 38, op := Go.Op.pick (Go.Operand.tmp 31) (Go.Operand.const (Go.Value.bool Bool.true)) (Go.Operand.tmp 37), type := 4, pos := "nullable.go:102", after := #[{ on := 12, ground := Go.Ground.data }, { on := 18, ground := Go.Ground.data }], guard := Option.none }) (v := ?_) rfl (by kernel_rfl) (by kernel_rfl) (by kernel_rfl) (fun _ _ _ h => h) (Or.inl ⟨by rfl, ?_⟩) hHeld ?_; rotate_left; (intro w hSw; (try dsimp only at hSw); go_simp; (try with_reducible rfl)); skip)
          (try simp only [Act.put, List.setIfInBounds_toArray, List.set_cons_zero, List.set_cons_succ])
          (refine anyL_take (i := 22) (oi := { dst := Option.some 41, op := Go.Op.move (Go.Operand.tmp 40), type := 4, pos := "nullable.go:102", after := #[{ on := 21, ground := Go.Ground.data }, { on := 15, ground := Go.Ground.chain }], guard := Option.none }) (v := ?_) rfl (by kernel_rfl) (by kernel_rfl) (by kernel_rfl) (fun _ _ _ h => h) (Or.inl ⟨by rfl, ?_⟩) hHeld ?_; rotate_left; (intro w hSw; (try dsimp only at hSw); go_simp; (try with_reducible rfl)); skip)
          (try simp only [Act.put, List.setIfInBounds_toArray, List.set_cons_zero, List.set_cons_succ])
          first
            | (refine anyL_take (i := 23) (oi := { dst := Option.some 42, op := Go.Op.load 39 (Go.Operand.tmp 5), type := 39, pos := "nullable.go:102", after := #[{ on := 22, ground := Go.Ground.guard }], guard := Option.some (22, Bool.false) }) (v := undef) rfl (by kernel_rfl) (by kernel_rfl) (by kernel_rfl) (fun _ _ _ h => h) (Or.inr ⟨by rfl, rfl⟩) hHeld ?_)
            | (refine anyL_take (i := 23) (oi := { dst := Option.some 42, op := Go.Op.load 39 (Go.Operand.tmp 5), type := 39, pos := "nullable.go:102", after := #[{ on := 22, ground := Go.Ground.guard }], guard := Option.some (22, Bool.false) }) (v := ?_) rfl (by kernel_rfl) (by kernel_rfl) (by kernel_rfl) (fun _ _ _ h => h) (Or.inl ⟨by rfl, ?_⟩) hHeld ?_; rotate_left; (intro w hSw; (try dsimp only at hSw); go_simp; (try with_reducible rfl)); skip)
          (try simp only [Act.put, List.setIfInBounds_toArray, List.set_cons_zero, List.set_cons_succ])
          first
            | (refine anyL_take (i := 24) (oi := { dst := Option.some 43, op := Go.Op.call { callee := Go.Callee.value (Go.Operand.func 72), args := #[Go.Operand.tmp 42], argTypes := #[39] }, type := 4, pos := "nullable.go:105", after := #[{ on := 23, ground := Go.Ground.data }, { on := 22, ground := Go.Ground.chain }, { on := 22, ground := Go.Ground.guard }], guard := Option.some (22, Bool.false) }) (v := undef) rfl (by kernel_rfl) (by kernel_rfl) (by kernel_rfl) (fun _ _ _ h => h) (Or.inr ⟨by rfl, rfl⟩) hHeld ?_)
            | (refine anyL_one (i := 24) (o := { dst := Option.some 43, op := Go.Op.call { callee := Go.Callee.value (Go.Operand.func 72), args := #[Go.Operand.tmp 42], argTypes := #[39] }, type := 4, pos := "nullable.go:105", after := #[{ on := 23, ground := Go.Ground.data }, { on := 22, ground := Go.Ground.chain }, { on := 22, ground := Go.Ground.guard }], guard := Option.some (22, Bool.false) }) (by kernel_rfl) rfl (fun K hK => ?_); go_simp; refine (HSa.out _).mono ?_; rintro e w5 ⟨rfl, HB5⟩; go_simp; replace hHeld := keep_seq hHeld HB5.out; refine hK.out _ _ hHeld ?_; clear hK K HB5)
          (try simp only [Act.put, List.setIfInBounds_toArray, List.set_cons_zero, List.set_cons_succ])
          first
            | (refine anyL_take (i := 25) (oi := { dst := Option.some 44, op := Go.Op.move (Go.Operand.tmp 43), type := 4, pos := "nullable.go:102", after := #[{ on := 24, ground := Go.Ground.data }, { on := 24, ground := Go.Ground.chain }, { on := 22, ground := Go.Ground.guard }], guard := Option.some (22, Bool.false) }) (v := undef) rfl (by kernel_rfl) (by kernel_rfl) (by kernel_rfl) (fun _ _ _ h => h) (Or.inr ⟨by rfl, rfl⟩) hHeld ?_)
            | (refine anyL_take (i := 25) (oi := { dst := Option.some 44, op := Go.Op.move (Go.Operand.tmp 43), type := 4, pos := "nullable.go:102", after := #[{ on := 24, ground := Go.Ground.data }, { on := 24, ground := Go.Ground.chain }, { on := 22, ground := Go.Ground.guard }], guard := Option.some (22, Bool.false) }) (v := ?_) rfl (by kernel_rfl) (by kernel_rfl) (by kernel_rfl) (fun _ _ _ h => h) (Or.inl ⟨by rfl, ?_⟩) hHeld ?_; rotate_left; (intro w hSw; (try dsimp only at hSw); go_simp; (try with_reducible rfl)); skip)
          (try simp only [Act.put, List.setIfInBounds_toArray, List.set_cons_zero, List.set_cons_succ])
          first
            | (refine anyL_take (i := 26) (oi := { dst := Option.some 45, op := Go.Op.fieldAddr 39 (Go.Operand.tmp 8) 2, type := 0, pos := "nullable.go:102", after := #[{ on := 25, ground := Go.Ground.guard }], guard := Option.some (25, Bool.true) }) (v := undef) rfl (by kernel_rfl) (by kernel_rfl) (by kernel_rfl) (fun _ _ _ h => h) (Or.inr ⟨by rfl, rfl⟩) hHeld ?_)
            | (refine anyL_take (i := 26) (oi := { dst := Option.some 45, op := Go.Op.fieldAddr 39 (Go.Operand.tmp 8) 2, type := 0, pos := "nullable.go:102", after := #[{ on := 25, ground := Go.Ground.guard }], guard := Option.some (25, Bool.true) }) (v := ?_) rfl (by kernel_rfl) (by kernel_rfl) (by kernel_rfl) (fun _ _ _ h => h) (Or.inl ⟨by rfl, ?_⟩) hHeld ?_; rotate_left; (intro w hSw; (try dsimp only at hSw); go_simp; (try with_reducible rfl)); skip)
          (try simp only [Act.put, List.setIfInBounds_toArray, List.set_cons_zero, List.set_cons_succ])
          first
            | (refine anyL_take (i := 27) (oi := { dst := Option.some 46, op := Go.Op.load 4 (Go.Operand.tmp 45), type := 4, pos := "nullable.go:102", after := #[{ on := 26, ground := Go.Ground.data }, { on := 25, ground := Go.Ground.guard }], guard := Option.some (25, Bool.true) }) (v := undef) rfl (by kernel_rfl) (by kernel_rfl) (by kernel_rfl) (fun _ _ _ h => h) (Or.inr ⟨by rfl, rfl⟩) hHeld ?_)
            | (refine anyL_take (i := 27) (oi := { dst := Option.some 46, op := Go.Op.load 4 (Go.Operand.tmp 45), type := 4, pos := "nullable.go:102", after := #[{ on := 26, ground := Go.Ground.data }, { on := 25, ground := Go.Ground.guard }], guard := Option.some (25, Bool.true) }) (v := ?_) rfl (by kernel_rfl) (by kernel_rfl) (by kernel_rfl) (fun _ _ _ h => h) (Or.inl ⟨by rfl, ?_⟩) hHeld ?_; rotate_left; (intro w hSw; (try dsimp only at hSw); go_simp; (try with_reducible rfl)); skip)
          (try simp only [Act.put, List.setIfInBounds_toArray, List.set_cons_zero, List.set_cons_succ])
          first
            | (refine anyL_take (i := 28) (oi := { dst := Option.some 47, op := Go.Op.pick (Go.Operand.tmp 44) (Go.Operand.tmp 46) (Go.Operand.const (Go.Value.bool Bool.false)), type := 4, pos := "nullable.go:102", after := #[{ on := 25, ground := Go.Ground.data }, { on := 27, ground := Go.Ground.data }, { on := 22, ground := Go.Ground.guard }], guard := Option.some (22, Bool.false) }) (v := undef) rfl (by kernel_rfl) (by kernel_rfl) (by kernel_rfl) (fun _ _ _ h => h) (Or.inr ⟨by rfl, rfl⟩) hHeld ?_)
            | (refine anyL_take (i := 28) (oi := { dst := Option.some 47, op := Go.Op.pick (Go.Operand.tmp 44) (Go.Operand.tmp 46) (Go.Operand.const (Go.Value.bool Bool.false)), type := 4, pos := "nullable.go:102", after := #[{ on := 25, ground := Go.Ground.data }, { on := 27, ground := Go.Ground.data }, { on := 22, ground := Go.Ground.guard }], guard := Option.some (22, Bool.false) }) (v := ?_) rfl (by kernel_rfl) (by kernel_rfl) (by kernel_rfl) (fun _ _ _ h => h) (Or.inl ⟨by rfl, ?_⟩) hHeld ?_; rotate_left; (intro w hSw; (try dsimp only at hSw); go_simp; (try with_reducible rfl)); skip)
          (try simp only [Act.put, List.setIfInBounds_toArray, List.set_cons_zero, List.set_cons_succ])
          (refine anyL_take (i := 29) (oi := { dst := Option.some 48, op := Go.Op.pick (Go.Operand.tmp 41) (Go.Operand.const (Go.Value.bool Bool.true)) (Go.Operand.tmp 47), type := 4, pos := "nullable.go:102", after := #[{ on := 22, ground := Go.Ground.data }, { on := 28, ground := Go.Ground.data }], guard := Option.none }) (v := ?_) rfl (by kernel_rfl) (by kernel_rfl) (by kernel_rfl) (fun _ _ _ h => h) (Or.inl ⟨by rfl, ?_⟩) hHeld ?_; rotate_left; (intro w hSw; (try dsimp only at hSw); go_simp; (try with_reducible rfl)); skip)
          (try simp only [Act.put, List.setIfInBounds_toArray, List.set_cons_zero, List.set_cons_succ])
          (refine anyL_take (i := 30) (oi := { dst := Option.some 49, op := Go.Op.build 39 #[(0, Go.Operand.tmp 24), (1, Go.Operand.tmp 38), (2, Go.Operand.tmp 48)], type := 39, pos := "nullable.go:102", after := #[{ on := 5, ground := Go.Ground.data }, { on := 19, ground := Go.Ground.data }, { on := 29, ground := Go.Ground.data }], guard := Option.none }) (v := ?_) rfl (by kernel_rfl) (by kernel_rfl) (by kernel_rfl) (fun _ _ _ h => h) (Or.inl ⟨by rfl, ?_⟩) hHeld ?_; rotate_left; (intro w hSw; (try dsimp only at hSw); go_simp; (try with_reducible rfl)); skip)
          (try simp only [Act.put, List.setIfInBounds_toArray, List.set_cons_zero, List.set_cons_succ])
          refine anyL_last (o := { dst := Option.none, op := Go.Op.store 39 (Go.Operand.tmp 5) (Go.Operand.tmp 49), type := 0, pos := "nullable.go:102", after := #[{ on := 30, ground := Go.Ground.data }, { on := 25, ground := Go.Ground.chain }, { on := 0, ground := Go.Ground.phase }, { on := 1, ground := Go.Ground.phase }, { on := 2, ground := Go.Ground.phase }, { on := 3, ground := Go.Ground.phase }, { on := 4, ground := Go.Ground.phase }, { on := 5, ground := Go.Ground.phase }, { on := 6, ground := Go.Ground.phase }, { on := 7, ground := Go.Ground.phase }, { on := 8, ground := Go.Ground.phase }, { on := 9, ground := Go.Ground.phase }, { on := 10, ground := Go.Ground.phase }, { on := 11, ground := Go.Ground.phase }, { on := 12, ground := Go.Ground.phase }, { on := 13, ground := Go.Ground.phase }, { on := 14, ground := Go.Ground.phase }, { on := 15, ground := Go.Ground.phase }, { on := 16, ground := Go.Ground.phase }, { on := 17, ground := Go.Ground.phase }, { on := 18, ground := Go.Ground.phase }, { on := 19, ground := Go.Ground.phase }, { on := 20, ground := Go.Ground.phase }, { on := 21, ground := Go.Ground.phase }, { on := 22, ground := Go.Ground.phase }, { on := 23, ground := Go.Ground.phase }, { on := 24, ground := Go.Ground.phase }, { on := 25, ground := Go.Ground.phase }, { on := 26, ground := Go.Ground.phase }, { on := 27, ground := Go.Ground.phase }, { on := 28, ground := Go.Ground.phase }, { on := 29, ground := Go.Ground.phase }, { on := 30, ground := Go.Ground.phase }], guard := Option.none }) (by kernel_rfl) (by kernel_rfl) rfl (fun K hK => ?_)
          obtain ⟨HBq, HRq, HAq, -, -, -, -, -, -⟩ := hHeld
          first
            | obtain ⟨⟨t0, t1, t2⟩, f0, f1, f2⟩ := three_cells (w := w4.alloc (.cells #[.bool y1, .bool y2, .bool y3] 39)) HAq.out
            | obtain ⟨⟨t0, t1, t2⟩, f0, f1, f2⟩ := three_cells HAq.out
          have la := node_lt HAq.out
          go_simp
          (try rw [drew3])
          refine hK.out _ _ ?_
          clear hK K t0 t1 t2 f0 f1 f2

          go_wp2_with fail
          go_roundw
          case rel => exact ⟨j + 1, by go_num, by omega, hid (HBq.out.grown (three_set _ _ _ _ _) HBq.out.size (fun g e => by have := Option.some.inj e; omega)), hid (((three_set _ _ _ _ _).block _ (node_lt HRq.out) (fun e => by have := Option.some.inj e; omega)).trans HRq.out), _, _, _, hid (by rw [ofS_next K _ s j hjs, ← HX.out, ← HY.out, seqO_q HQ.out]; simp), hid (three_put HAq.out)⟩
          case measure => simp [intOf]; omega)

    · have a0 : decide ((j : Int) < (n : Int)) = false := by simp; omega
      have hjn' : s.take j = s := List.take_of_length_le (by rw [← HN.out]; omega)
      rw [hjn'] at HX
      obtain ⟨⟨t0, t1, t2⟩, _⟩ := three_cells HAr.out
      obtain ⟨⟨u0, u1, u2⟩, f0, f1, f2⟩ := three_cells HRr.out
      have la := node_lt HAr.out
      have lr := node_lt HRr.out
      have HBl := hid (HBr.out.grown (three_set wr w.heap.size (.bool x1) (.bool x2) (.bool x3)) HBr.out.size (fun g e => by have := Option.some.inj e; omega))
      obtain ⟨⟨r0, r1, r2⟩, _⟩ := three_cells (three_put (v0 := .bool x1) (v1 := .bool x2) (v2 := .bool x3) HRr.out)
      clear hjn' HAr HRr HBr
      go_wp2_with fail
      refine bodyPost_ret (v := .agg #[.bool x1, .bool x2, .bool x3]) (by simp [results, Tryz.results47, go_sem, r0, r1, r2]) rfl ?_
      exact ⟨by rw [← HX.out], HBl⟩
end Go.Proofs.YtgoogfbphilpmaaGreatDoor
