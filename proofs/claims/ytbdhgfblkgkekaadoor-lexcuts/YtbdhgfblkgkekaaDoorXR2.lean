/-
  What the document's own answer for classes says of Mix, all others. Conditions: those that each theorem names.
-/
import Derived.Test.YtbdhgfblkgkekaaDoorXR1
namespace Go.Proofs.YtbdhgfblkgkekaaDoor
open Go.RowKit
set_option linter.unusedVariables false
def Cl (w : World) (g C : Nat) : Prop := w.cell? ⟨g, 0, none⟩ = some (.int .u64 (wd C 0 : Nat)) ∧ w.cell? ⟨g, 1, none⟩ = some (.int .u64 (wd C 1 : Nat)) ∧ w.cell? ⟨g, 2, none⟩ = some (.int .u64 (wd C 2 : Nat)) ∧ w.cell? ⟨g, 3, none⟩ = some (.int .u64 (wd C 3 : Nat))
theorem Cl.lt {w : World} {g C : Nat} (h : Cl w g C) : g < w.heap.size := World.block_lt_of_cell? w _ h.1
theorem Cl.below {w w' : World} {g C : Nat} (h : Cl w g C) (hb : Below w.heap.size w w') : Cl w' g C := by
  have hl := h.lt
  unfold Cl at *
  rw [hb.cell (p := ⟨g, 0, none⟩) hl, hb.cell (p := ⟨g, 1, none⟩) hl, hb.cell (p := ⟨g, 2, none⟩) hl, hb.cell (p := ⟨g, 3, none⟩) hl]
  exact h
theorem Cl.alloc {w : World} {g C : Nat} (h : Cl w g C) (o : Obj) : Cl (w.alloc o) g C := h.below ((Below.refl _ _).alloc (Nat.le_refl _) _)
theorem Cl.new (w : World) (C : Nat) {n : Nat} (hn : n = w.heap.size) : Cl (w.alloc (.cells #[.int .u64 (wd C 0 : Nat), .int .u64 (wd C 1 : Nat), .int .u64 (wd C 2 : Nat), .int .u64 (wd C 3 : Nat)] 36)) n C := by subst hn; exact (Blk.new w C).cells
theorem Cl.drew {w : World} {g C : Nat} (h : Cl w g C) : Cl w.drew g C := h
theorem Cl.st4 {w : World} {g g' C : Nat} (h : Cl w g C) (hne : g ≠ g') (D : Nat) : Cl (st4 w g' D) g C := by
  have e : (Proofs.YtbdhgfblkgkekaaDoor.st4 w g' D).heap[g]? = w.heap[g]? := by
    unfold Proofs.YtbdhgfblkgkekaaDoor.st4
    rw [Below.heap_setCell _ _ _ _ hne, Below.heap_setCell _ _ _ _ hne, Below.heap_setCell _ _ _ _ hne, Below.heap_setCell _ _ _ _ hne]
  have c : ∀ k, (Proofs.YtbdhgfblkgkekaaDoor.st4 w g' D).cell? ⟨g, k, none⟩ = w.cell? ⟨g, k, none⟩ := fun k => by simp only [World.cell?]; rw [e]
  unfold Cl at *
  rw [c, c, c, c]
  exact h
/-- The bytes below b of which f holds. -/
def low (f : Nat → Bool) : Nat → Nat
  | 0 => 0
  | b + 1 => if f b then low f b ||| 2 ^ b else low f b
theorem low_bit (f : Nat → Bool) (j : Nat) : ∀ b, (low f b).testBit j = (decide (j < b) && f j)
  | 0 => by simp [low]
  | b + 1 => by
    rw [low]
    by_cases hf : f b = true
    · rw [if_pos hf, Nat.testBit_or, low_bit f j b, Nat.testBit_two_pow]
      by_cases h1 : b = j
      · subst h1; simp [hf]
      · by_cases h2 : j < b
        · simp [h1, h2, show j < b + 1 by omega]
        · simp [h1, h2, show ¬ j < b + 1 by omega]
    · rw [if_neg hf, low_bit f j b]
      by_cases h1 : b = j
      · subst h1; simp [hf]
      · by_cases h2 : j < b
        · simp [h2, show j < b + 1 by omega]
        · simp [h2, show ¬ j < b + 1 by omega]
theorem low_eq (f : Nat → Bool) (C : Nat) (hC : C < 2 ^ 256) (h : ∀ j, j < 256 → f j = C.testBit j) : low f 256 = C := by
  apply Nat.eq_of_testBit_eq
  intro j
  rw [low_bit]
  by_cases hj : j < 256
  · simp [hj, h j hj]
  · rw [Nat.testBit_lt_two_pow (Nat.lt_of_lt_of_le hC (Nat.pow_le_pow_right (by decide) (by omega)))]
    simp [hj]
set_option maxRecDepth 100000 in
set_option maxHeartbeats 4000000 in
theorem rmix_not (C D : Nat) (w : World) (hC : C < 2 ^ 256) (hD : D < 2 ^ 256) :
    Calls Tryd.prog 57 #[.int .i64 2, cv C, cv D] w fun e w' => e = .returned (cv (cnot C)) ∧ Below w.heap.size w w' := by
  obtain ⟨f, hf⟩ : ∃ f : Nat → Bool, f = fun b => (!C.testBit b) := ⟨_, rfl⟩
  have hfin : low f 256 = cnot C := low_eq f _ (cnot_lt C) (fun j hj => by rw [hf]; simp [cnot_bit C hC, hj])
  have HF : Hid (low f 256 = cnot C) := hfin
  have HF' : Hid (f = fun b => (!C.testBit b)) := hf
  clear hf hfin
  unfold cv
  go_enter Tryd.func57, Tryd.ntmps57
  go_wp2_with fail
  go_loopw [8] (fun i wr => ∃ b : Nat, b ≤ 256 ∧ i = .int .i64 (b : Int) ∧ Hid (Below w.heap.size w wr) ∧ Hid (Cl wr w.heap.size C) ∧ Hid (Cl wr (w.heap.size + 1) D) ∧ Hid (Blk wr (w.heap.size + 1 + 1) 0) ∧ Hid (Blk wr (w.heap.size + 1 + 1 + 1) (low f b))) (fun i _ => 256 - (intOf i).toNat)
  case atStart =>
    refine ⟨0, by omega, rfl, hid (((((Below.refl _ _).alloc (Nat.le_refl _) _).alloc (by simp) _).alloc (by simp <;> omega) _).alloc (by simp <;> omega) _), hid ((((Cl.new w C rfl).alloc _).alloc _).alloc _), hid (((Cl.new _ D (by simp)).alloc _).alloc _), hid ?_, hid ?_⟩
    · refine Blk.alloc ?_ _
      simpa using Blk.new0 ((w.alloc (.cells #[.int .u64 (wd C 0 : Nat), .int .u64 (wd C 1 : Nat), .int .u64 (wd C 2 : Nat), .int .u64 (wd C 3 : Nat)] 36)).alloc (.cells #[.int .u64 (wd D 0 : Nat), .int .u64 (wd D 1 : Nat), .int .u64 (wd D 2 : Nat), .int .u64 (wd D 3 : Nat)] 36))
    · rw [show low f 0 = 0 from rfl]
      simpa using Blk.new0 (((w.alloc (.cells #[.int .u64 (wd C 0 : Nat), .int .u64 (wd C 1 : Nat), .int .u64 (wd C 2 : Nat), .int .u64 (wd C 3 : Nat)] 36)).alloc (.cells #[.int .u64 (wd D 0 : Nat), .int .u64 (wd D 1 : Nat), .int .u64 (wd D 2 : Nat), .int .u64 (wd D 3 : Nat)] 36)).alloc (.cells #[.int .u64 0, .int .u64 0, .int .u64 0, .int .u64 0] 36))
  case round =>
    obtain ⟨b, hb1, rfl, HB, HC, HD, HR, HG⟩ := hrel
    by_cases hbh : b < 256
    · obtain ⟨c0, c1, c2, c3⟩ := HC.out
      cases hx : C.testBit b
      · cases hy : D.testBit b
        · have hl : low f (b + 1) = low f b ||| 2 ^ b := by rw [low, HF'.out]; simp [hx]
          have HL : Hid (low f (b + 1) = low f b ||| 2 ^ b) := hl
          clear hl
          go_wp2_with fail
          refine (rhas_val _ _ _ _ hx hbh).mono ?_
          rintro e w1 ⟨rfl, hb3⟩
          have HC1 : Hid (Cl w1 w.heap.size C) := HC.out.below hb3
          have HD1 : Hid (Cl w1 (w.heap.size + 1) D) := HD.out.below hb3
          have HR1 : Hid (Blk w1 (w.heap.size + 1 + 1) 0) := HR.out.below hb3 HR.out.lt
          have HG1 : Hid (Blk w1 (w.heap.size + 1 + 1 + 1) (low f b)) := HG.out.below hb3 HG.out.lt
          have HB1 : Hid (Below w.heap.size w w1) := HB.out.trans (hb3.mono HB.out.size)
          clear hb3 c0 c1 c2 c3 HC HD HR HG HB
          obtain ⟨d0, d1, d2, d3⟩ := HD1.out
          go_wp2_with fail
          refine (rhas_val _ _ _ _ hy hbh).mono ?_
          rintro e w2 ⟨rfl, hb3⟩
          have HC2 : Hid (Cl w2 w.heap.size C) := HC1.out.below hb3
          have HD2 : Hid (Cl w2 (w.heap.size + 1) D) := HD1.out.below hb3
          have HR2 : Hid (Blk w2 (w.heap.size + 1 + 1) 0) := HR1.out.below hb3 HR1.out.lt
          have HG2 : Hid (Blk w2 (w.heap.size + 1 + 1 + 1) (low f b)) := HG1.out.below hb3 HG1.out.lt
          have HB2 : Hid (Below w.heap.size w w2) := HB1.out.trans (hb3.mono HB1.out.size)
          clear hb3 d0 d1 d2 d3 HC1 HD1 HR1 HG1 HB1
          obtain ⟨c0, c1, c2, c3⟩ := HG2.out.cells
          go_wp2_with fail
          refine (rwith_any _ _ _ hbh).mono ?_
          rintro e w3 ⟨rfl, hb3⟩
          have HC3 : Hid (Cl w3 w.heap.size C) := HC2.out.below hb3
          have HD3 : Hid (Cl w3 (w.heap.size + 1) D) := HD2.out.below hb3
          have HR3 : Hid (Blk w3 (w.heap.size + 1 + 1) 0) := HR2.out.below hb3 HR2.out.lt
          have HG3 : Hid (Blk w3 (w.heap.size + 1 + 1 + 1) (low f b)) := HG2.out.below hb3 HG2.out.lt
          have HB3 : Hid (Below w.heap.size w w3) := HB2.out.trans (hb3.mono HB2.out.size)
          clear hb3 c0 c1 c2 c3 HC2 HD2 HR2 HG2 HB2
          obtain ⟨c0, c1, c2, c3⟩ := HG3.out.cells
          obtain ⟨f0, f1, f2, f3⟩ := HG3.out.thaw
          rw [← HL.out]
          dsimp only [cv]
          go_wp2_with fail
          go_roundw
          case rel => exact ⟨b + 1, by omega, by go_num, hid (Below.st4 HB3.out (by omega) (low f (b + 1))), hid (HC3.out.st4 (by omega) _), hid (HD3.out.st4 (by omega) _), hid (HR3.out.other (by omega)), hid (HG3.out.st4 _)⟩
          case measure => simp [intOf]; omega
        · have hl : low f (b + 1) = low f b ||| 2 ^ b := by rw [low, HF'.out]; simp [hx]
          have HL : Hid (low f (b + 1) = low f b ||| 2 ^ b) := hl
          clear hl
          go_wp2_with fail
          refine (rhas_val _ _ _ _ hx hbh).mono ?_
          rintro e w1 ⟨rfl, hb3⟩
          have HC1 : Hid (Cl w1 w.heap.size C) := HC.out.below hb3
          have HD1 : Hid (Cl w1 (w.heap.size + 1) D) := HD.out.below hb3
          have HR1 : Hid (Blk w1 (w.heap.size + 1 + 1) 0) := HR.out.below hb3 HR.out.lt
          have HG1 : Hid (Blk w1 (w.heap.size + 1 + 1 + 1) (low f b)) := HG.out.below hb3 HG.out.lt
          have HB1 : Hid (Below w.heap.size w w1) := HB.out.trans (hb3.mono HB.out.size)
          clear hb3 c0 c1 c2 c3 HC HD HR HG HB
          obtain ⟨d0, d1, d2, d3⟩ := HD1.out
          go_wp2_with fail
          refine (rhas_val _ _ _ _ hy hbh).mono ?_
          rintro e w2 ⟨rfl, hb3⟩
          have HC2 : Hid (Cl w2 w.heap.size C) := HC1.out.below hb3
          have HD2 : Hid (Cl w2 (w.heap.size + 1) D) := HD1.out.below hb3
          have HR2 : Hid (Blk w2 (w.heap.size + 1 + 1) 0) := HR1.out.below hb3 HR1.out.lt
          have HG2 : Hid (Blk w2 (w.heap.size + 1 + 1 + 1) (low f b)) := HG1.out.below hb3 HG1.out.lt
          have HB2 : Hid (Below w.heap.size w w2) := HB1.out.trans (hb3.mono HB1.out.size)
          clear hb3 d0 d1 d2 d3 HC1 HD1 HR1 HG1 HB1
          obtain ⟨c0, c1, c2, c3⟩ := HG2.out.cells
          go_wp2_with fail
          refine (rwith_any _ _ _ hbh).mono ?_
          rintro e w3 ⟨rfl, hb3⟩
          have HC3 : Hid (Cl w3 w.heap.size C) := HC2.out.below hb3
          have HD3 : Hid (Cl w3 (w.heap.size + 1) D) := HD2.out.below hb3
          have HR3 : Hid (Blk w3 (w.heap.size + 1 + 1) 0) := HR2.out.below hb3 HR2.out.lt
          have HG3 : Hid (Blk w3 (w.heap.size + 1 + 1 + 1) (low f b)) := HG2.out.below hb3 HG2.out.lt
          have HB3 : Hid (Below w.heap.size w w3) := HB2.out.trans (hb3.mono HB2.out.size)
          clear hb3 c0 c1 c2 c3 HC2 HD2 HR2 HG2 HB2
          obtain ⟨c0, c1, c2, c3⟩ := HG3.out.cells
          obtain ⟨f0, f1, f2, f3⟩ := HG3.out.thaw
          rw [← HL.out]
          dsimp only [cv]
          go_wp2_with fail
          go_roundw
          case rel => exact ⟨b + 1, by omega, by go_num, hid (Below.st4 HB3.out (by omega) (low f (b + 1))), hid (HC3.out.st4 (by omega) _), hid (HD3.out.st4 (by omega) _), hid (HR3.out.other (by omega)), hid (HG3.out.st4 _)⟩
          case measure => simp [intOf]; omega
      · cases hy : D.testBit b
        · have hl : low f (b + 1) = low f b := by rw [low, HF'.out]; simp [hx]
          have HL : Hid (low f (b + 1) = low f b) := hl
          clear hl
          go_wp2_with fail
          refine (rhas_val _ _ _ _ hx hbh).mono ?_
          rintro e w1 ⟨rfl, hb3⟩
          have HC1 : Hid (Cl w1 w.heap.size C) := HC.out.below hb3
          have HD1 : Hid (Cl w1 (w.heap.size + 1) D) := HD.out.below hb3
          have HR1 : Hid (Blk w1 (w.heap.size + 1 + 1) 0) := HR.out.below hb3 HR.out.lt
          have HG1 : Hid (Blk w1 (w.heap.size + 1 + 1 + 1) (low f b)) := HG.out.below hb3 HG.out.lt
          have HB1 : Hid (Below w.heap.size w w1) := HB.out.trans (hb3.mono HB.out.size)
          clear hb3 c0 c1 c2 c3 HC HD HR HG HB
          obtain ⟨d0, d1, d2, d3⟩ := HD1.out
          go_wp2_with fail
          refine (rhas_val _ _ _ _ hy hbh).mono ?_
          rintro e w2 ⟨rfl, hb3⟩
          have HC2 : Hid (Cl w2 w.heap.size C) := HC1.out.below hb3
          have HD2 : Hid (Cl w2 (w.heap.size + 1) D) := HD1.out.below hb3
          have HR2 : Hid (Blk w2 (w.heap.size + 1 + 1) 0) := HR1.out.below hb3 HR1.out.lt
          have HG2 : Hid (Blk w2 (w.heap.size + 1 + 1 + 1) (low f b)) := HG1.out.below hb3 HG1.out.lt
          have HB2 : Hid (Below w.heap.size w w2) := HB1.out.trans (hb3.mono HB1.out.size)
          clear hb3 d0 d1 d2 d3 HC1 HD1 HR1 HG1 HB1
          go_wp2_with fail
          go_roundw
          case rel => exact ⟨b + 1, by omega, by go_num, HB2, HC2, HD2, HR2, hid (by rw [HL.out]; exact HG2.out)⟩
          case measure => simp [intOf]; omega
        · have hl : low f (b + 1) = low f b := by rw [low, HF'.out]; simp [hx]
          have HL : Hid (low f (b + 1) = low f b) := hl
          clear hl
          go_wp2_with fail
          refine (rhas_val _ _ _ _ hx hbh).mono ?_
          rintro e w1 ⟨rfl, hb3⟩
          have HC1 : Hid (Cl w1 w.heap.size C) := HC.out.below hb3
          have HD1 : Hid (Cl w1 (w.heap.size + 1) D) := HD.out.below hb3
          have HR1 : Hid (Blk w1 (w.heap.size + 1 + 1) 0) := HR.out.below hb3 HR.out.lt
          have HG1 : Hid (Blk w1 (w.heap.size + 1 + 1 + 1) (low f b)) := HG.out.below hb3 HG.out.lt
          have HB1 : Hid (Below w.heap.size w w1) := HB.out.trans (hb3.mono HB.out.size)
          clear hb3 c0 c1 c2 c3 HC HD HR HG HB
          obtain ⟨d0, d1, d2, d3⟩ := HD1.out
          go_wp2_with fail
          refine (rhas_val _ _ _ _ hy hbh).mono ?_
          rintro e w2 ⟨rfl, hb3⟩
          have HC2 : Hid (Cl w2 w.heap.size C) := HC1.out.below hb3
          have HD2 : Hid (Cl w2 (w.heap.size + 1) D) := HD1.out.below hb3
          have HR2 : Hid (Blk w2 (w.heap.size + 1 + 1) 0) := HR1.out.below hb3 HR1.out.lt
          have HG2 : Hid (Blk w2 (w.heap.size + 1 + 1 + 1) (low f b)) := HG1.out.below hb3 HG1.out.lt
          have HB2 : Hid (Below w.heap.size w w2) := HB1.out.trans (hb3.mono HB1.out.size)
          clear hb3 d0 d1 d2 d3 HC1 HD1 HR1 HG1 HB1
          go_wp2_with fail
          go_roundw
          case rel => exact ⟨b + 1, by omega, by go_num, HB2, HC2, HD2, HR2, hid (by rw [HL.out]; exact HG2.out)⟩
          case measure => simp [intOf]; omega
    · obtain rfl : b = 256 := by omega
      have HG1 : Hid (Blk wr (w.heap.size + 1 + 1 + 1) (cnot C)) := by rw [← HF.out]; exact HG
      obtain ⟨c0, c1, c2, c3⟩ := HG1.out.cells
      obtain ⟨f0, f1, f2, f3⟩ := HR.out.thaw
      obtain ⟨d0, d1, d2, d3⟩ := HR.out.cells
      obtain ⟨r0, r1, r2, r3⟩ := (HR.out.st4 (cnot C)).cells
      unfold st4 at r0 r1 r2 r3
      have HB2 : Hid (Below w.heap.size w (st4 wr (w.heap.size + 1 + 1) (cnot C))) := Below.st4 HB.out (by omega) _
      clear HB HR HG HG1
      go_wp2_with fail
      refine bodyPost_ret (v := cv (cnot C)) (by simp [results, Tryd.results57, go_sem, r0, r1, r2, r3]) rfl ⟨rfl, HB2.out⟩
end Go.Proofs.YtbdhgfblkgkekaaDoor
