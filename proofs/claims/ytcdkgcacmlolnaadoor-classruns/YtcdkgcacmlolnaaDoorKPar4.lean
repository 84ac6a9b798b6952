/-
  Plain facts on the members of a class's text, and what class.Parse answers at it. Conditions: those that each theorem names.
-/
import Derived.Test.YtcdkgcacmlolnaaDoorKPar3
namespace Go.Proofs.YtcdkgcacmlolnaaDoor
open Go.RowKit
set_option linter.unusedVariables false
/-- The members that the rows are written as. -/
def its : List (Nat × Nat) → List (Nat × Nat)
  | [] => []
  | p :: t => (if p.2 = p.1 + 1 then [(p.1, p.1), (p.2, p.2)] else [p]) ++ its t
def itxt (p : Nat × Nat) : List Nat := if p.1 = p.2 then sgn p.1 else sgn p.1 ++ ([45] ++ sgn p.2)
def ibody : List (Nat × Nat) → List Nat
  | [] => []
  | p :: t => itxt p ++ ibody t
theorem ibody_append : ∀ (a b : List (Nat × Nat)), ibody (a ++ b) = ibody a ++ ibody b
  | [], b => rfl
  | p :: t, b => by simp only [List.cons_append, ibody, ibody_append t b, List.append_assoc]
theorem body_its : ∀ (L : List (Nat × Nat)), (∀ p ∈ L, p.1 ≤ p.2) → body L = ibody (its L)
  | [], _ => rfl
  | p :: t, h => by
    have hp := h p (List.mem_cons_self ..)
    rw [body, its, ibody_append, body_its t (fun q hq => h q (List.mem_cons_of_mem _ hq))]
    congr 1
    unfold memb
    by_cases h1 : p.2 = p.1 + 1
    · rw [if_pos h1, if_neg (by omega), if_pos (by omega)]
      simp [ibody, itxt]
    · rw [if_neg h1]
      by_cases h2 : p.1 = p.2
      · rw [if_neg (by omega), if_neg (by omega)]
        simp [ibody, itxt, h2]
      · rw [if_pos (by omega), if_pos (by omega)]
        simp [ibody, itxt, h2]
def uo : List (Nat × Nat) → Nat
  | [] => 0
  | p :: t => seg p.1 (p.2 + 1) ||| uo t
theorem uo_append : ∀ (a b : List (Nat × Nat)), uo (a ++ b) = uo a ||| uo b
  | [], b => by simp [uo]
  | p :: t, b => by simp only [List.cons_append, uo, uo_append t b, Nat.or_assoc]
theorem uo_rev : ∀ (Q : List (Nat × Nat)), uo Q.reverse = un Q
  | [] => rfl
  | p :: t => by rw [List.reverse_cons, uo_append, uo_rev t, un]; simp [uo]
theorem seg_two (a : Nat) : seg a (a + 1 + 1) = seg a (a + 1) ||| seg (a + 1) (a + 1 + 1) := by
  apply Nat.eq_of_testBit_eq
  intro j
  rw [Nat.testBit_or, seg_bit, seg_bit, seg_bit]
  by_cases h1 : a ≤ j <;> by_cases h2 : j < a + 1 <;> by_cases h3 : a + 1 ≤ j <;> by_cases h4 : j < a + 1 + 1 <;> simp [h1, h2, h3, h4] <;> omega
theorem uo_its : ∀ (L : List (Nat × Nat)), uo (its L) = uo L
  | [] => rfl
  | p :: t => by
    rw [its, uo_append, uo_its t, uo]
    congr 1
    by_cases h1 : p.2 = p.1 + 1
    · rw [if_pos h1, h1, seg_two]; simp [uo]
    · rw [if_neg h1]; simp [uo]
theorem its_ok : ∀ (L : List (Nat × Nat)), (∀ p ∈ L, p.1 ≤ p.2 ∧ p.2 < 256) → ∀ p ∈ its L, p.1 ≤ p.2 ∧ p.2 < 256
  | [], _, p, hp => by simp [its] at hp
  | q :: t, h, p, hp => by
    have hq := h q (List.mem_cons_self ..)
    rw [its, List.mem_append] at hp
    rcases hp with hp | hp
    · split at hp
      · simp at hp; rcases hp with rfl | rfl <;> simp <;> omega
      · simp at hp; subst hp; exact hq
    · exact its_ok t (fun r hr => h r (List.mem_cons_of_mem _ hr)) p hp
theorem uo_lt : ∀ (I : List (Nat × Nat)), (∀ p ∈ I, p.1 ≤ p.2 ∧ p.2 < 256) → uo I < 2 ^ 256
  | [], _ => by simp [uo]
  | p :: t, h => Nat.or_lt_two_pow (seg_lt _ _ (by have := h p (List.mem_cons_self ..); omega)) (uo_lt t (fun q hq => h q (List.mem_cons_of_mem _ hq)))
theorem itxt_head (p : Nat × Nat) : ∃ y t, itxt p = y :: t ∧ (y == 45) = false ∧ (y == 94) = false ∧ (y == 93) = false := by
  have : ∃ t, itxt p = sgn p.1 ++ t := by
    unfold itxt
    split
    · exact ⟨[], by simp⟩
    · exact ⟨_, rfl⟩
  obtain ⟨t, ht⟩ := this
  rcases sgn_form p.1 with ⟨u, hu, _⟩ | ⟨hu, hm, _, _⟩
  · exact ⟨92, u ++ t, by rw [ht, hu]; rfl, rfl, rfl, rfl⟩
  · unfold mark at hm
    simp at hm
    exact ⟨p.1, t, by rw [ht, hu]; rfl, by simp; omega, by simp; omega, by simp; omega⟩
theorem ibody_head (I : List (Nat × Nat)) : ∃ y t, ibody I ++ [93] = y :: t ∧ (y == 45) = false ∧ (y == 94) = false := by
  cases I with
  | nil => exact ⟨93, [], rfl, rfl, rfl⟩
  | cons p t =>
    obtain ⟨y, u, hu, h1, h2, h3⟩ := itxt_head p
    exact ⟨y, u ++ ibody t ++ [93], by rw [ibody, hu]; simp, h1, h2⟩
/-- A member, whatever it is, and what is behind it. -/
theorem tmember_any (S : ByteArray) (k N : Nat) (p : Nat × Nat) (I : List (Nat × Nat)) (w : World) (h1 : p.1 ≤ p.2) (h2 : p.2 < 256) (hN : k + (itxt p).length = N) (h : Here S k (ibody (p :: I) ++ [93])) (hS : S.size ≤ 9007199254740992) :
    Calls Tryd.prog 37 #[.string S, .int .i64 (k : Int)] w fun e w' => e = .returned (.tuple #[cv (seg p.1 (p.2 + 1)), .int .i64 (N : Int), .nilIface]) ∧ Below w.heap.size w w' := by
  obtain ⟨y, t, hy, hy1, _⟩ := ibody_head I
  rw [ibody, List.append_assoc, hy] at h
  by_cases he : p.1 = p.2
  · have e : itxt p = sgn p.1 := by rw [itxt, if_pos he]
    rw [e] at h hN
    rw [← he]
    refine tmember_one S k p.1 N y w (by omega) hy1 hN ?_ hS
    have h' : Here S k ((sgn p.1 ++ [y]) ++ t) := by simpa using h
    exact h'.left
  · have e : itxt p = sgn p.1 ++ ([45] ++ sgn p.2) := by rw [itxt, if_neg he]
    rw [e] at h hN
    exact tmember_two S k p.1 p.2 N w h1 h2 hN h.left hS
set_option maxRecDepth 100000 in
set_option maxHeartbeats 2000000 in
theorem parse_any (S : ByteArray) (I : List (Nat × Nat)) (N : Nat) (w : World) (hN : 1 + (ibody I).length + 1 = N) (hI : ∀ p ∈ I, p.1 ≤ p.2 ∧ p.2 < 256) (h : Here S 0 ([91] ++ (ibody I ++ [93]))) (hS : S.size ≤ 9007199254740992) :
    Calls Tryd.prog 25 #[.string S] w fun e w' => e = .returned (.tuple #[cv (uo I), .int .i64 (N : Int), .nilIface]) ∧ Below w.heap.size w w' := by
  have H1 : Hid (∀ w : World, Calls Tryd.prog 35 #[.string S, .int .i64 0, .int .u8 91] w fun e w' => e = .returned (.bool true) ∧ Below w.heap.size w w') := fun w => begins_at S 0 91 91 true w (by omega) h.head rfl hS
  have H2 : Hid (∀ w : World, Calls Tryd.prog 35 #[.string S, .int .i64 1, .int .u8 94] w fun e w' => e = .returned (.bool false) ∧ Below w.heap.size w w') := fun w => by
    obtain ⟨y, t, hy, _, hy2⟩ := ibody_head I
    have h2 := h.right
    rw [hy] at h2
    exact begins_at S 1 y 94 false w (by omega) h2.head hy2 hS
  have HH : Hid (Here S 1 (ibody I ++ [93])) := h.right
  have HI : Hid (∀ p ∈ I, p.1 ≤ p.2 ∧ p.2 < 256) := hI
  have HU : Hid (uo I < 2 ^ 256) := uo_lt I hI
  have HNN : Hid (_ = N) := hN
  clear h hI hN
  go_enter Tryd.func25, Tryd.ntmps25
  go_wp2_with fail
  refine (H1.out _).mono ?_
  rintro e w1 ⟨rfl, hb1⟩
  have HB1 : Hid (Below w.heap.size w w1) := ((Below.refl _ _).alloc (Nat.le_refl _) _).trans (hb1.mono (by simp))
  have HK1 : Hid (Blk w1 w.heap.size 0) := (Blk.new0 w).below hb1 (by simp)
  clear hb1
  go_wp2_with fail
  refine (H2.out _).mono ?_
  rintro e w2 ⟨rfl, hb2⟩
  have HB2 : Hid (Below w.heap.size w w2) := HB1.out.trans (hb2.mono HB1.out.size)
  have HK2 : Hid (Blk w2 w.heap.size 0) := HK1.out.below hb2 HK1.out.lt
  have hlt2 : w.heap.size < w2.heap.size := HK2.out.lt
  clear hb2 HK1 HB1
  go_wp2_with fail
  go_loopw [5] (fun a wr => ∃ (A B : List (Nat × Nat)) (k : Nat), a = .int .i64 (k : Int) ∧ k < S.size ∧ Hid (I = A ++ B) ∧ Hid (k = 1 + (ibody A).length) ∧ Hid (Below w.heap.size w wr) ∧ Hid (Blk wr w.heap.size 0) ∧ Hid (Blk wr w2.heap.size (uo A))) (fun a _ => S.size - (intOf a).toNat)
  case atStart =>
    refine ⟨[], I, 1, rfl, ?_, hid rfl, hid rfl, hid (HB2.out.alloc HB2.out.size _), hid (HK2.out.alloc _), hid (Blk.new0 w2)⟩
    obtain ⟨y, t, hy, _, _⟩ := ibody_head I
    have h2 := HH.out
    rw [hy] at h2
    exact h2.head.lt
  case round =>
    obtain ⟨A, B, k, rfl, hks, HAB, HKe, HB, HR, HO⟩ := hrel
    have HHk : Hid (Here S k (ibody B ++ [93])) := by
      have h2 := HH.out
      rw [HAB.out, ibody_append, List.append_assoc] at h2
      have h3 := h2.right
      rw [← HKe.out] at h3
      exact h3
    cases B with
    | nil =>
      have HE : Hid (∀ w : World, Calls Tryd.prog 35 #[.string S, .int .i64 (k : Int), .int .u8 93] w fun e w' => e = .returned (.bool true) ∧ Below w.heap.size w w') := fun w => begins_at S k 93 93 true w (by omega) HHk.out.head rfl hS
      have HAI : Hid (A = I) := by have := HAB.out; rw [List.append_nil] at this; exact this.symm
      have HO2 : Hid (Blk wr w2.heap.size (uo I)) := by rw [← HAI.out]; exact HO
      have hkN : (k : Int) + 1 = (N : Int) := by have := HKe.out; have := HNN.out; rw [HAI.out] at *; omega
      clear HO HAI HKe HAB
      go_wp2_with fail
      refine (HE.out _).mono ?_
      rintro e w3 ⟨rfl, hb3⟩
      have HB3 : Hid (Below w.heap.size w w3) := HB.out.trans (hb3.mono HB.out.size)
      have HR3 : Hid (Blk w3 w.heap.size 0) := HR.out.below hb3 HR.out.lt
      have HO3 : Hid (Blk w3 w2.heap.size (uo I)) := HO2.out.below hb3 HO2.out.lt
      clear hb3 HB HR HO2
      obtain ⟨c0, c1, c2, c3⟩ := HO3.out.cells
      obtain ⟨d0, d1, d2, d3⟩ := HR3.out.cells
      obtain ⟨f0, f1, f2, f3⟩ := HR3.out.thaw
      obtain ⟨r0, r1, r2, r3⟩ := (HR3.out.st4 (uo I)).cells
      have HBe : Hid (Below w.heap.size w (st4 w3 w.heap.size (uo I))) := Below.st4 HB3.out (Nat.le_refl _) _
      unfold st4 at r0 r1 r2 r3
      clear HR3 HO3
      go_wp2_with fail
      refine bodyPost_ret (v := .tuple #[cv (uo I), .int .i64 (N : Int), .nilIface]) (by simp [results, Tryd.results25, go_sem, r0, r1, r2, r3]) rfl ⟨rfl, HBe.out⟩
    | cons p B' =>
      obtain ⟨p1, p2⟩ := HI.out p (by rw [HAB.out]; simp)
      have HE : Hid (∀ w : World, Calls Tryd.prog 35 #[.string S, .int .i64 (k : Int), .int .u8 93] w fun e w' => e = .returned (.bool false) ∧ Below w.heap.size w w') := fun w => by
        obtain ⟨y, t, hy, _, _, hy3⟩ := itxt_head p
        have h2 := HHk.out
        rw [ibody, hy] at h2
        exact begins_at S k y 93 false w (by omega) h2.head hy3 hS
      obtain ⟨M, hM⟩ : ∃ M, k + (itxt p).length = M := ⟨_, rfl⟩
      obtain ⟨X, hX⟩ : ∃ X, X = seg p.1 (p.2 + 1) := ⟨_, rfl⟩
      have HTm : Hid (∀ w : World, Calls Tryd.prog 37 #[.string S, .int .i64 (k : Int)] w fun e w' => e = .returned (.tuple #[cv X, .int .i64 (M : Int), .nilIface]) ∧ Below w.heap.size w w') := by rw [hX]; exact fun w => tmember_any S k M p B' w p1 p2 hM HHk.out hS
      have hkM : k < M := by
        obtain ⟨y, t, hy, _⟩ := itxt_head p
        rw [hy] at hM
        simp at hM
        omega
      have hMs : M < S.size := by
        obtain ⟨y, t, hy, _, _⟩ := ibody_head B'
        have h2 := HHk.out
        rw [ibody, List.append_assoc, hy] at h2
        have h3 := h2.right.head.lt
        omega
      have HAB2 : Hid (I = (A ++ [p]) ++ B') := by show I = _; rw [HAB.out]; simp
      have HKM : Hid (M = 1 + (ibody (A ++ [p])).length) := by show M = _; rw [← hM, HKe.out, ibody_append]; simp [ibody]; omega
      have HUo : Hid (uo A ||| X = uo (A ++ [p])) := by show _ = _; rw [uo_append, hX]; simp [uo]
      clear hM hX HAB HKe HHk p1 p2
      go_wp2_with fail
      refine (HE.out _).mono ?_
      rintro e w3 ⟨rfl, hb3⟩
      have HB3 : Hid (Below w.heap.size w w3) := HB.out.trans (hb3.mono HB.out.size)
      have HR3 : Hid (Blk w3 w.heap.size 0) := HR.out.below hb3 HR.out.lt
      have HO3 : Hid (Blk w3 w2.heap.size (uo A)) := HO.out.below hb3 HO.out.lt
      clear hb3 HB HR HO
      go_wp2_with fail
      refine (HTm.out _).mono ?_
      rintro e w4 ⟨rfl, hb4⟩
      have HB4 : Hid (Below w.heap.size w w4) := HB3.out.trans (hb4.mono HB3.out.size)
      have HR4 : Hid (Blk w4 w.heap.size 0) := HR3.out.below hb4 HR3.out.lt
      have HO4 : Hid (Blk w4 w2.heap.size (uo A)) := HO3.out.below hb4 HO3.out.lt
      clear hb4 HB3 HR3 HO3
      obtain ⟨c0, c1, c2, c3⟩ := HO4.out.cells
      have hl4 : w2.heap.size < w4.heap.size := HO4.out.lt
      dsimp only [cv]
      go_wp2_with fail
      refine (either_any _ _ _).mono ?_
      rintro e w5 ⟨rfl, hb5⟩
      have hb5' : Below w4.heap.size w4 w5 := ((Below.refl _ _).alloc (Nat.le_refl _) _).trans (hb5.mono (by simp))
      have HB5 : Hid (Below w.heap.size w w5) := HB4.out.trans (hb5'.mono HB4.out.size)
      have HR5 : Hid (Blk w5 w.heap.size 0) := HR4.out.below hb5' HR4.out.lt
      have HO5 : Hid (Blk w5 w2.heap.size (uo A)) := HO4.out.below hb5' HO4.out.lt
      clear hb5 hb5' HB4 HR4 HO4 c0 c1 c2 c3
      obtain ⟨c0, c1, c2, c3⟩ := HO5.out.cells
      obtain ⟨f0, f1, f2, f3⟩ := HO5.out.thaw
      rw [HUo.out]
      dsimp only [cv]
      go_wp2_with fail
      go_roundw
      case rel => exact ⟨A ++ [p], B', M, rfl, hMs, HAB2, HKM, hid (Below.st4 HB5.out (by omega) (uo (A ++ [p]))), hid (HR5.out.other (by omega)), hid (HO5.out.st4 _)⟩
      case measure => simp [intOf]; omega
set_option maxRecDepth 100000 in
set_option maxHeartbeats 2000000 in
theorem parse_not (S : ByteArray) (I : List (Nat × Nat)) (N : Nat) (w : World) (hN : 2 + (ibody I).length + 1 = N) (hI : ∀ p ∈ I, p.1 ≤ p.2 ∧ p.2 < 256) (h : Here S 0 ([91] ++ ([94] ++ (ibody I ++ [93])))) (hS : S.size ≤ 9007199254740992) :
    Calls Tryd.prog 25 #[.string S] w fun e w' => e = .returned (.tuple #[cv (cnot (uo I)), .int .i64 (N : Int), .nilIface]) ∧ Below w.heap.size w w' := by
  have H1 : Hid (∀ w : World, Calls Tryd.prog 35 #[.string S, .int .i64 0, .int .u8 91] w fun e w' => e = .returned (.bool true) ∧ Below w.heap.size w w') := fun w => begins_at S 0 91 91 true w (by omega) h.head rfl hS
  have H2 : Hid (∀ w : World, Calls Tryd.prog 35 #[.string S, .int .i64 1, .int .u8 94] w fun e w' => e = .returned (.bool true) ∧ Below w.heap.size w w') := fun w => begins_at S 1 94 94 true w (by omega) (h.right.head) rfl hS
  have HH : Hid (Here S 2 (ibody I ++ [93])) := h.right.right
  have HI : Hid (∀ p ∈ I, p.1 ≤ p.2 ∧ p.2 < 256) := hI
  have HU : Hid (uo I < 2 ^ 256) := uo_lt I hI
  have HNN : Hid (_ = N) := hN
  clear h hI hN
  go_enter Tryd.func25, Tryd.ntmps25
  go_wp2_with fail
  refine (H1.out _).mono ?_
  rintro e w1 ⟨rfl, hb1⟩
  have HB1 : Hid (Below w.heap.size w w1) := ((Below.refl _ _).alloc (Nat.le_refl _) _).trans (hb1.mono (by simp))
  have HK1 : Hid (Blk w1 w.heap.size 0) := (Blk.new0 w).below hb1 (by simp)
  clear hb1
  go_wp2_with fail
  refine (H2.out _).mono ?_
  rintro e w2 ⟨rfl, hb2⟩
  have HB2 : Hid (Below w.heap.size w w2) := HB1.out.trans (hb2.mono HB1.out.size)
  have HK2 : Hid (Blk w2 w.heap.size 0) := HK1.out.below hb2 HK1.out.lt
  have hlt2 : w.heap.size < w2.heap.size := HK2.out.lt
  clear hb2 HK1 HB1
  go_wp2_with fail
  go_loopw [5] (fun a wr => ∃ (A B : List (Nat × Nat)) (k : Nat), a = .int .i64 (k : Int) ∧ k < S.size ∧ Hid (I = A ++ B) ∧ Hid (k = 2 + (ibody A).length) ∧ Hid (Below w.heap.size w wr) ∧ Hid (Blk wr w.heap.size 0) ∧ Hid (Blk wr w2.heap.size (uo A))) (fun a _ => S.size - (intOf a).toNat)
  case atStart =>
    refine ⟨[], I, 2, rfl, ?_, hid rfl, hid rfl, hid (HB2.out.alloc HB2.out.size _), hid (HK2.out.alloc _), hid (Blk.new0 w2)⟩
    obtain ⟨y, t, hy, _, _⟩ := ibody_head I
    have h2 := HH.out
    rw [hy] at h2
    exact h2.head.lt
  case round =>
    obtain ⟨A, B, k, rfl, hks, HAB, HKe, HB, HR, HO⟩ := hrel
    have HHk : Hid (Here S k (ibody B ++ [93])) := by
      have h2 := HH.out
      rw [HAB.out, ibody_append, List.append_assoc] at h2
      have h3 := h2.right
      rw [← HKe.out] at h3
      exact h3
    cases B with
    | nil =>
      have HE : Hid (∀ w : World, Calls Tryd.prog 35 #[.string S, .int .i64 (k : Int), .int .u8 93] w fun e w' => e = .returned (.bool true) ∧ Below w.heap.size w w') := fun w => begins_at S k 93 93 true w (by omega) HHk.out.head rfl hS
      have HAI : Hid (A = I) := by have := HAB.out; rw [List.append_nil] at this; exact this.symm
      have HO2 : Hid (Blk wr w2.heap.size (uo I)) := by rw [← HAI.out]; exact HO
      have hkN : (k : Int) + 1 = (N : Int) := by have := HKe.out; have := HNN.out; rw [HAI.out] at *; omega
      clear HO HAI HKe HAB
      go_wp2_with fail
      refine (HE.out _).mono ?_
      rintro e w3 ⟨rfl, hb3⟩
      have HB3 : Hid (Below w.heap.size w w3) := HB.out.trans (hb3.mono HB.out.size)
      have HR3 : Hid (Blk w3 w.heap.size 0) := HR.out.below hb3 HR.out.lt
      have HO3 : Hid (Blk w3 w2.heap.size (uo I)) := HO2.out.below hb3 HO2.out.lt
      clear hb3 HB HR HO2
      obtain ⟨c0, c1, c2, c3⟩ := HO3.out.cells
      go_wp2_with fail
      refine (not_any _ HU.out _).mono ?_
      rintro e w4 ⟨rfl, hb4⟩
      have HB4 : Hid (Below w.heap.size w w4) := HB3.out.trans (hb4.mono HB3.out.size)
      have HR4 : Hid (Blk w4 w.heap.size 0) := HR3.out.below hb4 HR3.out.lt
      have HO4 : Hid (Blk w4 w2.heap.size (uo I)) := HO3.out.below hb4 HO3.out.lt
      clear hb4 HB3 HR3 HO3 c0 c1 c2 c3
      obtain ⟨c0, c1, c2, c3⟩ := HO4.out.cells
      obtain ⟨f0, f1, f2, f3⟩ := HO4.out.thaw
      have HR5 : Hid (Blk (st4 w4 w2.heap.size (cnot (uo I))) w.heap.size 0) := HR4.out.other (by omega)
      obtain ⟨d0, d1, d2, d3⟩ := HR5.out.cells
      obtain ⟨g0, g1, g2, g3⟩ := HR5.out.thaw
      obtain ⟨x0, x1, x2, x3⟩ := (HO4.out.st4 (cnot (uo I))).cells
      obtain ⟨r0, r1, r2, r3⟩ := (HR5.out.st4 (cnot (uo I))).cells
      have HBe : Hid (Below w.heap.size w (st4 (st4 w4 w2.heap.size (cnot (uo I))) w.heap.size (cnot (uo I)))) := Below.st4 (Below.st4 HB4.out (by omega) _) (Nat.le_refl _) _
      unfold st4 at d0 d1 d2 d3 g0 g1 g2 g3 x0 x1 x2 x3 r0 r1 r2 r3
      clear HR4 HR5 HO4
      dsimp only [cv]
      go_wp2_with fail
      refine bodyPost_ret (v := .tuple #[cv (cnot (uo I)), .int .i64 (N : Int), .nilIface]) (by simp [results, Tryd.results25, go_sem, r0, r1, r2, r3]) rfl ⟨rfl, HBe.out⟩
    | cons p B' =>
      obtain ⟨p1, p2⟩ := HI.out p (by rw [HAB.out]; simp)
      have HE : Hid (∀ w : World, Calls Tryd.prog 35 #[.string S, .int .i64 (k : Int), .int .u8 93] w fun e w' => e = .returned (.bool false) ∧ Below w.heap.size w w') := fun w => by
        obtain ⟨y, t, hy, _, _, hy3⟩ := itxt_head p
        have h2 := HHk.out
        rw [ibody, hy] at h2
        exact begins_at S k y 93 false w (by omega) h2.head hy3 hS
      obtain ⟨M, hM⟩ : ∃ M, k + (itxt p).length = M := ⟨_, rfl⟩
      obtain ⟨X, hX⟩ : ∃ X, X = seg p.1 (p.2 + 1) := ⟨_, rfl⟩
      have HTm : Hid (∀ w : World, Calls Tryd.prog 37 #[.string S, .int .i64 (k : Int)] w fun e w' => e = .returned (.tuple #[cv X, .int .i64 (M : Int), .nilIface]) ∧ Below w.heap.size w w') := by rw [hX]; exact fun w => tmember_any S k M p B' w p1 p2 hM HHk.out hS
      have hkM : k < M := by
        obtain ⟨y, t, hy, _⟩ := itxt_head p
        rw [hy] at hM
        simp at hM
        omega
      have hMs : M < S.size := by
        obtain ⟨y, t, hy, _, _⟩ := ibody_head B'
        have h2 := HHk.out
        rw [ibody, List.append_assoc, hy] at h2
        have h3 := h2.right.head.lt
        omega
      have HAB2 : Hid (I = (A ++ [p]) ++ B') := by show I = _; rw [HAB.out]; simp
      have HKM : Hid (M = 2 + (ibody (A ++ [p])).length) := by show M = _; rw [← hM, HKe.out, ibody_append]; simp [ibody]; omega
      have HUo : Hid (uo A ||| X = uo (A ++ [p])) := by show _ = _; rw [uo_append, hX]; simp [uo]
      clear hM hX HAB HKe HHk p1 p2
      go_wp2_with fail
      refine (HE.out _).mono ?_
      rintro e w3 ⟨rfl, hb3⟩
      have HB3 : Hid (Below w.heap.size w w3) := HB.out.trans (hb3.mono HB.out.size)
      have HR3 : Hid (Blk w3 w.heap.size 0) := HR.out.below hb3 HR.out.lt
      have HO3 : Hid (Blk w3 w2.heap.size (uo A)) := HO.out.below hb3 HO.out.lt
      clear hb3 HB HR HO
      go_wp2_with fail
      refine (HTm.out _).mono ?_
      rintro e w4 ⟨rfl, hb4⟩
      have HB4 : Hid (Below w.heap.size w w4) := HB3.out.trans (hb4.mono HB3.out.size)
      have HR4 : Hid (Blk w4 w.heap.size 0) := HR3.out.below hb4 HR3.out.lt
      have HO4 : Hid (Blk w4 w2.heap.size (uo A)) := HO3.out.below hb4 HO3.out.lt
      clear hb4 HB3 HR3 HO3
      obtain ⟨c0, c1, c2, c3⟩ := HO4.out.cells
      have hl4 : w2.heap.size < w4.heap.size := HO4.out.lt
      dsimp only [cv]
      go_wp2_with fail
      refine (either_any _ _ _).mono ?_
      rintro e w5 ⟨rfl, hb5⟩
      have hb5' : Below w4.heap.size w4 w5 := ((Below.refl _ _).alloc (Nat.le_refl _) _).trans (hb5.mono (by simp))
      have HB5 : Hid (Below w.heap.size w w5) := HB4.out.trans (hb5'.mono HB4.out.size)
      have HR5 : Hid (Blk w5 w.heap.size 0) := HR4.out.below hb5' HR4.out.lt
      have HO5 : Hid (Blk w5 w2.heap.size (uo A)) := HO4.out.below hb5' HO4.out.lt
      clear hb5 hb5' HB4 HR4 HO4 c0 c1 c2 c3
      obtain ⟨c0, c1, c2, c3⟩ := HO5.out.cells
      obtain ⟨f0, f1, f2, f3⟩ := HO5.out.thaw
      rw [HUo.out]
      dsimp only [cv]
      go_wp2_with fail
      go_roundw
      case rel => exact ⟨A ++ [p], B', M, rfl, hMs, HAB2, HKM, hid (Below.st4 HB5.out (by omega) (uo (A ++ [p]))), hid (HR5.out.other (by omega)), hid (HO5.out.st4 _)⟩
      case measure => simp [intOf]; omega
end Go.Proofs.YtcdkgcacmlolnaaDoor
