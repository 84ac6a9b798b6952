/-
  What lex.takeToken answers at a byte of any text: one theorem a kind. Conditions: those that each theorem names.
-/
import Derived.Test.YtikfnaffiehpaaaGreatDoorVX2
namespace Go.Proofs.YtikfnaffiehpaaaGreatDoor
open Go.RowKit
set_option linter.unusedVariables false
@[reducible] def tk7 (kd : Int) (T : ByteArray) (c0 c1 c2 c3 q n : Int) (ev : Value) : Value := .tuple #[.agg #[.int .i64 kd, .string T, .int .u64 c0, .int .u64 c1, .int .u64 c2, .int .u64 c3, .int .i64 q], .int .i64 n, ev]
/-- What a caller that keeps a token's block needs of a call's answer. -/
def Goes (A : World → Ending → World → Prop) (W : World) (e : Ending) (w1 : World) : Prop :=
  ∃ (kd : Int) (T : ByteArray) (c0 c1 c2 c3 q n : Int) (ev : Value), e = .returned (tk7 kd T c0 c1 c2 c3 q n ev) ∧ Hid (Below W.heap.size W w1) ∧
    Hid (∀ w : World, W = w.alloc (.cells #[.int .i64 0, .string { data := #[] }, .int .u64 0, .int .u64 0, .int .u64 0, .int .u64 0, .int .i64 0] 83) → A w e (st7 w1 w.heap.size kd T c0 c1 c2 c3 q))
theorem up_below {w W w1 : World} {o : Obj} (hW : W = w.alloc o) (h : Below W.heap.size W w1) : Below w.heap.size w w1 := by
  have hb : Below w.heap.size w W := by rw [hW]; exact (Below.refl _ _).alloc (Nat.le_refl _) _
  exact hb.trans (h.mono hb.size)
theorem up_size {w W : World} {o : Obj} (hW : W = w.alloc o) : W.heap.size = w.heap.size + 1 := by rw [hW]; simp
theorem BadT.goes {c : Nat × Nat} {W w1 : World} {e : Ending} (h : BadT c W e w1) : Goes (BadT c) W e w1 := by
  obtain ⟨f, rfl, HP⟩ := h
  refine ⟨_, _, _, _, _, _, _, _, _, rfl, hid HP.out.2.2, hid fun w hW => ⟨f, rfl, ?_⟩⟩
  have hs := up_size hW
  have h1 := HP.out.1
  exact bad_endT (up_below hW HP.out.2.2) HP.out.2.1 (by omega) (by omega)
theorem BadC.goes {p : Nat} {c : Nat × Nat} {W w1 : World} {e : Ending} (h : BadC p c W e w1) : Goes (BadC p c) W e w1 := by
  obtain ⟨g, f, rfl, HP⟩ := h
  obtain ⟨h1, h2, h3, h4⟩ := HP.out
  refine ⟨_, _, _, _, _, _, _, _, _, rfl, hid h4, hid fun w hW => ⟨g, f, rfl, ?_⟩⟩
  have hs := up_size hW
  exact ⟨by omega, by omega, h3.st7 (by omega) (by omega) _ _ _ _ _ _ _, Below.st7 (up_below hW h4) (Nat.le_refl _) _ _ _ _ _ _ _⟩
theorem AnsN.goes {S : ByteArray} {p : Nat} {W w1 : World} {e : Ending} (h : AnsN S p W e w1) : Goes (AnsN S p) W e w1 := by
  unfold AnsN at *
  by_cases hl : 32 < ne S p - p
  · simp only [if_pos hl] at *; exact h.goes
  · simp only [if_neg hl] at *
    obtain ⟨rfl, hb⟩ := h
    exact ⟨_, _, _, _, _, _, _, _, _, rfl, hid hb, hid fun w hW => ⟨rfl, Below.st7 (up_below hW hb) (Nat.le_refl _) _ _ _ _ _ _ _⟩⟩
theorem AnsL.goes {r : Ls} {p : Nat} {W w1 : World} {e : Ending} (h : AnsL r p W e w1) : Goes (AnsL r p) W e w1 := by
  cases r with
  | inl c => exact BadT.goes h
  | inr l =>
    obtain ⟨rfl, hb⟩ := h
    exact ⟨_, _, _, _, _, _, _, _, _, rfl, hid hb, hid fun w hW => ⟨rfl, Below.st7 (up_below hW hb) (Nat.le_refl _) _ _ _ _ _ _ _⟩⟩
theorem AnsC.goes {r : Rs} {p : Nat} {W w1 : World} {e : Ending} (h : AnsC r p W e w1) : Goes (AnsC r p) W e w1 := by
  cases r with
  | inl c => exact BadC.goes h
  | inr l =>
    obtain ⟨rfl, hb⟩ := h
    exact ⟨_, _, _, _, _, _, _, _, _, rfl, hid hb, hid fun w hW => ⟨rfl, Below.st7 (up_below hW hb) (Nat.le_refl _) _ _ _ _ _ _ _⟩⟩
set_option maxRecDepth 100000 in
set_option maxHeartbeats 4000000 in
theorem xtoken_name (S : ByteArray) (p x : Nat) (w : World) (hb : bt S p = some x) (hl : letB x = true) (hS : S.size ≤ 9007199254740992) :
    Calls Tryz.prog 49 #[.string S, .int .i64 (p : Int)] w fun e w' => AnsN S p w e w' := by
  have hxl := (bt_lt hb).2
  obtain ⟨hp, hxx⟩ := bt_at hb
  have hpI : (p : Int) < (S.size : Int) := by omega
  have hpI2 : (p : Int) ≤ (S.size : Int) := by omega
  have HLt : Hid (∀ w : World, Calls Tryz.prog 53 #[.int .u8 (x : Int)] w fun e w' => e = .returned (.bool true) ∧ w' = w) := fun w => xletter_any x true hl w hxl
  obtain ⟨W, hW⟩ : ∃ W, W = w.alloc (.cells #[.int .i64 0, .string { data := #[] }, .int .u64 0, .int .u64 0, .int .u64 0, .int .u64 0, .int .i64 0] 83) := ⟨_, rfl⟩
  have HW : Hid (W = w.alloc (.cells #[.int .i64 0, .string { data := #[] }, .int .u64 0, .int .u64 0, .int .u64 0, .int .u64 0, .int .i64 0] 83)) := hW
  have HB1 : Hid (Below w.heap.size w W) := by show Below _ _ _; rw [hW]; exact (Below.refl _ _).alloc (Nat.le_refl _) _
  have HT0 : Hid (Tk W w.heap.size 0 { data := #[] } 0 0 0 0 0) := by show Tk _ _ _ _ _ _ _ _ _; rw [hW]; exact Tk.new w 0 { data := #[] } 0 0 0 0 0
  have HC : Hid (∀ w : World, Calls Tryz.prog 72 #[.string S, .int .i64 (p : Int)] w fun e w' => AnsN S p w e w') := fun w => xtakeName_any S p w (by omega) hS
  clear hb hl
  go_enter Tryz.func49, Tryz.ntmps49
  go_wp2_with fail
  rw [← hW]
  clear hW
  refine (HLt.out _).mono ?_
  rintro e w0 ⟨rfl, rfl⟩
  go_wp2_with fail
  refine (HC.out _).mono ?_
  intro e w1 h
  obtain ⟨kd, T, c0', c1', c2', c3', q', n', ev, rfl, HB2, HP⟩ := h.goes
  clear h
  have HT2 : Hid (Tk w1 w.heap.size 0 { data := #[] } 0 0 0 0 0) := HT0.out.below HB2.out HT0.out.lt
  obtain ⟨c0, c1, c2, c3, c4, c5, c6⟩ := HT2.out.cells
  obtain ⟨f0, f1, f2, f3, f4, f5, f6⟩ := HT2.out.thaw
  go_wp2_with fail
  obtain ⟨r0, r1, r2, r3, r4, r5, r6⟩ := (HT2.out.st7 kd T c0' c1' c2' c3' q').cells
  unfold st7 at r0 r1 r2 r3 r4 r5 r6
  (try simp only [Exit.inBlock, Exit.then])
  refine bodyPost_ret (v := tk7 kd T c0' c1' c2' c3' q' n' ev) (by simp [results, Tryz.results49, go_sem, r0, r1, r2, r3, r4, r5, r6]) rfl ?_
  exact HP.out w HW.out
set_option maxRecDepth 100000 in
set_option maxHeartbeats 4000000 in
theorem xtoken_lit (S : ByteArray) (p x : Nat) (w : World) (hb : bt S p = some x) (hq : x = 39 ∨ x = 34) (hS : S.size ≤ 9007199254740992) :
    Calls Tryz.prog 49 #[.string S, .int .i64 (p : Int)] w fun e w' => AnsL (ll S x p (p + 1) []) p w e w' := by
  have hxl := (bt_lt hb).2
  obtain ⟨hp, hxx⟩ := bt_at hb
  have hpI : (p : Int) < (S.size : Int) := by omega
  have hpI2 : (p : Int) ≤ (S.size : Int) := by omega
  have hl : letB x = false := by rcases hq with rfl | rfl <;> rfl
  have HLt : Hid (∀ w : World, Calls Tryz.prog 53 #[.int .u8 (x : Int)] w fun e w' => e = .returned (.bool false) ∧ w' = w) := fun w => xletter_any x false hl w hxl
  obtain ⟨W, hW⟩ : ∃ W, W = w.alloc (.cells #[.int .i64 0, .string { data := #[] }, .int .u64 0, .int .u64 0, .int .u64 0, .int .u64 0, .int .i64 0] 83) := ⟨_, rfl⟩
  have HW : Hid (W = w.alloc (.cells #[.int .i64 0, .string { data := #[] }, .int .u64 0, .int .u64 0, .int .u64 0, .int .u64 0, .int .i64 0] 83)) := hW
  have HB1 : Hid (Below w.heap.size w W) := by show Below _ _ _; rw [hW]; exact (Below.refl _ _).alloc (Nat.le_refl _) _
  have HT0 : Hid (Tk W w.heap.size 0 { data := #[] } 0 0 0 0 0) := by show Tk _ _ _ _ _ _ _ _ _; rw [hW]; exact Tk.new w 0 { data := #[] } 0 0 0 0 0
  have HC : Hid (∀ w : World, Calls Tryz.prog 73 #[.string S, .int .i64 (p : Int)] w fun e w' => AnsL (ll S x p (p + 1) []) p w e w') := fun w => xliteral_any S x p w hb hS
  obtain ⟨r, hr⟩ : ∃ r, r = ll S x p (p + 1) [] := ⟨_, rfl⟩
  rw [← hr] at HC ⊢
  clear hb hr hl
  rcases hq with rfl | rfl
  · go_enter Tryz.func49, Tryz.ntmps49
    go_wp2_with fail
    rw [← hW]
    clear hW
    refine (HLt.out _).mono ?_
    rintro e w0 ⟨rfl, rfl⟩
    go_wp2_with fail
    refine (HC.out _).mono ?_
    intro e w1 h
    obtain ⟨kd, T, c0', c1', c2', c3', q', n', ev, rfl, HB2, HP⟩ := h.goes
    clear h
    have HT2 : Hid (Tk w1 w.heap.size 0 { data := #[] } 0 0 0 0 0) := HT0.out.below HB2.out HT0.out.lt
    obtain ⟨c0, c1, c2, c3, c4, c5, c6⟩ := HT2.out.cells
    obtain ⟨f0, f1, f2, f3, f4, f5, f6⟩ := HT2.out.thaw
    go_wp2_with fail
    obtain ⟨r0, r1, r2, r3, r4, r5, r6⟩ := (HT2.out.st7 kd T c0' c1' c2' c3' q').cells
    unfold st7 at r0 r1 r2 r3 r4 r5 r6
    (try simp only [Exit.inBlock, Exit.then])
    refine bodyPost_ret (v := tk7 kd T c0' c1' c2' c3' q' n' ev) (by simp [results, Tryz.results49, go_sem, r0, r1, r2, r3, r4, r5, r6]) rfl ?_
    exact HP.out w HW.out
  · go_enter Tryz.func49, Tryz.ntmps49
    go_wp2_with fail
    rw [← hW]
    clear hW
    refine (HLt.out _).mono ?_
    rintro e w0 ⟨rfl, rfl⟩
    go_wp2_with fail
    refine (HC.out _).mono ?_
    intro e w1 h
    obtain ⟨kd, T, c0', c1', c2', c3', q', n', ev, rfl, HB2, HP⟩ := h.goes
    clear h
    have HT2 : Hid (Tk w1 w.heap.size 0 { data := #[] } 0 0 0 0 0) := HT0.out.below HB2.out HT0.out.lt
    obtain ⟨c0, c1, c2, c3, c4, c5, c6⟩ := HT2.out.cells
    obtain ⟨f0, f1, f2, f3, f4, f5, f6⟩ := HT2.out.thaw
    go_wp2_with fail
    obtain ⟨r0, r1, r2, r3, r4, r5, r6⟩ := (HT2.out.st7 kd T c0' c1' c2' c3' q').cells
    unfold st7 at r0 r1 r2 r3 r4 r5 r6
    (try simp only [Exit.inBlock, Exit.then])
    refine bodyPost_ret (v := tk7 kd T c0' c1' c2' c3' q' n' ev) (by simp [results, Tryz.results49, go_sem, r0, r1, r2, r3, r4, r5, r6]) rfl ?_
    exact HP.out w HW.out
set_option maxRecDepth 100000 in
set_option maxHeartbeats 4000000 in
theorem xtoken_cls (S : ByteArray) (p x : Nat) (w : World) (hb : bt S p = some x) (hq : x = 91) (hS : S.size ≤ 9007199254740992) :
    Calls Tryz.prog 49 #[.string S, .int .i64 (p : Int)] w fun e w' => AnsC (clsP (S.extract p S.size)) p w e w' := by
  have hxl := (bt_lt hb).2
  obtain ⟨hp, hxx⟩ := bt_at hb
  have hpI : (p : Int) < (S.size : Int) := by omega
  have hpI2 : (p : Int) ≤ (S.size : Int) := by omega
  have HLt : Hid (∀ w : World, Calls Tryz.prog 53 #[.int .u8 (x : Int)] w fun e w' => e = .returned (.bool false) ∧ w' = w) := fun w => xletter_any x false (by rw [hq]; rfl) w hxl
  obtain ⟨W, hW⟩ : ∃ W, W = w.alloc (.cells #[.int .i64 0, .string { data := #[] }, .int .u64 0, .int .u64 0, .int .u64 0, .int .u64 0, .int .i64 0] 83) := ⟨_, rfl⟩
  have HW : Hid (W = w.alloc (.cells #[.int .i64 0, .string { data := #[] }, .int .u64 0, .int .u64 0, .int .u64 0, .int .u64 0, .int .i64 0] 83)) := hW
  have HB1 : Hid (Below w.heap.size w W) := by show Below _ _ _; rw [hW]; exact (Below.refl _ _).alloc (Nat.le_refl _) _
  have HT0 : Hid (Tk W w.heap.size 0 { data := #[] } 0 0 0 0 0) := by show Tk _ _ _ _ _ _ _ _ _; rw [hW]; exact Tk.new w 0 { data := #[] } 0 0 0 0 0
  have HC : Hid (∀ w : World, Calls Tryz.prog 74 #[.string S, .int .i64 (p : Int)] w fun e w' => AnsC (clsP (S.extract p S.size)) p w e w') := fun w => xtakeClass_any S p w (by omega) hS
  obtain ⟨r, hr⟩ : ∃ r, r = clsP (S.extract p S.size) := ⟨_, rfl⟩
  rw [← hr] at HC ⊢
  clear hb hr
  subst hq
  go_enter Tryz.func49, Tryz.ntmps49
  go_wp2_with fail
  rw [← hW]
  clear hW
  refine (HLt.out _).mono ?_
  rintro e w0 ⟨rfl, rfl⟩
  go_wp2_with fail
  refine (HC.out _).mono ?_
  intro e w1 h
  obtain ⟨kd, T, c0', c1', c2', c3', q', n', ev, rfl, HB2, HP⟩ := h.goes
  clear h
  have HT2 : Hid (Tk w1 w.heap.size 0 { data := #[] } 0 0 0 0 0) := HT0.out.below HB2.out HT0.out.lt
  obtain ⟨c0, c1, c2, c3, c4, c5, c6⟩ := HT2.out.cells
  obtain ⟨f0, f1, f2, f3, f4, f5, f6⟩ := HT2.out.thaw
  go_wp2_with fail
  obtain ⟨r0, r1, r2, r3, r4, r5, r6⟩ := (HT2.out.st7 kd T c0' c1' c2' c3' q').cells
  unfold st7 at r0 r1 r2 r3 r4 r5 r6
  (try simp only [Exit.inBlock, Exit.then])
  refine bodyPost_ret (v := tk7 kd T c0' c1' c2' c3' q' n' ev) (by simp [results, Tryz.results49, go_sem, r0, r1, r2, r3, r4, r5, r6]) rfl ?_
  exact HP.out w HW.out
end Go.Proofs.YtikfnaffiehpaaaGreatDoor
