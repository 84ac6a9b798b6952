/-
  What lex.takeToken answers at a byte of any text: one theorem a kind. Conditions: those that each theorem names.
  What lex.takeToken answers at an arrow, at a sign and at any other byte of any text. Conditions: those that each theorem names.
  What errors.As answers at a Fault, for the targets of this program, and what api.Code and api.At answer at one. Condition: package errors' own variable holds the handle of the type error.
-/
import Derived.Test.YtplffhmefnnieaaGreatDoorVX5ToX8
import Derived.Test.YtplffhmefnnieaaGreatDoorVKG5ToX1
import Derived.LaidEql
import Derived.Stop.Asserts
import Derived.RowKitTokens
namespace Go.Proofs.YtplffhmefnnieaaGreatDoor
open Go.RowKit
set_option linter.unusedVariables false
@[reducible] def tk7 (kd : Int) (T : ByteArray) (c0 c1 c2 c3 q n : Int) (ev : Value) : Value := .tuple #[.agg #[.int .i64 kd, .string T, .int .u64 c0, .int .u64 c1, .int .u64 c2, .int .u64 c3, .int .i64 q], .int .i64 n, ev]
/-- What a caller that keeps a token's block needs of a call's answer. -/
def Goes (A : World → Ending → World → Prop) (W : World) (e : Ending) (w1 : World) : Prop :=
  ∃ (kd : Int) (T : ByteArray) (c0 c1 c2 c3 q n : Int) (ev : Value), e = .returned (tk7 kd T c0 c1 c2 c3 q n ev) ∧ Hid (Below W.heap.size W w1) ∧
    Hid (∀ w : World, W = w.alloc (.cells #[.int .i64 0, .string { data := #[] }, .int .u64 0, .int .u64 0, .int .u64 0, .int .u64 0, .int .i64 0] 122) → A w e (st7 w1 w.heap.size kd T c0 c1 c2 c3 q))
theorem up_below {w W w1 : World} {o : Obj} (hW : W = w.alloc o) (h : Below W.heap.size W w1) : Below w.heap.size w w1 := by
  have hb : Below w.heap.size w W := by rw [hW]; exact (Below.refl _ _).alloc (Nat.le_refl _) _
  exact hb.trans (h.mono hb.size)
theorem up_size {w W : World} {o : Obj} (hW : W = w.alloc o) : W.heap.size = w.heap.size + 1 := by rw [hW]; simp
theorem BadT.goes {c : Nat × Nat} {W w1 : World} {e : Ending} (h : BadT c W e w1) : Goes (BadT c) W e w1 := by
  obtain ⟨f, rfl, HP⟩ := h
  refine ⟨_, _, _, _, _, _, _, _, _, rfl, hid HP.out.2.2, hid fun w hW => ⟨f, rfl, ?_⟩⟩
  have hs := up_size hW
  have h1 := HP.out.1
  exact bad_endT (up_below hW HP.out.2.2) HP.out.2.1 (by omega) (by omega)
theorem BadC.goes {p : Nat} {c : Nat × Nat} {W w1 : World} {e : Ending} (h : BadC p c W e w1) : Goes (BadC p c) W e w1 := by
  obtain ⟨g, f, rfl, HP⟩ := h
  obtain ⟨h1, h2, h3, h4⟩ := HP.out
  refine ⟨_, _, _, _, _, _, _, _, _, rfl, hid h4, hid fun w hW => ⟨g, f, rfl, ?_⟩⟩
  have hs := up_size hW
  exact ⟨by omega, by omega, h3.st7 (by omega) (by omega) _ _ _ _ _ _ _, Below.st7 (up_below hW h4) (Nat.le_refl _) _ _ _ _ _ _ _⟩
theorem AnsN.goes {S : ByteArray} {p : Nat} {W w1 : World} {e : Ending} (h : AnsN S p W e w1) : Goes (AnsN S p) W e w1 := by
  unfold AnsN at *
  by_cases hl : 32 < ne S p - p
  · simp only [if_pos hl] at *; exact h.goes
  · simp only [if_neg hl] at *
    obtain ⟨rfl, hb⟩ := h
    exact ⟨_, _, _, _, _, _, _, _, _, rfl, hid hb, hid fun w hW => ⟨rfl, Below.st7 (up_below hW hb) (Nat.le_refl _) _ _ _ _ _ _ _⟩⟩
theorem AnsL.goes {r : Ls} {p : Nat} {W w1 : World} {e : Ending} (h : AnsL r p W e w1) : Goes (AnsL r p) W e w1 := by
  cases r with
  | inl c => exact BadT.goes h
  | inr l =>
    obtain ⟨rfl, hb⟩ := h
    exact ⟨_, _, _, _, _, _, _, _, _, rfl, hid hb, hid fun w hW => ⟨rfl, Below.st7 (up_below hW hb) (Nat.le_refl _) _ _ _ _ _ _ _⟩⟩
theorem AnsC.goes {r : Rs} {p : Nat} {W w1 : World} {e : Ending} (h : AnsC r p W e w1) : Goes (AnsC r p) W e w1 := by
  cases r with
  | inl c => exact BadC.goes h
  | inr l =>
    obtain ⟨rfl, hb⟩ := h
    exact ⟨_, _, _, _, _, _, _, _, _, rfl, hid hb, hid fun w hW => ⟨rfl, Below.st7 (up_below hW hb) (Nat.le_refl _) _ _ _ _ _ _ _⟩⟩
set_option maxRecDepth 100000 in
set_option maxHeartbeats 4000000 in
theorem xtoken_name (S : ByteArray) (p x : Nat) (w : World) (hb : bt S p = some x) (hl : letB x = true) (hS : S.size ≤ 9007199254740992) :
    Calls Tryz.prog 60 #[.string S, .int .i64 (p : Int)] w fun e w' => AnsN S p w e w' := by
  have hxl := (bt_lt hb).2
  obtain ⟨hp, hxx⟩ := bt_at hb
  have hpI : (p : Int) < (S.size : Int) := by omega
  have hpI2 : (p : Int) ≤ (S.size : Int) := by omega
  have HLt : Hid (∀ w : World, Calls Tryz.prog 84 #[.int .u8 (x : Int)] w fun e w' => e = .returned (.bool true) ∧ w' = w) := fun w => xletter_any x true hl w hxl
  obtain ⟨W, hW⟩ : ∃ W, W = w.alloc (.cells #[.int .i64 0, .string { data := #[] }, .int .u64 0, .int .u64 0, .int .u64 0, .int .u64 0, .int .i64 0] 122) := ⟨_, rfl⟩
  have HW : Hid (W = w.alloc (.cells #[.int .i64 0, .string { data := #[] }, .int .u64 0, .int .u64 0, .int .u64 0, .int .u64 0, .int .i64 0] 122)) := hW
  have HB1 : Hid (Below w.heap.size w W) := by show Below _ _ _; rw [hW]; exact (Below.refl _ _).alloc (Nat.le_refl _) _
  have HT0 : Hid (Tk W w.heap.size 0 { data := #[] } 0 0 0 0 0) := by show Tk _ _ _ _ _ _ _ _ _; rw [hW]; exact Tk.new w 0 { data := #[] } 0 0 0 0 0
  have HC : Hid (∀ w : World, Calls Tryz.prog 85 #[.string S, .int .i64 (p : Int)] w fun e w' => AnsN S p w e w') := fun w => xtakeName_any S p w (by omega) hS
  clear hb hl
  go_enter Tryz.func60, Tryz.ntmps60
  go_wp2_with fail
  rw [← hW]
  clear hW
  refine (HLt.out _).mono ?_
  rintro e w0 ⟨rfl, rfl⟩
  go_wp2_with fail
  refine (HC.out _).mono ?_
  intro e w1 h
  obtain ⟨kd, T, c0', c1', c2', c3', q', n', ev, rfl, HB2, HP⟩ := h.goes
  clear h
  have HT2 : Hid (Tk w1 w.heap.size 0 { data := #[] } 0 0 0 0 0) := HT0.out.below HB2.out HT0.out.lt
  obtain ⟨c0, c1, c2, c3, c4, c5, c6⟩ := HT2.out.cells
  obtain ⟨f0, f1, f2, f3, f4, f5, f6⟩ := HT2.out.thaw
  go_wp2_with fail
  obtain ⟨r0, r1, r2, r3, r4, r5, r6⟩ := (HT2.out.st7 kd T c0' c1' c2' c3' q').cells
  unfold st7 at r0 r1 r2 r3 r4 r5 r6
  (try simp only [Exit.inBlock, Exit.then])
  refine bodyPost_ret (v := tk7 kd T c0' c1' c2' c3' q' n' ev) (by simp [results, Tryz.results60, go_sem, r0, r1, r2, r3, r4, r5, r6]) rfl ?_
  exact HP.out w HW.out
set_option maxRecDepth 100000 in
set_option maxHeartbeats 4000000 in
theorem xtoken_lit (S : ByteArray) (p x : Nat) (w : World) (hb : bt S p = some x) (hq : x = 39 ∨ x = 34) (hS : S.size ≤ 9007199254740992) :
    Calls Tryz.prog 60 #[.string S, .int .i64 (p : Int)] w fun e w' => AnsL (ll S x p (p + 1) []) p w e w' := by
  have hxl := (bt_lt hb).2
  obtain ⟨hp, hxx⟩ := bt_at hb
  have hpI : (p : Int) < (S.size : Int) := by omega
  have hpI2 : (p : Int) ≤ (S.size : Int) := by omega
  have hl : letB x = false := by rcases hq with rfl | rfl <;> rfl
  have HLt : Hid (∀ w : World, Calls Tryz.prog 84 #[.int .u8 (x : Int)] w fun e w' => e = .returned (.bool false) ∧ w' = w) := fun w => xletter_any x false hl w hxl
  obtain ⟨W, hW⟩ : ∃ W, W = w.alloc (.cells #[.int .i64 0, .string { data := #[] }, .int .u64 0, .int .u64 0, .int .u64 0, .int .u64 0, .int .i64 0] 122) := ⟨_, rfl⟩
  have HW : Hid (W = w.alloc (.cells #[.int .i64 0, .string { data := #[] }, .int .u64 0, .int .u64 0, .int .u64 0, .int .u64 0, .int .i64 0] 122)) := hW
  have HB1 : Hid (Below w.heap.size w W) := by show Below _ _ _; rw [hW]; exact (Below.refl _ _).alloc (Nat.le_refl _) _
  have HT0 : Hid (Tk W w.heap.size 0 { data := #[] } 0 0 0 0 0) := by show Tk _ _ _ _ _ _ _ _ _; rw [hW]; exact Tk.new w 0 { data := #[] } 0 0 0 0 0
  have HC : Hid (∀ w : World, Calls Tryz.prog 86 #[.string S, .int .i64 (p : Int)] w fun e w' => AnsL (ll S x p (p + 1) []) p w e w') := fun w => xliteral_any S x p w hb hS
  obtain ⟨r, hr⟩ : ∃ r, r = ll S x p (p + 1) [] := ⟨_, rfl⟩
  rw [← hr] at HC ⊢
  clear hb hr hl
  rcases hq with rfl | rfl
  · go_enter Tryz.func60, Tryz.ntmps60
    go_wp2_with fail
    rw [← hW]
    clear hW
    refine (HLt.out _).mono ?_
    rintro e w0 ⟨rfl, rfl⟩
    go_wp2_with fail
    refine (HC.out _).mono ?_
    intro e w1 h
    obtain ⟨kd, T, c0', c1', c2', c3', q', n', ev, rfl, HB2, HP⟩ := h.goes
    clear h
    have HT2 : Hid (Tk w1 w.heap.size 0 { data := #[] } 0 0 0 0 0) := HT0.out.below HB2.out HT0.out.lt
    obtain ⟨c0, c1, c2, c3, c4, c5, c6⟩ := HT2.out.cells
    obtain ⟨f0, f1, f2, f3, f4, f5, f6⟩ := HT2.out.thaw
    go_wp2_with fail
    obtain ⟨r0, r1, r2, r3, r4, r5, r6⟩ := (HT2.out.st7 kd T c0' c1' c2' c3' q').cells
    unfold st7 at r0 r1 r2 r3 r4 r5 r6
    (try simp only [Exit.inBlock, Exit.then])
    refine bodyPost_ret (v := tk7 kd T c0' c1' c2' c3' q' n' ev) (by simp [results, Tryz.results60, go_sem, r0, r1, r2, r3, r4, r5, r6]) rfl ?_
    exact HP.out w HW.out
  · go_enter Tryz.func60, Tryz.ntmps60
    go_wp2_with fail
    rw [← hW]
    clear hW
    refine (HLt.out _).mono ?_
    rintro e w0 ⟨rfl, rfl⟩
    go_wp2_with fail
    refine (HC.out _).mono ?_
    intro e w1 h
    obtain ⟨kd, T, c0', c1', c2', c3', q', n', ev, rfl, HB2, HP⟩ := h.goes
    clear h
    have HT2 : Hid (Tk w1 w.heap.size 0 { data := #[] } 0 0 0 0 0) := HT0.out.below HB2.out HT0.out.lt
    obtain ⟨c0, c1, c2, c3, c4, c5, c6⟩ := HT2.out.cells
    obtain ⟨f0, f1, f2, f3, f4, f5, f6⟩ := HT2.out.thaw
    go_wp2_with fail
    obtain ⟨r0, r1, r2, r3, r4, r5, r6⟩ := (HT2.out.st7 kd T c0' c1' c2' c3' q').cells
    unfold st7 at r0 r1 r2 r3 r4 r5 r6
    (try simp only [Exit.inBlock, Exit.then])
    refine bodyPost_ret (v := tk7 kd T c0' c1' c2' c3' q' n' ev) (by simp [results, Tryz.results60, go_sem, r0, r1, r2, r3, r4, r5, r6]) rfl ?_
    exact HP.out w HW.out
set_option maxRecDepth 100000 in
set_option maxHeartbeats 4000000 in
theorem xtoken_cls (S : ByteArray) (p x : Nat) (w : World) (hb : bt S p = some x) (hq : x = 91) (hS : S.size ≤ 9007199254740992) :
    Calls Tryz.prog 60 #[.string S, .int .i64 (p : Int)] w fun e w' => AnsC (clsP (S.extract p S.size)) p w e w' := by
  have hxl := (bt_lt hb).2
  obtain ⟨hp, hxx⟩ := bt_at hb
  have hpI : (p : Int) < (S.size : Int) := by omega
  have hpI2 : (p : Int) ≤ (S.size : Int) := by omega
  have HLt : Hid (∀ w : World, Calls Tryz.prog 84 #[.int .u8 (x : Int)] w fun e w' => e = .returned (.bool false) ∧ w' = w) := fun w => xletter_any x false (by rw [hq]; rfl) w hxl
  obtain ⟨W, hW⟩ : ∃ W, W = w.alloc (.cells #[.int .i64 0, .string { data := #[] }, .int .u64 0, .int .u64 0, .int .u64 0, .int .u64 0, .int .i64 0] 122) := ⟨_, rfl⟩
  have HW : Hid (W = w.alloc (.cells #[.int .i64 0, .string { data := #[] }, .int .u64 0, .int .u64 0, .int .u64 0, .int .u64 0, .int .i64 0] 122)) := hW
  have HB1 : Hid (Below w.heap.size w W) := by show Below _ _ _; rw [hW]; exact (Below.refl _ _).alloc (Nat.le_refl _) _
  have HT0 : Hid (Tk W w.heap.size 0 { data := #[] } 0 0 0 0 0) := by show Tk _ _ _ _ _ _ _ _ _; rw [hW]; exact Tk.new w 0 { data := #[] } 0 0 0 0 0
  have HC : Hid (∀ w : World, Calls Tryz.prog 87 #[.string S, .int .i64 (p : Int)] w fun e w' => AnsC (clsP (S.extract p S.size)) p w e w') := fun w => xtakeClass_any S p w (by omega) hS
  obtain ⟨r, hr⟩ : ∃ r, r = clsP (S.extract p S.size) := ⟨_, rfl⟩
  rw [← hr] at HC ⊢
  clear hb hr
  subst hq
  go_enter Tryz.func60, Tryz.ntmps60
  go_wp2_with fail
  rw [← hW]
  clear hW
  refine (HLt.out _).mono ?_
  rintro e w0 ⟨rfl, rfl⟩
  go_wp2_with fail
  refine (HC.out _).mono ?_
  intro e w1 h
  obtain ⟨kd, T, c0', c1', c2', c3', q', n', ev, rfl, HB2, HP⟩ := h.goes
  clear h
  have HT2 : Hid (Tk w1 w.heap.size 0 { data := #[] } 0 0 0 0 0) := HT0.out.below HB2.out HT0.out.lt
  obtain ⟨c0, c1, c2, c3, c4, c5, c6⟩ := HT2.out.cells
  obtain ⟨f0, f1, f2, f3, f4, f5, f6⟩ := HT2.out.thaw
  go_wp2_with fail
  obtain ⟨r0, r1, r2, r3, r4, r5, r6⟩ := (HT2.out.st7 kd T c0' c1' c2' c3' q').cells
  unfold st7 at r0 r1 r2 r3 r4 r5 r6
  (try simp only [Exit.inBlock, Exit.then])
  refine bodyPost_ret (v := tk7 kd T c0' c1' c2' c3' q' n' ev) (by simp [results, Tryz.results60, go_sem, r0, r1, r2, r3, r4, r5, r6]) rfl ?_
  exact HP.out w HW.out
end Go.Proofs.YtplffhmefnnieaaGreatDoor
namespace Go.Proofs.YtplffhmefnnieaaGreatDoor
open Go.RowKit
set_option linter.unusedVariables false
/-- Does an arrow stand at p? -/
def arB (S : ByteArray) (p : Nat) : Bool := bt S p == some 60 && bt S (p + 1) == some 45
theorem byte_eq {b : UInt8} {x k : Nat} (hb : b.toNat = x) (hk : k < 256) : (UInt8.ofNat k == b) = (x == k) := by
  by_cases h : x = k
  · have h2 : UInt8.ofNat k = b := by apply UInt8.toNat.inj; rw [hb, h, UInt8.toNat_ofNat']; omega
    rw [h2, h]; simp
  · have h2 : UInt8.ofNat k ≠ b := fun e => h (by rw [← hb, ← e, UInt8.toNat_ofNat']; omega)
    rw [beq_eq_false_iff_ne.2 h2, beq_eq_false_iff_ne.2 h]
theorem arrow_prefix {S : ByteArray} {p x : Nat} (h : bt S p = some x) : Lib.hasPrefix (S.data.toList.drop p) [60, 45] = arB S p := by
  obtain ⟨b, hd, hbx⟩ := drop_bt h
  unfold Lib.hasPrefix arB
  rw [hd, h, List.isPrefixOf]
  have e1 : ((60 : UInt8) == b) = (x == 60) := byte_eq hbx (by decide)
  rw [e1]
  congr 1
  cases hb : bt S (p + 1) with
  | none =>
    have := bt_none hb
    rw [List.drop_eq_nil_of_le (by rw [Array.length_toList]; exact this)]
    rfl
  | some y =>
    obtain ⟨b2, hd2, hb2⟩ := drop_bt hb
    rw [hd2, List.isPrefixOf]
    have e2 : ((45 : UInt8) == b2) = (y == 45) := byte_eq hb2 (by decide)
    rw [e2, List.isPrefixOf]
    simp
theorem arrow_any {S : ByteArray} {p x : Nat} (h : bt S p = some x) (w : World) : Calls Tryz.prog 88 #[.string (S.extract p S.size), .string { data := #[60, 45] }] w fun e w' => e = .returned (.bool (arB S p)) ∧ w' = w := by
  have h2 := prefix_any (S.extract p S.size) { data := #[60, 45] } w
  rw [piece_list S p (by have := (bt_lt h).1; omega), show ({ data := #[60, 45] } : ByteArray).data.toList = [60, 45] from rfl, arrow_prefix h] at h2
  exact h2
theorem conv_new (w : World) (b : Nat) (hb : b < 256) : (convert 99 9 (.slice (some ⟨w.heap.size, 0, none⟩) 1 1)).run Tryz.prog (w.alloc (.cells #[.int .u8 (b : Int)] 5)) = .ok (.string (nb [b])) (w.alloc (.cells #[.int .u8 (b : Int)] 5)) :=
  conv_own (base := w.heap.size) (l := [b]) ⟨rfl, .inr ⟨w.heap.size, 1, #[.int .u8 (b : Int)], rfl, Nat.le_refl _, new_block_at _ _ rfl, Nat.le_refl _, by unfold maxLen; omega, rfl, rfl⟩⟩ (fun x hx => by simp at hx; omega)
set_option maxRecDepth 100000 in
set_option maxHeartbeats 4000000 in
theorem xtoken_arrow (S : ByteArray) (p x : Nat) (w : World) (hb : bt S p = some x) (ha : arB S p = true) (hx : x = 60) (hS : S.size ≤ 9007199254740992) :
    Calls Tryz.prog 60 #[.string S, .int .i64 (p : Int)] w fun e w' => (fun w e w' => e = .returned (tk7 2 { data := #[] } 0 0 0 0 (p : Int) ((p : Int) + 2) .nilIface) ∧ Below w.heap.size w w') w e w' := by
  have hxl := (bt_lt hb).2
  obtain ⟨hp, hxx⟩ := bt_at hb
  have hpI : (p : Int) < (S.size : Int) := by omega
  have hpI2 : (p : Int) ≤ (S.size : Int) := by omega
  have HLt : Hid (∀ w : World, Calls Tryz.prog 84 #[.int .u8 (x : Int)] w fun e w' => e = .returned (.bool false) ∧ w' = w) := fun w => xletter_any x false (by rw [hx]; rfl) w hxl
  obtain ⟨W, hW⟩ : ∃ W, W = w.alloc (.cells #[.int .i64 0, .string { data := #[] }, .int .u64 0, .int .u64 0, .int .u64 0, .int .u64 0, .int .i64 0] 122) := ⟨_, rfl⟩
  have HW : Hid (W = w.alloc (.cells #[.int .i64 0, .string { data := #[] }, .int .u64 0, .int .u64 0, .int .u64 0, .int .u64 0, .int .i64 0] 122)) := hW
  have HB1 : Hid (Below w.heap.size w W) := by show Below _ _ _; rw [hW]; exact (Below.refl _ _).alloc (Nat.le_refl _) _
  have HT0 : Hid (Tk W w.heap.size 0 { data := #[] } 0 0 0 0 0) := by show Tk _ _ _ _ _ _ _ _ _; rw [hW]; exact Tk.new w 0 { data := #[] } 0 0 0 0 0
  have HA : Hid (∀ w : World, Calls Tryz.prog 88 #[.string (S.extract p S.size), .string { data := #[60, 45] }] w fun e w' => e = .returned (.bool true) ∧ w' = w) := fun w => ha ▸ arrow_any hb w
  clear hb ha
  subst hx
  go_enter Tryz.func60, Tryz.ntmps60
  go_wp2_with fail
  rw [← hW]
  clear hW
  refine (HLt.out _).mono ?_
  rintro e w0 ⟨rfl, rfl⟩
  go_wp2_with fail
  refine (HA.out _).mono ?_
  rintro e w1 ⟨rfl, rfl⟩
  obtain ⟨c0, c1, c2, c3, c4, c5, c6⟩ := HT0.out.cells
  obtain ⟨f0, f1, f2, f3, f4, f5, f6⟩ := HT0.out.thaw
  go_wp2_with fail
  obtain ⟨r0, r1, r2, r3, r4, r5, r6⟩ := (HT0.out.st7 2 { data := #[] } 0 0 0 0 (p : Int)).cells
  unfold st7 at r0 r1 r2 r3 r4 r5 r6
  (try simp only [Exit.inBlock, Exit.then])
  refine bodyPost_ret (v := tk7 2 { data := #[] } 0 0 0 0 (p : Int) ((p : Int) + 2) .nilIface) (by simp [results, Tryz.results60, go_sem, r0, r1, r2, r3, r4, r5, r6]) rfl ?_
  exact ⟨rfl, Below.st7 HB1.out (Nat.le_refl _) _ _ _ _ _ _ _⟩
set_option maxRecDepth 100000 in
set_option maxHeartbeats 4000000 in
theorem xtoken_sign (S : ByteArray) (p x : Nat) (w : World) (hb : bt S p = some x) (hl : letB x = false) (hq : x ≠ 39 ∧ x ≠ 34 ∧ x ≠ 91) (ha : arB S p = false) (hm : mkB x = true) (hS : S.size ≤ 9007199254740992) :
    Calls Tryz.prog 60 #[.string S, .int .i64 (p : Int)] w fun e w' => (fun w e w' => e = .returned (tk7 5 (nb [x]) 0 0 0 0 (p : Int) ((p : Int) + 1) .nilIface) ∧ Below w.heap.size w w') w e w' := by
  have hxl := (bt_lt hb).2
  obtain ⟨hp, hxx⟩ := bt_at hb
  have hpI : (p : Int) < (S.size : Int) := by omega
  have hpI2 : (p : Int) ≤ (S.size : Int) := by omega
  have HLt : Hid (∀ w : World, Calls Tryz.prog 84 #[.int .u8 (x : Int)] w fun e w' => e = .returned (.bool false) ∧ w' = w) := fun w => xletter_any x false hl w hxl
  obtain ⟨W, hW⟩ : ∃ W, W = w.alloc (.cells #[.int .i64 0, .string { data := #[] }, .int .u64 0, .int .u64 0, .int .u64 0, .int .u64 0, .int .i64 0] 122) := ⟨_, rfl⟩
  have HW : Hid (W = w.alloc (.cells #[.int .i64 0, .string { data := #[] }, .int .u64 0, .int .u64 0, .int .u64 0, .int .u64 0, .int .i64 0] 122)) := hW
  have HB1 : Hid (Below w.heap.size w W) := by show Below _ _ _; rw [hW]; exact (Below.refl _ _).alloc (Nat.le_refl _) _
  have HT0 : Hid (Tk W w.heap.size 0 { data := #[] } 0 0 0 0 0) := by show Tk _ _ _ _ _ _ _ _ _; rw [hW]; exact Tk.new w 0 { data := #[] } 0 0 0 0 0
  have HA : Hid (∀ w : World, Calls Tryz.prog 88 #[.string (S.extract p S.size), .string { data := #[60, 45] }] w fun e w' => e = .returned (.bool false) ∧ w' = w) := fun w => ha ▸ arrow_any hb w
  have b1 : ((x : Int) == 39) = false := by simp; omega
  have b2 : ((x : Int) == 34) = false := by simp; omega
  have b3 : ((x : Int) == 91) = false := by simp; omega
  obtain ⟨i, hi⟩ : ∃ i : Int, i = Lib.indexByte [47, 38, 33, 63, 42, 43, 40, 41, 46] x.toUInt8 := ⟨_, rfl⟩
  have HI : Hid (∀ w : World, Calls Tryz.prog 89 #[.string { data := #[47, 38, 33, 63, 42, 43, 40, 41, 46] }, .int .u8 (x : Int)] w fun e w' => e = .returned (.int .i64 i) ∧ w' = w) := fun w => by rw [hi]; exact index_any { data := #[47, 38, 33, 63, 42, 43, 40, 41, 46] } x w
  have hi0 : decide (0 ≤ i) = true := by rw [hi, mark_index x hxl, hm]
  have hi1 : 0 ≤ i := by simpa using hi0
  have cvn := fun w => conv_new w x hxl
  obtain ⟨TT, hTT⟩ : ∃ TT, TT = nb [x] := ⟨_, rfl⟩
  rw [← hTT] at cvn ⊢
  clear hb hl hq ha hm hi hTT
  go_enter Tryz.func60, Tryz.ntmps60
  go_wp2_with fail
  rw [← hW]
  clear hW
  refine (HLt.out _).mono ?_
  rintro e w0 ⟨rfl, rfl⟩
  go_wp2_with fail
  refine (HA.out _).mono ?_
  rintro e w1 ⟨rfl, rfl⟩
  go_wp2_with fail
  refine (HI.out _).mono ?_
  rintro e w2 ⟨rfl, rfl⟩
  have HT2 : Hid (Tk (w2.alloc (.cells #[.int .u8 (x : Int)] 5)) w.heap.size 0 { data := #[] } 0 0 0 0 0) := HT0.out.alloc _
  obtain ⟨c0, c1, c2, c3, c4, c5, c6⟩ := HT2.out.cells
  obtain ⟨f0, f1, f2, f3, f4, f5, f6⟩ := HT2.out.thaw
  go_wp2_with fail
  obtain ⟨r0, r1, r2, r3, r4, r5, r6⟩ := (HT2.out.st7 5 TT 0 0 0 0 (p : Int)).cells
  unfold st7 at r0 r1 r2 r3 r4 r5 r6
  (try simp only [Exit.inBlock, Exit.then])
  refine bodyPost_ret (v := tk7 5 TT 0 0 0 0 (p : Int) ((p : Int) + 1) .nilIface) (by simp [results, Tryz.results60, go_sem, r0, r1, r2, r3, r4, r5, r6]) rfl ?_
  exact ⟨rfl, Below.st7 (HB1.out.alloc HB1.out.size _) (Nat.le_refl _) _ _ _ _ _ _ _⟩
set_option maxRecDepth 100000 in
set_option maxHeartbeats 4000000 in
theorem xtoken_bad (S : ByteArray) (p x : Nat) (w : World) (hb : bt S p = some x) (hl : letB x = false) (hq : x ≠ 39 ∧ x ≠ 34 ∧ x ≠ 91) (ha : arB S p = false) (hm : mkB x = false) (hS : S.size ≤ 9007199254740992) :
    Calls Tryz.prog 60 #[.string S, .int .i64 (p : Int)] w fun e w' => BadT (4, p) w e w' := by
  have hxl := (bt_lt hb).2
  obtain ⟨hp, hxx⟩ := bt_at hb
  have hpI : (p : Int) < (S.size : Int) := by omega
  have hpI2 : (p : Int) ≤ (S.size : Int) := by omega
  have HLt : Hid (∀ w : World, Calls Tryz.prog 84 #[.int .u8 (x : Int)] w fun e w' => e = .returned (.bool false) ∧ w' = w) := fun w => xletter_any x false hl w hxl
  obtain ⟨W, hW⟩ : ∃ W, W = w.alloc (.cells #[.int .i64 0, .string { data := #[] }, .int .u64 0, .int .u64 0, .int .u64 0, .int .u64 0, .int .i64 0] 122) := ⟨_, rfl⟩
  have HW : Hid (W = w.alloc (.cells #[.int .i64 0, .string { data := #[] }, .int .u64 0, .int .u64 0, .int .u64 0, .int .u64 0, .int .i64 0] 122)) := hW
  have HB1 : Hid (Below w.heap.size w W) := by show Below _ _ _; rw [hW]; exact (Below.refl _ _).alloc (Nat.le_refl _) _
  have HT0 : Hid (Tk W w.heap.size 0 { data := #[] } 0 0 0 0 0) := by show Tk _ _ _ _ _ _ _ _ _; rw [hW]; exact Tk.new w 0 { data := #[] } 0 0 0 0 0
  have HA : Hid (∀ w : World, Calls Tryz.prog 88 #[.string (S.extract p S.size), .string { data := #[60, 45] }] w fun e w' => e = .returned (.bool false) ∧ w' = w) := fun w => ha ▸ arrow_any hb w
  have b1 : ((x : Int) == 39) = false := by simp; omega
  have b2 : ((x : Int) == 34) = false := by simp; omega
  have b3 : ((x : Int) == 91) = false := by simp; omega
  obtain ⟨i, hi⟩ : ∃ i : Int, i = Lib.indexByte [47, 38, 33, 63, 42, 43, 40, 41, 46] x.toUInt8 := ⟨_, rfl⟩
  have HI : Hid (∀ w : World, Calls Tryz.prog 89 #[.string { data := #[47, 38, 33, 63, 42, 43, 40, 41, 46] }, .int .u8 (x : Int)] w fun e w' => e = .returned (.int .i64 i) ∧ w' = w) := fun w => by rw [hi]; exact index_any { data := #[47, 38, 33, 63, 42, 43, 40, 41, 46] } x w
  have hi0 : decide (0 ≤ i) = false := by rw [hi, mark_index x hxl, hm]
  have hi1 : ¬ 0 ≤ i := by simpa using hi0
  have HF : Hid (∀ w : World, Calls Tryz.prog 90 #[.string S, .int .i64 (p : Int)] w fun e w' => e = .returned (flv w.heap.size) ∧ Flt w' w.heap.size (4, p) ∧ Below w.heap.size w w') := fun w => by
    have h := xfault_any S p w hS (by omega)
    rw [show flt S p = (4, p) by unfold flt; rw [if_neg (by omega)]] at h
    exact h
  clear hb hl hq ha hm hi
  go_enter Tryz.func60, Tryz.ntmps60
  go_wp2_with fail
  rw [← hW]
  clear hW
  refine (HLt.out _).mono ?_
  rintro e w0 ⟨rfl, rfl⟩
  go_wp2_with fail
  refine (HA.out _).mono ?_
  rintro e w1 ⟨rfl, rfl⟩
  go_wp2_with fail
  refine (HI.out _).mono ?_
  rintro e w2 ⟨rfl, rfl⟩
  go_wp2_with fail
  refine (HF.out _).mono ?_
  rintro e w3 ⟨rfl, hf, hb3⟩
  have HF3 : Hid (Flt w3 w2.heap.size (4, p)) := hf
  have HB3 : Hid (Below w.heap.size w w3) := HB1.out.trans (hb3.mono HB1.out.size)
  have HT2 : Hid (Tk w3 w.heap.size 0 { data := #[] } 0 0 0 0 0) := HT0.out.below hb3 HT0.out.lt
  clear hf hb3
  obtain ⟨c0, c1, c2, c3, c4, c5, c6⟩ := HT2.out.cells
  obtain ⟨f0, f1, f2, f3, f4, f5, f6⟩ := HT2.out.thaw
  unfold flv
  go_wp2_with fail
  obtain ⟨r0, r1, r2, r3, r4, r5, r6⟩ := (HT2.out.st7 0 { data := #[] } 0 0 0 0 0).cells
  unfold st7 at r0 r1 r2 r3 r4 r5 r6
  (try simp only [Exit.inBlock, Exit.then])
  refine bodyPost_ret (v := tk7 0 { data := #[] } 0 0 0 0 0 0 (flv w2.heap.size)) (by simp [results, Tryz.results60, go_sem, flv, r0, r1, r2, r3, r4, r5, r6]) rfl ?_
  exact ⟨w2.heap.size, rfl, bad_endT HB3.out HF3.out HB1.out.size (Nat.ne_of_gt HT0.out.lt)⟩
end Go.Proofs.YtplffhmefnnieaaGreatDoor
namespace Go.Proofs.YtplffhmefnnieaaGreatDoor
open Go.RowKit Go.Extern.Stop Go.Stop Go.Extern
set_option linter.unusedVariables false
theorem Tryz.methodKind (h : Value) (w : World) : (Go.method 370 150 (.agg #[h]) "Kind").run Tryz.prog w = .ok (219, h) w := by kernel_rfl
theorem Tryz.methodElem (h : Value) (w : World) : (Go.method 370 150 (.agg #[h]) "Elem").run Tryz.prog w = .ok (231, .agg #[h]) w := by kernel_rfl
theorem Tryz.methodImplements (h : Value) (w : World) : (Go.method 370 150 (.agg #[h]) "Implements").run Tryz.prog w = .ok (232, .agg #[h]) w := by kernel_rfl
theorem Tryz.methodAssignableTo (h : Value) (w : World) : (Go.method 370 150 (.agg #[h]) "AssignableTo").run Tryz.prog w = .ok (229, .agg #[h]) w := by kernel_rfl
theorem rlm (z : Sem Value) (f : TypeId → Addr → Nat → Nat → Sem Value) (v : Value) :
    ReflectliteValue.method z f #[v] = (do match ← ReflectliteValue.parts v with | none => z | some (t, a, fl) => f t a fl (fl % 32)) := rfl
theorem rls (v x : Value) : ReflectliteValue.set #[v, x] = (do
    let (some (dst, a, fl), some (src, b, _)) := (← ReflectliteValue.parts v, ← ReflectliteValue.parts x)
      | unsupported (.noEntry "extern/(internal/reflectlite.Value).Set.zeroValue")
    if fl / ReflectliteValue.flagAddr % 2 == 0 then unsupported (.noEntry "extern/(internal/reflectlite.Value).Set.unaddressable")
    let val ← loadVar src b
    if ← Rtype.directlyAssignable dst src then storeVar dst a val
    else if ← Rtype.implements dst src then
      if (← Rtype.kind src) == 20 then
        match val with
        | .nilIface => unsupported (.noEntry "extern/reflectlite: a nil value of one interface type handed on as a value of another")
        | _ => storeVar dst a val
      else storeVar dst a (.iface src val)
    else panicString ("reflectlite.Set: value of type " ++ (← Rtype.spelt src) ++ " is not assignable to type " ++ (← Rtype.spelt dst))
    pure (.tuple #[])) := rfl
/-- Package errors' own variable holds the handle of the type error. -/
def ErrIs (w : World) : Prop := w.cell? ⟨0, 0, none⟩ = some (.iface 150 (.agg #[.pointer (some ⟨3, 28, none⟩)]))
theorem ErrIs.lt {w : World} (h : ErrIs w) : 0 < w.heap.size := by
  unfold ErrIs at h
  rcases Nat.lt_or_ge 0 w.heap.size with h1 | h1
  · exact h1
  · simp [World.cell?, Array.getElem?_eq_none h1] at h
theorem ErrIs.below {w w' : World} {B : Nat} (h : ErrIs w) (hb : Below B w w') (hB : 0 < B) : ErrIs w' := (hb.cell (p := ⟨0, 0, none⟩) hB).trans h
theorem ErrIs.alloc {w : World} (h : ErrIs w) (o : Obj) : ErrIs (w.alloc o) := by
  unfold ErrIs
  rw [World.cell?_alloc_lt _ _ ⟨0, 0, none⟩ h.lt]
  exact h
theorem Tryz.valueOfPE (t : Addr) (w : World) : (ReflectliteValue.unpack (.iface 76 (.pointer (some t)))).run Tryz.prog w
    = .ok (.agg #[.pointer (some ⟨3, 76, none⟩), .pointer (some ⟨w.heap.size, 0, none⟩), .int .u64 150]) (w.alloc (.cells #[.pointer (some t)] 76)) := by kernel_rfl
theorem Tryz.typePE (a : Addr) (w : World) : (ReflectliteValue.methodAny (ReflectliteValue.valueError "reflectlite.Value.Type" 0) (fun t _ _ _ => ReflectliteType.toType t) #[.agg #[.pointer (some ⟨3, 76, none⟩), .pointer (some a), .int .u64 150]]).run Tryz.prog w
    = .ok (.iface 150 (.agg #[.pointer (some ⟨3, 76, none⟩)])) w := by kernel_rfl
theorem Tryz.kindPE (w : World) : ((ReflectliteType.abiMethod fun t => (fun a : Nat => Value.int IntKind.u8 (a : Int)) <$> Rtype.kind t) #[.pointer (some ⟨3, 76, none⟩)]).run Tryz.prog w = .ok (.int .u8 22) w := by kernel_rfl
theorem Tryz.partsPE (a : Addr) (w : World) : (ReflectliteValue.parts (.agg #[.pointer (some ⟨3, 76, none⟩), .pointer (some a), .int .u64 150])).run Tryz.prog w = .ok (some (76, a, 150)) w := by kernel_rfl
theorem Tryz.isNilPE (a p : Addr) (W : World) (ha : W.cell? a = some (.pointer (some p))) :
    (ReflectliteValue.method (ReflectliteValue.valueError "reflectlite.Value.IsNil" 0) ReflectliteValue.isNil #[.agg #[.pointer (some ⟨3, 76, none⟩), .pointer (some a), .int .u64 150]]).run Tryz.prog W = .ok (.bool false) W := by
  rw [rlm]
  simp only [Sem.run_bind, Tryz.partsPE, Result.andThen]
  simp [ReflectliteValue.isNil, loadVar, isAgg, underlying, Tryz.underlying76, ha, Result.andThen]
theorem Tryz.elemPE (w : World) : (ReflectliteType.method ReflectliteType.elem #[.agg #[.pointer (some ⟨3, 76, none⟩)]]).run Tryz.prog w = .ok (.iface 150 (.agg #[.pointer (some ⟨3, 36, none⟩)])) w := by kernel_rfl
theorem Tryz.kindEE (w : World) : ((ReflectliteType.abiMethod fun t => (fun a : Nat => Value.int IntKind.u8 (a : Int)) <$> Rtype.kind t) #[.pointer (some ⟨3, 36, none⟩)]).run Tryz.prog w = .ok (.int .u8 2) w := by kernel_rfl
theorem Tryz.implementsEE (w : World) : (ReflectliteType.relation "Implements" ReflectliteType.implements_ #[.agg #[.pointer (some ⟨3, 36, none⟩)], .iface 150 (.agg #[.pointer (some ⟨3, 28, none⟩)])]).run Tryz.prog w = .ok (.bool true) w := by kernel_rfl
theorem Tryz.typeOfEE (v : Value) (w : World) : (ReflectliteType.typeOf #[.iface 36 v]).run Tryz.prog w = .ok (.iface 150 (.agg #[.pointer (some ⟨3, 36, none⟩)])) w := by kernel_rfl
theorem Tryz.assignableEE (w : World) : (ReflectliteType.relation "AssignableTo" ReflectliteType.assignableTo #[.agg #[.pointer (some ⟨3, 36, none⟩)], .iface 150 (.agg #[.pointer (some ⟨3, 36, none⟩)])]).run Tryz.prog w = .ok (.bool true) w := by kernel_rfl
theorem Tryz.valueOfEE (c : Int) (w : World) : (ReflectliteValue.unpack (.iface 36 (.int .i64 c))).run Tryz.prog w
    = .ok (.agg #[.pointer (some ⟨3, 36, none⟩), .pointer (some ⟨w.heap.size, 0, none⟩), .int .u64 130]) (w.alloc (.cells #[.int .i64 c] 36)) := by kernel_rfl
theorem Tryz.elemOfPE (w : World) : (Rtype.elem? 76).run Tryz.prog w = .ok (some 36) w := by kernel_rfl
theorem Tryz.mkEE (p : Addr) (w : World) : (ReflectliteValue.mk 36 p ReflectliteValue.flagAddr).run Tryz.prog w = .ok (.agg #[.pointer (some ⟨3, 36, none⟩), .pointer (some p), .int .u64 386]) w := by kernel_rfl
theorem Tryz.elemVE (a p : Addr) (W : World) (ha : W.cell? a = some (.pointer (some p))) :
    (ReflectliteValue.method (ReflectliteValue.valueError "reflectlite.Value.Elem" 0) ReflectliteValue.elem #[.agg #[.pointer (some ⟨3, 76, none⟩), .pointer (some a), .int .u64 150]]).run Tryz.prog W
      = .ok (.agg #[.pointer (some ⟨3, 36, none⟩), .pointer (some p), .int .u64 386]) W := by
  rw [rlm]
  simp only [Sem.run_bind, Tryz.partsPE, Result.andThen]
  simp [ReflectliteValue.elem, loadVar, isAgg, underlying, Tryz.underlying76, ha, Result.andThen, Tryz.elemOfPE, Tryz.mkEE]
theorem Tryz.partsEaE (a : Addr) (w : World) : (ReflectliteValue.parts (.agg #[.pointer (some ⟨3, 36, none⟩), .pointer (some a), .int .u64 386])).run Tryz.prog w = .ok (some (36, a, 386)) w := by kernel_rfl
theorem Tryz.partsEE (a : Addr) (w : World) : (ReflectliteValue.parts (.agg #[.pointer (some ⟨3, 36, none⟩), .pointer (some a), .int .u64 130])).run Tryz.prog w = .ok (some (36, a, 130)) w := by kernel_rfl
theorem Tryz.directEE (w : World) : (Rtype.directlyAssignable 36 36).run Tryz.prog w = .ok true w := by kernel_rfl
theorem Tryz.setEE (ta b : Addr) (c : Int) (old : Value) (W : World) (hb : W.cell? b = some (.int .i64 c)) (ht : W.cell? ta = some old) (hf : W.frozen? ta = false) :
    (ReflectliteValue.set #[.agg #[.pointer (some ⟨3, 36, none⟩), .pointer (some ta), .int .u64 386], .agg #[.pointer (some ⟨3, 36, none⟩), .pointer (some b), .int .u64 130]]).run Tryz.prog W
      = .ok (.tuple #[]) (W.setCell ta (.int .i64 c)) := by
  rw [rls]
  simp only [Sem.run_bind, Tryz.partsEaE, Tryz.partsEE, Result.andThen]
  simp [ReflectliteValue.flagAddr, loadVar, isAgg, underlying, Tryz.underlying36, hb, Result.andThen, Tryz.directEE, storeVar, Value.cells, storeCells, Addr.add]
  rw [run_store Tryz.prog W ta _ _ (by rfl)]
  simp [ht, hf]
theorem Tryz.valueOfPF (t : Addr) (w : World) : (ReflectliteValue.unpack (.iface 78 (.pointer (some t)))).run Tryz.prog w
    = .ok (.agg #[.pointer (some ⟨3, 78, none⟩), .pointer (some ⟨w.heap.size, 0, none⟩), .int .u64 150]) (w.alloc (.cells #[.pointer (some t)] 78)) := by kernel_rfl
theorem Tryz.typePF (a : Addr) (w : World) : (ReflectliteValue.methodAny (ReflectliteValue.valueError "reflectlite.Value.Type" 0) (fun t _ _ _ => ReflectliteType.toType t) #[.agg #[.pointer (some ⟨3, 78, none⟩), .pointer (some a), .int .u64 150]]).run Tryz.prog w
    = .ok (.iface 150 (.agg #[.pointer (some ⟨3, 78, none⟩)])) w := by kernel_rfl
theorem Tryz.kindPF (w : World) : ((ReflectliteType.abiMethod fun t => (fun a : Nat => Value.int IntKind.u8 (a : Int)) <$> Rtype.kind t) #[.pointer (some ⟨3, 78, none⟩)]).run Tryz.prog w = .ok (.int .u8 22) w := by kernel_rfl
theorem Tryz.partsPF (a : Addr) (w : World) : (ReflectliteValue.parts (.agg #[.pointer (some ⟨3, 78, none⟩), .pointer (some a), .int .u64 150])).run Tryz.prog w = .ok (some (78, a, 150)) w := by kernel_rfl
theorem Tryz.isNilPF (a p : Addr) (W : World) (ha : W.cell? a = some (.pointer (some p))) :
    (ReflectliteValue.method (ReflectliteValue.valueError "reflectlite.Value.IsNil" 0) ReflectliteValue.isNil #[.agg #[.pointer (some ⟨3, 78, none⟩), .pointer (some a), .int .u64 150]]).run Tryz.prog W = .ok (.bool false) W := by
  rw [rlm]
  simp only [Sem.run_bind, Tryz.partsPF, Result.andThen]
  simp [ReflectliteValue.isNil, loadVar, isAgg, underlying, Tryz.underlying78, ha, Result.andThen]
theorem Tryz.elemPF (w : World) : (ReflectliteType.method ReflectliteType.elem #[.agg #[.pointer (some ⟨3, 78, none⟩)]]).run Tryz.prog w = .ok (.iface 150 (.agg #[.pointer (some ⟨3, 77, none⟩)])) w := by kernel_rfl
theorem Tryz.kindEF (w : World) : ((ReflectliteType.abiMethod fun t => (fun a : Nat => Value.int IntKind.u8 (a : Int)) <$> Rtype.kind t) #[.pointer (some ⟨3, 77, none⟩)]).run Tryz.prog w = .ok (.int .u8 22) w := by kernel_rfl
theorem Tryz.implementsEF (w : World) : (ReflectliteType.relation "Implements" ReflectliteType.implements_ #[.agg #[.pointer (some ⟨3, 77, none⟩)], .iface 150 (.agg #[.pointer (some ⟨3, 28, none⟩)])]).run Tryz.prog w = .ok (.bool true) w := by kernel_rfl
theorem Tryz.typeOfEF (v : Value) (w : World) : (ReflectliteType.typeOf #[.iface 77 v]).run Tryz.prog w = .ok (.iface 150 (.agg #[.pointer (some ⟨3, 77, none⟩)])) w := by kernel_rfl
theorem Tryz.assignableEF (w : World) : (ReflectliteType.relation "AssignableTo" ReflectliteType.assignableTo #[.agg #[.pointer (some ⟨3, 77, none⟩)], .iface 150 (.agg #[.pointer (some ⟨3, 77, none⟩)])]).run Tryz.prog w = .ok (.bool true) w := by kernel_rfl
theorem Tryz.valueOfEF (c : Addr) (w : World) : (ReflectliteValue.unpack (.iface 77 (.pointer (some c)))).run Tryz.prog w
    = .ok (.agg #[.pointer (some ⟨3, 77, none⟩), .pointer (some ⟨w.heap.size, 0, none⟩), .int .u64 150]) (w.alloc (.cells #[.pointer (some c)] 77)) := by kernel_rfl
theorem Tryz.elemOfPF (w : World) : (Rtype.elem? 78).run Tryz.prog w = .ok (some 77) w := by kernel_rfl
theorem Tryz.mkEF (p : Addr) (w : World) : (ReflectliteValue.mk 77 p ReflectliteValue.flagAddr).run Tryz.prog w = .ok (.agg #[.pointer (some ⟨3, 77, none⟩), .pointer (some p), .int .u64 406]) w := by kernel_rfl
theorem Tryz.elemVF (a p : Addr) (W : World) (ha : W.cell? a = some (.pointer (some p))) :
    (ReflectliteValue.method (ReflectliteValue.valueError "reflectlite.Value.Elem" 0) ReflectliteValue.elem #[.agg #[.pointer (some ⟨3, 78, none⟩), .pointer (some a), .int .u64 150]]).run Tryz.prog W
      = .ok (.agg #[.pointer (some ⟨3, 77, none⟩), .pointer (some p), .int .u64 406]) W := by
  rw [rlm]
  simp only [Sem.run_bind, Tryz.partsPF, Result.andThen]
  simp [ReflectliteValue.elem, loadVar, isAgg, underlying, Tryz.underlying78, ha, Result.andThen, Tryz.elemOfPF, Tryz.mkEF]
theorem Tryz.partsEaF (a : Addr) (w : World) : (ReflectliteValue.parts (.agg #[.pointer (some ⟨3, 77, none⟩), .pointer (some a), .int .u64 406])).run Tryz.prog w = .ok (some (77, a, 406)) w := by kernel_rfl
theorem Tryz.partsEF (a : Addr) (w : World) : (ReflectliteValue.parts (.agg #[.pointer (some ⟨3, 77, none⟩), .pointer (some a), .int .u64 150])).run Tryz.prog w = .ok (some (77, a, 150)) w := by kernel_rfl
theorem Tryz.directEF (w : World) : (Rtype.directlyAssignable 77 77).run Tryz.prog w = .ok true w := by kernel_rfl
theorem Tryz.setEF (ta b : Addr) (c : Addr) (old : Value) (W : World) (hb : W.cell? b = some (.pointer (some c))) (ht : W.cell? ta = some old) (hf : W.frozen? ta = false) :
    (ReflectliteValue.set #[.agg #[.pointer (some ⟨3, 77, none⟩), .pointer (some ta), .int .u64 406], .agg #[.pointer (some ⟨3, 77, none⟩), .pointer (some b), .int .u64 150]]).run Tryz.prog W
      = .ok (.tuple #[]) (W.setCell ta (.pointer (some c))) := by
  rw [rls]
  simp only [Sem.run_bind, Tryz.partsEaF, Tryz.partsEF, Result.andThen]
  simp [ReflectliteValue.flagAddr, loadVar, isAgg, underlying, Tryz.underlying77, hb, Result.andThen, Tryz.directEF, storeVar, Value.cells, storeCells, Addr.add]
  rw [run_store Tryz.prog W ta _ _ (by rfl)]
  simp [ht, hf]
set_option maxHeartbeats 4000000 in
theorem as_hitF (c t : Addr) (old : Value) (w : World) (hg0 : ErrIs w) (ht0 : w.cell? t = some old) (hf0 : w.frozen? t = false) :
    Calls Tryz.prog 35 #[.iface 77 (.pointer (some c)), .iface 78 (.pointer (some t))] w fun ev w' => ev = .returned (.bool true) ∧ w' = ((((w.alloc (.cells #[.pointer (some t)] 78)).alloc (.cells #[.pointer (some ⟨3, 78, none⟩), .pointer (some ⟨w.heap.size, 0, none⟩), .int .u64 150] 109)).alloc (.cells #[.pointer (some ⟨3, 78, none⟩), .pointer (some ⟨w.heap.size, 0, none⟩), .int .u64 150] 109)).alloc (.cells #[.pointer (some c)] 77)).setCell t (.pointer (some c)) := by
  have hVO := @run_callFunc_extern Tryz.prog 53 _ (fun args => ReflectliteValue.unpack (args.getD 0 (.tuple #[]))) Tryz.func53 (by kernel_rfl) (by kernel_rfl) (by kernel_rfl) (by kernel_rfl)
  have hTy := @run_callFunc_extern Tryz.prog 54 _ (ReflectliteValue.methodAny (ReflectliteValue.valueError "reflectlite.Value.Type" 0) (fun t _ _ _ => ReflectliteType.toType t)) Tryz.func54 (by kernel_rfl) (by kernel_rfl) (by kernel_rfl) (by kernel_rfl)
  have hNi := @run_callFunc_extern Tryz.prog 55 _ (ReflectliteValue.method (ReflectliteValue.valueError "reflectlite.Value.IsNil" 0) ReflectliteValue.isNil) Tryz.func55 (by kernel_rfl) (by kernel_rfl) (by kernel_rfl) (by kernel_rfl)
  have hKi := @run_callFunc_extern Tryz.prog 219 _ (ReflectliteType.abiMethod fun t => do pure (.int .u8 (← Rtype.kind t))) Tryz.func219 (by kernel_rfl) (by kernel_rfl) (by kernel_rfl) (by kernel_rfl)
  have hEl := @run_callFunc_extern Tryz.prog 231 _ (ReflectliteType.method ReflectliteType.elem) Tryz.func231 (by kernel_rfl) (by kernel_rfl) (by kernel_rfl) (by kernel_rfl)
  have hIm := @run_callFunc_extern Tryz.prog 232 _ (ReflectliteType.relation "Implements" ReflectliteType.implements_) Tryz.func232 (by kernel_rfl) (by kernel_rfl) (by kernel_rfl) (by kernel_rfl)
  have hTO := @run_callFunc_extern Tryz.prog 79 _ ReflectliteType.typeOf Tryz.func79 (by kernel_rfl) (by kernel_rfl) (by kernel_rfl) (by kernel_rfl)
  have hAs := @run_callFunc_extern Tryz.prog 229 _ (ReflectliteType.relation "AssignableTo" ReflectliteType.assignableTo) Tryz.func229 (by kernel_rfl) (by kernel_rfl) (by kernel_rfl) (by kernel_rfl)
  have hVE := @run_callFunc_extern Tryz.prog 80 _ (ReflectliteValue.method (ReflectliteValue.valueError "reflectlite.Value.Elem" 0) ReflectliteValue.elem) Tryz.func80 (by kernel_rfl) (by kernel_rfl) (by kernel_rfl) (by kernel_rfl)
  have hSe := @run_callFunc_extern Tryz.prog 81 _ ReflectliteValue.set Tryz.func81 (by kernel_rfl) (by kernel_rfl) (by kernel_rfl) (by kernel_rfl)
  have mA := Tryz.methodAssignableTo
  have mK := Tryz.methodKind
  have mE := Tryz.methodElem
  have mI := Tryz.methodImplements
  have vP := Tryz.valueOfPF
  have tP := Tryz.typePF
  have kP := Tryz.kindPF
  have kE := Tryz.kindEF
  have eP := Tryz.elemPF
  have iE := Tryz.implementsEF
  have nP := Tryz.isNilPF ⟨w.heap.size, 0, none⟩ t ((w.alloc (.cells #[.pointer (some t)] 78)).alloc (.cells #[.pointer (some ⟨3, 78, none⟩), .pointer (some ⟨w.heap.size, 0, none⟩), .int .u64 150] 109)) (by simp)
  have hlt := ErrIs.lt hg0
  have hg : w.cell? ⟨0, 0, none⟩ = some (.iface 150 (.agg #[.pointer (some ⟨3, 28, none⟩)])) := hg0
  have hg2 : ((w.alloc (.cells #[.pointer (some t)] 78)).alloc (.cells #[.pointer (some ⟨3, 78, none⟩), .pointer (some ⟨w.heap.size, 0, none⟩), .int .u64 150] 109)).cell? ⟨0, 0, none⟩ = some (.iface 150 (.agg #[.pointer (some ⟨3, 28, none⟩)])) := by
    rw [World.cell?_alloc_lt _ _ ⟨0, 0, none⟩ (by simp <;> omega), World.cell?_alloc_lt _ _ ⟨0, 0, none⟩ hlt]; exact hg
  have tO := Tryz.typeOfEF
  have aE := Tryz.assignableEF
  have vE := Tryz.valueOfEF
  have htl : t.block < w.heap.size := by
    rcases Nat.lt_or_ge t.block w.heap.size with h | h
    · exact h
    · simp [World.cell?, Array.getElem?_eq_none h] at ht0
  have el := Tryz.elemVF ⟨w.heap.size, 0, none⟩ t (((w.alloc (.cells #[.pointer (some t)] 78)).alloc (.cells #[.pointer (some ⟨3, 78, none⟩), .pointer (some ⟨w.heap.size, 0, none⟩), .int .u64 150] 109)).alloc (.cells #[.pointer (some ⟨3, 78, none⟩), .pointer (some ⟨w.heap.size, 0, none⟩), .int .u64 150] 109)) (by rw [World.cell?_alloc_lt _ _ ⟨w.heap.size, 0, none⟩ (by simp <;> omega)]; simp)
  have st := Tryz.setEF t ⟨w.heap.size + 1 + 1 + 1, 0, none⟩ c old ((((w.alloc (.cells #[.pointer (some t)] 78)).alloc (.cells #[.pointer (some ⟨3, 78, none⟩), .pointer (some ⟨w.heap.size, 0, none⟩), .int .u64 150] 109)).alloc (.cells #[.pointer (some ⟨3, 78, none⟩), .pointer (some ⟨w.heap.size, 0, none⟩), .int .u64 150] 109)).alloc (.cells #[.pointer (some c)] 77))
    (by rw [World.cell?_alloc_at _ _ _ _ (by simp)]; rfl)
    (by rw [World.cell?_alloc_lt _ _ t (by simp <;> omega), World.cell?_alloc_lt _ _ t (by simp <;> omega), World.cell?_alloc_lt _ _ t (by simp <;> omega), World.cell?_alloc_lt _ _ t htl]; exact ht0)
    (by rw [World.frozen?_alloc_old _ _ t (by simp <;> omega), World.frozen?_alloc_old _ _ t (by simp <;> omega), World.frozen?_alloc_old _ _ t (by simp <;> omega), World.frozen?_alloc_old _ _ t (Nat.ne_of_lt htl)]; exact hf0)
  clear hg0
  go_enter Tryz.func35, Tryz.ntmps35
  go_wp2
  refine wp_loop_rounds 1 ?_
  rw [rounds_succ]
  go_wp2
  go_ret
  exact ⟨rfl, rfl⟩
end Go.Proofs.YtplffhmefnnieaaGreatDoor
