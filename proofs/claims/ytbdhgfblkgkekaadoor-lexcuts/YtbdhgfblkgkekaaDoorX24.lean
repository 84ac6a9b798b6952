/-
  What the document's own token answers at any text. Conditions: those that each theorem names.
-/
import Derived.Test.YtbdhgfblkgkekaaDoorX23
import Derived.Test.YtbdhgfblkgkekaaDoorXR5
import Derived.Test.YtbdhgfblkgkekaaDoorX15
namespace Go.Proofs.YtbdhgfblkgkekaaDoor
open Go.RowKit
set_option linter.unusedVariables false
@[reducible] def q3 (kd : Int) (T : ByteArray) (c0 c1 c2 c3 p n e : Int) : Value := .tuple #[tv kd T c0 c1 c2 c3 p, .int .i64 n, .int .i64 e]
theorem ext_one {S : ByteArray} {p x : Nat} (h : bt S p = some x) : S.extract p (p + 1) = nb [x] := by
  obtain ⟨hk, hx⟩ := bt_at h
  have hx6 := (bt_lt h).2
  apply ByteArray.ext
  rw [ByteArray.data_extract]
  apply Array.ext'
  have hk2 : p < S.data.toList.length := by rw [Array.length_toList]; exact hk
  rw [Array.toList_extract]
  have h1 : UInt8.ofNat x = S.data.toList[p] := by
    rw [← hx]
    apply UInt8.toNat.inj
    simp
    rfl
  simp only [nb, List.map_cons, List.map_nil, h1]
  show (S.data.toList.drop p).take (p + 1 - p) = _
  rw [show p + 1 - p = 1 by omega, List.drop_eq_getElem_cons hk2]
  rfl
set_option maxRecDepth 100000 in
set_option maxHeartbeats 4000000 in
theorem qtoken_long (S : ByteArray) (p x : Nat) (w : World) (hb : bt S p = some x) (hl : letB x = true) (h32 : 32 < ne S p - p) (hS : S.size ≤ 9007199254740992) :
    Calls Tryd.prog 24 #[.string S, .int .i64 (p : Int)] w fun e w' => e = .returned (q3 0 { data := #[] } 0 0 0 0 0 (p : Int) 2) ∧ Below w.heap.size w w' := by
  have hxl := (bt_lt hb).2
  obtain ⟨hp, hxx⟩ := bt_at hb
  have hpI : (p : Int) < (S.size : Int) := by omega
  have hpI2 : (p : Int) ≤ (S.size : Int) := by omega
  obtain ⟨W, hW⟩ : ∃ W, W = w.alloc (.cells #[.int .i64 0, .string { data := #[] }, .int .u64 0, .int .u64 0, .int .u64 0, .int .u64 0, .int .i64 0] 38) := ⟨_, rfl⟩
  have HB1 : Hid (Below w.heap.size w W) := by show Below _ _ _; rw [hW]; exact (Below.refl _ _).alloc (Nat.le_refl _) _
  have HT0 : Hid (Tk W w.heap.size 0 { data := #[] } 0 0 0 0 0) := by show Tk _ _ _ _ _ _ _ _ _; rw [hW]; exact Tk.new w 0 { data := #[] } 0 0 0 0 0
  obtain ⟨n, hn⟩ : ∃ n, n = rl S p := ⟨_, rfl⟩
  have HLt : Hid (∀ w : World, Calls Tryd.prog 28 #[.string S, .int .i64 (p : Int)] w fun e w' => e = .returned (.int .i64 (n : Int)) ∧ w' = w) := fun w => by rw [hn]; exact qletters_any S p w (by omega) hS
  obtain ⟨B, hB⟩ : ∃ B, B = mkB x := ⟨_, rfl⟩
  have HSg : Hid (∀ w : World, Calls Tryd.prog 38 #[.int .u8 (x : Int)] w fun e w' => e = .returned (.bool B) ∧ w' = w) := fun w => by rw [hB]; exact qsigns_any x w
  have hrl : rl S p = ne S p - p := by unfold rl; rw [hb]; simp only; rw [hl, if_pos rfl]
  have hnl := ne_le (S := S) (k := p) (by omega)
  have hne1 : p < ne S p := by
    have h1 : ne S p = ne S (p + 1) := by rw [ne_eq hb, hl]; rfl
    have h2 := ne_le (S := S) (k := p + 1) (by omega)
    omega
  have n1 : decide ((32 : Int) < (n : Int)) = true := by simp; omega
  clear hb hl h32 hrl hnl hne1 hn hB
  go_enter Tryd.func24, Tryd.ntmps24
  go_wp2_with fail
  rw [← hW]
  clear hW
  refine (HLt.out _).mono ?_
  rintro e w0 ⟨rfl, rfl⟩
  go_wp2_with fail
  refine (HSg.out _).mono ?_
  rintro e w1 ⟨rfl, rfl⟩
  obtain ⟨c0, c1, c2, c3, c4, c5, c6⟩ := HT0.out.cells
  obtain ⟨f0, f1, f2, f3, f4, f5, f6⟩ := HT0.out.thaw
  go_wp2_with fail
  obtain ⟨r0, r1, r2, r3, r4, r5, r6⟩ := (HT0.out.st7 0 { data := #[] } 0 0 0 0 0).cells
  unfold st7 at r0 r1 r2 r3 r4 r5 r6
  (try simp only [Exit.inBlock, Exit.then])
  refine bodyPost_ret (v := q3 0 { data := #[] } 0 0 0 0 0 (p : Int) 2) (by simp [results, Tryd.results24, go_sem, r0, r1, r2, r3, r4, r5, r6]) rfl ?_
  exact ⟨rfl, Below.st7 HB1.out (Nat.le_refl _) _ _ _ _ _ _ _⟩
set_option maxRecDepth 100000 in
set_option maxHeartbeats 4000000 in
theorem qtoken_name (S : ByteArray) (p x : Nat) (w : World) (hb : bt S p = some x) (hl : letB x = true) (h32 : ¬ 32 < ne S p - p) (T : ByteArray) (E : Nat) (hE : E = ne S p) (hT : T = S.extract p E) (hS : S.size ≤ 9007199254740992) :
    Calls Tryd.prog 24 #[.string S, .int .i64 (p : Int)] w fun e w' => e = .returned (q3 1 T 0 0 0 0 (p : Int) (E : Int) 0) ∧ Below w.heap.size w w' := by
  have hxl := (bt_lt hb).2
  obtain ⟨hp, hxx⟩ := bt_at hb
  have hpI : (p : Int) < (S.size : Int) := by omega
  have hpI2 : (p : Int) ≤ (S.size : Int) := by omega
  obtain ⟨W, hW⟩ : ∃ W, W = w.alloc (.cells #[.int .i64 0, .string { data := #[] }, .int .u64 0, .int .u64 0, .int .u64 0, .int .u64 0, .int .i64 0] 38) := ⟨_, rfl⟩
  have HB1 : Hid (Below w.heap.size w W) := by show Below _ _ _; rw [hW]; exact (Below.refl _ _).alloc (Nat.le_refl _) _
  have HT0 : Hid (Tk W w.heap.size 0 { data := #[] } 0 0 0 0 0) := by show Tk _ _ _ _ _ _ _ _ _; rw [hW]; exact Tk.new w 0 { data := #[] } 0 0 0 0 0
  obtain ⟨n, hn⟩ : ∃ n, n = rl S p := ⟨_, rfl⟩
  have HLt : Hid (∀ w : World, Calls Tryd.prog 28 #[.string S, .int .i64 (p : Int)] w fun e w' => e = .returned (.int .i64 (n : Int)) ∧ w' = w) := fun w => by rw [hn]; exact qletters_any S p w (by omega) hS
  obtain ⟨B, hB⟩ : ∃ B, B = mkB x := ⟨_, rfl⟩
  have HSg : Hid (∀ w : World, Calls Tryd.prog 38 #[.int .u8 (x : Int)] w fun e w' => e = .returned (.bool B) ∧ w' = w) := fun w => by rw [hB]; exact qsigns_any x w
  have hrl : rl S p = ne S p - p := by unfold rl; rw [hb]; simp only; rw [hl, if_pos rfl]
  have hnl := ne_le (S := S) (k := p) (by omega)
  have hne1 : p < ne S p := by
    have h1 : ne S p = ne S (p + 1) := by rw [ne_eq hb, hl]; rfl
    have h2 := ne_le (S := S) (k := p + 1) (by omega)
    omega
  have n1 : decide ((32 : Int) < (n : Int)) = false := by simp; omega
  have n2 : decide ((0 : Int) < (n : Int)) = true := by simp; omega
  have n3 : n ≤ 32 := by omega
  have n4 : 0 < n := by omega
  have hc : (p : Int) + (n : Int) = (E : Int) := by omega
  have hE1 : (p : Int) ≤ (E : Int) := by omega
  have hE2 : (E : Int) ≤ (S.size : Int) := by omega
  have hT2 : S.extract p E = T := hT.symm
  clear hb hl h32 hrl hnl hne1 hn hB hE hT
  go_enter Tryd.func24, Tryd.ntmps24
  go_wp2_with fail
  rw [← hW]
  clear hW
  refine (HLt.out _).mono ?_
  rintro e w0 ⟨rfl, rfl⟩
  go_wp2_with fail
  refine (HSg.out _).mono ?_
  rintro e w1 ⟨rfl, rfl⟩
  obtain ⟨c0, c1, c2, c3, c4, c5, c6⟩ := HT0.out.cells
  obtain ⟨f0, f1, f2, f3, f4, f5, f6⟩ := HT0.out.thaw
  go_wp2_with fail
  obtain ⟨r0, r1, r2, r3, r4, r5, r6⟩ := (HT0.out.st7 1 T 0 0 0 0 (p : Int)).cells
  unfold st7 at r0 r1 r2 r3 r4 r5 r6
  (try simp only [Exit.inBlock, Exit.then])
  refine bodyPost_ret (v := q3 1 T 0 0 0 0 (p : Int) (E : Int) 0) (by simp [results, Tryd.results24, go_sem, r0, r1, r2, r3, r4, r5, r6]) rfl ?_
  exact ⟨rfl, Below.st7 HB1.out (Nat.le_refl _) _ _ _ _ _ _ _⟩
set_option maxRecDepth 100000 in
set_option maxHeartbeats 4000000 in
theorem qtoken_sign (S : ByteArray) (p x : Nat) (w : World) (hb : bt S p = some x) (hl : letB x = false) (hm : mkB x = true) (T : ByteArray) (hT : T = nb [x]) (hS : S.size ≤ 9007199254740992) :
    Calls Tryd.prog 24 #[.string S, .int .i64 (p : Int)] w fun e w' => e = .returned (q3 5 T 0 0 0 0 (p : Int) ((p : Int) + 1) 0) ∧ Below w.heap.size w w' := by
  have hxl := (bt_lt hb).2
  obtain ⟨hp, hxx⟩ := bt_at hb
  have hpI : (p : Int) < (S.size : Int) := by omega
  have hpI2 : (p : Int) ≤ (S.size : Int) := by omega
  obtain ⟨W, hW⟩ : ∃ W, W = w.alloc (.cells #[.int .i64 0, .string { data := #[] }, .int .u64 0, .int .u64 0, .int .u64 0, .int .u64 0, .int .i64 0] 38) := ⟨_, rfl⟩
  have HB1 : Hid (Below w.heap.size w W) := by show Below _ _ _; rw [hW]; exact (Below.refl _ _).alloc (Nat.le_refl _) _
  have HT0 : Hid (Tk W w.heap.size 0 { data := #[] } 0 0 0 0 0) := by show Tk _ _ _ _ _ _ _ _ _; rw [hW]; exact Tk.new w 0 { data := #[] } 0 0 0 0 0
  obtain ⟨n, hn⟩ : ∃ n, n = rl S p := ⟨_, rfl⟩
  have HLt : Hid (∀ w : World, Calls Tryd.prog 28 #[.string S, .int .i64 (p : Int)] w fun e w' => e = .returned (.int .i64 (n : Int)) ∧ w' = w) := fun w => by rw [hn]; exact qletters_any S p w (by omega) hS
  obtain ⟨B, hB⟩ : ∃ B, B = mkB x := ⟨_, rfl⟩
  have HSg : Hid (∀ w : World, Calls Tryd.prog 38 #[.int .u8 (x : Int)] w fun e w' => e = .returned (.bool B) ∧ w' = w) := fun w => by rw [hB]; exact qsigns_any x w
  have hrl : rl S p = 0 := by unfold rl; rw [hb]; simp [hl]
  have n0 : (n : Int) = 0 := by omega
  have hT2 : S.extract p (p + 1) = T := by rw [ext_one hb, hT]
  obtain ⟨E, hE⟩ : ∃ E, E = p + 1 := ⟨_, rfl⟩
  rw [← hE] at hT2
  have hc : (p : Int) + 1 = (E : Int) := by omega
  have hE1 : (p : Int) ≤ (E : Int) := by omega
  have hE2 : (E : Int) ≤ (S.size : Int) := by omega
  have hBt : B = true := by rw [hB, hm]
  rw [hBt] at HSg
  rw [hc]
  clear hb hl hm hrl hn hB hE hT hBt
  go_enter Tryd.func24, Tryd.ntmps24
  go_wp2_with fail
  rw [← hW]
  clear hW
  refine (HLt.out _).mono ?_
  rintro e w0 ⟨rfl, rfl⟩
  go_wp2_with fail
  refine (HSg.out _).mono ?_
  rintro e w1 ⟨rfl, rfl⟩
  obtain ⟨c0, c1, c2, c3, c4, c5, c6⟩ := HT0.out.cells
  obtain ⟨f0, f1, f2, f3, f4, f5, f6⟩ := HT0.out.thaw
  go_wp2_with fail
  obtain ⟨r0, r1, r2, r3, r4, r5, r6⟩ := (HT0.out.st7 5 T 0 0 0 0 (p : Int)).cells
  unfold st7 at r0 r1 r2 r3 r4 r5 r6
  (try simp only [Exit.inBlock, Exit.then])
  refine bodyPost_ret (v := q3 5 T 0 0 0 0 (p : Int) (E : Int) 0) (by simp [results, Tryd.results24, go_sem, r0, r1, r2, r3, r4, r5, r6]) rfl ?_
  exact ⟨rfl, Below.st7 HB1.out (Nat.le_refl _) _ _ _ _ _ _ _⟩
set_option maxRecDepth 100000 in
set_option maxHeartbeats 4000000 in
theorem qtoken_arrow (S : ByteArray) (p x : Nat) (w : World) (hb : bt S p = some x) (ha : arB S p = true) (hS : S.size ≤ 9007199254740992) :
    Calls Tryd.prog 24 #[.string S, .int .i64 (p : Int)] w fun e w' => e = .returned (q3 2 { data := #[] } 0 0 0 0 (p : Int) ((p : Int) + 2) 0) ∧ Below w.heap.size w w' := by
  have hxl := (bt_lt hb).2
  obtain ⟨hp, hxx⟩ := bt_at hb
  have hpI : (p : Int) < (S.size : Int) := by omega
  have hpI2 : (p : Int) ≤ (S.size : Int) := by omega
  obtain ⟨W, hW⟩ : ∃ W, W = w.alloc (.cells #[.int .i64 0, .string { data := #[] }, .int .u64 0, .int .u64 0, .int .u64 0, .int .u64 0, .int .i64 0] 38) := ⟨_, rfl⟩
  have HB1 : Hid (Below w.heap.size w W) := by show Below _ _ _; rw [hW]; exact (Below.refl _ _).alloc (Nat.le_refl _) _
  have HT0 : Hid (Tk W w.heap.size 0 { data := #[] } 0 0 0 0 0) := by show Tk _ _ _ _ _ _ _ _ _; rw [hW]; exact Tk.new w 0 { data := #[] } 0 0 0 0 0
  obtain ⟨n, hn⟩ : ∃ n, n = rl S p := ⟨_, rfl⟩
  have HLt : Hid (∀ w : World, Calls Tryd.prog 28 #[.string S, .int .i64 (p : Int)] w fun e w' => e = .returned (.int .i64 (n : Int)) ∧ w' = w) := fun w => by rw [hn]; exact qletters_any S p w (by omega) hS
  obtain ⟨B, hB⟩ : ∃ B, B = mkB x := ⟨_, rfl⟩
  have HSg : Hid (∀ w : World, Calls Tryd.prog 38 #[.int .u8 (x : Int)] w fun e w' => e = .returned (.bool B) ∧ w' = w) := fun w => by rw [hB]; exact qsigns_any x w
  have hx : x = 60 := by unfold arB at ha; rw [hb] at ha; simp at ha; exact ha.1
  have hl : letB x = false := by rw [hx]; rfl
  have hm : mkB x = false := by rw [hx]; rfl
  have hb2 : bt S (p + 1) = some 45 := by unfold arB at ha; simp at ha; exact ha.2
  obtain ⟨E, hE⟩ : ∃ E, E = p + 1 := ⟨_, rfl⟩
  rw [← hE] at hb2
  obtain ⟨hEk, hEx⟩ := bt_at hb2
  have hc : (p : Int) + 1 = (E : Int) := by omega
  have hE2 : (E : Int) < (S.size : Int) := by omega
  have e0 : decide ((E : Int) < (S.size : Int)) = true := by simp; omega
  have hrl : rl S p = 0 := by unfold rl; rw [hb]; simp [hl]
  have n0 : (n : Int) = 0 := by omega
  have hBt : B = false := by rw [hB, hm]
  rw [hBt] at HSg
  have t60 : ((x : Int) == 60) = true := by simp; omega
  clear hb hl hm hrl hn hB hE hBt ha hx hb2
  go_enter Tryd.func24, Tryd.ntmps24
  go_wp2_with fail
  rw [← hW]
  clear hW
  refine (HLt.out _).mono ?_
  rintro e w0 ⟨rfl, rfl⟩
  go_wp2_with fail
  refine (HSg.out _).mono ?_
  rintro e w1 ⟨rfl, rfl⟩
  obtain ⟨c0, c1, c2, c3, c4, c5, c6⟩ := HT0.out.cells
  obtain ⟨f0, f1, f2, f3, f4, f5, f6⟩ := HT0.out.thaw
  go_wp2_with fail
  obtain ⟨r0, r1, r2, r3, r4, r5, r6⟩ := (HT0.out.st7 2 { data := #[] } 0 0 0 0 (p : Int)).cells
  unfold st7 at r0 r1 r2 r3 r4 r5 r6
  (try simp only [Exit.inBlock, Exit.then])
  refine bodyPost_ret (v := q3 2 { data := #[] } 0 0 0 0 (p : Int) ((p : Int) + 2) 0) (by simp [results, Tryd.results24, go_sem, r0, r1, r2, r3, r4, r5, r6]) rfl ?_
  exact ⟨rfl, Below.st7 HB1.out (Nat.le_refl _) _ _ _ _ _ _ _⟩
set_option maxRecDepth 100000 in
set_option maxHeartbeats 4000000 in
theorem qtoken_bad1 (S : ByteArray) (p x : Nat) (w : World) (hb : bt S p = some x) (hl : letB x = false) (hq : x ≠ 39 ∧ x ≠ 34 ∧ x ≠ 91) (hm : mkB x = false) (h60 : x ≠ 60) (hS : S.size ≤ 9007199254740992) :
    Calls Tryd.prog 24 #[.string S, .int .i64 (p : Int)] w fun e w' => e = .returned (q3 0 { data := #[] } 0 0 0 0 0 (p : Int) 4) ∧ Below w.heap.size w w' := by
  have hxl := (bt_lt hb).2
  obtain ⟨hp, hxx⟩ := bt_at hb
  have hpI : (p : Int) < (S.size : Int) := by omega
  have hpI2 : (p : Int) ≤ (S.size : Int) := by omega
  obtain ⟨W, hW⟩ : ∃ W, W = w.alloc (.cells #[.int .i64 0, .string { data := #[] }, .int .u64 0, .int .u64 0, .int .u64 0, .int .u64 0, .int .i64 0] 38) := ⟨_, rfl⟩
  have HB1 : Hid (Below w.heap.size w W) := by show Below _ _ _; rw [hW]; exact (Below.refl _ _).alloc (Nat.le_refl _) _
  have HT0 : Hid (Tk W w.heap.size 0 { data := #[] } 0 0 0 0 0) := by show Tk _ _ _ _ _ _ _ _ _; rw [hW]; exact Tk.new w 0 { data := #[] } 0 0 0 0 0
  obtain ⟨n, hn⟩ : ∃ n, n = rl S p := ⟨_, rfl⟩
  have HLt : Hid (∀ w : World, Calls Tryd.prog 28 #[.string S, .int .i64 (p : Int)] w fun e w' => e = .returned (.int .i64 (n : Int)) ∧ w' = w) := fun w => by rw [hn]; exact qletters_any S p w (by omega) hS
  obtain ⟨B, hB⟩ : ∃ B, B = mkB x := ⟨_, rfl⟩
  have HSg : Hid (∀ w : World, Calls Tryd.prog 38 #[.int .u8 (x : Int)] w fun e w' => e = .returned (.bool B) ∧ w' = w) := fun w => by rw [hB]; exact qsigns_any x w
  have hrl : rl S p = 0 := by unfold rl; rw [hb]; simp [hl]
  have n0 : (n : Int) = 0 := by omega
  have hBt : B = false := by rw [hB, hm]
  rw [hBt] at HSg
  have t39 : ((x : Int) == 39) = false := by simp; omega
  have t34 : ((x : Int) == 34) = false := by simp; omega
  have t91 : ((x : Int) == 91) = false := by simp; omega
  have t60 : ((x : Int) == 60) = false := by simp; omega
  clear hb hl hm hrl hn hB hBt hq h60
  go_enter Tryd.func24, Tryd.ntmps24
  go_wp2_with fail
  rw [← hW]
  clear hW
  refine (HLt.out _).mono ?_
  rintro e w0 ⟨rfl, rfl⟩
  go_wp2_with fail
  refine (HSg.out _).mono ?_
  rintro e w1 ⟨rfl, rfl⟩
  obtain ⟨c0, c1, c2, c3, c4, c5, c6⟩ := HT0.out.cells
  obtain ⟨f0, f1, f2, f3, f4, f5, f6⟩ := HT0.out.thaw
  go_wp2_with fail
  obtain ⟨r0, r1, r2, r3, r4, r5, r6⟩ := (HT0.out.st7 0 { data := #[] } 0 0 0 0 0).cells
  unfold st7 at r0 r1 r2 r3 r4 r5 r6
  (try simp only [Exit.inBlock, Exit.then])
  refine bodyPost_ret (v := q3 0 { data := #[] } 0 0 0 0 0 (p : Int) 4) (by simp [results, Tryd.results24, go_sem, r0, r1, r2, r3, r4, r5, r6]) rfl ?_
  exact ⟨rfl, Below.st7 HB1.out (Nat.le_refl _) _ _ _ _ _ _ _⟩
set_option maxRecDepth 100000 in
set_option maxHeartbeats 4000000 in
theorem qtoken_bad2 (S : ByteArray) (p x : Nat) (w : World) (hb : bt S p = some x) (hl : letB x = false) (hq : x ≠ 39 ∧ x ≠ 34 ∧ x ≠ 91) (hm : mkB x = false) (h60 : x = 60) (he : S.size ≤ p + 1) (hS : S.size ≤ 9007199254740992) :
    Calls Tryd.prog 24 #[.string S, .int .i64 (p : Int)] w fun e w' => e = .returned (q3 0 { data := #[] } 0 0 0 0 0 (p : Int) 4) ∧ Below w.heap.size w w' := by
  have hxl := (bt_lt hb).2
  obtain ⟨hp, hxx⟩ := bt_at hb
  have hpI : (p : Int) < (S.size : Int) := by omega
  have hpI2 : (p : Int) ≤ (S.size : Int) := by omega
  obtain ⟨W, hW⟩ : ∃ W, W = w.alloc (.cells #[.int .i64 0, .string { data := #[] }, .int .u64 0, .int .u64 0, .int .u64 0, .int .u64 0, .int .i64 0] 38) := ⟨_, rfl⟩
  have HB1 : Hid (Below w.heap.size w W) := by show Below _ _ _; rw [hW]; exact (Below.refl _ _).alloc (Nat.le_refl _) _
  have HT0 : Hid (Tk W w.heap.size 0 { data := #[] } 0 0 0 0 0) := by show Tk _ _ _ _ _ _ _ _ _; rw [hW]; exact Tk.new w 0 { data := #[] } 0 0 0 0 0
  obtain ⟨n, hn⟩ : ∃ n, n = rl S p := ⟨_, rfl⟩
  have HLt : Hid (∀ w : World, Calls Tryd.prog 28 #[.string S, .int .i64 (p : Int)] w fun e w' => e = .returned (.int .i64 (n : Int)) ∧ w' = w) := fun w => by rw [hn]; exact qletters_any S p w (by omega) hS
  obtain ⟨B, hB⟩ : ∃ B, B = mkB x := ⟨_, rfl⟩
  have HSg : Hid (∀ w : World, Calls Tryd.prog 38 #[.int .u8 (x : Int)] w fun e w' => e = .returned (.bool B) ∧ w' = w) := fun w => by rw [hB]; exact qsigns_any x w
  have hrl : rl S p = 0 := by unfold rl; rw [hb]; simp [hl]
  have n0 : (n : Int) = 0 := by omega
  have hBt : B = false := by rw [hB, hm]
  rw [hBt] at HSg
  have t39 : ((x : Int) == 39) = false := by simp; omega
  have t34 : ((x : Int) == 34) = false := by simp; omega
  have t91 : ((x : Int) == 91) = false := by simp; omega
  have t60 : ((x : Int) == 60) = true := by simp; omega
  obtain ⟨E, hE⟩ : ∃ E, E = p + 1 := ⟨_, rfl⟩
  have hc : (p : Int) + 1 = (E : Int) := by omega
  have e0 : decide ((E : Int) < (S.size : Int)) = false := by simp; omega
  have e1 : S.size ≤ E := by omega
  clear hb hl hm hrl hn hB hBt hq h60 hE he
  go_enter Tryd.func24, Tryd.ntmps24
  go_wp2_with fail
  rw [← hW]
  clear hW
  refine (HLt.out _).mono ?_
  rintro e w0 ⟨rfl, rfl⟩
  go_wp2_with fail
  refine (HSg.out _).mono ?_
  rintro e w1 ⟨rfl, rfl⟩
  obtain ⟨c0, c1, c2, c3, c4, c5, c6⟩ := HT0.out.cells
  obtain ⟨f0, f1, f2, f3, f4, f5, f6⟩ := HT0.out.thaw
  go_wp2_with fail
  obtain ⟨r0, r1, r2, r3, r4, r5, r6⟩ := (HT0.out.st7 0 { data := #[] } 0 0 0 0 0).cells
  unfold st7 at r0 r1 r2 r3 r4 r5 r6
  (try simp only [Exit.inBlock, Exit.then])
  refine bodyPost_ret (v := q3 0 { data := #[] } 0 0 0 0 0 (p : Int) 4) (by simp [results, Tryd.results24, go_sem, r0, r1, r2, r3, r4, r5, r6]) rfl ?_
  exact ⟨rfl, Below.st7 HB1.out (Nat.le_refl _) _ _ _ _ _ _ _⟩
set_option maxRecDepth 100000 in
set_option maxHeartbeats 4000000 in
theorem qtoken_bad3 (S : ByteArray) (p x : Nat) (w : World) (hb : bt S p = some x) (hl : letB x = false) (hq : x ≠ 39 ∧ x ≠ 34 ∧ x ≠ 91) (hm : mkB x = false) (h60 : x = 60) (y : Nat) (hb2 : bt S (p + 1) = some y) (hy : y ≠ 45) (hS : S.size ≤ 9007199254740992) :
    Calls Tryd.prog 24 #[.string S, .int .i64 (p : Int)] w fun e w' => e = .returned (q3 0 { data := #[] } 0 0 0 0 0 (p : Int) 4) ∧ Below w.heap.size w w' := by
  have hxl := (bt_lt hb).2
  obtain ⟨hp, hxx⟩ := bt_at hb
  have hpI : (p : Int) < (S.size : Int) := by omega
  have hpI2 : (p : Int) ≤ (S.size : Int) := by omega
  obtain ⟨W, hW⟩ : ∃ W, W = w.alloc (.cells #[.int .i64 0, .string { data := #[] }, .int .u64 0, .int .u64 0, .int .u64 0, .int .u64 0, .int .i64 0] 38) := ⟨_, rfl⟩
  have HB1 : Hid (Below w.heap.size w W) := by show Below _ _ _; rw [hW]; exact (Below.refl _ _).alloc (Nat.le_refl _) _
  have HT0 : Hid (Tk W w.heap.size 0 { data := #[] } 0 0 0 0 0) := by show Tk _ _ _ _ _ _ _ _ _; rw [hW]; exact Tk.new w 0 { data := #[] } 0 0 0 0 0
  obtain ⟨n, hn⟩ : ∃ n, n = rl S p := ⟨_, rfl⟩
  have HLt : Hid (∀ w : World, Calls Tryd.prog 28 #[.string S, .int .i64 (p : Int)] w fun e w' => e = .returned (.int .i64 (n : Int)) ∧ w' = w) := fun w => by rw [hn]; exact qletters_any S p w (by omega) hS
  obtain ⟨B, hB⟩ : ∃ B, B = mkB x := ⟨_, rfl⟩
  have HSg : Hid (∀ w : World, Calls Tryd.prog 38 #[.int .u8 (x : Int)] w fun e w' => e = .returned (.bool B) ∧ w' = w) := fun w => by rw [hB]; exact qsigns_any x w
  have hrl : rl S p = 0 := by unfold rl; rw [hb]; simp [hl]
  have n0 : (n : Int) = 0 := by omega
  have hBt : B = false := by rw [hB, hm]
  rw [hBt] at HSg
  have t39 : ((x : Int) == 39) = false := by simp; omega
  have t34 : ((x : Int) == 34) = false := by simp; omega
  have t91 : ((x : Int) == 91) = false := by simp; omega
  have t60 : ((x : Int) == 60) = true := by simp; omega
  obtain ⟨E, hE⟩ : ∃ E, E = p + 1 := ⟨_, rfl⟩
  rw [← hE] at hb2
  obtain ⟨hEk, hEx⟩ := bt_at hb2
  have hc : (p : Int) + 1 = (E : Int) := by omega
  have hE2 : (E : Int) < (S.size : Int) := by omega
  have e0 : decide ((E : Int) < (S.size : Int)) = true := by simp; omega
  have t45 : ((y : Int) == 45) = false := by simp; omega
  clear hb hl hm hrl hn hB hBt hq h60 hE hb2 hy
  go_enter Tryd.func24, Tryd.ntmps24
  go_wp2_with fail
  rw [← hW]
  clear hW
  refine (HLt.out _).mono ?_
  rintro e w0 ⟨rfl, rfl⟩
  go_wp2_with fail
  refine (HSg.out _).mono ?_
  rintro e w1 ⟨rfl, rfl⟩
  obtain ⟨c0, c1, c2, c3, c4, c5, c6⟩ := HT0.out.cells
  obtain ⟨f0, f1, f2, f3, f4, f5, f6⟩ := HT0.out.thaw
  go_wp2_with fail
  obtain ⟨r0, r1, r2, r3, r4, r5, r6⟩ := (HT0.out.st7 0 { data := #[] } 0 0 0 0 0).cells
  unfold st7 at r0 r1 r2 r3 r4 r5 r6
  (try simp only [Exit.inBlock, Exit.then])
  refine bodyPost_ret (v := q3 0 { data := #[] } 0 0 0 0 0 (p : Int) 4) (by simp [results, Tryd.results24, go_sem, r0, r1, r2, r3, r4, r5, r6]) rfl ?_
  exact ⟨rfl, Below.st7 HB1.out (Nat.le_refl _) _ _ _ _ _ _ _⟩
set_option maxRecDepth 100000 in
set_option maxHeartbeats 4000000 in
theorem qtoken_litbad (S : ByteArray) (p x : Nat) (w : World) (hb : bt S p = some x) (hq : x = 39 ∨ x = 34) (c : Nat × Nat) (hll : ll S x p (p + 1) [] = .inl c) (hS : S.size ≤ 9007199254740992) :
    Calls Tryd.prog 24 #[.string S, .int .i64 (p : Int)] w fun e w' => e = .returned (q3 0 { data := #[] } 0 0 0 0 0 (c.2 : Int) (c.1 : Int)) ∧ Below w.heap.size w w' := by
  have hxl := (bt_lt hb).2
  obtain ⟨hp, hxx⟩ := bt_at hb
  have hpI : (p : Int) < (S.size : Int) := by omega
  have hpI2 : (p : Int) ≤ (S.size : Int) := by omega
  obtain ⟨W, hW⟩ : ∃ W, W = w.alloc (.cells #[.int .i64 0, .string { data := #[] }, .int .u64 0, .int .u64 0, .int .u64 0, .int .u64 0, .int .i64 0] 38) := ⟨_, rfl⟩
  have HB1 : Hid (Below w.heap.size w W) := by show Below _ _ _; rw [hW]; exact (Below.refl _ _).alloc (Nat.le_refl _) _
  have HT0 : Hid (Tk W w.heap.size 0 { data := #[] } 0 0 0 0 0) := by show Tk _ _ _ _ _ _ _ _ _; rw [hW]; exact Tk.new w 0 { data := #[] } 0 0 0 0 0
  obtain ⟨n, hn⟩ : ∃ n, n = rl S p := ⟨_, rfl⟩
  have HLt : Hid (∀ w : World, Calls Tryd.prog 28 #[.string S, .int .i64 (p : Int)] w fun e w' => e = .returned (.int .i64 (n : Int)) ∧ w' = w) := fun w => by rw [hn]; exact qletters_any S p w (by omega) hS
  obtain ⟨B, hB⟩ : ∃ B, B = mkB x := ⟨_, rfl⟩
  have HSg : Hid (∀ w : World, Calls Tryd.prog 38 #[.int .u8 (x : Int)] w fun e w' => e = .returned (.bool B) ∧ w' = w) := fun w => by rw [hB]; exact qsigns_any x w
  have hl : letB x = false := by rcases hq with h | h <;> (rw [h]; rfl)
  have hm : mkB x = false := by rcases hq with h | h <;> (rw [h]; rfl)
  have hrl : rl S p = 0 := by unfold rl; rw [hb]; simp [hl]
  have n0 : (n : Int) = 0 := by omega
  have hBt : B = false := by rw [hB, hm]
  rw [hBt] at HSg
  have t60 : ((x : Int) == 60) = false := by simp; omega
  have HQ : Hid (∀ w : World, Calls Tryd.prog 39 #[.string S, .int .i64 (p : Int)] w fun e w' => e = .returned (r3s (ll S x p (p + 1) [])) ∧ Below w.heap.size w w') := fun w => qliteral_any S x p w hb hS
  rw [hll] at HQ
  have hc0 : (((c.1 : Nat) : Int) != 0) = true := by
    have := ll_wrong hll
    rw [bne_iff_ne]
    rcases this with h | h
    · have := h.1; omega
    · rw [h]; simp
  clear hb hl hm hrl hn hB hBt hll
  rcases hq with h | h
  · have t39 : ((x : Int) == 39) = true := by simp; omega
    clear h
    go_enter Tryd.func24, Tryd.ntmps24
    go_wp2_with fail
    rw [← hW]
    clear hW
    refine (HLt.out _).mono ?_
    rintro e w0 ⟨rfl, rfl⟩
    go_wp2_with fail
    refine (HSg.out _).mono ?_
    rintro e w1 ⟨rfl, rfl⟩
    go_wp2_with fail
    refine (HQ.out _).mono ?_
    rintro e w2 ⟨rfl, hb2⟩
    have HB2 : Hid (Below w.heap.size w w2) := HB1.out.trans (hb2.mono HB1.out.size)
    have HT2 : Hid (Tk w2 w.heap.size 0 { data := #[] } 0 0 0 0 0) := HT0.out.below hb2 HT0.out.lt
    clear hb2
    (try unfold r3s)
    obtain ⟨c0, c1, c2, c3, c4, c5, c6⟩ := HT2.out.cells
    obtain ⟨f0, f1, f2, f3, f4, f5, f6⟩ := HT2.out.thaw
    go_wp2_with fail
    obtain ⟨r0, r1, r2, r3, r4, r5, r6⟩ := (HT2.out.st7 0 { data := #[] } 0 0 0 0 0).cells
    unfold st7 at r0 r1 r2 r3 r4 r5 r6
    (try simp only [Exit.inBlock, Exit.then])
    refine bodyPost_ret (v := q3 0 { data := #[] } 0 0 0 0 0 (c.2 : Int) (c.1 : Int)) (by simp [results, Tryd.results24, go_sem, r0, r1, r2, r3, r4, r5, r6]) rfl ?_
    exact ⟨rfl, Below.st7 HB2.out (Nat.le_refl _) _ _ _ _ _ _ _⟩
  · have t39 : ((x : Int) == 39) = false := by simp; omega
    have t34 : ((x : Int) == 34) = true := by simp; omega
    clear h
    go_enter Tryd.func24, Tryd.ntmps24
    go_wp2_with fail
    rw [← hW]
    clear hW
    refine (HLt.out _).mono ?_
    rintro e w0 ⟨rfl, rfl⟩
    go_wp2_with fail
    refine (HSg.out _).mono ?_
    rintro e w1 ⟨rfl, rfl⟩
    go_wp2_with fail
    refine (HQ.out _).mono ?_
    rintro e w2 ⟨rfl, hb2⟩
    have HB2 : Hid (Below w.heap.size w w2) := HB1.out.trans (hb2.mono HB1.out.size)
    have HT2 : Hid (Tk w2 w.heap.size 0 { data := #[] } 0 0 0 0 0) := HT0.out.below hb2 HT0.out.lt
    clear hb2
    (try unfold r3s)
    obtain ⟨c0, c1, c2, c3, c4, c5, c6⟩ := HT2.out.cells
    obtain ⟨f0, f1, f2, f3, f4, f5, f6⟩ := HT2.out.thaw
    go_wp2_with fail
    obtain ⟨r0, r1, r2, r3, r4, r5, r6⟩ := (HT2.out.st7 0 { data := #[] } 0 0 0 0 0).cells
    unfold st7 at r0 r1 r2 r3 r4 r5 r6
    (try simp only [Exit.inBlock, Exit.then])
    refine bodyPost_ret (v := q3 0 { data := #[] } 0 0 0 0 0 (c.2 : Int) (c.1 : Int)) (by simp [results, Tryd.results24, go_sem, r0, r1, r2, r3, r4, r5, r6]) rfl ?_
    exact ⟨rfl, Below.st7 HB2.out (Nat.le_refl _) _ _ _ _ _ _ _⟩
set_option maxRecDepth 100000 in
set_option maxHeartbeats 4000000 in
theorem qtoken_lit (S : ByteArray) (p x : Nat) (w : World) (hb : bt S p = some x) (hq : x = 39 ∨ x = 34) (l : List Nat) (m : Nat) (T : ByteArray) (hT : T = nb l) (hll : ll S x p (p + 1) [] = .inr (l, m)) (hS : S.size ≤ 9007199254740992) :
    Calls Tryd.prog 24 #[.string S, .int .i64 (p : Int)] w fun e w' => e = .returned (q3 3 T 0 0 0 0 (p : Int) (m : Int) 0) ∧ Below w.heap.size w w' := by
  have hxl := (bt_lt hb).2
  obtain ⟨hp, hxx⟩ := bt_at hb
  have hpI : (p : Int) < (S.size : Int) := by omega
  have hpI2 : (p : Int) ≤ (S.size : Int) := by omega
  obtain ⟨W, hW⟩ : ∃ W, W = w.alloc (.cells #[.int .i64 0, .string { data := #[] }, .int .u64 0, .int .u64 0, .int .u64 0, .int .u64 0, .int .i64 0] 38) := ⟨_, rfl⟩
  have HB1 : Hid (Below w.heap.size w W) := by show Below _ _ _; rw [hW]; exact (Below.refl _ _).alloc (Nat.le_refl _) _
  have HT0 : Hid (Tk W w.heap.size 0 { data := #[] } 0 0 0 0 0) := by show Tk _ _ _ _ _ _ _ _ _; rw [hW]; exact Tk.new w 0 { data := #[] } 0 0 0 0 0
  obtain ⟨n, hn⟩ : ∃ n, n = rl S p := ⟨_, rfl⟩
  have HLt : Hid (∀ w : World, Calls Tryd.prog 28 #[.string S, .int .i64 (p : Int)] w fun e w' => e = .returned (.int .i64 (n : Int)) ∧ w' = w) := fun w => by rw [hn]; exact qletters_any S p w (by omega) hS
  obtain ⟨B, hB⟩ : ∃ B, B = mkB x := ⟨_, rfl⟩
  have HSg : Hid (∀ w : World, Calls Tryd.prog 38 #[.int .u8 (x : Int)] w fun e w' => e = .returned (.bool B) ∧ w' = w) := fun w => by rw [hB]; exact qsigns_any x w
  have hl : letB x = false := by rcases hq with h | h <;> (rw [h]; rfl)
  have hm : mkB x = false := by rcases hq with h | h <;> (rw [h]; rfl)
  have hrl : rl S p = 0 := by unfold rl; rw [hb]; simp [hl]
  have n0 : (n : Int) = 0 := by omega
  have hBt : B = false := by rw [hB, hm]
  rw [hBt] at HSg
  have t60 : ((x : Int) == 60) = false := by simp; omega
  have HQ : Hid (∀ w : World, Calls Tryd.prog 39 #[.string S, .int .i64 (p : Int)] w fun e w' => e = .returned (r3s (ll S x p (p + 1) [])) ∧ Below w.heap.size w w') := fun w => qliteral_any S x p w hb hS
  rw [hll] at HQ
  unfold r3s at HQ
  simp only at HQ
  rw [← hT] at HQ
  clear hT
  clear hb hl hm hrl hn hB hBt hll
  rcases hq with h | h
  · have t39 : ((x : Int) == 39) = true := by simp; omega
    clear h
    go_enter Tryd.func24, Tryd.ntmps24
    go_wp2_with fail
    rw [← hW]
    clear hW
    refine (HLt.out _).mono ?_
    rintro e w0 ⟨rfl, rfl⟩
    go_wp2_with fail
    refine (HSg.out _).mono ?_
    rintro e w1 ⟨rfl, rfl⟩
    go_wp2_with fail
    refine (HQ.out _).mono ?_
    rintro e w2 ⟨rfl, hb2⟩
    have HB2 : Hid (Below w.heap.size w w2) := HB1.out.trans (hb2.mono HB1.out.size)
    have HT2 : Hid (Tk w2 w.heap.size 0 { data := #[] } 0 0 0 0 0) := HT0.out.below hb2 HT0.out.lt
    clear hb2
    (try unfold r3s)
    obtain ⟨c0, c1, c2, c3, c4, c5, c6⟩ := HT2.out.cells
    obtain ⟨f0, f1, f2, f3, f4, f5, f6⟩ := HT2.out.thaw
    go_wp2_with fail
    obtain ⟨r0, r1, r2, r3, r4, r5, r6⟩ := (HT2.out.st7 3 T 0 0 0 0 (p : Int)).cells
    unfold st7 at r0 r1 r2 r3 r4 r5 r6
    (try simp only [Exit.inBlock, Exit.then])
    refine bodyPost_ret (v := q3 3 T 0 0 0 0 (p : Int) (m : Int) 0) (by simp [results, Tryd.results24, go_sem, r0, r1, r2, r3, r4, r5, r6]) rfl ?_
    exact ⟨rfl, Below.st7 HB2.out (Nat.le_refl _) _ _ _ _ _ _ _⟩
  · have t39 : ((x : Int) == 39) = false := by simp; omega
    have t34 : ((x : Int) == 34) = true := by simp; omega
    clear h
    go_enter Tryd.func24, Tryd.ntmps24
    go_wp2_with fail
    rw [← hW]
    clear hW
    refine (HLt.out _).mono ?_
    rintro e w0 ⟨rfl, rfl⟩
    go_wp2_with fail
    refine (HSg.out _).mono ?_
    rintro e w1 ⟨rfl, rfl⟩
    go_wp2_with fail
    refine (HQ.out _).mono ?_
    rintro e w2 ⟨rfl, hb2⟩
    have HB2 : Hid (Below w.heap.size w w2) := HB1.out.trans (hb2.mono HB1.out.size)
    have HT2 : Hid (Tk w2 w.heap.size 0 { data := #[] } 0 0 0 0 0) := HT0.out.below hb2 HT0.out.lt
    clear hb2
    (try unfold r3s)
    obtain ⟨c0, c1, c2, c3, c4, c5, c6⟩ := HT2.out.cells
    obtain ⟨f0, f1, f2, f3, f4, f5, f6⟩ := HT2.out.thaw
    go_wp2_with fail
    obtain ⟨r0, r1, r2, r3, r4, r5, r6⟩ := (HT2.out.st7 3 T 0 0 0 0 (p : Int)).cells
    unfold st7 at r0 r1 r2 r3 r4 r5 r6
    (try simp only [Exit.inBlock, Exit.then])
    refine bodyPost_ret (v := q3 3 T 0 0 0 0 (p : Int) (m : Int) 0) (by simp [results, Tryd.results24, go_sem, r0, r1, r2, r3, r4, r5, r6]) rfl ?_
    exact ⟨rfl, Below.st7 HB2.out (Nat.le_refl _) _ _ _ _ _ _ _⟩
set_option maxRecDepth 100000 in
set_option maxHeartbeats 4000000 in
theorem qtoken_cls (S : ByteArray) (p x : Nat) (w : World) (hb : bt S p = some x) (hq : x = 91) (C m : Nat) (hcl : clsP (S.extract p S.size) = .inr (C, m)) (hS : S.size ≤ 9007199254740992) :
    Calls Tryd.prog 24 #[.string S, .int .i64 (p : Int)] w fun e w' => e = .returned (q3 4 { data := #[] } (wd C 0 : Nat) (wd C 1 : Nat) (wd C 2 : Nat) (wd C 3 : Nat) (p : Int) ((p : Int) + (m : Int)) 0) ∧ Below w.heap.size w w' := by
  have hxl := (bt_lt hb).2
  obtain ⟨hp, hxx⟩ := bt_at hb
  have hpI : (p : Int) < (S.size : Int) := by omega
  have hpI2 : (p : Int) ≤ (S.size : Int) := by omega
  obtain ⟨W, hW⟩ : ∃ W, W = w.alloc (.cells #[.int .i64 0, .string { data := #[] }, .int .u64 0, .int .u64 0, .int .u64 0, .int .u64 0, .int .i64 0] 38) := ⟨_, rfl⟩
  have HB1 : Hid (Below w.heap.size w W) := by show Below _ _ _; rw [hW]; exact (Below.refl _ _).alloc (Nat.le_refl _) _
  have HT0 : Hid (Tk W w.heap.size 0 { data := #[] } 0 0 0 0 0) := by show Tk _ _ _ _ _ _ _ _ _; rw [hW]; exact Tk.new w 0 { data := #[] } 0 0 0 0 0
  obtain ⟨n, hn⟩ : ∃ n, n = rl S p := ⟨_, rfl⟩
  have HLt : Hid (∀ w : World, Calls Tryd.prog 28 #[.string S, .int .i64 (p : Int)] w fun e w' => e = .returned (.int .i64 (n : Int)) ∧ w' = w) := fun w => by rw [hn]; exact qletters_any S p w (by omega) hS
  obtain ⟨B, hB⟩ : ∃ B, B = mkB x := ⟨_, rfl⟩
  have HSg : Hid (∀ w : World, Calls Tryd.prog 38 #[.int .u8 (x : Int)] w fun e w' => e = .returned (.bool B) ∧ w' = w) := fun w => by rw [hB]; exact qsigns_any x w
  have hl : letB x = false := by rw [hq]; rfl
  have hm : mkB x = false := by rw [hq]; rfl
  have hrl : rl S p = 0 := by unfold rl; rw [hb]; simp [hl]
  have n0 : (n : Int) = 0 := by omega
  have hBt : B = false := by rw [hB, hm]
  rw [hBt] at HSg
  have t60 : ((x : Int) == 60) = false := by simp; omega
  have t39 : ((x : Int) == 39) = false := by simp; omega
  have t34 : ((x : Int) == 34) = false := by simp; omega
  have t91 : ((x : Int) == 91) = true := by simp; omega
  obtain ⟨T, hT⟩ : ∃ T, T = S.extract p S.size := ⟨_, rfl⟩
  have hTs : T.size ≤ S.size := by rw [hT, ByteArray.size_extract]; omega
  have hT2 : S.extract p S.size = T := hT.symm
  rw [← hT] at hcl
  have HQ : Hid (∀ w : World, Calls Tryd.prog 40 #[.string T] w fun e w' => e = .returned (rA (clsP T)) ∧ Below w.heap.size w w') := fun w => rparse_any T w (by omega)
  rw [hcl] at HQ
  have hm8 := (clsP_ok hcl).2.2
  clear hb hl hm hrl hn hB hBt hcl hq hT
  go_enter Tryd.func24, Tryd.ntmps24
  go_wp2_with fail
  rw [← hW]
  clear hW
  refine (HLt.out _).mono ?_
  rintro e w0 ⟨rfl, rfl⟩
  go_wp2_with fail
  refine (HSg.out _).mono ?_
  rintro e w1 ⟨rfl, rfl⟩
  go_wp2_with fail
  refine (HQ.out _).mono ?_
  rintro e w2 ⟨rfl, hb2⟩
  have HB2 : Hid (Below w.heap.size w w2) := HB1.out.trans (hb2.mono HB1.out.size)
  have HT2 : Hid (Tk (w2.alloc (.cells #[.int .u64 (wd C 0 : Nat), .int .u64 (wd C 1 : Nat), .int .u64 (wd C 2 : Nat), .int .u64 (wd C 3 : Nat)] 36)) w.heap.size 0 { data := #[] } 0 0 0 0 0) := (HT0.out.below hb2 HT0.out.lt).alloc _
  clear hb2
  unfold rA cv
  obtain ⟨c0, c1, c2, c3, c4, c5, c6⟩ := HT2.out.cells
  obtain ⟨f0, f1, f2, f3, f4, f5, f6⟩ := HT2.out.thaw
  go_wp2_with fail
  obtain ⟨r0, r1, r2, r3, r4, r5, r6⟩ := (HT2.out.st7 4 { data := #[] } (wd C 0 : Nat) (wd C 1 : Nat) (wd C 2 : Nat) (wd C 3 : Nat) (p : Int)).cells
  unfold st7 at r0 r1 r2 r3 r4 r5 r6
  (try simp only [Exit.inBlock, Exit.then])
  refine bodyPost_ret (v := q3 4 { data := #[] } (wd C 0 : Nat) (wd C 1 : Nat) (wd C 2 : Nat) (wd C 3 : Nat) (p : Int) ((p : Int) + (m : Int)) 0) (by simp [results, Tryd.results24, go_sem, r0, r1, r2, r3, r4, r5, r6]) rfl ?_
  exact ⟨rfl, Below.st7 (HB2.out.alloc HB2.out.size _) (Nat.le_refl _) _ _ _ _ _ _ _⟩
set_option maxRecDepth 100000 in
set_option maxHeartbeats 4000000 in
theorem qtoken_clsbad (S : ByteArray) (p x : Nat) (w : World) (hb : bt S p = some x) (hq : x = 91) (c : Nat × Nat) (hcl : clsP (S.extract p S.size) = .inl c) (hS : S.size ≤ 9007199254740992) :
    Calls Tryd.prog 24 #[.string S, .int .i64 (p : Int)] w fun e w' => e = .returned (q3 0 { data := #[] } 0 0 0 0 0 ((p : Int) + (c.2 : Int)) (c.1 : Int)) ∧ Below w.heap.size w w' := by
  have hxl := (bt_lt hb).2
  obtain ⟨hp, hxx⟩ := bt_at hb
  have hpI : (p : Int) < (S.size : Int) := by omega
  have hpI2 : (p : Int) ≤ (S.size : Int) := by omega
  obtain ⟨W, hW⟩ : ∃ W, W = w.alloc (.cells #[.int .i64 0, .string { data := #[] }, .int .u64 0, .int .u64 0, .int .u64 0, .int .u64 0, .int .i64 0] 38) := ⟨_, rfl⟩
  have HB1 : Hid (Below w.heap.size w W) := by show Below _ _ _; rw [hW]; exact (Below.refl _ _).alloc (Nat.le_refl _) _
  have HT0 : Hid (Tk W w.heap.size 0 { data := #[] } 0 0 0 0 0) := by show Tk _ _ _ _ _ _ _ _ _; rw [hW]; exact Tk.new w 0 { data := #[] } 0 0 0 0 0
  obtain ⟨n, hn⟩ : ∃ n, n = rl S p := ⟨_, rfl⟩
  have HLt : Hid (∀ w : World, Calls Tryd.prog 28 #[.string S, .int .i64 (p : Int)] w fun e w' => e = .returned (.int .i64 (n : Int)) ∧ w' = w) := fun w => by rw [hn]; exact qletters_any S p w (by omega) hS
  obtain ⟨B, hB⟩ : ∃ B, B = mkB x := ⟨_, rfl⟩
  have HSg : Hid (∀ w : World, Calls Tryd.prog 38 #[.int .u8 (x : Int)] w fun e w' => e = .returned (.bool B) ∧ w' = w) := fun w => by rw [hB]; exact qsigns_any x w
  have hl : letB x = false := by rw [hq]; rfl
  have hm : mkB x = false := by rw [hq]; rfl
  have hrl : rl S p = 0 := by unfold rl; rw [hb]; simp [hl]
  have n0 : (n : Int) = 0 := by omega
  have hBt : B = false := by rw [hB, hm]
  rw [hBt] at HSg
  have t60 : ((x : Int) == 60) = false := by simp; omega
  have t39 : ((x : Int) == 39) = false := by simp; omega
  have t34 : ((x : Int) == 34) = false := by simp; omega
  have t91 : ((x : Int) == 91) = true := by simp; omega
  obtain ⟨T, hT⟩ : ∃ T, T = S.extract p S.size := ⟨_, rfl⟩
  have hTs : T.size ≤ S.size := by rw [hT, ByteArray.size_extract]; omega
  have hT2 : S.extract p S.size = T := hT.symm
  rw [← hT] at hcl
  have HQ : Hid (∀ w : World, Calls Tryd.prog 40 #[.string T] w fun e w' => e = .returned (rA (clsP T)) ∧ Below w.heap.size w w') := fun w => rparse_any T w (by omega)
  rw [hcl] at HQ
  have hm8 := (clsP_wrong hcl).2
  have hc0 : (((c.1 : Nat) : Int) != 0) = true := by have := (clsP_wrong hcl).1; rw [bne_iff_ne]; omega
  clear hb hl hm hrl hn hB hBt hcl hq hT
  go_enter Tryd.func24, Tryd.ntmps24
  go_wp2_with fail
  rw [← hW]
  clear hW
  refine (HLt.out _).mono ?_
  rintro e w0 ⟨rfl, rfl⟩
  go_wp2_with fail
  refine (HSg.out _).mono ?_
  rintro e w1 ⟨rfl, rfl⟩
  go_wp2_with fail
  refine (HQ.out _).mono ?_
  rintro e w2 ⟨rfl, hb2⟩
  have HB2 : Hid (Below w.heap.size w w2) := HB1.out.trans (hb2.mono HB1.out.size)
  have HT2 : Hid (Tk (w2.alloc (.cells #[.int .u64 (wd 0 0 : Nat), .int .u64 (wd 0 1 : Nat), .int .u64 (wd 0 2 : Nat), .int .u64 (wd 0 3 : Nat)] 36)) w.heap.size 0 { data := #[] } 0 0 0 0 0) := (HT0.out.below hb2 HT0.out.lt).alloc _
  clear hb2
  unfold rA cv
  obtain ⟨c0, c1, c2, c3, c4, c5, c6⟩ := HT2.out.cells
  obtain ⟨f0, f1, f2, f3, f4, f5, f6⟩ := HT2.out.thaw
  go_wp2_with fail
  obtain ⟨r0, r1, r2, r3, r4, r5, r6⟩ := (HT2.out.st7 0 { data := #[] } 0 0 0 0 0).cells
  unfold st7 at r0 r1 r2 r3 r4 r5 r6
  (try simp only [Exit.inBlock, Exit.then])
  refine bodyPost_ret (v := q3 0 { data := #[] } 0 0 0 0 0 ((p : Int) + (c.2 : Int)) (c.1 : Int)) (by simp [results, Tryd.results24, go_sem, r0, r1, r2, r3, r4, r5, r6]) rfl ?_
  exact ⟨rfl, Below.st7 (HB2.out.alloc HB2.out.size _) (Nat.le_refl _) _ _ _ _ _ _ _⟩
/-- What a token is handed back as. -/
def q3r (r : (Bool × (Nat × Nat)) ⊕ (Tok × Nat)) (p : Nat) : Value :=
  match r with
  | .inr (t, n) => .tuple #[tkv t, .int .i64 (n : Int), .int .i64 0]
  | .inl b => .tuple #[tv 0 { data := #[] } 0 0 0 0 0, .int .i64 ((wrg p b).2 : Int), .int .i64 ((wrg p b).1 : Int)]
/-- The document's own token, where a byte stands. -/
theorem qtoken_any (S : ByteArray) (p x : Nat) (w : World) (hb : bt S p = some x) (hS : S.size ≤ 9007199254740992) :
    Calls Tryd.prog 24 #[.string S, .int .i64 (p : Int)] w fun e w' => e = .returned (q3r (tokAt S p x) p) ∧ Below w.heap.size w w' := by
  unfold tokAt
  cases hl : letB x with
  | true =>
    simp only [if_true]
    by_cases h32 : 32 < ne S p - p
    · rw [if_pos h32]
      exact qtoken_long S p x w hb hl h32 hS
    · rw [if_neg h32]
      have := qtoken_name S p x w hb hl h32 _ _ rfl rfl hS
      simpa [q3r, tkv, tv, q3, wd_zero] using this
  | false =>
    simp only [Bool.false_eq_true, if_false]
    by_cases hq : x = 39 ∨ x = 34
    · rw [if_pos hq]
      cases hm : ll S x p (p + 1) [] with
      | inl c => exact qtoken_litbad S p x w hb hq c hm hS
      | inr r =>
        obtain ⟨l, m⟩ := r
        have := qtoken_lit S p x w hb hq l m _ rfl hm hS
        simpa [q3r, tkv, tv, q3, wd_zero] using this
    · rw [if_neg hq]
      by_cases hc : x = 91
      · rw [if_pos hc]
        cases hm : clsP (S.extract p S.size) with
        | inl c =>
          have := qtoken_clsbad S p x w hb hc c hm hS
          simpa [q3r, tv, q3, wrg] using this
        | inr r =>
          obtain ⟨C, m⟩ := r
          have := qtoken_cls S p x w hb hc C m hm hS
          simpa [q3r, tkv, tv, q3] using this
      · rw [if_neg hc]
        cases ha : arB S p with
        | true =>
          have := qtoken_arrow S p x w hb ha hS
          simpa [q3r, tkv, tv, q3, wd_zero] using this
        | false =>
          simp only [Bool.false_eq_true, if_false]
          cases hm : mkB x with
          | true =>
            have := qtoken_sign S p x w hb hl hm _ rfl hS
            simpa [q3r, tkv, tv, q3, wd_zero] using this
          | false =>
            simp only [Bool.false_eq_true, if_false]
            have hq2 : x ≠ 39 ∧ x ≠ 34 ∧ x ≠ 91 := by omega
            by_cases h60 : x = 60
            · cases hb2 : bt S (p + 1) with
              | none => exact qtoken_bad2 S p x w hb hl hq2 hm h60 (bt_none hb2) hS
              | some y =>
                refine qtoken_bad3 S p x w hb hl hq2 hm h60 y hb2 (fun e => ?_) hS
                unfold arB at ha
                rw [hb, hb2, h60, e] at ha
                simp at ha
            · exact qtoken_bad1 S p x w hb hl hq2 hm h60 hS
end Go.Proofs.YtbdhgfblkgkekaaDoor
