/-
  What lex.takeClass answers at any text. Conditions: those that each theorem names.
-/
import Derived.Test.YtkofhmmnlapnnaaGreatDoorX7
namespace Go.Proofs.YtkofhmmnlapnnaaGreatDoor
open Go.RowKit
set_option linter.unusedVariables false
/-- Block g holds a classError: it wraps the Fault in block f, and counts from p. -/
def CE (w : World) (g f p : Nat) (c : Nat × Nat) : Prop := w.heap[g]? = some (.cells #[.iface 64 (.pointer (some ⟨f, 0, none⟩)), .int .i64 (p : Int)] 99) ∧ Flt w f c
theorem CE.lt {w : World} {g f p : Nat} {c : Nat × Nat} (h : CE w g f p c) : g < w.heap.size := by
  rcases Nat.lt_or_ge g w.heap.size with h2 | h2
  · exact h2
  · have := h.1; rw [Array.getElem?_eq_none h2] at this; cases this
theorem CE.new {w : World} {f p : Nat} {c : Nat × Nat} (h : Flt w f c) : CE (w.alloc (.cells #[.iface 64 (.pointer (some ⟨f, 0, none⟩)), .int .i64 (p : Int)] 99)) w.heap.size f p c :=
  ⟨heap_alloc_new w _, h.alloc _⟩
theorem CE.st7 {w : World} {g f p a : Nat} {c : Nat × Nat} (h : CE w g f p c) (hg : g ≠ a) (hf : f ≠ a) (kd : Int) (T : ByteArray) (c0 c1 c2 c3 q : Int) : CE (Proofs.YtkofhmmnlapnnaaGreatDoor.st7 w a kd T c0 c1 c2 c3 q) g f p c := by
  refine ⟨?_, h.2.st7 hf _ _ _ _ _ _ _⟩
  rw [Below.heap_setCell _ _ _ _ hg, Below.heap_setCell _ _ _ _ hg, Below.heap_setCell _ _ _ _ hg, Below.heap_setCell _ _ _ _ hg, Below.heap_setCell _ _ _ _ hg, Below.heap_setCell _ _ _ _ hg, Below.heap_setCell _ _ _ _ hg]
  exact h.1
def BadC (p : Nat) (c : Nat × Nat) (w : World) (e : Ending) (w' : World) : Prop := ∃ g f, e = .returned (.tuple #[.agg #[.int .i64 0, .string { data := #[] }, .int .u64 0, .int .u64 0, .int .u64 0, .int .u64 0, .int .i64 0], .int .i64 0, .iface 96 (.pointer (some ⟨g, 0, none⟩))]) ∧ Hid (w.heap.size ≤ g ∧ w.heap.size ≤ f ∧ CE w' g f p c ∧ Below w.heap.size w w')
/-- What takeClass answers. -/
def AnsC (r : Rs) (p : Nat) (w : World) (e : Ending) (w' : World) : Prop :=
  match r with
  | .inr (C, n) => e = .returned (.tuple #[.agg #[.int .i64 4, .string { data := #[] }, .int .u64 (wd C 0 : Nat), .int .u64 (wd C 1 : Nat), .int .u64 (wd C 2 : Nat), .int .u64 (wd C 3 : Nat), .int .i64 (p : Int)], .int .i64 ((p + n : Nat) : Int), .nilIface]) ∧ Below w.heap.size w w'
  | .inl c => BadC p c w e w'
set_option maxRecDepth 100000 in
set_option maxHeartbeats 4000000 in
theorem xtakeClass_any (S : ByteArray) (p : Nat) (w : World) (hp : p ≤ S.size) (hS : S.size ≤ 9007199254740992) :
    Calls Tryz.prog 39 #[.string S, .int .i64 (p : Int)] w fun e w' => AnsC (clsP (S.extract p S.size)) p w e w' := by
  have hpI : (p : Int) ≤ (S.size : Int) := by omega
  obtain ⟨T, hT⟩ : ∃ T, T = S.extract p S.size := ⟨_, rfl⟩
  have hTs : T.size ≤ S.size - p := by rw [hT, ByteArray.size_extract]; omega
  have HC : Hid (∀ w : World, Calls Tryz.prog 55 #[.string T] w fun e w' => Ans (clsP T) w e w') := fun w => parse_all T w (by omega)
  rw [← hT]
  have HTT : Hid (T = S.extract p S.size) := hT
  clear hT
  obtain ⟨W, hW⟩ : ∃ W, W = w.alloc (.cells #[.int .i64 0, .string { data := #[] }, .int .u64 0, .int .u64 0, .int .u64 0, .int .u64 0, .int .i64 0] 32) := ⟨_, rfl⟩
  have HB1 : Hid (Below w.heap.size w W) := by show Below _ _ _; rw [hW]; exact (Below.refl _ _).alloc (Nat.le_refl _) _
  have HT0 : Hid (Tk W w.heap.size 0 { data := #[] } 0 0 0 0 0) := by show Tk _ _ _ _ _ _ _ _ _; rw [hW]; exact Tk.new w 0 { data := #[] } 0 0 0 0 0
  cases hm : clsP T with
  | inl c =>
    rw [hm] at HC
    clear hm
    go_enter Tryz.func39, Tryz.ntmps39
    go_wp2_with fail
    rw [← hW, ← HTT.out]
    clear hW
    refine (HC.out _).mono ?_
    rintro e w1 ⟨f, rfl, HP⟩
    have HB2 : Hid (Below w.heap.size w w1) := HB1.out.trans (HP.out.2.2.mono HB1.out.size)
    have HT1 : Hid (Tk w1 w.heap.size 0 { data := #[] } 0 0 0 0 0) := HT0.out.below HP.out.2.2 HT0.out.lt
    have HF : Hid (Up w w1 f c) := ⟨Nat.le_trans HB1.out.size HP.out.1, fun e => by have h1 := HT0.out.lt; have h2 := HP.out.1; omega, HP.out.2.1⟩
    clear HP
    unfold flv
    rw [cv_zero]
    have HT2 : Hid (Tk ((w1.alloc (.cells #[.int .u64 0, .int .u64 0, .int .u64 0, .int .u64 0] 30)).alloc (.cells #[.iface 64 (.pointer (some ⟨f, 0, none⟩)), .int .i64 (p : Int)] 99)) w.heap.size 0 { data := #[] } 0 0 0 0 0) := (HT1.out.alloc _).alloc _
    obtain ⟨c0, c1, c2, c3, c4, c5, c6⟩ := HT2.out.cells
    obtain ⟨f0, f1, f2, f3, f4, f5, f6⟩ := HT2.out.thaw
    go_wp2_with fail
    obtain ⟨r0, r1, r2, r3, r4, r5, r6⟩ := (HT2.out.st7 0 { data := #[] } 0 0 0 0 0).cells
    unfold st7 at r0 r1 r2 r3 r4 r5 r6
    (try simp only [Exit.inBlock, Exit.then])
    refine bodyPost_ret (v := .tuple #[.agg #[.int .i64 0, .string { data := #[] }, .int .u64 0, .int .u64 0, .int .u64 0, .int .u64 0, .int .i64 0], .int .i64 0, .iface 96 (.pointer (some ⟨w1.heap.size + 1, 0, none⟩))]) (by simp [results, Tryz.results39, go_sem, r0, r1, r2, r3, r4, r5, r6]) rfl ?_
    have hsz : (w1.alloc (.cells #[.int .u64 0, .int .u64 0, .int .u64 0, .int .u64 0] 30)).heap.size = w1.heap.size + 1 := by simp
    have hB3 := HB2.out.alloc HB2.out.size (.cells #[.int .u64 0, .int .u64 0, .int .u64 0, .int .u64 0] 30)
    have hlt := HT1.out.lt
    have hce := CE.new (p := p) (HF.out.2.2.alloc (.cells #[.int .u64 0, .int .u64 0, .int .u64 0, .int .u64 0] 30))
    rw [hsz] at hce
    exact ⟨w1.heap.size + 1, f, rfl, by have := HB2.out.size; omega, HF.out.1, hce.st7 (by omega) HF.out.2.1 _ _ _ _ _ _ _, Below.st7 (hB3.alloc hB3.size _) (Nat.le_refl _) _ _ _ _ _ _ _⟩
  | inr r =>
    obtain ⟨C, n⟩ := r
    have hok := clsP_ok hm
    rw [hm] at HC
    have hn : n ≤ T.size := hok.2.2
    have b1 : (p : Int) + (n : Int) < 9223372036854775808 := by omega
    obtain ⟨x0, h0⟩ : ∃ x, x = ((wd C 0 : Nat) : Int) := ⟨_, rfl⟩
    obtain ⟨x1, h1⟩ : ∃ x, x = ((wd C 1 : Nat) : Int) := ⟨_, rfl⟩
    obtain ⟨x2, h2⟩ : ∃ x, x = ((wd C 2 : Nat) : Int) := ⟨_, rfl⟩
    obtain ⟨x3, h3⟩ : ∃ x, x = ((wd C 3 : Nat) : Int) := ⟨_, rfl⟩
    have HC2 : Hid (∀ w : World, Calls Tryz.prog 55 #[.string T] w fun e w' => e = .returned (.tuple #[.agg #[.int .u64 x0, .int .u64 x1, .int .u64 x2, .int .u64 x3], .int .i64 (n : Int), .nilIface]) ∧ Below w.heap.size w w') := by
      rw [h0, h1, h2, h3]; exact HC
    have HX : Hid (AnsC (.inr (C, n)) p w = fun e w' => e = .returned (.tuple #[.agg #[.int .i64 4, .string { data := #[] }, .int .u64 x0, .int .u64 x1, .int .u64 x2, .int .u64 x3, .int .i64 (p : Int)], .int .i64 ((p : Int) + (n : Int)), .nilIface]) ∧ Below w.heap.size w w') := by
      show _ = _
      rw [h0, h1, h2, h3]
      unfold AnsC
      simp only [Int.natCast_add]
    obtain ⟨QQ, hQQ⟩ : ∃ QQ, QQ = AnsC (.inr (C, n)) p w := ⟨_, rfl⟩
    rw [← hQQ] at HX
    show Calls _ _ _ _ fun e w' => AnsC (.inr (C, n)) p w e w'
    rw [← hQQ]
    clear HC h0 h1 h2 h3 hQQ
    clear hm hok
    go_enter Tryz.func39, Tryz.ntmps39
    go_wp2_with fail
    rw [← hW, ← HTT.out]
    clear hW
    refine (HC2.out _).mono ?_
    rintro e w1 ⟨rfl, hb⟩
    have HB2 : Hid (Below w.heap.size w w1) := HB1.out.trans (hb.mono HB1.out.size)
    have HT1 : Hid (Tk w1 w.heap.size 0 { data := #[] } 0 0 0 0 0) := HT0.out.below hb HT0.out.lt
    clear hb
    have HT2 : Hid (Tk (w1.alloc (.cells #[.int .u64 x0, .int .u64 x1, .int .u64 x2, .int .u64 x3] 30)) w.heap.size 0 { data := #[] } 0 0 0 0 0) := HT1.out.alloc _
    obtain ⟨c0, c1, c2, c3, c4, c5, c6⟩ := HT2.out.cells
    obtain ⟨f0, f1, f2, f3, f4, f5, f6⟩ := HT2.out.thaw
    go_wp2_with fail
    obtain ⟨r0, r1, r2, r3, r4, r5, r6⟩ := (HT2.out.st7 4 { data := #[] } x0 x1 x2 x3 (p : Int)).cells
    unfold st7 at r0 r1 r2 r3 r4 r5 r6
    (try simp only [Exit.inBlock, Exit.then])
    refine bodyPost_ret (v := .tuple #[.agg #[.int .i64 4, .string { data := #[] }, .int .u64 x0, .int .u64 x1, .int .u64 x2, .int .u64 x3, .int .i64 (p : Int)], .int .i64 ((p : Int) + (n : Int)), .nilIface]) (by simp [results, Tryz.results39, go_sem, r0, r1, r2, r3, r4, r5, r6]) rfl ?_
    rw [HX.out]
    exact ⟨rfl, Below.st7 (HB2.out.alloc HB2.out.size _) (Nat.le_refl _) _ _ _ _ _ _ _⟩
end Go.Proofs.YtkofhmmnlapnnaaGreatDoor
