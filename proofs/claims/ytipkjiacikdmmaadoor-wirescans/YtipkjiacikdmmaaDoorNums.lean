/-
  For every int n and any bytes: muntinlaw01.WireNums answers true. Conditions: those that each theorem names.
-/
import Derived.Test.YtipkjiacikdmmaaDoorRTake
import Derived.Test.YtipkjiacikdmmaaDoorLent
import Derived.Test.YtipkjiacikdmmaaDoorOwned
import Derived.Test.YtipkjiacikdmmaaDoorCode
namespace Go.Proofs.YtipkjiacikdmmaaDoor
open Go.RowKit
set_option linter.unusedVariables false

theorem code_errV (c : Nat) (w : World) (h : ErrIs w) : Calls Tryd.prog 15 #[errV c] w fun e w' => e = .returned (.int .i64 (c : Int)) ∧ Below w.heap.size w w' := by
  by_cases h0 : c = 0
  · subst h0
    refine (code_nil w).mono fun e w' ⟨he, hw⟩ => ?_
    subst hw
    exact ⟨he, Below.refl _ _⟩
  · have : errV c = .iface 30 (.int .i64 (c : Int)) := by simp [errV, h0]
    rw [this]
    exact code_errno (c : Int) w h
theorem ob_of_owns {w : World} {base g n cap : Nat} {xs : List Value} (h : w.ownsRow base 5 1 (.slice (some ⟨g, 0, none⟩) n cap) n xs) : OB w g cap := by
  obtain ⟨_, h | ⟨g', c', cur, e, _, hh, _, _, hs, _⟩⟩ := h
  · cases h.1
  · simp at e
    obtain ⟨rfl, rfl⟩ := e
    exact ⟨cur, hh, by omega⟩
theorem ob_of_lent {w : World} {g : Nat} {l : List UInt8} (h : LentIs w g l) : OB w g (l.length + 1) := ⟨_, h, by simp⟩
theorem OB.below {w w' : World} {g c B : Nat} (h : OB w g c) (hb : Below B w w') (hg : g < B) : OB w' g c := let ⟨cur, h1, h2⟩ := h; ⟨cur, (hb.block g hg).trans h1, h2⟩
theorem OB.lt {w : World} {g c : Nat} (h : OB w g c) : g < w.heap.size := by
  obtain ⟨cur, h1, _⟩ := h
  rcases Nat.lt_or_ge g w.heap.size with h2 | h2
  · exact h2
  · rw [Array.getElem?_eq_none h2] at h1; cases h1
theorem rows4_new (w : World) (rs : List (Option Nat × Nat × Nat)) (t : TypeId) (ob : ∀ j (h : j < rs.length) g, rs[j].1 = some g → OB w g rs[j].2.2)
    (fits : ∀ j (h : j < rs.length), rs[j].2.1 ≤ rs[j].2.2 ∧ rs[j].2.2 ≤ 281474976710656 ∧ (rs[j].1 = none → rs[j].2.2 = 0))
    (apart : ∀ i j (h1 : i < rs.length) (h2 : j < rs.length) g, i ≠ j → rs[i].1 = some g → rs[j].1 ≠ some g) : Rows4 (w.alloc (.cells (rs.map rv).toArray t)) w.heap.size 0 rs := by
  refine ⟨fun j hj => ?_, fun j hj g e => (ob j hj g e).below ((Below.refl _ _).alloc (Nat.le_refl _) _) (ob j hj g e).lt, fits, apart, fun j hj e => ?_⟩
  · rw [Nat.zero_add]
    show (match (w.heap.push (Obj.cells (rs.map rv).toArray t))[w.heap.size]? with | some (.cells c _ _) => _ | _ => _) = _
    simp [hj]
  · have := (ob j hj _ e).lt
    omega
theorem Inv.below {w0 w : World} {rs : List (Option Nat × Nat × Nat)} {i B : Nat} (h : Inv w0 w rs i) (hB : B ≤ w0.heap.size) (hg : ∀ j (hj : j < rs.length) g, rs[j].1 = some g → B ≤ g) : Below B w0 w :=
  ⟨h.os, h.tape, h.output, h.size, fun k hk => h.blk k (by omega) (fun j hj e => by have := hg j hj k e; omega)⟩
theorem bs_256 : bs (numB 256) = (ByteArray.mk #[2, 1, 0]) := by decide +kernel

set_option maxRecDepth 100000 in
set_option maxHeartbeats 2000000 in
theorem nums_neg (n : Int) (a : Option Addr) (len cap : Nat) (l : List UInt8) (w : World) (hn : n < 0) (h : Has w a len cap l) (hE : ErrIs w) (hb : len ≤ 140737488355327) :
    Calls Tryd.prog 3 #[.int .i64 n, .slice a len cap] w fun e w' => e = .returned (.bool true) ∧ Below w.heap.size w w' := by
  obtain rfl := h.1
  have HH : Hid (Has w a l.length cap l) := h
  have HE : Hid (ErrIs w) := hE
  have hbI : (l.length : Int) ≤ 140737488355327 := by omega
  clear h hE
  go_enter Tryd.func3, Tryd.ntmps3
  go_wp2_with fail
  refine (lent_any a _ cap l _ HH.out hb).mono ?_
  rintro e w1 ⟨rfl, hl1, hb1⟩
  have HL1 : Hid (LentIs w1 w.heap.size l) := hl1
  have HB1 : Hid (Below w.heap.size w w1) := hb1
  clear hl1 hb1
  go_wp2_with fail
  refine (num_neg n _ hn).mono ?_
  rintro e w2 ⟨rfl, hw⟩
  subst hw
  go_wp2_with fail
  refine (takeNum_any _ _ _ l _ (HL1.out.has (by unfold maxLen; omega))).mono ?_
  rintro e w2 ⟨rfl, hw⟩
  subst hw
  go_wp2_with fail
  refine (rnum_neg n _ hn).mono ?_
  rintro e w2 ⟨rfl, hw⟩
  subst hw
  go_wp2_with fail
  refine (rtake_any _ _ _ l _ (HH.out.below HB1.out)).mono ?_
  rintro e w2 ⟨rfl, hw⟩
  subst hw
  go_wp2_with fail
  refine (kept_any _ a cap l _ HL1.out (HH.out.below HB1.out) hb).mono ?_
  rintro e w2 ⟨rfl, hw⟩
  subst hw
  have kn := run_conv_nil w2 0
  have hrows := rows4_new w2 [(none, 0, 0), (some w.heap.size, l.length, l.length + 1)] 22 (fun j hj g e => by
      match j, hj with
      | 0, _ => simp at e
      | 1, _ => simp at e; subst e; exact ob_of_lent HL1.out)
    (fun j hj => by
      match j, hj with
      | 0, _ => simp
      | 1, _ => simp; omega)
    (fun i j h1 h2 g hij e => by
      match i, h1, j, h2 with
      | 0, _, _, _ => simp at e
      | 1, _, 0, _ => simp
      | 1, _, 1, _ => exact absurd rfl hij)
  have hown := owned_any w2.heap.size 0 2 2 _ _ hrows rfl (by omega)
  have HOw : Hid (Calls _ _ _ _ _) := hown
  clear hrows hown
  go_wp2_with fail
  refine HOw.out.mono ?_
  rintro e w3 ⟨rfl, hinv⟩
  have HB3 : Hid (Below w.heap.size w w3) := (HB1.out.alloc HB1.out.size _).trans (hinv.below (by have := HB1.out.size; simp; omega) (fun j hj g e => by
      match j, hj with
      | 0, _ => simp at e
      | 1, _ => simp at e; subst e; exact Nat.le_refl _))
  clear hinv HOw kn
  have hN := num_pos 256 w3 (by omega)
  rw [show wid 256 = 2 from by decide, show (((256 : Nat)) : Int) = 256 from rfl] at hN
  go_wp2_with fail
  refine hN.mono ?_
  rintro e w4 ⟨rfl, hown4, hb4⟩
  have HB4 : Hid (Below w.heap.size w w4) := HB3.out.trans (hb4.mono HB3.out.size)
  have HF : Hid (Has w4 (some ⟨w3.heap.size, 0, none⟩) (1 + 2) (1 + 2) (numB 256)) := Has.of_row hown4
  clear hown4 hb4 hN
  go_wp2_with fail
  refine (code_errno 1 _ (HE.out.below HB4.out HE.out.lt)).mono ?_
  rintro e w5 ⟨rfl, hb5⟩
  have HB5 : Hid (Below w.heap.size w w5) := HB4.out.trans (hb5.mono HB4.out.size)
  have HF5 : Hid (Has w5 (some ⟨w3.heap.size, 0, none⟩) (1 + 2) (1 + 2) (numB 256)) := HF.out.below hb5
  clear hb5 HF
  go_wp2_with fail
  refine (code_errV _ _ (HE.out.below HB5.out HE.out.lt)).mono ?_
  rintro e w6 ⟨rfl, hb6⟩
  have HB6 : Hid (Below w.heap.size w w6) := HB5.out.trans (hb6.mono HB5.out.size)
  have cvf : (convert 22 9 (.slice (some ⟨w3.heap.size, 0, none⟩) 3 3)).run Tryd.prog w6 = .ok (.string (ByteArray.mk #[2, 1, 0])) w6 := by
    have := (HF5.out.below hb6).conv
    rw [bs_256] at this
    exact this
  clear hb6 HF5
  go_wp2
  go_ret
  exact ⟨rfl, HB6.out⟩

set_option maxRecDepth 100000 in
set_option maxHeartbeats 2000000 in
theorem nums_pos (n : Nat) (a : Option Addr) (len cap : Nat) (l : List UInt8) (w : World) (hn : n ≤ 9223372036854775807) (h : Has w a len cap l) (hE : ErrIs w) (hb : len ≤ 140737488355327) :
    Calls Tryd.prog 3 #[.int .i64 (n : Int), .slice a len cap] w fun e w' => e = .returned (.bool true) ∧ Below w.heap.size w w' := by
  obtain rfl := h.1
  have HH : Hid (Has w a l.length cap l) := h
  have HE : Hid (ErrIs w) := hE
  have hbI : (l.length : Int) ≤ 140737488355327 := by omega
  have hw8 := wid_le n
  clear h hE
  go_enter Tryd.func3, Tryd.ntmps3
  go_wp2_with fail
  refine (lent_any a _ cap l _ HH.out hb).mono ?_
  rintro e w1 ⟨rfl, hl1, hb1⟩
  have HL1 : Hid (LentIs w1 w.heap.size l) := hl1
  have HB1 : Hid (Below w.heap.size w w1) := hb1
  have HLt : Hid (w.heap.size < w1.heap.size) := hl1.lt
  clear hl1 hb1
  go_wp2_with fail
  refine (num_pos n _ hn).mono ?_
  rintro e w2 ⟨rfl, hown2, hb2⟩
  have HL2 : Hid (LentIs w2 w.heap.size l) := HL1.out.below hb2 HLt.out
  have HB2 : Hid (Below w.heap.size w w2) := HB1.out.trans (hb2.mono HB1.out.size)
  have HO2 : Hid (w2.ownsRow w1.heap.size 5 1 (.slice (some ⟨w1.heap.size, 0, none⟩) (1 + wid n) (1 + wid n)) (1 + wid n) ((numB n).map bv)) := hown2
  clear hb2 hown2 HL1 HB1
  go_wp2_with fail
  refine (takeNum_any _ _ _ l _ (HL2.out.has (by unfold maxLen; omega))).mono ?_
  rintro e w3 ⟨rfl, hw⟩
  subst hw
  go_wp2_with fail
  refine (rnum_pos n _ hn).mono ?_
  rintro e w4 ⟨g4, c4, rfl, hg4, hown4, hb4⟩
  have HL4 : Hid (LentIs w4 w.heap.size l) := HL2.out.below hb4 HL2.out.lt
  have HB4 : Hid (Below w.heap.size w w4) := HB2.out.trans (hb4.mono HB2.out.size)
  have HO4 : Hid (w4.ownsRow w1.heap.size 5 1 (.slice (some ⟨w1.heap.size, 0, none⟩) (1 + wid n) (1 + wid n)) (1 + wid n) ((numB n).map bv)) := HO2.out.kept (row := none) ⟨hb4.os, hb4.tape, hb4.output, hb4.size, fun j hj _ => hb4.block j hj⟩ (.inr (by simp [Value.ownBlock]))
  have c1 := (Has.of_row HO4.out).conv
  have c2 := (Has.of_row hown4).conv
  clear hown4 hb4 HL2 HB2 HO2 hg4
  go_wp2_with fail
  refine (rtake_any _ _ _ l _ (HH.out.below HB4.out)).mono ?_
  rintro e w5 ⟨rfl, hw⟩
  subst hw
  go_wp2_with fail
  refine (kept_any _ a cap l _ HL4.out (HH.out.below HB4.out) hb).mono ?_
  rintro e w6 ⟨rfl, hw⟩
  subst hw
  have hrows := rows4_new w6 [(some w1.heap.size, 1 + wid n, 1 + wid n), (some w.heap.size, l.length, l.length + 1)] 22 (fun j hj g e => by
      match j, hj with
      | 0, _ => simp at e; subst e; exact ob_of_owns HO4.out
      | 1, _ => simp at e; subst e; exact ob_of_lent HL4.out)
    (fun j hj => by
      match j, hj with
      | 0, _ => simp; omega
      | 1, _ => simp; omega)
    (fun i j h1 h2 g hij e => by
      have := HLt.out
      match i, h1, j, h2 with
      | 0, _, 0, _ => exact absurd rfl hij
      | 0, _, 1, _ => simp at e ⊢; omega
      | 1, _, 0, _ => simp at e ⊢; omega
      | 1, _, 1, _ => exact absurd rfl hij)
  have hown := owned_any w6.heap.size 0 2 2 _ _ hrows rfl (by omega)
  have HOw : Hid (Calls _ _ _ _ _) := hown
  clear hrows hown
  go_wp2_with fail
  refine HOw.out.mono ?_
  rintro e w7 ⟨rfl, hinv⟩
  have HB7 : Hid (Below w.heap.size w w7) := (HB4.out.alloc HB4.out.size _).trans (hinv.below (by have := HB4.out.size; simp; omega) (fun j hj g e => by
      have := HLt.out
      match j, hj with
      | 0, _ => simp at e; omega
      | 1, _ => simp at e; omega))
  clear hinv HOw c1 c2
  have hN := num_pos 256 w7 (by omega)
  rw [show wid 256 = 2 from by decide, show (((256 : Nat)) : Int) = 256 from rfl] at hN
  go_wp2_with fail
  refine hN.mono ?_
  rintro e w8 ⟨rfl, hown8, hb8⟩
  have HB8 : Hid (Below w.heap.size w w8) := HB7.out.trans (hb8.mono HB7.out.size)
  have HF : Hid (Has w8 (some ⟨w7.heap.size, 0, none⟩) (1 + 2) (1 + 2) (numB 256)) := Has.of_row hown8
  clear hown8 hb8 hN
  go_wp2_with fail
  refine (code_nil _).mono ?_
  rintro e w9 ⟨rfl, hw⟩
  subst hw
  go_wp2_with fail
  refine (code_errV _ _ (HE.out.below HB8.out HE.out.lt)).mono ?_
  rintro e w10 ⟨rfl, hb10⟩
  have HB10 : Hid (Below w.heap.size w w10) := HB8.out.trans (hb10.mono HB8.out.size)
  have cvf : (convert 22 9 (.slice (some ⟨w7.heap.size, 0, none⟩) 3 3)).run Tryd.prog w10 = .ok (.string (ByteArray.mk #[2, 1, 0])) w10 := by
    have := (HF.out.below hb10).conv
    rw [bs_256] at this
    exact this
  clear hb10 HF
  go_wp2
  go_ret
  exact ⟨rfl, HB10.out⟩
end Go.Proofs.YtipkjiacikdmmaaDoor
