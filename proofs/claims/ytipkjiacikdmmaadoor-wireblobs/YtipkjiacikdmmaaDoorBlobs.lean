/-
  For any bytes p and b: muntinlaw01.WireBlobs answers true. Conditions: those that each theorem names.
-/
import Derived.Test.YtipkjiacikdmmaaDoorBlobU
import Derived.Lib.SlBytesConst
namespace Go.Proofs.YtipkjiacikdmmaaDoor
open Go.RowKit
set_option linter.unusedVariables false

theorem bs_ab : bs (blobB [97, 98]) = (ByteArray.mk #[1, 2, 97, 98]) := by decide +kernel

set_option maxRecDepth 100000 in
set_option maxHeartbeats 4000000 in
theorem blobs_walk (a0 : Option Addr) (n0 c0 : Nat) (p : List UInt8) (a1 : Option Addr) (n1 c1 : Nat) (b : List UInt8) (w : World) (h0 : Has w a0 n0 c0 p) (h1 : Has w a1 n1 c1 b) (hE : ErrIs w) (hb0 : n0 ≤ 140737488355327) (hb1 : n1 ≤ 140737488355327) :
    Calls Tryd.prog 4 #[.slice a0 n0 c0, .slice a1 n1 c1] w fun e w' => e = .returned (.bool true) ∧ Below w.heap.size w w' := by
  obtain rfl := h0.1
  obtain rfl := h1.1
  have H0 : Hid (Has w a0 p.length c0 p) := h0
  have H1 : Hid (Has w a1 b.length c1 b) := h1
  have HE : Hid (ErrIs w) := hE
  clear h0 h1 hE
  have hbI0 : (p.length : Int) ≤ 140737488355327 := by omega
  have hbI1 : (b.length : Int) ≤ 140737488355327 := by omega
  have kc := fun (w : World) (C : Array Value) (n c : Nat) => Lib.run_convert_bytes_const (P := Tryd.prog) w 22 5 C n c Tryd.underlying22 Tryd.underlying5
  go_enter Tryd.func4, Tryd.ntmps4
  go_wp2_with fail
  refine (lent_any _ _ _ p _ H0.out hb0).mono ?_
  rintro e w1 ⟨rfl, hl1, hB1⟩
  have HL1 : Hid (LentIs w1 w.heap.size p) := hl1
  have HB1 : Hid (Below w.heap.size w w1) := hB1
  have HLt1 : Hid (w.heap.size < w1.heap.size) := hl1.lt
  clear hl1 hB1
  go_wp2_with fail
  refine (lent_any _ _ _ b _ (H1.out.below HB1.out) hb1).mono ?_
  rintro e w2 ⟨rfl, hl2, hB2⟩
  have HL2 : Hid (LentIs w2 w1.heap.size b) := hl2
  have HM2 : Hid (LentIs w2 w.heap.size p) := HL1.out.below hB2 HLt1.out
  have HB2 : Hid (Below w.heap.size w w2) := HB1.out.trans (hB2.mono HB1.out.size)
  have HLt2 : Hid (w1.heap.size < w2.heap.size) := hl2.lt
  clear hl2 hB2 HL1
  go_wp2_with fail
  refine (blob_uni _ _ _ p _ (HM2.out.has (by unfold maxLen; omega))).mono ?_
  rintro e w3 ⟨⟨oa, na, ca⟩, rfl, HGa, hB3⟩
  dsimp only [rv]
  have HL3 : Hid (LentIs w3 w1.heap.size b) := HL2.out.below hB3.out HL2.out.lt
  have HM3 : Hid (LentIs w3 w.heap.size p) := HM2.out.below hB3.out HM2.out.lt
  have HB3 : Hid (Below w.heap.size w w3) := HB2.out.trans (hB3.out.mono HB2.out.size)
  have HSz3 : Hid (w2.heap.size ≤ w3.heap.size) := hB3.out.size
  clear hB3 HL2 HM2
  go_wp2_with fail
  refine (takeBlob_uni _ _ _ b _ (HL3.out.has (by unfold maxLen; omega))).mono ?_
  rintro e w4 ⟨⟨oq, nq, cq⟩, rfl, HGq, hB4⟩
  dsimp only [rv]
  have HL4 : Hid (LentIs w4 w1.heap.size b) := HL3.out.below hB4.out HL3.out.lt
  have HM4 : Hid (LentIs w4 w.heap.size p) := HM3.out.below hB4.out HM3.out.lt
  have HB4 : Hid (Below w.heap.size w w4) := HB3.out.trans (hB4.out.mono HB3.out.size)
  have HGa4 : Hid (Got w2.heap.size w4 (oa, na, ca) (blL p)) := HGa.out.below hB4.out
  have HRa : Hid (∀ g, oa = some g → g < w3.heap.size) := fun g e => (HGa.out.ob g e).1.lt
  clear hB4 HL3 HM3 HGa
  go_wp2_with fail
  refine (rblob_uni _ _ _ p _ (H0.out.below HB4.out)).mono ?_
  rintro e w5 ⟨x5, n5, c5, rfl, HW5, hB5⟩
  have HL5 : Hid (LentIs w5 w1.heap.size b) := HL4.out.below hB5.out HL4.out.lt
  have HM5 : Hid (LentIs w5 w.heap.size p) := HM4.out.below hB5.out HM4.out.lt
  have HB5 : Hid (Below w.heap.size w w5) := HB4.out.trans (hB5.out.mono HB4.out.size)
  have HGa5 : Hid (Got w2.heap.size w5 (oa, na, ca) (blL p)) := HGa4.out.below hB5.out
  have HGq5 : Hid (Got w3.heap.size w5 (oq, nq, cq) (tkBlob b).1) := HGq.out.below hB5.out
  clear hB5 HL4 HM4 HGa4 HGq
  go_wp2_with fail
  refine (rtakeBlob_uni _ _ _ b _ (H1.out.below HB5.out)).mono ?_
  rintro e w6 ⟨x6, n6, c6, rfl, HW6, hB6⟩
  have HL6 : Hid (LentIs w6 w1.heap.size b) := HL5.out.below hB6.out HL5.out.lt
  have HM6 : Hid (LentIs w6 w.heap.size p) := HM5.out.below hB6.out HM5.out.lt
  have HB6 : Hid (Below w.heap.size w w6) := HB5.out.trans (hB6.out.mono HB5.out.size)
  have HGa6 : Hid (Got w2.heap.size w6 (oa, na, ca) (blL p)) := HGa5.out.below hB6.out
  have HGq6 : Hid (Got w3.heap.size w6 (oq, nq, cq) (tkBlob b).1) := HGq5.out.below hB6.out
  have cva := HGa6.out.conv
  have cvw := (HW5.out.below hB6.out).conv
  have cvq := HGq6.out.conv
  have cvx := HW6.out.conv
  dsimp only [rv] at cva cvq
  clear hB6 HL5 HM5 HGa5 HGq5 HW5 HW6
  go_wp2_with fail
  refine (kept_any _ a0 c0 p _ HM6.out (H0.out.below HB6.out) hb0).mono ?_
  rintro e w7 ⟨rfl, hw⟩
  subst hw
  go_wp2_with fail
  refine (kept_any _ a1 c1 b _ HL6.out (H1.out.below HB6.out) hb1).mono ?_
  rintro e w7 ⟨rfl, hw⟩
  subst hw
  have hrows := rows4_new w7 [(oa, na, ca), (oq, nq, cq), (some w.heap.size, p.length, p.length + 1), (some w1.heap.size, b.length, b.length + 1)] 22 (fun j hj g e => by
      match j, hj with
      | 0, _ => exact (HGa6.out.ob g e).1
      | 1, _ => exact (HGq6.out.ob g e).1
      | 2, _ => simp at e; subst e; exact ob_of_lent HM6.out
      | 3, _ => simp at e; subst e; exact ob_of_lent HL6.out)
    (fun j hj => by
      match j, hj with
      | 0, _ => exact ⟨HGa6.out.has.2.1, HGa6.out.cap, fun e => HGa6.out.has.2.2.2.1 (by simp only [List.getElem_cons_zero] at e; rw [e]; rfl)⟩
      | 1, _ => exact ⟨HGq6.out.has.2.1, HGq6.out.cap, fun e => HGq6.out.has.2.2.2.1 (by simp only [List.getElem_cons_succ, List.getElem_cons_zero] at e; rw [e]; rfl)⟩
      | 2, _ => simp; omega
      | 3, _ => simp; omega)
    (fun i j hi hj g hij e => by
      have q1 := HLt1.out
      have q2 := HLt2.out
      have q3 := HSz3.out
      match i, hi, j, hj with
      | 0, _, 0, _ => exact absurd rfl hij
      | 0, _, 1, _ => have g1 := HRa.out g e; exact fun e2 => by have := (HGq6.out.ob g e2).2; omega
      | 0, _, 2, _ => have g1 := (HGa6.out.ob g e).2; simp; omega
      | 0, _, 3, _ => have g1 := (HGa6.out.ob g e).2; simp; omega
      | 1, _, 0, _ => have g1 := (HGq6.out.ob g e).2; exact fun e2 => by have := HRa.out g e2; omega
      | 1, _, 1, _ => exact absurd rfl hij
      | 1, _, 2, _ => have g1 := (HGq6.out.ob g e).2; simp; omega
      | 1, _, 3, _ => have g1 := (HGq6.out.ob g e).2; simp; omega
      | 2, _, 0, _ => simp at e; exact fun e2 => by have := (HGa6.out.ob g e2).2; omega
      | 2, _, 1, _ => simp at e; exact fun e2 => by have := (HGq6.out.ob g e2).2; omega
      | 2, _, 2, _ => exact absurd rfl hij
      | 2, _, 3, _ => simp at e ⊢; omega
      | 3, _, 0, _ => simp at e; exact fun e2 => by have := (HGa6.out.ob g e2).2; omega
      | 3, _, 1, _ => simp at e; exact fun e2 => by have := (HGq6.out.ob g e2).2; omega
      | 3, _, 2, _ => simp at e ⊢; omega
      | 3, _, 3, _ => exact absurd rfl hij)
  have hown := owned_any w7.heap.size 0 4 4 _ _ hrows rfl (by omega)
  have HOw : Hid (Calls _ _ _ _ _) := hown
  clear hrows hown
  go_wp2_with fail
  refine HOw.out.mono ?_
  rintro e w8 ⟨rfl, hinv⟩
  have HB8 : Hid (Below w.heap.size w w8) := (HB6.out.alloc HB6.out.size _).trans (hinv.below (by have := HB6.out.size; simp; omega) (fun j hj g e => by
      have q1 := HLt1.out
      have q2 := HLt2.out
      have q3 := HSz3.out
      match j, hj with
      | 0, _ => have := (HGa6.out.ob g e).2; omega
      | 1, _ => have := (HGq6.out.ob g e).2; omega
      | 2, _ => simp at e; omega
      | 3, _ => simp at e; omega))
  clear hinv HOw cva cvw cvq cvx HGa6 HGq6 HL6 HM6
  have hN := blob_ok (some ⟨w8.heap.size, 0, none⟩) 2 2 [97, 98] _ (has_blk w8 [97, 98] (2, 3) (by unfold maxLen; decide)) (by omega)
  rw [show wid 2 = 1 from by decide] at hN
  go_wp2_with fail
  refine hN.mono ?_
  rintro e w9 ⟨g9, rfl, hg9, hown9, hb9⟩
  have HB9 : Hid (Below w.heap.size w w9) := (HB8.out.alloc HB8.out.size _).trans (hb9.mono (by have := HB8.out.size; simp; omega))
  have HF : Hid (Has w9 (some ⟨g9, 0, none⟩) (1 + 1 + 2) (1 + 1 + 2) (blobB [97, 98])) := Has.of_row hown9
  clear hown9 hb9 hN hg9
  go_wp2_with fail
  refine (code_errV _ _ (HE.out.below HB9.out HE.out.lt)).mono ?_
  rintro e w10 ⟨rfl, hb10⟩
  have HB10 : Hid (Below w.heap.size w w10) := HB9.out.trans (hb10.mono HB9.out.size)
  have HF10 : Hid (Has w10 (some ⟨g9, 0, none⟩) (1 + 1 + 2) (1 + 1 + 2) (blobB [97, 98])) := HF.out.below hb10
  clear hb10 HF
  go_wp2_with fail
  refine (code_errV _ _ (HE.out.below HB10.out HE.out.lt)).mono ?_
  rintro e w11 ⟨rfl, hb11⟩
  have HB11 : Hid (Below w.heap.size w w11) := HB10.out.trans (hb11.mono HB10.out.size)
  have cvf : (convert 22 9 (.slice (some ⟨g9, 0, none⟩) 4 4)).run Tryd.prog w11 = .ok (.string (ByteArray.mk #[1, 2, 97, 98])) w11 := by
    have := (HF10.out.below hb11).conv
    rw [bs_ab] at this
    exact this
  clear hb11 HF10
  go_wp2
  go_ret
  exact ⟨rfl, HB11.out⟩
end Go.Proofs.YtipkjiacikdmmaaDoor
