/-
  What the document's own four, number, Frame and Open answer for any bytes that memory holds, and wire.Frame and wire.Open in one form for all their ways. Conditions: those that each theorem names.
-/
import Derived.Test.YtipkjiacikdmmaaDoorBlobU
import Derived.Test.YtipkjiacikdmmaaDoorOpen
import Derived.Test.YtipkjiacikdmmaaDoorRSum
namespace Go.Proofs.YtipkjiacikdmmaaDoor
open Go.RowKit
set_option linter.unusedVariables false
theorem owns_new (w : World) (base : Nat) (C : Array Value) (hb : base ≤ w.heap.size) (hm : C.size ≤ maxLen) : (w.alloc (.cells C 5)).ownsRow base 5 1 (.slice (some ⟨w.heap.size, 0, none⟩) C.size C.size) C.size C.toList :=
  ⟨by simp, .inr ⟨w.heap.size, C.size, C, rfl, hb, by show (w.heap.push _)[w.heap.size]? = _; simp, Nat.le_refl _, hm, by simp, by simp [List.take_of_length_le]⟩⟩
theorem dig4_bv' (n : Nat) : (dig n 4).map bv = [Value.int .u8 ((n : Int) / 16777216 % 256), Value.int .u8 ((n : Int) / 65536 % 256), Value.int .u8 ((n : Int) / 256 % 256), Value.int .u8 ((n : Int) % 256)] := by
  rw [dig4]
  simp only [List.map_cons, List.map_nil, bv, UInt8.toNat_ofNat']
  simp
set_option maxRecDepth 100000 in
set_option maxHeartbeats 400000 in
theorem four_any (n : Nat) (w : World) (h : (n : Int) < 4294967296) :
    Calls Tryd.prog 35 #[.int .i64 (n : Int)] w fun e w' => e = .returned (.slice (some ⟨w.heap.size, 0, none⟩) 4 4) ∧ w'.ownsRow w.heap.size 5 1 (.slice (some ⟨w.heap.size, 0, none⟩) 4 4) 4 ((dig n 4).map bv) ∧ Below w.heap.size w w' := by
  have h0 : (n : Int) / 16777216 < 256 := by omega
  have HD : Hid ((dig n 4).map bv = [Value.int .u8 ((n : Int) / 16777216), Value.int .u8 ((n : Int) / 65536 % 256), Value.int .u8 ((n : Int) / 256 % 256), Value.int .u8 ((n : Int) % 256)]) := dig4_bv n h
  go_enter Tryd.func35, Tryd.ntmps35
  go_wp2
  go_ret
  refine ⟨rfl, ?_, (Below.refl _ _).alloc (Nat.le_refl _) _⟩
  have h2 := owns_new w w.heap.size #[.int .u8 ((n : Int) / 16777216), .int .u8 ((n : Int) / 65536 % 256), .int .u8 ((n : Int) / 256 % 256), .int .u8 ((n : Int) % 256)] (Nat.le_refl _) (by unfold maxLen; simp)
  rw [HD.out]
  exact h2
theorem val4 (a b c d : UInt8) (r : List UInt8) : valFrom 0 ((a :: b :: c :: d :: r).take 4) = ((a.toNat * 256 + b.toNat) * 256 + c.toNat) * 256 + d.toNat := by
  simp [valFrom]
set_option maxRecDepth 100000 in
set_option maxHeartbeats 1000000 in
theorem number_any (a : Option Addr) (len cap : Nat) (l : List UInt8) (w : World) (h : Has w a len cap l) (h4 : 4 ≤ len) :
    Calls Tryd.prog 36 #[.slice a len cap] w fun e w' => e = .returned (.int .i64 (valFrom 0 (l.take 4) : Int)) ∧ ∃ q, w' = w.drewN q := by
  obtain ⟨hl, h2, h3, h4', h5⟩ := h
  obtain ⟨b, off, rfl, hb, hc⟩ := h5 (by omega)
  obtain ⟨x, y, z, u, r, rfl⟩ : ∃ x y z u r, l = x :: y :: z :: u :: r := by
    match l, hl with
    | x :: y :: z :: u :: r, _ => exact ⟨x, y, z, u, r, rfl⟩
    | [], hl => simp at hl; omega
    | [_], hl => simp at hl; omega
    | [_, _], hl => simp at hl; omega
    | [_, _, _], hl => simp at hl; omega
  · skip
    have c0 : w.cell? ⟨b, off, none⟩ = some (.int .u8 (x.toNat : Int)) := hc 0 (by simp)
    have c1 : w.cell? ⟨b, off + 1, none⟩ = some (.int .u8 (y.toNat : Int)) := hc 1 (by simp)
    have c2 : w.cell? ⟨b, off + 2, none⟩ = some (.int .u8 (z.toNat : Int)) := hc 2 (by simp)
    have c3 : w.cell? ⟨b, off + 3, none⟩ = some (.int .u8 (u.toNat : Int)) := hc 3 (by simp)
    have b0 := x.toNat_lt
    have b1 := y.toNat_lt
    have b2 := z.toNat_lt
    have b3 := u.toNat_lt
    rw [val4]
    generalize x.toNat = X at *
    generalize y.toNat = Y at *
    generalize z.toNat = Z at *
    generalize u.toNat = U at *
    have i0 : (X : Int) < 256 := by omega
    have i1 : (Y : Int) < 256 := by omega
    have i2 : (Z : Int) < 256 := by omega
    have i3 : (U : Int) < 256 := by omega
    have hlI : (4 : Int) ≤ (len : Int) := by omega
    have e1 : ((((X * 256 + Y) * 256 + Z) * 256 + U : Nat) : Int) = (X : Int) * 16777216 + (Y : Int) * 65536 + (Z : Int) * 256 + (U : Int) := by omega
    rw [e1]
    clear e1 hc hl b0 b1 b2 b3 h4' h5
    go_enter Tryd.func36, Tryd.ntmps36
    go_wp2_with fail
    go_quiet (fail)
    go_wp2_with fail
    go_ret
    exact ⟨rfl, _, rfl⟩
def frL (l : List UInt8) : List UInt8 := if 1048576 < l.length then [] else frameB l
def frC (l : List UInt8) : Nat := if 1048576 < l.length then 2 else 0
theorem frame_uni (a : Option Addr) (len cap : Nat) (l : List UInt8) (w : World) (h : Has w a len cap l) (hT : TabIs w) :
    Calls Tryd.prog 22 #[.slice a len cap] w fun e w' => ∃ r, e = .returned (.tuple #[rv r, errV (frC l)]) ∧ Hid (Got w.heap.size w' r (frL l)) ∧ Hid (frC l = 0 → r.2.1 = l.length + 8) ∧ Hid (Below w.heap.size w w') := by
  have hl := h.1
  by_cases hb : 1048576 < l.length
  · refine (frame_long a len cap w (by omega)).mono fun e w' ⟨he, hw⟩ => ?_
    subst hw
    refine ⟨(none, 0, 0), ?_, ?_, fun h0 => ?_, Below.refl _ _⟩
    · rw [he, frC, if_pos hb]; rfl
    · rw [frL, if_pos hb]; exact Got.nil _ _
    · rw [frC, if_pos hb] at h0; cases h0
  · refine (frame_ok a len cap l w h hT (by omega)).mono fun e w' ⟨g, he, hg, hown, hbl⟩ => ?_
    refine ⟨(some g, len + 8, len + 8), ?_, ?_, fun _ => by rw [hl], hbl⟩
    · rw [he, frC, if_neg hb]; rfl
    · rw [frL, if_neg hb]; exact Got.own hown hg (by omega)
set_option maxRecDepth 100000 in
set_option maxHeartbeats 1000000 in
theorem rframe_uni (a : Option Addr) (len cap : Nat) (l : List UInt8) (w : World) (h : Has w a len cap l) :
    Calls Tryd.prog 23 #[.slice a len cap] w fun e w' => ∃ (b : Option Addr) (n c : Nat), e = .returned (.tuple #[.slice b n c, .int .i64 (frC l : Int)]) ∧ Hid (Has w' b n c (frL l)) ∧ Hid (Below w.heap.size w w') := by
  have hl := h.1
  have HH : Hid (Has w a len cap l) := h
  clear h
  by_cases hb : 1048576 < l.length
  · have HC : Hid (frC l = 2 ∧ frL l = []) := ⟨by rw [frC, if_pos hb], by rw [frL, if_pos hb]⟩
    have hb' : (1048576 : Int) < (len : Int) := by omega
    clear hb hl
    go_enter Tryd.func23, Tryd.ntmps23
    go_wp2
    go_ret2
    rw [HC.out.1, HC.out.2]
    exact ⟨_, _, _, rfl, has_nil _, Below.refl _ _⟩
  · have hcr := crc_lt (dig len 4 ++ l)
    obtain ⟨s, hs⟩ : ∃ s, crc (dig len 4 ++ l) = s := ⟨_, rfl⟩
    have HS : Hid (crc (dig len 4 ++ l) = s) := hs
    rw [hs] at hcr
    have HC : Hid (frC l = 0 ∧ frL l = (dig len 4 ++ l) ++ dig s 4) := ⟨by rw [frC, if_neg hb], by rw [frL, if_neg hb, frameB, hl, hs]⟩
    have hb' : ¬ (1048576 : Int) < (len : Int) := by omega
    have hlen : len ≤ 1048576 := by omega
    clear hb hl hs
    go_enter Tryd.func23, Tryd.ntmps23
    go_wp2_with fail
    refine (four_any len _ (by omega)).mono ?_
    rintro e w1 ⟨rfl, hown1, hb1⟩
    have HB1 : Hid (Below w.heap.size w w1) := hb1
    clear hb1
    go_wp2_with (first
      | (at_builtin; refine wpList_app rfl (.tmp 11) (.tmp 12) rfl w.heap.size _ _ _ _ rfl hown1 _ _ _ l rfl (HH.out.below HB1.out) (by omega) HB1.out.size ?_; intro g2 c2 w2 hg2 hown2 hgr2; have HB2 : Hid (Below w.heap.size w w2) := HB1.out.grown hgr2 HB1.out.size (fun k e => by cases e; exact Nat.le_refl _); clear hgr2 hown1; rw [← List.map_append] at hown2))
    have HO2 : Hid (w2.ownsRow w.heap.size 5 1 (.slice (some ⟨g2, 0, none⟩) (4 + len) c2) (4 + len) ((dig len 4 ++ l).map bv)) := hown2
    have hsum := rsum_any _ _ _ (dig len 4 ++ l) _ (Has.of_row HO2.out) (by omega)
    rw [HS.out] at hsum
    have HSum : Hid (Calls _ _ _ _ _) := hsum
    clear hown2 hsum
    refine HSum.out.mono ?_
    rintro e w3 ⟨rfl, hw3⟩
    subst hw3
    go_wp2_with fail
    refine (four_any s _ (by omega)).mono ?_
    rintro e w4 ⟨rfl, hown4, hb4⟩
    have HB4 : Hid (Below w.heap.size w w4) := HB2.out.trans (hb4.mono HB2.out.size)
    have HF4 : Hid (Has w4 (some ⟨w3.heap.size, 0, none⟩) 4 4 (dig s 4)) := Has.of_row hown4
    have hown5 : w4.ownsRow w.heap.size 5 1 (.slice (some ⟨g2, 0, none⟩) (4 + len) c2) (4 + len) ((dig len 4 ++ l).map bv) := HO2.out.kept (row := none) ⟨hb4.os, hb4.tape, hb4.output, hb4.size, fun k hk _ => hb4.block k hk⟩ (.inr (by simp [Value.ownBlock]))
    clear hown4 hb4 HO2
    go_wp2_with (first
      | (at_builtin; refine wpList_app rfl (.tmp 16) (.tmp 18) rfl w.heap.size _ _ _ _ rfl hown5 _ _ _ (dig s 4) rfl HF4.out (by omega) HB4.out.size ?_; intro g6 c6 w6 hg6 hown6 hgr6; have HB6 : Hid (Below w.heap.size w w6) := HB4.out.grown hgr6 HB4.out.size (fun k e => by cases e; exact hg2); clear hgr6; rw [← List.map_append] at hown6))
    go_ret2
    rw [HC.out.1, HC.out.2]
    exact ⟨_, _, _, rfl, Has.of_row hown6, HB6⟩
theorem open_uni (a : Option Addr) (len cap : Nat) (l : List UInt8) (w : World) (h : Has w a len cap l) (hT : TabIs w) (hlm : len ≤ 140737488355328) :
    Calls Tryd.prog 24 #[.slice a len cap] w fun e w' => ∃ r, e = .returned (.tuple #[rv r, .int .i64 ((opn l).2.1 : Int), errV (opn l).2.2]) ∧ Hid (Got w.heap.size w' r (opn l).1) ∧ Hid (Below w.heap.size w w') := by
  refine (open_any a len cap l w h hT hlm).mono fun e w' ⟨ho, hb⟩ => ?_
  rcases ho with ⟨c, h1, h2, h3⟩ | ⟨g, n, u, h1, h2, h3, h4, h5⟩
  · refine ⟨(none, 0, 0), ?_, ?_, hb⟩
    · rw [h1, h3]; simp [errV, h2, rv]
    · rw [h1]; exact Got.nil _ _
  · refine ⟨(some g, n, n), ?_, ?_, hb⟩
    · rw [h1, h2, h3]; simp [errV, rv]
    · refine Got.own h5 h4 ?_
      have hs := h5.1
      have : n = (opn l).1.length := by have := hs; simp at this; omega
      have ho : (opn l).1.length ≤ 1048576 := by
        unfold opn
        split
        · simp
        · split
          · simp
          · split
            · simp
            · split
              · simp
              · simp; omega
      omega
end Go.Proofs.YtipkjiacikdmmaaDoor
