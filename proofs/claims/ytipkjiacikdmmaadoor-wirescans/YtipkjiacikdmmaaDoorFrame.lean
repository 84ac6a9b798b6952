/-
  What wire.field and wire.Frame answer. Conditions: those that each theorem names (the table of the sum lies in its place; the slice holds the bytes).
-/
import Derived.Test.YtipkjiacikdmmaaDoorSum
import Derived.Test.YtipkjiacikdmmaaDoorBlob
import Derived.Laws.ResultCell
import Derived.Deep.DeepCutAuto
namespace Go.Proofs.YtipkjiacikdmmaaDoor
open Go.RowKit
set_option linter.unusedVariables false

theorem dig4 (n : Nat) : dig n 4 = [UInt8.ofNat (n / 16777216), UInt8.ofNat (n / 65536), UInt8.ofNat (n / 256), UInt8.ofNat n] := by
  simp [dig]
theorem dig4_bv (n : Nat) (h : (n : Int) < 4294967296) : (dig n 4).map bv = [Value.int .u8 ((n : Int) / 16777216), Value.int .u8 ((n : Int) / 65536 % 256), Value.int .u8 ((n : Int) / 256 % 256), Value.int .u8 ((n : Int) % 256)] := by
  rw [dig4]
  simp only [List.map_cons, List.map_nil, bv, UInt8.toNat_ofNat']
  simp
  omega
set_option maxRecDepth 100000 in
set_option maxHeartbeats 400000 in
theorem field_any (n : Nat) (w : World) (h : (n : Int) < 4294967296) :
    Calls Tryd.prog 34 #[.int .i64 (n : Int)] w fun e w' => e = .returned (.agg #[.int .u8 ((n : Int) / 16777216), .int .u8 ((n : Int) / 65536 % 256), .int .u8 ((n : Int) / 256 % 256), .int .u8 ((n : Int) % 256)]) ∧
      w' = w.alloc (.cells #[.int .u8 ((n : Int) / 16777216), .int .u8 ((n : Int) / 65536 % 256), .int .u8 ((n : Int) / 256 % 256), .int .u8 ((n : Int) % 256)] 61) := by
  go_enter Tryd.func34, Tryd.ntmps34
  go_wp2
  exact bodyPost_ret (v := .agg #[.int .u8 ((n : Int) / 16777216), .int .u8 ((n : Int) / 65536 % 256), .int .u8 ((n : Int) / 256 % 256), .int .u8 ((n : Int) % 256)]) (by simp [results, Tryd.results34, go_sem]) rfl ⟨rfl, rfl⟩

theorem has_block {w : World} {g : Nat} {C : Array Value} {t : TypeId} {fz : Nat × Nat} (l : List UInt8) (h : w.heap[g]? = some (.cells C t fz)) (hC : C.toList = l.map bv) (hm : l.length ≤ maxLen) : Has w (some ⟨g, 0, none⟩) l.length l.length l := by
  refine ⟨rfl, Nat.le_refl _, hm, fun e => (by cases e), fun _ => ⟨g, 0, rfl, ?_, fun i hi => ?_⟩⟩
  · rcases Nat.lt_or_ge g w.heap.size with h1 | h1
    · exact h1
    · rw [Array.getElem?_eq_none h1] at h; cases h
  · have e : C[i]? = some (bv l[i]) := by rw [← Array.getElem?_toList, hC]; simp only [List.getElem?_map, List.getElem?_eq_getElem hi, Option.map_some]
    simp [World.cell?, h, e]
theorem has_four (w : World) (n : Nat) (h : (n : Int) < 4294967296) (t : TypeId) : Has (w.alloc (.cells #[.int .u8 ((n : Int) / 16777216), .int .u8 ((n : Int) / 65536 % 256), .int .u8 ((n : Int) / 256 % 256), .int .u8 ((n : Int) % 256)] t)) (some ⟨w.heap.size, 0, none⟩) 4 4 (dig n 4) := by
  have := has_block (w := w.alloc (.cells #[.int .u8 ((n : Int) / 16777216), .int .u8 ((n : Int) / 65536 % 256), .int .u8 ((n : Int) / 256 % 256), .int .u8 ((n : Int) % 256)] t)) (dig n 4) (heap_alloc_new _ _) (dig4_bv n h).symm (by rw [dig_length]; unfold maxLen; omega)
  rw [dig_length] at this
  exact this

theorem slice_len {x : Option Addr} {n m c : Nat} {e : Value} (h : n = m) : Ending.returned (.tuple #[.slice x n c, e]) = .returned (.tuple #[.slice x m c, e]) := by rw [h]
/-- A frame of bytes. -/
def frameB (l : List UInt8) : List UInt8 := dig l.length 4 ++ l ++ dig (crc (dig l.length 4 ++ l)) 4

set_option maxRecDepth 100000 in
theorem frame_long (a : Option Addr) (len cap : Nat) (w : World) (h : (1048576 : Int) < (len : Int)) :
    Calls Tryd.prog 22 #[.slice a len cap] w fun e w' => e = .returned (.tuple #[.slice none 0 0, .iface 30 (.int .i64 2)]) ∧ w' = w := by
  go_enter Tryd.func22, Tryd.ntmps22
  go_wp2
  go_ret2
  exact ⟨rfl, rfl⟩

set_option maxRecDepth 100000 in
set_option maxHeartbeats 1000000 in
theorem frame_ok (a : Option Addr) (len cap : Nat) (l : List UInt8) (w : World) (h : Has w a len cap l) (hT : TabIs w) (hb : (len : Int) ≤ 1048576) :
    Calls Tryd.prog 22 #[.slice a len cap] w fun e w' => ∃ g, e = .returned (.tuple #[.slice (some ⟨g, 0, none⟩) (len + 8) (len + 8), .nilIface]) ∧ w.heap.size ≤ g ∧
      w'.ownsRow g 5 1 (.slice (some ⟨g, 0, none⟩) (len + 8) (len + 8)) (len + 8) ((frameB l).map bv) ∧ Below w.heap.size w w' := by
  obtain ⟨i0, hi, hz0, hz1, hz2⟩ := info_parts Tryd.info5
  have HL : Hid (l.length = len) := h.1
  have HH : Hid (Has w a len cap l) := h
  have HT : Hid (TabIs w) := hT
  clear h hT
  have hb' : ¬ (1048576 : Int) < (len : Int) := by omega
  go_enter Tryd.func22, Tryd.ntmps22
  go_upto_region 3 with fail
  go_cut [4] (fun c wx => ∃ g, c = .pointer (some ⟨g, 0, none⟩) ∧ Has wx (some ⟨g, 0, none⟩) 4 4 (dig len 4) ∧ Below w.heap.size w wx)
  case first =>
    go_wp2_with fail
    refine (field_any len _ (by omega)).mono ?_
    rintro e w1 ⟨rfl, hw1⟩
    subst hw1
    go_wp2_with fail
    go_meet
    case rel =>
      refine ⟨_, rfl, ?_, ((Below.refl _ _).alloc (Nat.le_refl _) _).alloc (by simp) _⟩
      have := has_four (w.alloc (.cells #[.int .u8 ((len : Int) / 16777216), .int .u8 ((len : Int) / 65536 % 256), .int .u8 ((len : Int) / 256 % 256), .int .u8 ((len : Int) % 256)] 61)) len (by omega) 61
      rw [World.size_alloc] at this
      exact this
  case rest =>
    obtain ⟨gc, rfl, hHc, hBc⟩ := hcut
    have HC : Hid (Has wc (some ⟨gc, 0, none⟩) 4 4 (dig len 4)) := hHc
    have HBc : Hid (Below w.heap.size w wc) := hBc
    clear hHc hBc
    go_upto_region 7 with (first
      | (at_make; refine wpList_make_own _ rfl _ _ 22 rfl wc.heap.size 5 i0 (.int .u8 0) 1 Tryd.underlying22 hi hz0 hz1 _ _ _ (len + 8) rfl rfl (by omega) (by rw [hz2]; omega) (by unfold maxLen; omega) (Nat.le_refl _) ?_; intro w2 hown2 hgr2; have HB2 : Hid (Below wc.heap.size wc w2) := (Below.refl _ _).grown hgr2 (Nat.le_refl _) (fun k e => by cases e); have HC2 : Hid (Has w2 _ _ _ (dig len 4)) := HC.out.below HB2.out; clear hgr2)
      | (at_builtin; refine wpList_append_fits_any _ rfl (.tmp 18) (.tmp 19) 22 rfl wc.heap.size 5 i0 1 Tryd.underlying22 hi hz1 _ _ _ _ rfl hown2 _ _ _ ((dig len 4).map bv) rfl HC2.out.size HC2.out.nil0 HC2.out.at (bv_oneCell _) (by omega) ?_; intro w3 hown3 hgr3; simp only [Nat.zero_add, List.nil_append] at hown3; have HB3 : Hid (Below wc.heap.size wc w3) := HB2.out.grown hgr3 HB2.out.size (fun k e => by cases e; exact Nat.le_refl _); clear hgr3 HC2 hown2; have HP : Hid (Has w3 a len cap l) := HH.out.below (HBc.out.trans (HB3.out.mono HBc.out.size)))
      | (at_builtin; refine wpList_append_fits_any _ rfl (.tmp 21) (.tmp 22) 22 rfl wc.heap.size 5 i0 1 Tryd.underlying22 hi hz1 _ _ _ _ rfl hown3 _ _ _ (l.map bv) rfl HP.out.size HP.out.nil0 HP.out.at (bv_oneCell _) (by omega) ?_; intro w4 hown4 hgr4; have HB4 : Hid (Below wc.heap.size wc w4) := HB3.out.grown hgr4 HB3.out.size (fun k e => by cases e; exact Nat.le_refl _); clear hgr4 HP hown3; rw [← List.map_append] at hown4))
    have HO4 : Hid (w4.ownsRow wc.heap.size 5 1 (.slice (some ⟨wc.heap.size, 0, none⟩) (4 + len) (len + 8)) (4 + len) ((dig len 4 ++ l).map bv)) := hown4
    clear hown4 HB2 HB3 HC
    have HBw : Hid (Below w.heap.size w w4) := HBc.out.trans (HB4.out.mono HBc.out.size)
    have HT4 : Hid (TabIs w4) := HT.out.below HBw.out HT.out.lt
    have hcr := crc_lt (dig len 4 ++ l)
    obtain ⟨s, hs⟩ : ∃ s, crc (dig len 4 ++ l) = s := ⟨_, rfl⟩
    have HS : Hid (crc (dig len 4 ++ l) = s) := hs
    rw [hs] at hcr
    clear hs
    go_cut [6] (fun c wx => ∃ g, c = .pointer (some ⟨g, 0, none⟩) ∧ Has wx (some ⟨g, 0, none⟩) 4 4 (dig s 4) ∧ Below w4.heap.size w4 wx)
    case first =>
      have hsum := sum_any _ _ _ (dig len 4 ++ l) _ (Has.of_row HO4.out) HT4.out (by omega)
      rw [HS.out] at hsum
      go_wp2_with fail
      refine hsum.mono ?_
      rintro e w5 ⟨rfl, hw5⟩
      subst hw5
      clear hsum
      go_wp2_with fail
      refine (field_any s _ (by omega)).mono ?_
      rintro e w6 ⟨rfl, hw6⟩
      subst hw6
      go_wp2_with fail
      go_meet
      case rel =>
        refine ⟨_, rfl, ?_, ((Below.refl _ _).alloc (Nat.le_refl _) _).alloc (by simp) _⟩
        have := has_four (w5.alloc (.cells #[.int .u8 ((s : Int) / 16777216), .int .u8 ((s : Int) / 65536 % 256), .int .u8 ((s : Int) / 256 % 256), .int .u8 ((s : Int) % 256)] 61)) s (by omega) 61
        rw [World.size_alloc] at this
        exact this
    case rest =>
      obtain ⟨gs, rfl, hHs, hBs⟩ := hcut
      have hO5 : wc.ownsRow _ 5 1 _ _ _ := HO4.out.kept (row := none) ⟨hBs.os, hBs.tape, hBs.output, hBs.size, fun k hk _ => hBs.block k hk⟩ (.inr (by simp [Value.ownBlock]))
      have HS5 : Hid (Has wc (some ⟨gs, 0, none⟩) 4 4 (dig s 4)) := hHs
      have HBw5 : Hid (Below w.heap.size w wc) := HBw.out.trans (hBs.mono HBw.out.size)
      have HBg : Hid (w.heap.size ≤ _) := HBc.out.size
      have HBn : Hid (_ ≤ wc.heap.size) := Nat.le_trans HB4.out.size hBs.size
      clear hHs hBs HO4 HT4 HBw HB4 HBc
      go_wp2_with (first
        | (at_builtin; refine wpList_append_fits_any _ rfl (.tmp 27) (.tmp 28) 22 rfl _ 5 i0 1 Tryd.underlying22 hi hz1 _ _ _ _ rfl hO5 _ _ _ ((dig s 4).map bv) rfl HS5.out.size HS5.out.nil0 HS5.out.at (bv_oneCell _) (by omega) ?_; intro w7 hown7 hgr7))
      go_ret2
      refine ⟨_, slice_len (by omega), HBg.out, ?_, HBw5.out.grown hgr7 HBw5.out.size (fun k e => by cases e; exact HBg.out)⟩
      have e : (frameB l).map bv = (dig len 4 ++ l).map bv ++ (dig s 4).map bv := by rw [← List.map_append, frameB, HL.out, HS.out]
      rw [e, show len + 8 = 4 + len + 4 by omega]
      rw [show len + 8 = 4 + len + 4 by omega] at hown7
      exact hown7
end Go.Proofs.YtipkjiacikdmmaaDoor
