/-
  What wire.Blob and wire.TakeBlob answer, for any slice of bytes that memory holds. Conditions: those that each theorem names.
-/
import Derived.Test.YtipkjiacikdmmaaDoorTakeN
import Derived.Test.YtipkjiacikdmmaaDoorCopied
namespace Go.Proofs.YtipkjiacikdmmaaDoor
open Go.RowKit
set_option linter.unusedVariables false

theorem Has.nil0 {w : World} {a : Option Addr} {len cap : Nat} {l : List UInt8} (h : Has w a len cap l) : a = none → len = 0 ∧ cap = 0 := by
  obtain ⟨h1, h2, h3, h4, h5⟩ := h
  intro e
  have := h4 e
  omega
theorem Has.at {w : World} {a : Option Addr} {len cap : Nat} {l : List UInt8} (h : Has w a len cap l) : ∀ ad, a = some ad → ∀ j u, (l.map bv)[j]? = some u → w.cell? (ad.add j) = some u := by
  intro ad e j u hj
  have h0 : 0 < (l.map bv).length := by have := (List.getElem?_eq_some_iff.1 hj).1; omega
  obtain ⟨ad', e', hc⟩ := h.cells h0
  rw [e] at e'
  cases e'
  exact hc j u hj
theorem Has.size {w : World} {a : Option Addr} {len cap : Nat} {l : List UInt8} (h : Has w a len cap l) : (l.map bv).length = len * 1 := by simpa using h.1

/-- A slice of the bytes, by its value: the same, if the new world keeps what lay below. -/
theorem Has.grown {w w' : World} {a : Option Addr} {len cap B : Nat} {l : List UInt8} {row : Option Nat} (h : Has w a len cap l) (hB : ∀ b off, a = some ⟨b, off, none⟩ → 0 < len → some b ≠ row) (hg : w.grownBy w' row) : Has w' a len cap l := by
  obtain ⟨h1, h2, h3, h4, h5⟩ := h
  refine ⟨h1, h2, h3, h4, fun h0 => ?_⟩
  obtain ⟨b, off, ha, hlt, hc⟩ := h5 h0
  have := hg.size
  exact ⟨b, off, ha, by omega, fun i hi => hg.cell (hc i hi) (hB b off ha h0)⟩

/-- A blob in bytes. -/
def blobB (l : List UInt8) : List UInt8 := numB l.length ++ l

set_option maxRecDepth 100000 in
theorem blob_long (a : Option Addr) (len cap : Nat) (w : World) (h : (65536 : Int) < (len : Int)) :
    Calls Tryd.prog 16 #[.slice a len cap] w fun e w' => e = .returned (.tuple #[.slice none 0 0, .iface 30 (.int .i64 2)]) ∧ w' = w := by
  go_enter Tryd.func16, Tryd.ntmps16
  go_wp2
  go_ret2
  exact ⟨rfl, rfl⟩

set_option maxRecDepth 100000 in
set_option maxHeartbeats 400000 in
theorem blob_ok (a : Option Addr) (len cap : Nat) (l : List UInt8) (w : World) (h : Has w a len cap l) (hb : (len : Int) ≤ 65536) :
    Calls Tryd.prog 16 #[.slice a len cap] w fun e w' => ∃ g, e = .returned (.tuple #[.slice (some ⟨g, 0, none⟩) (1 + wid len + len) (1 + wid len + len), .nilIface]) ∧ w.heap.size ≤ g ∧
      w'.ownsRow g 5 1 (.slice (some ⟨g, 0, none⟩) (1 + wid len + len) (1 + wid len + len)) (1 + wid len + len) ((blobB l).map bv) ∧ Below w.heap.size w w' := by
  obtain ⟨i0, hi, hz0, hz1, hz2⟩ := info_parts Tryd.info5
  have hwl := wid_le len
  have HL : Hid (l.length = len) := h.1
  have HH : Hid (Has w a len cap l) := h
  clear h
  have hb' : ¬ (65536 : Int) < (len : Int) := by omega
  go_enter Tryd.func16, Tryd.ntmps16
  go_wp2_with (first
    | (go_at_call 9; refine (num_pos len _ (by omega)).mono ?_; rintro e w1 ⟨rfl, hown1, hb1⟩)
    | (at_make; refine wpList_make_own _ rfl _ _ 22 rfl w1.heap.size 5 i0 (.int .u8 0) 1 Tryd.underlying22 hi hz0 hz1 _ _ _ (1 + wid len + len) rfl rfl (by omega) (by rw [hz2]; omega) (by unfold maxLen; omega) (Nat.le_refl _) ?_; intro w2 hown2 hgr2; have hb2 : Below w1.heap.size w1 w2 := (Below.refl _ _).grown hgr2 (Nat.le_refl _) (fun k e => by cases e); have HC : Hid (Has w2 _ _ _ (numB len)) := (Has.of_row hown1).below hb2; clear hgr2 hown1)
    | (at_builtin; refine wpList_append_fits_any _ rfl (.tmp 26) (.tmp 27) 22 rfl w1.heap.size 5 i0 1 Tryd.underlying22 hi hz1 _ _ _ _ rfl hown2 _ _ _ ((numB len).map bv) rfl HC.out.size HC.out.nil0 HC.out.at (bv_oneCell _) (by omega) ?_; intro w3 hown3 hgr3; simp only [Nat.zero_add, List.nil_append] at hown3; have hb3 : Below w1.heap.size w1 w3 := hb2.grown hgr3 (by have := hb2.size; omega) (fun k e => by cases e; exact Nat.le_refl _); clear hgr3 HC hb2; have HP : Hid (Has w3 a len cap l) := HH.out.below (hb1.trans (hb3.mono hb1.size)))
    | (at_builtin; refine wpList_append_fits_any _ rfl (.tmp 29) (.tmp 30) 22 rfl w1.heap.size 5 i0 1 Tryd.underlying22 hi hz1 _ _ _ _ rfl hown3 _ _ _ (l.map bv) rfl HP.out.size HP.out.nil0 HP.out.at (bv_oneCell _) (by omega) ?_; intro w4 hown4 hgr4; have hb4 : Below w1.heap.size w1 w4 := hb3.grown hgr4 (by have := hb3.size; omega) (fun k e => by cases e; exact Nat.le_refl _)))
  go_ret2
  refine ⟨w1.heap.size, rfl, hb1.size, ?_, hb1.trans (hb4.mono hb1.size)⟩
  have e : (blobB l).map bv = (numB len).map bv ++ l.map bv := by rw [← List.map_append, blobB, HL.out]
  rw [e]
  exact hown4

/-- Which blob bytes begin with, how many bytes it takes, and the error's number. -/
def tkBlob (l : List UInt8) : List UInt8 × Nat × Nat :=
  if (tkNum l).2.2 ≠ 0 then ([], 0, (tkNum l).2.2) else if 65536 < (tkNum l).1 then ([], 0, 2) else
  if l.length - (tkNum l).2.1 < (tkNum l).1 then ([], 0, 3) else ((l.drop (tkNum l).2.1).take (tkNum l).1, (tkNum l).2.1 + (tkNum l).1, 0)

theorem tkNum_bd (l : List UInt8) (h : (tkNum l).2.2 = 0) : 1 ≤ (tkNum l).2.1 ∧ (tkNum l).2.1 ≤ l.length ∧ (tkNum l).1 ≤ 9223372036854775807 ∧ (tkNum l).2.1 ≤ 9 := by
  cases l with
  | nil => simp [tkNum] at h
  | cons k r =>
    have e : tkNum (k :: r) = if 8 < k.toNat then (0, 0, 4) else if r.length < k.toNat then (0, 0, 3) else
      if k.toNat = 0 ∨ goodD (r.headD 0).toNat k.toNat = true then (valFrom 0 (r.take k.toNat), 1 + k.toNat, 0) else (0, 0, 4) := rfl
    rw [e] at h ⊢
    clear e
    by_cases h9 : 8 < k.toNat
    · simp [h9] at h
    · by_cases hs : r.length < k.toNat
      · simp [h9, hs] at h
      · rw [if_neg h9, if_neg hs] at h ⊢
        by_cases hg : k.toNat = 0 ∨ goodD (r.headD 0).toNat k.toNat = true
        · rw [if_pos hg]
          refine ⟨by simp, by simp; omega, ?_, by simp; omega⟩
          refine good_val _ (by simp; omega) ?_
          rcases hg with hg | hg
          · left; rw [hg]; rfl
          · cases r with
            | nil => left; simp
            | cons d r =>
              rcases Nat.eq_zero_or_pos k.toNat with h0 | h0
              · left; rw [h0]; rfl
              · right
                rw [List.length_take, Nat.min_eq_left (by omega)]
                obtain ⟨j, hj⟩ : ∃ j, k.toNat = j + 1 := ⟨k.toNat - 1, by omega⟩
                rw [hj] at hg ⊢
                exact hg
        · rw [if_neg hg] at h; simp at h

set_option maxRecDepth 100000 in
set_option maxHeartbeats 400000 in
theorem takeBlob_err (a : Option Addr) (len cap c : Nat) (l : List UInt8) (w : World) (h : Has w a len cap l) (hc : (tkNum l).2.2 = c) (hc0 : c ≠ 0) :
    Calls Tryd.prog 17 #[.slice a len cap] w fun e w' => e = .returned (.tuple #[.slice none 0 0, .int .i64 0, .iface 30 (.int .i64 (c : Int))]) ∧ w' = w := by
  have ht := takeNum_any a len cap l w h
  rw [hc, show errV c = .iface 30 (.int .i64 (c : Int)) by simp [errV, hc0]] at ht
  generalize (tkNum l).1 = v at *
  generalize (tkNum l).2.1 = u at *
  clear hc h
  go_enter Tryd.func17, Tryd.ntmps17
  go_wp2_with fail
  refine ht.mono ?_
  rintro e w1 ⟨rfl, rfl⟩
  go_wp2
  go_ret3
  exact ⟨rfl, rfl⟩

set_option maxRecDepth 100000 in
set_option maxHeartbeats 400000 in
theorem takeBlob_long (a : Option Addr) (len cap : Nat) (l : List UInt8) (w : World) (h : Has w a len cap l) (hc : (tkNum l).2.2 = 0) (hv : 65536 < (tkNum l).1) :
    Calls Tryd.prog 17 #[.slice a len cap] w fun e w' => e = .returned (.tuple #[.slice none 0 0, .int .i64 0, .iface 30 (.int .i64 2)]) ∧ w' = w := by
  have ht := takeNum_any a len cap l w h
  have hbd := tkNum_bd l hc
  rw [hc, show errV 0 = .nilIface by simp [errV]] at ht
  generalize (tkNum l).1 = v at *
  generalize (tkNum l).2.1 = u at *
  clear hc h
  have hv' : (65536 : Int) < (v : Int) := by omega
  go_enter Tryd.func17, Tryd.ntmps17
  go_wp2_with fail
  refine ht.mono ?_
  rintro e w1 ⟨rfl, rfl⟩
  go_wp2
  go_ret3
  exact ⟨rfl, rfl⟩

set_option maxRecDepth 100000 in
set_option maxHeartbeats 400000 in
theorem takeBlob_short (a : Option Addr) (len cap : Nat) (l : List UInt8) (w : World) (h : Has w a len cap l) (hc : (tkNum l).2.2 = 0) (hv : ¬ 65536 < (tkNum l).1) (hs : l.length - (tkNum l).2.1 < (tkNum l).1) :
    Calls Tryd.prog 17 #[.slice a len cap] w fun e w' => e = .returned (.tuple #[.slice none 0 0, .int .i64 0, .iface 30 (.int .i64 3)]) ∧ w' = w := by
  have ht := takeNum_any a len cap l w h
  have hbd := tkNum_bd l hc
  have hl := h.1
  have hm : len ≤ maxLen := Nat.le_trans h.2.1 h.2.2.1
  unfold maxLen at hm
  rw [hc, show errV 0 = .nilIface by simp [errV]] at ht
  generalize (tkNum l).1 = v at *
  generalize (tkNum l).2.1 = u at *
  have hv' : ¬ (65536 : Int) < (v : Int) := by omega
  have hs' : (len : Int) - (u : Int) < (v : Int) := by omega
  clear hc h hl hs hv
  go_enter Tryd.func17, Tryd.ntmps17
  go_wp2_with fail
  refine ht.mono ?_
  rintro e w1 ⟨rfl, rfl⟩
  go_wp2
  go_ret3
  exact ⟨rfl, rfl⟩

/-- A part of the bytes of a slice. -/
theorem Has.cut {w : World} {b off len cap : Nat} {l : List UInt8} (h : Has w (some ⟨b, off, none⟩) len cap l) (i j : Nat) (hij : i ≤ j) (hj : j ≤ len) {a : Option Addr} (ha : ¬ cap = i → a = some ⟨b, off + i, none⟩) (hn : a ≠ none) :
    Has w a (j - i) (cap - i) ((l.drop i).take (j - i)) := by
  obtain ⟨h1, h2, h3, h4, h5⟩ := h
  refine ⟨by simp; omega, by omega, by omega, fun e => absurd e hn, fun h0 => ?_⟩
  obtain ⟨b', off', e, hlt, hc⟩ := h5 (by omega)
  cases e
  refine ⟨b, off + i, ha (by omega), hlt, fun k hk => ?_⟩
  simp at hk
  rw [Nat.add_assoc, hc (i + k) (by omega)]
  simp

set_option maxRecDepth 100000 in
set_option maxHeartbeats 400000 in
theorem takeBlob_ok (a : Option Addr) (len cap : Nat) (l : List UInt8) (w : World) (h : Has w a len cap l) (hc : (tkNum l).2.2 = 0) (hv : ¬ 65536 < (tkNum l).1) (hs : ¬ l.length - (tkNum l).2.1 < (tkNum l).1) :
    Calls Tryd.prog 17 #[.slice a len cap] w fun e w' => e = .returned (.tuple #[.slice (some ⟨w.heap.size, 0, none⟩) (tkNum l).1 (tkNum l).1, .int .i64 (((tkNum l).2.1 + (tkNum l).1 : Nat) : Int), .nilIface]) ∧
      w'.ownsRow w.heap.size 5 1 (.slice (some ⟨w.heap.size, 0, none⟩) (tkNum l).1 (tkNum l).1) (tkNum l).1 (((l.drop (tkNum l).2.1).take (tkNum l).1).map bv) ∧ Below w.heap.size w w' := by
  have ht := takeNum_any a len cap l w h
  have hbd := tkNum_bd l hc
  have hl := h.1
  have hm : len ≤ maxLen := Nat.le_trans h.2.1 h.2.2.1
  have hcm : cap ≤ maxLen := h.2.2.1
  have hlc : len ≤ cap := h.2.1
  unfold maxLen at hm hcm
  rw [hc, show errV 0 = .nilIface by simp [errV]] at ht
  generalize (tkNum l).1 = v at *
  generalize (tkNum l).2.1 = u at *
  have hv' : ¬ (65536 : Int) < (v : Int) := by omega
  have hs' : ¬ (len : Int) - (u : Int) < (v : Int) := by omega
  obtain ⟨b, off, rfl, _, _⟩ := h.2.2.2.2 (by omega)
  have hul : u ≤ len := by omega
  have huv : u + v ≤ len := by omega
  have e2 : (((u + v : Nat)) : Int) = (u : Int) + (v : Int) := by omega
  rw [e2]
  clear e2
  by_cases hcu : cap = u
  · subst hcu
    obtain rfl : v = 0 := by omega
    have HK : Has w (some ⟨b, off, none⟩) 0 0 ((l.drop cap).take 0) := ⟨by simp, Nat.le_refl _, by unfold maxLen; omega, fun e => (by cases e), fun h0 => absurd h0 (by omega)⟩
    clear hc h hl hs hv
    have hcp := copied_any _ 0 0 _ w HK (by omega)
    clear HK
    go_enter Tryd.func17, Tryd.ntmps17
    go_wp2_with fail
    refine ht.mono ?_
    rintro e w1 ⟨rfl, rfl⟩
    go_wp2_with fail
    refine hcp.mono ?_
    rintro e w2 ⟨rfl, hown2, hb2⟩
    go_wp2
    go_ret3
    exact ⟨rfl, hown2, hb2⟩
  · have HK := h.cut u (u + v) (by omega) (by omega) (a := some ⟨b, off + u, none⟩) (fun _ => rfl) (by simp)
    rw [Nat.add_sub_cancel_left] at HK
    clear hc h hl hs hv
    have hcp := copied_any _ v (cap - u) _ w HK (by omega)
    clear HK
    go_enter Tryd.func17, Tryd.ntmps17
    go_wp2_with fail
    refine ht.mono ?_
    rintro e w1 ⟨rfl, rfl⟩
    go_wp2_with fail
    refine hcp.mono ?_
    rintro e w2 ⟨rfl, hown2, hb2⟩
    go_wp2
    go_ret3
    exact ⟨rfl, hown2, hb2⟩
end Go.Proofs.YtipkjiacikdmmaaDoor
