/-
  What wire.Blob, wire.TakeBlob and the document's own answers leave, in one form for all their ways. Conditions: those that each theorem names.
-/
import Derived.Test.YtipkjiacikdmmaaDoorTkB
import Derived.Test.YtipkjiacikdmmaaDoorRTake
import Derived.Test.YtipkjiacikdmmaaDoorOwned
import Derived.Test.YtipkjiacikdmmaaDoorCode
import Derived.Test.YtipkjiacikdmmaaDoorNums
namespace Go.Proofs.YtipkjiacikdmmaaDoor
open Go.RowKit
set_option linter.unusedVariables false

/-- What a call handed back: a row of its own (none: nil) that holds these bytes. -/
structure Got (B : Nat) (w : World) (r : Option Nat × Nat × Nat) (l : List UInt8) : Prop where
  has : Has w (r.1.map fun g => (⟨g, 0, none⟩ : Addr)) r.2.1 r.2.2 l
  ob : ∀ g, r.1 = some g → OB w g r.2.2 ∧ B ≤ g
  cap : r.2.2 ≤ 281474976710656
theorem Got.below {B : Nat} {w w' : World} {r : Option Nat × Nat × Nat} {l : List UInt8} (h : Got B w r l) (hb : Below w.heap.size w w') : Got B w' r l :=
  ⟨h.has.below hb, fun g e => ⟨(h.ob g e).1.below hb (h.ob g e).1.lt, (h.ob g e).2⟩, h.cap⟩
theorem Got.conv {B : Nat} {w : World} {r : Option Nat × Nat × Nat} {l : List UInt8} (h : Got B w r l) : (convert 22 9 (rv r)).run Tryd.prog w = .ok (.string (bs l)) w := h.has.conv
theorem Got.nil (B : Nat) (w : World) : Got B w (none, 0, 0) [] := ⟨has_nil w, fun g e => (by cases e), by simp⟩
theorem Got.own {B g n : Nat} {w : World} {l : List UInt8} (h : w.ownsRow g 5 1 (.slice (some ⟨g, 0, none⟩) n n) n (l.map bv)) (hg : B ≤ g) (hn : n ≤ 281474976710656) : Got B w (some g, n, n) l :=
  ⟨Has.of_row h, fun g' e => (by cases e; exact ⟨ob_of_owns h, hg⟩), hn⟩

theorem has_blk (w : World) (l : List UInt8) (fz : Nat × Nat) (hm : l.length ≤ maxLen) : Has (w.alloc (.cells (l.map bv).toArray 5 fz)) (some ⟨w.heap.size, 0, none⟩) l.length l.length l := by
  refine ⟨rfl, Nat.le_refl _, hm, fun e => (by cases e), fun _ => ⟨w.heap.size, 0, rfl, by simp, fun i hi => ?_⟩⟩
  rw [Nat.zero_add]
  show (match (w.heap.push (Obj.cells (l.map bv).toArray 5 fz))[w.heap.size]? with | some (.cells c _ _) => _ | _ => _) = _
  simp [hi]

/-- A blob's bytes, and the error's number. -/
def blL (l : List UInt8) : List UInt8 := if 65536 < l.length then [] else blobB l
def blC (l : List UInt8) : Nat := if 65536 < l.length then 2 else 0
theorem blob_uni (a : Option Addr) (len cap : Nat) (l : List UInt8) (w : World) (h : Has w a len cap l) :
    Calls Tryd.prog 16 #[.slice a len cap] w fun e w' => ∃ r, e = .returned (.tuple #[rv r, errV (blC l)]) ∧ Hid (Got w.heap.size w' r (blL l)) ∧ Hid (Below w.heap.size w w') := by
  have hl := h.1
  by_cases hb : 65536 < l.length
  · refine (blob_long a len cap w (by omega)).mono fun e w' ⟨he, hw⟩ => ?_
    subst hw
    refine ⟨(none, 0, 0), ?_, ?_, Below.refl _ _⟩
    · rw [he, blC, if_pos hb]; rfl
    · rw [blL, if_pos hb]; exact Got.nil _ _
  · refine (blob_ok a len cap l w h (by omega)).mono fun e w' ⟨g, he, hg, hown, hbl⟩ => ?_
    have h8 := wid_le len
    refine ⟨(some g, 1 + wid len + len, 1 + wid len + len), ?_, ?_, hbl⟩
    · rw [he, blC, if_neg hb]; rfl
    · rw [blL, if_neg hb]; exact Got.own hown hg (by omega)
theorem takeBlob_uni (a : Option Addr) (len cap : Nat) (l : List UInt8) (w : World) (h : Has w a len cap l) :
    Calls Tryd.prog 17 #[.slice a len cap] w fun e w' => ∃ r, e = .returned (.tuple #[rv r, .int .i64 ((tkBlob l).2.1 : Int), errV (tkBlob l).2.2]) ∧ Hid (Got w.heap.size w' r (tkBlob l).1) ∧ Hid (Below w.heap.size w w') := by
  by_cases h0 : (tkNum l).2.2 = 0
  · by_cases h1 : 65536 < (tkNum l).1
    · refine (takeBlob_long a len cap l w h h0 h1).mono fun e w' ⟨he, hw⟩ => ?_
      subst hw
      have e1 : tkBlob l = ([], 0, 2) := by unfold tkBlob; rw [if_neg (by simpa using h0), if_pos h1]
      rw [e1]
      exact ⟨(none, 0, 0), he, Got.nil _ _, Below.refl _ _⟩
    · by_cases h2 : l.length - (tkNum l).2.1 < (tkNum l).1
      · refine (takeBlob_short a len cap l w h h0 h1 h2).mono fun e w' ⟨he, hw⟩ => ?_
        subst hw
        have e1 : tkBlob l = ([], 0, 3) := by unfold tkBlob; rw [if_neg (by simpa using h0), if_neg h1, if_pos h2]
        rw [e1]
        exact ⟨(none, 0, 0), he, Got.nil _ _, Below.refl _ _⟩
      · refine (takeBlob_ok a len cap l w h h0 h1 h2).mono fun e w' ⟨he, hown, hb⟩ => ?_
        have e1 : tkBlob l = ((l.drop (tkNum l).2.1).take (tkNum l).1, (tkNum l).2.1 + (tkNum l).1, 0) := by unfold tkBlob; rw [if_neg (by simpa using h0), if_neg h1, if_neg h2]
        rw [e1]
        exact ⟨(some w.heap.size, (tkNum l).1, (tkNum l).1), he, Got.own hown (Nat.le_refl _) (by omega), hb⟩
  · refine (takeBlob_err a len cap _ l w h rfl h0).mono fun e w' ⟨he, hw⟩ => ?_
    subst hw
    have e1 : tkBlob l = ([], 0, (tkNum l).2.2) := by unfold tkBlob; rw [if_pos h0]
    rw [e1]
    refine ⟨(none, 0, 0), ?_, Got.nil _ _, Below.refl _ _⟩
    rw [he]
    simp [errV, h0, rv]

set_option maxRecDepth 100000 in
set_option maxHeartbeats 1000000 in
theorem rblob_uni (a : Option Addr) (len cap : Nat) (l : List UInt8) (w : World) (h : Has w a len cap l) :
    Calls Tryd.prog 18 #[.slice a len cap] w fun e w' => ∃ (b : Option Addr) (n c : Nat), e = .returned (.tuple #[.slice b n c, .int .i64 (blC l : Int)]) ∧ Hid (Has w' b n c (blL l)) ∧ Hid (Below w.heap.size w w') := by
  have hl := h.1
  have HH : Hid (Has w a len cap l) := h
  clear h
  by_cases hb : 65536 < l.length
  · have HC : Hid (blC l = 2 ∧ blL l = []) := ⟨by rw [blC, if_pos hb], by rw [blL, if_pos hb]⟩
    have hb' : (65536 : Int) < (len : Int) := by omega
    clear hb hl
    go_enter Tryd.func18, Tryd.ntmps18
    go_wp2
    go_ret2
    rw [HC.out.1, HC.out.2]
    exact ⟨_, _, _, rfl, has_nil _, Below.refl _ _⟩
  · have HC : Hid (blC l = 0 ∧ blL l = numB len ++ l) := ⟨by rw [blC, if_neg hb], by rw [blL, if_neg hb, blobB, hl]⟩
    have hb' : ¬ (65536 : Int) < (len : Int) := by omega
    have h8 := wid_le len
    have hlen : len ≤ 65536 := by omega
    clear hb hl
    go_enter Tryd.func18, Tryd.ntmps18
    go_wp2_with (first
      | (go_at_call 11; refine (rnum_pos len _ (by omega)).mono ?_; rintro e w1 ⟨g1, c1, rfl, hg1, hown1, hb1⟩; have HB1 : Hid (Below w.heap.size w w1) := hb1; clear hb1)
      | (at_builtin; refine wpList_app rfl (.tmp 15) (.tmp 16) rfl w.heap.size _ _ _ _ rfl hown1 _ _ _ l rfl (HH.out.below HB1.out) (by omega) HB1.out.size ?_; intro g2 c2 w2 hg2 hown2 hgr2; have HB2 : Hid (Below w.heap.size w w2) := HB1.out.grown hgr2 HB1.out.size (fun k e => by cases e; exact hg1); clear hgr2))
    go_ret2
    rw [HC.out.1, HC.out.2]
    refine ⟨_, _, _, rfl, ?_, HB2⟩
    exact Has.of_row (by rw [List.map_append]; exact hown2)

set_option maxRecDepth 100000 in
set_option maxHeartbeats 1000000 in
theorem rtakeBlob_uni (a : Option Addr) (len cap : Nat) (l : List UInt8) (w : World) (h : Has w a len cap l) :
    Calls Tryd.prog 19 #[.slice a len cap] w fun e w' => ∃ (b : Option Addr) (n c : Nat), e = .returned (.tuple #[.slice b n c, .int .i64 ((tkBlob l).2.1 : Int), .int .i64 ((tkBlob l).2.2 : Int)]) ∧ Hid (Has w' b n c (tkBlob l).1) ∧ Hid (Below w.heap.size w w') := by
  have ht := rtake_any a len cap l w h
  have hl := h.1
  have hm : len ≤ maxLen := Nat.le_trans h.2.1 h.2.2.1
  have hcm : cap ≤ maxLen := h.2.2.1
  have hlc : len ≤ cap := h.2.1
  unfold maxLen at hm hcm
  by_cases h0 : (tkNum l).2.2 = 0
  · have hbd := tkNum_bd l h0
    have hE : ∀ v, v = (tkNum l).2.2 → v = 0 := fun v e => e.trans h0
    rw [h0] at ht
    by_cases h1 : 65536 < (tkNum l).1
    · have e1 : tkBlob l = ([], 0, 2) := by unfold tkBlob; rw [if_neg (by simpa using h0), if_pos h1]
      rw [e1]
      generalize (tkNum l).1 = v at *
      generalize (tkNum l).2.1 = u at *
      have hv' : (65536 : Int) < (v : Int) := by omega
      clear e1 h0 h hE
      go_enter Tryd.func19, Tryd.ntmps19
      go_wp2_with fail
      refine ht.mono ?_
      rintro e w1 ⟨rfl, rfl⟩
      go_wp2
      go_ret3
      exact ⟨_, _, _, rfl, has_nil _, Below.refl _ _⟩
    · by_cases h2 : l.length - (tkNum l).2.1 < (tkNum l).1
      · have e1 : tkBlob l = ([], 0, 3) := by unfold tkBlob; rw [if_neg (by simpa using h0), if_neg h1, if_pos h2]
        rw [e1]
        generalize (tkNum l).1 = v at *
        generalize (tkNum l).2.1 = u at *
        have hv' : ¬ (65536 : Int) < (v : Int) := by omega
        have hs' : (len : Int) - (u : Int) < (v : Int) := by omega
        clear e1 h0 h hE hl h2 h1
        go_enter Tryd.func19, Tryd.ntmps19
        go_wp2_with fail
        refine ht.mono ?_
        rintro e w1 ⟨rfl, rfl⟩
        go_wp2
        go_ret3
        exact ⟨_, _, _, rfl, has_nil _, Below.refl _ _⟩
      · have e1 : tkBlob l = ((l.drop (tkNum l).2.1).take (tkNum l).1, (tkNum l).2.1 + (tkNum l).1, 0) := by unfold tkBlob; rw [if_neg (by simpa using h0), if_neg h1, if_neg h2]
        rw [e1]
        generalize (tkNum l).1 = v at *
        generalize (tkNum l).2.1 = u at *
        have hv' : ¬ (65536 : Int) < (v : Int) := by omega
        have hs' : ¬ (len : Int) - (u : Int) < (v : Int) := by omega
        obtain ⟨b, off, rfl, _, _⟩ := h.2.2.2.2 (by omega)
        have hul : u ≤ len := by omega
        have huv : u + v ≤ len := by omega
        have hu1 : 1 ≤ u := hbd.1
        have e2 : (((u + v : Nat)) : Int) = (u : Int) + (v : Int) := by omega
        simp only
        rw [e2]
        clear e2 e1 h0 hE
        have HK : Hid (∀ a : Option Addr, (¬ cap = u → a = some ⟨b, off + u, none⟩) → a ≠ none → Has w a v (cap - u) ((l.drop u).take v)) := by
          intro a ha hn
          have := h.cut u (u + v) (by omega) (by omega) ha hn
          rw [Nat.add_sub_cancel_left] at this
          exact this
        clear h hl h2 h1
        by_cases hcu : cap = u
        · subst hcu
          have hv0 : v = 0 := by omega
          subst hv0
          have HK2 := HK.out (some ⟨b, off, none⟩) (fun h => absurd rfl h) (by simp)
          rw [Nat.sub_self] at HK2
          have HK3 : Hid (Has w (some ⟨b, off, none⟩) 0 0 ((l.drop cap).take 0)) := HK2
          clear HK2 HK
          go_enter Tryd.func19, Tryd.ntmps19
          go_wp2_with fail
          refine ht.mono ?_
          rintro e w1 ⟨rfl, rfl⟩
          go_wp2_with (at_builtin; (refine wpList_app rfl (.tmp 25) (.tmp 31) rfl w1.heap.size w1.heap.size 0 0 [] rfl (owns_empty _ _ (Nat.le_refl _)) _ _ _ ((l.drop cap).take 0) rfl (HK3.out.below ((Below.refl _ _).alloc (Nat.le_refl _) _)) (by omega) (by simp) ?_; intro g2 c2 w2 hg2 hown2 hgr2))
          go_ret3
          refine ⟨_, _, _, rfl, ?_, ((Below.refl _ _).alloc (Nat.le_refl _) _).grown hgr2 (by simp) (fun k e => by cases e; exact Nat.le_refl _)⟩
          simp only [Nat.zero_add, List.nil_append] at hown2
          exact Has.of_row hown2
        · have HK2 := HK.out (some ⟨b, off + u, none⟩) (fun _ => rfl) (by simp)
          have HK3 : Hid (Has w (some ⟨b, off + u, none⟩) (u + v - u) (cap - u) ((l.drop u).take v)) := by
            show Has w (some ⟨b, off + u, none⟩) (u + v - u) (cap - u) ((l.drop u).take v)
            rw [Nat.add_sub_cancel_left]
            exact HK2
          clear HK2 HK
          go_enter Tryd.func19, Tryd.ntmps19
          go_wp2_with fail
          refine ht.mono ?_
          rintro e w1 ⟨rfl, rfl⟩
          go_wp2_with (at_builtin; (refine wpList_app rfl (.tmp 25) (.tmp 31) rfl w1.heap.size w1.heap.size 0 0 [] rfl (owns_empty _ _ (Nat.le_refl _)) _ _ _ ((l.drop u).take v) rfl (HK3.out.below ((Below.refl _ _).alloc (Nat.le_refl _) _)) (by omega) (by simp) ?_; intro g2 c2 w2 hg2 hown2 hgr2))
          go_ret3
          refine ⟨_, _, _, rfl, ?_, ((Below.refl _ _).alloc (Nat.le_refl _) _).grown hgr2 (by simp) (fun k e => by cases e; exact Nat.le_refl _)⟩
          simp only [Nat.zero_add, List.nil_append, Nat.add_sub_cancel_left] at hown2
          exact Has.of_row hown2
  · have e1 : tkBlob l = ([], 0, (tkNum l).2.2) := by unfold tkBlob; rw [if_pos h0]
    rw [e1]
    have hz : (((tkNum l).2.2 : Int) != 0) = true := by rw [bne_iff_ne]; omega
    simp only
    generalize (tkNum l).1 = v at *
    generalize (tkNum l).2.1 = u at *
    generalize (tkNum l).2.2 = c at *
    clear e1 h0 h
    go_enter Tryd.func19, Tryd.ntmps19
    go_wp2_with fail
    refine ht.mono ?_
    rintro e w1 ⟨rfl, rfl⟩
    go_wp2
    go_ret3
    exact ⟨_, _, _, rfl, has_nil _, Below.refl _ _⟩
end Go.Proofs.YtipkjiacikdmmaaDoor
