/-
  For every int n and any bytes p and b: muntinlaw01.WireBack answers true, and its arguments read as they did. No condition.
-/
import Derived.Test.YtipkjiacikdmmaaRows
import Derived.Test.YtipkjiacikdmmaaBackP
import Derived.Test.YtipkjiacikdmmaaApp
import Derived.ProofKit
import Derived.OpenShut
import Derived.Deep.DeepCutAuto
import Derived.Deep.QuietTactic
import Derived.BigQuiet
namespace Go.Proofs.Ytipkjiacikdmmaa
open Go.ChangeShapes Go.WideShapes Go.ChangeAt Go.RowKit
set_option linter.unusedVariables false

theorem val_bool {a b : Bool} (h : a = b) : Value.bool a = .bool b := by rw [h]
theorem tk_cases (x y : Nat) (h : x = y) : ((x : Int) != (y : Int)) = false := by subst h; simp

/-- What wire.Num left, for any int: a slice of the bytes l; the error. -/
def NumLeft (n : Int) (e : Value) (l : List UInt8) : Prop := (n < 0 ∧ e = .iface 33 (.int .i64 1) ∧ l = []) ∨ (0 ≤ n ∧ e = .nilIface ∧ l = numB n.toNat)
/-- What wire.Blob left. -/
def BlobLeft (p : List UInt8) (e : Value) (l : List UInt8) : Prop := (65536 < p.length ∧ e = .iface 33 (.int .i64 2) ∧ l = []) ∨ (p.length ≤ 65536 ∧ e = .nilIface ∧ l = blobB p)
theorem has_nil (w : World) : Has w none 0 0 [] := ⟨rfl, Nat.le_refl _, by unfold maxLen; omega, fun _ => rfl, fun h => absurd h (by omega)⟩
theorem numLeft_len {n : Int} {e : Value} {l : List UInt8} (h : NumLeft n e l) : l.length ≤ 9 := by
  rcases h with ⟨_, _, rfl⟩ | ⟨_, _, rfl⟩
  · simp
  · rw [numB_length]; have := wid_le n.toNat; omega

/-- What wire.TakeNum left. -/
def TkLeft (l : List UInt8) (v u : Nat) (ev : Value) : Prop := (tkNum l).1 = v ∧ (tkNum l).2.1 = u ∧ ev = errV (tkNum l).2.2
theorem takeNum_ex (a : Option Addr) (len cap : Nat) (l : List UInt8) (w : World) (h : Has w a len cap l) :
    Calls Try.prog 5 #[.slice a len cap] w fun e w' => ∃ (v u : Nat) (ev : Value), e = .returned (.tuple #[.int .i64 (v : Int), .int .i64 (u : Int), ev]) ∧ w' = w ∧ Hid (TkLeft l v u ev) :=
  (takeNum_any a len cap l w h).mono fun e w' ⟨he, hw⟩ => ⟨_, _, _, he, hw, rfl, rfl, rfl⟩
theorem tkLeft_num {m v u : Nat} {ev : Value} {b : List UInt8} (hm : m ≤ 9223372036854775807) (h : TkLeft (numB m ++ b) v u ev) : v = m ∧ u = 1 + wid m ∧ ev = .nilIface := by
  obtain ⟨h1, h2, h3⟩ := h
  rw [tkNum_numB m hm b] at h1 h2 h3
  exact ⟨h1.symm, h2.symm, by rw [h3]; rfl⟩

/-- What wire.TakeBlob left. -/
def BkLeft (w : World) (l : List UInt8) (aq : Option Addr) (lq cq u : Nat) (ev : Value) : Prop := Has w aq lq cq (tkBlob l).1 ∧ u = (tkBlob l).2.1 ∧ ev = errV (tkBlob l).2.2
theorem takeBlob_ex (a : Option Addr) (len cap : Nat) (l : List UInt8) (w : World) (h : Has w a len cap l) :
    Calls Try.prog 7 #[.slice a len cap] w fun e w' => ∃ (aq : Option Addr) (lq cq u : Nat) (ev : Value), e = .returned (.tuple #[.slice aq lq cq, .int .i64 (u : Int), ev]) ∧ Hid (Below w.heap.size w w') ∧ Hid (BkLeft w' l aq lq cq u ev) := by
  by_cases h0 : (tkNum l).2.2 = 0
  · by_cases h1 : 65536 < (tkNum l).1
    · refine (takeBlob_long a len cap l w h h0 h1).mono fun e w' ⟨he, hw⟩ => ?_
      subst hw
      refine ⟨none, 0, 0, 0, _, he, Below.refl _ _, ?_⟩
      have e1 : tkBlob l = ([], 0, 2) := by unfold tkBlob; rw [if_neg (by simpa using h0), if_pos h1]
      rw [BkLeft, e1]
      exact ⟨has_nil _, rfl, rfl⟩
    · by_cases h2 : l.length - (tkNum l).2.1 < (tkNum l).1
      · refine (takeBlob_short a len cap l w h h0 h1 h2).mono fun e w' ⟨he, hw⟩ => ?_
        subst hw
        refine ⟨none, 0, 0, 0, _, he, Below.refl _ _, ?_⟩
        have e1 : tkBlob l = ([], 0, 3) := by unfold tkBlob; rw [if_neg (by simpa using h0), if_neg h1, if_pos h2]
        rw [BkLeft, e1]
        exact ⟨has_nil _, rfl, rfl⟩
      · refine (takeBlob_ok a len cap l w h h0 h1 h2).mono fun e w' ⟨he, hown, hb⟩ => ?_
        refine ⟨_, _, _, _, _, he, hb, ?_⟩
        have e1 : tkBlob l = ((l.drop (tkNum l).2.1).take (tkNum l).1, (tkNum l).2.1 + (tkNum l).1, 0) := by unfold tkBlob; rw [if_neg (by simpa using h0), if_neg h1, if_neg h2]
        rw [BkLeft, e1]
        exact ⟨Has.of_row hown, rfl, rfl⟩
  · refine (takeBlob_err a len cap _ l w h rfl h0).mono fun e w' ⟨he, hw⟩ => ?_
    subst hw
    refine ⟨none, 0, 0, 0, _, he, Below.refl _ _, ?_⟩
    have e1 : tkBlob l = ([], 0, (tkNum l).2.2) := by unfold tkBlob; rw [if_pos h0]
    rw [BkLeft, e1]
    exact ⟨has_nil _, rfl, by simp [errV, h0]⟩
theorem tkBlob_blobB (p b : List UInt8) (h : p.length ≤ 65536) : tkBlob (blobB p ++ b) = (p, 1 + wid p.length + p.length, 0) := by
  unfold tkBlob
  rw [blob_back p b h]
  rw [if_neg (by simp), if_neg (by simp; omega), if_neg (by simp [blobB_length]; omega)]
  simp only
  rw [blob_part]
theorem blobLeft_len {p : List UInt8} {e : Value} {l : List UInt8} (h : BlobLeft p e l) : l.length ≤ 9 + 65536 := by
  rcases h with ⟨_, _, rfl⟩ | ⟨h, _, rfl⟩
  · simp
  · rw [blobB_length]; have := wid_le p.length; omega
theorem Has.drewN {w : World} {a : Option Addr} {len cap : Nat} {l : List UInt8} (h : Has w a len cap l) (q : Nat) : Has (w.drewN q) a len cap l := by
  obtain ⟨h1, h2, h3, h4, h5⟩ := h
  refine ⟨h1, h2, h3, h4, fun h0 => ?_⟩
  obtain ⟨b, off, ha, hlt, hc⟩ := h5 h0
  exact ⟨b, off, ha, by simpa using hlt, fun i hi => by simpa using hc i hi⟩

theorem tkBlob_back (b : List UInt8) (lb : Nat) (hl : b.length = lb) (h : (tkBlob b).2.2 = 0) : blobB (tkBlob b).1 = b.take (tkBlob b).2.1 ∧ 1 ≤ (tkBlob b).2.1 ∧ (tkBlob b).2.1 ≤ lb ∧ (tkBlob b).1.length ≤ 65536 := by
  by_cases h0 : (tkNum b).2.2 = 0
  · have hbd := tkNum_bd b h0
    by_cases h1 : 65536 < (tkNum b).1
    · have e1 : tkBlob b = ([], 0, 2) := by unfold tkBlob; rw [if_neg (by simpa using h0), if_pos h1]
      rw [e1] at h; cases h
    · by_cases h2 : b.length - (tkNum b).2.1 < (tkNum b).1
      · have e1 : tkBlob b = ([], 0, 3) := by unfold tkBlob; rw [if_neg (by simpa using h0), if_neg h1, if_pos h2]
        rw [e1] at h; cases h
      · have e1 : tkBlob b = ((b.drop (tkNum b).2.1).take (tkNum b).1, (tkNum b).2.1 + (tkNum b).1, 0) := by unfold tkBlob; rw [if_neg (by simpa using h0), if_neg h1, if_neg h2]
        rw [e1]
        refine ⟨blobB_tk b h0 h2, by simp; omega, by simp; omega, by simp; omega⟩
  · have e1 : tkBlob b = ([], 0, (tkNum b).2.2) := by unfold tkBlob; rw [if_pos h0]
    rw [e1] at h
    exact absurd h h0

set_option maxRecDepth 100000 in
set_option maxHeartbeats 2000000 in
theorem back_walk (n : Int) (hn0 : -9223372036854775808 ≤ n) (hn1 : n ≤ 9223372036854775807) (ap : Option Addr) (lp cp : Nat) (p : List UInt8) (ab : Option Addr) (lb cb : Nat) (b : List UInt8) (w : World)
    (hp : Has w ap lp cp p) (hb : Has w ab lb cb b) (lp1 : ¬ (1048576 : Int) < (lp : Int)) (lb1 : ¬ (1048576 : Int) < (lb : Int)) :
    Calls Try.prog 3 #[.int .i64 n, .slice ap lp cp, .slice ab lb cb] w fun e w' => e = .returned (.bool true) ∧ Below w.heap.size w w' := by
  have HP : Hid (Has w ap lp cp p) := hp
  have HB : Hid (Has w ab lb cb b) := hb
  clear hp hb
  go_enter Try.func3, Try.ntmps3
  go_upto_region 3 with fail
  go_cut [7, 8] (fun a e wx => ∃ ao la ca l, a = .slice ao la ca ∧ Has wx ao la ca l ∧ Below w.heap.size w wx ∧ NumLeft n e l)
  case first =>
    by_cases hn : n < 0
    · go_wp2_with fail
      refine (num_neg n _ hn).mono ?_
      rintro e w1 ⟨rfl, rfl⟩
      go_wp2_with fail
      go_meet
      case rel => exact ⟨_, _, _, [], rfl, has_nil _, Below.refl _ _, .inl ⟨hn, rfl, rfl⟩⟩
    · obtain ⟨m, rfl⟩ := Int.eq_ofNat_of_zero_le (show 0 ≤ n by omega)
      go_wp2_with fail
      refine (num_pos m _ (by omega)).mono ?_
      rintro e w1 ⟨rfl, hown1, hb1⟩
      go_wp2_with fail
      go_meet
      case rel => exact ⟨_, _, _, numB m, rfl, Has.of_row hown1, hb1, .inr ⟨by omega, rfl, by simp⟩⟩
  case rest =>
    obtain ⟨ao, la, ca, l, rfl, hHl, hbw, hleft⟩ := hcut
    have hll := numLeft_len hleft
    have hla := hHl.1
    have HL : Hid (Has wc ao la ca l) := hHl
    have HBw : Hid (Below w.heap.size w wc) := hbw
    have HLeft : Hid (NumLeft n _ l) := hleft
    clear hHl hbw hleft
    go_upto_region 5 with (first
      | (at_builtin; refine wpList_app rfl (.tmp 41) (.tmp 42) rfl wc.heap.size wc.heap.size 0 0 [] rfl (owns_empty _ _ (Nat.le_refl _)) _ _ _ l rfl (HL.out.below ((Below.refl _ _).alloc (Nat.le_refl _) _)) (by omega) (by simp) ?_; intro g2 c2 w2 hg2 hown2 hgr2; simp only [Nat.zero_add, List.nil_append] at hown2; have HB2 : Hid (Below wc.heap.size wc w2) := ((Below.refl _ _).alloc (Nat.le_refl _) _).grown hgr2 (by simp) (fun k e => by cases e; exact Nat.le_refl _); clear hgr2)
      | (at_builtin; refine wpList_app rfl (.tmp 43) (.tmp 44) rfl wc.heap.size _ _ _ _ rfl hown2 _ _ _ b rfl (HB.out.below (HBw.out.trans (HB2.out.mono HBw.out.size))) (by omega) HB2.out.size ?_; intro g3 c3 w3 hg3 hown3 hgr3; have HB3 : Hid (Below wc.heap.size wc w3) := HB2.out.grown hgr3 HB2.out.size (fun k e => by cases e; exact hg2); have HT : Hid (Has w3 _ _ _ (l ++ b)) := Has.of_row (by rw [List.map_append]; exact hown3); clear hown2 hown3 hgr3)
      | (go_at_call 5; refine (takeNum_ex _ _ _ (l ++ b) _ HT.out).mono ?_; rintro e w4 ⟨v, u, ev, rfl, hw4, hTk⟩; subst hw4))
    have HB4 : Hid (Below w.heap.size w w4) := HBw.out.trans (HB3.out.mono HBw.out.size)
    clear HB2 HB3 HT HL HBw
    go_cut [78] (fun c wx => c = .bool false ∧ wx = w4)
    case first =>
      rcases HLeft.out with ⟨hn, rfl, rfl⟩ | ⟨hn, rfl, rfl⟩
      · clear HLeft hTk
        go_wp2_with fail
        go_meet
        case rel => exact ⟨val_bool (by simp; omega), rfl⟩
      · obtain ⟨m, rfl⟩ := Int.eq_ofNat_of_zero_le (show 0 ≤ n by omega)
        obtain ⟨hv, hu, rfl⟩ := tkLeft_num (by omega) hTk.out
        obtain rfl : u = la := by rw [hu, ← hla, Int.toNat_natCast, numB_length]; omega
        rw [Int.toNat_natCast] at hv
        subst hv
        clear HLeft hTk hu
        have q2 : ((u : Int) == 0) = false := by rw [beq_eq_false_iff_ne, ← hla, Int.toNat_natCast, numB_length]; omega
        go_wp2_with fail
        go_meet
        case rel => exact ⟨rfl, rfl⟩
    case rest =>
      obtain ⟨rfl, rfl⟩ := hcut
      clear hTk HLeft hla hll
      go_upto_region 7 with fail
      go_cut [12, 13] (fun a e wx => ∃ ao la ca l, a = .slice ao la ca ∧ Has wx ao la ca l ∧ Below w.heap.size w wx ∧ BlobLeft p e l)
      case first =>
        have HPl : Hid (p.length = lp) := HP.out.1
        by_cases hlp : (65536 : Int) < (lp : Int)
        · go_wp2_with fail
          refine (blob_long ap lp cp _ hlp).mono ?_
          rintro e w1 ⟨rfl, rfl⟩
          go_wp2_with fail
          go_meet
          case rel => exact ⟨_, _, _, [], rfl, has_nil _, HB4.out, .inl ⟨by rw [HPl.out]; omega, rfl, rfl⟩⟩
        · go_wp2_with fail
          refine (blob_ok ap lp cp p _ (HP.out.below HB4.out) (by omega)).mono ?_
          rintro e w1 ⟨g, rfl, hg, hown1, hb1⟩
          go_wp2_with fail
          go_meet
          case rel => exact ⟨_, _, _, blobB p, rfl, Has.of_row hown1, HB4.out.trans (hb1.mono HB4.out.size), .inr ⟨by rw [HPl.out]; omega, rfl, rfl⟩⟩
      case rest =>
        clear HB4
        obtain ⟨ao2, la2, ca2, l2, rfl, hHl2, hbw2, hleft2⟩ := hcut
        have hll2 := blobLeft_len hleft2
        have hla2 := hHl2.1
        have HL2 : Hid (Has wc ao2 la2 ca2 l2) := hHl2
        have HBw2 : Hid (Below w.heap.size w wc) := hbw2
        have HLeft2 : Hid (BlobLeft p _ l2) := hleft2
        clear hHl2 hbw2 hleft2
        go_upto_region 9 with (first
          | (at_builtin; refine wpList_app rfl (.tmp 85) (.tmp 86) rfl wc.heap.size wc.heap.size 0 0 [] rfl (owns_empty _ _ (Nat.le_refl _)) _ _ _ l2 rfl (HL2.out.below ((Below.refl _ _).alloc (Nat.le_refl _) _)) (by omega) (by simp) ?_; intro g2 c2 w2 hg2 hown2 hgr2; simp only [Nat.zero_add, List.nil_append] at hown2; have HB2 : Hid (Below wc.heap.size wc w2) := ((Below.refl _ _).alloc (Nat.le_refl _) _).grown hgr2 (by simp) (fun k e => by cases e; exact Nat.le_refl _); clear hgr2)
          | (at_builtin; refine wpList_app rfl (.tmp 87) (.tmp 88) rfl wc.heap.size _ _ _ _ rfl hown2 _ _ _ b rfl (HB.out.below (HBw2.out.trans (HB2.out.mono HBw2.out.size))) (by omega) HB2.out.size ?_; intro g3 c3 w3 hg3 hown3 hgr3; have HB3 : Hid (Below wc.heap.size wc w3) := HB2.out.grown hgr3 HB2.out.size (fun k e => by cases e; exact hg2); have HT : Hid (Has w3 _ _ _ (l2 ++ b)) := Has.of_row (by rw [List.map_append]; exact hown3); clear hown2 hown3 hgr3)
          | (go_at_call 7; refine (takeBlob_ex _ _ _ (l2 ++ b) _ HT.out).mono ?_; rintro e w4 ⟨aq, lq, cq, uq, ev2, rfl, hw4, hBk⟩))
        have HB5 : Hid (Below w.heap.size w w3) := HBw2.out.trans (HB3.out.mono HBw2.out.size)
        have HB4 : Hid (Below w.heap.size w w4) := HB5.out.trans (hw4.out.mono HB5.out.size)
        clear HB2 HB3 HT HL2 HBw2 HB5 hw4
        go_cut [120] (fun c wx => c = .bool false ∧ wx = w4)
        case first =>
          have HPl : Hid (p.length = lp) := HP.out.1
          rcases HLeft2.out with ⟨hn, rfl, rfl⟩ | ⟨hn, rfl, rfl⟩
          · clear HLeft2 hBk
            have hlp : ¬ (lp : Int) ≤ 65536 := by have := HPl.out; omega
            go_wp2_with fail
            go_meet
            case rel => exact ⟨val_bool (by simp), rfl⟩
          · have hbk := hBk.out
            rw [BkLeft, tkBlob_blobB p b hn] at hbk
            obtain ⟨hq, hu2, rfl⟩ := hbk
            obtain rfl : uq = la2 := by rw [hu2, ← hla2, blobB_length]
            clear HLeft2 hBk hu2
            have cv1 := hq.conv
            have cv2 := (HP.out.below HB4.out).conv
            clear hq
            have hlp : (lp : Int) ≤ 65536 := by have := HPl.out; omega
            have e0 : errV 0 = .nilIface := rfl
            go_wp2_with fail
            go_meet
            case rel => exact ⟨rfl, rfl⟩
        case rest =>
          obtain ⟨rfl, rfl⟩ := hcut
          clear hBk HLeft2 hla2 hll2
          go_upto_region 11 with fail
          by_cases h0 : (tkNum b).2.2 = 0
          · have hbd := tkNum_bd b h0
            have HTk0 : Hid ((tkNum b).2.2 = 0) := h0
            clear h0
            have HBl : Hid (b.length = lb) := HB.out.1
            have hbd1 : 1 ≤ (tkNum b).2.1 := hbd.1
            have hbd2 : (tkNum b).2.1 ≤ lb := by rw [← HBl.out]; exact hbd.2.1
            have hbd3 : (tkNum b).1 ≤ 9223372036854775807 := hbd.2.2.1
            clear hbd
            have hlc : lb ≤ cb := HB.out.2.1
            have hcm : cb ≤ maxLen := HB.out.2.2.1
            unfold maxLen at hcm
            obtain ⟨bb, ob, hab, _⟩ := HB.out.2.2.2.2 (by omega)
            subst hab
            have htk := takeNum_any _ lb cb b wc (HB.out.below HB4.out)
            rw [HTk0.out, show errV 0 = .nilIface by simp [errV]] at htk
            have HNum : Hid (numB (tkNum b).1 = b.take (tkNum b).2.1) := numB_tkNum b HTk0.out
            have HBb2 : Hid ((tkBlob b).2.2 = 0 → blobB (tkBlob b).1 = b.take (tkBlob b).2.1 ∧ 1 ≤ (tkBlob b).2.1 ∧ (tkBlob b).2.1 ≤ lb ∧ (tkBlob b).1.length ≤ 65536) := tkBlob_back b lb HBl.out
            have HTT : Hid ((tkNum b).2.2 = 0) := HTk0
            clear HTk0
            generalize (tkNum b).1 = v3 at *
            generalize (tkNum b).2.1 = k3 at *
            go_wp2_with fail
            refine htk.mono ?_
            rintro e w5 ⟨rfl, rfl⟩
            go_wp2_with fail
            refine (num_pos v3 _ (by omega)).mono ?_
            rintro e w6 ⟨rfl, hown6, hb6⟩
            clear htk
            have HB6 : Hid (Below w.heap.size w w6) := HB4.out.trans (hb6.mono HB4.out.size)
            have hHb6 := HB.out.below HB6.out
            have cv1 := fun q => ((Has.of_row hown6).drewN q).conv
            have hcut6 := hHb6.cut 0 k3 (by omega) (by omega) (a := some ⟨bb, ob, none⟩) (fun _ => rfl) (by simp)
            simp only [Nat.sub_zero, List.drop_zero] at hcut6
            rw [← HNum.out] at hcut6
            have cv2 := fun q => (hcut6.drewN q).conv
            clear hcut6 hown6 hHb6 hb6
            have k1 : ¬ (k3 : Int) < 1 := by omega
            have k1' : decide ((k3 : Int) < 1) = false := by simp; omega
            have k2 : ¬ (lb : Int) < (k3 : Int) := by omega
            have k2' : decide ((lb : Int) < (k3 : Int)) = false := by simp; omega
            have k4 : (k3 : Int) ≤ (cb : Int) := by omega
            have k5 : ¬ cb = 0 := by omega
            go_upto_region 14 with fail
            go_cut [154] (fun c wx => c = .bool false ∧ Hid (Below w.heap.size w wx))
            case first =>
              go_quiet (fail)
              go_wp2_with fail
              go_meet
              case rel => exact ⟨val_bool (by simp; omega), below_drewN HB6.out _⟩
            case rest =>
              obtain ⟨rfl, HB7⟩ := hcut
              clear cv1 cv2 HB6 HB4 k1 k1' k2 k2' k4 hbd1 hbd2 hbd3 HNum
              have hBb := takeBlob_ex _ lb cb b wc (HB.out.below HB7.out)
              go_upto_region 16 with fail
              by_cases hz : (tkBlob b).2.2 = 0
              · obtain ⟨z1, z2, z3, z4⟩ := HBb2.out hz
                go_wp2_with fail
                refine hBb.mono ?_
                rintro e w8 ⟨aq8, lq8, cq8, uq8, ev8, rfl, hb8, hBk8⟩
                obtain ⟨hq8, hu8, he8⟩ := hBk8.out
                rw [hz, show errV 0 = .nilIface by simp [errV]] at he8
                subst he8
                have hl8 : (tkBlob b).1.length = lq8 := hq8.1
                rw [← hu8] at z1 z2 z3
                rw [hl8] at z4
                have HZ1 : Hid (blobB (tkBlob b).1 = b.take uq8) := z1
                have HQ8 : Hid (Has w8 aq8 lq8 cq8 (tkBlob b).1) := hq8
                have HB8 : Hid (Below w.heap.size w w8) := HB7.out.trans (hb8.out.mono HB7.out.size)
                clear hBk8 hz hBb hq8 hu8 z1 hl8 hb8 HBb2 HB7
                go_wp2_with fail
                refine (blob_ok aq8 lq8 cq8 _ _ HQ8.out (by omega)).mono ?_
                rintro e w9 ⟨g9, rfl, hg9, hown9, hb9⟩
                have HB9 : Hid (Below w.heap.size w w9) := HB8.out.trans (hb9.mono HB8.out.size)
                have hHb9 := HB.out.below HB9.out
                have cv1 := fun q => ((Has.of_row hown9).drewN q).conv
                have hcut9 := hHb9.cut 0 uq8 (by omega) (by omega) (a := some ⟨bb, ob, none⟩) (fun _ => rfl) (by simp)
                simp only [Nat.sub_zero, List.drop_zero] at hcut9
                rw [← HZ1.out] at hcut9
                have cv2 := fun q => (hcut9.drewN q).conv
                clear hcut9 hown9 hHb9 hb9 HZ1 HQ8 HB8 hg9
                have k1 : ¬ (uq8 : Int) < 1 := by omega
                have k1' : decide ((uq8 : Int) < 1) = false := by simp; omega
                have k2 : ¬ (lb : Int) < (uq8 : Int) := by omega
                have k2' : decide ((lb : Int) < (uq8 : Int)) = false := by simp; omega
                have k4 : (uq8 : Int) ≤ (cb : Int) := by omega
                go_upto_region 19 with fail
                go_cut [188] (fun c wx => c = .bool false ∧ Hid (Below w.heap.size w wx))
                case first =>
                  go_quiet (fail)
                  go_wp2_with fail
                  go_meet
                  case rel => exact ⟨val_bool (by simp; omega), below_drewN HB9.out _⟩
                case rest =>
                  obtain ⟨rfl, HB10⟩ := hcut
                  clear cv1 cv2
                  go_wp2
                  go_ret
                  exact ⟨rfl, HB10.out⟩
              · go_wp2_with fail
                refine hBb.mono ?_
                rintro e w8 ⟨aq8, lq8, cq8, uq8, ev8, rfl, hb8, hBk8⟩
                obtain ⟨c8, hc8⟩ : ∃ c : Nat, ev8 = .iface 33 (.int .i64 (c : Int)) := ⟨_, by rw [hBk8.out.2.2, errV, if_neg hz]⟩
                subst hc8
                have HB8 : Hid (Below w.heap.size w w8) := HB7.out.trans (hb8.out.mono HB7.out.size)
                clear hBk8 hz hBb hb8 HBb2 HB7
                go_wp2
                go_ret
                exact ⟨rfl, HB8.out⟩
          · have htk := takeNum_any _ lb cb b wc (HB.out.below HB4.out)
            obtain ⟨c3, hc3⟩ : ∃ c : Nat, errV (tkNum b).2.2 = .iface 33 (.int .i64 (c : Int)) := ⟨_, by rw [errV, if_neg h0]⟩
            rw [hc3] at htk
            clear hc3
            have hbb := takeBlob_err _ lb cb _ b wc (HB.out.below HB4.out) rfl h0
            generalize (tkNum b).1 = v3 at *
            generalize (tkNum b).2.1 = k3 at *
            generalize (tkNum b).2.2 = d3 at *
            go_wp2_with fail
            refine htk.mono ?_
            rintro e w5 ⟨rfl, rfl⟩
            clear htk h0
            go_wp2_with fail
            refine hbb.mono ?_
            rintro e w6 ⟨rfl, rfl⟩
            go_wp2
            go_ret
            exact ⟨rfl, HB4.out⟩
end Go.Proofs.Ytipkjiacikdmmaa
