/-
  For any rows of bytes: muntinlaw01.WireRows answers true. Conditions: those that each theorem names.
-/
import Derived.Test.YtipkjiacikdmmabDoorRowsMem
import Derived.Test.YtipkjiacikdmmabDoorTkB
import Derived.Test.YtipkjiacikdmmabDoorCode
import Derived.Deep.DeepCutAuto
import Derived.Deep.QuietTactic
import Derived.BigQuiet
namespace Go.Proofs.YtipkjiacikdmmabDoor
open Go.RowKit
set_option linter.unusedVariables false

theorem valB {a b : Bool} (h : a = b) : Value.bool a = .bool b := by rw [h]

set_option maxRecDepth 100000 in
set_option maxHeartbeats 4000000 in
theorem rows_walk (a : Option Addr) (len cap : Nat) (ls : List (List UInt8)) (w : World) (h : HasRows w a len cap ls) (hE : ErrIs w) :
    Calls Tryd.prog 5 #[.slice a len cap] w fun e w' => e = .returned (.bool true) ∧ Below w.heap.size w w' := by
  have HR : Hid (HasRows w a len cap ls) := h
  have HE : Hid (ErrIs w) := hE
  have HLs : Hid (ls.length = len) := h.1
  have hlm : len ≤ maxLen := Nat.le_trans h.2.1 h.2.2.1
  have hlc : len ≤ cap := h.2.1
  unfold maxLen at hlm
  clear h hE
  go_enter Tryd.func5, Tryd.ntmps5
  go_wp2_with fail
  go_loopw [3, 4] (fun b i wr => ∃ (k n : Nat) (av : Option Addr) (cv : Nat) (X : List UInt8), k ≤ len ∧ k ≤ 20 ∧ i = .int .i64 (k : Int) ∧ b = .slice av n cv ∧ n ≤ 65545 * k ∧
      wr.ownsRow w.heap.size 5 1 (.slice av n cv) n (X.map bv) ∧ Hid (X = cat (ls.take k)) ∧ Hid (∀ p ∈ ls.take k, p.length ≤ 65536) ∧ Hid (Below w.heap.size w wr)) (fun _ i _ => 20 - (intOf i).toNat)
  case atStart => exact ⟨0, 0, none, 0, [], Nat.zero_le _, by omega, rfl, rfl, by omega, World.ownsRow_nil _ _ _ _, rfl, fun p hp => (by simp at hp), Below.refl _ _⟩
  case round =>
    obtain ⟨k, n, av, cv, X, hk, hk20, rfl, rfl, hn, hown, HX, HA, HB⟩ := hrel
    by_cases hk1 : k < len ∧ k < 20
    · obtain ⟨hkl, hk2⟩ := hk1
      have hkl' : (k : Int) < (len : Int) := by omega
      have hk2' : (k : Int) < 20 := by omega
      obtain ⟨b, off, ha, _, hrow⟩ := (HR.out.below HB.out).2.2.2 (by omega)
      obtain ⟨ao, m, c, hcell, hHas⟩ := hrow k (by rw [HLs.out]; exact hkl)
      subst ha
      have hm := hHas.1
      have HHas : Hid (Has wr ao m c (ls[k]'(by rw [HLs.out]; exact hkl))) := hHas
      have HM : Hid ((ls[k]'(by rw [HLs.out]; exact hkl)).length = m) := hm
      clear hrow hHas hm
      by_cases hbig : (1048576 : Int) < (m : Int)
      · clear hown
        go_wp2
        go_ret
        exact ⟨rfl, HB.out⟩
      · by_cases hlong : (65536 : Int) < (m : Int)
        · clear hown
          go_wp2_with (go_at_call 11; refine (blob_long ao m c _ hlong).mono ?_; rintro e w1 ⟨rfl, rfl⟩)
          go_ret
          exact ⟨rfl, HB.out⟩
        · have hw8 := wid_le m
          have hblob := blob_ok ao m c _ wr HHas.out (by omega)
          go_wp2_with (first
            | (go_at_call 11; refine hblob.mono ?_; rintro e w1 ⟨g1, rfl, hg1, hown1, hb1⟩; have HB1 : Hid (Below wr.heap.size wr w1) := hb1; have hc1 := (hb1.cell (p := ⟨b, off + k, none⟩) (block_lt hcell)).trans hcell; have HC1 : Hid (Has w1 (some ⟨g1, 0, none⟩) (1 + wid m + m) (1 + wid m + m) (blobB (ls[k]'(by rw [HLs.out]; exact hkl)))) := Has.of_row hown1; have hO1 := hown.kept (row := none) ⟨hb1.os, hb1.tape, hb1.output, hb1.size, fun j hj _ => hb1.block j hj⟩ (by cases hq : (Value.slice av n cv).ownBlock <;> simp); clear hown1 hb1 hg1 hblob)
            | (at_builtin; refine wpList_grow rfl (.tmp 60) (.tmp 61) rfl w.heap.size _ _ _ rfl hO1 _ _ _ _ rfl HC1.out (by omega) (by omega) (Nat.le_trans HB.out.size HB1.out.size) ?_; intro g2 c2 w2 hg2 hown2 hgr2; have HB2 : Hid (Below w.heap.size w w2) := (HB.out.trans (HB1.out.mono HB.out.size)).grown hgr2 (Nat.le_trans HB.out.size HB1.out.size) (owned_block hO1); clear hgr2 hO1))
          go_roundw
          case rel =>
            have hkx : k < ls.length := by rw [HLs.out]; exact hkl
            refine ⟨k + 1, _, _, _, X ++ blobB ls[k], by omega, by omega, by go_num, rfl, by omega, ?_, ?_, ?_, HB2⟩
            · rw [List.map_append]; exact hown2
            · show X ++ blobB ls[k] = cat (ls.take (k + 1))
              rw [cat_take ls k hkx, HX.out]
            · intro p hp
              rw [List.take_succ_eq_append_getElem hkx, List.mem_append, List.mem_singleton] at hp
              rcases hp with hp | rfl
              · exact HA.out p hp
              · rw [HM.out]; omega
          case measure => simp [intOf]; omega
    · have hexit : (¬ (k : Int) < (len : Int)) ∨ ((k : Int) < (len : Int) ∧ ¬ (k : Int) < 20) := by omega
      have HK : Hid (k = len ∨ k = 20) := by show k = len ∨ k = 20; omega
      have hHX : Has wr av n cv X := Has.of_owned hown
      rw [HX.out] at hHX
      have HHX : Hid (Has wr av n cv (cat (ls.take k))) := hHX
      have HAll : Hid (∀ p ∈ ls.take k, p.length ≤ 65536) := HA
      clear hown hHX hk1
      rcases hexit with hx | ⟨hx, hx2⟩
      all_goals
        go_wp2_with fail
        go_loopw [3, 7] (fun b i wr => ∃ (j n : Nat) (av : Option Addr) (cv : Nat), j ≤ k ∧ i = .int .i64 (j : Int) ∧ b = .slice av n cv ∧ Hid (Has wr av n cv (cat ((ls.take k).drop j))) ∧ Hid (Below w.heap.size w wr)) (fun _ i _ => 20 - (intOf i).toNat)
        case atStart => exact ⟨0, n, av, cv, Nat.zero_le _, rfl, rfl, HHX, HB⟩
        case round =>
          clear HHX HB HX HA
          obtain ⟨j, n2, av2, cv2, hj, rfl, rfl, HH2, HB2⟩ := hrel
          by_cases hjk : j < k
          · have hjl' : (j : Int) < (len : Int) := by omega
            have hj2' : (j : Int) < 20 := by omega
            obtain ⟨b, off, ha, _, hrow⟩ := (HR.out.below HB2.out).2.2.2 (by omega)
            obtain ⟨ao, m, c, hcell, hHas⟩ := hrow j (by rw [HLs.out]; omega)
            subst ha
            have HHas : Hid (Has wr ao m c (ls[j]'(by rw [HLs.out]; omega))) := hHas
            clear hrow hHas
            have hjx : j < (ls.take k).length := by rw [List.length_take, HLs.out]; omega
            have hpj : (ls.take k)[j] = ls[j]'(by rw [HLs.out]; omega) := by simp
            have hcd := cat_drop (ls.take k) j hjx
            have hH2 := HH2.out
            rw [hcd, hpj] at hH2
            have htb := takeBlob_ex _ _ _ _ _ hH2
            have hlen2 := hH2.1
            rw [List.length_append] at hlen2
            have hbl := blobB_length (ls[j]'(by rw [HLs.out]; omega))
            have hbnd : (ls[j]'(by rw [HLs.out]; omega)).length ≤ 65536 := HAll.out _ (by rw [← hpj]; exact List.getElem_mem _)
            have hpos2 : 0 < n2 := by omega
            obtain ⟨b2, o2, ha2, _, _⟩ := hH2.2.2.2.2 hpos2
            subst ha2
            have hlc2 : n2 ≤ cv2 := hH2.2.1
            have hcm2 : cv2 ≤ maxLen := hH2.2.2.1
            unfold maxLen at hcm2
            have HH3 : Hid (Has wr (some ⟨b2, o2, none⟩) n2 cv2 (blobB (ls[j]'(by rw [HLs.out]; omega)) ++ cat ((ls.take k).drop (j + 1)))) := hH2
            have HTk : Hid (tkBlob (blobB (ls[j]'(by rw [HLs.out]; omega)) ++ cat ((ls.take k).drop (j + 1))) = (ls[j]'(by rw [HLs.out]; omega), 1 + wid (ls[j]'(by rw [HLs.out]; omega)).length + (ls[j]'(by rw [HLs.out]; omega)).length, 0)) := tkBlob_blobB _ _ hbnd
            clear hH2 hcd hpj
            go_upto_region 15 with (go_at_call 12; refine htb.mono ?_; rintro e w3 ⟨aq, lq, cq, uq, ev, rfl, HB3, HBk⟩)
            have hbk := HBk.out
            rw [BkLeft, HTk.out] at hbk
            obtain ⟨hq, hu, hev⟩ := hbk
            rw [show errV 0 = .nilIface by simp [errV]] at hev
            subst hev
            have hun : uq ≤ n2 := by rw [hu]; simp only; omega
            have hu1 : 1 ≤ uq := by rw [hu]; simp only; omega
            have HU : Hid (uq = (blobB (ls[j]'(by rw [HLs.out]; omega))).length) := by show uq = _; rw [hu, hbl]
            have cv1 := fun q => (hq.drewN q).conv
            have hc3 := (HB3.out.cell (p := ⟨b, off + j, none⟩) (block_lt hcell)).trans hcell
            have cv2' := fun q => ((HHas.out.below HB3.out).drewN q).conv
            have HW3 : Hid (Below w.heap.size w w3) := HB2.out.trans (HB3.out.mono HB2.out.size)
            clear hq hu HBk htb hcell HTk hlen2 hbl hbnd HHas
            have d1 : decide ((n2 : Int) < (uq : Int)) = false := by simp; omega
            have d1' : ¬ (n2 : Int) < (uq : Int) := by omega
            go_cut [96] (fun c wx => c = .bool false ∧ ∃ q, wx = w3.drewN q)
            case first =>
              go_quiet (fail)
              go_wp2_with fail
              go_meet
              case rel => exact ⟨valB (by simp), _, rfl⟩
            case rest =>
              obtain ⟨rfl, q, rfl⟩ := hcut
              clear cv1 cv2' hc3 d1
              have HH4 : Hid (∀ a : Option Addr, (¬ cv2 = uq → a = some ⟨b2, o2 + uq, none⟩) → a ≠ none → Has (w3.drewN q) a (n2 - uq) (cv2 - uq) (cat ((ls.take k).drop (j + 1)))) := by
                intro a ha hn
                have h1 := HH3.out.cut uq n2 (by omega) (Nat.le_refl _) ha hn
                have hl3 := HH3.out.1
                rw [List.drop_left' HU.out.symm, List.take_of_length_le (by rw [List.length_append, ← HU.out] at hl3; omega)] at h1
                exact (h1.below HB3.out).drewN q
              have HW4 : Hid (Below w.heap.size w (w3.drewN q)) := below_drewN HW3.out q
              clear HH3 HU HW3
              by_cases hcu : cv2 = uq
              · have hh5 := HH4.out (some ⟨b2, o2, none⟩) (fun h => absurd hcu h) (by simp)
                rw [show n2 - uq = 0 by omega, show cv2 - uq = 0 by omega] at hh5
                have HH5 : Hid (Has (w3.drewN q) (some ⟨b2, o2, none⟩) 0 0 (cat ((ls.take k).drop (j + 1)))) := hh5
                clear hh5 HH4
                subst hcu
                go_wp2
                go_roundw
                case rel => exact ⟨j + 1, 0, _, 0, by omega, by go_num, rfl, HH5, HW4⟩
                case measure => simp [intOf]; omega
              · have hh5 := HH4.out (some ⟨b2, o2 + uq, none⟩) (fun _ => rfl) (by simp)
                have HH5 : Hid (Has (w3.drewN q) (some ⟨b2, o2 + uq, none⟩) (n2 - uq) (cv2 - uq) (cat ((ls.take k).drop (j + 1)))) := hh5
                clear hh5 HH4
                go_wp2
                go_roundw
                case rel => exact ⟨j + 1, _, _, _, by omega, by go_num, rfl, HH5, HW4⟩
                case measure => simp [intOf]; omega
          · have hH2 := HH2.out
            have hjk2 : j = k := by omega
            rw [hjk2, List.drop_of_length_le (by simp; omega)] at hH2
            have hl2 : n2 = 0 := by have := hH2.1; simp [cat] at this; omega
            subst hl2
            have htb := takeBlob_err _ _ _ 3 _ _ hH2 rfl (by omega)
            have hcd := code_errno 3 wr (HE.out.below HB2.out HE.out.lt)
            have hexj : (¬ (j : Int) < (len : Int)) ∨ ((j : Int) < (len : Int) ∧ ¬ (j : Int) < 20) := by have := HK.out; omega
            clear hH2 HH2
            rcases hexj with hy | ⟨hy, hy2⟩
            all_goals
              go_wp2_with (first
                | (go_at_call 12; refine htb.mono ?_; rintro e w3 ⟨rfl, hw3⟩; subst hw3)
                | (go_at_call 10; refine hcd.mono ?_; rintro e w4 ⟨rfl, hb4⟩))
              all_goals
                go_ret
                exact ⟨rfl, HB2.out.trans (hb4.mono HB2.out.size)⟩
end Go.Proofs.YtipkjiacikdmmabDoor
