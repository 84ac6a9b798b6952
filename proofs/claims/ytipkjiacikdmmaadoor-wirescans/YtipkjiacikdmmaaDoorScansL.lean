/-
  For any rows of bytes, any numbers and any bytes: muntinlaw01.WireScans answers true. Conditions: those that each theorem names.
-/
import Derived.Test.YtipkjiacikdmmaaDoorScansP
import Derived.Deep.CutBlock
namespace Go.Proofs.YtipkjiacikdmmaaDoor
open Go.RowKit
set_option linter.unusedVariables false
/-- Bytes of the call's own. -/
def Own5 (w : World) (b : Value) (lim : Nat) (wx : World) : Prop := ∃ (av : Option Addr) (n cv : Nat) (X : List UInt8), b = .slice av n cv ∧ n ≤ lim ∧ Hid (wx.ownsRow w.heap.size 5 1 (.slice av n cv) n (X.map bv)) ∧ Hid (Below w.heap.size w wx)
theorem valS {a b : Bool} (h : a = b) : Value.bool a = .bool b := by rw [h]
set_option maxRecDepth 100000 in
set_option maxHeartbeats 8000000 in
theorem scans_walk (a0 : Option Addr) (n0 c0 : Nat) (ls : List (List UInt8)) (at_ : Int) (by_ : UInt8) (cut : Int) (a4 : Option Addr) (n4 c4 : Nat) (t : List UInt8) (w : World) (h0 : HasRows w a0 n0 c0 ls) (h4 : Has w a4 n4 c4 t) (hE : ErrIs w) (hT : TabIs w)
    (ha0 : -9223372036854775808 ≤ at_) (ha1 : at_ ≤ 9223372036854775807) (hc0 : -9223372036854775808 ≤ cut) (hc1 : cut ≤ 9223372036854775807) :
    Calls Tryd.prog 7 #[.slice a0 n0 c0, .int .i64 at_, .int .u8 (by_.toNat : Int), .int .i64 cut, .slice a4 n4 c4] w fun e w' => e = .returned (.bool true) ∧ Below w.heap.size w w' := by
  have hby := by_.toNat_lt
  have hbyI : (by_.toNat : Int) < 256 := by omega
  by_cases hb4 : 1048576 < n4
  · have d4 : decide ((1048576 : Int) < (n4 : Int)) = true := by simp; omega
    clear h0 h4 hE hT
    go_enter Tryd.func7, Tryd.ntmps7
    go_wp2_with fail
    go_ret
    exact ⟨rfl, Below.refl _ _⟩
  have d4 : decide ((1048576 : Int) < (n4 : Int)) = false := by simp; omega
  have HR : Hid (HasRows w a0 n0 c0 ls) := h0
  have HLs : Hid (ls.length = n0) := h0.1
  have hlm : n0 ≤ maxLen := Nat.le_trans h0.2.1 h0.2.2.1
  have hlc : n0 ≤ c0 := h0.2.1
  unfold maxLen at hlm
  have H4 : Hid (Has w a4 n4 c4 t) := h4
  have HE : Hid (ErrIs w) := hE
  have HT : Hid (TabIs w) := hT
  clear h0 h4 hE hT
  go_enter Tryd.func7, Tryd.ntmps7
  go_upto_block 0 with fail
  go_cut [11, 12] (fun b i wx => Own5 w b 31457520 wx)
  case first =>
    go_wp2_with fail
    go_loopw [11, 12] (fun b i wr => ∃ (k : Nat), k ≤ n0 ∧ k ≤ 30 ∧ i = .int .i64 (k : Int) ∧ Own5 w b (1048584 * k) wr) (fun _ i _ => 30 - (intOf i).toNat)
    case atStart => exact ⟨0, Nat.zero_le _, by omega, rfl, none, 0, 0, [], rfl, by omega, World.ownsRow_nil _ _ _ _, Below.refl _ _⟩
    case round =>
      obtain ⟨k, hk, hk30, rfl, av, n, cv, X, rfl, hn, HO, HB⟩ := hrel
      by_cases hk1 : k < n0 ∧ k < 30
      · obtain ⟨hkl, hk2⟩ := hk1
        have hkl' : (k : Int) < (n0 : Int) := by omega
        have hk2' : (k : Int) < 30 := by omega
        obtain ⟨b, off, ha, _, hrow⟩ := (HR.out.below HB.out).2.2.2 (by omega)
        obtain ⟨ao, m, c, hcell, hHas⟩ := hrow k (by rw [HLs.out]; exact hkl)
        subst ha
        obtain ⟨p, hp⟩ : ∃ p, p = ls[k]'(by rw [HLs.out]; exact hkl) := ⟨_, rfl⟩
        rw [← hp] at hHas
        have hm := hHas.1
        have HHas : Hid (Has wr ao m c p) := hHas
        have HM : Hid (p.length = m) := hm
        clear hrow hHas hm hp
        by_cases hlong : 1048576 < m
        · have dl : decide ((1048576 : Int) < (m : Int)) = true := by simp; omega
          go_wp2_with fail
          go_ret
          exact ⟨by simp, HB.out⟩
        · have dl : decide ((1048576 : Int) < (m : Int)) = false := by simp; omega
          have HFr : Hid (frL p = frameB p ∧ (frL p).length = m + 8) := by
            have e : frL p = frameB p := by rw [frL, if_neg (by rw [HM.out]; omega)]
            exact ⟨e, by rw [e]; unfold frameB; simp [dig_length, HM.out]; omega⟩
          go_wp2_with fail
          refine (rframe_uni ao m c p _ HHas.out).mono ?_
          rintro e w1 ⟨bo, nn, cc, rfl, hH, hB1⟩
          have HH1 : Hid (Has w1 bo nn cc (frL p)) := hH
          obtain rfl : nn = m + 8 := by have := hH.out.1; have := HFr.out.2; omega
          have HO1 : Hid (w1.ownsRow w.heap.size 5 1 (.slice av n cv) n (X.map bv)) := HO.out.kept_below hB1.out
          have HW1 : Hid (Below w.heap.size w w1) := HB.out.trans (hB1.out.mono HB.out.size)
          clear hH hB1 HO
          go_wp2_with (first
            | (at_builtin; refine wpList_any rfl (.tmp 54) (.tmp 55) rfl w.heap.size _ _ _ rfl HO1.out _ _ _ (frL p) rfl HH1.out (by omega) HW1.out.size ?_; intro v2 w2 hown2 hgr2; obtain ⟨av2, cv2, rfl⟩ := own_shapeR hown2; have HO2 : Hid (w2.ownsRow w.heap.size 5 1 (.slice av2 (n + (m + 8)) cv2) (n + (m + 8)) ((X ++ frL p).map bv)) := (by rw [List.map_append]; exact hown2); have HB2 : Hid (Below w.heap.size w w2) := HW1.out.grown hgr2 HW1.out.size (owned_block HO1.out); clear hown2 hgr2))
          go_roundw
          case rel => exact ⟨k + 1, by omega, by omega, by go_num, av2, n + (m + 8), cv2, X ++ frL p, rfl, by omega, HO2, HB2⟩
          case measure => simp [intOf]; omega
      · have hexit : (¬ (k : Int) < (n0 : Int)) ∨ ((k : Int) < (n0 : Int) ∧ ¬ (k : Int) < 30) := by omega
        rcases hexit with hx | ⟨hx, hx2⟩
        · go_wp2_with fail
          go_meet
          case rel => exact ⟨av, n, cv, X, rfl, by omega, HO, HB⟩
        · go_wp2_with fail
          go_meet
          case rel => exact ⟨av, n, cv, X, rfl, by omega, HO, HB⟩
  case rest =>
    obtain ⟨av, n, cv, X, rfl, hn, HO, HB⟩ := hcut
    go_upto_region 11 with fail
    go_cut [11] (fun b wx => Own5 w b 32506096 wx)
    case first =>
      go_wp2_with (first
        | (at_builtin; refine wpList_any rfl (.tmp 57) (.tmp 58) rfl w.heap.size _ _ _ rfl HO.out _ _ _ t rfl (H4.out.below HB.out) (by omega) HB.out.size ?_; intro v2 w2 hown2 hgr2; obtain ⟨av2, cv2, rfl⟩ := own_shapeR hown2; have HO2 : Hid (w2.ownsRow w.heap.size 5 1 (.slice av2 (n + n4) cv2) (n + n4) ((X ++ t).map bv)) := (by rw [List.map_append]; exact hown2); have HB2 : Hid (Below w.heap.size w w2) := HB.out.grown hgr2 HB.out.size (owned_block HO.out); clear hown2 hgr2))
      go_meet
      case rel => exact ⟨av2, n + n4, cv2, X ++ t, rfl, by omega, HO2, HB2⟩
    case rest =>
      clear HO HB hn
      obtain ⟨av, n, cv, X, rfl, hn, HO, HB⟩ := hcut
      go_upto_region 12 with fail
      go_cut [67] (fun c wx => ∃ B : Bool, c = .bool B ∧ Hid (B = true → 0 ≤ at_ ∧ at_ < (n : Int)) ∧ wx = wc)
      case first =>
        by_cases h1 : at_ < 0
        · have d1 : decide (0 ≤ at_) = false := by simp; omega
          go_wp2_with fail
          go_meet
          case rel => exact ⟨false, rfl, (fun h => by cases h), rfl⟩
        · have d1 : decide (0 ≤ at_) = true := by simp; omega
          by_cases h2 : at_ < (n : Int)
          · have d2 : decide (at_ < (n : Int)) = true := by simpa using h2
            go_wp2_with fail
            go_meet
            case rel => exact ⟨true, rfl, fun _ => ⟨by omega, h2⟩, rfl⟩
          · have d2 : decide (at_ < (n : Int)) = false := by simpa using h2
            go_wp2_with fail
            go_meet
            case rel => exact ⟨false, rfl, (fun h => by cases h), rfl⟩
      case rest =>
        obtain ⟨B, rfl, HBo, rfl⟩ := hcut
        go_upto_if 67 with fail
        go_cut [11] (fun b wx => Own5 w b 32506096 wx)
        case first =>
          cases B with
          | true =>
            obtain ⟨q1, q2⟩ := HBo.out rfl
            obtain ⟨k, rfl⟩ := Int.eq_ofNat_of_zero_le q1
            obtain ⟨g, rfl, hcl, hfz, hnc, hcm, hbg⟩ := own_addrR HO.out (by omega)
            have hXl : X.length = n := by have := HO.out.1; simpa using this
            have hkX : k < X.length := by omega
            have hce := hcl k (by omega)
            rw [List.getElem?_map, List.getElem?_eq_getElem hkX] at hce
            have hfe := hfz k
            have hxr := xor_u8 X[k] by_
            have HO2 : Hid ((wc.setCell ⟨g, k, none⟩ (bv (X[k] ^^^ by_))).ownsRow w.heap.size 5 1 (.slice (some ⟨g, 0, none⟩) n cv) n ((X.set k (X[k] ^^^ by_)).map bv)) := own_setB HO.out k _
            have HB2 : Hid (Below w.heap.size w (wc.setCell ⟨g, k, none⟩ (bv (X[k] ^^^ by_)))) := HB.out.setCell (p := ⟨g, k, none⟩) hbg _
            have hu1 := (X[k]).toNat_lt
            unfold maxLen at hcm
            unfold bv at hce HO2 HB2
            simp only [Option.map_some] at hce
            generalize X.set k (X[k] ^^^ by_) = X2 at *
            generalize (X[k] ^^^ by_).toNat = z at *
            generalize (X[k]).toNat = y at *
            have hyI : (y : Int) < 256 := by omega
            clear hcl hfz HBo hkX hXl HO HB
            go_wp2_with fail
            go_meet
            case rel => exact ⟨some ⟨g, 0, none⟩, n, cv, X2, rfl, hn, HO2, HB2⟩
          | false =>
            clear HBo
            go_wp2_with fail
            go_meet
            case rel => exact ⟨av, n, cv, X, rfl, hn, HO, HB⟩
        case rest =>
          clear HO HB hn HBo
          obtain ⟨av, n, cv, X, rfl, hn, HO, HB⟩ := hcut
          go_upto_region 14 with fail
          go_cut [84] (fun c wx => ∃ B : Bool, c = .bool B ∧ Hid (B = true → 0 ≤ cut ∧ cut < (n : Int)) ∧ wx = wc)
          case first =>
            by_cases h1 : cut < 0
            · have d1 : decide (0 ≤ cut) = false := by simp; omega
              go_wp2_with fail
              go_meet
              case rel => exact ⟨false, rfl, (fun h => by cases h), rfl⟩
            · have d1 : decide (0 ≤ cut) = true := by simp; omega
              by_cases h2 : cut < (n : Int)
              · have d2 : decide (cut < (n : Int)) = true := by simpa using h2
                go_wp2_with fail
                go_meet
                case rel => exact ⟨true, rfl, fun _ => ⟨by omega, h2⟩, rfl⟩
              · have d2 : decide (cut < (n : Int)) = false := by simpa using h2
                go_wp2_with fail
                go_meet
                case rel => exact ⟨false, rfl, (fun h => by cases h), rfl⟩
          case rest =>
            obtain ⟨B, rfl, HBo, rfl⟩ := hcut
            go_upto_if 84 with fail
            go_cut [11] (fun b wx => ∃ (av : Option Addr) (n cv : Nat) (X : List UInt8), b = .slice av n cv ∧ n ≤ 32506096 ∧ Hid (Has wx av n cv X) ∧ Hid (Below w.heap.size w wx))
            case first =>
              cases B with
              | true =>
                obtain ⟨q1, q2⟩ := HBo.out rfl
                obtain ⟨k, rfl⟩ := Int.eq_ofNat_of_zero_le q1
                obtain ⟨g, rfl, hcl, hfz, hnc, hcm, hbg⟩ := own_addrR HO.out (by omega)
                have hkc : (k : Int) ≤ (cv : Int) := by omega
                have HH2 : Hid (Has wc (some ⟨g, 0, none⟩) k cv (X.take k)) := (Has.of_owned HO.out).preR k (by omega)
                unfold maxLen at hcm
                clear hcl hfz HBo HO
                go_wp2_with fail
                go_meet
                case rel => exact ⟨some ⟨g, 0, none⟩, k, cv, X.take k, rfl, by omega, HH2, HB⟩
              | false =>
                clear HBo
                go_wp2_with fail
                go_meet
                case rel => exact ⟨av, n, cv, X, rfl, hn, Has.of_owned HO.out, HB⟩
            case rest =>
              clear HO HB hn HBo
              obtain ⟨av, n, cv, X, rfl, hn, HX, HB⟩ := hcut
              have HXl : Hid (X.length = n) := HX.out.1
              go_wp2_with fail
              refine (lent_any av n cv X _ HX.out (by omega)).mono ?_
              rintro e w1 ⟨rfl, hl1, hB1⟩
              obtain ⟨gin, hgin⟩ : ∃ gin, gin = wc.heap.size := ⟨_, rfl⟩
              have HG : Hid (w.heap.size ≤ gin) := by rw [hgin]; exact HB.out.size
              have HL1 : Hid (LentIs w1 gin X) := by rw [hgin]; exact hl1
              have HB1 : Hid (Below w.heap.size w w1) := HB.out.trans (hB1.mono HB.out.size)
              have HX1 : Hid (Has w1 av n cv X) := HX.out.below hB1
              have HSz1 : Hid (gin < w1.heap.size) := HL1.out.lt
              rw [← hgin]
              clear hl1 hB1 HX HB hgin
              obtain ⟨SC, hSC⟩ : ∃ SC, SC = scanN n X := ⟨_, rfl⟩
              have hscan := scan_any (some ⟨gin, 0, none⟩) n (n + 1) X w1 (by have := HL1.out.has (by rw [HXl.out]; unfold maxLen; omega); rw [HXl.out] at this; exact this) (HT.out.below HB1.out HT.out.lt) (by omega)
              have hfew := scan_few n X
              rw [← hSC] at hscan hfew
              have HSCe : Hid (scanN n X = SC) := hSC.symm
              obtain ⟨ps, u, c⟩ := SC
              simp only at hscan hfew
              have HPs : Hid (∀ p ∈ ps, p.length ≤ 1073741824) := fun p hp => by have := hfew.2 p hp; have := HXl.out; omega
              have hN : ps.length ≤ 134217728 := by have := hfew.1; have := HXl.out; omega
              have HScan : Hid (Calls _ _ _ _ _) := hscan
              clear hscan hfew hSC
              go_wp2_with fail
              refine HScan.out.mono ?_
              rintro e w2 ⟨v, gs, ev, rfl, hev, HO2, HP2, hB2⟩
              have hev' := hev.out
              subst hev'
              obtain ⟨al, cl, rfl⟩ := own_shapeR HO2.out
              have HB2 : Hid (Below w.heap.size w w2) := HB1.out.trans (hB2.out.mono HB1.out.size)
              have HX2 : Hid (Has w2 av n cv X) := HX1.out.below hB2.out
              have HL2 : Hid (LentIs w2 gin X) := HL1.out.below hB2.out HL1.out.lt
              have HZ12 : Hid (w1.heap.size ≤ w2.heap.size) := hB2.out.size
              clear hB2 HX1 HL1 hev HB1 HScan
              go_wp2_with fail
              have hrs := rscan_any av n cv X w2 HX2.out (by omega)
              rw [HSCe.out] at hrs
              refine hrs.mono ?_
              clear hrs
              rintro e w3 ⟨vw, vs, rfl, HO3, HP3, hB3⟩
              simp only at HO3 HP3
              obtain ⟨aw, cw, rfl⟩ := own_shapeR HO3.out
              have HB3 : Hid (Below w.heap.size w w3) := HB2.out.trans (hB3.out.mono HB2.out.size)
              have HX3 : Hid (Has w3 av n cv X) := HX2.out.below hB3.out
              have HL3 : Hid (LentIs w3 gin X) := HL2.out.below hB3.out HL2.out.lt
              have HO2b : Hid (w3.ownsRow w1.heap.size 22 1 (.slice al ps.length cl) ps.length (svs gs ps)) := HO2.out.kept_below hB3.out
              have HP2b : Hid (OwnParts w3 w1.heap.size gs ps) := HP2.out.kept (fun x hx => hB3.out.block x (HP2.out.lt x hx))
              have HZ23 : Hid (w2.heap.size ≤ w3.heap.size) := hB3.out.size
              clear hB3 HX2 HL2 HO2 HP2 HB2 HSCe
              go_wp2_with fail
              have hkp := kept_any gin av cv X w3 HL3.out (by rw [HXl.out]; exact HX3.out) (by rw [HXl.out]; omega)
              rw [HXl.out] at hkp
              refine hkp.mono ?_
              clear hkp
              rintro e w4 ⟨rfl, hw⟩
              subst hw
              obtain ⟨N, hN2⟩ : ∃ N, N = ps.length := ⟨_, rfl⟩
              have HN : Hid (N = ps.length) := hN2
              rw [← hN2] at HO2b HO3 hN ⊢
              clear hN2
              go_wp2_with fail
              refine (code_errV c _ (HE.out.below HB3.out HE.out.lt)).mono ?_
              rintro e w5 ⟨rfl, hb5⟩
              have HB5 : Hid (Below w.heap.size w w5) := HB3.out.trans (hb5.mono HB3.out.size)
              have HL5 : Hid (LentIs w5 gin X) := HL3.out.below hb5 HL3.out.lt
              have HO5 : Hid (w5.ownsRow w1.heap.size 22 1 (.slice al N cl) N (svs gs ps)) := HO2b.out.kept_below hb5
              have HOw5 : Hid (w5.ownsRow w4.heap.size 22 1 (.slice aw N cw) N vs) ∨ True := .inr trivial
              have HP5 : Hid (OwnParts w5 w1.heap.size gs ps) := HP2b.out.kept (fun x hx => hb5.block x (HP2b.out.lt x hx))
              have HW5 : Hid (∃ B, w5.ownsRow B 22 1 (.slice aw N cw) N vs) := ⟨_, HO3.out.kept_below hb5⟩
              have HQ5 : Hid (Prt w5 vs ps) := HP3.out.below hb5
              have HZ15 : Hid (w1.heap.size ≤ w5.heap.size) := Nat.le_trans (Nat.le_trans HZ12.out HZ23.out) hb5.size
              clear hb5 HL3 HO2b HP2b HO3 HP3 HB3 HX3 HOw5
              go_wp2_with fail
              go_loopw [23] (fun i wr => ∃ j q : Nat, j ≤ N ∧ i = .int .i64 (j : Int) ∧ wr = w5.drewN q) (fun i _ => N - (intOf i).toNat)
              case atStart => exact ⟨0, 0, Nat.zero_le _, rfl, rfl⟩
              case round =>
                obtain ⟨j, q, hj, rfl, rfl⟩ := hrel
                by_cases hjN : j < N
                · have hjN' : (j : Int) < (N : Int) := by omega
                  obtain ⟨gl, rfl, hcl, _, hl1, hl2, _⟩ := own_addrR HO5.out (by omega)
                  obtain ⟨Bw, hw5⟩ := HW5.out
                  obtain ⟨gw, rfl, hcw, _, hw1, hw2, _⟩ := own_addrR hw5 (by omega)
                  have hjp : j < ps.length := by rw [← HN.out]; exact hjN
                  have hjg : j < gs.length := by rw [HP5.out.len]; exact hjp
                  have e1 := hcl j hjN
                  rw [svs_get gs ps j hjg hjp] at e1
                  obtain ⟨ao, m2, c2, hv, hH2, _⟩ := HQ5.out.row j hjp
                  have e2 := hcw j hjN
                  rw [hv] at e2
                  have hH1 := has_block ps[j] (HP5.out.block j hjg hjp) rfl (by have := HPs.out _ (List.getElem_mem hjp); unfold maxLen; omega)
                  generalize ps[j] = p at *
                  generalize gs[j] = gj at *
                  have cv1 := fun q => (hH1.drewN q).conv
                  have cv2 := fun q => (hH2.drewN q).conv
                  unfold maxLen at hl2 hw2
                  clear hcl hcw hw5 hjp hjg hv hH1 hH2
                  go_upto_region 25 with fail
                  go_cut [141] (fun c wx => c = .bool false ∧ ∃ q, wx = w5.drewN q)
                  case first =>
                    go_quiet (fail)
                    go_wp2_with fail
                    go_meet
                    case rel => exact ⟨valS (by simp), _, by first | rfl | rw [World.drewN_drewN]⟩
                  case rest =>
                    obtain ⟨rfl, q2, rfl⟩ := hcut
                    clear cv1 cv2 e1 e2
                    go_wp2
                    go_roundw
                    case rel => exact ⟨j + 1, q2, by omega, by go_num, rfl⟩
                    case measure => simp [intOf]; omega
                · have hjN' : decide ((j : Int) < (N : Int)) = false := by simp; omega
                  have hjN2 : ¬ j < N := hjN
                  have hd := below_drewN (Below.refl w5.heap.size w5) q
                  have HB6 : Hid (Below w.heap.size w (w5.drewN q)) := HB5.out.trans (hd.mono HB5.out.size)
                  have HL6 : Hid (LentIs (w5.drewN q) gin X) := HL5.out.below hd HL5.out.lt
                  have HO6 : Hid ((w5.drewN q).ownsRow w1.heap.size 22 1 (.slice al N cl) N (svs gs ps)) := HO5.out.kept_below hd
                  have HP6 : Hid (OwnParts (w5.drewN q) w1.heap.size gs ps) := HP5.out.kept (fun x hx => hd.block x (HP5.out.lt x hx))
                  have hz6 : w1.heap.size ≤ (w5.drewN q).heap.size := by have := HZ15.out; simpa using this
                  clear hd HL5 HO5 HP5 HW5 HQ5 HB5
                  generalize w5.drewN q = w6 at *
                  obtain ⟨iB, hiB, hzB0, hzB1, hzB2⟩ := info_parts Tryd.infoB
                  go_wp2_with (first
                    | (at_builtin; refine wpList_append_own _ rfl (.tmp 142) (.tmp 144) 37 rfl w1.heap.size 22 iB (.slice none 0 0) 1 24 Tryd.underlying37 hiB hzB0 hzB1 hzB2 rfl (by decide) _ _ _ rfl (HO6.out.alloc _) ⟨w6.heap.size, 0, none⟩ 1 1 [.slice (some ⟨gin, 0, none⟩) n (n + 1)] rfl rfl (one_new _ _ _) (one_okS _ _ _) (by unfold maxLen; omega) (by omega) (by simp; omega) ?_; intro v7 w7 hown7 hgr7 hnil7))
                  have hbA : ∀ (x : Nat) (cur : Array Value), w6.heap[x]? = some (.cells cur 5 (0, 0)) → w7.heap[x]? = w6.heap[x]? := fun x cur hx => (hgr7.block x (by have := blk_lt hx; simp; omega) (own_block_ne HO6.out hx)).trans (Below.heap_alloc _ _ _ (blk_lt hx))
                  obtain ⟨a7, c7, rfl⟩ := own_shapeR hown7
                  obtain ⟨g7, rfl, _, _, _, _, hg7b⟩ := own_addrR hown7 (by omega)
                  have HB7 : Hid (Below w.heap.size w w7) := (HB6.out.alloc HB6.out.size _).grown hgr7 (by have := HB6.out.size; simp; omega) (fun k e => by have := (HO6.out.lt k e).1; have := HG.out; have := HSz1.out; omega)
                  have hP7 : OwnParts w7 w1.heap.size gs ps := HP6.out.kept (fun x hx => by
                    obtain ⟨i, hi, rfl⟩ := List.mem_iff_getElem.1 hx
                    exact hbA _ _ (HP6.out.block i hi (by rw [← HP6.out.len]; exact hi)))
                  have hOB : OB w7 gin (n + 1) := by
                    have h := ob_of_lent HL6.out
                    rw [HXl.out] at h
                    obtain ⟨cur, k1, k2⟩ := h
                    exact ⟨cur, (hbA gin cur k1).trans k1, k2⟩
                  have hrows := rows_more (w := w7) (base := w1.heap.size) (g2 := g7) (cap := c7) (B := w1.heap.size) (gin := gin) (n := n) (gs := gs) (ps := ps) (by rw [← HN.out]; exact hown7) hP7 hOB HSz1.out (by omega) HPs.out
                  have hrl : (rsl gs ps ++ [(some gin, n, n + 1)]).length = N + 1 := by rw [HN.out]; simp [rsl_length gs ps hP7.len]
                  have hlow : ∀ j (hj : j < (rsl gs ps ++ [(some gin, n, n + 1)]).length) g, (rsl gs ps ++ [(some gin, n, n + 1)])[j].1 = some g → w.heap.size ≤ g := fun j hj g e => by
                    have hG := HG.out
                    have hS := HSz1.out
                    by_cases h : j < ps.length
                    · rw [List.getElem_append_left (by rw [rsl_length gs ps hP7.len]; exact h), rsl_get gs ps j _ (by rw [hP7.len]; exact h) h] at e
                      simp only [Option.some.injEq] at e
                      have := hP7.above _ (List.getElem_mem (show j < gs.length by rw [hP7.len]; exact h))
                      omega
                    · rw [List.getElem_append_right (by rw [rsl_length gs ps hP7.len]; omega)] at e
                      have hj0 : j - (rsl gs ps).length = 0 := by rw [rsl_length gs ps hP7.len]; have := HN.out; omega
                      simp [hj0] at e
                      omega
                  have hown := owned_any g7 0 c7 (N + 1) _ w7 hrows hrl (by omega)
                  have HOw : Hid (Calls _ _ _ _ _) := hown
                  have HLow : Hid (∀ j (hj : j < (rsl gs ps ++ [(some gin, n, n + 1)]).length) g, (rsl gs ps ++ [(some gin, n, n + 1)])[j].1 = some g → w.heap.size ≤ g) := hlow
                  clear hown7 hgr7 hnil7 hbA hP7 hOB hrows hown hlow HL6 HO6 HP6 hrl
                  refine HOw.out.mono ?_
                  rintro e w8 ⟨rfl, hinv⟩
                  have HB8 : Hid (Below w.heap.size w w8) := HB7.out.trans (hinv.below HB7.out.size HLow.out)
                  clear hinv HOw
                  go_wp2_with fail
                  refine (frame_ok none 0 0 [] _ (has_nil _) (HT.out.below HB8.out HT.out.lt) (by omega)).mono ?_
                  rintro e w9 ⟨g9, rfl, hg9, hown9, hb9⟩
                  have HB9 : Hid (Below w.heap.size w w9) := HB8.out.trans (hb9.mono HB8.out.size)
                  clear hown9 hb9 hg9
                  go_wp2_with fail
                  go_ret
                  exact ⟨rfl, HB9.out⟩
end Go.Proofs.YtipkjiacikdmmaaDoor
