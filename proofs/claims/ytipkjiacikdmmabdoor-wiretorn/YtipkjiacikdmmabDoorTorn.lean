/-
  For any rows of bytes and any int: muntinlaw01.WireTorn answers true. Conditions: those that each theorem names.
-/
import Derived.Test.YtipkjiacikdmmabDoorTornP
import Derived.Test.YtipkjiacikdmmabDoorRowsMem
import Derived.Deep.CutBlock
import Derived.Lib.SlBytesConst
namespace Go.Proofs.YtipkjiacikdmmabDoor
open Go.RowKit
set_option linter.unusedVariables false

theorem valT {a b : Bool} (h : a = b) : Value.bool a = .bool b := by rw [h]
theorem Tryd.info3 : (Tryd.prog.info? 3).map (fun i => (i.zero, i.size, i.bytes)) = some (some (.int .i64 0), 1, 8) := by kernel_rfl
theorem apart35 {w : World} {b1 b2 n m : Nat} {v u : Value} {xs ys : List Value} (h1 : w.ownsRow b1 3 1 v n xs) (h2 : w.ownsRow b2 5 1 u m ys) : v.ownBlock = none ∨ v.ownBlock ≠ u.ownBlock := by
  obtain ⟨_, ⟨rfl, _⟩ | ⟨g, c, cur, rfl, _, hh, _⟩⟩ := h1
  · exact .inl rfl
  · right
    obtain ⟨_, ⟨rfl, _⟩ | ⟨g', c', cur', rfl, _, hh', _⟩⟩ := h2
    · simp [Value.ownBlock]
    · simp only [Value.ownBlock, ne_eq, Option.some.injEq]
      rintro rfl
      rw [hh] at hh'
      simp at hh'
theorem apart53 {w : World} {b1 b2 n m : Nat} {v u : Value} {xs ys : List Value} (h1 : w.ownsRow b1 5 1 v n xs) (h2 : w.ownsRow b2 3 1 u m ys) : v.ownBlock = none ∨ v.ownBlock ≠ u.ownBlock := by
  rcases apart35 h2 h1 with h | h
  · cases hv : v.ownBlock with
    | none => exact .inl rfl
    | some g => right; rw [h]; simp
  · exact .inr (fun e => h e.symm)
theorem own_shape {w : World} {base : Nat} {e : TypeId} {v : Value} {n : Nat} {xs : List Value} (h : w.ownsRow base e 1 v n xs) : ∃ a c, v = .slice a n c := by
  obtain ⟨_, ⟨rfl, rfl⟩ | ⟨g, c, cur, rfl, _⟩⟩ := h
  · exact ⟨none, 0, rfl⟩
  · exact ⟨_, _, rfl⟩
theorem own_addr {w : World} {base : Nat} {e : TypeId} {a : Option Addr} {c n : Nat} {xs : List Value} (h : w.ownsRow base e 1 (.slice a n c) n xs) (h0 : 0 < n) : ∃ g, a = some ⟨g, 0, none⟩ ∧ ∀ j, j < n → w.cell? ⟨g, j, none⟩ = xs[j]? := by
  have hh := h
  obtain ⟨_, ⟨_, rfl⟩ | ⟨g, c', cur, e1, _⟩⟩ := h
  · omega
  · simp at e1
    obtain ⟨rfl, rfl⟩ := e1
    exact ⟨g, rfl, fun j hj => hh.cellAt j (by omega)⟩
/-- Where the frames end. -/
def endsL (ls : List (List UInt8)) (k : Nat) : List Value := (List.range k).map fun j => .int .i64 (S ls (j + 1) : Int)
theorem endsL_succ (ls : List (List UInt8)) (k : Nat) : endsL ls (k + 1) = endsL ls k ++ [.int .i64 (S ls (k + 1) : Int)] := by simp [endsL, List.range_succ]
theorem Has.pre {w : World} {a : Option Addr} {len cap : Nat} {l : List UInt8} (h : Has w a len cap l) (x : Nat) (hx : x ≤ len) : Has w a x cap (l.take x) := by
  obtain ⟨h1, h2, h3, h4, h5⟩ := h
  refine ⟨by simp; omega, by omega, h3, h4, fun h0 => ?_⟩
  obtain ⟨b, off, ha, hlt, hc⟩ := h5 (by omega)
  refine ⟨b, off, ha, hlt, fun i hi => ?_⟩
  simp at hi
  rw [hc i (by omega)]
  simp

set_option maxRecDepth 100000 in
set_option maxHeartbeats 4000000 in
theorem torn_walk (a : Option Addr) (len cap : Nat) (ls : List (List UInt8)) (cut : Int) (w : World) (h : HasRows w a len cap ls) (hT : TabIs w) (hc0 : -9223372036854775808 ≤ cut) (hc1 : cut ≤ 9223372036854775807) :
    Calls Tryd.prog 3 #[.slice a len cap, .int .i64 cut] w fun e w' => e = .returned (.bool true) ∧ Below w.heap.size w w' := by
  obtain ⟨i3, hi3, hz30, hz31, hz32⟩ := info_parts Tryd.info3
  have HR : Hid (HasRows w a len cap ls) := h
  have HT : Hid (TabIs w) := hT
  have HLs : Hid (ls.length = len) := h.1
  have hlm : len ≤ maxLen := Nat.le_trans h.2.1 h.2.2.1
  have hlc : len ≤ cap := h.2.1
  unfold maxLen at hlm
  clear h hT
  go_enter Tryd.func3, Tryd.ntmps3
  go_upto_block 0 with fail
  go_cut [5, 6, 7] (fun b e i wx => ∃ (k n : Nat) (av : Option Addr) (cv : Nat) (ae : Option Addr) (ce : Nat), k ≤ len ∧ k ≤ 30 ∧ b = .slice av n cv ∧ n ≤ 1048584 * k ∧ e = .slice ae k ce ∧
      Hid (Has wx av n cv (catF (ls.take k))) ∧ Hid (wx.ownsRow w.heap.size 3 1 (.slice ae k ce) k (endsL ls k)) ∧ Hid (∀ p ∈ ls.take k, p.length ≤ 1048576) ∧ Hid (Below w.heap.size w wx))
  case first =>
    go_wp2_with fail
    go_loopw [5, 6, 7] (fun b e i wr => ∃ (k n : Nat) (av : Option Addr) (cv : Nat) (ae : Option Addr) (ce : Nat) (X : List UInt8), k ≤ len ∧ k ≤ 30 ∧ i = .int .i64 (k : Int) ∧ b = .slice av n cv ∧ n ≤ 1048584 * k ∧ e = .slice ae k ce ∧
        wr.ownsRow w.heap.size 5 1 (.slice av n cv) n (X.map bv) ∧ Hid (X = catF (ls.take k)) ∧ wr.ownsRow w.heap.size 3 1 (.slice ae k ce) k (endsL ls k) ∧ Hid (∀ p ∈ ls.take k, p.length ≤ 1048576) ∧ Hid (Below w.heap.size w wr)) (fun _ _ i _ => 30 - (intOf i).toNat)
    case atStart => exact ⟨0, 0, none, 0, none, 0, [], Nat.zero_le _, by omega, rfl, rfl, by omega, rfl, World.ownsRow_nil _ _ _ _, rfl, World.ownsRow_nil _ _ _ _, fun p hp => (by simp at hp), Below.refl _ _⟩
    case round =>
      obtain ⟨k, n, av, cv, ae, ce, X, hk, hk30, rfl, rfl, hn, rfl, hown, HX, hownE, HA, HB⟩ := hrel
      by_cases hk1 : k < len ∧ k < 30
      · obtain ⟨hkl, hk2⟩ := hk1
        have hkl' : (k : Int) < (len : Int) := by omega
        have hk2' : (k : Int) < 30 := by omega
        obtain ⟨b, off, ha, _, hrow⟩ := (HR.out.below HB.out).2.2.2 (by omega)
        obtain ⟨ao, m, c, hcell, hHas⟩ := hrow k (by rw [HLs.out]; exact hkl)
        subst ha
        have hm := hHas.1
        have HHas : Hid (Has wr ao m c (ls[k]'(by rw [HLs.out]; exact hkl))) := hHas
        have HM : Hid ((ls[k]'(by rw [HLs.out]; exact hkl)).length = m) := hm
        clear hrow hHas hm
        by_cases hlong : (1048576 : Int) < (m : Int)
        · clear hown hownE
          go_wp2_with (go_at_call 7; refine (frame_long ao m c _ hlong).mono ?_; rintro e w1 ⟨rfl, rfl⟩)
          go_ret
          exact ⟨by simp, HB.out⟩
        · have hfr := frame_ok ao m c _ wr HHas.out (HT.out.below HB.out HT.out.lt) (by omega)
          have HXn : Hid (X.length = n) := by show X.length = n; have := hown.1; simpa using this
          go_wp2_with (first
            | (go_at_call 7; refine hfr.mono ?_; rintro e w1 ⟨g1, rfl, hg1, hown1, hb1⟩; have HB1 : Hid (Below wr.heap.size wr w1) := hb1; have hc1 := (hb1.cell (p := ⟨b, off + k, none⟩) (block_lt hcell)).trans hcell; have HC1 : Hid (Has w1 (some ⟨g1, 0, none⟩) (m + 8) (m + 8) (frameB (ls[k]'(by rw [HLs.out]; exact hkl)))) := Has.of_row hown1; have hO1 := hown.kept_below hb1; have hE1 := hownE.kept_below hb1; clear hown1 hb1 hg1 hfr)
            | (at_builtin; refine wpList_grow rfl (.tmp 56) (.tmp 57) rfl w.heap.size _ _ _ rfl hO1 _ _ _ _ rfl HC1.out (by omega) (by omega) (Nat.le_trans HB.out.size HB1.out.size) ?_; intro g2 c2 w2 hg2 hown2 hgr2; have HB2 : Hid (Below w.heap.size w w2) := (HB.out.trans (HB1.out.mono HB.out.size)).grown hgr2 (Nat.le_trans HB.out.size HB1.out.size) (owned_block hO1); have hE2 := hE1.kept hgr2 (apart35 hE1 hO1); clear hgr2 hO1 hE1)
            | (at_builtin; refine wpList_append_own _ rfl (.tmp 59) (.tmp 62) 24 rfl w.heap.size 3 i3 (.int .i64 0) 1 8 Tryd.underlying24 hi3 hz30 hz31 hz32 rfl (by decide) _ _ _ rfl (hE2.alloc _) ⟨w2.heap.size, 0, none⟩ 1 1 [.int .i64 _] rfl rfl (one_new _ _ _) (one_ok _ _) (by unfold maxLen; omega) (by omega) (by have := HB2.out.size; simp; omega) ?_; intro v3 w3 hown3 hgr3 hnil3; have HB3 : Hid (Below w.heap.size w w3) := (HB2.out.alloc HB2.out.size _).grown hgr3 (by have := HB2.out.size; simp; omega) (fun q e => (hE2.lt q e).1); have hO3 := (hown2.alloc _).kept hgr3 (apart53 hown2 hE2); clear hgr3 hnil3 hE2 hown2))
          go_roundw
          case rel =>
            have hkx : k < ls.length := by rw [HLs.out]; exact hkl
            obtain ⟨ae3, ce3, hv3⟩ := own_shape hown3
            have hS : S ls (k + 1) = n + (m + 8) := by
              have h1 : S ls k = n := by unfold S; rw [← HX.out]; exact HXn.out
              rw [S_succ ls k hkx, h1, HM.out]
            refine ⟨k + 1, _, _, _, ae3, ce3, X ++ frameB ls[k], by omega, by omega, by go_num, rfl, by omega, hv3, ?_, ?_, ?_, ?_, HB3⟩
            · rw [List.map_append]; exact hO3
            · show X ++ frameB ls[k] = catF (ls.take (k + 1))
              rw [catF_take ls k hkx, HX.out]
            · rw [endsL_succ, hS, ← hv3]
              simpa using hown3
            · intro p hp
              rw [List.take_succ_eq_append_getElem hkx, List.mem_append, List.mem_singleton] at hp
              rcases hp with hp | rfl
              · exact HA.out p hp
              · rw [HM.out]; omega
          case measure => simp [intOf]; omega
      · have hexit : (¬ (k : Int) < (len : Int)) ∨ ((k : Int) < (len : Int) ∧ ¬ (k : Int) < 30) := by omega
        have hHX : Has wr av n cv X := Has.of_owned hown
        rw [HX.out] at hHX
        rcases hexit with hx | ⟨hx, hx2⟩
        · go_wp2_with fail
          go_meet
          case rel => exact ⟨k, n, av, cv, ae, ce, hk, hk30, rfl, hn, rfl, hHX, hownE, HA, HB⟩
        · go_wp2_with fail
          go_meet
          case rel => exact ⟨k, n, av, cv, ae, ce, hk, hk30, rfl, hn, rfl, hHX, hownE, HA, HB⟩
  case rest =>
    obtain ⟨k, n, av, cv, ae, ce, hk, hk30, rfl, hn, rfl, HX, HEn, HA, HB⟩ := hcut
    have HN : Hid ((catF (ls.take k)).length = n) := HX.out.1
    go_upto_region 11 with fail
    go_cut [71] (fun c wx => ∃ B : Bool, c = .bool B ∧ Hid (B = true ↔ (cut < 0 ∨ (n : Int) < cut)) ∧ wx = wc)
    case first =>
      by_cases h1 : cut < 0
      · go_wp2_with fail
        go_meet
        case rel => exact ⟨_, rfl, (by show _ ↔ _; simp; omega), rfl⟩
      · by_cases h2 : (n : Int) < cut
        · go_wp2_with fail
          go_meet
          case rel => exact ⟨_, rfl, (by show _ ↔ _; simp; omega), rfl⟩
        · go_wp2_with fail
          go_meet
          case rel => exact ⟨_, rfl, (by show _ ↔ _; simp; omega), rfl⟩
    case rest =>
      obtain ⟨B, rfl, HBo, rfl⟩ := hcut
      go_upto_if 71 with fail
      go_cut [1] (fun c wx => ∃ x : Nat, c = .int .i64 (x : Int) ∧ x ≤ n ∧ wx = wc)
      case first =>
        cases B with
        | true =>
          clear HBo
          go_wp2_with fail
          go_meet
          case rel => exact ⟨n, rfl, Nat.le_refl _, rfl⟩
        | false =>
          have hB := HBo.out
          simp only [Bool.false_eq_true, false_iff, not_or, Int.not_lt] at hB
          obtain ⟨x, hx⟩ := Int.eq_ofNat_of_zero_le hB.1
          have hxn : x ≤ n := by omega
          clear HBo hB
          subst hx
          go_wp2_with fail
          go_meet
          case rel => exact ⟨x, rfl, hxn, rfl⟩
      case rest =>
        obtain ⟨x, rfl, hxn, rfl⟩ := hcut
        have hMl : (ls.take k).length = k := by rw [List.length_take, HLs.out]; omega
        obtain ⟨W, hW1, hW2, hW3, e0, hsc, he0⟩ := torn (ls.take k) x x HA.out (by rw [HN.out]; exact hxn) (Nat.le_refl _)
        rw [hMl] at hW1 hW3
        rw [S_take ls k W hW1] at hW2 hsc he0
        have HSW : Hid (∀ j, j < k → (S ls (j + 1) ≤ x ↔ j < W)) := by
          intro j hj
          constructor
          · intro h
            rcases Nat.lt_or_ge j W with h1 | h1
            · exact h1
            · have h2 := hW3 (by omega)
              rw [S_take ls k (W + 1) (by omega)] at h2
              have := S_mono ls (W + 1) (j + 1) (by omega)
              omega
          · intro h
            have := S_mono ls (j + 1) W (by omega)
            omega
        have HSb : Hid (∀ j, j ≤ k → S ls j ≤ n) := by
          intro j hj
          have h1 := S_mono ls j k hj
          have h2 : S ls k = n := HN.out
          omega
        have hSW : S ls W ≤ x := hW2
        have HSc : Hid (scanN x ((catF (ls.take k)).take x) = ((ls.take k).take W, S ls W, e0)) := hsc
        have HE0 : Hid (e0 = 0 ↔ S ls W = x) := he0
        clear hW2 hW3 hsc he0
        have hxb : (x : Int) ≤ 31457520 := by omega
        go_wp2_with fail
        go_loop [10, 11, 12] (fun wh en i => ∃ j : Nat, j ≤ k ∧ i = .int .i64 (j : Int) ∧ wh = .int .i64 ((if j ≤ W then j else W : Nat) : Int) ∧ en = .int .i64 ((S ls (if j ≤ W then j else W) : Nat) : Int)) (fun _ _ i => 30 - (intOf i).toNat)
        case atStart => exact ⟨0, Nat.zero_le _, rfl, by simp, by simp [S_zero]⟩
        case round =>
          obtain ⟨j, hj, rfl, rfl, rfl⟩ := hrel
          by_cases hjk : j < k
          · have hjk' : (j : Int) < (k : Int) := by omega
            obtain ⟨ge, hae, hcells⟩ := own_addr HEn.out (by omega)
            have hcell := hcells j hjk
            rw [show (endsL ls k)[j]? = some (.int .i64 (S ls (j + 1) : Int)) by simp [endsL, hjk]] at hcell
            subst hae
            clear hcells
            have hsj := HSW.out j hjk
            have hsb := HSb.out (j + 1) (by omega)
            have HS1 : Hid (∀ q, q = j + 1 → S ls q = S ls (j + 1)) := fun q h => by rw [h]
            generalize S ls (j + 1) = sj at *
            by_cases hjW : j < W
            · have h1 : (sj : Int) ≤ (x : Int) := by have := hsj.2 hjW; omega
              have e1 : (if j ≤ W then j else W) = j := if_pos (by omega)
              rw [e1]
              clear hsj e1
              generalize S ls j = so at *
              go_wp2
              go_round
              case rel => exact ⟨j + 1, by omega, by go_num, (by rw [if_pos (by omega)]; go_num), (by rw [if_pos (by omega), HS1.out _ rfl])⟩
              case measure => simp [intOf]; omega
            · have h1 : ¬ (sj : Int) ≤ (x : Int) := by have := hsj.1; omega
              have HI : Hid ((if j + 1 ≤ W then j + 1 else W) = (if j ≤ W then j else W)) := by
                show (if j + 1 ≤ W then j + 1 else W) = (if j ≤ W then j else W)
                rw [if_neg (by omega)]
                split <;> omega
              generalize (if j ≤ W then j else W) = m0 at *
              obtain ⟨so, hso⟩ : ∃ so, S ls m0 = so := ⟨_, rfl⟩
              have HSo : Hid (S ls m0 = so) := hso
              rw [hso]
              clear hso
              go_wp2
              go_round
              case rel => exact ⟨j + 1, by omega, by go_num, (by rw [HI.out]), (by rw [HI.out, HSo.out])⟩
              case measure => simp [intOf]; omega
          · obtain rfl : k = j := by omega
            have e1 : (if k ≤ W then k else W) = W := by split <;> omega
            rw [e1]
            clear e1
            have hscan := scan_any av x cv _ wc (HX.out.pre x hxn) (HT.out.below HB.out HT.out.lt) (by omega)
            rw [HSc.out] at hscan
            simp only at hscan
            have hxc : (x : Int) ≤ (cv : Int) := by have := HX.out.2.1; omega
            have hcvm : cv ≤ maxLen := HX.out.2.2.1
            unfold maxLen at hcvm
            have HMW : Hid (((ls.take k).take W).length = W) := by show ((ls.take k).take W).length = W; rw [List.length_take, hMl]; omega
            obtain ⟨sw, hsw⟩ : ∃ sw, S ls W = sw := ⟨_, rfl⟩
            rw [hsw] at hscan hSW ⊢
            have HE1 : Hid (e0 = 0 ↔ sw = x) := by show e0 = 0 ↔ sw = x; rw [← hsw]; exact HE0.out
            clear HE0 hsw HSc HSW HSb HEn
            go_upto_region 21 with fail
            go_cut [13, 14, 15] (fun v nn e wx => ∃ (al : Option Addr) (cl : Nat) (gs : List Nat), v = .slice al W cl ∧ nn = .int .i64 (sw : Int) ∧ Hid (e = errV e0) ∧ Hid (wx.ownsRow wc.heap.size 23 1 (.slice al W cl) W (svs gs ((ls.take k).take W))) ∧ Hid (OwnParts wx wc.heap.size gs ((ls.take k).take W)) ∧ Hid (Below wc.heap.size wc wx))
            case first =>
              cases av with
              | none =>
                go_wp2_with fail
                refine hscan.mono ?_
                rintro e w5 ⟨v, gs, ev, rfl, hev, hO, hP, hB5⟩
                clear hscan
                rw [HMW.out] at hO
                go_wp2_with fail
                go_meet
                case rel =>
                  obtain ⟨al, cl, hv⟩ := own_shape hO.out
                  exact ⟨al, cl, gs, hv, rfl, hev, (by rw [← hv]; exact hO), hP, hB5⟩
              | some ad =>
                go_wp2_with fail
                refine hscan.mono ?_
                rintro e w5 ⟨v, gs, ev, rfl, hev, hO, hP, hB5⟩
                clear hscan
                rw [HMW.out] at hO
                go_wp2_with fail
                go_meet
                case rel =>
                  obtain ⟨al, cl, hv⟩ := own_shape hO.out
                  exact ⟨al, cl, gs, hv, rfl, hev, (by rw [← hv]; exact hO), hP, hB5⟩
            case rest =>
              obtain ⟨al, cl, gs, rfl, rfl, hev, hO, hP, hB5⟩ := hcut
              clear hscan
              have HB6 : Hid (Below w.heap.size w wc) := HB.out.trans (hB5.out.mono HB.out.size)
              go_upto_region 22 with fail
              go_cut [116] (fun c wx => c = .bool false ∧ wx = wc)
              case first =>
                by_cases hz : e0 = 0
                · have hsx : sw = x := HE1.out.1 hz
                  have he := hev.out
                  rw [hz, show errV 0 = .nilIface by simp [errV]] at he
                  subst hsx
                  subst he
                  clear hev hz
                  go_wp2_with fail
                  go_meet
                  case rel => exact ⟨valT (by simp), rfl⟩
                · have hsx : ¬ sw = x := fun h => hz (HE1.out.2 h)
                  have he := hev.out
                  rw [errV, if_neg hz] at he
                  subst he
                  have hq : ((sw : Int) == (x : Int)) = false := by rw [beq_eq_false_iff_ne]; omega
                  clear hev hz hsx
                  go_wp2_with fail
                  go_meet
                  case rel => exact ⟨valT (by simp), rfl⟩
              case rest =>
                obtain ⟨rfl, rfl⟩ := hcut
                clear hev HE1
                go_wp2_with fail
                go_loopw [16] (fun i wr => ∃ j : Nat, j ≤ W ∧ i = .int .i64 (j : Int) ∧ Hid (Below wc.heap.size wc wr)) (fun i _ => W - (intOf i).toNat)
                case atStart => exact ⟨0, Nat.zero_le _, rfl, Below.refl _ _⟩
                case round =>
                  obtain ⟨j, hj, rfl, HBr⟩ := hrel
                  have HB7 : Hid (Below w.heap.size w wr) := HB6.out.trans (HBr.out.mono HB6.out.size)
                  by_cases hjW : j < W
                  · have hjW' : (j : Int) < (W : Int) := by omega
                    have hjl' : (j : Int) < (len : Int) := by omega
                    obtain ⟨gl, hal, hcl⟩ := own_addr hO.out (by omega)
                    have hp1 : j < gs.length := by rw [hP.out.len, HMW.out]; exact hjW
                    have hp2 : j < ((ls.take k).take W).length := by rw [HMW.out]; exact hjW
                    have hc1 := hcl j hjW
                    rw [svs_get gs _ j hp1 hp2] at hc1
                    have hc2 := (HBr.out.cell (p := ⟨gl, j, none⟩) (block_lt hc1)).trans hc1
                    have hb1 := hP.out.block j hp1 hp2
                    have hH1 := has_block (((ls.take k).take W)[j]) hb1 rfl (by
                      have h1 : (((ls.take k).take W)[j]).length ≤ 1048576 := HA.out _ (List.mem_of_mem_take (List.getElem_mem hp2))
                      unfold maxLen; omega)
                    have hH2 := hH1.below HBr.out
                    obtain ⟨b, off, ha, _, hrow⟩ := (HR.out.below HB7.out).2.2.2 (by omega)
                    obtain ⟨ao, m, c, hcell, hHas⟩ := hrow j (by rw [HLs.out]; omega)
                    have hpe : ((ls.take k).take W)[j] = ls[j]'(by rw [HLs.out]; omega) := by simp
                    rw [← hpe] at hHas
                    generalize ((ls.take k).take W)[j] = p at *
                    generalize gs[j] = gj at *
                    have cv1 := fun q => (hH2.drewN q).conv
                    have cv2 := fun q => (hHas.drewN q).conv
                    subst hal
                    subst ha
                    clear hcl hc1 hb1 hH1 hH2 hrow hHas hpe hp1 hp2
                    go_upto_region 27 with fail
                    go_cut [132] (fun c wx => c = .bool false ∧ Hid (Below wc.heap.size wc wx))
                    case first =>
                      go_quiet (fail)
                      go_wp2_with fail
                      go_meet
                      case rel => exact ⟨valT (by simp), below_drewN HBr.out _⟩
                    case rest =>
                      obtain ⟨rfl, HB8⟩ := hcut
                      clear cv1 cv2 hc2 hcell
                      go_wp2
                      go_roundw
                      case rel => exact ⟨j + 1, by omega, by go_num, HB8⟩
                      case measure => simp [intOf]; omega
                  · have kc := fun (w : World) (C : Array Value) (n c : Nat) => Lib.run_convert_bytes_const (P := Tryd.prog) w 23 5 C n c Tryd.underlying23 Tryd.underlying5
                    have hfr := frame_ok (some ⟨wr.heap.size, 0, none⟩) 1 1 [97] (wr.alloc (.cells #[.int .u8 97] 5 (1, 2))) (has_block [97] (heap_alloc_new _ _) rfl (by unfold maxLen; decide)) (HT.out.below (HB7.out.alloc HB7.out.size _) HT.out.lt) (by omega)
                    go_wp2_with fail
                    refine hfr.mono ?_
                    rintro e w9 ⟨g9, rfl, hg9, hown9, hb9⟩
                    clear hown9
                    go_wp2
                    go_ret
                    have h10 : Below w.heap.size w (wr.alloc (.cells #[.int .u8 97] 5 (1, 2))) := HB7.out.alloc HB7.out.size _
                    exact ⟨rfl, h10.trans (hb9.mono h10.size)⟩
end Go.Proofs.YtipkjiacikdmmabDoor
