/-
  What the document's own Open answers for any bytes that memory holds. Conditions: those that each theorem names.
-/
import Derived.Test.YtipkjiacikdmmaaDoorROp
namespace Go.Proofs.YtipkjiacikdmmaaDoor
open Go.RowKit
set_option linter.unusedVariables false
/-- The address is nil, or the head of a block of bytes. -/
def T5 (w : World) (a : Option Addr) : Prop := a = none ∨ ∃ g cur, a = some ⟨g, 0, none⟩ ∧ w.heap[g]? = some (.cells cur 5 (0, 0))
theorem sum_inst2 {P : Program} {f : FuncId} {args args' : Array Value} {w : World} {Q : Ending → World → Prop} (h : Calls P f args w Q) (e : args = args') : Calls P f args' w Q := e ▸ h
set_option maxRecDepth 100000 in
set_option maxHeartbeats 1000000 in
theorem ropen_uniT (a : Option Addr) (len cap : Nat) (l : List UInt8) (w : World) (h : Has w a len cap l) (hlm : len ≤ 140737488355328) :
    Calls Tryd.prog 25 #[.slice a len cap] w fun e w' => ∃ (b : Option Addr) (n c : Nat), e = .returned (.tuple #[.slice b n c, .int .i64 ((opn l).2.1 : Int), .int .i64 ((opn l).2.2 : Int)]) ∧ Hid (Has w' b n c (opn l).1) ∧ Hid (T5 w' b) ∧ Hid (Below w.heap.size w w') := by
  have hl := h.1
  have hlc := h.2.1
  have hcm : cap ≤ maxLen := h.2.2.1
  unfold maxLen at hcm
  by_cases h4 : len < 4
  · have e1 : opn l = ([], 0, 3) := by unfold opn; rw [if_pos (by omega)]
    rw [e1]
    have h4' : (len : Int) < 4 := by omega
    clear e1 h
    go_enter Tryd.func25, Tryd.ntmps25
    go_wp2
    go_ret3
    exact ⟨_, _, _, rfl, has_nil _, .inl rfl, Below.refl _ _⟩
  · have hN := number_any a len cap l w h (by omega)
    have hv := val4_lt (l.take 4) (by simp; omega)
    obtain ⟨n, hn⟩ : ∃ n, valFrom 0 (l.take 4) = n := ⟨_, rfl⟩
    rw [hn] at hN hv
    have HN : Hid (Calls _ _ _ _ _) := hN
    clear hN
    have h4' : ¬ (len : Int) < 4 := by omega
    have hlm' : (len : Int) ≤ 140737488355328 := by omega
    have hvI : (n : Int) < 4294967296 := by omega
    by_cases hbig : 1048576 < n
    · have e1 : opn l = ([], 0, 2) := by unfold opn; rw [if_neg (by omega), if_pos (by rw [hn]; exact hbig)]
      rw [e1]
      have hb' : (1048576 : Int) < (n : Int) := by omega
      clear e1 h hn hbig
      go_enter Tryd.func25, Tryd.ntmps25
      go_wp2_with fail
      refine HN.out.mono ?_
      rintro e w1 ⟨rfl, q, rfl⟩
      go_wp2
      go_ret3
      exact ⟨_, _, _, rfl, has_nil _, .inl rfl, below_drewN (Below.refl _ _) q⟩
    · have hb' : ¬ (1048576 : Int) < (n : Int) := by omega
      by_cases hsh : len < n + 8
      · have e1 : opn l = ([], 0, 3) := by unfold opn; rw [if_neg (by omega), if_neg (by rw [hn]; exact hbig), if_pos (by rw [hn]; omega)]
        rw [e1]
        have hs' : decide ((len : Int) < (n : Int) + 8) = true := by simp; omega
        have hb2 : decide ((1048576 : Int) < (n : Int)) = false := by simp; omega
        clear e1 h hn hbig hsh hb' hl hlc hcm
        go_enter Tryd.func25, Tryd.ntmps25
        go_wp2_with fail
        refine HN.out.mono ?_
        rintro e w1 ⟨rfl, q, rfl⟩
        go_wp2
        go_ret3
        exact ⟨_, _, _, rfl, has_nil _, .inl rfl, below_drewN (Below.refl _ _) q⟩
      · have hs' : decide ((len : Int) < (n : Int) + 8) = false := by simp; omega
        have hb2 : decide ((1048576 : Int) < (n : Int)) = false := by simp; omega
        obtain ⟨b, off, rfl, hbb, -⟩ := h.2.2.2.2 (by omega)
        have HH : Hid (∀ q, Has (w.drewN q) (some ⟨b, off, none⟩) len cap l) := fun q => h.drewN q
        obtain ⟨x, hx⟩ : ∃ x, crc (l.take (n + 4)) = x := ⟨_, rfl⟩
        obtain ⟨y, hy⟩ : ∃ y, valFrom 0 ((l.drop (n + 4)).take 4) = y := ⟨_, rfl⟩
        have HX : Hid (crc (l.take (n + 4)) = x) := hx
        have HY : Hid (valFrom 0 ((l.drop (n + 4)).take 4) = y) := hy
        have HO : Hid (opn l = if x = y then ((l.drop 4).take n, n + 8, 0) else ([], 0, 5)) := by
          show _ = _
          unfold opn
          rw [if_neg (by omega), hn, if_neg hbig, if_neg (by omega), show 4 + n = n + 4 by omega, hx, hy]
          by_cases e : x = y
          · rw [if_neg (by simp [e]), if_pos e]
          · rw [if_pos (fun e2 => e e2.symm), if_neg e]
        have f1 : (n : Int) + 4 ≤ (cap : Int) := by omega
        have f2 : (n : Int) + 4 ≤ (len : Int) := by omega
        have f3 : ¬ cap = n + 4 := by omega
        have f4 : ¬ cap = 4 := by omega
        have f5 : ¬ cap = 0 := by omega
        have f6 : n + 4 ≤ len := by omega
        have f8 : n + 8 ≤ len := by omega
        have f7 : n + 4 - 4 = n := by omega
        clear h hn hbig hsh hl hx hy hb'
        go_enter Tryd.func25, Tryd.ntmps25
        go_wp2_with fail
        refine HN.out.mono ?_
        rintro e w1 ⟨rfl, q, hw1⟩
        have HH1 : Hid (Has w1 (some ⟨b, off, none⟩) len cap l) := by rw [hw1]; exact HH.out q
        have HB1 : Hid (Below w.heap.size w w1) := by rw [hw1]; exact below_drewN (Below.refl _ _) q
        clear hw1 HH HN
        have HS3 : Hid (∀ q, Calls Tryd.prog 21 #[.slice (some ⟨b, off, none⟩) (n + 4) cap] (w1.drewN q) fun e w' => e = .returned (.int .i64 (x : Int)) ∧ w' = w1.drewN q) := fun q => by
          have hc3 := HH1.out.cut 0 (n + 4) (by omega) (by omega) (a := some ⟨b, off, none⟩) (fun _ => rfl) (by simp)
          simp only [Nat.sub_zero, List.drop_zero] at hc3
          rw [← HX.out]
          exact rsum_any _ _ _ _ (w1.drewN q) (hc3.drewN q) (by omega)
        have HN2 : Hid (∀ q, Calls Tryd.prog 36 #[.slice (some ⟨b, off + (n + 4), none⟩) (len - (n + 4)) (cap - (n + 4))] (w1.drewN q) fun e w' => e = .returned (.int .i64 (y : Int)) ∧ ∃ m, w' = (w1.drewN q).drewN m) := fun q => by
          have hc2 := HH1.out.cut (n + 4) len (by omega) (by omega) (a := some ⟨b, off + (n + 4), none⟩) (fun _ => rfl) (by simp)
          have h9 := number_any _ _ _ _ (w1.drewN q) (hc2.drewN q) (by omega)
          rw [List.take_take, Nat.min_eq_left (by omega), HY.out] at h9
          exact h9
        have HC4 : Hid (Has w1 (some ⟨b, off + 4, none⟩) n (cap - 4) ((l.drop 4).take n)) := by
          have hc4 := HH1.out.cut 4 (n + 4) (by omega) (by omega) (a := some ⟨b, off + 4, none⟩) (fun _ => rfl) (by simp)
          rw [show n + 4 - 4 = n by omega] at hc4
          exact hc4
        obtain ⟨bb, hbb2⟩ : ∃ bb : Bool, bb = ((x : Int) != (y : Int)) := ⟨_, rfl⟩
        have HBB : Hid (bb = ((x : Int) != (y : Int))) := hbb2
        clear hbb2
        go_upto_region 8 with fail
        go_cut [28] (fun c wx => c = .bool bb ∧ ∃ q, wx = w1.drewN q)
        case first =>
          go_quiet ((first | (go_at_call 36; exact Calls.quiet_of (HN2.out _)) | (go_at_call 21; exact Calls.quiet_of_same (HS3.out _))))
          go_wp2_with fail
          go_meet
          case rel => exact ⟨by rw [HBB.out], _, rfl⟩
        case rest =>
          obtain ⟨rfl, q2, rfl⟩ := hcut
          clear hlc hcm HS3 HN2 HH1 HX HY f2 f6 f8 hs' hb2 h4' h4 hlm
          by_cases hxy : x = y
          · obtain rfl : bb = false := by rw [HBB.out, hxy]; simp
            have HO1 : Hid (opn l = ((l.drop 4).take n, n + 8, 0)) := by show _ = _; rw [HO.out, if_pos hxy]
            have HE2 : Hid ((((n + 8 : Nat)) : Int) = (n : Int) + 8) := by show _ = _; omega
            have HK3 : Hid (Has (w1.drewN q2) (some ⟨b, off + 4, none⟩) n (cap - 4) ((l.drop 4).take n)) := HC4.out.drewN q2
            clear hxy
            go_wp2_with (at_builtin; (refine wpList_app rfl (.tmp 29) (.tmp 33) rfl (w1.drewN q2).heap.size (w1.drewN q2).heap.size 0 0 [] rfl (owns_empty _ _ (Nat.le_refl _)) _ _ _ ((l.drop 4).take n) rfl (HK3.out.below ((Below.refl _ _).alloc (Nat.le_refl _) _)) (by omega) (by simp) ?_; intro g2 c2 w2 hg2 hown2 hgr2))
            go_ret3
            rw [HO1.out]
            simp only
            rw [HE2.out]
            refine ⟨_, _, _, rfl, ?_, ?_, HB1.out.trans (((below_drewN (Below.refl _ _) q2).trans ((((Below.refl _ _).alloc (Nat.le_refl _) _).grown hgr2 (by simp) (fun k e => by cases e; exact Nat.le_refl _)).mono (by simp))).mono HB1.out.size)⟩
            · simp only [Nat.zero_add, List.nil_append, f7] at hown2
              exact Has.of_row hown2
            · obtain ⟨_, ho | ⟨g, cp, cur, e, _, hh, _⟩⟩ := hown2
              · exact .inl (by have := ho.1; simp at this)
              · refine .inr ⟨g2, cur, rfl, ?_⟩
                simp only [Value.slice.injEq, Option.some.injEq, Addr.mk.injEq] at e
                rw [e.1.1]; exact hh
          · obtain rfl : bb = true := by rw [HBB.out, bne_iff_ne]; omega
            have HO1 : Hid (opn l = ([], 0, 5)) := by show _ = _; rw [HO.out, if_neg hxy]
            clear hxy
            go_wp2_with fail
            go_ret3
            rw [HO1.out]
            exact ⟨_, _, _, rfl, has_nil _, .inl rfl, HB1.out.trans ((below_drewN (Below.refl _ _) q2).mono HB1.out.size)⟩
end Go.Proofs.YtipkjiacikdmmaaDoor
