/-
  What the document's own digits and Quote answer at any bytes. Conditions: those that each theorem names.
-/
import Derived.Test.YtbdhgfblkgkekaaDoorX20
namespace Go.Proofs.YtbdhgfblkgkekaaDoor
open Go.RowKit
set_option linter.unusedVariables false
set_option maxRecDepth 100000 in
theorem qdigits_any (q : Nat) (hq : q < 16) (w : World) : Calls Tryd.prog 30 #[.int .i64 (q : Int)] w fun e w' => e = .returned (.string (nb [hexd q])) ∧ w' = w := by
  have : q = 0 ∨ q = 1 ∨ q = 2 ∨ q = 3 ∨ q = 4 ∨ q = 5 ∨ q = 6 ∨ q = 7 ∨ q = 8 ∨ q = 9 ∨ q = 10 ∨ q = 11 ∨ q = 12 ∨ q = 13 ∨ q = 14 ∨ q = 15 := by omega
  rcases this with rfl | rfl | rfl | rfl | rfl | rfl | rfl | rfl | rfl | rfl | rfl | rfl | rfl | rfl | rfl | rfl
  all_goals
    go_enter Tryd.func30, Tryd.ntmps30
    go_wp2_with fail
    go_ret
    exact ⟨rfl, rfl⟩
theorem strCells_nb (l : List Nat) (h : ∀ x ∈ l, x < 256) : Lib.strCells (nb l) = nv l := by
  unfold Lib.strCells nb nv
  simp
  intro x hx
  have := h x hx
  omega
theorem Lq.app {w W w' : World} {o : Obj} {v v' : Value} {l m : List Nat} {xs : List Value} {n : Nat} (h : Lq w v l W) (hn : n = m.length) (hx : xs = nv m) (ho : w'.ownsRow w.heap.size 5 1 v' (l.length + n) (nv l ++ xs)) (hg : (W.alloc o).grownBy w' v.ownBlock) : Lq w v' (l ++ m) w' := by
  subst hn hx
  have hs := h.1.out.size
  exact ⟨hid ((h.1.out.alloc hs _).grown hg (by simp; omega) (fun k e => (h.2.out.lt k e).1)), hid (by rw [List.length_append, nv_append]; exact ho)⟩
theorem Lq.appS {w W w' : World} {v v' : Value} {l m : List Nat} {s : ByteArray} (h : Lq w v l W) (hm : s = nb m) (hlt : ∀ x ∈ m, x < 256) (ho : w'.ownsRow w.heap.size 5 1 v' (l.length + s.size) (nv l ++ Lib.strCells s)) (hg : W.grownBy w' v.ownBlock) : Lq w v' (l ++ m) w' := by
  subst hm
  rw [strCells_nb m hlt, nb_size] at ho
  exact ⟨hid (h.1.out.grown hg h.1.out.size (fun k e => (h.2.out.lt k e).1)), hid (by rw [List.length_append, nv_append]; exact ho)⟩
set_option maxRecDepth 100000 in
set_option maxHeartbeats 8000000 in
theorem qquote_any (S : ByteArray) (w : World) (hS : S.size ≤ 1048576) :
    Calls Tryd.prog 18 #[.string S] w fun e w' => e = .returned (.string (nb (qt S))) ∧ Below w.heap.size w w' := by
  obtain ⟨i0, hi0, hz0, hz1, hz2⟩ := info_parts Tryd.infoByte
  go_enter Tryd.func18, Tryd.ntmps18
  go_wp2_with (first | (at_builtin; refine wpList_append_own _ rfl (.tmp 6) (.tmp 7) 55 rfl w.heap.size 5 i0 (.int .u8 0) 1 1 Tryd.underlying55 hi0 hz0 hz1 hz2 rfl (by decide) _ _ _ rfl (World.ownsRow_nil _ _ _ _) ⟨w.heap.size, 0, none⟩ 1 1 [.int .u8 39] rfl rfl (one_newB _ _ _) (bytes_ok [39]) (by unfold maxLen; omega) (by omega) (by simp) ?_; intro v2 w2 hown2 hgr2 hnil2))
  have HL0 : Hid (Lq w v2 [39] w2) := ⟨hid (((Below.refl _ _).alloc (Nat.le_refl _) _).grown hgr2 (by simp) (fun k e => by cases e)), hid hown2⟩
  clear hown2 hgr2 hnil2
  go_loopw [3, 4] (fun v i wr => ∃ k : Nat, i = .int .i64 (k : Int) ∧ k ≤ S.size ∧ Hid (Lq w v (qp S k) wr)) (fun _ i _ => S.size - (intOf i).toNat)
  case atStart => exact ⟨0, rfl, Nat.zero_le _, HL0⟩
  case round =>
    obtain ⟨k, rfl, hk, HL⟩ := hrel
    have hl := (qp_len S k).1
    have hsz : w.heap.size ≤ wr.heap.size := HL.out.1.out.size
    cases hb : bt S k with
    | none =>
      have hge := bt_none hb
      have hkk : k = S.size := by omega
      have a0 : decide ((k : Int) < (S.size : Int)) = false := by simp; omega
      have HF : Hid (qt S = qp S k ++ [39]) := by show qt S = _; rw [hkk]; rfl
      clear hb hkk
      go_wp2_with (first | (at_builtin; refine wpList_append_own _ rfl (.tmp 67) (.tmp 68) 55 rfl w.heap.size 5 i0 (.int .u8 0) 1 1 Tryd.underlying55 hi0 hz0 hz1 hz2 rfl (by decide) _ _ _ rfl (HL.out.2.out.alloc _) ⟨wr.heap.size, 0, none⟩ 1 1 [.int .u8 39] rfl rfl (one_newB _ _ _) (bytes_ok [39]) (by unfold maxLen; omega) (by omega) (by simp; omega) ?_; intro v9 w9 hown9 hgr9 hnil9; have cva := conv_any (l := qp S k ++ [39]) (by rw [nv_append]; exact hown9) (by rw [← HF.out]; exact qt_lt S); have hb9 : Hid (Below w.heap.size w w9) := (HL.out.1.out.alloc hsz _).grown hgr9 (by simp; omega) (fun k e => (HL.out.2.out.lt k e).1); clear hown9 hgr9 hnil9))
      (try simp only [Exit.inBlock, Exit.then])
      refine bodyPost_ret (v := .string (nb (qp S k ++ [39]))) (by simp [results, Tryd.results18, go_sem]) rfl ?_
      exact ⟨by rw [HF.out], hb9.out⟩
    | some b =>
      obtain ⟨hkk, hxk⟩ := bt_at hb
      have hx := (bt_lt hb).2
      have a0 : decide ((k : Int) < (S.size : Int)) = true := by simp; omega
      have hkI : (k : Int) < (S.size : Int) := by omega
      have HQ : Hid (qp S (k + 1) = qp S k ++ lq b) := qp_succ hb
      have HN : Hid (((k + 1 : Nat) : Int) = (k : Int) + 1) := by show _ = _; omega
      clear hb
      by_cases h10 : b = 10
      · have HS : Hid (lq b = [92, 110]) := by rw [h10]; rfl
        have a10 : ((b : Int) == 10) = true := by simp; omega
        clear h10
        go_wp2_with (first | (at_builtin; refine Lib.wpList_append_own_string _ rfl (.tmp 33) (.const (.string { data := #[92, 110] })) 55 9 rfl w.heap.size 5 i0 Tryd.underlying55 Tryd.underlying9 hi0 hz0 hz1 hz2 _ _ _ rfl HL.out.2.out { data := #[92, 110] } rfl (by unfold maxLen; have hs2 : ({ data := #[92, 110] } : ByteArray).size = 2 := rfl; omega) (by have hs2 : ({ data := #[92, 110] } : ByteArray).size = 2 := rfl; omega) hsz ?_; intro v2 w2 hown2 hgr2 hnil2))
        have HL2 : Hid (Lq w v2 (qp S (k + 1)) w2) := by rw [HQ.out, HS.out]; exact HL.out.appS (m := [92, 110]) rfl (by simp) hown2 hgr2
        clear hown2 hgr2 hnil2 HL
        go_wp2_with fail
        go_roundw
        case rel => exact ⟨k + 1, by rw [HN.out], by omega, HL2⟩
        case measure => simp [intOf]; omega
      by_cases h13 : b = 13
      · have HS : Hid (lq b = [92, 114]) := by rw [h13]; rfl
        have a10 : ((b : Int) == 10) = false := by simp; omega
        have a13 : ((b : Int) == 13) = true := by simp; omega
        clear h13 h10
        go_wp2_with (first | (at_builtin; refine Lib.wpList_append_own_string _ rfl (.tmp 38) (.const (.string { data := #[92, 114] })) 55 9 rfl w.heap.size 5 i0 Tryd.underlying55 Tryd.underlying9 hi0 hz0 hz1 hz2 _ _ _ rfl HL.out.2.out { data := #[92, 114] } rfl (by unfold maxLen; have hs2 : ({ data := #[92, 114] } : ByteArray).size = 2 := rfl; omega) (by have hs2 : ({ data := #[92, 114] } : ByteArray).size = 2 := rfl; omega) hsz ?_; intro v2 w2 hown2 hgr2 hnil2))
        have HL2 : Hid (Lq w v2 (qp S (k + 1)) w2) := by rw [HQ.out, HS.out]; exact HL.out.appS (m := [92, 114]) rfl (by simp) hown2 hgr2
        clear hown2 hgr2 hnil2 HL
        go_wp2_with fail
        go_roundw
        case rel => exact ⟨k + 1, by rw [HN.out], by omega, HL2⟩
        case measure => simp [intOf]; omega
      by_cases h9 : b = 9
      · have HS : Hid (lq b = [92, 116]) := by rw [h9]; rfl
        have a10 : ((b : Int) == 10) = false := by simp; omega
        have a13 : ((b : Int) == 13) = false := by simp; omega
        have a9 : ((b : Int) == 9) = true := by simp; omega
        clear h9 h10 h13
        go_wp2_with (first | (at_builtin; refine Lib.wpList_append_own_string _ rfl (.tmp 43) (.const (.string { data := #[92, 116] })) 55 9 rfl w.heap.size 5 i0 Tryd.underlying55 Tryd.underlying9 hi0 hz0 hz1 hz2 _ _ _ rfl HL.out.2.out { data := #[92, 116] } rfl (by unfold maxLen; have hs2 : ({ data := #[92, 116] } : ByteArray).size = 2 := rfl; omega) (by have hs2 : ({ data := #[92, 116] } : ByteArray).size = 2 := rfl; omega) hsz ?_; intro v2 w2 hown2 hgr2 hnil2))
        have HL2 : Hid (Lq w v2 (qp S (k + 1)) w2) := by rw [HQ.out, HS.out]; exact HL.out.appS (m := [92, 116]) rfl (by simp) hown2 hgr2
        clear hown2 hgr2 hnil2 HL
        go_wp2_with fail
        go_roundw
        case rel => exact ⟨k + 1, by rw [HN.out], by omega, HL2⟩
        case measure => simp [intOf]; omega
      have a10 : ((b : Int) == 10) = false := by simp; omega
      have a13 : ((b : Int) == 13) = false := by simp; omega
      have a9 : ((b : Int) == 9) = false := by simp; omega
      have H3 : Hid (b ≠ 10 ∧ b ≠ 13 ∧ b ≠ 9) := ⟨h10, h13, h9⟩
      clear h10 h13 h9
      by_cases hm : b = 39 ∨ b = 92
      · have HS : Hid (lq b = [92, b]) := by
          show lq b = [92, b]
          rw [lq, if_neg H3.out.1, if_neg H3.out.2.1, if_neg H3.out.2.2, if_pos hm]
        rcases hm with h39 | h92
        · have a39 : ((b : Int) == 39) = true := by simp; omega
          clear h39
          go_wp2_with (first | (at_builtin; refine wpList_append_own _ rfl (.tmp 52) (.tmp 54) 55 rfl w.heap.size 5 i0 (.int .u8 0) 1 1 Tryd.underlying55 hi0 hz0 hz1 hz2 rfl (by decide) _ _ _ rfl (HL.out.2.out.alloc _) ⟨wr.heap.size, 0, none⟩ 2 2 [.int .u8 92, .int .u8 (b : Int)] rfl rfl (two_new _ _ _ _) (bytes_ok [92, (b : Int)]) (by unfold maxLen; omega) (by omega) (by simp; omega) ?_; intro v2 w2 hown2 hgr2 hnil2))
          have HL2 : Hid (Lq w v2 (qp S (k + 1)) w2) := by rw [HQ.out, HS.out]; exact HL.out.app (m := [92, b]) rfl rfl hown2 hgr2
          clear hown2 hgr2 hnil2 HL
          go_wp2_with fail
          go_roundw
          case rel => exact ⟨k + 1, by rw [HN.out], by omega, HL2⟩
          case measure => simp [intOf]; omega
        · have a39 : ((b : Int) == 39) = false := by simp; omega
          have a92 : ((b : Int) == 92) = true := by simp; omega
          clear h92
          go_wp2_with (first | (at_builtin; refine wpList_append_own _ rfl (.tmp 52) (.tmp 54) 55 rfl w.heap.size 5 i0 (.int .u8 0) 1 1 Tryd.underlying55 hi0 hz0 hz1 hz2 rfl (by decide) _ _ _ rfl (HL.out.2.out.alloc _) ⟨wr.heap.size, 0, none⟩ 2 2 [.int .u8 92, .int .u8 (b : Int)] rfl rfl (two_new _ _ _ _) (bytes_ok [92, (b : Int)]) (by unfold maxLen; omega) (by omega) (by simp; omega) ?_; intro v2 w2 hown2 hgr2 hnil2))
          have HL2 : Hid (Lq w v2 (qp S (k + 1)) w2) := by rw [HQ.out, HS.out]; exact HL.out.app (m := [92, b]) rfl rfl hown2 hgr2
          clear hown2 hgr2 hnil2 HL
          go_wp2_with fail
          go_roundw
          case rel => exact ⟨k + 1, by rw [HN.out], by omega, HL2⟩
          case measure => simp [intOf]; omega
      have a39 : ((b : Int) == 39) = false := by simp; omega
      have a92 : ((b : Int) == 92) = false := by simp; omega
      cases hp : plB b with
      | true =>
        have HS : Hid (lq b = [b]) := by
          show lq b = [b]
          rw [lq, if_neg H3.out.1, if_neg H3.out.2.1, if_neg H3.out.2.2, if_neg hm, hp, if_pos rfl]
        have hp2 : 32 ≤ b ∧ b ≤ 126 := by unfold plB at hp; simpa using hp
        have p1 : decide (32 ≤ (b : Int)) = true := by simp; omega
        have p2 : decide ((b : Int) ≤ 126) = true := by simp; omega
        clear hp hp2 hm
        go_wp2_with (first | (at_builtin; refine wpList_append_own _ rfl (.tmp 63) (.tmp 65) 55 rfl w.heap.size 5 i0 (.int .u8 0) 1 1 Tryd.underlying55 hi0 hz0 hz1 hz2 rfl (by decide) _ _ _ rfl (HL.out.2.out.alloc _) ⟨wr.heap.size, 0, none⟩ 1 1 [.int .u8 (b : Int)] rfl rfl (one_newB _ _ _) (bytes_ok [(b : Int)]) (by unfold maxLen; omega) (by omega) (by simp; omega) ?_; intro v2 w2 hown2 hgr2 hnil2))
        have HL2 : Hid (Lq w v2 (qp S (k + 1)) w2) := by rw [HQ.out, HS.out]; exact HL.out.app (m := [b]) rfl rfl hown2 hgr2
        clear hown2 hgr2 hnil2 HL
        go_wp2_with fail
        go_roundw
        case rel => exact ⟨k + 1, by rw [HN.out], by omega, HL2⟩
        case measure => simp [intOf]; omega
      | false =>
        have HS : Hid (lq b = [92, 120, hexd (b / 16), hexd (b % 16)]) := by
          show lq b = _
          rw [lq, if_neg H3.out.1, if_neg H3.out.2.1, if_neg H3.out.2.2, if_neg hm, hp, if_neg (by simp)]
        have hp2 : decide (32 ≤ (b : Int)) = false ∨ (decide (32 ≤ (b : Int)) = true ∧ decide ((b : Int) ≤ 126) = false) := by
          unfold plB at hp
          by_cases h1 : 32 ≤ b
          · right; simp [h1] at hp; exact ⟨by simp; omega, by simp; omega⟩
          · left; simp; omega
        have HD1 : Hid (∀ w : World, Calls Tryd.prog 30 #[.int .i64 ((b : Int) / 16)] w fun e w' => e = .returned (.string (nb [hexd (b / 16)])) ∧ w' = w) := fun w => by have := qdigits_any (b / 16) (by omega) w; simpa using this
        have HD2 : Hid (∀ w : World, Calls Tryd.prog 30 #[.int .i64 ((b : Int) % 16)] w fun e w' => e = .returned (.string (nb [hexd (b % 16)])) ∧ w' = w) := fun w => by have := qdigits_any (b % 16) (by omega) w; simpa using this
        have HLt : Hid (∀ x ∈ lq b, x < 256) := lq_lt b hx
        rw [HS.out] at HLt
        obtain ⟨D1, hD1⟩ : ∃ D, D = nb [hexd (b / 16)] := ⟨_, rfl⟩
        obtain ⟨D2, hD2⟩ : ∃ D, D = nb [hexd (b % 16)] := ⟨_, rfl⟩
        have hs1 : D1.size = 1 := by rw [hD1]; rfl
        have hs2 : D2.size = 1 := by rw [hD2]; rfl
        have HDD : Hid ({ data := #[92, 120] } ++ D1 ++ D2 = nb [92, 120, hexd (b / 16), hexd (b % 16)]) := by show _ = _; rw [hD1, hD2]; apply ByteArray.ext; simp [nb, ByteArray.data_append]
        rw [← hD1] at HD1
        rw [← hD2] at HD2
        have hs3 : ({ data := #[92, 120] } ++ D1 ++ D2 : ByteArray).size = 4 := by rw [ByteArray.size_append, ByteArray.size_append, hs1, hs2]; rfl
        clear hp hm hD1 hD2
        rcases hp2 with p1 | ⟨p1, p2⟩
        · go_wp2_with fail
          refine (HD1.out _).mono ?_
          rintro e w1 ⟨rfl, hw1⟩
          rw [hw1]
          clear hw1
          go_wp2_with fail
          refine (HD2.out _).mono ?_
          rintro e w1 ⟨rfl, hw1⟩
          rw [hw1]
          clear hw1
          go_wp2_with (first | (at_builtin; refine Lib.wpList_append_own_string _ rfl (.tmp 18) (.tmp 28) 55 9 rfl w.heap.size 5 i0 Tryd.underlying55 Tryd.underlying9 hi0 hz0 hz1 hz2 _ _ _ rfl HL.out.2.out ({ data := #[92, 120] } ++ D1 ++ D2) rfl (by unfold maxLen; have := hs3; omega) (by have := hs3; omega) hsz ?_; intro v2 w2 hown2 hgr2 hnil2))
          have HL2 : Hid (Lq w v2 (qp S (k + 1)) w2) := by rw [HQ.out, HS.out]; exact HL.out.appS (m := [92, 120, hexd (b / 16), hexd (b % 16)]) HDD.out HLt.out hown2 hgr2
          clear hown2 hgr2 hnil2 HL
          go_wp2_with fail
          go_roundw
          case rel => exact ⟨k + 1, by rw [HN.out], by omega, HL2⟩
          case measure => simp [intOf]; omega
        · go_wp2_with fail
          refine (HD1.out _).mono ?_
          rintro e w1 ⟨rfl, hw1⟩
          rw [hw1]
          clear hw1
          go_wp2_with fail
          refine (HD2.out _).mono ?_
          rintro e w1 ⟨rfl, hw1⟩
          rw [hw1]
          clear hw1
          go_wp2_with (first | (at_builtin; refine Lib.wpList_append_own_string _ rfl (.tmp 18) (.tmp 28) 55 9 rfl w.heap.size 5 i0 Tryd.underlying55 Tryd.underlying9 hi0 hz0 hz1 hz2 _ _ _ rfl HL.out.2.out ({ data := #[92, 120] } ++ D1 ++ D2) rfl (by unfold maxLen; have := hs3; omega) (by have := hs3; omega) hsz ?_; intro v2 w2 hown2 hgr2 hnil2))
          have HL2 : Hid (Lq w v2 (qp S (k + 1)) w2) := by rw [HQ.out, HS.out]; exact HL.out.appS (m := [92, 120, hexd (b / 16), hexd (b % 16)]) HDD.out HLt.out hown2 hgr2
          clear hown2 hgr2 hnil2 HL
          go_wp2_with fail
          go_roundw
          case rel => exact ⟨k + 1, by rw [HN.out], by omega, HL2⟩
          case measure => simp [intOf]; omega
end Go.Proofs.YtbdhgfblkgkekaaDoor
