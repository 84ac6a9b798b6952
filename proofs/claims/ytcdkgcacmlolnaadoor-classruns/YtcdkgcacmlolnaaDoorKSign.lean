/-
  What class.appendSign does: a byte's sign behind a row of bytes of one's own. Conditions: those that each theorem names.
-/
import Derived.Test.YtcdkgcacmlolnaaDoorKText
import Derived.Deep.RegionHeld3
namespace Go.Proofs.YtcdkgcacmlolnaaDoor
open Go.RowKit
set_option linter.unusedVariables false
theorem one_newB (w : World) (u : Value) (t : TypeId) : ∀ j x, [u][j]? = some x → (w.alloc (.cells #[u] t)).cell? ((⟨w.heap.size, 0, none⟩ : Addr).add j) = some x := by
  intro j x hj
  match j, hj with
  | 0, hj => simp at hj; subst hj; simp [Addr.add]
theorem four_new (w : World) (a b c d : Value) (t : TypeId) : ∀ j x, [a, b, c, d][j]? = some x → (w.alloc (.cells #[a, b, c, d] t)).cell? ((⟨w.heap.size, 0, none⟩ : Addr).add j) = some x := by
  intro j x hj
  match j, hj with
  | 0, hj => simp at hj; subst hj; simp [Addr.add]
  | 1, hj => simp at hj; subst hj; simp [Addr.add]
  | 2, hj => simp at hj; subst hj; simp [Addr.add]
  | 3, hj => simp at hj; subst hj; simp [Addr.add]
theorem bytes_ok (l : List Int) : ∀ u ∈ l.map (fun x => Value.int .u8 x), u.oneCell' = true := by
  intro u hu
  obtain ⟨x, _, rfl⟩ := List.mem_map.1 hu
  rfl
theorem dig_at (q : Nat) (hq : q < 16) (w : World) : (Instr.index 9 (.string { data := #[48, 49, 50, 51, 52, 53, 54, 55, 56, 57, 97, 98, 99, 100, 101, 102] }) (.int .u8 (q : Int))).run Tryd.prog w = .ok (.int .u8 ((hexd q : Nat) : Int)) w := by
  have : q = 0 ∨ q = 1 ∨ q = 2 ∨ q = 3 ∨ q = 4 ∨ q = 5 ∨ q = 6 ∨ q = 7 ∨ q = 8 ∨ q = 9 ∨ q = 10 ∨ q = 11 ∨ q = 12 ∨ q = 13 ∨ q = 14 ∨ q = 15 := by omega
  rcases this with rfl | rfl | rfl | rfl | rfl | rfl | rfl | rfl | rfl | rfl | rfl | rfl | rfl | rfl | rfl | rfl <;> (show (Instr.index 9 _ _).run Tryd.prog w = _; kernel_rfl)
/-- One append, closed. -/
theorem App.mk {base n m : Nat} {w w' : World} {o : Obj} {v v' : Value} {xs news : List Value} {l : List Nat} (ho : w.ownsRow base 5 1 v n xs) (hbase : base ≤ w.heap.size) (hm : m = l.length) (hl : news = nv l)
    (h : w'.ownsRow base 5 1 v' (n + m) (xs ++ news)) (hg : (w.alloc o).grownBy w' v.ownBlock) : App base w n xs l v' w' := by
  subst hm
  subst hl
  refine ⟨h, ((Below.refl _ _).alloc hbase _).grown hg (by simp; omega) (fun k e => (ho.lt k e).1), (NB.alloc w o).trans (NB.grown (ho.alloc o) hg)⟩
theorem App.trans {base n : Nat} {w w1 w2 : World} {xs : List Value} {l m : List Nat} {v1 v2 : Value} (h : App base w n xs l v1 w1) (k : App base w1 (n + l.length) (xs ++ nv l) m v2 w2) : App base w n xs (l ++ m) v2 w2 := by
  refine ⟨?_, h.2.1.trans k.2.1, h.2.2.trans k.2.2⟩
  have := k.1
  rw [nv_append, List.length_append, ← List.append_assoc, ← Nat.add_assoc]
  exact this
theorem App.of_drew {base n : Nat} {w w1 : World} {xs : List Value} {l : List Nat} {v1 : Value} (h : App base w.drew n xs l v1 w1) : App base w n xs l v1 w1 := ⟨h.1, (Below.refl _ _).drew.trans h.2.1, h.2.2⟩
theorem App.base {base n : Nat} {w w1 : World} {xs : List Value} {l : List Nat} {v1 : Value} (h : App base w n xs l v1 w1) (hb : base ≤ w.heap.size) : base ≤ w1.heap.size := Nat.le_trans hb h.2.1.size
set_option maxRecDepth 100000 in
set_option maxHeartbeats 4000000 in
theorem sign_any (base n b : Nat) (v : Value) (xs : List Value) (w : World) (hb : b < 256) (ho : w.ownsRow base 5 1 v n xs) (hn : n ≤ 100000) (hbase : base ≤ w.heap.size) :
    Calls Tryd.prog 33 #[v, .int .u8 (b : Int)] w fun e w' => ∃ v', e = .returned v' ∧ Hid (App base w n xs (sgn b) v' w') := by
  obtain ⟨i0, hi, hz0, hz1, hz2⟩ := info_parts Tryd.infoByte
  have HO : Hid (w.ownsRow base 5 1 v n xs) := ho
  have HM : Hid (∀ w : World, Calls Tryd.prog 44 #[.int .u8 (b : Int)] w fun e w' => e = .returned (.bool (mark b)) ∧ w' = w) := fun w => mark_any b w hb
  have HP : Hid (∀ w : World, Calls Tryd.prog 45 #[.int .u8 (b : Int)] w fun e w' => e = .returned (.bool (decide (32 ≤ b) && decide (b ≤ 126))) ∧ w' = w) := fun w => print_any b w hb
  clear ho
  by_cases h10 : b = 10
  · have HS : Hid (sgn b = [92, 110]) := by rw [h10]; rfl
    have a10 : ((b : Int) == 10) = true := by simp; omega
    clear h10
    go_enter Tryd.func33, Tryd.ntmps33
    go_wp2_with (first | (at_builtin; refine wpList_append_own _ rfl (.tmp 20) (.tmp 21) 59 rfl base 5 i0 (.int .u8 0) 1 1 Tryd.underlying59 hi hz0 hz1 hz2 rfl (by decide) _ _ _ rfl (HO.out.alloc _) ⟨w.heap.size, 0, none⟩ 2 2 [.int .u8 92, .int .u8 110] rfl rfl (two_new _ _ _ _) (bytes_ok [92, 110]) (by unfold maxLen; omega) (by omega) (by have := hbase; simp; omega) ?_; intro v2 w2 hown2 hgr2 hnil2))
    go_ret
    rw [HS.out]
    exact ⟨_, rfl, hid (App.mk HO.out hbase rfl rfl hown2 hgr2)⟩
  by_cases h13 : b = 13
  · have HS : Hid (sgn b = [92, 114]) := by rw [h13]; rfl
    have a10 : ((b : Int) == 10) = false := by simp; omega
    have a13 : ((b : Int) == 13) = true := by simp; omega
    clear h13
    go_enter Tryd.func33, Tryd.ntmps33
    go_wp2_with (first | (at_builtin; refine wpList_append_own _ rfl (.tmp 23) (.tmp 24) 59 rfl base 5 i0 (.int .u8 0) 1 1 Tryd.underlying59 hi hz0 hz1 hz2 rfl (by decide) _ _ _ rfl (HO.out.alloc _) ⟨w.heap.size, 0, none⟩ 2 2 [.int .u8 92, .int .u8 114] rfl rfl (two_new _ _ _ _) (bytes_ok [92, 114]) (by unfold maxLen; omega) (by omega) (by have := hbase; simp; omega) ?_; intro v2 w2 hown2 hgr2 hnil2))
    go_ret
    rw [HS.out]
    exact ⟨_, rfl, hid (App.mk HO.out hbase rfl rfl hown2 hgr2)⟩
  by_cases h9 : b = 9
  · have HS : Hid (sgn b = [92, 116]) := by rw [h9]; rfl
    have a10 : ((b : Int) == 10) = false := by simp; omega
    have a13 : ((b : Int) == 13) = false := by simp; omega
    have a9 : ((b : Int) == 9) = true := by simp; omega
    clear h9
    go_enter Tryd.func33, Tryd.ntmps33
    go_wp2_with (first | (at_builtin; refine wpList_append_own _ rfl (.tmp 26) (.tmp 27) 59 rfl base 5 i0 (.int .u8 0) 1 1 Tryd.underlying59 hi hz0 hz1 hz2 rfl (by decide) _ _ _ rfl (HO.out.alloc _) ⟨w.heap.size, 0, none⟩ 2 2 [.int .u8 92, .int .u8 116] rfl rfl (two_new _ _ _ _) (bytes_ok [92, 116]) (by unfold maxLen; omega) (by omega) (by have := hbase; simp; omega) ?_; intro v2 w2 hown2 hgr2 hnil2))
    go_ret
    rw [HS.out]
    exact ⟨_, rfl, hid (App.mk HO.out hbase rfl rfl hown2 hgr2)⟩
  have a10 : ((b : Int) == 10) = false := by simp; omega
  have a13 : ((b : Int) == 13) = false := by simp; omega
  have a9 : ((b : Int) == 9) = false := by simp; omega
  have H3 : Hid (b ≠ 10 ∧ b ≠ 13 ∧ b ≠ 9) := ⟨h10, h13, h9⟩
  clear h10 h13 h9
  cases hm : mark b
  · rw [hm] at HM
    cases hp : (decide (32 ≤ b) && decide (b ≤ 126))
    · rw [hp] at HP
      have HS : Hid (sgn b = [92, 120, hexd (b / 16), hexd (b % 16)]) := by
        have hp2 : ¬ (32 ≤ b ∧ b ≤ 126) := by simp at hp; omega
        show sgn b = _
        rw [sgn, if_neg H3.out.1, if_neg H3.out.2.1, if_neg H3.out.2.2, hm, if_neg (by simp), if_neg hp2]
      clear hp hm
      obtain ⟨q, hq⟩ : ∃ q, q = b / 16 := ⟨_, rfl⟩
      obtain ⟨r, hr⟩ : ∃ r, r = b % 16 := ⟨_, rfl⟩
      have d1 := dig_at q (by omega)
      have d2 := dig_at r (by omega)
      obtain ⟨dq, hdq⟩ : ∃ d, d = hexd q := ⟨_, rfl⟩
      obtain ⟨dr, hdr⟩ : ∃ d, d = hexd r := ⟨_, rfl⟩
      rw [← hq, ← hr, ← hdq, ← hdr] at HS
      rw [← hdq] at d1
      rw [← hdr] at d2
      have e1 : (b : Int) / 16 = (q : Int) := by omega
      have e2 : bits BinOp.and IntKind.u8 (b : Int) 15 = (r : Int) := by
        have := u8_and15 (x := (b : Int)) (by omega) (by omega)
        rw [this]; omega
      clear hq hr hdq hdr
      go_enter Tryd.func33, Tryd.ntmps33
      go_wp2_with fail
      refine (HM.out _).mono ?_
      rintro e w1 ⟨rfl, rfl⟩
      go_wp2_with fail
      refine (HP.out _).mono ?_
      rintro e w1 ⟨rfl, rfl⟩
      go_wp2_with fail
      have HO1 : Hid (w1.drew.ownsRow base 5 1 v n xs) := HO.out.kept (row := none) ⟨rfl, rfl, rfl, Nat.le_refl _, fun j hj _ => rfl⟩ (by cases hq : v.ownBlock <;> simp)
      go_region_held3 (fun _ => True) (trivial) (first
        | (rw [if_pos (by rfl)]; refine wp_append_own _ (.tmp 36) (.tmp 43) 59 rfl base 5 i0 (.int .u8 0) 1 1 Tryd.underlying59 hi hz0 hz1 hz2 rfl (by decide) _ _ _ rfl (HO1.out.alloc _) ⟨w1.heap.size, 0, none⟩ 4 4 [.int .u8 92, .int .u8 120, .int .u8 (dq : Int), .int .u8 (dr : Int)] rfl rfl (four_new _ _ _ _ _ _) (bytes_ok [92, 120, (dq : Int), (dr : Int)]) (by unfold maxLen; omega) (by omega) (by have := hbase; simp; omega) ?_; intro v2 w2 hown2 hgr2 hnil2))
      all_goals
        go_wp2_with fail
        go_ret
        rw [HS.out]
        exact ⟨_, rfl, hid (App.of_drew (App.mk HO1.out hbase rfl rfl hown2 hgr2))⟩
    · rw [hp] at HP
      have HS : Hid (sgn b = [b]) := by
        have hp2 : 32 ≤ b ∧ b ≤ 126 := by simpa using hp
        show sgn b = [b]
        rw [sgn, if_neg H3.out.1, if_neg H3.out.2.1, if_neg H3.out.2.2, hm, if_neg (by simp), if_pos hp2]
      clear hp hm
      go_enter Tryd.func33, Tryd.ntmps33
      go_wp2_with fail
      refine (HM.out _).mono ?_
      rintro e w1 ⟨rfl, rfl⟩
      go_wp2_with fail
      refine (HP.out _).mono ?_
      rintro e w1 ⟨rfl, rfl⟩
      go_wp2_with (first | (at_builtin; refine wpList_append_own _ rfl (.tmp 32) (.tmp 34) 59 rfl base 5 i0 (.int .u8 0) 1 1 Tryd.underlying59 hi hz0 hz1 hz2 rfl (by decide) _ _ _ rfl (HO.out.alloc _) ⟨w1.heap.size, 0, none⟩ 1 1 [.int .u8 (b : Int)] rfl rfl (one_newB _ _ _) (bytes_ok [(b : Int)]) (by unfold maxLen; omega) (by omega) (by have := hbase; simp; omega) ?_; intro v2 w2 hown2 hgr2 hnil2))
      go_ret
      rw [HS.out]
      exact ⟨_, rfl, hid (App.mk HO.out hbase rfl rfl hown2 hgr2)⟩
  · rw [hm] at HM
    have HS : Hid (sgn b = [92] ++ [b]) := by
      show sgn b = [92, b]
      rw [sgn, if_neg H3.out.1, if_neg H3.out.2.1, if_neg H3.out.2.2, hm, if_pos rfl]
    clear hm
    go_enter Tryd.func33, Tryd.ntmps33
    go_wp2_with fail
    refine (HM.out _).mono ?_
    rintro e w1 ⟨rfl, rfl⟩
    go_wp2_with (first
      | (at_builtin; refine wpList_append_own _ rfl (.tmp 29) (.tmp 30) 59 rfl base 5 i0 (.int .u8 0) 1 1 Tryd.underlying59 hi hz0 hz1 hz2 rfl (by decide) _ _ _ rfl (HO.out.alloc _) ⟨w1.heap.size, 0, none⟩ 1 1 [.int .u8 92] rfl rfl (one_newB _ _ _) (bytes_ok [92]) (by unfold maxLen; omega) (by omega) (by have := hbase; simp; omega) ?_; intro v2 w2 hown2 hgr2 hnil2; have HA : Hid (App base _ n xs [92] v2 w2) := App.mk HO.out hbase rfl rfl hown2 hgr2; have hbase2 : base ≤ w2.heap.size := HA.out.base hbase; have HO2 : Hid (w2.ownsRow base 5 1 v2 (n + 1) (xs ++ nv [92])) := HA.out.1; clear hown2 hgr2 hnil2)
      | (at_builtin; refine wpList_append_own _ rfl (.tmp 32) (.tmp 34) 59 rfl base 5 i0 (.int .u8 0) 1 1 Tryd.underlying59 hi hz0 hz1 hz2 rfl (by decide) _ _ _ rfl (HO2.out.alloc _) ⟨w2.heap.size, 0, none⟩ 1 1 [.int .u8 (b : Int)] rfl rfl (one_newB _ _ _) (bytes_ok [(b : Int)]) (by unfold maxLen; omega) (by omega) (by have := hbase2; simp; omega) ?_; intro v3 w3 hown3 hgr3 hnil3))
    go_ret
    rw [HS.out]
    exact ⟨_, rfl, hid (HA.out.trans (App.mk HO2.out hbase2 rfl rfl hown3 hgr3))⟩
end Go.Proofs.YtcdkgcacmlolnaaDoor
