/-
  What class.Text answers. Conditions: those that each theorem names.
-/
import Derived.Test.YtggmoneicdkamaaGreatDoorVQ2
import Derived.Deep.RegionHeld3
import Derived.Laws.IdiomStrings
namespace Go.Proofs.YtggmoneicdkamaaGreatDoor
open Go.RowKit
set_option linter.unusedVariables false
/-- The sign of a byte. -/
def sgn (b : Nat) : List Nat := if b = 10 then [92, 110] else if b = 13 then [92, 114] else if b = 9 then [92, 116] else if mark b then [92, b] else if 32 ≤ b ∧ b ≤ 126 then [b] else [92, 120, hexd (b / 16), hexd (b % 16)]
set_option maxRecDepth 100000 in
set_option maxHeartbeats 4000000 in
theorem sign_any (base n b : Nat) (v : Value) (xs : List Value) (w : World) (hb : b < 256) (ho : w.ownsRow base 5 1 v n xs) (hn : n ≤ 100000) (hbase : base ≤ w.heap.size) :
    Calls Tryz.prog 187 #[v, .int .u8 (b : Int)] w fun e w' => ∃ v', e = .returned v' ∧ Hid (App base w n xs (sgn b) v' w') := by
  obtain ⟨i0, hi, hz0, hz1, hz2⟩ := info_parts Tryz.infoByte
  have HO : Hid (w.ownsRow base 5 1 v n xs) := ho
  have HM : Hid (∀ w : World, Calls Tryz.prog 179 #[.int .u8 (b : Int)] w fun e w' => e = .returned (.bool (mark b)) ∧ w' = w) := fun w => mark_any b w hb
  have HP : Hid (∀ w : World, Calls Tryz.prog 180 #[.int .u8 (b : Int)] w fun e w' => e = .returned (.bool (decide (32 ≤ b) && decide (b ≤ 126))) ∧ w' = w) := fun w => print_any b w hb
  clear ho
  by_cases h10 : b = 10
  · have HS : Hid (sgn b = [92, 110]) := by rw [h10]; rfl
    have a10 : ((b : Int) == 10) = true := by simp; omega
    clear h10
    go_enter Tryz.func187, Tryz.ntmps187
    go_wp2_with (first | (at_builtin; refine wpList_append_own _ rfl (.tmp 20) (.tmp 21) 99 rfl base 5 i0 (.int .u8 0) 1 1 Tryz.underlying99 hi hz0 hz1 hz2 rfl (by decide) _ _ _ rfl (HO.out.alloc _) ⟨w.heap.size, 0, none⟩ 2 2 [.int .u8 92, .int .u8 110] rfl rfl (two_new _ _ _ _) (bytes_ok [92, 110]) (by unfold maxLen; omega) (by omega) (by have := hbase; simp; omega) ?_; intro v2 w2 hown2 hgr2 hnil2))
    go_ret
    rw [HS.out]
    exact ⟨_, rfl, hid (App.mk HO.out hbase rfl rfl hown2 hgr2)⟩
  by_cases h13 : b = 13
  · have HS : Hid (sgn b = [92, 114]) := by rw [h13]; rfl
    have a10 : ((b : Int) == 10) = false := by simp; omega
    have a13 : ((b : Int) == 13) = true := by simp; omega
    clear h13
    go_enter Tryz.func187, Tryz.ntmps187
    go_wp2_with (first | (at_builtin; refine wpList_append_own _ rfl (.tmp 23) (.tmp 24) 99 rfl base 5 i0 (.int .u8 0) 1 1 Tryz.underlying99 hi hz0 hz1 hz2 rfl (by decide) _ _ _ rfl (HO.out.alloc _) ⟨w.heap.size, 0, none⟩ 2 2 [.int .u8 92, .int .u8 114] rfl rfl (two_new _ _ _ _) (bytes_ok [92, 114]) (by unfold maxLen; omega) (by omega) (by have := hbase; simp; omega) ?_; intro v2 w2 hown2 hgr2 hnil2))
    go_ret
    rw [HS.out]
    exact ⟨_, rfl, hid (App.mk HO.out hbase rfl rfl hown2 hgr2)⟩
  by_cases h9 : b = 9
  · have HS : Hid (sgn b = [92, 116]) := by rw [h9]; rfl
    have a10 : ((b : Int) == 10) = false := by simp; omega
    have a13 : ((b : Int) == 13) = false := by simp; omega
    have a9 : ((b : Int) == 9) = true := by simp; omega
    clear h9
    go_enter Tryz.func187, Tryz.ntmps187
    go_wp2_with (first | (at_builtin; refine wpList_append_own _ rfl (.tmp 26) (.tmp 27) 99 rfl base 5 i0 (.int .u8 0) 1 1 Tryz.underlying99 hi hz0 hz1 hz2 rfl (by decide) _ _ _ rfl (HO.out.alloc _) ⟨w.heap.size, 0, none⟩ 2 2 [.int .u8 92, .int .u8 116] rfl rfl (two_new _ _ _ _) (bytes_ok [92, 116]) (by unfold maxLen; omega) (by omega) (by have := hbase; simp; omega) ?_; intro v2 w2 hown2 hgr2 hnil2))
    go_ret
    rw [HS.out]
    exact ⟨_, rfl, hid (App.mk HO.out hbase rfl rfl hown2 hgr2)⟩
  have a10 : ((b : Int) == 10) = false := by simp; omega
  have a13 : ((b : Int) == 13) = false := by simp; omega
  have a9 : ((b : Int) == 9) = false := by simp; omega
  have H3 : Hid (b ≠ 10 ∧ b ≠ 13 ∧ b ≠ 9) := ⟨h10, h13, h9⟩
  clear h10 h13 h9
  cases hm : mark b
  · rw [hm] at HM
    cases hp : (decide (32 ≤ b) && decide (b ≤ 126))
    · rw [hp] at HP
      have HS : Hid (sgn b = [92, 120, hexd (b / 16), hexd (b % 16)]) := by
        have hp2 : ¬ (32 ≤ b ∧ b ≤ 126) := by simp at hp; omega
        show sgn b = _
        rw [sgn, if_neg H3.out.1, if_neg H3.out.2.1, if_neg H3.out.2.2, hm, if_neg (by simp), if_neg hp2]
      clear hp hm
      obtain ⟨q, hq⟩ : ∃ q, q = b / 16 := ⟨_, rfl⟩
      obtain ⟨r, hr⟩ : ∃ r, r = b % 16 := ⟨_, rfl⟩
      have d1 := dig_at q (by omega)
      have d2 := dig_at r (by omega)
      obtain ⟨dq, hdq⟩ : ∃ d, d = hexd q := ⟨_, rfl⟩
      obtain ⟨dr, hdr⟩ : ∃ d, d = hexd r := ⟨_, rfl⟩
      rw [← hq, ← hr, ← hdq, ← hdr] at HS
      rw [← hdq] at d1
      rw [← hdr] at d2
      have e1 : (b : Int) / 16 = (q : Int) := by omega
      have e2 : bits BinOp.and IntKind.u8 (b : Int) 15 = (r : Int) := by
        have := u8_and15 (x := (b : Int)) (by omega) (by omega)
        rw [this]; omega
      clear hq hr hdq hdr
      go_enter Tryz.func187, Tryz.ntmps187
      go_wp2_with fail
      refine (HM.out _).mono ?_
      rintro e w1 ⟨rfl, rfl⟩
      go_wp2_with fail
      refine (HP.out _).mono ?_
      rintro e w1 ⟨rfl, rfl⟩
      go_wp2_with fail
      have HO1 : Hid (w1.drew.ownsRow base 5 1 v n xs) := HO.out.kept (row := none) ⟨rfl, rfl, rfl, Nat.le_refl _, fun j hj _ => rfl⟩ (by cases hq : v.ownBlock <;> simp)
      go_region_held3 (fun _ => True) (trivial) (first
        | (rw [if_pos (by rfl)]; refine wp_append_own _ (.tmp 36) (.tmp 43) 99 rfl base 5 i0 (.int .u8 0) 1 1 Tryz.underlying99 hi hz0 hz1 hz2 rfl (by decide) _ _ _ rfl (HO1.out.alloc _) ⟨w1.heap.size, 0, none⟩ 4 4 [.int .u8 92, .int .u8 120, .int .u8 (dq : Int), .int .u8 (dr : Int)] rfl rfl (four_new _ _ _ _ _ _) (bytes_ok [92, 120, (dq : Int), (dr : Int)]) (by unfold maxLen; omega) (by omega) (by have := hbase; simp; omega) ?_; intro v2 w2 hown2 hgr2 hnil2))
      all_goals
        go_wp2_with fail
        go_ret
        rw [HS.out]
        exact ⟨_, rfl, hid (App.of_drew (App.mk HO1.out hbase rfl rfl hown2 hgr2))⟩
    · rw [hp] at HP
      have HS : Hid (sgn b = [b]) := by
        have hp2 : 32 ≤ b ∧ b ≤ 126 := by simpa using hp
        show sgn b = [b]
        rw [sgn, if_neg H3.out.1, if_neg H3.out.2.1, if_neg H3.out.2.2, hm, if_neg (by simp), if_pos hp2]
      clear hp hm
      go_enter Tryz.func187, Tryz.ntmps187
      go_wp2_with fail
      refine (HM.out _).mono ?_
      rintro e w1 ⟨rfl, rfl⟩
      go_wp2_with fail
      refine (HP.out _).mono ?_
      rintro e w1 ⟨rfl, rfl⟩
      go_wp2_with (first | (at_builtin; refine wpList_append_own _ rfl (.tmp 32) (.tmp 34) 99 rfl base 5 i0 (.int .u8 0) 1 1 Tryz.underlying99 hi hz0 hz1 hz2 rfl (by decide) _ _ _ rfl (HO.out.alloc _) ⟨w1.heap.size, 0, none⟩ 1 1 [.int .u8 (b : Int)] rfl rfl (one_newB _ _ _) (bytes_ok [(b : Int)]) (by unfold maxLen; omega) (by omega) (by have := hbase; simp; omega) ?_; intro v2 w2 hown2 hgr2 hnil2))
      go_ret
      rw [HS.out]
      exact ⟨_, rfl, hid (App.mk HO.out hbase rfl rfl hown2 hgr2)⟩
  · rw [hm] at HM
    have HS : Hid (sgn b = [92] ++ [b]) := by
      show sgn b = [92, b]
      rw [sgn, if_neg H3.out.1, if_neg H3.out.2.1, if_neg H3.out.2.2, hm, if_pos rfl]
    clear hm
    go_enter Tryz.func187, Tryz.ntmps187
    go_wp2_with fail
    refine (HM.out _).mono ?_
    rintro e w1 ⟨rfl, rfl⟩
    go_wp2_with (first
      | (at_builtin; refine wpList_append_own _ rfl (.tmp 29) (.tmp 30) 99 rfl base 5 i0 (.int .u8 0) 1 1 Tryz.underlying99 hi hz0 hz1 hz2 rfl (by decide) _ _ _ rfl (HO.out.alloc _) ⟨w1.heap.size, 0, none⟩ 1 1 [.int .u8 92] rfl rfl (one_newB _ _ _) (bytes_ok [92]) (by unfold maxLen; omega) (by omega) (by have := hbase; simp; omega) ?_; intro v2 w2 hown2 hgr2 hnil2; have HA : Hid (App base _ n xs [92] v2 w2) := App.mk HO.out hbase rfl rfl hown2 hgr2; have hbase2 : base ≤ w2.heap.size := HA.out.base hbase; have HO2 : Hid (w2.ownsRow base 5 1 v2 (n + 1) (xs ++ nv [92])) := HA.out.1; clear hown2 hgr2 hnil2)
      | (at_builtin; refine wpList_append_own _ rfl (.tmp 32) (.tmp 34) 99 rfl base 5 i0 (.int .u8 0) 1 1 Tryz.underlying99 hi hz0 hz1 hz2 rfl (by decide) _ _ _ rfl (HO2.out.alloc _) ⟨w2.heap.size, 0, none⟩ 1 1 [.int .u8 (b : Int)] rfl rfl (one_newB _ _ _) (bytes_ok [(b : Int)]) (by unfold maxLen; omega) (by omega) (by have := hbase2; simp; omega) ?_; intro v3 w3 hown3 hgr3 hnil3))
    go_ret
    rw [HS.out]
    exact ⟨_, rfl, hid (HA.out.trans (App.mk HO2.out hbase2 rfl rfl hown3 hgr3))⟩
/-- A row's text. -/
def memb (p : Nat × Nat) : List Nat := sgn p.1 ++ ((if 1 < p.2 - p.1 then [45] else []) ++ (if p.1 < p.2 then sgn p.2 else []))
def body : List (Nat × Nat) → List Nat
  | [] => []
  | p :: t => memb p ++ body t
theorem body_snoc : ∀ (a : List (Nat × Nat)) (p : Nat × Nat), body (a ++ [p]) = body a ++ memb p
  | [], p => by simp [body]
  | q :: t, p => by simp only [List.cons_append, body, body_snoc t p, List.append_assoc]
theorem sgn_len (b : Nat) : 1 ≤ (sgn b).length ∧ (sgn b).length ≤ 4 := by
  unfold sgn
  split
  · simp
  · split
    · simp
    · split
      · simp
      · split
        · simp
        · split <;> simp
theorem sgn_lt (b : Nat) (hb : b < 256) : ∀ x ∈ sgn b, x < 256 := by
  have h1 := hexd_lt (b / 16) (by omega)
  have h2 := hexd_lt (b % 16) (by omega)
  unfold sgn
  split
  · intro x hx; simp at hx; omega
  · split
    · intro x hx; simp at hx; omega
    · split
      · intro x hx; simp at hx; omega
      · split
        · intro x hx; simp at hx; omega
        · split
          · intro x hx; simp at hx; omega
          · intro x hx; simp at hx; omega
theorem memb_len (p : Nat × Nat) : (memb p).length ≤ 9 := by
  have h1 := sgn_len p.1
  have h2 := sgn_len p.2
  unfold memb
  simp only [List.length_append]
  split <;> split <;> simp <;> omega
theorem memb_lt (p : Nat × Nat) (h1 : p.1 < 256) (h2 : p.2 < 256) : ∀ x ∈ memb p, x < 256 := by
  intro x hx
  unfold memb at hx
  simp only [List.mem_append] at hx
  rcases hx with hx | hx | hx
  · exact sgn_lt p.1 h1 x hx
  · split at hx
    · simp at hx; omega
    · simp at hx
  · split at hx
    · exact sgn_lt p.2 h2 x hx
    · simp at hx
theorem body_len : ∀ (a : List (Nat × Nat)), (body a).length ≤ 9 * a.length
  | [] => by simp [body]
  | p :: t => by have := body_len t; have := memb_len p; simp only [body, List.length_append, List.length_cons]; omega
theorem body_lt : ∀ (a : List (Nat × Nat)), (∀ p ∈ a, p.1 < 256 ∧ p.2 < 256) → ∀ x ∈ body a, x < 256
  | [], _, x, hx => by simp [body] at hx
  | p :: t, h, x, hx => by
    simp only [body, List.mem_append] at hx
    rcases hx with hx | hx
    · exact memb_lt p (h p (List.mem_cons_self ..)).1 (h p (List.mem_cons_self ..)).2 x hx
    · exact body_lt t (fun q hq => h q (List.mem_cons_of_mem _ hq)) x hx
/-- A class's text. -/
def txt (C : Nat) : List Nat := ([91] ++ body (rs C 256).reverse) ++ [93]
theorem txt_lt (C : Nat) : ∀ x ∈ txt C, x < 256 := by
  intro x hx
  unfold txt at hx
  simp only [List.mem_append, List.mem_singleton] at hx
  rcases hx with (rfl | hx) | rfl
  · omega
  · exact body_lt _ (fun p hp => by have := rs_lt C 256 p (List.mem_reverse.1 hp); omega) x hx
  · omega
theorem pv_get (a : List (Nat × Nat)) (p : Nat × Nat) (b : List (Nat × Nat)) : (pv (a ++ p :: b))[a.length * 2]? = some (.int .i64 (p.1 : Int)) ∧ (pv (a ++ p :: b))[a.length * 2 + 1]? = some (.int .i64 (p.2 : Int)) := by
  rw [pv_append]
  have := pv_length a
  constructor
  · rw [List.getElem?_append_right (by omega), this, Nat.sub_self]; rfl
  · rw [List.getElem?_append_right (by omega), this, show a.length * 2 + 1 - a.length * 2 = 1 by omega]; rfl
theorem pairs_NB {w w' : World} {base n : Nat} {v : Value} {xs : List Value} (h : w.ownsRow base 186 2 v n xs) (hb : NB w w') : w'.ownsRow base 186 2 v n xs := by
  refine ⟨h.1, ?_⟩
  rcases h.2 with hn | ⟨g, cap, cur, rfl, h1, h2, rest⟩
  · exact .inl hn
  · refine .inr ⟨g, cap, cur, rfl, h1, ?_, rest⟩
    have hg : g < w.heap.size := by
      rcases Nat.lt_or_ge g w.heap.size with h3 | h3
      · exact h3
      · rw [Array.getElem?_eq_none h3] at h2; cases h2
    rw [hb.2 g hg (fun c hc => by rw [h2] at hc; simp at hc)]
    exact h2
/-- What stays while the text is written: the text so far, and the rows. -/
def Tx (w : World) (base2 : Nat) (rv : Value) (L : List (Nat × Nat)) (v : Value) (l : List Nat) (w' : World) : Prop :=
  Hid (Below w.heap.size w w') ∧ Hid (w'.ownsRow base2 186 2 rv L.length (pv L)) ∧ Hid (w'.ownsRow w.heap.size 5 1 v l.length (nv l))
theorem Tx.app {w W w' : World} {base2 : Nat} {rv v v' : Value} {L : List (Nat × Nat)} {l m : List Nat} (h : Tx w base2 rv L v l W) (k : App w.heap.size W l.length (nv l) m v' w') : Tx w base2 rv L v' (l ++ m) w' :=
  ⟨hid (h.1.out.trans k.2.1), hid (pairs_NB h.2.1.out k.2.2), hid (by rw [List.length_append, nv_append]; exact k.1)⟩
theorem Tx.keep {w W w' : World} {base2 : Nat} {rv v : Value} {L : List (Nat × Nat)} {l : List Nat} (h : Tx w base2 rv L v l W) (hb : Below W.heap.size W w') : Tx w base2 rv L v l w' :=
  ⟨hid (h.1.out.trans (hb.mono h.1.out.size)), hid (own_keep h.2.1.out hb), hid (own_keep h.2.2.out hb)⟩
set_option maxRecDepth 100000 in
set_option maxHeartbeats 4000000 in
theorem text_any (C : Nat) (w : World) (hC : C < 2 ^ 256) (hT : TabIs w) :
    Calls Tryz.prog 171 #[cv C] w fun e w' => e = .returned (.string (nb (txt C))) ∧ Below w.heap.size w w' := by
  obtain ⟨i0, hi0, hz0, hz1, hz2⟩ := info_parts Tryz.infoByte
  have HT : Hid (TabIs w) := hT
  clear hT
  unfold cv
  go_enter Tryz.func171, Tryz.ntmps171
  go_wp2_with fail
  refine (runs_any C _ hC ((HT.out.alloc _).alloc _)).mono ?_
  rintro e w2 ⟨rv, rfl, HO2, hb2⟩
  obtain ⟨L, hL⟩ : ∃ L, L = (rs C 256).reverse := ⟨_, rfl⟩
  have hLl : L.length = (rs C 256).length := by rw [hL]; simp
  have hL6 : L.length ≤ 256 := by rw [hLl]; exact rs_len C 256
  have HQ2 : Hid (∀ p ∈ L, p.1 ≤ p.2 ∧ p.2 < 256) := by rw [hL]; exact fun p hp => rs_lt C 256 p (List.mem_reverse.1 hp)
  have HF : Hid (txt C = ([91] ++ body L) ++ [93]) := by rw [hL]; rfl
  have HF2 : Hid (∀ x ∈ ([91] ++ body L) ++ [93], x < 256) := by rw [← HF.out]; exact txt_lt C
  have hrow0 : ((w.alloc (.cells #[.int .u64 (wd C 0 : Nat), .int .u64 (wd C 1 : Nat), .int .u64 (wd C 2 : Nat), .int .u64 (wd C 3 : Nat)] 55)).alloc (.cells #[.int .u8 91] 5)).ownsRow w.heap.size 5 1 (.slice (some ⟨w.heap.size + 1, 0, none⟩) 1 1) 1 (nv [91]) :=
    ⟨rfl, .inr ⟨w.heap.size + 1, 1, #[.int .u8 91], rfl, by omega, new_block_at _ _ (by simp), Nat.le_refl _, by unfold maxLen; omega, rfl, rfl⟩⟩
  obtain ⟨base2, hb2d⟩ : ∃ b, b = ((w.alloc (.cells #[.int .u64 (wd C 0 : Nat), .int .u64 (wd C 1 : Nat), .int .u64 (wd C 2 : Nat), .int .u64 (wd C 3 : Nat)] 55)).alloc (.cells #[.int .u8 91] 5)).heap.size := ⟨_, rfl⟩
  have HX0 : Hid (Tx w base2 rv L (.slice (some ⟨w.heap.size + 1, 0, none⟩) 1 1) [91] w2) :=
    ⟨hid ((((Below.refl _ _).alloc (Nat.le_refl _) _).alloc (by simp) _).trans (hb2.out.mono (by simp; omega))), hid (by rw [hb2d, hLl, hL]; exact HO2.out), hid (own_keep hrow0 hb2.out)⟩
  clear hrow0 HO2 hb2 hL hLl hb2d
  rcases HX0.out.2.1.out.2 with ⟨rfl, hn0⟩ | ⟨g0, cap, cur, rfl, hg0, hh0, hn1, hn2, hn3, hn4⟩
  · have hL0 : L = [] := List.eq_nil_of_length_eq_zero hn0
    obtain ⟨l, hl⟩ : ∃ l : List Nat, l = [91] := ⟨_, rfl⟩
    have hl3 : l.length ≤ 2305 := by rw [hl]; simp
    have HLt : Hid (∀ x ∈ l ++ [93], x < 256) := by have := HF2.out; rw [hL0] at this; rw [hl]; exact this
    have HFin : Hid (txt C = l ++ [93]) := by have := HF.out; rw [hL0] at this; rw [hl]; exact this
    rw [← hl] at HX0
    clear hL0 hl
    go_wp2_with fail
    refine wp_loop_rounds 1 ?_
    rw [rounds_succ]
    have hsz : w.heap.size ≤ w2.heap.size := HX0.out.1.out.size
    go_wp2_with (first | (at_builtin; refine wpList_append_own _ rfl (.tmp 39) (.tmp 40) 99 rfl w.heap.size 5 i0 (.int .u8 0) 1 1 Tryz.underlying99 hi0 hz0 hz1 hz2 rfl (by decide) _ _ _ rfl (HX0.out.2.2.out.alloc _) ⟨w2.heap.size, 0, none⟩ 1 1 [.int .u8 93] rfl rfl (one_newB _ _ _) (bytes_ok [93]) (by unfold maxLen; omega) (by omega) (by simp; omega) ?_; intro v9 w9 hown9 hgr9 hnil9; obtain ⟨g9, c9, rfl⟩ := own_shape hown9 (by omega); have cv9 := conv_own (l := l ++ [93]) (by rw [nv_append]; exact hown9) HLt.out))
    go_ret
    have hb9 : Below w.heap.size w w9 := (HX0.out.1.out.alloc hsz _).grown hgr9 (by simp; omega) (fun k e => (HX0.out.2.2.out.lt k e).1)
    exact ⟨by rw [HFin.out]; rfl, hb9⟩
  · clear hg0 hh0 hn3 hn4 cur
    unfold maxLen at hn2
    go_wp2_with fail
    go_loopw [3, 12] (fun v i wr => ∃ (A B : List (Nat × Nat)) (l : List Nat), i = .int .i64 ((A.length : Nat) : Int) ∧ Hid (L = A ++ B) ∧ Hid (l = [91] ++ body A) ∧ A.length ≤ L.length ∧ Hid (Tx w base2 (.slice (some ⟨g0, 0, none⟩) L.length cap) L v l wr)) (fun _ i _ => L.length - (intOf i).toNat)
    case atStart => exact ⟨[], L, [91], rfl, hid rfl, hid rfl, by simp, HX0⟩
    case round =>
      obtain ⟨A, B, l, rfl, HAB, HL, hAl, HX⟩ := hrel
      have hl3 : l.length ≤ 2305 := by rw [HL.out]; have := body_len A; simp; omega
      cases B with
      | nil =>
        have hk : ((A.length : Nat) : Int) = (L.length : Int) := by have := congrArg List.length HAB.out; simp at this; omega
        have HLt : Hid (∀ x ∈ l ++ [93], x < 256) := by have := HF2.out; rw [HAB.out, List.append_nil] at this; rw [HL.out]; exact this
        have HFin : Hid (txt C = l ++ [93]) := by have := HF.out; rw [HAB.out, List.append_nil] at this; rw [HL.out]; exact this
        have hsz : w.heap.size ≤ wr.heap.size := HX.out.1.out.size
        go_wp2_with (first | (at_builtin; refine wpList_append_own _ rfl (.tmp 39) (.tmp 40) 99 rfl w.heap.size 5 i0 (.int .u8 0) 1 1 Tryz.underlying99 hi0 hz0 hz1 hz2 rfl (by decide) _ _ _ rfl (HX.out.2.2.out.alloc _) ⟨wr.heap.size, 0, none⟩ 1 1 [.int .u8 93] rfl rfl (one_newB _ _ _) (bytes_ok [93]) (by unfold maxLen; omega) (by omega) (by simp; omega) ?_; intro v9 w9 hown9 hgr9 hnil9; obtain ⟨g9, c9, rfl⟩ := own_shape hown9 (by omega); have cv9 := conv_own (l := l ++ [93]) (by rw [nv_append]; exact hown9) HLt.out))
        go_ret
        have hb9 : Below w.heap.size w w9 := (HX.out.1.out.alloc hsz _).grown hgr9 (by simp; omega) (fun k e => (HX.out.2.2.out.lt k e).1)
        exact ⟨by rw [HFin.out]; rfl, hb9⟩
      | cons p B' =>
        have HAB2 : Hid (L = (A ++ [p]) ++ B') := by show L = _; rw [HAB.out]; simp
        obtain ⟨p1, p2⟩ := HQ2.out p (by rw [HAB.out]; simp)
        have hat := pv_get A p B'
        rw [← HAB.out] at hat
        have hkl : A.length < L.length := by rw [HAB.out]; simp
        have hkI : ((A.length : Nat) : Int) < (L.length : Int) := by omega
        have e0 := HX.out.2.1.out.cellAt (A.length * 2) (by omega)
        have e1 := HX.out.2.1.out.cellAt (A.length * 2 + 1) (by omega)
        rw [hat.1] at e0
        rw [hat.2] at e1
        obtain ⟨lo, hlo⟩ : ∃ lo, lo = p.1 := ⟨_, rfl⟩
        obtain ⟨hi, hhi⟩ : ∃ hi, hi = p.2 := ⟨_, rfl⟩
        rw [← hlo] at e0 p1
        rw [← hhi] at e1 p1 p2
        have hgl : g0 < wr.heap.size := World.block_lt_of_cell? wr _ e0
        have HX1 : Hid (Tx w base2 (.slice (some ⟨g0, 0, none⟩) L.length cap) L u3 l (wr.alloc (.cells #[.int .i64 (lo : Int), .int .i64 (hi : Int)] 186)).drew) := HX.out.keep ((Below.refl _ _).alloc (Nat.le_refl _) _).drew
        clear hat HAB
        by_cases hv : lo = hi
        · have hv1 : ¬ lo < hi := by omega
          have HM : Hid (memb p = sgn lo) := by
            show memb p = _
            rw [memb, ← hlo, ← hhi, if_neg (by omega), if_neg (by omega)]
            simp
          have d1 : decide (1 < (hi : Int) - (lo : Int)) = false := by simp; omega
          have d2 : decide ((lo : Int) < (hi : Int)) = false := by simp; omega
          have d2' : decide (lo < hi) = false := by simp; omega
          have hwl : IntKind.u8.wrap (lo : Int) = (lo : Int) := by rw [IntKind.wrap_u8]; omega
          have hwh : IntKind.u8.wrap (hi : Int) = (hi : Int) := by rw [IntKind.wrap_u8]; omega
          clear hlo hhi hv hv1
          go_wp2_with fail
          go_region
          go_wp2_with fail
          refine (sign_any w.heap.size l.length lo _ (nv l) _ (by omega) HX1.out.2.2.out (by omega) HX1.out.1.out.size).mono ?_
          rintro e w3 ⟨v3, rfl, hA3⟩
          have HX3 : Hid (Tx w base2 (.slice (some ⟨g0, 0, none⟩) L.length cap) L v3 (l ++ sgn lo) w3) := HX1.out.app hA3.out
          clear hA3 e0 e1 HX1
          have hsl := sgn_len lo
          have hs4 : (l ++ sgn lo).length ≤ 2309 := by rw [List.length_append]; omega
          obtain ⟨l3, hl3d⟩ : ∃ l3, l3 = l ++ sgn lo := ⟨_, rfl⟩
          have HL3 : Hid (l3 = l ++ sgn lo) := hl3d
          rw [← hl3d] at HX3 hs4
          clear hl3d
          have hsz3 : w.heap.size ≤ w3.heap.size := HX3.out.1.out.size
          go_wp2_with fail
          go_roundw
          case rel => exact ⟨A ++ [p], B', l3, by simp, HAB2, hid (by rw [HL3.out, HL.out, body_snoc, HM.out]; simp), by simp; omega, HX3⟩
          case measure => simp [intOf]; omega
        · by_cases hv2 : hi = lo + 1
          · have HM : Hid (memb p = sgn lo ++ sgn hi) := by
              show memb p = _
              rw [memb, ← hlo, ← hhi, if_neg (by omega), if_pos (by omega)]
              simp
            have d1 : decide (1 < (hi : Int) - (lo : Int)) = false := by simp; omega
            have d2 : decide ((lo : Int) < (hi : Int)) = true := by simp; omega
            have d2' : decide (lo < hi) = true := by simp; omega
            have hwl : IntKind.u8.wrap (lo : Int) = (lo : Int) := by rw [IntKind.wrap_u8]; omega
            have hwh : IntKind.u8.wrap (hi : Int) = (hi : Int) := by rw [IntKind.wrap_u8]; omega
            clear hlo hhi hv hv2
            go_wp2_with fail
            go_region
            go_wp2_with fail
            refine (sign_any w.heap.size l.length lo _ (nv l) _ (by omega) HX1.out.2.2.out (by omega) HX1.out.1.out.size).mono ?_
            rintro e w3 ⟨v3, rfl, hA3⟩
            have HX3 : Hid (Tx w base2 (.slice (some ⟨g0, 0, none⟩) L.length cap) L v3 (l ++ sgn lo) w3) := HX1.out.app hA3.out
            clear hA3 e0 e1 HX1
            have hsl := sgn_len lo
            have hs4 : (l ++ sgn lo).length ≤ 2309 := by rw [List.length_append]; omega
            obtain ⟨l3, hl3d⟩ : ∃ l3, l3 = l ++ sgn lo := ⟨_, rfl⟩
            have HL3 : Hid (l3 = l ++ sgn lo) := hl3d
            rw [← hl3d] at HX3 hs4
            clear hl3d
            have hsz3 : w.heap.size ≤ w3.heap.size := HX3.out.1.out.size
            go_wp2_with fail
            refine (sign_any w.heap.size l3.length hi _ (nv l3) _ (by omega) HX3.out.2.2.out (by omega) hsz3).mono ?_
            rintro e w5 ⟨v5, rfl, hA5⟩
            have HX5 : Hid (Tx w base2 (.slice (some ⟨g0, 0, none⟩) L.length cap) L v5 (l3 ++ sgn hi) w5) := HX3.out.app hA5.out
            clear hA5
            go_wp2_with fail
            go_roundw
            case rel => exact ⟨A ++ [p], B', l3 ++ sgn hi, by simp, HAB2, hid (by rw [HL3.out, HL.out, body_snoc, HM.out]; simp), by simp; omega, HX5⟩
            case measure => simp [intOf]; omega
          · have HM : Hid (memb p = sgn lo ++ [45] ++ sgn hi) := by
              show memb p = _
              rw [memb, ← hlo, ← hhi, if_pos (by omega), if_pos (by omega)]
              simp
            have d1 : decide (1 < (hi : Int) - (lo : Int)) = true := by simp; omega
            have d2 : decide ((lo : Int) < (hi : Int)) = true := by simp; omega
            have d2' : decide (lo < hi) = true := by simp; omega
            have hwl : IntKind.u8.wrap (lo : Int) = (lo : Int) := by rw [IntKind.wrap_u8]; omega
            have hwh : IntKind.u8.wrap (hi : Int) = (hi : Int) := by rw [IntKind.wrap_u8]; omega
            clear hlo hhi hv hv2
            go_wp2_with fail
            go_region
            go_wp2_with fail
            refine (sign_any w.heap.size l.length lo _ (nv l) _ (by omega) HX1.out.2.2.out (by omega) HX1.out.1.out.size).mono ?_
            rintro e w3 ⟨v3, rfl, hA3⟩
            have HX3 : Hid (Tx w base2 (.slice (some ⟨g0, 0, none⟩) L.length cap) L v3 (l ++ sgn lo) w3) := HX1.out.app hA3.out
            clear hA3 e0 e1 HX1
            have hsl := sgn_len lo
            have hs4 : (l ++ sgn lo).length ≤ 2309 := by rw [List.length_append]; omega
            obtain ⟨l3, hl3d⟩ : ∃ l3, l3 = l ++ sgn lo := ⟨_, rfl⟩
            have HL3 : Hid (l3 = l ++ sgn lo) := hl3d
            rw [← hl3d] at HX3 hs4
            clear hl3d
            have hsz3 : w.heap.size ≤ w3.heap.size := HX3.out.1.out.size
            go_wp2_with (first | (at_builtin; refine wpList_append_own _ rfl (.tmp 28) (.tmp 29) 99 rfl w.heap.size 5 i0 (.int .u8 0) 1 1 Tryz.underlying99 hi0 hz0 hz1 hz2 rfl (by decide) _ _ _ rfl (HX3.out.2.2.out.alloc _) ⟨w3.heap.size, 0, none⟩ 1 1 [.int .u8 45] rfl rfl (one_newB _ _ _) (bytes_ok [45]) (by unfold maxLen; omega) (by omega) (by simp; omega) ?_; intro v4 w4 hown4 hgr4 hnil4; have HX4 : Hid (Tx w base2 (.slice (some ⟨g0, 0, none⟩) L.length cap) L v4 (l3 ++ [45]) w4) := HX3.out.app (App.mk HX3.out.2.2.out hsz3 rfl rfl hown4 hgr4); clear hown4 hgr4 hnil4))
            have hs5 : (l3 ++ [45]).length ≤ 2310 := by rw [List.length_append]; simp; omega
            obtain ⟨l4, hl4d⟩ : ∃ l4, l4 = l3 ++ [45] := ⟨_, rfl⟩
            have HL4 : Hid (l4 = l3 ++ [45]) := hl4d
            rw [← hl4d] at HX4 hs5
            clear hl4d
            refine (sign_any w.heap.size l4.length hi _ (nv l4) _ (by omega) HX4.out.2.2.out (by omega) HX4.out.1.out.size).mono ?_
            rintro e w5 ⟨v5, rfl, hA5⟩
            have HX5 : Hid (Tx w base2 (.slice (some ⟨g0, 0, none⟩) L.length cap) L v5 (l4 ++ sgn hi) w5) := HX4.out.app hA5.out
            clear hA5
            go_wp2_with fail
            go_roundw
            case rel => exact ⟨A ++ [p], B', l4 ++ sgn hi, by simp, HAB2, hid (by rw [HL4.out, HL3.out, HL.out, body_snoc, HM.out]; simp), by simp; omega, HX5⟩
            case measure => simp [intOf]; omega
end Go.Proofs.YtggmoneicdkamaaGreatDoor
