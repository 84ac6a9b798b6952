/-
  What lex.appendSign and lex.Quote answer at any bytes. Conditions: those that each theorem names.
  class.Both; a class in memory; equality of classes; class.lowest. Conditions: those that each theorem names.
  What class.Runs answers. Conditions: those that each theorem names.
  What class.Text answers. Conditions: those that each theorem names.
-/
import Derived.Test.YtikfnaffiehpaaaGreatDoorVX3
import Derived.Deep.RegionHeld3
import Derived.Laws.MakeOwn
import Derived.Laws.IdiomStrings
import Derived.WalkKit
import Derived.WalkLawsBesides
import Derived.Deep.QuietTactic
import Derived.BigQuiet
import Derived.BigRegion
import Derived.ChangeKeysEq
import Derived.Lib.TrailingZeros
import Derived.Deep.RegionWith
namespace Go.Proofs.YtikfnaffiehpaaaGreatDoor
open Go.RowKit
set_option linter.unusedVariables false
/-- A byte's sign in a literal. -/
def lq (b : Nat) : List Nat := if b = 10 then [92, 110] else if b = 13 then [92, 114] else if b = 9 then [92, 116] else if b = 39 ∨ b = 92 then [92, b] else if plB b then [b] else [92, 120, hexd (b / 16), hexd (b % 16)]
/-- Whatever holds no bytes stays. -/
def NB (w w' : World) : Prop := w.heap.size ≤ w'.heap.size ∧ ∀ j, j < w.heap.size → (∀ cur, w.heap[j]? ≠ some (.cells cur 5 (0, 0))) → w'.heap[j]? = w.heap[j]?
theorem NB.trans {a b c : World} (h : NB a b) (k : NB b c) : NB a c :=
  ⟨Nat.le_trans h.1 k.1, fun j hj hn => (k.2 j (Nat.lt_of_lt_of_le hj h.1) (fun cur => by rw [h.2 j hj hn]; exact hn cur)).trans (h.2 j hj hn)⟩
theorem NB.refl (w : World) : NB w w := ⟨Nat.le_refl _, fun _ _ _ => rfl⟩
theorem NB.below {w w' : World} (h : Below w.heap.size w w') : NB w w' := ⟨h.size, fun j hj _ => h.block j hj⟩
theorem NB.alloc (w : World) (o : Obj) : NB w (w.alloc o) := .below ((Below.refl _ _).alloc (Nat.le_refl _) _)
theorem NB.grown {w w' : World} {base n : Nat} {v : Value} {xs : List Value} (ho : w.ownsRow base 5 1 v n xs) (hg : w.grownBy w' v.ownBlock) : NB w w' :=
  ⟨hg.size, fun j hj hn => hg.block j hj (fun e => by
    obtain ⟨_, ho | ⟨g, cap, cur, rfl, _, hh, _⟩⟩ := ho
    · rw [ho.1] at e; simp [Value.ownBlock] at e
    · simp [Value.ownBlock] at e
      subst e
      exact hn cur hh)⟩
/-- What an append of bytes to a row of one's own leaves. -/
def App (base : Nat) (w : World) (n : Nat) (xs : List Value) (l : List Nat) (v' : Value) (w' : World) : Prop :=
  w'.ownsRow base 5 1 v' (n + l.length) (xs ++ nv l) ∧ Below base w w' ∧ NB w w'
/-- One append, closed. -/
theorem App.mk {base n m : Nat} {w w' : World} {o : Obj} {v v' : Value} {xs news : List Value} {l : List Nat} (ho : w.ownsRow base 5 1 v n xs) (hbase : base ≤ w.heap.size) (hm : m = l.length) (hl : news = nv l)
    (h : w'.ownsRow base 5 1 v' (n + m) (xs ++ news)) (hg : (w.alloc o).grownBy w' v.ownBlock) : App base w n xs l v' w' := by
  subst hm
  subst hl
  refine ⟨h, ((Below.refl _ _).alloc hbase _).grown hg (by simp; omega) (fun k e => (ho.lt k e).1), (NB.alloc w o).trans (NB.grown (ho.alloc o) hg)⟩
theorem App.trans {base n : Nat} {w w1 w2 : World} {xs : List Value} {l m : List Nat} {v1 v2 : Value} (h : App base w n xs l v1 w1) (k : App base w1 (n + l.length) (xs ++ nv l) m v2 w2) : App base w n xs (l ++ m) v2 w2 := by
  refine ⟨?_, h.2.1.trans k.2.1, h.2.2.trans k.2.2⟩
  have := k.1
  rw [nv_append, List.length_append, ← List.append_assoc, ← Nat.add_assoc]
  exact this
theorem App.of_drew {base n : Nat} {w w1 : World} {xs : List Value} {l : List Nat} {v1 : Value} (h : App base w.drew n xs l v1 w1) : App base w n xs l v1 w1 := ⟨h.1, (Below.refl _ _).drew.trans h.2.1, h.2.2⟩
theorem App.base {base n : Nat} {w w1 : World} {xs : List Value} {l : List Nat} {v1 : Value} (h : App base w n xs l v1 w1) (hb : base ≤ w.heap.size) : base ≤ w1.heap.size := Nat.le_trans hb h.2.1.size
set_option maxRecDepth 100000 in
set_option maxHeartbeats 4000000 in
theorem xsignA_any (base n b : Nat) (v : Value) (xs : List Value) (w : World) (hb : b < 256) (ho : w.ownsRow base 5 1 v n xs) (hn : n ≤ 9000000) (hbase : base ≤ w.heap.size) :
    Calls Tryz.prog 103 #[v, .int .u8 (b : Int)] w fun e w' => ∃ v', e = .returned v' ∧ Hid (App base w n xs (lq b) v' w') := by
  obtain ⟨i0, hi, hz0, hz1, hz2⟩ := info_parts Tryz.infoByte
  have HO : Hid (w.ownsRow base 5 1 v n xs) := ho
  have HP : Hid (∀ w : World, Calls Tryz.prog 114 #[.int .u8 (b : Int)] w fun e w' => e = .returned (.bool (plB b)) ∧ w' = w) := fun w => xplain_any b _ rfl w hb
  clear ho
  by_cases h10 : b = 10
  · have HS : Hid (lq b = [92, 110]) := by rw [h10]; rfl
    have a10 : ((b : Int) == 10) = true := by simp; omega
    clear h10
    go_enter Tryz.func103, Tryz.ntmps103
    go_wp2_with (first | (at_builtin; refine wpList_append_own _ rfl (.tmp 24) (.tmp 25) 55 rfl base 5 i0 (.int .u8 0) 1 1 Tryz.underlying55 hi hz0 hz1 hz2 rfl (by decide) _ _ _ rfl (HO.out.alloc _) ⟨w.heap.size, 0, none⟩ 2 2 [.int .u8 92, .int .u8 110] rfl rfl (two_new _ _ _ _) (bytes_ok [92, 110]) (by unfold maxLen; omega) (by omega) (by have := hbase; simp; omega) ?_; intro v2 w2 hown2 hgr2 hnil2))
    go_ret
    rw [HS.out]
    exact ⟨_, rfl, hid (App.mk HO.out hbase rfl rfl hown2 hgr2)⟩
  by_cases h13 : b = 13
  · have HS : Hid (lq b = [92, 114]) := by rw [h13]; rfl
    have a10 : ((b : Int) == 10) = false := by simp; omega
    have a13 : ((b : Int) == 13) = true := by simp; omega
    clear h13
    go_enter Tryz.func103, Tryz.ntmps103
    go_wp2_with (first | (at_builtin; refine wpList_append_own _ rfl (.tmp 27) (.tmp 28) 55 rfl base 5 i0 (.int .u8 0) 1 1 Tryz.underlying55 hi hz0 hz1 hz2 rfl (by decide) _ _ _ rfl (HO.out.alloc _) ⟨w.heap.size, 0, none⟩ 2 2 [.int .u8 92, .int .u8 114] rfl rfl (two_new _ _ _ _) (bytes_ok [92, 114]) (by unfold maxLen; omega) (by omega) (by have := hbase; simp; omega) ?_; intro v2 w2 hown2 hgr2 hnil2))
    go_ret
    rw [HS.out]
    exact ⟨_, rfl, hid (App.mk HO.out hbase rfl rfl hown2 hgr2)⟩
  by_cases h9 : b = 9
  · have HS : Hid (lq b = [92, 116]) := by rw [h9]; rfl
    have a10 : ((b : Int) == 10) = false := by simp; omega
    have a13 : ((b : Int) == 13) = false := by simp; omega
    have a9 : ((b : Int) == 9) = true := by simp; omega
    clear h9
    go_enter Tryz.func103, Tryz.ntmps103
    go_wp2_with (first | (at_builtin; refine wpList_append_own _ rfl (.tmp 30) (.tmp 31) 55 rfl base 5 i0 (.int .u8 0) 1 1 Tryz.underlying55 hi hz0 hz1 hz2 rfl (by decide) _ _ _ rfl (HO.out.alloc _) ⟨w.heap.size, 0, none⟩ 2 2 [.int .u8 92, .int .u8 116] rfl rfl (two_new _ _ _ _) (bytes_ok [92, 116]) (by unfold maxLen; omega) (by omega) (by have := hbase; simp; omega) ?_; intro v2 w2 hown2 hgr2 hnil2))
    go_ret
    rw [HS.out]
    exact ⟨_, rfl, hid (App.mk HO.out hbase rfl rfl hown2 hgr2)⟩
  have a10 : ((b : Int) == 10) = false := by simp; omega
  have a13 : ((b : Int) == 13) = false := by simp; omega
  have a9 : ((b : Int) == 9) = false := by simp; omega
  have H3 : Hid (b ≠ 10 ∧ b ≠ 13 ∧ b ≠ 9) := ⟨h10, h13, h9⟩
  clear h10 h13 h9
  by_cases hm : b = 39 ∨ b = 92
  · have HS : Hid (lq b = [92] ++ [b]) := by
      show lq b = [92, b]
      rw [lq, if_neg H3.out.1, if_neg H3.out.2.1, if_neg H3.out.2.2, if_pos hm]
    rcases hm with h39 | h92
    · have a39 : ((b : Int) == 39) = true := by simp; omega
      clear h39
      go_enter Tryz.func103, Tryz.ntmps103
      go_wp2_with (first
        | (at_builtin; refine wpList_append_own _ rfl (.tmp 33) (.tmp 34) 55 rfl base 5 i0 (.int .u8 0) 1 1 Tryz.underlying55 hi hz0 hz1 hz2 rfl (by decide) _ _ _ rfl (HO.out.alloc _) ⟨w.heap.size, 0, none⟩ 1 1 [.int .u8 92] rfl rfl (one_newB _ _ _) (bytes_ok [92]) (by unfold maxLen; omega) (by omega) (by have := hbase; simp; omega) ?_; intro v2 w2 hown2 hgr2 hnil2; have HA : Hid (App base _ n xs [92] v2 w2) := App.mk HO.out hbase rfl rfl hown2 hgr2; have hbase2 : base ≤ w2.heap.size := HA.out.base hbase; have HO2 : Hid (w2.ownsRow base 5 1 v2 (n + 1) (xs ++ nv [92])) := HA.out.1; clear hown2 hgr2 hnil2)
        | (at_builtin; refine wpList_append_own _ rfl (.tmp 36) (.tmp 38) 55 rfl base 5 i0 (.int .u8 0) 1 1 Tryz.underlying55 hi hz0 hz1 hz2 rfl (by decide) _ _ _ rfl (HO2.out.alloc _) ⟨w2.heap.size, 0, none⟩ 1 1 [.int .u8 (b : Int)] rfl rfl (one_newB _ _ _) (bytes_ok [(b : Int)]) (by unfold maxLen; omega) (by omega) (by have := hbase2; simp; omega) ?_; intro v3 w3 hown3 hgr3 hnil3))
      go_ret
      rw [HS.out]
      exact ⟨_, rfl, hid (HA.out.trans (App.mk HO2.out hbase2 rfl rfl hown3 hgr3))⟩
    · have a39 : ((b : Int) == 39) = false := by simp; omega
      have a92 : ((b : Int) == 92) = true := by simp; omega
      clear h92
      go_enter Tryz.func103, Tryz.ntmps103
      go_wp2_with (first
        | (at_builtin; refine wpList_append_own _ rfl (.tmp 33) (.tmp 34) 55 rfl base 5 i0 (.int .u8 0) 1 1 Tryz.underlying55 hi hz0 hz1 hz2 rfl (by decide) _ _ _ rfl (HO.out.alloc _) ⟨w.heap.size, 0, none⟩ 1 1 [.int .u8 92] rfl rfl (one_newB _ _ _) (bytes_ok [92]) (by unfold maxLen; omega) (by omega) (by have := hbase; simp; omega) ?_; intro v2 w2 hown2 hgr2 hnil2; have HA : Hid (App base _ n xs [92] v2 w2) := App.mk HO.out hbase rfl rfl hown2 hgr2; have hbase2 : base ≤ w2.heap.size := HA.out.base hbase; have HO2 : Hid (w2.ownsRow base 5 1 v2 (n + 1) (xs ++ nv [92])) := HA.out.1; clear hown2 hgr2 hnil2)
        | (at_builtin; refine wpList_append_own _ rfl (.tmp 36) (.tmp 38) 55 rfl base 5 i0 (.int .u8 0) 1 1 Tryz.underlying55 hi hz0 hz1 hz2 rfl (by decide) _ _ _ rfl (HO2.out.alloc _) ⟨w2.heap.size, 0, none⟩ 1 1 [.int .u8 (b : Int)] rfl rfl (one_newB _ _ _) (bytes_ok [(b : Int)]) (by unfold maxLen; omega) (by omega) (by have := hbase2; simp; omega) ?_; intro v3 w3 hown3 hgr3 hnil3))
      go_ret
      rw [HS.out]
      exact ⟨_, rfl, hid (HA.out.trans (App.mk HO2.out hbase2 rfl rfl hown3 hgr3))⟩
  · have a39 : ((b : Int) == 39) = false := by simp; omega
    have a92 : ((b : Int) == 92) = false := by simp; omega
    cases hp : plB b
    · rw [hp] at HP
      have HS : Hid (lq b = [92, 120, hexd (b / 16), hexd (b % 16)]) := by
        show lq b = _
        rw [lq, if_neg H3.out.1, if_neg H3.out.2.1, if_neg H3.out.2.2, if_neg hm, hp, if_neg (by simp)]
      clear hp hm
      obtain ⟨q, hq⟩ : ∃ q, q = b / 16 := ⟨_, rfl⟩
      obtain ⟨r, hr⟩ : ∃ r, r = b % 16 := ⟨_, rfl⟩
      have d1 := dig_at q (by omega)
      have d2 := dig_at r (by omega)
      obtain ⟨dq, hdq⟩ : ∃ d, d = hexd q := ⟨_, rfl⟩
      obtain ⟨dr, hdr⟩ : ∃ d, d = hexd r := ⟨_, rfl⟩
      rw [← hq, ← hr, ← hdq, ← hdr] at HS
      rw [← hdq] at d1
      rw [← hdr] at d2
      have e1 : (b : Int) / 16 = (q : Int) := by omega
      have e2 : bits BinOp.and IntKind.u8 (b : Int) 15 = (r : Int) := by
        have := u8_and15 (x := (b : Int)) (by omega) (by omega)
        rw [this]; omega
      clear hq hr hdq hdr
      go_enter Tryz.func103, Tryz.ntmps103
      go_wp2_with fail
      refine (HP.out _).mono ?_
      rintro e w1 ⟨rfl, rfl⟩
      go_wp2_with fail
      have HO1 : Hid (w1.drew.ownsRow base 5 1 v n xs) := HO.out.kept (row := none) ⟨rfl, rfl, rfl, Nat.le_refl _, fun j hj _ => rfl⟩ (by cases hq : v.ownBlock <;> simp)
      go_region_held3 (fun _ => True) (trivial) (first
        | (rw [if_pos (by rfl)]; refine wp_append_own _ (.tmp 40) (.tmp 47) 55 rfl base 5 i0 (.int .u8 0) 1 1 Tryz.underlying55 hi hz0 hz1 hz2 rfl (by decide) _ _ _ rfl (HO1.out.alloc _) ⟨w1.heap.size, 0, none⟩ 4 4 [.int .u8 92, .int .u8 120, .int .u8 (dq : Int), .int .u8 (dr : Int)] rfl rfl (four_new _ _ _ _ _ _) (bytes_ok [92, 120, (dq : Int), (dr : Int)]) (by unfold maxLen; omega) (by omega) (by have := hbase; simp; omega) ?_; intro v2 w2 hown2 hgr2 hnil2))
      all_goals
        go_wp2_with fail
        go_ret
        rw [HS.out]
        exact ⟨_, rfl, hid (App.of_drew (App.mk HO1.out hbase rfl rfl hown2 hgr2))⟩
    · rw [hp] at HP
      have HS : Hid (lq b = [b]) := by
        show lq b = [b]
        rw [lq, if_neg H3.out.1, if_neg H3.out.2.1, if_neg H3.out.2.2, if_neg hm, hp, if_pos rfl]
      clear hp hm
      go_enter Tryz.func103, Tryz.ntmps103
      go_wp2_with fail
      refine (HP.out _).mono ?_
      rintro e w1 ⟨rfl, rfl⟩
      go_wp2_with (first | (at_builtin; refine wpList_append_own _ rfl (.tmp 36) (.tmp 38) 55 rfl base 5 i0 (.int .u8 0) 1 1 Tryz.underlying55 hi hz0 hz1 hz2 rfl (by decide) _ _ _ rfl (HO.out.alloc _) ⟨w1.heap.size, 0, none⟩ 1 1 [.int .u8 (b : Int)] rfl rfl (one_newB _ _ _) (bytes_ok [(b : Int)]) (by unfold maxLen; omega) (by omega) (by have := hbase; simp; omega) ?_; intro v2 w2 hown2 hgr2 hnil2))
      go_ret
      rw [HS.out]
      exact ⟨_, rfl, hid (App.mk HO.out hbase rfl rfl hown2 hgr2)⟩
theorem hexd_lt (n : Nat) (h : n < 16) : hexd n < 256 := by unfold hexd; split <;> omega
theorem lq_len (b : Nat) : 1 ≤ (lq b).length ∧ (lq b).length ≤ 4 := by
  unfold lq
  repeat (split; (· simp))
  simp
theorem lq_lt (b : Nat) (hb : b < 256) : ∀ x ∈ lq b, x < 256 := by
  have h1 := hexd_lt (b / 16) (by omega)
  have h2 := hexd_lt (b % 16) (by omega)
  unfold lq
  repeat (split; (· intro x hx; simp at hx; omega))
  intro x hx; simp at hx; omega
/-- The quote of the first k bytes. -/
def qp (S : ByteArray) : Nat → List Nat
  | 0 => [39]
  | k + 1 => qp S k ++ (match bt S k with | some x => lq x | none => [])
def qt (S : ByteArray) : List Nat := qp S S.size ++ [39]
theorem qp_len (S : ByteArray) : ∀ k, (qp S k).length ≤ 4 * k + 1 ∧ ∀ x ∈ qp S k, x < 256
  | 0 => by simp [qp]
  | k + 1 => by
    have ih := qp_len S k
    rw [qp]
    cases hb : bt S k with
    | none => simp only [List.append_nil]; exact ⟨by omega, ih.2⟩
    | some x =>
      have h1 := lq_len x
      simp only [List.length_append]
      refine ⟨by omega, fun y hy => ?_⟩
      rcases List.mem_append.1 hy with h | h
      · exact ih.2 y h
      · exact lq_lt x (bt_lt hb).2 y h
theorem qp_succ {S : ByteArray} {k x : Nat} (h : bt S k = some x) : qp S (k + 1) = qp S k ++ lq x := by rw [qp, h]
theorem qt_lt (S : ByteArray) : ∀ x ∈ qt S, x < 256 := by
  intro x hx
  unfold qt at hx
  rcases List.mem_append.1 hx with h | h
  · exact (qp_len S _).2 x h
  · simp at h; omega
/-- What stays while a quote is written. -/
def Lq (w : World) (v : Value) (l : List Nat) (w' : World) : Prop := Hid (Below w.heap.size w w') ∧ Hid (w'.ownsRow w.heap.size 5 1 v l.length (nv l))
set_option maxRecDepth 100000 in
set_option maxHeartbeats 4000000 in
theorem xquote_any (S : ByteArray) (w : World) (hS : S.size ≤ 1048576) :
    Calls Tryz.prog 81 #[.string S] w fun e w' => e = .returned (.string (nb (qt S))) ∧ Below w.heap.size w w' := by
  obtain ⟨i0, hi0, hz0, hz1, hz2⟩ := info_parts Tryz.infoByte
  obtain ⟨w1, hmk, hown, hgr⟩ := run_make_own (P := Tryz.prog) w w.heap.size 55 5 i0 (.int .u8 0) 1 Tryz.underlying55 hi0 hz0 hz1 .i64 .i64 (S.size + 2) (by rw [hz2]; omega) (by unfold maxLen; omega) (Nat.le_refl _)
  have e1 : ((S.size + 2 : Nat) : Int) = (S.size : Int) + 2 := by omega
  rw [e1] at hmk
  have HB1 : Hid (Below w.heap.size w w1) := (Below.refl _ _).grown hgr (Nat.le_refl _) (fun k e => by cases e)
  have HO1 : Hid (w1.ownsRow w.heap.size 5 1 (.slice (some ⟨w.heap.size, 0, none⟩) 0 (S.size + 2)) 0 []) := hown
  have hsz1 : w.heap.size ≤ w1.heap.size := HB1.out.size
  obtain ⟨n2, hn2⟩ : ∃ n, n = S.size + 2 := ⟨_, rfl⟩
  rw [← hn2] at hmk HO1
  clear hown hgr e1 hn2
  go_enter Tryz.func81, Tryz.ntmps81
  go_wp2_with (first | (at_builtin; refine wpList_append_own _ rfl (.tmp 9) (.tmp 10) 55 rfl w.heap.size 5 i0 (.int .u8 0) 1 1 Tryz.underlying55 hi0 hz0 hz1 hz2 rfl (by decide) _ _ _ rfl (HO1.out.alloc _) ⟨w1.heap.size, 0, none⟩ 1 1 [.int .u8 39] rfl rfl (one_newB _ _ _) (bytes_ok [39]) (by unfold maxLen; omega) (by omega) (by simp; omega) ?_; intro v2 w2 hown2 hgr2 hnil2))
  have HL0 : Hid (Lq w v2 [39] w2) := ⟨hid ((HB1.out.alloc hsz1 _).grown hgr2 (by simp; omega) (fun k e => (HO1.out.lt k e).1)), hid hown2⟩
  clear hown2 hgr2 hnil2 HO1 HB1 hmk
  go_loopw [3, 14] (fun v i wr => ∃ k : Nat, i = .int .i64 (k : Int) ∧ k ≤ S.size ∧ Hid (Lq w v (qp S k) wr)) (fun _ i _ => S.size - (intOf i).toNat)
  case atStart => exact ⟨0, rfl, Nat.zero_le _, HL0⟩
  case round =>
    obtain ⟨k, rfl, hk, HL⟩ := hrel
    have hl := (qp_len S k).1
    have hsz : w.heap.size ≤ wr.heap.size := HL.out.1.out.size
    cases hb : bt S k with
    | none =>
      have hge := bt_none hb
      have hkk : k = S.size := by omega
      have a0 : decide ((k : Int) < (S.size : Int)) = false := by simp; omega
      have HF : Hid (qt S = qp S k ++ [39]) := by show qt S = _; rw [hkk]; rfl
      clear hb hkk
      go_wp2_with (first | (at_builtin; refine wpList_append_own _ rfl (.tmp 23) (.tmp 24) 55 rfl w.heap.size 5 i0 (.int .u8 0) 1 1 Tryz.underlying55 hi0 hz0 hz1 hz2 rfl (by decide) _ _ _ rfl (HL.out.2.out.alloc _) ⟨wr.heap.size, 0, none⟩ 1 1 [.int .u8 39] rfl rfl (one_newB _ _ _) (bytes_ok [39]) (by unfold maxLen; omega) (by omega) (by simp; omega) ?_; intro v9 w9 hown9 hgr9 hnil9; have cva := conv_any (l := qp S k ++ [39]) (by rw [nv_append]; exact hown9) (by rw [← HF.out]; exact qt_lt S); have hb9 : Hid (Below w.heap.size w w9) := (HL.out.1.out.alloc hsz _).grown hgr9 (by simp; omega) (fun k e => (HL.out.2.out.lt k e).1); clear hown9 hgr9 hnil9))
      (try simp only [Exit.inBlock, Exit.then])
      refine bodyPost_ret (v := .string (nb (qp S k ++ [39]))) (by simp [results, Tryz.results81, go_sem]) rfl ?_
      exact ⟨by rw [HF.out], hb9.out⟩
    | some x =>
      obtain ⟨hkk, hxk⟩ := bt_at hb
      have hx := (bt_lt hb).2
      have a0 : decide ((k : Int) < (S.size : Int)) = true := by simp; omega
      have hkI : (k : Int) < (S.size : Int) := by omega
      have HQ : Hid (qp S (k + 1) = qp S k ++ lq x) := qp_succ hb
      have HN : Hid (((k + 1 : Nat) : Int) = (k : Int) + 1) := by show _ = _; omega
      have HC := hid (xsignA_any w.heap.size (qp S k).length x u3 (nv (qp S k)) wr hx HL.out.2.out (by omega) hsz)
      clear hb
      go_wp2_with fail
      refine HC.out.mono ?_
      rintro e w3 ⟨v3, rfl, HA⟩
      have HL3 : Hid (Lq w v3 (qp S (k + 1)) w3) := ⟨hid (HL.out.1.out.trans HA.out.2.1), hid (by rw [HQ.out, List.length_append, nv_append]; exact HA.out.1)⟩
      clear HA HC HL
      go_wp2_with fail
      go_roundw
      case rel => exact ⟨k + 1, by rw [HN.out], by omega, HL3⟩
      case measure => simp [intOf]; omega
end Go.Proofs.YtikfnaffiehpaaaGreatDoor
namespace Go.Proofs.YtikfnaffiehpaaaGreatDoor
open Go.RowKit
set_option linter.unusedVariables false
set_option maxRecDepth 100000 in
set_option maxHeartbeats 1000000 in
theorem both_any (C D : Nat) (w : World) :
    Calls Tryz.prog 126 #[cv C, cv D] w fun e w' => e = .returned (cv (C &&& D)) ∧ Below w.heap.size w w' := by
  have b0 : bits BinOp.and IntKind.u64 (wd C 0 : Nat) (wd D 0 : Nat) = (wd (C &&& D) 0 : Nat) := by rw [wd_and]; exact Go.bits_and_u64_nat _ _ (wd_lt _ _) (wd_lt _ _)
  have b1 : bits BinOp.and IntKind.u64 (wd C 1 : Nat) (wd D 1 : Nat) = (wd (C &&& D) 1 : Nat) := by rw [wd_and]; exact Go.bits_and_u64_nat _ _ (wd_lt _ _) (wd_lt _ _)
  have b2 : bits BinOp.and IntKind.u64 (wd C 2 : Nat) (wd D 2 : Nat) = (wd (C &&& D) 2 : Nat) := by rw [wd_and]; exact Go.bits_and_u64_nat _ _ (wd_lt _ _) (wd_lt _ _)
  have b3 : bits BinOp.and IntKind.u64 (wd C 3 : Nat) (wd D 3 : Nat) = (wd (C &&& D) 3 : Nat) := by rw [wd_and]; exact Go.bits_and_u64_nat _ _ (wd_lt _ _) (wd_lt _ _)
  unfold cv
  go_enter Tryz.func126, Tryz.ntmps126
  go_wp2
  refine wp_loop_rounds 5 ?_
  rw [rounds_succ]
  go_wp2
  go_region
  go_wp2
  rw [rounds_succ]
  go_wp2
  go_region
  go_wp2
  rw [rounds_succ]
  go_wp2
  go_region
  go_wp2
  rw [rounds_succ]
  go_wp2
  go_region
  go_wp2
  rw [rounds_succ]
  go_wp2
  refine bodyPost_ret (v := .agg #[.int .u64 (wd (C &&& D) 0 : Nat), .int .u64 (wd (C &&& D) 1 : Nat), .int .u64 (wd (C &&& D) 2 : Nat), .int .u64 (wd (C &&& D) 3 : Nat)]) (by simp [results, Tryz.results126, go_sem]) rfl ⟨rfl, ?_⟩
  exact ((((Below.refl _ _).alloc (Nat.le_refl _) _).alloc (by simp) _).alloc (by simp; omega) _).drew.drew.drew.drew
/-- Block g reads as the class C. -/
def Cl (w : World) (g C : Nat) : Prop := w.cell? ⟨g, 0, none⟩ = some (.int .u64 (wd C 0 : Nat)) ∧ w.cell? ⟨g, 1, none⟩ = some (.int .u64 (wd C 1 : Nat)) ∧ w.cell? ⟨g, 2, none⟩ = some (.int .u64 (wd C 2 : Nat)) ∧ w.cell? ⟨g, 3, none⟩ = some (.int .u64 (wd C 3 : Nat))
theorem Cl.lt {w : World} {g C : Nat} (h : Cl w g C) : g < w.heap.size := World.block_lt_of_cell? w _ h.1
theorem Cl.below {w w' : World} {g C : Nat} (h : Cl w g C) (hb : Below w.heap.size w w') : Cl w' g C := by
  have hl := h.lt
  unfold Cl at *
  rw [hb.cell (p := ⟨g, 0, none⟩) hl, hb.cell (p := ⟨g, 1, none⟩) hl, hb.cell (p := ⟨g, 2, none⟩) hl, hb.cell (p := ⟨g, 3, none⟩) hl]
  exact h
theorem Cl.alloc {w : World} {g C : Nat} (h : Cl w g C) (o : Obj) : Cl (w.alloc o) g C := h.below ((Below.refl _ _).alloc (Nat.le_refl _) _)
theorem Cl.new (w : World) (C : Nat) {n : Nat} (hn : n = w.heap.size) : Cl (w.alloc (.cells #[.int .u64 (wd C 0 : Nat), .int .u64 (wd C 1 : Nat), .int .u64 (wd C 2 : Nat), .int .u64 (wd C 3 : Nat)] 27)) n C := by subst hn; exact (Blk.new w C).cells
theorem Cl.drew {w : World} {g C : Nat} (h : Cl w g C) : Cl w.drew g C := h
theorem Cl.st4 {w : World} {g g' C : Nat} (h : Cl w g C) (hne : g ≠ g') (D : Nat) : Cl (st4 w g' D) g C := by
  have e : (Proofs.YtikfnaffiehpaaaGreatDoor.st4 w g' D).heap[g]? = w.heap[g]? := by
    unfold Proofs.YtikfnaffiehpaaaGreatDoor.st4
    rw [Below.heap_setCell _ _ _ _ hne, Below.heap_setCell _ _ _ _ hne, Below.heap_setCell _ _ _ _ hne, Below.heap_setCell _ _ _ _ hne]
  have c : ∀ k, (Proofs.YtikfnaffiehpaaaGreatDoor.st4 w g' D).cell? ⟨g, k, none⟩ = w.cell? ⟨g, k, none⟩ := fun k => by simp only [World.cell?]; rw [e]
  unfold Cl at *
  rw [c, c, c, c]
  exact h
theorem keep_1 {w W w' : World} {g0 C0 : Nat} (hb : Below W.heap.size W w') (h : Hid (Below w.heap.size w W) ∧ (W.cell? ⟨g0, 0, none⟩ = some (.int .u64 (wd C0 0 : Nat)) ∧ W.cell? ⟨g0, 1, none⟩ = some (.int .u64 (wd C0 1 : Nat)) ∧ W.cell? ⟨g0, 2, none⟩ = some (.int .u64 (wd C0 2 : Nat)) ∧ W.cell? ⟨g0, 3, none⟩ = some (.int .u64 (wd C0 3 : Nat)))) : Hid (Below w.heap.size w w') ∧ (w'.cell? ⟨g0, 0, none⟩ = some (.int .u64 (wd C0 0 : Nat)) ∧ w'.cell? ⟨g0, 1, none⟩ = some (.int .u64 (wd C0 1 : Nat)) ∧ w'.cell? ⟨g0, 2, none⟩ = some (.int .u64 (wd C0 2 : Nat)) ∧ w'.cell? ⟨g0, 3, none⟩ = some (.int .u64 (wd C0 3 : Nat))) :=
  ⟨hid (h.1.out.trans (hb.mono h.1.out.size)), Cl.below (show Cl W g0 C0 from h.2) hb⟩
theorem keep_2 {w W w' : World} {g0 C0 g1 C1 : Nat} (hb : Below W.heap.size W w') (h : Hid (Below w.heap.size w W) ∧ (W.cell? ⟨g0, 0, none⟩ = some (.int .u64 (wd C0 0 : Nat)) ∧ W.cell? ⟨g0, 1, none⟩ = some (.int .u64 (wd C0 1 : Nat)) ∧ W.cell? ⟨g0, 2, none⟩ = some (.int .u64 (wd C0 2 : Nat)) ∧ W.cell? ⟨g0, 3, none⟩ = some (.int .u64 (wd C0 3 : Nat))) ∧ (W.cell? ⟨g1, 0, none⟩ = some (.int .u64 (wd C1 0 : Nat)) ∧ W.cell? ⟨g1, 1, none⟩ = some (.int .u64 (wd C1 1 : Nat)) ∧ W.cell? ⟨g1, 2, none⟩ = some (.int .u64 (wd C1 2 : Nat)) ∧ W.cell? ⟨g1, 3, none⟩ = some (.int .u64 (wd C1 3 : Nat)))) : Hid (Below w.heap.size w w') ∧ (w'.cell? ⟨g0, 0, none⟩ = some (.int .u64 (wd C0 0 : Nat)) ∧ w'.cell? ⟨g0, 1, none⟩ = some (.int .u64 (wd C0 1 : Nat)) ∧ w'.cell? ⟨g0, 2, none⟩ = some (.int .u64 (wd C0 2 : Nat)) ∧ w'.cell? ⟨g0, 3, none⟩ = some (.int .u64 (wd C0 3 : Nat))) ∧ (w'.cell? ⟨g1, 0, none⟩ = some (.int .u64 (wd C1 0 : Nat)) ∧ w'.cell? ⟨g1, 1, none⟩ = some (.int .u64 (wd C1 1 : Nat)) ∧ w'.cell? ⟨g1, 2, none⟩ = some (.int .u64 (wd C1 2 : Nat)) ∧ w'.cell? ⟨g1, 3, none⟩ = some (.int .u64 (wd C1 3 : Nat))) :=
  ⟨hid (h.1.out.trans (hb.mono h.1.out.size)), Cl.below (show Cl W g0 C0 from h.2.1) hb, Cl.below (show Cl W g1 C1 from h.2.2) hb⟩
theorem keep_3 {w W w' : World} {g0 C0 g1 C1 g2 C2 : Nat} (hb : Below W.heap.size W w') (h : Hid (Below w.heap.size w W) ∧ (W.cell? ⟨g0, 0, none⟩ = some (.int .u64 (wd C0 0 : Nat)) ∧ W.cell? ⟨g0, 1, none⟩ = some (.int .u64 (wd C0 1 : Nat)) ∧ W.cell? ⟨g0, 2, none⟩ = some (.int .u64 (wd C0 2 : Nat)) ∧ W.cell? ⟨g0, 3, none⟩ = some (.int .u64 (wd C0 3 : Nat))) ∧ (W.cell? ⟨g1, 0, none⟩ = some (.int .u64 (wd C1 0 : Nat)) ∧ W.cell? ⟨g1, 1, none⟩ = some (.int .u64 (wd C1 1 : Nat)) ∧ W.cell? ⟨g1, 2, none⟩ = some (.int .u64 (wd C1 2 : Nat)) ∧ W.cell? ⟨g1, 3, none⟩ = some (.int .u64 (wd C1 3 : Nat))) ∧ (W.cell? ⟨g2, 0, none⟩ = some (.int .u64 (wd C2 0 : Nat)) ∧ W.cell? ⟨g2, 1, none⟩ = some (.int .u64 (wd C2 1 : Nat)) ∧ W.cell? ⟨g2, 2, none⟩ = some (.int .u64 (wd C2 2 : Nat)) ∧ W.cell? ⟨g2, 3, none⟩ = some (.int .u64 (wd C2 3 : Nat)))) : Hid (Below w.heap.size w w') ∧ (w'.cell? ⟨g0, 0, none⟩ = some (.int .u64 (wd C0 0 : Nat)) ∧ w'.cell? ⟨g0, 1, none⟩ = some (.int .u64 (wd C0 1 : Nat)) ∧ w'.cell? ⟨g0, 2, none⟩ = some (.int .u64 (wd C0 2 : Nat)) ∧ w'.cell? ⟨g0, 3, none⟩ = some (.int .u64 (wd C0 3 : Nat))) ∧ (w'.cell? ⟨g1, 0, none⟩ = some (.int .u64 (wd C1 0 : Nat)) ∧ w'.cell? ⟨g1, 1, none⟩ = some (.int .u64 (wd C1 1 : Nat)) ∧ w'.cell? ⟨g1, 2, none⟩ = some (.int .u64 (wd C1 2 : Nat)) ∧ w'.cell? ⟨g1, 3, none⟩ = some (.int .u64 (wd C1 3 : Nat))) ∧ (w'.cell? ⟨g2, 0, none⟩ = some (.int .u64 (wd C2 0 : Nat)) ∧ w'.cell? ⟨g2, 1, none⟩ = some (.int .u64 (wd C2 1 : Nat)) ∧ w'.cell? ⟨g2, 2, none⟩ = some (.int .u64 (wd C2 2 : Nat)) ∧ w'.cell? ⟨g2, 3, none⟩ = some (.int .u64 (wd C2 3 : Nat))) :=
  ⟨hid (h.1.out.trans (hb.mono h.1.out.size)), Cl.below (show Cl W g0 C0 from h.2.1) hb, Cl.below (show Cl W g1 C1 from h.2.2.1) hb, Cl.below (show Cl W g2 C2 from h.2.2.2) hb⟩
theorem keep_4 {w W w' : World} {g0 C0 g1 C1 g2 C2 g3 C3 : Nat} (hb : Below W.heap.size W w') (h : Hid (Below w.heap.size w W) ∧ (W.cell? ⟨g0, 0, none⟩ = some (.int .u64 (wd C0 0 : Nat)) ∧ W.cell? ⟨g0, 1, none⟩ = some (.int .u64 (wd C0 1 : Nat)) ∧ W.cell? ⟨g0, 2, none⟩ = some (.int .u64 (wd C0 2 : Nat)) ∧ W.cell? ⟨g0, 3, none⟩ = some (.int .u64 (wd C0 3 : Nat))) ∧ (W.cell? ⟨g1, 0, none⟩ = some (.int .u64 (wd C1 0 : Nat)) ∧ W.cell? ⟨g1, 1, none⟩ = some (.int .u64 (wd C1 1 : Nat)) ∧ W.cell? ⟨g1, 2, none⟩ = some (.int .u64 (wd C1 2 : Nat)) ∧ W.cell? ⟨g1, 3, none⟩ = some (.int .u64 (wd C1 3 : Nat))) ∧ (W.cell? ⟨g2, 0, none⟩ = some (.int .u64 (wd C2 0 : Nat)) ∧ W.cell? ⟨g2, 1, none⟩ = some (.int .u64 (wd C2 1 : Nat)) ∧ W.cell? ⟨g2, 2, none⟩ = some (.int .u64 (wd C2 2 : Nat)) ∧ W.cell? ⟨g2, 3, none⟩ = some (.int .u64 (wd C2 3 : Nat))) ∧ (W.cell? ⟨g3, 0, none⟩ = some (.int .u64 (wd C3 0 : Nat)) ∧ W.cell? ⟨g3, 1, none⟩ = some (.int .u64 (wd C3 1 : Nat)) ∧ W.cell? ⟨g3, 2, none⟩ = some (.int .u64 (wd C3 2 : Nat)) ∧ W.cell? ⟨g3, 3, none⟩ = some (.int .u64 (wd C3 3 : Nat)))) : Hid (Below w.heap.size w w') ∧ (w'.cell? ⟨g0, 0, none⟩ = some (.int .u64 (wd C0 0 : Nat)) ∧ w'.cell? ⟨g0, 1, none⟩ = some (.int .u64 (wd C0 1 : Nat)) ∧ w'.cell? ⟨g0, 2, none⟩ = some (.int .u64 (wd C0 2 : Nat)) ∧ w'.cell? ⟨g0, 3, none⟩ = some (.int .u64 (wd C0 3 : Nat))) ∧ (w'.cell? ⟨g1, 0, none⟩ = some (.int .u64 (wd C1 0 : Nat)) ∧ w'.cell? ⟨g1, 1, none⟩ = some (.int .u64 (wd C1 1 : Nat)) ∧ w'.cell? ⟨g1, 2, none⟩ = some (.int .u64 (wd C1 2 : Nat)) ∧ w'.cell? ⟨g1, 3, none⟩ = some (.int .u64 (wd C1 3 : Nat))) ∧ (w'.cell? ⟨g2, 0, none⟩ = some (.int .u64 (wd C2 0 : Nat)) ∧ w'.cell? ⟨g2, 1, none⟩ = some (.int .u64 (wd C2 1 : Nat)) ∧ w'.cell? ⟨g2, 2, none⟩ = some (.int .u64 (wd C2 2 : Nat)) ∧ w'.cell? ⟨g2, 3, none⟩ = some (.int .u64 (wd C2 3 : Nat))) ∧ (w'.cell? ⟨g3, 0, none⟩ = some (.int .u64 (wd C3 0 : Nat)) ∧ w'.cell? ⟨g3, 1, none⟩ = some (.int .u64 (wd C3 1 : Nat)) ∧ w'.cell? ⟨g3, 2, none⟩ = some (.int .u64 (wd C3 2 : Nat)) ∧ w'.cell? ⟨g3, 3, none⟩ = some (.int .u64 (wd C3 3 : Nat))) :=
  ⟨hid (h.1.out.trans (hb.mono h.1.out.size)), Cl.below (show Cl W g0 C0 from h.2.1) hb, Cl.below (show Cl W g1 C1 from h.2.2.1) hb, Cl.below (show Cl W g2 C2 from h.2.2.2.1) hb, Cl.below (show Cl W g3 C3 from h.2.2.2.2) hb⟩
theorem keep_5 {w W w' : World} {g0 C0 g1 C1 g2 C2 g3 C3 g4 C4 : Nat} (hb : Below W.heap.size W w') (h : Hid (Below w.heap.size w W) ∧ (W.cell? ⟨g0, 0, none⟩ = some (.int .u64 (wd C0 0 : Nat)) ∧ W.cell? ⟨g0, 1, none⟩ = some (.int .u64 (wd C0 1 : Nat)) ∧ W.cell? ⟨g0, 2, none⟩ = some (.int .u64 (wd C0 2 : Nat)) ∧ W.cell? ⟨g0, 3, none⟩ = some (.int .u64 (wd C0 3 : Nat))) ∧ (W.cell? ⟨g1, 0, none⟩ = some (.int .u64 (wd C1 0 : Nat)) ∧ W.cell? ⟨g1, 1, none⟩ = some (.int .u64 (wd C1 1 : Nat)) ∧ W.cell? ⟨g1, 2, none⟩ = some (.int .u64 (wd C1 2 : Nat)) ∧ W.cell? ⟨g1, 3, none⟩ = some (.int .u64 (wd C1 3 : Nat))) ∧ (W.cell? ⟨g2, 0, none⟩ = some (.int .u64 (wd C2 0 : Nat)) ∧ W.cell? ⟨g2, 1, none⟩ = some (.int .u64 (wd C2 1 : Nat)) ∧ W.cell? ⟨g2, 2, none⟩ = some (.int .u64 (wd C2 2 : Nat)) ∧ W.cell? ⟨g2, 3, none⟩ = some (.int .u64 (wd C2 3 : Nat))) ∧ (W.cell? ⟨g3, 0, none⟩ = some (.int .u64 (wd C3 0 : Nat)) ∧ W.cell? ⟨g3, 1, none⟩ = some (.int .u64 (wd C3 1 : Nat)) ∧ W.cell? ⟨g3, 2, none⟩ = some (.int .u64 (wd C3 2 : Nat)) ∧ W.cell? ⟨g3, 3, none⟩ = some (.int .u64 (wd C3 3 : Nat))) ∧ (W.cell? ⟨g4, 0, none⟩ = some (.int .u64 (wd C4 0 : Nat)) ∧ W.cell? ⟨g4, 1, none⟩ = some (.int .u64 (wd C4 1 : Nat)) ∧ W.cell? ⟨g4, 2, none⟩ = some (.int .u64 (wd C4 2 : Nat)) ∧ W.cell? ⟨g4, 3, none⟩ = some (.int .u64 (wd C4 3 : Nat)))) : Hid (Below w.heap.size w w') ∧ (w'.cell? ⟨g0, 0, none⟩ = some (.int .u64 (wd C0 0 : Nat)) ∧ w'.cell? ⟨g0, 1, none⟩ = some (.int .u64 (wd C0 1 : Nat)) ∧ w'.cell? ⟨g0, 2, none⟩ = some (.int .u64 (wd C0 2 : Nat)) ∧ w'.cell? ⟨g0, 3, none⟩ = some (.int .u64 (wd C0 3 : Nat))) ∧ (w'.cell? ⟨g1, 0, none⟩ = some (.int .u64 (wd C1 0 : Nat)) ∧ w'.cell? ⟨g1, 1, none⟩ = some (.int .u64 (wd C1 1 : Nat)) ∧ w'.cell? ⟨g1, 2, none⟩ = some (.int .u64 (wd C1 2 : Nat)) ∧ w'.cell? ⟨g1, 3, none⟩ = some (.int .u64 (wd C1 3 : Nat))) ∧ (w'.cell? ⟨g2, 0, none⟩ = some (.int .u64 (wd C2 0 : Nat)) ∧ w'.cell? ⟨g2, 1, none⟩ = some (.int .u64 (wd C2 1 : Nat)) ∧ w'.cell? ⟨g2, 2, none⟩ = some (.int .u64 (wd C2 2 : Nat)) ∧ w'.cell? ⟨g2, 3, none⟩ = some (.int .u64 (wd C2 3 : Nat))) ∧ (w'.cell? ⟨g3, 0, none⟩ = some (.int .u64 (wd C3 0 : Nat)) ∧ w'.cell? ⟨g3, 1, none⟩ = some (.int .u64 (wd C3 1 : Nat)) ∧ w'.cell? ⟨g3, 2, none⟩ = some (.int .u64 (wd C3 2 : Nat)) ∧ w'.cell? ⟨g3, 3, none⟩ = some (.int .u64 (wd C3 3 : Nat))) ∧ (w'.cell? ⟨g4, 0, none⟩ = some (.int .u64 (wd C4 0 : Nat)) ∧ w'.cell? ⟨g4, 1, none⟩ = some (.int .u64 (wd C4 1 : Nat)) ∧ w'.cell? ⟨g4, 2, none⟩ = some (.int .u64 (wd C4 2 : Nat)) ∧ w'.cell? ⟨g4, 3, none⟩ = some (.int .u64 (wd C4 3 : Nat))) :=
  ⟨hid (h.1.out.trans (hb.mono h.1.out.size)), Cl.below (show Cl W g0 C0 from h.2.1) hb, Cl.below (show Cl W g1 C1 from h.2.2.1) hb, Cl.below (show Cl W g2 C2 from h.2.2.2.1) hb, Cl.below (show Cl W g3 C3 from h.2.2.2.2.1) hb, Cl.below (show Cl W g4 C4 from h.2.2.2.2.2) hb⟩
theorem Tryz.cellsOfK : Tryz.prog.cellsOf 25 = 1 := by kernel_rfl
theorem Tryz.infoK : (Tryz.prog.info? 25).map (fun i => (i.zero, i.size, i.bytes)) = some (some (.int .u64 0), 1, 8) := by kernel_rfl
theorem eq_wordsK (w : World) (a b c d a' b' c' d' : Int) :
    (Op.equalIn 10000 27 (.agg #[.int .u64 a, .int .u64 b, .int .u64 c, .int .u64 d]) (.agg #[.int .u64 a', .int .u64 b', .int .u64 c', .int .u64 d'])).run Tryz.prog w = .ok (a == a' && (b == b' && (c == c' && d == d'))) w := by
  obtain ⟨i, hi⟩ : ∃ i, Tryz.prog.info? 25 = some i := by
    cases h : Tryz.prog.info? 25 with
    | none => have := Tryz.infoK; rw [h] at this; cases this
    | some i => exact ⟨i, rfl⟩
  have hu : Tryz.prog.underlying 27 = some (.array 4 25) := by kernel_rfl
  rw [run_equalIn_array w 9999 _ _ hu hi, Tryz.cellsOfK]
  have p : ∀ (x y z t : Value) (w : World), (part 25 #[x, y, z, t] 0).run Tryz.prog w = .ok x w := fun _ _ _ _ _ => by kernel_rfl
  have p1 : ∀ (x y z t : Value) (w : World), (part 25 #[x, y, z, t] 1).run Tryz.prog w = .ok y w := fun _ _ _ _ _ => by kernel_rfl
  have p2 : ∀ (x y z t : Value) (w : World), (part 25 #[x, y, z, t] 2).run Tryz.prog w = .ok z w := fun _ _ _ _ _ => by kernel_rfl
  have p3 : ∀ (x y z t : Value) (w : World), (part 25 #[x, y, z, t] 3).run Tryz.prog w = .ok t w := fun _ _ _ _ _ => by kernel_rfl
  have e : ∀ (x y : Int) (w : World), (Op.equalIn 9999 25 (.int .u64 x) (.int .u64 y)).run Tryz.prog w = .ok (x == y) w := fun x y w => run_equalIn_int w 9998 25 .u64 .u64 x y Tryz.underlying25
  rw [show List.range 4 = [0, 1, 2, 3] from rfl]
  simp only [Op.eqItems, Sem.run_bind, Nat.mul_one, p, e, Result.andThen_ok]
  cases h1 : a == a' <;> cases h2 : b == b' <;> cases h3 : c == c' <;> cases h4 : d == d' <;> simp [Result.andThen, p1, p2, p3, e, h2, h3, h4, -beq_iff_eq, -beq_eq_false_iff_ne]
theorem eq24 (C D : Nat) (hC : C < 2 ^ 256) (hD : D < 2 ^ 256) (w : World) :
    (Op.equalIn 10000 27 (.agg #[.int .u64 (wd C 0 : Nat), .int .u64 (wd C 1 : Nat), .int .u64 (wd C 2 : Nat), .int .u64 (wd C 3 : Nat)]) (.agg #[.int .u64 (wd D 0 : Nat), .int .u64 (wd D 1 : Nat), .int .u64 (wd D 2 : Nat), .int .u64 (wd D 3 : Nat)])).run Tryz.prog w = .ok (decide (C = D)) w := by
  rw [eq_wordsK]
  congr 1
  by_cases h : C = D
  · subst h; simp
  · rw [decide_eq_false h]
    cases h0 : ((wd C 0 : Nat) : Int) == (wd D 0 : Nat) <;> cases h1 : ((wd C 1 : Nat) : Int) == (wd D 1 : Nat) <;> cases h2 : ((wd C 2 : Nat) : Int) == (wd D 2 : Nat) <;> cases h3 : ((wd C 3 : Nat) : Int) == (wd D 3 : Nat) <;> try rfl
    simp at h0 h1 h2 h3
    exact absurd (class_ext C D hC hD (by omega) (by omega) (by omega) (by omega)) h
theorem eq_self (C : Nat) (w : World) :
    (Op.equalIn 10000 27 (.agg #[.int .u64 (wd C 0 : Nat), .int .u64 (wd C 1 : Nat), .int .u64 (wd C 2 : Nat), .int .u64 (wd C 3 : Nat)]) (.agg #[.int .u64 (wd C 0 : Nat), .int .u64 (wd C 1 : Nat), .int .u64 (wd C 2 : Nat), .int .u64 (wd C 3 : Nat)])).run Tryz.prog w = .ok true w := by
  rw [eq_wordsK]
  simp
/-- The table in its variable. -/
def TabIs (w : World) : Prop := ∀ j, j < 64 → w.cell? ⟨2, j, none⟩ = some (.int .u8 ((Lib.deBruijn64tab.getD j 0 : Nat) : Int))
theorem TabIs.lt {w : World} (h : TabIs w) : 2 < w.heap.size := World.block_lt_of_cell? w _ (h 0 (by omega))
theorem TabIs.below {w w' : World} {B : Nat} (h : TabIs w) (hb : Below B w w') (hB : 2 < B) : TabIs w' := fun j hj => (hb.cell (p := ⟨2, j, none⟩) hB).trans (h j hj)
theorem TabIs.alloc {w : World} (h : TabIs w) (o : Obj) : TabIs (w.alloc o) := h.below ((Below.refl _ _).alloc (Nat.le_refl _) o) h.lt

theorem tz_key (x a : Nat) (hx : x < 18446744073709551616) (hx0 : x ≠ 0) (hlow : x &&& (18446744073709551616 - x) = a) :
    IntKind.u64.wrap (bits BinOp.and IntKind.u64 (x : Int) (IntKind.u64.wrap (-(x : Int))) * 285870213051353865) / 288230376151711744 = ((a * 285870213051353865 % 18446744073709551616 / 288230376151711744 : Nat) : Int) := by
  have e1 : IntKind.u64.wrap (-(x : Int)) = ((18446744073709551616 - x : Nat) : Int) := by rw [IntKind.wrap_u64]; omega
  rw [e1, Go.bits_and_u64_nat x _ hx (by omega), hlow, IntKind.wrap_u64]
  omega
set_option maxRecDepth 100000 in
set_option maxHeartbeats 1000000 in
theorem tz_core (x k idx : Nat) (w : World) (hx0 : ((x : Int) == 0) = false)
    (key : IntKind.u64.wrap (bits BinOp.and IntKind.u64 (x : Int) (IntKind.u64.wrap (-(x : Int))) * 285870213051353865) / 288230376151711744 = (idx : Int))
    (hi : idx < 64) (hk : k < 64) (hcell : w.cell? ⟨2, idx, none⟩ = some (.int .u8 k)) :
    Calls Tryz.prog 138 #[.int .u64 x] w fun e w' => e = .returned (.int .i64 k) ∧ w' = w := by
  go_enter Tryz.func138, Tryz.ntmps138
  go_wp2_with (simp only [key])
  go_ret
  exact ⟨rfl, rfl⟩
/-- Of a word that is not 0: the place of its lowest bit. -/
theorem tz_any (x : Nat) (w : World) (hx : x < 18446744073709551616) (hx0 : x ≠ 0) (hT : TabIs w) :
    Calls Tryz.prog 138 #[.int .u64 x] w fun e w' => e = .returned (.int .i64 ((Lib.ctz 64 x : Nat) : Int)) ∧ w' = w := by
  obtain ⟨hlow, hk⟩ := Lib.lowest_bit 64 x hx0 hx
  obtain ⟨hi, htab⟩ := Lib.deBruijn64_at _ hk
  have hcell := hT _ hi
  rw [htab] at hcell
  exact tz_core x _ _ w (by simp; omega) (tz_key x _ hx hx0 hlow) hi hk hcell
theorem ctz_spec (x : Nat) (hx : x < 18446744073709551616) (hx0 : x ≠ 0) : Lib.ctz 64 x < 64 ∧ x.testBit (Lib.ctz 64 x) = true ∧ ∀ j, j < Lib.ctz 64 x → x.testBit j = false := by
  obtain ⟨m, hm, hk⟩ := Lib.ctzFrom_spec 64 x (by omega) hx
  have e : Lib.ctz 64 x = Lib.ctzFrom 64 x := by simp [Lib.ctz, hx0]
  rw [← e] at hm hk
  obtain ⟨k, hkd⟩ : ∃ k, k = Lib.ctz 64 x := ⟨_, rfl⟩
  rw [← hkd] at hm hk ⊢
  clear hkd e
  refine ⟨hk, ?_, fun j hj => ?_⟩
  · rw [hm, Nat.testBit_two_pow_mul]
    simp
  · rw [hm, Nat.testBit_two_pow_mul]
    simp; omega
/-- n is the least byte of C. -/
def Least (C n : Nat) : Prop := n < 256 ∧ C.testBit n = true ∧ ∀ j, j < n → C.testBit j = false
/-- n is the least byte of C, or 256 where there is none. -/
def LowOf (C n : Nat) : Prop := (C = 0 ∧ n = 256) ∨ Least C n
theorem least_word (C i : Nat) (hi : i < 4) (hz : ∀ q, q < i → wd C q = 0) (hn : wd C i ≠ 0) : Least C (64 * i + Lib.ctz 64 (wd C i)) := by
  obtain ⟨h1, h2, h3⟩ := ctz_spec (wd C i) (wd_lt C i) hn
  refine ⟨by omega, ?_, fun j hj => ?_⟩
  · rw [wd_bit] at h2
    simpa [h1] using h2
  · by_cases hq : j / 64 < i
    · have := wd_bit C (j / 64) (j % 64)
      rw [hz _ hq, Nat.zero_testBit, show 64 * (j / 64) + j % 64 = j by omega] at this
      simpa [show j % 64 < 64 by omega] using this.symm
    · have e : j = 64 * i + j % 64 := by omega
      have := h3 (j % 64) (by omega)
      rw [wd_bit, ← e] at this
      simpa [show j % 64 < 64 by omega] using this
set_option maxRecDepth 100000 in
set_option maxHeartbeats 2000000 in
theorem lowest_any (C : Nat) (w : World) (hC : C < 2 ^ 256) (hT : TabIs w) :
    Calls Tryz.prog 125 #[cv C] w fun e w' => (∃ n : Nat, e = .returned (.int .i64 (n : Int)) ∧ LowOf C n) ∧ Below w.heap.size w w' := by
  have HT : Hid (TabIs w) := hT
  clear hT
  have i0 : ∀ w : World, (Instr.index 27 (.agg #[.int .u64 (wd C 0 : Nat), .int .u64 (wd C 1 : Nat), .int .u64 (wd C 2 : Nat), .int .u64 (wd C 3 : Nat)]) (.int .i64 0)).run Tryz.prog w = .ok (.int .u64 (wd C 0 : Nat)) w := fun _ => by kernel_rfl
  have i1 : ∀ w : World, (Instr.index 27 (.agg #[.int .u64 (wd C 0 : Nat), .int .u64 (wd C 1 : Nat), .int .u64 (wd C 2 : Nat), .int .u64 (wd C 3 : Nat)]) (.int .i64 1)).run Tryz.prog w = .ok (.int .u64 (wd C 1 : Nat)) w := fun _ => by kernel_rfl
  have i2 : ∀ w : World, (Instr.index 27 (.agg #[.int .u64 (wd C 0 : Nat), .int .u64 (wd C 1 : Nat), .int .u64 (wd C 2 : Nat), .int .u64 (wd C 3 : Nat)]) (.int .i64 2)).run Tryz.prog w = .ok (.int .u64 (wd C 2 : Nat)) w := fun _ => by kernel_rfl
  have i3 : ∀ w : World, (Instr.index 27 (.agg #[.int .u64 (wd C 0 : Nat), .int .u64 (wd C 1 : Nat), .int .u64 (wd C 2 : Nat), .int .u64 (wd C 3 : Nat)]) (.int .i64 3)).run Tryz.prog w = .ok (.int .u64 (wd C 3 : Nat)) w := fun _ => by kernel_rfl
  by_cases z0 : wd C 0 = 0
  · have b0 : ((wd C 0 : Int) == 0) = true := by simp; omega
    by_cases z1 : wd C 1 = 0
    · have b1 : ((wd C 1 : Int) == 0) = true := by simp; omega
      by_cases z2 : wd C 2 = 0
      · have b2 : ((wd C 2 : Int) == 0) = true := by simp; omega
        by_cases z3 : wd C 3 = 0
        · have b3 : ((wd C 3 : Int) == 0) = true := by simp; omega
          have HZ : Hid (C = 0) := class_ext C 0 hC (by decide +kernel) (by rw [z0]; decide +kernel) (by rw [z1]; decide +kernel) (by rw [z2]; decide +kernel) (by rw [z3]; decide +kernel)
          clear z0 z1 z2 z3
          go_enter Tryz.func125, Tryz.ntmps125
          go_wp2_with fail
          refine wp_loop_rounds 5 ?_
          rw [rounds_succ]
          go_wp2_with fail
          rw [rounds_succ]
          go_wp2_with fail
          rw [rounds_succ]
          go_wp2_with fail
          rw [rounds_succ]
          go_wp2_with fail
          rw [rounds_succ]
          go_wp2_with fail
          go_ret
          exact ⟨⟨256, rfl, .inl ⟨HZ.out, rfl⟩⟩, (Below.refl _ _).alloc (Nat.le_refl _) _⟩
        · have b3 : ((wd C 3 : Int) == 0) = false := by simp; omega
          have HL : Hid (Least C (64 * 3 + Lib.ctz 64 (wd C 3))) := least_word C 3 (by omega) (fun q hq => by have : q = 0 ∨ q = 1 ∨ q = 2 := (by omega); rcases this with rfl | rfl | rfl <;> assumption) z3
          have hk := (ctz_spec (wd C 3) (wd_lt C 3) z3).1
          clear z0
          clear z1
          clear z2
          have Z : Hid (wd C 3 ≠ 0) := z3
          clear z3
          go_enter Tryz.func125, Tryz.ntmps125
          go_wp2_with fail
          refine wp_loop_rounds 4 ?_
          rw [rounds_succ]
          go_wp2_with fail
          rw [rounds_succ]
          go_wp2_with fail
          rw [rounds_succ]
          go_wp2_with fail
          rw [rounds_succ]
          go_wp2_with fail
          refine (tz_any _ _ (wd_lt C 3) Z.out (HT.out.alloc _)).mono ?_
          rintro e w1 ⟨rfl, rfl⟩
          go_wp2_with fail
          go_ret
          exact ⟨⟨_, congrArg (fun n => Ending.returned (Value.int .i64 n)) (by first | rfl | (push_cast; omega)), .inr HL.out⟩, (Below.refl _ _).alloc (Nat.le_refl _) _⟩
      · have b2 : ((wd C 2 : Int) == 0) = false := by simp; omega
        have HL : Hid (Least C (64 * 2 + Lib.ctz 64 (wd C 2))) := least_word C 2 (by omega) (fun q hq => by have : q = 0 ∨ q = 1 := (by omega); rcases this with rfl | rfl <;> assumption) z2
        have hk := (ctz_spec (wd C 2) (wd_lt C 2) z2).1
        clear z0
        clear z1
        have Z : Hid (wd C 2 ≠ 0) := z2
        clear z2
        go_enter Tryz.func125, Tryz.ntmps125
        go_wp2_with fail
        refine wp_loop_rounds 3 ?_
        rw [rounds_succ]
        go_wp2_with fail
        rw [rounds_succ]
        go_wp2_with fail
        rw [rounds_succ]
        go_wp2_with fail
        refine (tz_any _ _ (wd_lt C 2) Z.out (HT.out.alloc _)).mono ?_
        rintro e w1 ⟨rfl, rfl⟩
        go_wp2_with fail
        go_ret
        exact ⟨⟨_, congrArg (fun n => Ending.returned (Value.int .i64 n)) (by first | rfl | (push_cast; omega)), .inr HL.out⟩, (Below.refl _ _).alloc (Nat.le_refl _) _⟩
    · have b1 : ((wd C 1 : Int) == 0) = false := by simp; omega
      have HL : Hid (Least C (64 * 1 + Lib.ctz 64 (wd C 1))) := least_word C 1 (by omega) (fun q hq => by obtain rfl : q = 0 := (by omega); assumption) z1
      have hk := (ctz_spec (wd C 1) (wd_lt C 1) z1).1
      clear z0
      have Z : Hid (wd C 1 ≠ 0) := z1
      clear z1
      go_enter Tryz.func125, Tryz.ntmps125
      go_wp2_with fail
      refine wp_loop_rounds 2 ?_
      rw [rounds_succ]
      go_wp2_with fail
      rw [rounds_succ]
      go_wp2_with fail
      refine (tz_any _ _ (wd_lt C 1) Z.out (HT.out.alloc _)).mono ?_
      rintro e w1 ⟨rfl, rfl⟩
      go_wp2_with fail
      go_ret
      exact ⟨⟨_, congrArg (fun n => Ending.returned (Value.int .i64 n)) (by first | rfl | (push_cast; omega)), .inr HL.out⟩, (Below.refl _ _).alloc (Nat.le_refl _) _⟩
  · have b0 : ((wd C 0 : Int) == 0) = false := by simp; omega
    have HL : Hid (Least C (64 * 0 + Lib.ctz 64 (wd C 0))) := least_word C 0 (by omega) (fun q hq => by omega) z0
    have hk := (ctz_spec (wd C 0) (wd_lt C 0) z0).1
    have Z : Hid (wd C 0 ≠ 0) := z0
    clear z0
    go_enter Tryz.func125, Tryz.ntmps125
    go_wp2_with fail
    refine wp_loop_rounds 1 ?_
    rw [rounds_succ]
    go_wp2_with fail
    refine (tz_any _ _ (wd_lt C 0) Z.out (HT.out.alloc _)).mono ?_
    rintro e w1 ⟨rfl, rfl⟩
    go_wp2_with fail
    go_ret
    exact ⟨⟨_, congrArg (fun n => Ending.returned (Value.int .i64 n)) (by first | rfl | (push_cast; omega)), .inr HL.out⟩, (Below.refl _ _).alloc (Nat.le_refl _) _⟩
end Go.Proofs.YtikfnaffiehpaaaGreatDoor
namespace Go.Proofs.YtikfnaffiehpaaaGreatDoor
open Go.RowKit
set_option linter.unusedVariables false
/-- The rows among the bytes below b, the last one first. -/
def rs (C : Nat) : Nat → List (Nat × Nat)
  | 0 => []
  | b + 1 => if C.testBit b then (match rs C b with
      | [] => [(b, b)]
      | p :: t => if p.2 + 1 = b then (p.1, b) :: t else (b, b) :: p :: t) else rs C b
theorem rs_skip (C a : Nat) : ∀ b, a ≤ b → (∀ j, a ≤ j → j < b → C.testBit j = false) → rs C b = rs C a
  | 0, h, _ => by rw [Nat.le_zero.1 h]
  | b + 1, h, hz => by
    by_cases e : a = b + 1
    · subst e; rfl
    · rw [rs, hz b (by omega) (by omega)]
      simpa using rs_skip C a b (by omega) (fun j h1 h2 => hz j h1 (by omega))
theorem rs_lt (C : Nat) : ∀ b p, p ∈ rs C b → p.1 ≤ p.2 ∧ p.2 < b
  | 0, p, h => by simp [rs] at h
  | b + 1, p, h => by
    rw [rs] at h
    split at h
    · split at h
      · simp at h; subst h; simp
      · rename_i q t hq
        have ih := rs_lt C b
        rw [hq] at ih
        split at h
        · rename_i hb
          rcases List.mem_cons.1 h with rfl | h
          · have := ih q (List.mem_cons_self ..)
            simp; omega
          · have := ih p (List.mem_cons_of_mem _ h)
            omega
        · rcases List.mem_cons.1 h with rfl | h
          · simp
          · have := ih p h
            omega
    · have := rs_lt C b p h
      omega
theorem rs_row (C lo : Nat) (hne : ∀ p t, rs C lo = p :: t → p.2 + 1 ≠ lo) : ∀ n, (∀ j, lo ≤ j → j ≤ lo + n → C.testBit j = true) → rs C (lo + n + 1) = (lo, lo + n) :: rs C lo
  | 0, h => by
    rw [Nat.add_zero, rs, h lo (Nat.le_refl _) (by omega), if_pos rfl]
    split
    · rename_i e; rw [e]; rfl
    · rename_i p t e
      rw [if_neg (hne p t e), e]; rfl
  | n + 1, h => by
    have ih := rs_row C lo hne n (fun j h1 h2 => h j h1 (by omega))
    rw [show lo + (n + 1) + 1 = (lo + n + 1) + 1 by omega, rs, h (lo + n + 1) (by omega) (by omega), if_pos rfl, ih]
    simp [Nat.add_assoc]
/-- Apart and falling. -/
def Apart : List (Nat × Nat) → Prop
  | [] => True
  | [p] => p.1 ≤ p.2
  | p :: q :: t => p.1 ≤ p.2 ∧ q.2 + 1 < p.1 ∧ Apart (q :: t)
theorem rs_apart (C : Nat) : ∀ b, Apart (rs C b)
  | 0 => trivial
  | b + 1 => by
    have ih := rs_apart C b
    have lt := rs_lt C b
    rw [rs]
    split
    · split
      · exact Nat.le_refl b
      · rename_i q t hq
        rw [hq] at ih lt
        have hq2 := lt q (List.mem_cons_self ..)
        split
        · rename_i hb
          match t, ih with
          | [], ih => simp only [Apart] at ih ⊢; omega
          | r :: t, ih => simp only [Apart] at ih ⊢; exact ⟨by omega, ih.2.1, ih.2.2⟩
        · exact ⟨Nat.le_refl b, by omega, ih⟩
    · exact ih
/-- All of the rows. -/
def un : List (Nat × Nat) → Nat
  | [] => 0
  | p :: t => un t ||| seg p.1 (p.2 + 1)
theorem mod_succ (C b : Nat) : C % 2 ^ (b + 1) = if C.testBit b then C % 2 ^ b ||| 2 ^ b else C % 2 ^ b := by
  apply Nat.eq_of_testBit_eq
  intro j
  split
  · rename_i h
    rw [Nat.testBit_or, Nat.testBit_mod_two_pow, Nat.testBit_mod_two_pow, Nat.testBit_two_pow]
    by_cases h1 : b = j
    · subst h1; simp [h]
    · by_cases h2 : j < b
      · simp [h1, h2, show j < b + 1 by omega]
      · simp [h1, h2, show ¬ j < b + 1 by omega]
  · rename_i h
    rw [Nat.testBit_mod_two_pow, Nat.testBit_mod_two_pow]
    by_cases h1 : b = j
    · subst h1; simp [h]
    · by_cases h2 : j < b
      · simp [h2, show j < b + 1 by omega]
      · simp [h2, show ¬ j < b + 1 by omega]
theorem rs_un (C : Nat) : ∀ b, un (rs C b) = C % 2 ^ b
  | 0 => by simp [rs, un, Nat.mod_one]
  | b + 1 => by
    have ih := rs_un C b
    have lt := rs_lt C b
    rw [mod_succ, rs]
    split
    · split
      · rename_i hq
        rw [hq] at ih
        rw [← ih]
        simp only [un]
        rw [Nat.zero_or, Nat.zero_or, seg_succ b b (Nat.le_refl _), seg_zero, Nat.zero_or]
      · rename_i q t hq
        rw [hq] at ih lt
        have hq2 := lt q (List.mem_cons_self ..)
        split
        · rename_i hb
          rw [un, ← ih, un, seg_succ q.1 b (by omega), ← hb, Nat.or_assoc]
        · rw [un, ih, seg_succ b b (Nat.le_refl _), seg_zero, Nat.zero_or]
    · exact ih
theorem rs_all (C : Nat) (hC : C < 2 ^ 256) : un (rs C 256) = C := by rw [rs_un, Nat.mod_eq_of_lt hC]
/-- One round of the rows: from a row's end g on. -/
theorem round_rows (C R g lo gap : Nat) (hR : ∀ j, R.testBit j = (decide (g ≤ j) && C.testBit j)) (hg : g = 0 ∨ C.testBit g = false) (hl : R.testBit lo = true) (hlm : ∀ j, j < lo → R.testBit j = false)
    (hgap : lo < gap) (hb : ∀ j, lo ≤ j → j < gap → C.testBit j = true) : rs C gap = (lo, gap - 1) :: rs C g := by
  have h1 := hR lo
  rw [hl] at h1
  simp at h1
  have e : rs C lo = rs C g := rs_skip C g lo h1.1 (fun j h2 h3 => by
    have := hR j
    rw [hlm j h3] at this
    simpa [h2] using this.symm)
  have hne : ∀ p t, rs C lo = p :: t → p.2 + 1 ≠ lo := by
    intro p t hp
    rw [e] at hp
    have hlt := rs_lt C g p (by rw [hp]; exact List.mem_cons_self ..)
    rcases hg with rfl | hg
    · simp [rs] at hp
    · have : lo ≠ g := fun h => by subst h; rw [hg] at h1; simp at h1
      omega
  have h2 := rs_row C lo hne (gap - 1 - lo) (fun j h3 h4 => hb j h3 (by omega))
  rw [show lo + (gap - 1 - lo) + 1 = gap by omega, show lo + (gap - 1 - lo) = gap - 1 by omega] at h2
  rw [h2, e]
theorem rs_len (C : Nat) : ∀ b, (rs C b).length ≤ b
  | 0 => by simp [rs]
  | b + 1 => by
    have := rs_len C b
    rw [rs]
    split
    · split
      · simp
      · rename_i q t hq
        rw [hq] at this
        simp at this
        split <;> simp <;> omega
    · omega
/-- Rows in memory. -/
def pv : List (Nat × Nat) → List Value
  | [] => []
  | p :: t => .int .i64 (p.1 : Int) :: .int .i64 (p.2 : Int) :: pv t
theorem pv_append : ∀ (a b : List (Nat × Nat)), pv (a ++ b) = pv a ++ pv b
  | [], b => rfl
  | p :: t, b => by simp only [List.cons_append, pv, pv_append t b]
theorem pv_length : ∀ (a : List (Nat × Nat)), (pv a).length = a.length * 2
  | [] => rfl
  | p :: t => by simp only [pv, List.length_cons, pv_length t]; omega
/-- R is what of C is left from g on. -/
def Left (C R g : Nat) : Prop := g ≤ 256 ∧ (∀ j, R.testBit j = (decide (g ≤ j) && C.testBit j)) ∧ (g = 0 ∨ C.testBit g = false)
theorem Left.start (C : Nat) : Left C C 0 := ⟨by omega, fun j => by simp, .inl rfl⟩
theorem Left.lt {C R g : Nat} (h : Left C R g) (hC : C < 2 ^ 256) : R < 2 ^ 256 := by
  apply Nat.lt_pow_two_of_testBit
  intro j hj
  rw [h.2.1 j, Nat.testBit_lt_two_pow (Nat.lt_of_lt_of_le hC (Nat.pow_le_pow_right (by decide) hj))]
  simp
theorem Left.done {C g : Nat} (h : Left C 0 g) : rs C 256 = rs C g := rs_skip C g 256 h.1 (fun j h1 _ => by
  have := h.2.1 j
  rw [Nat.zero_testBit] at this
  simpa [h1] using this.symm)
/-- What the round's two looks tell. -/
theorem Left.step {C R g lo gap : Nat} (h : Left C R g) (hC : C < 2 ^ 256) (hl : Least R lo) (hg : LowOf (cnot R &&& seg lo 256) gap) :
    lo < gap ∧ gap ≤ 256 ∧ rs C gap = (lo, gap - 1) :: rs C g ∧ Left C (R &&& cnot (seg lo gap)) gap := by
  have hR := h.lt hC
  have hx : ∀ j, (cnot R &&& seg lo 256).testBit j = (decide (j < 256) && decide (lo ≤ j) && !R.testBit j) := by
    intro j
    rw [Nat.testBit_and, cnot_bit R hR, seg_bit]
    cases decide (j < 256) <;> cases decide (lo ≤ j) <;> cases R.testBit j <;> rfl
  obtain ⟨l1, l2, l3⟩ := hl
  have key : lo < gap ∧ gap ≤ 256 ∧ (∀ j, lo ≤ j → j < gap → R.testBit j = true) ∧ R.testBit gap = false := by
    rcases hg with ⟨h0, rfl⟩ | ⟨g1, g2, g3⟩
    · refine ⟨l1, Nat.le_refl _, fun j h1 h2 => ?_, ?_⟩
      · have := hx j
        rw [h0, Nat.zero_testBit] at this
        simpa [h1, h2] using this.symm
      · rw [Nat.testBit_lt_two_pow hR]
    · have e2 := hx gap
      rw [g2] at e2
      simp at e2
      have hlg : lo ≠ gap := fun e => by rw [← e] at e2; rw [l2] at e2; simp at e2
      refine ⟨by omega, by omega, fun j h1 h2 => ?_, e2.2⟩
      have := hx j
      rw [g3 j h2] at this
      simpa [h1, show j < 256 by omega] using this.symm
  obtain ⟨k1, k2, k3, k4⟩ := key
  have hgl : g ≤ lo := by
    have := h.2.1 lo
    rw [l2] at this
    simp at this
    exact this.1
  have kC : ∀ j, lo ≤ j → j < gap → C.testBit j = true := fun j h1 h2 => by
    have := h.2.1 j
    rw [k3 j h1 h2] at this
    simp at this
    exact this.2
  refine ⟨k1, k2, round_rows C R g lo gap h.2.1 h.2.2 l2 l3 k1 kC, k2, fun j => ?_, .inr ?_⟩
  · rw [Nat.testBit_and, cnot_bit _ (seg_lt lo gap k2), seg_bit]
    by_cases h1 : gap ≤ j
    · have e := h.2.1 j
      rw [e]
      by_cases h2 : j < 256
      · simp [h1, h2, show ¬ j < gap by omega, show g ≤ j by omega]
      · rw [Nat.testBit_lt_two_pow (Nat.lt_of_lt_of_le hC (Nat.pow_le_pow_right (by decide) (by omega)))]
        simp
    · by_cases h2 : lo ≤ j
      · simp [h1, h2, show j < gap by omega]
      · rw [l3 j (by omega)]
        simp [h1]
  · have := h.2.1 gap
    rw [k4] at this
    simpa [show g ≤ gap by omega] using this.symm
theorem Blk.ne_own {w : World} {gb R base n : Nat} {v : Value} {xs : List Value} (h : Blk w gb R) (ho : w.ownsRow base 114 2 v n xs) : some gb ≠ v.ownBlock := by
  obtain ⟨_, ho | ⟨g, cap, cur, rfl, _, hh, _⟩⟩ := ho
  · rw [ho.1]; simp [Value.ownBlock]
  · intro e
    simp [Value.ownBlock] at e
    subst e
    unfold Blk at h
    rw [h] at hh
    simp at hh
theorem own_st4 {w : World} {gb R D base n : Nat} {v : Value} {xs : List Value} (h : Blk w gb R) (ho : w.ownsRow base 114 2 v n xs) : (st4 w gb D).ownsRow base 114 2 v n xs :=
  ho.kept (row := some gb) ⟨rfl, rfl, rfl, by rw [st4_size]; exact Nat.le_refl _, fun j hj hne => by
    have hne' : j ≠ gb := fun e => hne (by rw [e])
    unfold st4
    rw [Below.heap_setCell _ _ _ _ hne', Below.heap_setCell _ _ _ _ hne', Below.heap_setCell _ _ _ _ hne', Below.heap_setCell _ _ _ _ hne']⟩ (.inr (Ne.symm (h.ne_own ho)))
/-- What a call that writes only its own leaves of the round's memory. -/
def Round (w : World) (v : Value) (n gb R : Nat) (xs : List Value) (w' : World) : Prop :=
  Hid (Below w.heap.size w w') ∧ Hid (w'.ownsRow w.heap.size 114 2 v n xs) ∧ Hid (Blk w' gb R)
theorem Round.keep {w W w' : World} {v : Value} {n gb R : Nat} {xs : List Value} (hb : Below W.heap.size W w') (h : Round w v n gb R xs W) : Round w v n gb R xs w' :=
  ⟨h.1.out.trans (hb.mono h.1.out.size), h.2.1.out.kept (row := none) ⟨hb.os, hb.tape, hb.output, hb.size, fun j hj _ => hb.block j hj⟩ (by cases hq : v.ownBlock <;> simp), h.2.2.out.below hb h.2.2.out.lt⟩
theorem Round.cells {w w' : World} {v : Value} {n gb R : Nat} {xs : List Value} (h : Round w v n gb R xs w') :
    w'.cell? ⟨gb, 0, none⟩ = some (.int .u64 (wd R 0 : Nat)) ∧ w'.cell? ⟨gb, 1, none⟩ = some (.int .u64 (wd R 1 : Nat)) ∧ w'.cell? ⟨gb, 2, none⟩ = some (.int .u64 (wd R 2 : Nat)) ∧ w'.cell? ⟨gb, 3, none⟩ = some (.int .u64 (wd R 3 : Nat)) ∧
    w'.frozen? ⟨gb, 0, none⟩ = false ∧ w'.frozen? ⟨gb, 1, none⟩ = false ∧ w'.frozen? ⟨gb, 2, none⟩ = false ∧ w'.frozen? ⟨gb, 3, none⟩ = false ∧ gb < w'.heap.size :=
  have c := h.2.2.out.cells
  have t := h.2.2.out.thaw
  ⟨c.1, c.2.1, c.2.2.1, c.2.2.2, t.1, t.2.1, t.2.2.1, t.2.2.2, h.2.2.out.lt⟩
theorem eq_nought (R : Nat) (hR : R < 2 ^ 256) (w : World) : (Op.equalIn 10000 27 (.agg #[.int .u64 (wd R 0 : Nat), .int .u64 (wd R 1 : Nat), .int .u64 (wd R 2 : Nat), .int .u64 (wd R 3 : Nat)]) (.agg #[.int .u64 0, .int .u64 0, .int .u64 0, .int .u64 0])).run Tryz.prog w = .ok (decide (R = 0)) w := by
  have h := eq24 R 0 hR (by decide +kernel) w
  simpa [wd_zero] using h
theorem Tryz.infoPair : (Tryz.prog.info? 114).map (fun i => (i.zero, i.size, i.bytes)) = some (some (.agg #[.int .i64 0, .int .i64 0]), 2, 16) := by kernel_rfl
def sliceLen : Value → Nat
  | .slice _ n _ => n
  | _ => 0
theorem sliceLen_own {w : World} {base e size n : Nat} {v : Value} {xs : List Value} (h : w.ownsRow base e size v n xs) : sliceLen v = n := by
  obtain ⟨_, h | ⟨g, cap, cur, rfl, _⟩⟩ := h
  · rw [h.1, h.2]; rfl
  · rfl
theorem two_ok (a b : Int) : ∀ u ∈ [Value.int .i64 a, Value.int .i64 b], u.oneCell' = true := by
  intro u hu; simp at hu; rcases hu with rfl | rfl <;> rfl
set_option maxRecDepth 100000 in
set_option maxHeartbeats 4000000 in
theorem runs_any (C : Nat) (w : World) (hC : C < 2 ^ 256) (hT : TabIs w) :
    Calls Tryz.prog 104 #[cv C] w fun e w' => ∃ v, e = .returned v ∧ Hid (w'.ownsRow w.heap.size 114 2 v (rs C 256).length (pv (rs C 256).reverse)) ∧ Hid (Below w.heap.size w w') := by
  obtain ⟨iP, hiP, hzP0, hzP1, hzP2⟩ := info_parts Tryz.infoPair
  have HT : Hid (TabIs w) := hT
  clear hT
  unfold cv
  go_enter Tryz.func104, Tryz.ntmps104
  go_wp2_with fail
  go_loopw [3, 4] (fun v p wr => ∃ g R gb : Nat, p = .pointer (some ⟨gb, 0, none⟩) ∧ w.heap.size ≤ gb ∧ Hid (Left C R g) ∧ Hid (Round w v (rs C g).length gb R (pv (rs C g).reverse) wr)) (fun v _ _ => 256 - sliceLen v)
  case atStart =>
    refine ⟨0, C, w.heap.size + 1, rfl, by omega, hid (Left.start C), hid ⟨hid (((Below.refl _ _).alloc (Nat.le_refl _) _).alloc (by simp) _), hid (World.ownsRow_nil _ _ _ _), hid ?_⟩⟩
    simpa using Blk.new (w.alloc (.cells #[.int .u64 (wd C 0 : Nat), .int .u64 (wd C 1 : Nat), .int .u64 (wd C 2 : Nat), .int .u64 (wd C 3 : Nat)] 27)) C
  case round =>
    obtain ⟨g, R, gb, rfl, hgb, HL, HI⟩ := hrel
    have hR : R < 2 ^ 256 := HL.out.lt hC
    have heq := eq_nought R hR
    obtain ⟨c0, c1, c2, c3, f0, f1, f2, f3, hl⟩ := HI.out.cells
    by_cases hz : R = 0
    · rw [decide_eq_true hz] at heq
      have HZ : Hid (R = 0) := hz
      clear hz
      go_wp2_with fail
      go_ret
      have hL := HL.out
      rw [HZ.out] at hL
      rw [hL.done]
      exact ⟨_, rfl, HI.out.2.1, HI.out.1⟩
    · rw [decide_eq_false hz] at heq
      have HZ : Hid (R ≠ 0) := hz
      clear hz
      go_wp2_with fail
      refine (lowest_any R _ hR (HT.out.below HI.out.1.out HT.out.lt)).mono ?_
      rintro e w1 ⟨⟨lo, rfl, hlo⟩, hb1⟩
      have HLo : Hid (Least R lo) := by
        rcases hlo with ⟨h0, _⟩ | h0
        · exact absurd h0 HZ.out
        · exact h0
      have hlo2 : lo < 256 := HLo.out.1
      have HI1 : Hid (Round w u3 (rs C g).length gb R (pv (rs C g).reverse) w1) := HI.out.keep hb1
      clear hlo hb1 HI c0 c1 c2 c3 f0 f1 f2 f3 hl heq HZ
      obtain ⟨c0, c1, c2, c3, f0, f1, f2, f3, hl⟩ := HI1.out.cells
      have HSp : Hid (∀ w : World, Calls Tryz.prog 127 #[.int .i64 (lo : Int), .int .i64 255] w fun e w' => e = .returned (cv (seg lo 256)) ∧ Below w.heap.size w w') := fun w => span_any lo 255 w (by omega) (by omega)
      go_wp2_with fail
      refine (not_any _ hR _).mono ?_
      rintro e w2 ⟨rfl, hb2⟩
      have HI2 : Hid (Round w u3 (rs C g).length gb R (pv (rs C g).reverse) w2) := HI1.out.keep hb2
      clear hb2 HI1 c0 c1 c2 c3 f0 f1 f2 f3 hl
      dsimp only [cv]
      go_wp2_with fail
      refine (HSp.out _).mono ?_
      rintro e w3 ⟨rfl, hb3⟩
      have HI3 : Hid (Round w u3 (rs C g).length gb R (pv (rs C g).reverse) w3) := HI2.out.keep hb3
      clear hb3 HI2
      dsimp only [cv]
      go_wp2_with fail
      refine (both_any _ _ _).mono ?_
      rintro e w4 ⟨rfl, hb4⟩
      have HI4 : Hid (Round w u3 (rs C g).length gb R (pv (rs C g).reverse) w4) := HI3.out.keep hb4
      clear hb4 HI3
      dsimp only [cv]
      go_wp2_with fail
      refine (lowest_any _ _ (Nat.and_lt_two_pow _ (seg_lt lo 256 (Nat.le_refl _))) (HT.out.below HI4.out.1.out HT.out.lt)).mono ?_
      rintro e w5 ⟨⟨gap, rfl, hgap⟩, hb5⟩
      obtain ⟨k1, k2, k3, k4⟩ := HL.out.step hC HLo.out hgap
      obtain ⟨hi, rfl⟩ : ∃ hi, gap = hi + 1 := ⟨gap - 1, by omega⟩
      have HRs : Hid (rs C (hi + 1) = (lo, hi) :: rs C g) := k3
      have HL2 : Hid (Left C (R &&& cnot (seg lo (hi + 1))) (hi + 1)) := k4
      have HI5 : Hid (Round w u3 (rs C g).length gb R (pv (rs C g).reverse) w5) := HI4.out.keep hb5
      have hlen := rs_len C g
      have hg6 := HL.out.1
      clear hb5 HI4 hgap k3 k4
      go_wp2_with (first
        | (at_builtin; refine wpList_append_own _ rfl (.tmp 19) (.tmp 24) 112 rfl w.heap.size 114 iP (.agg #[.int .i64 0, .int .i64 0]) 2 16 Tryz.underlying112 hiP hzP0 hzP1 hzP2 rfl (by decide) _ _ _ rfl (HI5.out.2.1.out.alloc _) ⟨w5.heap.size, 0, none⟩ 1 1 [.int .i64 (lo : Int), .int .i64 (hi : Int)] rfl rfl (two_new _ _ _ _) (two_ok _ _) (by unfold maxLen; omega) (by omega) (by have := HI5.out.1.out.size; simp; omega) ?_; intro v2 w6 hown6 hgr6 hnil6))
      have hb6 : Below w.heap.size w w6 := (HI5.out.1.out.alloc HI5.out.1.out.size _).grown hgr6 (by have := HI5.out.1.out.size; simp; omega) (fun k e => (HI5.out.2.1.out.lt k e).1)
      have hk6 : Blk w6 gb R := (hgr6.block gb (by have := HI5.out.2.2.out.lt; simp; omega) (HI5.out.2.2.out.ne_own HI5.out.2.1.out)).trans (HI5.out.2.2.out.alloc _)
      have hn6 : (rs C (hi + 1)).length = (rs C g).length + 1 := by rw [HRs.out]; rfl
      have hx6 : pv (rs C (hi + 1)).reverse = pv (rs C g).reverse ++ [.int .i64 (lo : Int), .int .i64 (hi : Int)] := by rw [HRs.out, List.reverse_cons, pv_append]; rfl
      have HI6 : Hid (Round w v2 (rs C (hi + 1)).length gb R (pv (rs C (hi + 1)).reverse) w6) := ⟨hid hb6, hid (by rw [hn6, hx6]; exact hown6), hid hk6⟩
      have hT : Round w v2 (rs C (hi + 1)).length gb R (pv (rs C (hi + 1)).reverse) w6.drew := HI6.out.keep (Below.refl _ _).drew
      have hLn : Hid ((rs C (hi + 1)).length ≤ hi + 1) := rs_len C (hi + 1)
      have hS3 : Hid (sliceLen u3 = (rs C g).length) := sliceLen_own HI5.out.2.1.out
      have hN6 : Hid ((rs C (hi + 1)).length = (rs C g).length + 1) := hn6
      have HSq : Hid (∀ w : World, Calls Tryz.prog 127 #[.int .i64 (lo : Int), .int .i64 (hi : Int)] w fun e w' => e = .returned (cv (seg lo (hi + 1))) ∧ Below w.heap.size w w') := fun w => span_any lo hi w (by omega) (by omega)
      have hwh : IntKind.i64.wrap (hi : Int) = (hi : Int) := by rw [IntKind.wrap_i64]; omega
      have hsg : seg lo (hi + 1) < 2 ^ 256 := seg_lt lo (hi + 1) k2
      clear hown6 hgr6 hnil6 HI5 hb6 hk6 hn6 hx6
      obtain ⟨c0, c1, c2, c3, f0, f1, f2, f3, hl⟩ := HI6.out.cells
      first | go_region_with (first
        | (go_at_call 127; refine (HSq.out _).mono ?_; rintro e wq ⟨rfl, hbr⟩; have hT := Round.keep hbr (by assumption); obtain ⟨c0, c1, c2, c3, f0, f1, f2, f3, hl⟩ := hT.cells; dsimp only [cv])
        | (go_at_call 120; refine (not_any _ ?hh _).mono ?_; (case hh => assumption); rintro e wq ⟨rfl, hbr⟩; have hT := Round.keep hbr (by assumption); obtain ⟨c0, c1, c2, c3, f0, f1, f2, f3, hl⟩ := hT.cells; dsimp only [cv])
        | (go_at_call 126; refine (both_any _ _ _).mono ?_; rintro e wq ⟨rfl, hbr⟩; have hT := Round.keep hbr (by assumption); obtain ⟨c0, c1, c2, c3, f0, f1, f2, f3, hl⟩ := hT.cells; dsimp only [cv])) | skip
      all_goals
        have HQ : Hid (Round w v2 (rs C (hi + 1)).length gb R (pv (rs C (hi + 1)).reverse) wq) := hT
        have HQ2 : Hid (Round w v2 (rs C (hi + 1)).length gb (R &&& cnot (seg lo (hi + 1))) (pv (rs C (hi + 1)).reverse) (st4 wq gb (R &&& cnot (seg lo (hi + 1))))) := ⟨hid (Below.st4 HQ.out.1.out hgb _), hid (own_st4 HQ.out.2.2.out HQ.out.2.1.out), hid (HQ.out.2.2.out.st4 _)⟩
        clear hT HI6
        go_wp2_with fail
        go_roundw
        case rel =>
          refine ⟨hi + 1, R &&& cnot (seg lo (hi + 1)), wq.heap.size, rfl, Nat.le_trans HQ.out.1.out.size (Nat.le_refl _), HL2, hid ⟨?_, ?_, ?_⟩⟩
          · exact (HQ2.out.1.out.alloc (by rw [st4_size]; exact HQ.out.1.out.size) _)
          · exact HQ2.out.2.1.out.alloc _
          · have hb := Blk.new (st4 wq gb (R &&& cnot (seg lo (hi + 1)))) (R &&& cnot (seg lo (hi + 1)))
            rw [st4_size] at hb
            exact hb
        case measure =>
          have e2 := sliceLen_own HQ.out.2.1.out
          have e3 := hS3.out
          have e4 := hN6.out
          have e5 := hLn.out
          simp
          omega
end Go.Proofs.YtikfnaffiehpaaaGreatDoor
namespace Go.Proofs.YtikfnaffiehpaaaGreatDoor
open Go.RowKit
set_option linter.unusedVariables false
/-- The sign of a byte. -/
def sgn (b : Nat) : List Nat := if b = 10 then [92, 110] else if b = 13 then [92, 114] else if b = 9 then [92, 116] else if mark b then [92, b] else if 32 ≤ b ∧ b ≤ 126 then [b] else [92, 120, hexd (b / 16), hexd (b % 16)]
theorem nv_new (w : World) (l : List Nat) (t : TypeId) : ∀ j x, (nv l)[j]? = some x → (w.alloc (.cells (nv l).toArray t)).cell? ((⟨w.heap.size, 0, none⟩ : Addr).add j) = some x := by
  intro j x hj
  rw [Addr.add_lit, Nat.zero_add]
  simp only [World.cell?]
  show (match (w.heap.push (Obj.cells (nv l).toArray t))[w.heap.size]? with | some (.cells c _ _) => _ | _ => _) = _
  simp [hj]
set_option maxRecDepth 100000 in
set_option maxHeartbeats 4000000 in
theorem sign_any (base n b : Nat) (v : Value) (xs : List Value) (w : World) (hb : b < 256) (ho : w.ownsRow base 5 1 v n xs) (hn : n ≤ 100000) (hbase : base ≤ w.heap.size) :
    Calls Tryz.prog 105 #[v, .int .u8 (b : Int)] w fun e w' => ∃ v', e = .returned v' ∧ Hid (App base w n xs (sgn b) v' w') := by
  obtain ⟨i0, hi, hz0, hz1, hz2⟩ := info_parts Tryz.infoByte
  have HO : Hid (w.ownsRow base 5 1 v n xs) := ho
  have HM : Hid (∀ w : World, Calls Tryz.prog 128 #[.int .u8 (b : Int)] w fun e w' => e = .returned (.bool (mark b)) ∧ w' = w) := fun w => mark_any b w hb
  have HP : Hid (∀ w : World, Calls Tryz.prog 129 #[.int .u8 (b : Int)] w fun e w' => e = .returned (.bool (decide (32 ≤ b) && decide (b ≤ 126))) ∧ w' = w) := fun w => print_any b w hb
  clear ho
  by_cases h10 : b = 10
  · have HS : Hid (sgn b = [92, 110]) := by rw [h10]; rfl
    have a10 : ((b : Int) == 10) = true := by simp; omega
    clear h10
    go_enter Tryz.func105, Tryz.ntmps105
    go_wp2_with (first | (at_builtin; refine wpList_append_own _ rfl (.tmp 20) (.tmp 21) 55 rfl base 5 i0 (.int .u8 0) 1 1 Tryz.underlying55 hi hz0 hz1 hz2 rfl (by decide) _ _ _ rfl (HO.out.alloc _) ⟨w.heap.size, 0, none⟩ 2 2 [.int .u8 92, .int .u8 110] rfl rfl (two_new _ _ _ _) (bytes_ok [92, 110]) (by unfold maxLen; omega) (by omega) (by have := hbase; simp; omega) ?_; intro v2 w2 hown2 hgr2 hnil2))
    go_ret
    rw [HS.out]
    exact ⟨_, rfl, hid (App.mk HO.out hbase rfl rfl hown2 hgr2)⟩
  by_cases h13 : b = 13
  · have HS : Hid (sgn b = [92, 114]) := by rw [h13]; rfl
    have a10 : ((b : Int) == 10) = false := by simp; omega
    have a13 : ((b : Int) == 13) = true := by simp; omega
    clear h13
    go_enter Tryz.func105, Tryz.ntmps105
    go_wp2_with (first | (at_builtin; refine wpList_append_own _ rfl (.tmp 23) (.tmp 24) 55 rfl base 5 i0 (.int .u8 0) 1 1 Tryz.underlying55 hi hz0 hz1 hz2 rfl (by decide) _ _ _ rfl (HO.out.alloc _) ⟨w.heap.size, 0, none⟩ 2 2 [.int .u8 92, .int .u8 114] rfl rfl (two_new _ _ _ _) (bytes_ok [92, 114]) (by unfold maxLen; omega) (by omega) (by have := hbase; simp; omega) ?_; intro v2 w2 hown2 hgr2 hnil2))
    go_ret
    rw [HS.out]
    exact ⟨_, rfl, hid (App.mk HO.out hbase rfl rfl hown2 hgr2)⟩
  by_cases h9 : b = 9
  · have HS : Hid (sgn b = [92, 116]) := by rw [h9]; rfl
    have a10 : ((b : Int) == 10) = false := by simp; omega
    have a13 : ((b : Int) == 13) = false := by simp; omega
    have a9 : ((b : Int) == 9) = true := by simp; omega
    clear h9
    go_enter Tryz.func105, Tryz.ntmps105
    go_wp2_with (first | (at_builtin; refine wpList_append_own _ rfl (.tmp 26) (.tmp 27) 55 rfl base 5 i0 (.int .u8 0) 1 1 Tryz.underlying55 hi hz0 hz1 hz2 rfl (by decide) _ _ _ rfl (HO.out.alloc _) ⟨w.heap.size, 0, none⟩ 2 2 [.int .u8 92, .int .u8 116] rfl rfl (two_new _ _ _ _) (bytes_ok [92, 116]) (by unfold maxLen; omega) (by omega) (by have := hbase; simp; omega) ?_; intro v2 w2 hown2 hgr2 hnil2))
    go_ret
    rw [HS.out]
    exact ⟨_, rfl, hid (App.mk HO.out hbase rfl rfl hown2 hgr2)⟩
  have a10 : ((b : Int) == 10) = false := by simp; omega
  have a13 : ((b : Int) == 13) = false := by simp; omega
  have a9 : ((b : Int) == 9) = false := by simp; omega
  have H3 : Hid (b ≠ 10 ∧ b ≠ 13 ∧ b ≠ 9) := ⟨h10, h13, h9⟩
  clear h10 h13 h9
  cases hm : mark b
  · rw [hm] at HM
    cases hp : (decide (32 ≤ b) && decide (b ≤ 126))
    · rw [hp] at HP
      have HS : Hid (sgn b = [92, 120, hexd (b / 16), hexd (b % 16)]) := by
        have hp2 : ¬ (32 ≤ b ∧ b ≤ 126) := by simp at hp; omega
        show sgn b = _
        rw [sgn, if_neg H3.out.1, if_neg H3.out.2.1, if_neg H3.out.2.2, hm, if_neg (by simp), if_neg hp2]
      clear hp hm
      obtain ⟨q, hq⟩ : ∃ q, q = b / 16 := ⟨_, rfl⟩
      obtain ⟨r, hr⟩ : ∃ r, r = b % 16 := ⟨_, rfl⟩
      have d1 := dig_at q (by omega)
      have d2 := dig_at r (by omega)
      obtain ⟨dq, hdq⟩ : ∃ d, d = hexd q := ⟨_, rfl⟩
      obtain ⟨dr, hdr⟩ : ∃ d, d = hexd r := ⟨_, rfl⟩
      rw [← hq, ← hr, ← hdq, ← hdr] at HS
      rw [← hdq] at d1
      rw [← hdr] at d2
      have e1 : (b : Int) / 16 = (q : Int) := by omega
      have e2 : bits BinOp.and IntKind.u8 (b : Int) 15 = (r : Int) := by
        have := u8_and15 (x := (b : Int)) (by omega) (by omega)
        rw [this]; omega
      clear hq hr hdq hdr
      go_enter Tryz.func105, Tryz.ntmps105
      go_wp2_with fail
      refine (HM.out _).mono ?_
      rintro e w1 ⟨rfl, rfl⟩
      go_wp2_with fail
      refine (HP.out _).mono ?_
      rintro e w1 ⟨rfl, rfl⟩
      go_wp2_with fail
      have HO1 : Hid (w1.drew.ownsRow base 5 1 v n xs) := HO.out.kept (row := none) ⟨rfl, rfl, rfl, Nat.le_refl _, fun j hj _ => rfl⟩ (by cases hq : v.ownBlock <;> simp)
      go_region_held3 (fun _ => True) (trivial) (first
        | (rw [if_pos (by rfl)]; refine wp_append_own _ (.tmp 36) (.tmp 43) 55 rfl base 5 i0 (.int .u8 0) 1 1 Tryz.underlying55 hi hz0 hz1 hz2 rfl (by decide) _ _ _ rfl (HO1.out.alloc _) ⟨w1.heap.size, 0, none⟩ 4 4 [.int .u8 92, .int .u8 120, .int .u8 (dq : Int), .int .u8 (dr : Int)] rfl rfl (four_new _ _ _ _ _ _) (bytes_ok [92, 120, (dq : Int), (dr : Int)]) (by unfold maxLen; omega) (by omega) (by have := hbase; simp; omega) ?_; intro v2 w2 hown2 hgr2 hnil2))
      all_goals
        go_wp2_with fail
        go_ret
        rw [HS.out]
        exact ⟨_, rfl, hid (App.of_drew (App.mk HO1.out hbase rfl rfl hown2 hgr2))⟩
    · rw [hp] at HP
      have HS : Hid (sgn b = [b]) := by
        have hp2 : 32 ≤ b ∧ b ≤ 126 := by simpa using hp
        show sgn b = [b]
        rw [sgn, if_neg H3.out.1, if_neg H3.out.2.1, if_neg H3.out.2.2, hm, if_neg (by simp), if_pos hp2]
      clear hp hm
      go_enter Tryz.func105, Tryz.ntmps105
      go_wp2_with fail
      refine (HM.out _).mono ?_
      rintro e w1 ⟨rfl, rfl⟩
      go_wp2_with fail
      refine (HP.out _).mono ?_
      rintro e w1 ⟨rfl, rfl⟩
      go_wp2_with (first | (at_builtin; refine wpList_append_own _ rfl (.tmp 32) (.tmp 34) 55 rfl base 5 i0 (.int .u8 0) 1 1 Tryz.underlying55 hi hz0 hz1 hz2 rfl (by decide) _ _ _ rfl (HO.out.alloc _) ⟨w1.heap.size, 0, none⟩ 1 1 [.int .u8 (b : Int)] rfl rfl (one_newB _ _ _) (bytes_ok [(b : Int)]) (by unfold maxLen; omega) (by omega) (by have := hbase; simp; omega) ?_; intro v2 w2 hown2 hgr2 hnil2))
      go_ret
      rw [HS.out]
      exact ⟨_, rfl, hid (App.mk HO.out hbase rfl rfl hown2 hgr2)⟩
  · rw [hm] at HM
    have HS : Hid (sgn b = [92] ++ [b]) := by
      show sgn b = [92, b]
      rw [sgn, if_neg H3.out.1, if_neg H3.out.2.1, if_neg H3.out.2.2, hm, if_pos rfl]
    clear hm
    go_enter Tryz.func105, Tryz.ntmps105
    go_wp2_with fail
    refine (HM.out _).mono ?_
    rintro e w1 ⟨rfl, rfl⟩
    go_wp2_with (first
      | (at_builtin; refine wpList_append_own _ rfl (.tmp 29) (.tmp 30) 55 rfl base 5 i0 (.int .u8 0) 1 1 Tryz.underlying55 hi hz0 hz1 hz2 rfl (by decide) _ _ _ rfl (HO.out.alloc _) ⟨w1.heap.size, 0, none⟩ 1 1 [.int .u8 92] rfl rfl (one_newB _ _ _) (bytes_ok [92]) (by unfold maxLen; omega) (by omega) (by have := hbase; simp; omega) ?_; intro v2 w2 hown2 hgr2 hnil2; have HA : Hid (App base _ n xs [92] v2 w2) := App.mk HO.out hbase rfl rfl hown2 hgr2; have hbase2 : base ≤ w2.heap.size := HA.out.base hbase; have HO2 : Hid (w2.ownsRow base 5 1 v2 (n + 1) (xs ++ nv [92])) := HA.out.1; clear hown2 hgr2 hnil2)
      | (at_builtin; refine wpList_append_own _ rfl (.tmp 32) (.tmp 34) 55 rfl base 5 i0 (.int .u8 0) 1 1 Tryz.underlying55 hi hz0 hz1 hz2 rfl (by decide) _ _ _ rfl (HO2.out.alloc _) ⟨w2.heap.size, 0, none⟩ 1 1 [.int .u8 (b : Int)] rfl rfl (one_newB _ _ _) (bytes_ok [(b : Int)]) (by unfold maxLen; omega) (by omega) (by have := hbase2; simp; omega) ?_; intro v3 w3 hown3 hgr3 hnil3))
    go_ret
    rw [HS.out]
    exact ⟨_, rfl, hid (HA.out.trans (App.mk HO2.out hbase2 rfl rfl hown3 hgr3))⟩
/-- A row's text. -/
def memb (p : Nat × Nat) : List Nat := sgn p.1 ++ ((if 1 < p.2 - p.1 then [45] else []) ++ (if p.1 < p.2 then sgn p.2 else []))
def body : List (Nat × Nat) → List Nat
  | [] => []
  | p :: t => memb p ++ body t
theorem body_snoc : ∀ (a : List (Nat × Nat)) (p : Nat × Nat), body (a ++ [p]) = body a ++ memb p
  | [], p => by simp [body]
  | q :: t, p => by simp only [List.cons_append, body, body_snoc t p, List.append_assoc]
theorem sgn_len (b : Nat) : 1 ≤ (sgn b).length ∧ (sgn b).length ≤ 4 := by
  unfold sgn
  split
  · simp
  · split
    · simp
    · split
      · simp
      · split
        · simp
        · split <;> simp
theorem sgn_lt (b : Nat) (hb : b < 256) : ∀ x ∈ sgn b, x < 256 := by
  have h1 := hexd_lt (b / 16) (by omega)
  have h2 := hexd_lt (b % 16) (by omega)
  unfold sgn
  split
  · intro x hx; simp at hx; omega
  · split
    · intro x hx; simp at hx; omega
    · split
      · intro x hx; simp at hx; omega
      · split
        · intro x hx; simp at hx; omega
        · split
          · intro x hx; simp at hx; omega
          · intro x hx; simp at hx; omega
theorem memb_len (p : Nat × Nat) : (memb p).length ≤ 9 := by
  have h1 := sgn_len p.1
  have h2 := sgn_len p.2
  unfold memb
  simp only [List.length_append]
  split <;> split <;> simp <;> omega
theorem memb_lt (p : Nat × Nat) (h1 : p.1 < 256) (h2 : p.2 < 256) : ∀ x ∈ memb p, x < 256 := by
  intro x hx
  unfold memb at hx
  simp only [List.mem_append] at hx
  rcases hx with hx | hx | hx
  · exact sgn_lt p.1 h1 x hx
  · split at hx
    · simp at hx; omega
    · simp at hx
  · split at hx
    · exact sgn_lt p.2 h2 x hx
    · simp at hx
theorem body_len : ∀ (a : List (Nat × Nat)), (body a).length ≤ 9 * a.length
  | [] => by simp [body]
  | p :: t => by have := body_len t; have := memb_len p; simp only [body, List.length_append, List.length_cons]; omega
theorem body_lt : ∀ (a : List (Nat × Nat)), (∀ p ∈ a, p.1 < 256 ∧ p.2 < 256) → ∀ x ∈ body a, x < 256
  | [], _, x, hx => by simp [body] at hx
  | p :: t, h, x, hx => by
    simp only [body, List.mem_append] at hx
    rcases hx with hx | hx
    · exact memb_lt p (h p (List.mem_cons_self ..)).1 (h p (List.mem_cons_self ..)).2 x hx
    · exact body_lt t (fun q hq => h q (List.mem_cons_of_mem _ hq)) x hx
/-- A class's text. -/
def txt (C : Nat) : List Nat := ([91] ++ body (rs C 256).reverse) ++ [93]
theorem txt_lt (C : Nat) : ∀ x ∈ txt C, x < 256 := by
  intro x hx
  unfold txt at hx
  simp only [List.mem_append, List.mem_singleton] at hx
  rcases hx with (rfl | hx) | rfl
  · omega
  · exact body_lt _ (fun p hp => by have := rs_lt C 256 p (List.mem_reverse.1 hp); omega) x hx
  · omega
theorem pv_get (a : List (Nat × Nat)) (p : Nat × Nat) (b : List (Nat × Nat)) : (pv (a ++ p :: b))[a.length * 2]? = some (.int .i64 (p.1 : Int)) ∧ (pv (a ++ p :: b))[a.length * 2 + 1]? = some (.int .i64 (p.2 : Int)) := by
  rw [pv_append]
  have := pv_length a
  constructor
  · rw [List.getElem?_append_right (by omega), this, Nat.sub_self]; rfl
  · rw [List.getElem?_append_right (by omega), this, show a.length * 2 + 1 - a.length * 2 = 1 by omega]; rfl
theorem pairs_NB {w w' : World} {base n : Nat} {v : Value} {xs : List Value} (h : w.ownsRow base 114 2 v n xs) (hb : NB w w') : w'.ownsRow base 114 2 v n xs := by
  refine ⟨h.1, ?_⟩
  rcases h.2 with hn | ⟨g, cap, cur, rfl, h1, h2, rest⟩
  · exact .inl hn
  · refine .inr ⟨g, cap, cur, rfl, h1, ?_, rest⟩
    have hg : g < w.heap.size := by
      rcases Nat.lt_or_ge g w.heap.size with h3 | h3
      · exact h3
      · rw [Array.getElem?_eq_none h3] at h2; cases h2
    rw [hb.2 g hg (fun c hc => by rw [h2] at hc; simp at hc)]
    exact h2
/-- What stays while the text is written: the text so far, and the rows. -/
def Tx (w : World) (base2 : Nat) (rv : Value) (L : List (Nat × Nat)) (v : Value) (l : List Nat) (w' : World) : Prop :=
  Hid (Below w.heap.size w w') ∧ Hid (w'.ownsRow base2 114 2 rv L.length (pv L)) ∧ Hid (w'.ownsRow w.heap.size 5 1 v l.length (nv l))
theorem Tx.app {w W w' : World} {base2 : Nat} {rv v v' : Value} {L : List (Nat × Nat)} {l m : List Nat} (h : Tx w base2 rv L v l W) (k : App w.heap.size W l.length (nv l) m v' w') : Tx w base2 rv L v' (l ++ m) w' :=
  ⟨hid (h.1.out.trans k.2.1), hid (pairs_NB h.2.1.out k.2.2), hid (by rw [List.length_append, nv_append]; exact k.1)⟩
theorem Tx.keep {w W w' : World} {base2 : Nat} {rv v : Value} {L : List (Nat × Nat)} {l : List Nat} (h : Tx w base2 rv L v l W) (hb : Below W.heap.size W w') : Tx w base2 rv L v l w' :=
  ⟨hid (h.1.out.trans (hb.mono h.1.out.size)), hid (own_keep h.2.1.out hb), hid (own_keep h.2.2.out hb)⟩
set_option maxRecDepth 100000 in
set_option maxHeartbeats 4000000 in
theorem text_any (C : Nat) (w : World) (hC : C < 2 ^ 256) (hT : TabIs w) :
    Calls Tryz.prog 82 #[cv C] w fun e w' => e = .returned (.string (nb (txt C))) ∧ Below w.heap.size w w' := by
  obtain ⟨i0, hi0, hz0, hz1, hz2⟩ := info_parts Tryz.infoByte
  have HT : Hid (TabIs w) := hT
  clear hT
  unfold cv
  go_enter Tryz.func82, Tryz.ntmps82
  go_wp2_with fail
  refine (runs_any C _ hC ((HT.out.alloc _).alloc _)).mono ?_
  rintro e w2 ⟨rv, rfl, HO2, hb2⟩
  obtain ⟨L, hL⟩ : ∃ L, L = (rs C 256).reverse := ⟨_, rfl⟩
  have hLl : L.length = (rs C 256).length := by rw [hL]; simp
  have hL6 : L.length ≤ 256 := by rw [hLl]; exact rs_len C 256
  have HQ2 : Hid (∀ p ∈ L, p.1 ≤ p.2 ∧ p.2 < 256) := by rw [hL]; exact fun p hp => rs_lt C 256 p (List.mem_reverse.1 hp)
  have HF : Hid (txt C = ([91] ++ body L) ++ [93]) := by rw [hL]; rfl
  have HF2 : Hid (∀ x ∈ ([91] ++ body L) ++ [93], x < 256) := by rw [← HF.out]; exact txt_lt C
  have hrow0 : ((w.alloc (.cells #[.int .u64 (wd C 0 : Nat), .int .u64 (wd C 1 : Nat), .int .u64 (wd C 2 : Nat), .int .u64 (wd C 3 : Nat)] 27)).alloc (.cells #[.int .u8 91] 5)).ownsRow w.heap.size 5 1 (.slice (some ⟨w.heap.size + 1, 0, none⟩) 1 1) 1 (nv [91]) :=
    ⟨rfl, .inr ⟨w.heap.size + 1, 1, #[.int .u8 91], rfl, by omega, new_block_at _ _ (by simp), Nat.le_refl _, by unfold maxLen; omega, rfl, rfl⟩⟩
  obtain ⟨base2, hb2d⟩ : ∃ b, b = ((w.alloc (.cells #[.int .u64 (wd C 0 : Nat), .int .u64 (wd C 1 : Nat), .int .u64 (wd C 2 : Nat), .int .u64 (wd C 3 : Nat)] 27)).alloc (.cells #[.int .u8 91] 5)).heap.size := ⟨_, rfl⟩
  have HX0 : Hid (Tx w base2 rv L (.slice (some ⟨w.heap.size + 1, 0, none⟩) 1 1) [91] w2) :=
    ⟨hid ((((Below.refl _ _).alloc (Nat.le_refl _) _).alloc (by simp) _).trans (hb2.out.mono (by simp; omega))), hid (by rw [hb2d, hLl, hL]; exact HO2.out), hid (own_keep hrow0 hb2.out)⟩
  clear hrow0 HO2 hb2 hL hLl hb2d
  rcases HX0.out.2.1.out.2 with ⟨rfl, hn0⟩ | ⟨g0, cap, cur, rfl, hg0, hh0, hn1, hn2, hn3, hn4⟩
  · have hL0 : L = [] := List.eq_nil_of_length_eq_zero hn0
    obtain ⟨l, hl⟩ : ∃ l : List Nat, l = [91] := ⟨_, rfl⟩
    have hl3 : l.length ≤ 2305 := by rw [hl]; simp
    have HLt : Hid (∀ x ∈ l ++ [93], x < 256) := by have := HF2.out; rw [hL0] at this; rw [hl]; exact this
    have HFin : Hid (txt C = l ++ [93]) := by have := HF.out; rw [hL0] at this; rw [hl]; exact this
    rw [← hl] at HX0
    clear hL0 hl
    go_wp2_with fail
    refine wp_loop_rounds 1 ?_
    rw [rounds_succ]
    have hsz : w.heap.size ≤ w2.heap.size := HX0.out.1.out.size
    go_wp2_with (first | (at_builtin; refine wpList_append_own _ rfl (.tmp 39) (.tmp 40) 55 rfl w.heap.size 5 i0 (.int .u8 0) 1 1 Tryz.underlying55 hi0 hz0 hz1 hz2 rfl (by decide) _ _ _ rfl (HX0.out.2.2.out.alloc _) ⟨w2.heap.size, 0, none⟩ 1 1 [.int .u8 93] rfl rfl (one_newB _ _ _) (bytes_ok [93]) (by unfold maxLen; omega) (by omega) (by simp; omega) ?_; intro v9 w9 hown9 hgr9 hnil9; obtain ⟨g9, c9, rfl⟩ := own_shape hown9 (by omega); have cv9 := conv_own (l := l ++ [93]) (by rw [nv_append]; exact hown9) HLt.out))
    go_ret
    have hb9 : Below w.heap.size w w9 := (HX0.out.1.out.alloc hsz _).grown hgr9 (by simp; omega) (fun k e => (HX0.out.2.2.out.lt k e).1)
    exact ⟨by rw [HFin.out]; rfl, hb9⟩
  · clear hg0 hh0 hn3 hn4 cur
    unfold maxLen at hn2
    go_wp2_with fail
    go_loopw [3, 12] (fun v i wr => ∃ (A B : List (Nat × Nat)) (l : List Nat), i = .int .i64 ((A.length : Nat) : Int) ∧ Hid (L = A ++ B) ∧ Hid (l = [91] ++ body A) ∧ A.length ≤ L.length ∧ Hid (Tx w base2 (.slice (some ⟨g0, 0, none⟩) L.length cap) L v l wr)) (fun _ i _ => L.length - (intOf i).toNat)
    case atStart => exact ⟨[], L, [91], rfl, hid rfl, hid rfl, by simp, HX0⟩
    case round =>
      obtain ⟨A, B, l, rfl, HAB, HL, hAl, HX⟩ := hrel
      have hl3 : l.length ≤ 2305 := by rw [HL.out]; have := body_len A; simp; omega
      cases B with
      | nil =>
        have hk : ((A.length : Nat) : Int) = (L.length : Int) := by have := congrArg List.length HAB.out; simp at this; omega
        have HLt : Hid (∀ x ∈ l ++ [93], x < 256) := by have := HF2.out; rw [HAB.out, List.append_nil] at this; rw [HL.out]; exact this
        have HFin : Hid (txt C = l ++ [93]) := by have := HF.out; rw [HAB.out, List.append_nil] at this; rw [HL.out]; exact this
        have hsz : w.heap.size ≤ wr.heap.size := HX.out.1.out.size
        go_wp2_with (first | (at_builtin; refine wpList_append_own _ rfl (.tmp 39) (.tmp 40) 55 rfl w.heap.size 5 i0 (.int .u8 0) 1 1 Tryz.underlying55 hi0 hz0 hz1 hz2 rfl (by decide) _ _ _ rfl (HX.out.2.2.out.alloc _) ⟨wr.heap.size, 0, none⟩ 1 1 [.int .u8 93] rfl rfl (one_newB _ _ _) (bytes_ok [93]) (by unfold maxLen; omega) (by omega) (by simp; omega) ?_; intro v9 w9 hown9 hgr9 hnil9; obtain ⟨g9, c9, rfl⟩ := own_shape hown9 (by omega); have cv9 := conv_own (l := l ++ [93]) (by rw [nv_append]; exact hown9) HLt.out))
        go_ret
        have hb9 : Below w.heap.size w w9 := (HX.out.1.out.alloc hsz _).grown hgr9 (by simp; omega) (fun k e => (HX.out.2.2.out.lt k e).1)
        exact ⟨by rw [HFin.out]; rfl, hb9⟩
      | cons p B' =>
        have HAB2 : Hid (L = (A ++ [p]) ++ B') := by show L = _; rw [HAB.out]; simp
        obtain ⟨p1, p2⟩ := HQ2.out p (by rw [HAB.out]; simp)
        have hat := pv_get A p B'
        rw [← HAB.out] at hat
        have hkl : A.length < L.length := by rw [HAB.out]; simp
        have hkI : ((A.length : Nat) : Int) < (L.length : Int) := by omega
        have e0 := HX.out.2.1.out.cellAt (A.length * 2) (by omega)
        have e1 := HX.out.2.1.out.cellAt (A.length * 2 + 1) (by omega)
        rw [hat.1] at e0
        rw [hat.2] at e1
        obtain ⟨lo, hlo⟩ : ∃ lo, lo = p.1 := ⟨_, rfl⟩
        obtain ⟨hi, hhi⟩ : ∃ hi, hi = p.2 := ⟨_, rfl⟩
        rw [← hlo] at e0 p1
        rw [← hhi] at e1 p1 p2
        have hgl : g0 < wr.heap.size := World.block_lt_of_cell? wr _ e0
        have HX1 : Hid (Tx w base2 (.slice (some ⟨g0, 0, none⟩) L.length cap) L u3 l (wr.alloc (.cells #[.int .i64 (lo : Int), .int .i64 (hi : Int)] 114)).drew) := HX.out.keep ((Below.refl _ _).alloc (Nat.le_refl _) _).drew
        clear hat HAB
        by_cases hv : lo = hi
        · have hv1 : ¬ lo < hi := by omega
          have HM : Hid (memb p = sgn lo) := by
            show memb p = _
            rw [memb, ← hlo, ← hhi, if_neg (by omega), if_neg (by omega)]
            simp
          have d1 : decide (1 < (hi : Int) - (lo : Int)) = false := by simp; omega
          have d2 : decide ((lo : Int) < (hi : Int)) = false := by simp; omega
          have d2' : decide (lo < hi) = false := by simp; omega
          have hwl : IntKind.u8.wrap (lo : Int) = (lo : Int) := by rw [IntKind.wrap_u8]; omega
          have hwh : IntKind.u8.wrap (hi : Int) = (hi : Int) := by rw [IntKind.wrap_u8]; omega
          clear hlo hhi hv hv1
          go_wp2_with fail
          go_region
          go_wp2_with fail
          refine (sign_any w.heap.size l.length lo _ (nv l) _ (by omega) HX1.out.2.2.out (by omega) HX1.out.1.out.size).mono ?_
          rintro e w3 ⟨v3, rfl, hA3⟩
          have HX3 : Hid (Tx w base2 (.slice (some ⟨g0, 0, none⟩) L.length cap) L v3 (l ++ sgn lo) w3) := HX1.out.app hA3.out
          clear hA3 e0 e1 HX1
          have hsl := sgn_len lo
          have hs4 : (l ++ sgn lo).length ≤ 2309 := by rw [List.length_append]; omega
          obtain ⟨l3, hl3d⟩ : ∃ l3, l3 = l ++ sgn lo := ⟨_, rfl⟩
          have HL3 : Hid (l3 = l ++ sgn lo) := hl3d
          rw [← hl3d] at HX3 hs4
          clear hl3d
          have hsz3 : w.heap.size ≤ w3.heap.size := HX3.out.1.out.size
          go_wp2_with fail
          go_roundw
          case rel => exact ⟨A ++ [p], B', l3, by simp, HAB2, hid (by rw [HL3.out, HL.out, body_snoc, HM.out]; simp), by simp; omega, HX3⟩
          case measure => simp [intOf]; omega
        · by_cases hv2 : hi = lo + 1
          · have HM : Hid (memb p = sgn lo ++ sgn hi) := by
              show memb p = _
              rw [memb, ← hlo, ← hhi, if_neg (by omega), if_pos (by omega)]
              simp
            have d1 : decide (1 < (hi : Int) - (lo : Int)) = false := by simp; omega
            have d2 : decide ((lo : Int) < (hi : Int)) = true := by simp; omega
            have d2' : decide (lo < hi) = true := by simp; omega
            have hwl : IntKind.u8.wrap (lo : Int) = (lo : Int) := by rw [IntKind.wrap_u8]; omega
            have hwh : IntKind.u8.wrap (hi : Int) = (hi : Int) := by rw [IntKind.wrap_u8]; omega
            clear hlo hhi hv hv2
            go_wp2_with fail
            go_region
            go_wp2_with fail
            refine (sign_any w.heap.size l.length lo _ (nv l) _ (by omega) HX1.out.2.2.out (by omega) HX1.out.1.out.size).mono ?_
            rintro e w3 ⟨v3, rfl, hA3⟩
            have HX3 : Hid (Tx w base2 (.slice (some ⟨g0, 0, none⟩) L.length cap) L v3 (l ++ sgn lo) w3) := HX1.out.app hA3.out
            clear hA3 e0 e1 HX1
            have hsl := sgn_len lo
            have hs4 : (l ++ sgn lo).length ≤ 2309 := by rw [List.length_append]; omega
            obtain ⟨l3, hl3d⟩ : ∃ l3, l3 = l ++ sgn lo := ⟨_, rfl⟩
            have HL3 : Hid (l3 = l ++ sgn lo) := hl3d
            rw [← hl3d] at HX3 hs4
            clear hl3d
            have hsz3 : w.heap.size ≤ w3.heap.size := HX3.out.1.out.size
            go_wp2_with fail
            refine (sign_any w.heap.size l3.length hi _ (nv l3) _ (by omega) HX3.out.2.2.out (by omega) hsz3).mono ?_
            rintro e w5 ⟨v5, rfl, hA5⟩
            have HX5 : Hid (Tx w base2 (.slice (some ⟨g0, 0, none⟩) L.length cap) L v5 (l3 ++ sgn hi) w5) := HX3.out.app hA5.out
            clear hA5
            go_wp2_with fail
            go_roundw
            case rel => exact ⟨A ++ [p], B', l3 ++ sgn hi, by simp, HAB2, hid (by rw [HL3.out, HL.out, body_snoc, HM.out]; simp), by simp; omega, HX5⟩
            case measure => simp [intOf]; omega
          · have HM : Hid (memb p = sgn lo ++ [45] ++ sgn hi) := by
              show memb p = _
              rw [memb, ← hlo, ← hhi, if_pos (by omega), if_pos (by omega)]
              simp
            have d1 : decide (1 < (hi : Int) - (lo : Int)) = true := by simp; omega
            have d2 : decide ((lo : Int) < (hi : Int)) = true := by simp; omega
            have d2' : decide (lo < hi) = true := by simp; omega
            have hwl : IntKind.u8.wrap (lo : Int) = (lo : Int) := by rw [IntKind.wrap_u8]; omega
            have hwh : IntKind.u8.wrap (hi : Int) = (hi : Int) := by rw [IntKind.wrap_u8]; omega
            clear hlo hhi hv hv2
            go_wp2_with fail
            go_region
            go_wp2_with fail
            refine (sign_any w.heap.size l.length lo _ (nv l) _ (by omega) HX1.out.2.2.out (by omega) HX1.out.1.out.size).mono ?_
            rintro e w3 ⟨v3, rfl, hA3⟩
            have HX3 : Hid (Tx w base2 (.slice (some ⟨g0, 0, none⟩) L.length cap) L v3 (l ++ sgn lo) w3) := HX1.out.app hA3.out
            clear hA3 e0 e1 HX1
            have hsl := sgn_len lo
            have hs4 : (l ++ sgn lo).length ≤ 2309 := by rw [List.length_append]; omega
            obtain ⟨l3, hl3d⟩ : ∃ l3, l3 = l ++ sgn lo := ⟨_, rfl⟩
            have HL3 : Hid (l3 = l ++ sgn lo) := hl3d
            rw [← hl3d] at HX3 hs4
            clear hl3d
            have hsz3 : w.heap.size ≤ w3.heap.size := HX3.out.1.out.size
            go_wp2_with (first | (at_builtin; refine wpList_append_own _ rfl (.tmp 28) (.tmp 29) 55 rfl w.heap.size 5 i0 (.int .u8 0) 1 1 Tryz.underlying55 hi0 hz0 hz1 hz2 rfl (by decide) _ _ _ rfl (HX3.out.2.2.out.alloc _) ⟨w3.heap.size, 0, none⟩ 1 1 [.int .u8 45] rfl rfl (one_newB _ _ _) (bytes_ok [45]) (by unfold maxLen; omega) (by omega) (by simp; omega) ?_; intro v4 w4 hown4 hgr4 hnil4; have HX4 : Hid (Tx w base2 (.slice (some ⟨g0, 0, none⟩) L.length cap) L v4 (l3 ++ [45]) w4) := HX3.out.app (App.mk HX3.out.2.2.out hsz3 rfl rfl hown4 hgr4); clear hown4 hgr4 hnil4))
            have hs5 : (l3 ++ [45]).length ≤ 2310 := by rw [List.length_append]; simp; omega
            obtain ⟨l4, hl4d⟩ : ∃ l4, l4 = l3 ++ [45] := ⟨_, rfl⟩
            have HL4 : Hid (l4 = l3 ++ [45]) := hl4d
            rw [← hl4d] at HX4 hs5
            clear hl4d
            refine (sign_any w.heap.size l4.length hi _ (nv l4) _ (by omega) HX4.out.2.2.out (by omega) HX4.out.1.out.size).mono ?_
            rintro e w5 ⟨v5, rfl, hA5⟩
            have HX5 : Hid (Tx w base2 (.slice (some ⟨g0, 0, none⟩) L.length cap) L v5 (l4 ++ sgn hi) w5) := HX4.out.app hA5.out
            clear hA5
            go_wp2_with fail
            go_roundw
            case rel => exact ⟨A ++ [p], B', l4 ++ sgn hi, by simp, HAB2, hid (by rw [HL4.out, HL3.out, HL.out, body_snoc, HM.out]; simp), by simp; omega, HX5⟩
            case measure => simp [intOf]; omega
end Go.Proofs.YtikfnaffiehpaaaGreatDoor
