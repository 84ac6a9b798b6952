/-
  What the document's own Tokens answers at any text, and what it stands on. Conditions: those that each theorem names.
-/
import Derived.Test.YtkofhmmnlapnnaaGreatDoorX16
import Derived.Lib.AppendStr
import Derived.Test.YtkofhmmnlapnnaaGreatDoorX14
import Derived.Test.YtkofhmmnlapnnaaGreatDoorX15
namespace Go.Proofs.YtkofhmmnlapnnaaGreatDoor
open Go.RowKit
set_option linter.unusedVariables false
/-- What stays while bytes are written into a row of one's own. -/
def Lq (w : World) (v : Value) (l : List Nat) (w' : World) : Prop := Hid (Below w.heap.size w w') ∧ Hid (w'.ownsRow w.heap.size 5 1 v l.length (nv l))
set_option maxRecDepth 100000 in
set_option maxHeartbeats 1000000 in
theorem qletter_any (x : Nat) (v : Bool) (hv : letB x = v) (w : World) (hx : x < 256) :
    Calls Tryz.prog 29 #[.int .u8 (x : Int)] w fun e w' => e = .returned (.bool v) ∧ w' = w := by
  subst hv
  have hc : x < 65 ∨ (65 ≤ x ∧ x ≤ 90) ∨ (90 < x ∧ x < 95) ∨ x = 95 ∨ x = 96 ∨ (97 ≤ x ∧ x ≤ 122) ∨ 122 < x := by omega
  rcases hc with h | h | h | h | h | h | h
  · have hv : letB x = false := by unfold letB; simp; omega
    have a1 : decide (65 ≤ (x : Int)) = false := by simp; omega
    have a3 : decide (97 ≤ (x : Int)) = false := by simp; omega
    have a5 : ((x : Int) == 95) = false := by simp; omega
    rw [hv]; clear h hv
    go_enter Tryz.func29, Tryz.ntmps29
    go_wp2_with fail
    go_ret
    exact ⟨rfl, rfl⟩
  · have hv : letB x = true := by unfold letB; simp; omega
    have a1 : decide (65 ≤ (x : Int)) = true := by simp; omega
    have a2 : decide ((x : Int) ≤ 90) = true := by simp; omega
    rw [hv]; clear h hv
    go_enter Tryz.func29, Tryz.ntmps29
    go_wp2_with fail
    go_ret
    exact ⟨rfl, rfl⟩
  · have hv : letB x = false := by unfold letB; simp; omega
    have a1 : decide (65 ≤ (x : Int)) = true := by simp; omega
    have a2 : decide ((x : Int) ≤ 90) = false := by simp; omega
    have a3 : decide (97 ≤ (x : Int)) = false := by simp; omega
    have a5 : ((x : Int) == 95) = false := by simp; omega
    rw [hv]; clear h hv
    go_enter Tryz.func29, Tryz.ntmps29
    go_wp2_with fail
    go_ret
    exact ⟨rfl, rfl⟩
  · have hv : letB x = true := by unfold letB; simp; omega
    have a1 : decide (65 ≤ (x : Int)) = true := by simp; omega
    have a2 : decide ((x : Int) ≤ 90) = false := by simp; omega
    have a3 : decide (97 ≤ (x : Int)) = false := by simp; omega
    have a5 : ((x : Int) == 95) = true := by simp; omega
    rw [hv]; clear h hv
    go_enter Tryz.func29, Tryz.ntmps29
    go_wp2_with fail
    go_ret
    exact ⟨rfl, rfl⟩
  · have hv : letB x = false := by unfold letB; simp; omega
    have a1 : decide (65 ≤ (x : Int)) = true := by simp; omega
    have a2 : decide ((x : Int) ≤ 90) = false := by simp; omega
    have a3 : decide (97 ≤ (x : Int)) = false := by simp; omega
    have a5 : ((x : Int) == 95) = false := by simp; omega
    rw [hv]; clear h hv
    go_enter Tryz.func29, Tryz.ntmps29
    go_wp2_with fail
    go_ret
    exact ⟨rfl, rfl⟩
  · have hv : letB x = true := by unfold letB; simp; omega
    have a1 : decide (65 ≤ (x : Int)) = true := by simp; omega
    have a2 : decide ((x : Int) ≤ 90) = false := by simp; omega
    have a3 : decide (97 ≤ (x : Int)) = true := by simp; omega
    have a4 : decide ((x : Int) ≤ 122) = true := by simp; omega
    rw [hv]; clear h hv
    go_enter Tryz.func29, Tryz.ntmps29
    go_wp2_with fail
    go_ret
    exact ⟨rfl, rfl⟩
  · have hv : letB x = false := by unfold letB; simp; omega
    have a1 : decide (65 ≤ (x : Int)) = true := by simp; omega
    have a2 : decide ((x : Int) ≤ 90) = false := by simp; omega
    have a3 : decide (97 ≤ (x : Int)) = true := by simp; omega
    have a4 : decide ((x : Int) ≤ 122) = false := by simp; omega
    have a5 : ((x : Int) == 95) = false := by simp; omega
    rw [hv]; clear h hv
    go_enter Tryz.func29, Tryz.ntmps29
    go_wp2_with fail
    go_ret
    exact ⟨rfl, rfl⟩
set_option maxRecDepth 100000 in
set_option maxHeartbeats 1000000 in
theorem qdigit_any (x : Nat) (v : Bool) (hv : digB x = v) (w : World) (hx : x < 256) :
    Calls Tryz.prog 30 #[.int .u8 (x : Int)] w fun e w' => e = .returned (.bool v) ∧ w' = w := by
  subst hv
  unfold digB
  by_cases h1 : 48 ≤ x
  · have a1 : decide (48 ≤ (x : Int)) = true := by simp; omega
    by_cases h2 : x ≤ 57
    · have a2 : decide ((x : Int) ≤ 57) = true := by simp; omega
      rw [decide_eq_true h1, decide_eq_true h2]
      clear h1 h2
      go_enter Tryz.func30, Tryz.ntmps30
      go_wp2_with fail
      go_ret
      exact ⟨rfl, rfl⟩
    · have a2 : decide ((x : Int) ≤ 57) = false := by simp; omega
      rw [decide_eq_true h1, decide_eq_false h2]
      clear h1 h2
      go_enter Tryz.func30, Tryz.ntmps30
      go_wp2_with fail
      go_ret
      exact ⟨rfl, rfl⟩
  · have a1 : decide (48 ≤ (x : Int)) = false := by simp; omega
    rw [decide_eq_false h1]
    clear h1
    go_enter Tryz.func30, Tryz.ntmps30
    go_wp2_with fail
    go_ret
    exact ⟨rfl, rfl⟩
/-- How many bytes of a name stand at a place. -/
def rl (S : ByteArray) (p : Nat) : Nat := match bt S p with
  | none => 0
  | some x => if letB x then ne S p - p else 0
/-- n bytes of a name stand there. -/
def RlQ (S : ByteArray) (p n : Nat) : Prop := p + n ≤ S.size ∧ (n = 0 ∨ (∃ x, bt S p = some x ∧ letB x = true) ∧ ne S (p + n) = ne S p)
theorem RlQ.none {S : ByteArray} {p n : Nat} (h : RlQ S p n) (hb : bt S (p + n) = none) : rl S p = n := by
  rcases h.2 with rfl | ⟨⟨x, hx, hl⟩, he⟩
  · unfold rl; rw [Nat.add_zero] at hb; rw [hb]
  · rw [ne_none hb] at he
    unfold rl; rw [hx]; simp only; rw [hl, if_pos rfl, ← he]; omega
theorem RlQ.on {S : ByteArray} {p n x : Nat} (h : RlQ S p n) (hb : bt S (p + n) = some x) (hx : letB x = true ∨ (digB x = true ∧ 0 < n)) : RlQ S p (n + 1) := by
  have hk := (bt_lt hb).1
  refine ⟨by omega, .inr ?_⟩
  have hn : ne S (p + n) = ne S (p + (n + 1)) := by
    rw [ne_eq hb, if_pos (by rcases hx with h | ⟨h, _⟩ <;> simp [h])]; rfl
  rcases h.2 with rfl | ⟨h1, he⟩
  · rcases hx with h1 | ⟨_, h1⟩
    · exact ⟨⟨x, by simpa using hb, h1⟩, by rw [← hn]; rfl⟩
    · omega
  · exact ⟨h1, by rw [← hn, he]⟩
theorem RlQ.off {S : ByteArray} {p n x : Nat} (h : RlQ S p n) (hb : bt S (p + n) = some x) (hx : letB x = false) (hd : digB x = false ∨ n = 0) : rl S p = n := by
  rcases h.2 with rfl | ⟨⟨y, hy, hl⟩, he⟩
  · unfold rl; rw [Nat.add_zero] at hb; rw [hb]; simp [hx]
  · rcases hd with hd | rfl
    · rw [ne_eq hb, hx, hd] at he
      simp at he
      unfold rl; rw [hy]; simp only; rw [hl, if_pos rfl, ← he]; omega
    · rw [Nat.add_zero] at hb
      rw [hb] at hy
      cases hy
      rw [hx] at hl
      cases hl
set_option maxRecDepth 100000 in
set_option maxHeartbeats 4000000 in
theorem qletters_any (S : ByteArray) (p : Nat) (w : World) (hp : p ≤ S.size) (hS : S.size ≤ 9007199254740992) :
    Calls Tryz.prog 16 #[.string S, .int .i64 (p : Int)] w fun e w' => e = .returned (.int .i64 (rl S p : Int)) ∧ w' = w := by
  go_enter Tryz.func16, Tryz.ntmps16
  go_wp2_with fail
  go_loopw [5] (fun a wr => ∃ n : Nat, a = .int .i64 (n : Int) ∧ Hid (RlQ S p n) ∧ wr = w) (fun a _ => S.size - p - (intOf a).toNat)
  case atStart => exact ⟨0, rfl, hid ⟨by omega, .inl rfl⟩, rfl⟩
  case round =>
    obtain ⟨n, rfl, HR, rfl⟩ := hrel
    have hpn := HR.out.1
    obtain ⟨K, hK⟩ : ∃ K, K = p + n := ⟨_, rfl⟩
    have hc : (p : Int) + (n : Int) = (K : Int) := by omega
    have hKp : K ≤ S.size := by omega
    have HKn : Hid (K = p + n) := hK
    have hm1 : S.size - p - (n + 1) < S.size - p - n ∨ S.size ≤ K := by omega
    clear hK hpn
    cases hb : bt S K with
    | none =>
      have hge := bt_none hb
      have a0 : decide ((K : Int) < (S.size : Int)) = false := by simp; omega
      have HF : Hid (rl S p = n) := HR.out.none (by rw [← HKn.out]; exact hb)
      clear hb
      go_wp2_with fail
      go_ret
      rw [HF.out]
      exact ⟨rfl, rfl⟩
    | some x =>
      obtain ⟨hkk, hxk⟩ := bt_at hb
      have hx := (bt_lt hb).2
      have a0 : decide ((K : Int) < (S.size : Int)) = true := by simp; omega
      have hkI : (K : Int) < (S.size : Int) := by omega
      have HN : Hid (((n + 1 : Nat) : Int) = (n : Int) + 1) := by show _ = _; omega
      have HLt : Hid (∀ w : World, Calls Tryz.prog 29 #[.int .u8 (x : Int)] w fun e w' => e = .returned (.bool (letB x)) ∧ w' = w) := fun w => qletter_any x _ rfl w hx
      have HDg : Hid (∀ w : World, Calls Tryz.prog 30 #[.int .u8 (x : Int)] w fun e w' => e = .returned (.bool (digB x)) ∧ w' = w) := fun w => qdigit_any x _ rfl w hx
      cases hl : letB x with
      | true =>
        have HR2 : Hid (RlQ S p (n + 1)) := HR.out.on (by rw [← HKn.out]; exact hb) (.inl hl)
        rw [hl] at HLt
        clear hb hl
        go_wp2_with fail
        refine (HLt.out _).mono ?_
        rintro e w1 ⟨rfl, rfl⟩
        go_wp2_with fail
        refine (HDg.out _).mono ?_
        rintro e w1 ⟨rfl, rfl⟩
        go_wp2_with fail
        go_roundw
        case rel => exact ⟨n + 1, by rw [HN.out], HR2, trivial⟩
        case measure => simp [intOf]; omega
      | false =>
        rw [hl] at HLt
        by_cases hon : digB x = true ∧ 0 < n
        · have HR2 : Hid (RlQ S p (n + 1)) := HR.out.on (by rw [← HKn.out]; exact hb) (.inr hon)
          rw [hon.1] at HDg
          have hn0 : ((n : Int) == 0) = false := by simp; omega
          clear hb hl hon
          go_wp2_with fail
          refine (HLt.out _).mono ?_
          rintro e w1 ⟨rfl, rfl⟩
          go_wp2_with fail
          refine (HDg.out _).mono ?_
          rintro e w1 ⟨rfl, rfl⟩
          go_wp2_with fail
          go_roundw
          case rel => exact ⟨n + 1, by rw [HN.out], HR2, trivial⟩
          case measure => simp [intOf]; omega
        · have HF : Hid (rl S p = n) := HR.out.off (by rw [← HKn.out]; exact hb) hl (by cases hd : digB x; exact .inl rfl; rw [hd] at hon; simp at hon; exact .inr hon)
          have hd2 : digB x = false ∨ (digB x = true ∧ n = 0) := by
            cases hd : digB x with
            | false => exact .inl rfl
            | true => rw [hd] at hon; simp at hon; exact .inr ⟨rfl, hon⟩
          clear hb hl hon
          rcases hd2 with hd | ⟨hd, hn0⟩
          · rw [hd] at HDg
            clear hd
            go_wp2_with fail
            refine (HLt.out _).mono ?_
            rintro e w1 ⟨rfl, rfl⟩
            go_wp2_with fail
            refine (HDg.out _).mono ?_
            rintro e w1 ⟨rfl, rfl⟩
            go_wp2_with fail
            go_ret
            rw [HF.out]
            exact ⟨rfl, rfl⟩
          · rw [hd] at HDg
            have hn1 : ((n : Int) == 0) = true := by simp; omega
            clear hd hn0
            go_wp2_with fail
            refine (HLt.out _).mono ?_
            rintro e w1 ⟨rfl, rfl⟩
            go_wp2_with fail
            refine (HDg.out _).mono ?_
            rintro e w1 ⟨rfl, rfl⟩
            go_wp2_with fail
            go_ret
            rw [HF.out]
            exact ⟨rfl, rfl⟩
set_option maxRecDepth 100000 in
set_option maxHeartbeats 1000000 in
theorem rfive_any (b : Nat) (v : Bool) (hv : mark b = v) (w : World) (hb : b < 256) :
    Calls Tryz.prog 49 #[.int .i64 (b : Int)] w fun e w' => e = .returned (.bool v) ∧ w' = w := by
  subst hv
  have h : ∀ n : Nat, ((b : Int) == (n : Int)) = (b == n) := fun n => beqN b n
  have h1 : ((b : Int) == 91) = (b == 91) := h 91
  have h2 : ((b : Int) == 93) = (b == 93) := h 93
  have h3 : ((b : Int) == 92) = (b == 92) := h 92
  have h4 : ((b : Int) == 45) = (b == 45) := h 45
  have h5 : ((b : Int) == 94) = (b == 94) := h 94
  clear h
  unfold mark
  cases k1 : b == 91 <;> rw [k1] at h1 <;> cases k2 : b == 93 <;> rw [k2] at h2 <;> cases k3 : b == 92 <;> rw [k3] at h3 <;> cases k4 : b == 45 <;> rw [k4] at h4 <;> cases k5 : b == 94 <;> rw [k5] at h5
  all_goals
    go_enter Tryz.func49, Tryz.ntmps49
    go_wp2_with fail
    go_ret
    exact ⟨rfl, rfl⟩
set_option maxRecDepth 100000 in
set_option maxHeartbeats 1000000 in
theorem rdigit_any (x : Nat) (hx : x < 256) (w : World) :
    Calls Tryz.prog 50 #[.int .u8 (x : Int)] w fun e w' => e = .returned (.int .i64 (dgi x)) ∧ w' = w := by
  have hc : (48 ≤ x ∧ x ≤ 57) ∨ (97 ≤ x ∧ x ≤ 102) ∨ x < 48 ∨ (57 < x ∧ x < 97) ∨ 102 < x := by omega
  rcases hc with h1 | h1 | h1 | h1 | h1
  · have hd : dgi x = (x : Int) - 48 := by rw [dgi_some (d := x - 48) (by unfold dgv; rw [if_pos h1])]; omega
    rw [hd]
    have a1 : decide (48 ≤ (x : Int)) = true := by simp; omega
    have a2 : decide ((x : Int) ≤ 57) = true := by simp; omega
    have a3 : IntKind.u8.wrap ((x : Int) - 48) = (x : Int) - 48 := by rw [IntKind.wrap_u8]; omega
    have a4 : IntKind.i64.wrap ((x : Int) - 48) = (x : Int) - 48 := by rw [IntKind.wrap_i64]; omega
    have b1 : (48 : Int) ≤ (x : Int) := by omega
    have b2 : (x : Int) ≤ 57 := by omega
    clear hd h1
    go_enter Tryz.func50, Tryz.ntmps50
    go_wp2_with fail
    go_ret
    exact ⟨rfl, rfl⟩
  · have hd : dgi x = (x : Int) - 97 + 10 := by rw [dgi_some (d := x - 87) (by unfold dgv; rw [if_neg (by omega), if_pos h1])]; omega
    rw [hd]
    have a1 : decide (48 ≤ (x : Int)) = true := by simp; omega
    have a2 : decide ((x : Int) ≤ 57) = false := by simp; omega
    have a5 : decide (97 ≤ (x : Int)) = true := by simp; omega
    have a6 : decide ((x : Int) ≤ 102) = true := by simp; omega
    have a3 : IntKind.u8.wrap ((x : Int) - 97) = (x : Int) - 97 := by rw [IntKind.wrap_u8]; omega
    have a4 : IntKind.i64.wrap ((x : Int) - 97) = (x : Int) - 97 := by rw [IntKind.wrap_i64]; omega
    have b1 : (97 : Int) ≤ (x : Int) := by omega
    have b2 : (x : Int) ≤ 102 := by omega
    clear hd h1
    go_enter Tryz.func50, Tryz.ntmps50
    go_wp2_with fail
    go_ret
    exact ⟨rfl, rfl⟩
  · rw [dgi_none (by unfold dgv; rw [if_neg (by omega), if_neg (by omega)])]
    have a1 : decide (48 ≤ (x : Int)) = false := by simp; omega
    have a2 : decide (97 ≤ (x : Int)) = false := by simp; omega
    clear h1
    go_enter Tryz.func50, Tryz.ntmps50
    go_wp2_with fail
    go_ret
    exact ⟨rfl, rfl⟩
  · rw [dgi_none (by unfold dgv; rw [if_neg (by omega), if_neg (by omega)])]
    have a1 : decide (48 ≤ (x : Int)) = true := by simp; omega
    have a3 : decide ((x : Int) ≤ 57) = false := by simp; omega
    have a2 : decide (97 ≤ (x : Int)) = false := by simp; omega
    clear h1
    go_enter Tryz.func50, Tryz.ntmps50
    go_wp2_with fail
    go_ret
    exact ⟨rfl, rfl⟩
  · rw [dgi_none (by unfold dgv; rw [if_neg (by omega), if_neg (by omega)])]
    have a1 : decide (48 ≤ (x : Int)) = true := by simp; omega
    have a3 : decide ((x : Int) ≤ 57) = false := by simp; omega
    have a2 : decide (97 ≤ (x : Int)) = true := by simp; omega
    have a4 : decide ((x : Int) ≤ 102) = false := by simp; omega
    clear h1
    go_enter Tryz.func50, Tryz.ntmps50
    go_wp2_with fail
    go_ret
    exact ⟨rfl, rfl⟩
/-- What a sign is handed back as. -/
def r3 (r : Rs) : Value :=
  match r with
  | .inr (b, n) => .tuple #[.int .i64 (b : Int), .int .i64 (n : Int), .int .i64 0]
  | .inl c => .tuple #[.int .i64 0, .int .i64 (c.2 : Int), .int .i64 (c.1 : Int)]
theorem flt_end {S : ByteArray} {k : Nat} (h : S.size ≤ k) : flt S k = (3, S.size) := by unfold flt; rw [if_pos h]
theorem flt_form {S : ByteArray} {k : Nat} (h : k < S.size) : flt S k = (4, k) := by unfold flt; rw [if_neg (by omega)]
set_option maxRecDepth 100000 in
set_option maxHeartbeats 2000000 in
theorem rsign_plain (S : ByteArray) (k : Nat) (w : World) (h : ¬ bt S k = some 92) (hS : S.size ≤ 9007199254740992) :
    Calls Tryz.prog 32 #[.string S, .int .i64 (k : Int)] w fun e w' => e = .returned (r3 (sg S k)) ∧ w' = w := by
  unfold sg
  cases hx0 : bt S k with
  | none =>
    have hge := bt_none hx0
    have a0 : decide ((S.size : Int) ≤ (k : Int)) = true := by simp; omega
    simp only
    rw [flt_end hge]
    clear h hx0
    go_enter Tryz.func32, Tryz.ntmps32
    go_wp2_with fail
    go_ret3
    exact ⟨rfl, rfl⟩
  | some x =>
    have hxl := (bt_lt hx0).2
    obtain ⟨hk, hx⟩ := bt_at hx0
    have hkI : (k : Int) < (S.size : Int) := by omega
    have a0 : decide ((S.size : Int) ≤ (k : Int)) = false := by simp; omega
    have h92 : x ≠ 92 := fun e => h (by rw [hx0, e])
    have n92 : ((x : Int) != 92) = true := by rw [bne_iff_ne]; omega
    have m92 : ((x : Int) == 92) = false := by rw [beq_eq_false_iff_ne]; omega
    have hwx : IntKind.i64.wrap (x : Int) = (x : Int) := by rw [IntKind.wrap_i64]; omega
    simp only
    rw [if_neg h92, flt_form hk]
    cases hm : mark x with
    | true =>
      have HM : Hid (∀ w : World, Calls Tryz.prog 49 #[.int .i64 (x : Int)] w fun e w' => e = .returned (.bool true) ∧ w' = w) := fun w => rfive_any x true hm w hxl
      rw [if_neg (by unfold plain; rw [hm]; simp)]
      clear h hx0 h92 hm
      go_enter Tryz.func32, Tryz.ntmps32
      go_wp2_with fail
      refine (HM.out _).mono ?_
      rintro e w1 ⟨rfl, rfl⟩
      go_wp2_with fail
      go_ret3
      exact ⟨rfl, rfl⟩
    | false =>
      have HM : Hid (∀ w : World, Calls Tryz.prog 49 #[.int .i64 (x : Int)] w fun e w' => e = .returned (.bool false) ∧ w' = w) := fun w => rfive_any x false hm w hxl
      by_cases h1 : x < 32
      · rw [if_neg (by unfold plain; rw [hm]; simp; omega)]
        have d1 : decide ((x : Int) < 32) = true := by simp; omega
        clear h hx0 h92 hm
        go_enter Tryz.func32, Tryz.ntmps32
        go_wp2_with fail
        refine (HM.out _).mono ?_
        rintro e w1 ⟨rfl, rfl⟩
        go_wp2_with fail
        go_ret3
        exact ⟨rfl, rfl⟩
      · have d1 : decide ((x : Int) < 32) = false := by simp; omega
        by_cases h2 : 126 < x
        · rw [if_neg (by unfold plain; rw [hm]; simp; omega)]
          have d2 : decide (126 < (x : Int)) = true := by simp; omega
          clear h hx0 h92 hm
          go_enter Tryz.func32, Tryz.ntmps32
          go_wp2_with fail
          refine (HM.out _).mono ?_
          rintro e w1 ⟨rfl, rfl⟩
          go_wp2_with fail
          go_ret3
          exact ⟨rfl, rfl⟩
        · rw [if_pos (by unfold plain; rw [hm]; simp; omega)]
          have d2 : decide (126 < (x : Int)) = false := by simp; omega
          have hn : ((k + 1 : Nat) : Int) = (k : Int) + 1 := by omega
          unfold r3
          simp only
          rw [hn]
          clear h hx0 h92 hm hn
          go_enter Tryz.func32, Tryz.ntmps32
          go_wp2_with fail
          refine (HM.out _).mono ?_
          rintro e w1 ⟨rfl, rfl⟩
          go_wp2_with fail
          go_ret3
          exact ⟨rfl, rfl⟩
theorem esc_val {S : ByteArray} {m x b : Nat} (h : bt S m = some x) (hv : escv x = some b) : esc S m = .inr (b, m + 1) := by unfold esc; rw [h]; simp only; rw [hv]
theorem esc_hex {S : ByteArray} {m : Nat} (h : bt S m = some 120) : esc S m = digs S (m + 1) := by
  have hm : mark 120 = false := rfl
  unfold esc; rw [h]; simp [escv, hm]
theorem esc_no {S : ByteArray} {m x : Nat} (h : bt S m = some x) (hv : escv x = none) (hx : x ≠ 120) : esc S m = .inl (4, m) := by unfold esc; rw [h]; simp only; rw [hv]; simp only; rw [if_neg hx, flt_form (bt_lt h).1]
theorem mark92 : mark 92 = true := rfl
set_option maxRecDepth 100000 in
set_option maxHeartbeats 2000000 in
theorem rsign_end (S : ByteArray) (k m : Nat) (w : World) (hm : m = k + 1) (h : bt S k = some 92) (hy : S.size ≤ m) (hS : S.size ≤ 9007199254740992) :
    Calls Tryz.prog 32 #[.string S, .int .i64 (k : Int)] w fun e w' => e = .returned (r3 (.inl (3, S.size))) ∧ w' = w := by
  obtain ⟨hk, hx⟩ := bt_at h
  have hkI : (k : Int) < (S.size : Int) := by omega
  have a0 : decide ((S.size : Int) ≤ (k : Int)) = false := by simp; omega
  have HM : Hid (∀ w : World, Calls Tryz.prog 49 #[.int .i64 92] w fun e w' => e = .returned (.bool true) ∧ w' = w) := fun w => rfive_any 92 true rfl w (by omega)
  have hmI : (k : Int) + 1 = (m : Int) := by omega
  have hm2 : (k : Int) + 2 = (m : Int) + 1 := by omega
  have a1 : decide ((S.size : Int) ≤ (m : Int)) = true := by simp; omega
  clear h hm hm2
  go_enter Tryz.func32, Tryz.ntmps32
  go_wp2_with fail
  refine (HM.out _).mono ?_
  rintro e w1 ⟨rfl, rfl⟩
  go_wp2_with fail
  go_ret3
  exact ⟨rfl, rfl⟩

set_option maxRecDepth 100000 in
set_option maxHeartbeats 2000000 in
theorem rsign_n (S : ByteArray) (k m : Nat) (w : World) (hm : m = k + 1) (h : bt S k = some 92) (y : Nat) (hyc : y = 110) (hy : bt S m = some y) (hS : S.size ≤ 9007199254740992) :
    Calls Tryz.prog 32 #[.string S, .int .i64 (k : Int)] w fun e w' => e = .returned (r3 (.inr (10, m + 1))) ∧ w' = w := by
  obtain ⟨hk, hx⟩ := bt_at h
  have hkI : (k : Int) < (S.size : Int) := by omega
  have a0 : decide ((S.size : Int) ≤ (k : Int)) = false := by simp; omega
  have HM : Hid (∀ w : World, Calls Tryz.prog 49 #[.int .i64 92] w fun e w' => e = .returned (.bool true) ∧ w' = w) := fun w => rfive_any 92 true rfl w (by omega)
  have hmI : (k : Int) + 1 = (m : Int) := by omega
  have hm2 : (k : Int) + 2 = (m : Int) + 1 := by omega
  have hyl := (bt_lt hy).2
  obtain ⟨hym, hyx⟩ := bt_at hy
  have hmk : (m : Int) < (S.size : Int) := by omega
  have a1 : decide ((S.size : Int) ≤ (m : Int)) = false := by simp; omega
  have hwy : IntKind.i64.wrap (y : Int) = (y : Int) := by rw [IntKind.wrap_i64]; omega
  have HY : Hid (∀ w : World, Calls Tryz.prog 49 #[.int .i64 (y : Int)] w fun e w' => e = .returned (.bool (mark y)) ∧ w' = w) := fun w => rfive_any y _ rfl w hyl
  have t110 : ((y : Int) == 110) = true := by simp; omega
  have hn : ((m + 1 : Nat) : Int) = (m : Int) + 1 := by omega
  unfold r3
  simp only
  rw [hn]
  generalize mark y = v at HY
  clear h hm hy hyc hn
  go_enter Tryz.func32, Tryz.ntmps32
  go_wp2_with fail
  refine (HM.out _).mono ?_
  rintro e w1 ⟨rfl, rfl⟩
  go_wp2_with fail
  refine (HY.out _).mono ?_
  rintro e w1 ⟨rfl, rfl⟩
  go_wp2_with fail
  go_ret3
  exact ⟨rfl, rfl⟩

set_option maxRecDepth 100000 in
set_option maxHeartbeats 2000000 in
theorem rsign_r (S : ByteArray) (k m : Nat) (w : World) (hm : m = k + 1) (h : bt S k = some 92) (y : Nat) (hyc : y = 114) (hy : bt S m = some y) (hS : S.size ≤ 9007199254740992) :
    Calls Tryz.prog 32 #[.string S, .int .i64 (k : Int)] w fun e w' => e = .returned (r3 (.inr (13, m + 1))) ∧ w' = w := by
  obtain ⟨hk, hx⟩ := bt_at h
  have hkI : (k : Int) < (S.size : Int) := by omega
  have a0 : decide ((S.size : Int) ≤ (k : Int)) = false := by simp; omega
  have HM : Hid (∀ w : World, Calls Tryz.prog 49 #[.int .i64 92] w fun e w' => e = .returned (.bool true) ∧ w' = w) := fun w => rfive_any 92 true rfl w (by omega)
  have hmI : (k : Int) + 1 = (m : Int) := by omega
  have hm2 : (k : Int) + 2 = (m : Int) + 1 := by omega
  have hyl := (bt_lt hy).2
  obtain ⟨hym, hyx⟩ := bt_at hy
  have hmk : (m : Int) < (S.size : Int) := by omega
  have a1 : decide ((S.size : Int) ≤ (m : Int)) = false := by simp; omega
  have hwy : IntKind.i64.wrap (y : Int) = (y : Int) := by rw [IntKind.wrap_i64]; omega
  have HY : Hid (∀ w : World, Calls Tryz.prog 49 #[.int .i64 (y : Int)] w fun e w' => e = .returned (.bool (mark y)) ∧ w' = w) := fun w => rfive_any y _ rfl w hyl
  have t110 : ((y : Int) == 110) = false := by simp; omega
  have t114 : ((y : Int) == 114) = true := by simp; omega
  have hn : ((m + 1 : Nat) : Int) = (m : Int) + 1 := by omega
  unfold r3
  simp only
  rw [hn]
  generalize mark y = v at HY
  clear h hm hy hyc hn
  go_enter Tryz.func32, Tryz.ntmps32
  go_wp2_with fail
  refine (HM.out _).mono ?_
  rintro e w1 ⟨rfl, rfl⟩
  go_wp2_with fail
  refine (HY.out _).mono ?_
  rintro e w1 ⟨rfl, rfl⟩
  go_wp2_with fail
  go_ret3
  exact ⟨rfl, rfl⟩

set_option maxRecDepth 100000 in
set_option maxHeartbeats 2000000 in
theorem rsign_t (S : ByteArray) (k m : Nat) (w : World) (hm : m = k + 1) (h : bt S k = some 92) (y : Nat) (hyc : y = 116) (hy : bt S m = some y) (hS : S.size ≤ 9007199254740992) :
    Calls Tryz.prog 32 #[.string S, .int .i64 (k : Int)] w fun e w' => e = .returned (r3 (.inr (9, m + 1))) ∧ w' = w := by
  obtain ⟨hk, hx⟩ := bt_at h
  have hkI : (k : Int) < (S.size : Int) := by omega
  have a0 : decide ((S.size : Int) ≤ (k : Int)) = false := by simp; omega
  have HM : Hid (∀ w : World, Calls Tryz.prog 49 #[.int .i64 92] w fun e w' => e = .returned (.bool true) ∧ w' = w) := fun w => rfive_any 92 true rfl w (by omega)
  have hmI : (k : Int) + 1 = (m : Int) := by omega
  have hm2 : (k : Int) + 2 = (m : Int) + 1 := by omega
  have hyl := (bt_lt hy).2
  obtain ⟨hym, hyx⟩ := bt_at hy
  have hmk : (m : Int) < (S.size : Int) := by omega
  have a1 : decide ((S.size : Int) ≤ (m : Int)) = false := by simp; omega
  have hwy : IntKind.i64.wrap (y : Int) = (y : Int) := by rw [IntKind.wrap_i64]; omega
  have HY : Hid (∀ w : World, Calls Tryz.prog 49 #[.int .i64 (y : Int)] w fun e w' => e = .returned (.bool (mark y)) ∧ w' = w) := fun w => rfive_any y _ rfl w hyl
  have t110 : ((y : Int) == 110) = false := by simp; omega
  have t114 : ((y : Int) == 114) = false := by simp; omega
  have t116 : ((y : Int) == 116) = true := by simp; omega
  have hn : ((m + 1 : Nat) : Int) = (m : Int) + 1 := by omega
  unfold r3
  simp only
  rw [hn]
  generalize mark y = v at HY
  clear h hm hy hyc hn
  go_enter Tryz.func32, Tryz.ntmps32
  go_wp2_with fail
  refine (HM.out _).mono ?_
  rintro e w1 ⟨rfl, rfl⟩
  go_wp2_with fail
  refine (HY.out _).mono ?_
  rintro e w1 ⟨rfl, rfl⟩
  go_wp2_with fail
  go_ret3
  exact ⟨rfl, rfl⟩

set_option maxRecDepth 100000 in
set_option maxHeartbeats 2000000 in
theorem rsign_m (S : ByteArray) (k m : Nat) (w : World) (hm : m = k + 1) (h : bt S k = some 92) (y : Nat) (hyc : mark y = true) (hy : bt S m = some y) (hS : S.size ≤ 9007199254740992) :
    Calls Tryz.prog 32 #[.string S, .int .i64 (k : Int)] w fun e w' => e = .returned (r3 (.inr (y, m + 1))) ∧ w' = w := by
  obtain ⟨hk, hx⟩ := bt_at h
  have hkI : (k : Int) < (S.size : Int) := by omega
  have a0 : decide ((S.size : Int) ≤ (k : Int)) = false := by simp; omega
  have HM : Hid (∀ w : World, Calls Tryz.prog 49 #[.int .i64 92] w fun e w' => e = .returned (.bool true) ∧ w' = w) := fun w => rfive_any 92 true rfl w (by omega)
  have hmI : (k : Int) + 1 = (m : Int) := by omega
  have hm2 : (k : Int) + 2 = (m : Int) + 1 := by omega
  have hyl := (bt_lt hy).2
  obtain ⟨hym, hyx⟩ := bt_at hy
  have hmk : (m : Int) < (S.size : Int) := by omega
  have a1 : decide ((S.size : Int) ≤ (m : Int)) = false := by simp; omega
  have hwy : IntKind.i64.wrap (y : Int) = (y : Int) := by rw [IntKind.wrap_i64]; omega
  have HY : Hid (∀ w : World, Calls Tryz.prog 49 #[.int .i64 (y : Int)] w fun e w' => e = .returned (.bool (mark y)) ∧ w' = w) := fun w => rfive_any y _ rfl w hyl
  have hne : y ≠ 110 ∧ y ≠ 114 ∧ y ≠ 116 := by
    have h2 := hyc
    unfold mark at h2
    simp at h2
    omega
  have t110 : ((y : Int) == 110) = false := by simp; omega
  have t114 : ((y : Int) == 114) = false := by simp; omega
  have t116 : ((y : Int) == 116) = false := by simp; omega
  have hn : ((m + 1 : Nat) : Int) = (m : Int) + 1 := by omega
  unfold r3
  simp only
  rw [hn]
  rw [hyc] at HY
  clear h hm hy hyc hn hne
  go_enter Tryz.func32, Tryz.ntmps32
  go_wp2_with fail
  refine (HM.out _).mono ?_
  rintro e w1 ⟨rfl, rfl⟩
  go_wp2_with fail
  refine (HY.out _).mono ?_
  rintro e w1 ⟨rfl, rfl⟩
  go_wp2_with fail
  go_ret3
  exact ⟨rfl, rfl⟩

set_option maxRecDepth 100000 in
set_option maxHeartbeats 2000000 in
theorem rsign_no (S : ByteArray) (k m : Nat) (w : World) (hm : m = k + 1) (h : bt S k = some 92) (y : Nat) (hyc : mark y = false) (hy1 : y ≠ 110 ∧ y ≠ 114 ∧ y ≠ 116) (hy2 : y ≠ 120) (hy : bt S m = some y) (hS : S.size ≤ 9007199254740992) :
    Calls Tryz.prog 32 #[.string S, .int .i64 (k : Int)] w fun e w' => e = .returned (r3 (.inl (4, m))) ∧ w' = w := by
  obtain ⟨hk, hx⟩ := bt_at h
  have hkI : (k : Int) < (S.size : Int) := by omega
  have a0 : decide ((S.size : Int) ≤ (k : Int)) = false := by simp; omega
  have HM : Hid (∀ w : World, Calls Tryz.prog 49 #[.int .i64 92] w fun e w' => e = .returned (.bool true) ∧ w' = w) := fun w => rfive_any 92 true rfl w (by omega)
  have hmI : (k : Int) + 1 = (m : Int) := by omega
  have hm2 : (k : Int) + 2 = (m : Int) + 1 := by omega
  have hyl := (bt_lt hy).2
  obtain ⟨hym, hyx⟩ := bt_at hy
  have hmk : (m : Int) < (S.size : Int) := by omega
  have a1 : decide ((S.size : Int) ≤ (m : Int)) = false := by simp; omega
  have hwy : IntKind.i64.wrap (y : Int) = (y : Int) := by rw [IntKind.wrap_i64]; omega
  have HY : Hid (∀ w : World, Calls Tryz.prog 49 #[.int .i64 (y : Int)] w fun e w' => e = .returned (.bool (mark y)) ∧ w' = w) := fun w => rfive_any y _ rfl w hyl
  have t110 : ((y : Int) == 110) = false := by simp; omega
  have t114 : ((y : Int) == 114) = false := by simp; omega
  have t116 : ((y : Int) == 116) = false := by simp; omega
  have t120 : ((y : Int) == 120) = false := by simp; omega
  have t120' : ((y : Int) != 120) = true := by rw [bne_iff_ne]; omega
  rw [hyc] at HY
  clear h hm hy hyc hy1 hy2 hm2
  go_enter Tryz.func32, Tryz.ntmps32
  go_wp2_with fail
  refine (HM.out _).mono ?_
  rintro e w1 ⟨rfl, rfl⟩
  go_wp2_with fail
  refine (HY.out _).mono ?_
  rintro e w1 ⟨rfl, rfl⟩
  go_wp2_with fail
  go_ret3
  exact ⟨rfl, rfl⟩

theorem at_move {S : ByteArray} {a b x : Nat} (h : bt S a = some x) (e : b = a) : bt S b = some x := by rw [e]; exact h
set_option maxRecDepth 100000 in
set_option maxHeartbeats 2000000 in
theorem rsign_x1e (S : ByteArray) (k m : Nat) (w : World) (hm : m = k + 1) (h : bt S k = some 92) (y : Nat) (hy0 : y = 120) (hy : bt S m = some y) (h1 : S.size ≤ m + 1) (hS : S.size ≤ 9007199254740992) :
    Calls Tryz.prog 32 #[.string S, .int .i64 (k : Int)] w fun e w' => e = .returned (r3 (.inl (3, S.size))) ∧ w' = w := by
  obtain ⟨hk, hx⟩ := bt_at h
  have hkI : (k : Int) < (S.size : Int) := by omega
  have a0 : decide ((S.size : Int) ≤ (k : Int)) = false := by simp; omega
  have HM : Hid (∀ w : World, Calls Tryz.prog 49 #[.int .i64 92] w fun e w' => e = .returned (.bool true) ∧ w' = w) := fun w => rfive_any 92 true rfl w (by omega)
  have hmI : (k : Int) + 1 = (m : Int) := by omega
  have hm2 : (k : Int) + 2 = (m : Int) + 1 := by omega
  have hyl := (bt_lt hy).2
  obtain ⟨hym, hyx⟩ := bt_at hy
  have hmk : (m : Int) < (S.size : Int) := by omega
  have a1 : decide ((S.size : Int) ≤ (m : Int)) = false := by simp; omega
  have hwy : IntKind.i64.wrap (y : Int) = (y : Int) := by rw [IntKind.wrap_i64]; omega
  have HY : Hid (∀ w : World, Calls Tryz.prog 49 #[.int .i64 (y : Int)] w fun e w' => e = .returned (.bool (mark y)) ∧ w' = w) := fun w => rfive_any y _ rfl w hyl
  have hyc : mark y = false := by rw [hy0]; rfl
  have t110 : ((y : Int) == 110) = false := by simp; omega
  have t114 : ((y : Int) == 114) = false := by simp; omega
  have t116 : ((y : Int) == 116) = false := by simp; omega
  have t120 : ((y : Int) == 120) = true := by simp; omega
  have t120' : ((y : Int) != 120) = false := by simp; omega
  rw [hyc] at HY
  obtain ⟨i, hi⟩ : ∃ i, i = m + 1 := ⟨_, rfl⟩
  obtain ⟨j, hj⟩ : ∃ j, j = m + 2 := ⟨_, rfl⟩
  have hi2 : (k : Int) + 2 = (i : Int) := by omega
  have hi4 : (k : Int) + 4 = (i : Int) + 2 := by omega
  have hij : (i : Int) + 1 = (j : Int) := by omega
  have hj1 : (j : Int) + 1 = (i : Int) + 2 := by omega
  have l1 : decide ((i : Int) < (i : Int) + 2) = true := by simp; omega
  have l2 : decide ((j : Int) < (i : Int) + 2) = true := by simp; omega
  have l3 : decide ((i : Int) + 2 < (i : Int) + 2) = false := by simp
  have e1 : decide ((S.size : Int) ≤ (i : Int)) = true := by simp; omega
  have e1' : S.size ≤ i := by omega
  clear h hm hy hyc hy0 hm2 hi hj
  go_enter Tryz.func32, Tryz.ntmps32
  go_wp2_with fail
  refine (HM.out _).mono ?_
  rintro e w1 ⟨rfl, rfl⟩
  go_wp2_with fail
  refine (HY.out _).mono ?_
  rintro e w1 ⟨rfl, rfl⟩
  go_wp2_with fail
  refine wp_loop_rounds 1 ?_
  rw [rounds_succ]
  go_wp2_with fail
  go_ret3
  exact ⟨rfl, rfl⟩

set_option maxRecDepth 100000 in
set_option maxHeartbeats 2000000 in
theorem rsign_x1n (S : ByteArray) (k m : Nat) (w : World) (hm : m = k + 1) (h : bt S k = some 92) (y : Nat) (hy0 : y = 120) (hy : bt S m = some y) (x1 : Nat) (h1 : bt S (m + 1) = some x1) (hd1 : dgv x1 = none) (hS : S.size ≤ 9007199254740992) :
    Calls Tryz.prog 32 #[.string S, .int .i64 (k : Int)] w fun e w' => e = .returned (r3 (.inl (4, m + 1))) ∧ w' = w := by
  obtain ⟨hk, hx⟩ := bt_at h
  have hkI : (k : Int) < (S.size : Int) := by omega
  have a0 : decide ((S.size : Int) ≤ (k : Int)) = false := by simp; omega
  have HM : Hid (∀ w : World, Calls Tryz.prog 49 #[.int .i64 92] w fun e w' => e = .returned (.bool true) ∧ w' = w) := fun w => rfive_any 92 true rfl w (by omega)
  have hmI : (k : Int) + 1 = (m : Int) := by omega
  have hm2 : (k : Int) + 2 = (m : Int) + 1 := by omega
  have hyl := (bt_lt hy).2
  obtain ⟨hym, hyx⟩ := bt_at hy
  have hmk : (m : Int) < (S.size : Int) := by omega
  have a1 : decide ((S.size : Int) ≤ (m : Int)) = false := by simp; omega
  have hwy : IntKind.i64.wrap (y : Int) = (y : Int) := by rw [IntKind.wrap_i64]; omega
  have HY : Hid (∀ w : World, Calls Tryz.prog 49 #[.int .i64 (y : Int)] w fun e w' => e = .returned (.bool (mark y)) ∧ w' = w) := fun w => rfive_any y _ rfl w hyl
  have hyc : mark y = false := by rw [hy0]; rfl
  have t110 : ((y : Int) == 110) = false := by simp; omega
  have t114 : ((y : Int) == 114) = false := by simp; omega
  have t116 : ((y : Int) == 116) = false := by simp; omega
  have t120 : ((y : Int) == 120) = true := by simp; omega
  have t120' : ((y : Int) != 120) = false := by simp; omega
  rw [hyc] at HY
  obtain ⟨i, hi⟩ : ∃ i, i = m + 1 := ⟨_, rfl⟩
  obtain ⟨j, hj⟩ : ∃ j, j = m + 2 := ⟨_, rfl⟩
  have hi2 : (k : Int) + 2 = (i : Int) := by omega
  have hi4 : (k : Int) + 4 = (i : Int) + 2 := by omega
  have hij : (i : Int) + 1 = (j : Int) := by omega
  have hj1 : (j : Int) + 1 = (i : Int) + 2 := by omega
  have l1 : decide ((i : Int) < (i : Int) + 2) = true := by simp; omega
  have l2 : decide ((j : Int) < (i : Int) + 2) = true := by simp; omega
  have l3 : decide ((i : Int) + 2 < (i : Int) + 2) = false := by simp
  have hp := at_move h1 hi
  have pl := (bt_lt hp).2
  obtain ⟨pk, px⟩ := bt_at hp
  have pkI : (i : Int) < (S.size : Int) := by omega
  have pd : decide ((S.size : Int) ≤ (i : Int)) = false := by simp; omega
  have HD1 : Hid (∀ w : World, Calls Tryz.prog 50 #[.int .u8 (x1 : Int)] w fun e w' => e = .returned (.int .i64 (-1)) ∧ w' = w) := fun w => by have := rdigit_any x1 pl w; rw [dgi_none hd1] at this; exact this
  unfold r3
  simp only
  rw [← hi]
  clear hp h1 hd1
  clear h hm hy hyc hy0 hm2 hi hj
  go_enter Tryz.func32, Tryz.ntmps32
  go_wp2_with fail
  refine (HM.out _).mono ?_
  rintro e w1 ⟨rfl, rfl⟩
  go_wp2_with fail
  refine (HY.out _).mono ?_
  rintro e w1 ⟨rfl, rfl⟩
  go_wp2_with fail
  refine wp_loop_rounds 1 ?_
  rw [rounds_succ]
  go_wp2_with fail
  refine (HD1.out _).mono ?_
  rintro e w1 ⟨rfl, rfl⟩
  go_wp2_with fail
  go_ret3
  exact ⟨rfl, rfl⟩

set_option maxRecDepth 100000 in
set_option maxHeartbeats 2000000 in
theorem rsign_x2e (S : ByteArray) (k m : Nat) (w : World) (hm : m = k + 1) (h : bt S k = some 92) (y : Nat) (hy0 : y = 120) (hy : bt S m = some y) (x1 q : Nat) (h1 : bt S (m + 1) = some x1) (hd1 : dgv x1 = some q) (h2 : S.size ≤ m + 2) (hS : S.size ≤ 9007199254740992) :
    Calls Tryz.prog 32 #[.string S, .int .i64 (k : Int)] w fun e w' => e = .returned (r3 (.inl (3, S.size))) ∧ w' = w := by
  obtain ⟨hk, hx⟩ := bt_at h
  have hkI : (k : Int) < (S.size : Int) := by omega
  have a0 : decide ((S.size : Int) ≤ (k : Int)) = false := by simp; omega
  have HM : Hid (∀ w : World, Calls Tryz.prog 49 #[.int .i64 92] w fun e w' => e = .returned (.bool true) ∧ w' = w) := fun w => rfive_any 92 true rfl w (by omega)
  have hmI : (k : Int) + 1 = (m : Int) := by omega
  have hm2 : (k : Int) + 2 = (m : Int) + 1 := by omega
  have hyl := (bt_lt hy).2
  obtain ⟨hym, hyx⟩ := bt_at hy
  have hmk : (m : Int) < (S.size : Int) := by omega
  have a1 : decide ((S.size : Int) ≤ (m : Int)) = false := by simp; omega
  have hwy : IntKind.i64.wrap (y : Int) = (y : Int) := by rw [IntKind.wrap_i64]; omega
  have HY : Hid (∀ w : World, Calls Tryz.prog 49 #[.int .i64 (y : Int)] w fun e w' => e = .returned (.bool (mark y)) ∧ w' = w) := fun w => rfive_any y _ rfl w hyl
  have hyc : mark y = false := by rw [hy0]; rfl
  have t110 : ((y : Int) == 110) = false := by simp; omega
  have t114 : ((y : Int) == 114) = false := by simp; omega
  have t116 : ((y : Int) == 116) = false := by simp; omega
  have t120 : ((y : Int) == 120) = true := by simp; omega
  have t120' : ((y : Int) != 120) = false := by simp; omega
  rw [hyc] at HY
  obtain ⟨i, hi⟩ : ∃ i, i = m + 1 := ⟨_, rfl⟩
  obtain ⟨j, hj⟩ : ∃ j, j = m + 2 := ⟨_, rfl⟩
  have hi2 : (k : Int) + 2 = (i : Int) := by omega
  have hi4 : (k : Int) + 4 = (i : Int) + 2 := by omega
  have hij : (i : Int) + 1 = (j : Int) := by omega
  have hj1 : (j : Int) + 1 = (i : Int) + 2 := by omega
  have l1 : decide ((i : Int) < (i : Int) + 2) = true := by simp; omega
  have l2 : decide ((j : Int) < (i : Int) + 2) = true := by simp; omega
  have l3 : decide ((i : Int) + 2 < (i : Int) + 2) = false := by simp
  have hp := at_move h1 hi
  have pl := (bt_lt hp).2
  obtain ⟨pk, px⟩ := bt_at hp
  have pkI : (i : Int) < (S.size : Int) := by omega
  have pd : decide ((S.size : Int) ≤ (i : Int)) = false := by simp; omega
  have HD1 : Hid (∀ w : World, Calls Tryz.prog 50 #[.int .u8 (x1 : Int)] w fun e w' => e = .returned (.int .i64 (q : Int)) ∧ w' = w) := fun w => by have := rdigit_any x1 pl w; rw [dgi_some hd1] at this; exact this
  have hq := (dgv_lt hd1).1
  have hq0 : decide ((q : Int) < 0) = false := by simp
  have hqI : (q : Int) ≤ 15 := by omega
  have e1 : decide ((S.size : Int) ≤ (j : Int)) = true := by simp; omega
  have e1' : S.size ≤ j := by omega
  clear hp h1 hd1
  clear h hm hy hyc hy0 hm2 hi hj
  go_enter Tryz.func32, Tryz.ntmps32
  go_wp2_with fail
  refine (HM.out _).mono ?_
  rintro e w1 ⟨rfl, rfl⟩
  go_wp2_with fail
  refine (HY.out _).mono ?_
  rintro e w1 ⟨rfl, rfl⟩
  go_wp2_with fail
  refine wp_loop_rounds 2 ?_
  rw [rounds_succ]
  go_wp2_with fail
  refine (HD1.out _).mono ?_
  rintro e w1 ⟨rfl, rfl⟩
  go_wp2_with fail
  rw [rounds_succ]
  go_wp2_with fail
  go_ret3
  exact ⟨rfl, rfl⟩

set_option maxRecDepth 100000 in
set_option maxHeartbeats 2000000 in
theorem rsign_x2n (S : ByteArray) (k m : Nat) (w : World) (hm : m = k + 1) (h : bt S k = some 92) (y : Nat) (hy0 : y = 120) (hy : bt S m = some y) (x1 q x2 : Nat) (h1 : bt S (m + 1) = some x1) (hd1 : dgv x1 = some q) (h2 : bt S (m + 2) = some x2) (hd2 : dgv x2 = none) (hS : S.size ≤ 9007199254740992) :
    Calls Tryz.prog 32 #[.string S, .int .i64 (k : Int)] w fun e w' => e = .returned (r3 (.inl (4, m + 2))) ∧ w' = w := by
  obtain ⟨hk, hx⟩ := bt_at h
  have hkI : (k : Int) < (S.size : Int) := by omega
  have a0 : decide ((S.size : Int) ≤ (k : Int)) = false := by simp; omega
  have HM : Hid (∀ w : World, Calls Tryz.prog 49 #[.int .i64 92] w fun e w' => e = .returned (.bool true) ∧ w' = w) := fun w => rfive_any 92 true rfl w (by omega)
  have hmI : (k : Int) + 1 = (m : Int) := by omega
  have hm2 : (k : Int) + 2 = (m : Int) + 1 := by omega
  have hyl := (bt_lt hy).2
  obtain ⟨hym, hyx⟩ := bt_at hy
  have hmk : (m : Int) < (S.size : Int) := by omega
  have a1 : decide ((S.size : Int) ≤ (m : Int)) = false := by simp; omega
  have hwy : IntKind.i64.wrap (y : Int) = (y : Int) := by rw [IntKind.wrap_i64]; omega
  have HY : Hid (∀ w : World, Calls Tryz.prog 49 #[.int .i64 (y : Int)] w fun e w' => e = .returned (.bool (mark y)) ∧ w' = w) := fun w => rfive_any y _ rfl w hyl
  have hyc : mark y = false := by rw [hy0]; rfl
  have t110 : ((y : Int) == 110) = false := by simp; omega
  have t114 : ((y : Int) == 114) = false := by simp; omega
  have t116 : ((y : Int) == 116) = false := by simp; omega
  have t120 : ((y : Int) == 120) = true := by simp; omega
  have t120' : ((y : Int) != 120) = false := by simp; omega
  rw [hyc] at HY
  obtain ⟨i, hi⟩ : ∃ i, i = m + 1 := ⟨_, rfl⟩
  obtain ⟨j, hj⟩ : ∃ j, j = m + 2 := ⟨_, rfl⟩
  have hi2 : (k : Int) + 2 = (i : Int) := by omega
  have hi4 : (k : Int) + 4 = (i : Int) + 2 := by omega
  have hij : (i : Int) + 1 = (j : Int) := by omega
  have hj1 : (j : Int) + 1 = (i : Int) + 2 := by omega
  have l1 : decide ((i : Int) < (i : Int) + 2) = true := by simp; omega
  have l2 : decide ((j : Int) < (i : Int) + 2) = true := by simp; omega
  have l3 : decide ((i : Int) + 2 < (i : Int) + 2) = false := by simp
  have hp := at_move h1 hi
  have pl := (bt_lt hp).2
  obtain ⟨pk, px⟩ := bt_at hp
  have pkI : (i : Int) < (S.size : Int) := by omega
  have pd : decide ((S.size : Int) ≤ (i : Int)) = false := by simp; omega
  have HD1 : Hid (∀ w : World, Calls Tryz.prog 50 #[.int .u8 (x1 : Int)] w fun e w' => e = .returned (.int .i64 (q : Int)) ∧ w' = w) := fun w => by have := rdigit_any x1 pl w; rw [dgi_some hd1] at this; exact this
  have hq := (dgv_lt hd1).1
  have hq0 : decide ((q : Int) < 0) = false := by simp
  have hqI : (q : Int) ≤ 15 := by omega
  have hs := at_move h2 hj
  have sl := (bt_lt hs).2
  obtain ⟨sk, sx⟩ := bt_at hs
  have skI : (j : Int) < (S.size : Int) := by omega
  have sd : decide ((S.size : Int) ≤ (j : Int)) = false := by simp; omega
  have HD2 : Hid (∀ w : World, Calls Tryz.prog 50 #[.int .u8 (x2 : Int)] w fun e w' => e = .returned (.int .i64 (-1)) ∧ w' = w) := fun w => by have := rdigit_any x2 sl w; rw [dgi_none hd2] at this; exact this
  unfold r3
  simp only
  rw [← hj]
  clear hp h1 hd1 hs h2 hd2
  clear h hm hy hyc hy0 hm2 hi hj
  go_enter Tryz.func32, Tryz.ntmps32
  go_wp2_with fail
  refine (HM.out _).mono ?_
  rintro e w1 ⟨rfl, rfl⟩
  go_wp2_with fail
  refine (HY.out _).mono ?_
  rintro e w1 ⟨rfl, rfl⟩
  go_wp2_with fail
  refine wp_loop_rounds 2 ?_
  rw [rounds_succ]
  go_wp2_with fail
  refine (HD1.out _).mono ?_
  rintro e w1 ⟨rfl, rfl⟩
  go_wp2_with fail
  rw [rounds_succ]
  go_wp2_with fail
  refine (HD2.out _).mono ?_
  rintro e w1 ⟨rfl, rfl⟩
  go_wp2_with fail
  go_ret3
  exact ⟨rfl, rfl⟩

set_option maxRecDepth 100000 in
set_option maxHeartbeats 2000000 in
theorem rsign_x2y (S : ByteArray) (k m : Nat) (w : World) (hm : m = k + 1) (h : bt S k = some 92) (y : Nat) (hy0 : y = 120) (hy : bt S m = some y) (x1 q x2 r : Nat) (h1 : bt S (m + 1) = some x1) (hd1 : dgv x1 = some q) (h2 : bt S (m + 2) = some x2) (hd2 : dgv x2 = some r) (hS : S.size ≤ 9007199254740992) :
    Calls Tryz.prog 32 #[.string S, .int .i64 (k : Int)] w fun e w' => e = .returned (r3 (.inr (16 * q + r, m + 3))) ∧ w' = w := by
  obtain ⟨hk, hx⟩ := bt_at h
  have hkI : (k : Int) < (S.size : Int) := by omega
  have a0 : decide ((S.size : Int) ≤ (k : Int)) = false := by simp; omega
  have HM : Hid (∀ w : World, Calls Tryz.prog 49 #[.int .i64 92] w fun e w' => e = .returned (.bool true) ∧ w' = w) := fun w => rfive_any 92 true rfl w (by omega)
  have hmI : (k : Int) + 1 = (m : Int) := by omega
  have hm2 : (k : Int) + 2 = (m : Int) + 1 := by omega
  have hyl := (bt_lt hy).2
  obtain ⟨hym, hyx⟩ := bt_at hy
  have hmk : (m : Int) < (S.size : Int) := by omega
  have a1 : decide ((S.size : Int) ≤ (m : Int)) = false := by simp; omega
  have hwy : IntKind.i64.wrap (y : Int) = (y : Int) := by rw [IntKind.wrap_i64]; omega
  have HY : Hid (∀ w : World, Calls Tryz.prog 49 #[.int .i64 (y : Int)] w fun e w' => e = .returned (.bool (mark y)) ∧ w' = w) := fun w => rfive_any y _ rfl w hyl
  have hyc : mark y = false := by rw [hy0]; rfl
  have t110 : ((y : Int) == 110) = false := by simp; omega
  have t114 : ((y : Int) == 114) = false := by simp; omega
  have t116 : ((y : Int) == 116) = false := by simp; omega
  have t120 : ((y : Int) == 120) = true := by simp; omega
  have t120' : ((y : Int) != 120) = false := by simp; omega
  rw [hyc] at HY
  obtain ⟨i, hi⟩ : ∃ i, i = m + 1 := ⟨_, rfl⟩
  obtain ⟨j, hj⟩ : ∃ j, j = m + 2 := ⟨_, rfl⟩
  have hi2 : (k : Int) + 2 = (i : Int) := by omega
  have hi4 : (k : Int) + 4 = (i : Int) + 2 := by omega
  have hij : (i : Int) + 1 = (j : Int) := by omega
  have hj1 : (j : Int) + 1 = (i : Int) + 2 := by omega
  have l1 : decide ((i : Int) < (i : Int) + 2) = true := by simp; omega
  have l2 : decide ((j : Int) < (i : Int) + 2) = true := by simp; omega
  have l3 : decide ((i : Int) + 2 < (i : Int) + 2) = false := by simp
  have hp := at_move h1 hi
  have pl := (bt_lt hp).2
  obtain ⟨pk, px⟩ := bt_at hp
  have pkI : (i : Int) < (S.size : Int) := by omega
  have pd : decide ((S.size : Int) ≤ (i : Int)) = false := by simp; omega
  have HD1 : Hid (∀ w : World, Calls Tryz.prog 50 #[.int .u8 (x1 : Int)] w fun e w' => e = .returned (.int .i64 (q : Int)) ∧ w' = w) := fun w => by have := rdigit_any x1 pl w; rw [dgi_some hd1] at this; exact this
  have hq := (dgv_lt hd1).1
  have hq0 : decide ((q : Int) < 0) = false := by simp
  have hqI : (q : Int) ≤ 15 := by omega
  have hs := at_move h2 hj
  have sl := (bt_lt hs).2
  obtain ⟨sk, sx⟩ := bt_at hs
  have skI : (j : Int) < (S.size : Int) := by omega
  have sd : decide ((S.size : Int) ≤ (j : Int)) = false := by simp; omega
  have HD2 : Hid (∀ w : World, Calls Tryz.prog 50 #[.int .u8 (x2 : Int)] w fun e w' => e = .returned (.int .i64 (r : Int)) ∧ w' = w) := fun w => by have := rdigit_any x2 sl w; rw [dgi_some hd2] at this; exact this
  have hr := (dgv_lt hd2).1
  have hr0 : decide ((r : Int) < 0) = false := by simp
  have hrI : (r : Int) ≤ 15 := by omega
  have hn : ((m + 3 : Nat) : Int) = (i : Int) + 2 := by omega
  have hv : ((16 * q + r : Nat) : Int) = 16 * (q : Int) + (r : Int) := by omega
  unfold r3
  simp only
  rw [hn, hv]
  clear hp h1 hd1 hs h2 hd2 hn hv
  clear h hm hy hyc hy0 hm2 hi hj
  go_enter Tryz.func32, Tryz.ntmps32
  go_wp2_with fail
  refine (HM.out _).mono ?_
  rintro e w1 ⟨rfl, rfl⟩
  go_wp2_with fail
  refine (HY.out _).mono ?_
  rintro e w1 ⟨rfl, rfl⟩
  go_wp2_with fail
  refine wp_loop_rounds 3 ?_
  rw [rounds_succ]
  go_wp2_with fail
  refine (HD1.out _).mono ?_
  rintro e w1 ⟨rfl, rfl⟩
  go_wp2_with fail
  rw [rounds_succ]
  go_wp2_with fail
  refine (HD2.out _).mono ?_
  rintro e w1 ⟨rfl, rfl⟩
  go_wp2_with fail
  rw [rounds_succ]
  go_wp2_with fail
  go_ret3
  exact ⟨rfl, rfl⟩

/-- The document's own sign at any text. -/
theorem rsign_any (S : ByteArray) (k : Nat) (w : World) (hS : S.size ≤ 9007199254740992) :
    Calls Tryz.prog 32 #[.string S, .int .i64 (k : Int)] w fun e w' => e = .returned (r3 (sg S k)) ∧ w' = w := by
  by_cases h : bt S k = some 92
  · have hsg : sg S k = esc S (k + 1) := by unfold sg; rw [h]; simp
    rw [hsg]
    cases hy : bt S (k + 1) with
    | none =>
      have : esc S (k + 1) = .inl (3, S.size) := by unfold esc; rw [hy]; simp only; rw [flt_end (bt_none hy)]
      rw [this]
      exact rsign_end S k (k + 1) w rfl h (bt_none hy) hS
    | some y =>
      cases hv : escv y with
      | some b =>
        rw [esc_val hy hv]
        unfold escv at hv
        by_cases h1 : y = 110
        · rw [if_pos h1] at hv; simp at hv; subst hv; exact rsign_n S k (k + 1) w rfl h y h1 hy hS
        · rw [if_neg h1] at hv
          by_cases h2 : y = 114
          · rw [if_pos h2] at hv; simp at hv; subst hv; exact rsign_r S k (k + 1) w rfl h y h2 hy hS
          · rw [if_neg h2] at hv
            by_cases h3 : y = 116
            · rw [if_pos h3] at hv; simp at hv; subst hv; exact rsign_t S k (k + 1) w rfl h y h3 hy hS
            · rw [if_neg h3] at hv
              cases hm : mark y with
              | false => rw [hm] at hv; simp at hv
              | true => rw [hm] at hv; simp at hv; subst hv; exact rsign_m S k (k + 1) w rfl h y hm hy hS
      | none =>
        have hv' := hv
        unfold escv at hv'
        have h1 : y ≠ 110 := fun e => by rw [if_pos e] at hv'; cases hv'
        rw [if_neg h1] at hv'
        have h2 : y ≠ 114 := fun e => by rw [if_pos e] at hv'; cases hv'
        rw [if_neg h2] at hv'
        have h3 : y ≠ 116 := fun e => by rw [if_pos e] at hv'; cases hv'
        rw [if_neg h3] at hv'
        have hmk : mark y = false := by cases hm : mark y with | false => rfl | true => rw [hm] at hv'; simp at hv'
        by_cases h4 : y = 120
        · subst h4
          rw [esc_hex hy]
          have hdg : ∀ i, dg S i = (bt S i).bind dgv := fun i => rfl
          cases hb1 : bt S (k + 1 + 1) with
          | none =>
            have : digs S (k + 1 + 1) = .inl (3, S.size) := by unfold digs; rw [hdg, hb1]; simp only [Option.bind_none]; rw [flt_end (bt_none hb1)]
            rw [this]
            exact rsign_x1e S k (k + 1) w rfl h 120 rfl hy (bt_none hb1) hS
          | some x1 =>
            cases hd1 : dgv x1 with
            | none =>
              have : digs S (k + 1 + 1) = .inl (4, k + 1 + 1) := by unfold digs; rw [hdg, hb1]; simp only [Option.bind_some, hd1]; rw [flt_form (bt_lt hb1).1]
              rw [this]
              exact rsign_x1n S k (k + 1) w rfl h 120 rfl hy x1 hb1 hd1 hS
            | some q =>
              cases hb2 : bt S (k + 1 + 2) with
              | none =>
                have : digs S (k + 1 + 1) = .inl (3, S.size) := by unfold digs; rw [hdg, hb1]; simp only [Option.bind_some, hd1]; rw [hdg, hb2]; simp only [Option.bind_none]; rw [flt_end (bt_none hb2)]
                rw [this]
                exact rsign_x2e S k (k + 1) w rfl h 120 rfl hy x1 q hb1 hd1 (bt_none hb2) hS
              | some x2 =>
                cases hd2 : dgv x2 with
                | none =>
                  have : digs S (k + 1 + 1) = .inl (4, k + 1 + 2) := by unfold digs; rw [hdg, hb1]; simp only [Option.bind_some, hd1]; rw [hdg, hb2]; simp only [Option.bind_some, hd2]; rw [flt_form (bt_lt hb2).1]
                  rw [this]
                  exact rsign_x2n S k (k + 1) w rfl h 120 rfl hy x1 q x2 hb1 hd1 hb2 hd2 hS
                | some r =>
                  have : digs S (k + 1 + 1) = .inr (16 * q + r, k + 1 + 3) := by unfold digs; rw [hdg, hb1]; simp only [Option.bind_some, hd1]; rw [hdg, hb2]; simp only [Option.bind_some, hd2]
                  rw [this]
                  exact rsign_x2y S k (k + 1) w rfl h 120 rfl hy x1 q x2 r hb1 hd1 hb2 hd2 hS
        · rw [esc_no hy hv h4]
          exact rsign_no S k (k + 1) w rfl h y hmk ⟨h1, h2, h3⟩ h4 hy hS
  · exact rsign_plain S k w h hS
set_option maxRecDepth 100000 in
set_option maxHeartbeats 1000000 in
theorem qhex_any (x : Nat) (hx : x < 256) (w : World) :
    Calls Tryz.prog 48 #[.int .u8 (x : Int)] w fun e w' => e = .returned (.int .i64 (dgi x)) ∧ w' = w := by
  have hc : (48 ≤ x ∧ x ≤ 57) ∨ (97 ≤ x ∧ x ≤ 102) ∨ x < 48 ∨ (57 < x ∧ x < 97) ∨ 102 < x := by omega
  rcases hc with h1 | h1 | h1 | h1 | h1
  · have hd : dgi x = (x : Int) - 48 := by rw [dgi_some (d := x - 48) (by unfold dgv; rw [if_pos h1])]; omega
    rw [hd]
    have a1 : decide (48 ≤ (x : Int)) = true := by simp; omega
    have a2 : decide ((x : Int) ≤ 57) = true := by simp; omega
    have a3 : IntKind.u8.wrap ((x : Int) - 48) = (x : Int) - 48 := by rw [IntKind.wrap_u8]; omega
    have a4 : IntKind.i64.wrap ((x : Int) - 48) = (x : Int) - 48 := by rw [IntKind.wrap_i64]; omega
    have b1 : (48 : Int) ≤ (x : Int) := by omega
    have b2 : (x : Int) ≤ 57 := by omega
    clear hd h1
    go_enter Tryz.func48, Tryz.ntmps48
    go_wp2_with fail
    go_ret
    exact ⟨rfl, rfl⟩
  · have hd : dgi x = (x : Int) - 97 + 10 := by rw [dgi_some (d := x - 87) (by unfold dgv; rw [if_neg (by omega), if_pos h1])]; omega
    rw [hd]
    have a1 : decide (48 ≤ (x : Int)) = true := by simp; omega
    have a2 : decide ((x : Int) ≤ 57) = false := by simp; omega
    have a5 : decide (97 ≤ (x : Int)) = true := by simp; omega
    have a6 : decide ((x : Int) ≤ 102) = true := by simp; omega
    have a3 : IntKind.u8.wrap ((x : Int) - 97) = (x : Int) - 97 := by rw [IntKind.wrap_u8]; omega
    have a4 : IntKind.i64.wrap ((x : Int) - 97) = (x : Int) - 97 := by rw [IntKind.wrap_i64]; omega
    have b1 : (97 : Int) ≤ (x : Int) := by omega
    have b2 : (x : Int) ≤ 102 := by omega
    clear hd h1
    go_enter Tryz.func48, Tryz.ntmps48
    go_wp2_with fail
    go_ret
    exact ⟨rfl, rfl⟩
  · rw [dgi_none (by unfold dgv; rw [if_neg (by omega), if_neg (by omega)])]
    have a1 : decide (48 ≤ (x : Int)) = false := by simp; omega
    have a2 : decide (97 ≤ (x : Int)) = false := by simp; omega
    clear h1
    go_enter Tryz.func48, Tryz.ntmps48
    go_wp2_with fail
    go_ret
    exact ⟨rfl, rfl⟩
  · rw [dgi_none (by unfold dgv; rw [if_neg (by omega), if_neg (by omega)])]
    have a1 : decide (48 ≤ (x : Int)) = true := by simp; omega
    have a3 : decide ((x : Int) ≤ 57) = false := by simp; omega
    have a2 : decide (97 ≤ (x : Int)) = false := by simp; omega
    clear h1
    go_enter Tryz.func48, Tryz.ntmps48
    go_wp2_with fail
    go_ret
    exact ⟨rfl, rfl⟩
  · rw [dgi_none (by unfold dgv; rw [if_neg (by omega), if_neg (by omega)])]
    have a1 : decide (48 ≤ (x : Int)) = true := by simp; omega
    have a3 : decide ((x : Int) ≤ 57) = false := by simp; omega
    have a2 : decide (97 ≤ (x : Int)) = true := by simp; omega
    have a4 : decide ((x : Int) ≤ 102) = false := by simp; omega
    clear h1
    go_enter Tryz.func48, Tryz.ntmps48
    go_wp2_with fail
    go_ret
    exact ⟨rfl, rfl⟩
/-- What a sign of a literal is handed back as. -/
def r3u (r : Rs) : Value :=
  match r with
  | .inr (b, n) => .tuple #[.int .u8 (b : Int), .int .i64 (n : Int), .int .i64 0]
  | .inl c => .tuple #[.int .u8 0, .int .i64 (c.2 : Int), .int .i64 (c.1 : Int)]
set_option maxRecDepth 100000 in
set_option maxHeartbeats 2000000 in
theorem qsign_end (S : ByteArray) (k m : Nat) (w : World) (hm : m = k + 1) (h : bt S k = some 92) (hy : S.size ≤ m) (hS : S.size ≤ 9007199254740992) :
    Calls Tryz.prog 31 #[.string S, .int .i64 (k : Int)] w fun e w' => e = .returned (r3u (.inl (3, S.size))) ∧ w' = w := by
  obtain ⟨hk, hx⟩ := bt_at h
  have hkI : (k : Int) < (S.size : Int) := by omega
  have hmI : (k : Int) + 1 = (m : Int) := by omega
  have hm2 : (k : Int) + 2 = (m : Int) + 1 := by omega
  have a1 : decide ((S.size : Int) ≤ (m : Int)) = true := by simp; omega
  clear h hm hm2
  go_enter Tryz.func31, Tryz.ntmps31
  go_wp2_with fail
  go_ret3
  exact ⟨rfl, rfl⟩

set_option maxRecDepth 100000 in
set_option maxHeartbeats 2000000 in
theorem qsign_n (S : ByteArray) (k m : Nat) (w : World) (hm : m = k + 1) (h : bt S k = some 92) (y : Nat) (hyc : y = 110) (hy : bt S m = some y) (hS : S.size ≤ 9007199254740992) :
    Calls Tryz.prog 31 #[.string S, .int .i64 (k : Int)] w fun e w' => e = .returned (r3u (.inr (10, m + 1))) ∧ w' = w := by
  obtain ⟨hk, hx⟩ := bt_at h
  have hkI : (k : Int) < (S.size : Int) := by omega
  have hmI : (k : Int) + 1 = (m : Int) := by omega
  have hm2 : (k : Int) + 2 = (m : Int) + 1 := by omega
  have hyl := (bt_lt hy).2
  obtain ⟨hym, hyx⟩ := bt_at hy
  have hmk : (m : Int) < (S.size : Int) := by omega
  have a1 : decide ((S.size : Int) ≤ (m : Int)) = false := by simp; omega
  have t110 : ((y : Int) == 110) = true := by simp; omega
  have hn : ((m + 1 : Nat) : Int) = (m : Int) + 1 := by omega
  unfold r3u
  simp only
  rw [hn]
  clear h hm hy hyc hn
  go_enter Tryz.func31, Tryz.ntmps31
  go_wp2_with fail
  go_ret3
  exact ⟨rfl, rfl⟩

set_option maxRecDepth 100000 in
set_option maxHeartbeats 2000000 in
theorem qsign_r (S : ByteArray) (k m : Nat) (w : World) (hm : m = k + 1) (h : bt S k = some 92) (y : Nat) (hyc : y = 114) (hy : bt S m = some y) (hS : S.size ≤ 9007199254740992) :
    Calls Tryz.prog 31 #[.string S, .int .i64 (k : Int)] w fun e w' => e = .returned (r3u (.inr (13, m + 1))) ∧ w' = w := by
  obtain ⟨hk, hx⟩ := bt_at h
  have hkI : (k : Int) < (S.size : Int) := by omega
  have hmI : (k : Int) + 1 = (m : Int) := by omega
  have hm2 : (k : Int) + 2 = (m : Int) + 1 := by omega
  have hyl := (bt_lt hy).2
  obtain ⟨hym, hyx⟩ := bt_at hy
  have hmk : (m : Int) < (S.size : Int) := by omega
  have a1 : decide ((S.size : Int) ≤ (m : Int)) = false := by simp; omega
  have t110 : ((y : Int) == 110) = false := by simp; omega
  have t114 : ((y : Int) == 114) = true := by simp; omega
  have hn : ((m + 1 : Nat) : Int) = (m : Int) + 1 := by omega
  unfold r3u
  simp only
  rw [hn]
  clear h hm hy hyc hn
  go_enter Tryz.func31, Tryz.ntmps31
  go_wp2_with fail
  go_ret3
  exact ⟨rfl, rfl⟩

set_option maxRecDepth 100000 in
set_option maxHeartbeats 2000000 in
theorem qsign_t (S : ByteArray) (k m : Nat) (w : World) (hm : m = k + 1) (h : bt S k = some 92) (y : Nat) (hyc : y = 116) (hy : bt S m = some y) (hS : S.size ≤ 9007199254740992) :
    Calls Tryz.prog 31 #[.string S, .int .i64 (k : Int)] w fun e w' => e = .returned (r3u (.inr (9, m + 1))) ∧ w' = w := by
  obtain ⟨hk, hx⟩ := bt_at h
  have hkI : (k : Int) < (S.size : Int) := by omega
  have hmI : (k : Int) + 1 = (m : Int) := by omega
  have hm2 : (k : Int) + 2 = (m : Int) + 1 := by omega
  have hyl := (bt_lt hy).2
  obtain ⟨hym, hyx⟩ := bt_at hy
  have hmk : (m : Int) < (S.size : Int) := by omega
  have a1 : decide ((S.size : Int) ≤ (m : Int)) = false := by simp; omega
  have t110 : ((y : Int) == 110) = false := by simp; omega
  have t114 : ((y : Int) == 114) = false := by simp; omega
  have t116 : ((y : Int) == 116) = true := by simp; omega
  have hn : ((m + 1 : Nat) : Int) = (m : Int) + 1 := by omega
  unfold r3u
  simp only
  rw [hn]
  clear h hm hy hyc hn
  go_enter Tryz.func31, Tryz.ntmps31
  go_wp2_with fail
  go_ret3
  exact ⟨rfl, rfl⟩

set_option maxRecDepth 100000 in
set_option maxHeartbeats 2000000 in
theorem qsign_m1 (S : ByteArray) (k m : Nat) (w : World) (hm : m = k + 1) (h : bt S k = some 92) (y : Nat) (hyc : y = 92) (hy : bt S m = some y) (hS : S.size ≤ 9007199254740992) :
    Calls Tryz.prog 31 #[.string S, .int .i64 (k : Int)] w fun e w' => e = .returned (r3u (.inr (y, m + 1))) ∧ w' = w := by
  obtain ⟨hk, hx⟩ := bt_at h
  have hkI : (k : Int) < (S.size : Int) := by omega
  have hmI : (k : Int) + 1 = (m : Int) := by omega
  have hm2 : (k : Int) + 2 = (m : Int) + 1 := by omega
  have hyl := (bt_lt hy).2
  obtain ⟨hym, hyx⟩ := bt_at hy
  have hmk : (m : Int) < (S.size : Int) := by omega
  have a1 : decide ((S.size : Int) ≤ (m : Int)) = false := by simp; omega
  have t110 : ((y : Int) == 110) = false := by simp; omega
  have t114 : ((y : Int) == 114) = false := by simp; omega
  have t116 : ((y : Int) == 116) = false := by simp; omega
  have t92 : ((y : Int) == 92) = true := by simp; omega
  have hn : ((m + 1 : Nat) : Int) = (m : Int) + 1 := by omega
  unfold r3u
  simp only
  rw [hn]
  clear h hm hy hyc hn
  go_enter Tryz.func31, Tryz.ntmps31
  go_wp2_with fail
  go_ret3
  exact ⟨rfl, rfl⟩

set_option maxRecDepth 100000 in
set_option maxHeartbeats 2000000 in
theorem qsign_m2 (S : ByteArray) (k m : Nat) (w : World) (hm : m = k + 1) (h : bt S k = some 92) (y : Nat) (hyc : y = 34) (hy : bt S m = some y) (hS : S.size ≤ 9007199254740992) :
    Calls Tryz.prog 31 #[.string S, .int .i64 (k : Int)] w fun e w' => e = .returned (r3u (.inr (y, m + 1))) ∧ w' = w := by
  obtain ⟨hk, hx⟩ := bt_at h
  have hkI : (k : Int) < (S.size : Int) := by omega
  have hmI : (k : Int) + 1 = (m : Int) := by omega
  have hm2 : (k : Int) + 2 = (m : Int) + 1 := by omega
  have hyl := (bt_lt hy).2
  obtain ⟨hym, hyx⟩ := bt_at hy
  have hmk : (m : Int) < (S.size : Int) := by omega
  have a1 : decide ((S.size : Int) ≤ (m : Int)) = false := by simp; omega
  have t110 : ((y : Int) == 110) = false := by simp; omega
  have t114 : ((y : Int) == 114) = false := by simp; omega
  have t116 : ((y : Int) == 116) = false := by simp; omega
  have t92 : ((y : Int) == 92) = false := by simp; omega
  have t34 : ((y : Int) == 34) = true := by simp; omega
  have hn : ((m + 1 : Nat) : Int) = (m : Int) + 1 := by omega
  unfold r3u
  simp only
  rw [hn]
  clear h hm hy hyc hn
  go_enter Tryz.func31, Tryz.ntmps31
  go_wp2_with fail
  go_ret3
  exact ⟨rfl, rfl⟩

set_option maxRecDepth 100000 in
set_option maxHeartbeats 2000000 in
theorem qsign_m3 (S : ByteArray) (k m : Nat) (w : World) (hm : m = k + 1) (h : bt S k = some 92) (y : Nat) (hyc : y = 39) (hy : bt S m = some y) (hS : S.size ≤ 9007199254740992) :
    Calls Tryz.prog 31 #[.string S, .int .i64 (k : Int)] w fun e w' => e = .returned (r3u (.inr (y, m + 1))) ∧ w' = w := by
  obtain ⟨hk, hx⟩ := bt_at h
  have hkI : (k : Int) < (S.size : Int) := by omega
  have hmI : (k : Int) + 1 = (m : Int) := by omega
  have hm2 : (k : Int) + 2 = (m : Int) + 1 := by omega
  have hyl := (bt_lt hy).2
  obtain ⟨hym, hyx⟩ := bt_at hy
  have hmk : (m : Int) < (S.size : Int) := by omega
  have a1 : decide ((S.size : Int) ≤ (m : Int)) = false := by simp; omega
  have t110 : ((y : Int) == 110) = false := by simp; omega
  have t114 : ((y : Int) == 114) = false := by simp; omega
  have t116 : ((y : Int) == 116) = false := by simp; omega
  have t92 : ((y : Int) == 92) = false := by simp; omega
  have t34 : ((y : Int) == 34) = false := by simp; omega
  have t39 : ((y : Int) == 39) = true := by simp; omega
  have hn : ((m + 1 : Nat) : Int) = (m : Int) + 1 := by omega
  unfold r3u
  simp only
  rw [hn]
  clear h hm hy hyc hn
  go_enter Tryz.func31, Tryz.ntmps31
  go_wp2_with fail
  go_ret3
  exact ⟨rfl, rfl⟩

set_option maxRecDepth 100000 in
set_option maxHeartbeats 2000000 in
theorem qsign_no (S : ByteArray) (k m : Nat) (w : World) (hm : m = k + 1) (h : bt S k = some 92) (y : Nat) (hyc : y ≠ 110 ∧ y ≠ 114 ∧ y ≠ 116 ∧ y ≠ 92 ∧ y ≠ 34 ∧ y ≠ 39 ∧ y ≠ 120) (hy : bt S m = some y) (hS : S.size ≤ 9007199254740992) :
    Calls Tryz.prog 31 #[.string S, .int .i64 (k : Int)] w fun e w' => e = .returned (r3u (.inl (4, m))) ∧ w' = w := by
  obtain ⟨hk, hx⟩ := bt_at h
  have hkI : (k : Int) < (S.size : Int) := by omega
  have hmI : (k : Int) + 1 = (m : Int) := by omega
  have hm2 : (k : Int) + 2 = (m : Int) + 1 := by omega
  have hyl := (bt_lt hy).2
  obtain ⟨hym, hyx⟩ := bt_at hy
  have hmk : (m : Int) < (S.size : Int) := by omega
  have a1 : decide ((S.size : Int) ≤ (m : Int)) = false := by simp; omega
  have t110 : ((y : Int) == 110) = false := by simp; omega
  have t114 : ((y : Int) == 114) = false := by simp; omega
  have t116 : ((y : Int) == 116) = false := by simp; omega
  have t92 : ((y : Int) == 92) = false := by simp; omega
  have t34 : ((y : Int) == 34) = false := by simp; omega
  have t39 : ((y : Int) == 39) = false := by simp; omega
  have t120 : ((y : Int) == 120) = false := by simp; omega
  clear h hm hy hyc hm2
  go_enter Tryz.func31, Tryz.ntmps31
  go_wp2_with fail
  go_ret3
  exact ⟨rfl, rfl⟩

set_option maxRecDepth 100000 in
set_option maxHeartbeats 2000000 in
theorem qsign_x1e (S : ByteArray) (k m : Nat) (w : World) (hm : m = k + 1) (h : bt S k = some 92) (y : Nat) (hy0 : y = 120) (hy : bt S m = some y) (h1 : S.size ≤ m + 1) (hS : S.size ≤ 9007199254740992) :
    Calls Tryz.prog 31 #[.string S, .int .i64 (k : Int)] w fun e w' => e = .returned (r3u (.inl (3, S.size))) ∧ w' = w := by
  obtain ⟨hk, hx⟩ := bt_at h
  have hkI : (k : Int) < (S.size : Int) := by omega
  have hmI : (k : Int) + 1 = (m : Int) := by omega
  have hm2 : (k : Int) + 2 = (m : Int) + 1 := by omega
  have hyl := (bt_lt hy).2
  obtain ⟨hym, hyx⟩ := bt_at hy
  have hmk : (m : Int) < (S.size : Int) := by omega
  have a1 : decide ((S.size : Int) ≤ (m : Int)) = false := by simp; omega
  have t110 : ((y : Int) == 110) = false := by simp; omega
  have t114 : ((y : Int) == 114) = false := by simp; omega
  have t116 : ((y : Int) == 116) = false := by simp; omega
  have t92 : ((y : Int) == 92) = false := by simp; omega
  have t34 : ((y : Int) == 34) = false := by simp; omega
  have t39 : ((y : Int) == 39) = false := by simp; omega
  have t120 : ((y : Int) == 120) = true := by simp; omega
  obtain ⟨i, hi⟩ : ∃ i, i = m + 1 := ⟨_, rfl⟩
  obtain ⟨j, hj⟩ : ∃ j, j = m + 2 := ⟨_, rfl⟩
  have hi2 : (k : Int) + 2 = (i : Int) := by omega
  have hi4 : (k : Int) + 4 = (i : Int) + 2 := by omega
  have hij : (i : Int) + 1 = (j : Int) := by omega
  have hj1 : (j : Int) + 1 = (i : Int) + 2 := by omega
  have l1 : decide ((i : Int) < (i : Int) + 2) = true := by simp; omega
  have l2 : decide ((j : Int) < (i : Int) + 2) = true := by simp; omega
  have l3 : decide ((i : Int) + 2 < (i : Int) + 2) = false := by simp
  have e1 : decide ((S.size : Int) ≤ (i : Int)) = true := by simp; omega
  have e1' : S.size ≤ i := by omega
  clear h hm hy hy0 hm2 hi hj
  go_enter Tryz.func31, Tryz.ntmps31
  go_wp2_with fail
  refine wp_loop_rounds 1 ?_
  rw [rounds_succ]
  go_wp2_with fail
  go_ret3
  exact ⟨rfl, rfl⟩

set_option maxRecDepth 100000 in
set_option maxHeartbeats 2000000 in
theorem qsign_x1n (S : ByteArray) (k m : Nat) (w : World) (hm : m = k + 1) (h : bt S k = some 92) (y : Nat) (hy0 : y = 120) (hy : bt S m = some y) (x1 : Nat) (h1 : bt S (m + 1) = some x1) (hd1 : dgv x1 = none) (hS : S.size ≤ 9007199254740992) :
    Calls Tryz.prog 31 #[.string S, .int .i64 (k : Int)] w fun e w' => e = .returned (r3u (.inl (4, m + 1))) ∧ w' = w := by
  obtain ⟨hk, hx⟩ := bt_at h
  have hkI : (k : Int) < (S.size : Int) := by omega
  have hmI : (k : Int) + 1 = (m : Int) := by omega
  have hm2 : (k : Int) + 2 = (m : Int) + 1 := by omega
  have hyl := (bt_lt hy).2
  obtain ⟨hym, hyx⟩ := bt_at hy
  have hmk : (m : Int) < (S.size : Int) := by omega
  have a1 : decide ((S.size : Int) ≤ (m : Int)) = false := by simp; omega
  have t110 : ((y : Int) == 110) = false := by simp; omega
  have t114 : ((y : Int) == 114) = false := by simp; omega
  have t116 : ((y : Int) == 116) = false := by simp; omega
  have t92 : ((y : Int) == 92) = false := by simp; omega
  have t34 : ((y : Int) == 34) = false := by simp; omega
  have t39 : ((y : Int) == 39) = false := by simp; omega
  have t120 : ((y : Int) == 120) = true := by simp; omega
  obtain ⟨i, hi⟩ : ∃ i, i = m + 1 := ⟨_, rfl⟩
  obtain ⟨j, hj⟩ : ∃ j, j = m + 2 := ⟨_, rfl⟩
  have hi2 : (k : Int) + 2 = (i : Int) := by omega
  have hi4 : (k : Int) + 4 = (i : Int) + 2 := by omega
  have hij : (i : Int) + 1 = (j : Int) := by omega
  have hj1 : (j : Int) + 1 = (i : Int) + 2 := by omega
  have l1 : decide ((i : Int) < (i : Int) + 2) = true := by simp; omega
  have l2 : decide ((j : Int) < (i : Int) + 2) = true := by simp; omega
  have l3 : decide ((i : Int) + 2 < (i : Int) + 2) = false := by simp
  have hp := at_move h1 hi
  have pl := (bt_lt hp).2
  obtain ⟨pk, px⟩ := bt_at hp
  have pkI : (i : Int) < (S.size : Int) := by omega
  have pd : decide ((S.size : Int) ≤ (i : Int)) = false := by simp; omega
  have HD1 : Hid (∀ w : World, Calls Tryz.prog 48 #[.int .u8 (x1 : Int)] w fun e w' => e = .returned (.int .i64 (-1)) ∧ w' = w) := fun w => by have := qhex_any x1 pl w; rw [dgi_none hd1] at this; exact this
  unfold r3u
  simp only
  rw [← hi]
  clear hp h1 hd1
  clear h hm hy hy0 hm2 hi hj
  go_enter Tryz.func31, Tryz.ntmps31
  go_wp2_with fail
  refine wp_loop_rounds 1 ?_
  rw [rounds_succ]
  go_wp2_with fail
  refine (HD1.out _).mono ?_
  rintro e w1 ⟨rfl, rfl⟩
  go_wp2_with fail
  go_ret3
  exact ⟨rfl, rfl⟩

set_option maxRecDepth 100000 in
set_option maxHeartbeats 2000000 in
theorem qsign_x2e (S : ByteArray) (k m : Nat) (w : World) (hm : m = k + 1) (h : bt S k = some 92) (y : Nat) (hy0 : y = 120) (hy : bt S m = some y) (x1 q : Nat) (h1 : bt S (m + 1) = some x1) (hd1 : dgv x1 = some q) (h2 : S.size ≤ m + 2) (hS : S.size ≤ 9007199254740992) :
    Calls Tryz.prog 31 #[.string S, .int .i64 (k : Int)] w fun e w' => e = .returned (r3u (.inl (3, S.size))) ∧ w' = w := by
  obtain ⟨hk, hx⟩ := bt_at h
  have hkI : (k : Int) < (S.size : Int) := by omega
  have hmI : (k : Int) + 1 = (m : Int) := by omega
  have hm2 : (k : Int) + 2 = (m : Int) + 1 := by omega
  have hyl := (bt_lt hy).2
  obtain ⟨hym, hyx⟩ := bt_at hy
  have hmk : (m : Int) < (S.size : Int) := by omega
  have a1 : decide ((S.size : Int) ≤ (m : Int)) = false := by simp; omega
  have t110 : ((y : Int) == 110) = false := by simp; omega
  have t114 : ((y : Int) == 114) = false := by simp; omega
  have t116 : ((y : Int) == 116) = false := by simp; omega
  have t92 : ((y : Int) == 92) = false := by simp; omega
  have t34 : ((y : Int) == 34) = false := by simp; omega
  have t39 : ((y : Int) == 39) = false := by simp; omega
  have t120 : ((y : Int) == 120) = true := by simp; omega
  obtain ⟨i, hi⟩ : ∃ i, i = m + 1 := ⟨_, rfl⟩
  obtain ⟨j, hj⟩ : ∃ j, j = m + 2 := ⟨_, rfl⟩
  have hi2 : (k : Int) + 2 = (i : Int) := by omega
  have hi4 : (k : Int) + 4 = (i : Int) + 2 := by omega
  have hij : (i : Int) + 1 = (j : Int) := by omega
  have hj1 : (j : Int) + 1 = (i : Int) + 2 := by omega
  have l1 : decide ((i : Int) < (i : Int) + 2) = true := by simp; omega
  have l2 : decide ((j : Int) < (i : Int) + 2) = true := by simp; omega
  have l3 : decide ((i : Int) + 2 < (i : Int) + 2) = false := by simp
  have hp := at_move h1 hi
  have pl := (bt_lt hp).2
  obtain ⟨pk, px⟩ := bt_at hp
  have pkI : (i : Int) < (S.size : Int) := by omega
  have pd : decide ((S.size : Int) ≤ (i : Int)) = false := by simp; omega
  have HD1 : Hid (∀ w : World, Calls Tryz.prog 48 #[.int .u8 (x1 : Int)] w fun e w' => e = .returned (.int .i64 (q : Int)) ∧ w' = w) := fun w => by have := qhex_any x1 pl w; rw [dgi_some hd1] at this; exact this
  have hq := (dgv_lt hd1).1
  have hq0 : decide ((q : Int) < 0) = false := by simp
  have hqI : (q : Int) ≤ 15 := by omega
  have e1 : decide ((S.size : Int) ≤ (j : Int)) = true := by simp; omega
  have e1' : S.size ≤ j := by omega
  clear hp h1 hd1
  clear h hm hy hy0 hm2 hi hj
  go_enter Tryz.func31, Tryz.ntmps31
  go_wp2_with fail
  refine wp_loop_rounds 2 ?_
  rw [rounds_succ]
  go_wp2_with fail
  refine (HD1.out _).mono ?_
  rintro e w1 ⟨rfl, rfl⟩
  go_wp2_with fail
  rw [rounds_succ]
  go_wp2_with fail
  go_ret3
  exact ⟨rfl, rfl⟩

set_option maxRecDepth 100000 in
set_option maxHeartbeats 2000000 in
theorem qsign_x2n (S : ByteArray) (k m : Nat) (w : World) (hm : m = k + 1) (h : bt S k = some 92) (y : Nat) (hy0 : y = 120) (hy : bt S m = some y) (x1 q x2 : Nat) (h1 : bt S (m + 1) = some x1) (hd1 : dgv x1 = some q) (h2 : bt S (m + 2) = some x2) (hd2 : dgv x2 = none) (hS : S.size ≤ 9007199254740992) :
    Calls Tryz.prog 31 #[.string S, .int .i64 (k : Int)] w fun e w' => e = .returned (r3u (.inl (4, m + 2))) ∧ w' = w := by
  obtain ⟨hk, hx⟩ := bt_at h
  have hkI : (k : Int) < (S.size : Int) := by omega
  have hmI : (k : Int) + 1 = (m : Int) := by omega
  have hm2 : (k : Int) + 2 = (m : Int) + 1 := by omega
  have hyl := (bt_lt hy).2
  obtain ⟨hym, hyx⟩ := bt_at hy
  have hmk : (m : Int) < (S.size : Int) := by omega
  have a1 : decide ((S.size : Int) ≤ (m : Int)) = false := by simp; omega
  have t110 : ((y : Int) == 110) = false := by simp; omega
  have t114 : ((y : Int) == 114) = false := by simp; omega
  have t116 : ((y : Int) == 116) = false := by simp; omega
  have t92 : ((y : Int) == 92) = false := by simp; omega
  have t34 : ((y : Int) == 34) = false := by simp; omega
  have t39 : ((y : Int) == 39) = false := by simp; omega
  have t120 : ((y : Int) == 120) = true := by simp; omega
  obtain ⟨i, hi⟩ : ∃ i, i = m + 1 := ⟨_, rfl⟩
  obtain ⟨j, hj⟩ : ∃ j, j = m + 2 := ⟨_, rfl⟩
  have hi2 : (k : Int) + 2 = (i : Int) := by omega
  have hi4 : (k : Int) + 4 = (i : Int) + 2 := by omega
  have hij : (i : Int) + 1 = (j : Int) := by omega
  have hj1 : (j : Int) + 1 = (i : Int) + 2 := by omega
  have l1 : decide ((i : Int) < (i : Int) + 2) = true := by simp; omega
  have l2 : decide ((j : Int) < (i : Int) + 2) = true := by simp; omega
  have l3 : decide ((i : Int) + 2 < (i : Int) + 2) = false := by simp
  have hp := at_move h1 hi
  have pl := (bt_lt hp).2
  obtain ⟨pk, px⟩ := bt_at hp
  have pkI : (i : Int) < (S.size : Int) := by omega
  have pd : decide ((S.size : Int) ≤ (i : Int)) = false := by simp; omega
  have HD1 : Hid (∀ w : World, Calls Tryz.prog 48 #[.int .u8 (x1 : Int)] w fun e w' => e = .returned (.int .i64 (q : Int)) ∧ w' = w) := fun w => by have := qhex_any x1 pl w; rw [dgi_some hd1] at this; exact this
  have hq := (dgv_lt hd1).1
  have hq0 : decide ((q : Int) < 0) = false := by simp
  have hqI : (q : Int) ≤ 15 := by omega
  have hs := at_move h2 hj
  have sl := (bt_lt hs).2
  obtain ⟨sk, sx⟩ := bt_at hs
  have skI : (j : Int) < (S.size : Int) := by omega
  have sd : decide ((S.size : Int) ≤ (j : Int)) = false := by simp; omega
  have HD2 : Hid (∀ w : World, Calls Tryz.prog 48 #[.int .u8 (x2 : Int)] w fun e w' => e = .returned (.int .i64 (-1)) ∧ w' = w) := fun w => by have := qhex_any x2 sl w; rw [dgi_none hd2] at this; exact this
  unfold r3u
  simp only
  rw [← hj]
  clear hp h1 hd1 hs h2 hd2
  clear h hm hy hy0 hm2 hi hj
  go_enter Tryz.func31, Tryz.ntmps31
  go_wp2_with fail
  refine wp_loop_rounds 2 ?_
  rw [rounds_succ]
  go_wp2_with fail
  refine (HD1.out _).mono ?_
  rintro e w1 ⟨rfl, rfl⟩
  go_wp2_with fail
  rw [rounds_succ]
  go_wp2_with fail
  refine (HD2.out _).mono ?_
  rintro e w1 ⟨rfl, rfl⟩
  go_wp2_with fail
  go_ret3
  exact ⟨rfl, rfl⟩

set_option maxRecDepth 100000 in
set_option maxHeartbeats 2000000 in
theorem qsign_x2y (S : ByteArray) (k m : Nat) (w : World) (hm : m = k + 1) (h : bt S k = some 92) (y : Nat) (hy0 : y = 120) (hy : bt S m = some y) (x1 q x2 r : Nat) (h1 : bt S (m + 1) = some x1) (hd1 : dgv x1 = some q) (h2 : bt S (m + 2) = some x2) (hd2 : dgv x2 = some r) (hS : S.size ≤ 9007199254740992) :
    Calls Tryz.prog 31 #[.string S, .int .i64 (k : Int)] w fun e w' => e = .returned (r3u (.inr (16 * q + r, m + 3))) ∧ w' = w := by
  obtain ⟨hk, hx⟩ := bt_at h
  have hkI : (k : Int) < (S.size : Int) := by omega
  have hmI : (k : Int) + 1 = (m : Int) := by omega
  have hm2 : (k : Int) + 2 = (m : Int) + 1 := by omega
  have hyl := (bt_lt hy).2
  obtain ⟨hym, hyx⟩ := bt_at hy
  have hmk : (m : Int) < (S.size : Int) := by omega
  have a1 : decide ((S.size : Int) ≤ (m : Int)) = false := by simp; omega
  have t110 : ((y : Int) == 110) = false := by simp; omega
  have t114 : ((y : Int) == 114) = false := by simp; omega
  have t116 : ((y : Int) == 116) = false := by simp; omega
  have t92 : ((y : Int) == 92) = false := by simp; omega
  have t34 : ((y : Int) == 34) = false := by simp; omega
  have t39 : ((y : Int) == 39) = false := by simp; omega
  have t120 : ((y : Int) == 120) = true := by simp; omega
  obtain ⟨i, hi⟩ : ∃ i, i = m + 1 := ⟨_, rfl⟩
  obtain ⟨j, hj⟩ : ∃ j, j = m + 2 := ⟨_, rfl⟩
  have hi2 : (k : Int) + 2 = (i : Int) := by omega
  have hi4 : (k : Int) + 4 = (i : Int) + 2 := by omega
  have hij : (i : Int) + 1 = (j : Int) := by omega
  have hj1 : (j : Int) + 1 = (i : Int) + 2 := by omega
  have l1 : decide ((i : Int) < (i : Int) + 2) = true := by simp; omega
  have l2 : decide ((j : Int) < (i : Int) + 2) = true := by simp; omega
  have l3 : decide ((i : Int) + 2 < (i : Int) + 2) = false := by simp
  have hp := at_move h1 hi
  have pl := (bt_lt hp).2
  obtain ⟨pk, px⟩ := bt_at hp
  have pkI : (i : Int) < (S.size : Int) := by omega
  have pd : decide ((S.size : Int) ≤ (i : Int)) = false := by simp; omega
  have HD1 : Hid (∀ w : World, Calls Tryz.prog 48 #[.int .u8 (x1 : Int)] w fun e w' => e = .returned (.int .i64 (q : Int)) ∧ w' = w) := fun w => by have := qhex_any x1 pl w; rw [dgi_some hd1] at this; exact this
  have hq := (dgv_lt hd1).1
  have hq0 : decide ((q : Int) < 0) = false := by simp
  have hqI : (q : Int) ≤ 15 := by omega
  have hs := at_move h2 hj
  have sl := (bt_lt hs).2
  obtain ⟨sk, sx⟩ := bt_at hs
  have skI : (j : Int) < (S.size : Int) := by omega
  have sd : decide ((S.size : Int) ≤ (j : Int)) = false := by simp; omega
  have HD2 : Hid (∀ w : World, Calls Tryz.prog 48 #[.int .u8 (x2 : Int)] w fun e w' => e = .returned (.int .i64 ((r : Int))) ∧ w' = w) := fun w => by have := qhex_any x2 sl w; rw [dgi_some hd2] at this; exact this
  have hr := (dgv_lt hd2).1
  have hr0 : decide ((r : Int) < 0) = false := by simp
  have hrI : (r : Int) ≤ 15 := by omega
  have hn : ((m + 3 : Nat) : Int) = (i : Int) + 2 := by omega
  have hv : ((16 * q + r : Nat) : Int) = 16 * (q : Int) + (r : Int) := by omega
  have hwv : IntKind.u8.wrap (16 * (q : Int) + (r : Int)) = 16 * (q : Int) + (r : Int) := by rw [IntKind.wrap_u8]; omega
  unfold r3u
  simp only
  rw [hn, hv]
  clear hp h1 hd1 hs h2 hd2 hn hv
  clear h hm hy hy0 hm2 hi hj
  go_enter Tryz.func31, Tryz.ntmps31
  go_wp2_with fail
  refine wp_loop_rounds 3 ?_
  rw [rounds_succ]
  go_wp2_with fail
  refine (HD1.out _).mono ?_
  rintro e w1 ⟨rfl, rfl⟩
  go_wp2_with fail
  rw [rounds_succ]
  go_wp2_with fail
  refine (HD2.out _).mono ?_
  rintro e w1 ⟨rfl, rfl⟩
  go_wp2_with fail
  rw [rounds_succ]
  go_wp2_with fail
  go_ret3
  exact ⟨rfl, rfl⟩

set_option maxRecDepth 100000 in
set_option maxHeartbeats 2000000 in
theorem qsign_bad (S : ByteArray) (k x : Nat) (w : World) (h : bt S k = some x) (hx2 : x ≠ 92) (hp : plB x = false) (hS : S.size ≤ 9007199254740992) :
    Calls Tryz.prog 31 #[.string S, .int .i64 (k : Int)] w fun e w' => e = .returned (r3u (.inl (4, k))) ∧ w' = w := by
  have hx6 := (bt_lt h).2
  obtain ⟨hk, hx⟩ := bt_at h
  have hkI : (k : Int) < (S.size : Int) := by omega
  have t0 : ((x : Int) != 92) = true := by rw [bne_iff_ne]; omega
  have hc : x < 32 ∨ (32 ≤ x ∧ 126 < x) := by unfold plB at hp; simp at hp; omega
  rcases hc with h1 | h1
  · have a1 : decide ((x : Int) < 32) = true := by simp; omega
    clear h hx2 hp h1
    go_enter Tryz.func31, Tryz.ntmps31
    go_wp2_with fail
    go_ret3
    exact ⟨rfl, rfl⟩
  · have a1 : decide ((x : Int) < 32) = false := by simp; omega
    have a2 : decide ((126 : Int) < (x : Int)) = true := by simp; omega
    clear h hx2 hp h1
    go_enter Tryz.func31, Tryz.ntmps31
    go_wp2_with fail
    go_ret3
    exact ⟨rfl, rfl⟩
set_option maxRecDepth 100000 in
set_option maxHeartbeats 2000000 in
theorem qsign_plain (S : ByteArray) (k x : Nat) (w : World) (h : bt S k = some x) (hx2 : x ≠ 92) (hp : plB x = true) (hS : S.size ≤ 9007199254740992) :
    Calls Tryz.prog 31 #[.string S, .int .i64 (k : Int)] w fun e w' => e = .returned (r3u (.inr (x, k + 1))) ∧ w' = w := by
  have hx6 := (bt_lt h).2
  obtain ⟨hk, hx⟩ := bt_at h
  have hkI : (k : Int) < (S.size : Int) := by omega
  have t0 : ((x : Int) != 92) = true := by rw [bne_iff_ne]; omega
  have hc : 32 ≤ x ∧ x ≤ 126 := by unfold plB at hp; simpa using hp
  have a1 : decide ((x : Int) < 32) = false := by simp; omega
  have a2 : decide ((126 : Int) < (x : Int)) = false := by simp; omega
  have hn : ((k + 1 : Nat) : Int) = (k : Int) + 1 := by omega
  unfold r3u
  simp only
  rw [hn]
  clear h hx2 hp hc hn
  go_enter Tryz.func31, Tryz.ntmps31
  go_wp2_with fail
  go_ret3
  exact ⟨rfl, rfl⟩
/-- The document's own sign of a literal, where a byte stands. -/
theorem qsign_any (S : ByteArray) (k x : Nat) (w : World) (hb : bt S k = some x) (hS : S.size ≤ 9007199254740992) :
    Calls Tryz.prog 31 #[.string S, .int .i64 (k : Int)] w fun e w' => e = .returned (r3u (lsg S k)) ∧ w' = w := by
  have hk := (bt_lt hb).1
  by_cases h92 : x = 92
  · subst h92
    have hsg : lsg S k = lesc S (k + 1) := by unfold lsg; rw [hb]; rfl
    rw [hsg]
    cases hy : bt S (k + 1) with
    | none =>
      have : lesc S (k + 1) = .inl (3, S.size) := by unfold lesc; rw [hy]; simp only; rw [flt_end (bt_none hy)]
      rw [this]
      exact qsign_end S k (k + 1) w rfl hb (bt_none hy) hS
    | some y =>
      have hle : lesc S (k + 1) = (match lescv y with | some b => .inr (b, k + 1 + 1) | none => if y = 120 then digs S (k + 1 + 1) else .inl (flt S (k + 1))) := by unfold lesc; rw [hy]; rfl
      rw [hle]
      cases hv : lescv y with
      | some b =>
        simp only
        unfold lescv at hv
        by_cases h1 : y = 110
        · rw [if_pos h1] at hv; simp at hv; subst hv; exact qsign_n S k (k + 1) w rfl hb y h1 hy hS
        · rw [if_neg h1] at hv
          by_cases h2 : y = 114
          · rw [if_pos h2] at hv; simp at hv; subst hv; exact qsign_r S k (k + 1) w rfl hb y h2 hy hS
          · rw [if_neg h2] at hv
            by_cases h3 : y = 116
            · rw [if_pos h3] at hv; simp at hv; subst hv; exact qsign_t S k (k + 1) w rfl hb y h3 hy hS
            · rw [if_neg h3] at hv
              by_cases h4 : y = 92 ∨ y = 39 ∨ y = 34
              · rw [if_pos h4] at hv; simp at hv; subst hv
                rcases h4 with h4 | h4 | h4
                · exact qsign_m1 S k (k + 1) w rfl hb y h4 hy hS
                · exact qsign_m3 S k (k + 1) w rfl hb y h4 hy hS
                · exact qsign_m2 S k (k + 1) w rfl hb y h4 hy hS
              · rw [if_neg h4] at hv; cases hv
      | none =>
        simp only
        obtain ⟨h1, h2, h3, h4, h5, h6⟩ := lescv_none hv
        by_cases h7 : y = 120
        · subst h7
          rw [if_pos rfl]
          have hdg : ∀ i, dg S i = (bt S i).bind dgv := fun i => rfl
          cases hb1 : bt S (k + 1 + 1) with
          | none =>
            have : digs S (k + 1 + 1) = .inl (3, S.size) := by unfold digs; rw [hdg, hb1]; simp only [Option.bind_none]; rw [flt_end (bt_none hb1)]
            rw [this]
            exact qsign_x1e S k (k + 1) w rfl hb 120 rfl hy (bt_none hb1) hS
          | some x1 =>
            cases hd1 : dgv x1 with
            | none =>
              have : digs S (k + 1 + 1) = .inl (4, k + 1 + 1) := by unfold digs; rw [hdg, hb1]; simp only [Option.bind_some, hd1]; rw [flt_form (bt_lt hb1).1]
              rw [this]
              exact qsign_x1n S k (k + 1) w rfl hb 120 rfl hy x1 hb1 hd1 hS
            | some q =>
              cases hb2 : bt S (k + 1 + 2) with
              | none =>
                have : digs S (k + 1 + 1) = .inl (3, S.size) := by unfold digs; rw [hdg, hb1]; simp only [Option.bind_some, hd1]; rw [hdg, hb2]; simp only [Option.bind_none]; rw [flt_end (bt_none hb2)]
                rw [this]
                exact qsign_x2e S k (k + 1) w rfl hb 120 rfl hy x1 q hb1 hd1 (bt_none hb2) hS
              | some x2 =>
                cases hd2 : dgv x2 with
                | none =>
                  have : digs S (k + 1 + 1) = .inl (4, k + 1 + 2) := by unfold digs; rw [hdg, hb1]; simp only [Option.bind_some, hd1]; rw [hdg, hb2]; simp only [Option.bind_some, hd2]; rw [flt_form (bt_lt hb2).1]
                  rw [this]
                  exact qsign_x2n S k (k + 1) w rfl hb 120 rfl hy x1 q x2 hb1 hd1 hb2 hd2 hS
                | some r =>
                  have : digs S (k + 1 + 1) = .inr (16 * q + r, k + 1 + 3) := by unfold digs; rw [hdg, hb1]; simp only [Option.bind_some, hd1]; rw [hdg, hb2]; simp only [Option.bind_some, hd2]
                  rw [this]
                  exact qsign_x2y S k (k + 1) w rfl hb 120 rfl hy x1 q x2 r hb1 hd1 hb2 hd2 hS
        · rw [if_neg h7, flt_form (bt_lt hy).1]
          exact qsign_no S k (k + 1) w rfl hb y ⟨h1, h2, h3, h4, h6, h5, h7⟩ hy hS
  · cases hp : plB x with
    | false =>
      have : lsg S k = .inl (4, k) := by unfold lsg; rw [hb]; simp only [hp]; rw [flt_form hk]; rfl
      rw [this]
      exact qsign_bad S k x w hb h92 hp hS
    | true =>
      have : lsg S k = .inr (x, k + 1) := by unfold lsg; rw [hb]; simp [hp, h92]
      rw [this]
      exact qsign_plain S k x w hb h92 hp hS
set_option maxRecDepth 100000 in
set_option maxHeartbeats 1000000 in
theorem qsigns_0 (x : Nat) (w : World) (b0 : ((47 : Int) == (x : Int)) = true) :
    Calls Tryz.prog 17 #[.int .u8 (x : Int)] w fun e w' => e = .returned (.bool true) ∧ w' = w := by
  have g0 : (({ data := #[47, 38, 33, 63, 42, 43, 40, 41, 46] } : ByteArray)[0]'(by decide)).toNat = 47 := rfl
  go_enter Tryz.func17, Tryz.ntmps17
  go_wp2_with fail
  refine wp_loop_rounds 1 ?_
  rw [rounds_succ]
  go_wp2_with fail
  go_ret
  exact ⟨rfl, rfl⟩
set_option maxRecDepth 100000 in
set_option maxHeartbeats 1000000 in
theorem qsigns_1 (x : Nat) (w : World) (b0 : ((47 : Int) == (x : Int)) = false) (b1 : ((38 : Int) == (x : Int)) = true) :
    Calls Tryz.prog 17 #[.int .u8 (x : Int)] w fun e w' => e = .returned (.bool true) ∧ w' = w := by
  have g0 : (({ data := #[47, 38, 33, 63, 42, 43, 40, 41, 46] } : ByteArray)[0]'(by decide)).toNat = 47 := rfl
  have g1 : (({ data := #[47, 38, 33, 63, 42, 43, 40, 41, 46] } : ByteArray)[1]'(by decide)).toNat = 38 := rfl
  go_enter Tryz.func17, Tryz.ntmps17
  go_wp2_with fail
  refine wp_loop_rounds 2 ?_
  rw [rounds_succ]
  go_wp2_with fail
  rw [rounds_succ]
  go_wp2_with fail
  go_ret
  exact ⟨rfl, rfl⟩
set_option maxRecDepth 100000 in
set_option maxHeartbeats 1000000 in
theorem qsigns_2 (x : Nat) (w : World) (b0 : ((47 : Int) == (x : Int)) = false) (b1 : ((38 : Int) == (x : Int)) = false) (b2 : ((33 : Int) == (x : Int)) = true) :
    Calls Tryz.prog 17 #[.int .u8 (x : Int)] w fun e w' => e = .returned (.bool true) ∧ w' = w := by
  have g0 : (({ data := #[47, 38, 33, 63, 42, 43, 40, 41, 46] } : ByteArray)[0]'(by decide)).toNat = 47 := rfl
  have g1 : (({ data := #[47, 38, 33, 63, 42, 43, 40, 41, 46] } : ByteArray)[1]'(by decide)).toNat = 38 := rfl
  have g2 : (({ data := #[47, 38, 33, 63, 42, 43, 40, 41, 46] } : ByteArray)[2]'(by decide)).toNat = 33 := rfl
  go_enter Tryz.func17, Tryz.ntmps17
  go_wp2_with fail
  refine wp_loop_rounds 3 ?_
  rw [rounds_succ]
  go_wp2_with fail
  rw [rounds_succ]
  go_wp2_with fail
  rw [rounds_succ]
  go_wp2_with fail
  go_ret
  exact ⟨rfl, rfl⟩
set_option maxRecDepth 100000 in
set_option maxHeartbeats 1000000 in
theorem qsigns_3 (x : Nat) (w : World) (b0 : ((47 : Int) == (x : Int)) = false) (b1 : ((38 : Int) == (x : Int)) = false) (b2 : ((33 : Int) == (x : Int)) = false) (b3 : ((63 : Int) == (x : Int)) = true) :
    Calls Tryz.prog 17 #[.int .u8 (x : Int)] w fun e w' => e = .returned (.bool true) ∧ w' = w := by
  have g0 : (({ data := #[47, 38, 33, 63, 42, 43, 40, 41, 46] } : ByteArray)[0]'(by decide)).toNat = 47 := rfl
  have g1 : (({ data := #[47, 38, 33, 63, 42, 43, 40, 41, 46] } : ByteArray)[1]'(by decide)).toNat = 38 := rfl
  have g2 : (({ data := #[47, 38, 33, 63, 42, 43, 40, 41, 46] } : ByteArray)[2]'(by decide)).toNat = 33 := rfl
  have g3 : (({ data := #[47, 38, 33, 63, 42, 43, 40, 41, 46] } : ByteArray)[3]'(by decide)).toNat = 63 := rfl
  go_enter Tryz.func17, Tryz.ntmps17
  go_wp2_with fail
  refine wp_loop_rounds 4 ?_
  rw [rounds_succ]
  go_wp2_with fail
  rw [rounds_succ]
  go_wp2_with fail
  rw [rounds_succ]
  go_wp2_with fail
  rw [rounds_succ]
  go_wp2_with fail
  go_ret
  exact ⟨rfl, rfl⟩
set_option maxRecDepth 100000 in
set_option maxHeartbeats 1000000 in
theorem qsigns_4 (x : Nat) (w : World) (b0 : ((47 : Int) == (x : Int)) = false) (b1 : ((38 : Int) == (x : Int)) = false) (b2 : ((33 : Int) == (x : Int)) = false) (b3 : ((63 : Int) == (x : Int)) = false) (b4 : ((42 : Int) == (x : Int)) = true) :
    Calls Tryz.prog 17 #[.int .u8 (x : Int)] w fun e w' => e = .returned (.bool true) ∧ w' = w := by
  have g0 : (({ data := #[47, 38, 33, 63, 42, 43, 40, 41, 46] } : ByteArray)[0]'(by decide)).toNat = 47 := rfl
  have g1 : (({ data := #[47, 38, 33, 63, 42, 43, 40, 41, 46] } : ByteArray)[1]'(by decide)).toNat = 38 := rfl
  have g2 : (({ data := #[47, 38, 33, 63, 42, 43, 40, 41, 46] } : ByteArray)[2]'(by decide)).toNat = 33 := rfl
  have g3 : (({ data := #[47, 38, 33, 63, 42, 43, 40, 41, 46] } : ByteArray)[3]'(by decide)).toNat = 63 := rfl
  have g4 : (({ data := #[47, 38, 33, 63, 42, 43, 40, 41, 46] } : ByteArray)[4]'(by decide)).toNat = 42 := rfl
  go_enter Tryz.func17, Tryz.ntmps17
  go_wp2_with fail
  refine wp_loop_rounds 5 ?_
  rw [rounds_succ]
  go_wp2_with fail
  rw [rounds_succ]
  go_wp2_with fail
  rw [rounds_succ]
  go_wp2_with fail
  rw [rounds_succ]
  go_wp2_with fail
  rw [rounds_succ]
  go_wp2_with fail
  go_ret
  exact ⟨rfl, rfl⟩
set_option maxRecDepth 100000 in
set_option maxHeartbeats 1000000 in
theorem qsigns_5 (x : Nat) (w : World) (b0 : ((47 : Int) == (x : Int)) = false) (b1 : ((38 : Int) == (x : Int)) = false) (b2 : ((33 : Int) == (x : Int)) = false) (b3 : ((63 : Int) == (x : Int)) = false) (b4 : ((42 : Int) == (x : Int)) = false) (b5 : ((43 : Int) == (x : Int)) = true) :
    Calls Tryz.prog 17 #[.int .u8 (x : Int)] w fun e w' => e = .returned (.bool true) ∧ w' = w := by
  have g0 : (({ data := #[47, 38, 33, 63, 42, 43, 40, 41, 46] } : ByteArray)[0]'(by decide)).toNat = 47 := rfl
  have g1 : (({ data := #[47, 38, 33, 63, 42, 43, 40, 41, 46] } : ByteArray)[1]'(by decide)).toNat = 38 := rfl
  have g2 : (({ data := #[47, 38, 33, 63, 42, 43, 40, 41, 46] } : ByteArray)[2]'(by decide)).toNat = 33 := rfl
  have g3 : (({ data := #[47, 38, 33, 63, 42, 43, 40, 41, 46] } : ByteArray)[3]'(by decide)).toNat = 63 := rfl
  have g4 : (({ data := #[47, 38, 33, 63, 42, 43, 40, 41, 46] } : ByteArray)[4]'(by decide)).toNat = 42 := rfl
  have g5 : (({ data := #[47, 38, 33, 63, 42, 43, 40, 41, 46] } : ByteArray)[5]'(by decide)).toNat = 43 := rfl
  go_enter Tryz.func17, Tryz.ntmps17
  go_wp2_with fail
  refine wp_loop_rounds 6 ?_
  rw [rounds_succ]
  go_wp2_with fail
  rw [rounds_succ]
  go_wp2_with fail
  rw [rounds_succ]
  go_wp2_with fail
  rw [rounds_succ]
  go_wp2_with fail
  rw [rounds_succ]
  go_wp2_with fail
  rw [rounds_succ]
  go_wp2_with fail
  go_ret
  exact ⟨rfl, rfl⟩
set_option maxRecDepth 100000 in
set_option maxHeartbeats 1000000 in
theorem qsigns_6 (x : Nat) (w : World) (b0 : ((47 : Int) == (x : Int)) = false) (b1 : ((38 : Int) == (x : Int)) = false) (b2 : ((33 : Int) == (x : Int)) = false) (b3 : ((63 : Int) == (x : Int)) = false) (b4 : ((42 : Int) == (x : Int)) = false) (b5 : ((43 : Int) == (x : Int)) = false) (b6 : ((40 : Int) == (x : Int)) = true) :
    Calls Tryz.prog 17 #[.int .u8 (x : Int)] w fun e w' => e = .returned (.bool true) ∧ w' = w := by
  have g0 : (({ data := #[47, 38, 33, 63, 42, 43, 40, 41, 46] } : ByteArray)[0]'(by decide)).toNat = 47 := rfl
  have g1 : (({ data := #[47, 38, 33, 63, 42, 43, 40, 41, 46] } : ByteArray)[1]'(by decide)).toNat = 38 := rfl
  have g2 : (({ data := #[47, 38, 33, 63, 42, 43, 40, 41, 46] } : ByteArray)[2]'(by decide)).toNat = 33 := rfl
  have g3 : (({ data := #[47, 38, 33, 63, 42, 43, 40, 41, 46] } : ByteArray)[3]'(by decide)).toNat = 63 := rfl
  have g4 : (({ data := #[47, 38, 33, 63, 42, 43, 40, 41, 46] } : ByteArray)[4]'(by decide)).toNat = 42 := rfl
  have g5 : (({ data := #[47, 38, 33, 63, 42, 43, 40, 41, 46] } : ByteArray)[5]'(by decide)).toNat = 43 := rfl
  have g6 : (({ data := #[47, 38, 33, 63, 42, 43, 40, 41, 46] } : ByteArray)[6]'(by decide)).toNat = 40 := rfl
  go_enter Tryz.func17, Tryz.ntmps17
  go_wp2_with fail
  refine wp_loop_rounds 7 ?_
  rw [rounds_succ]
  go_wp2_with fail
  rw [rounds_succ]
  go_wp2_with fail
  rw [rounds_succ]
  go_wp2_with fail
  rw [rounds_succ]
  go_wp2_with fail
  rw [rounds_succ]
  go_wp2_with fail
  rw [rounds_succ]
  go_wp2_with fail
  rw [rounds_succ]
  go_wp2_with fail
  go_ret
  exact ⟨rfl, rfl⟩
set_option maxRecDepth 100000 in
set_option maxHeartbeats 1000000 in
theorem qsigns_7 (x : Nat) (w : World) (b0 : ((47 : Int) == (x : Int)) = false) (b1 : ((38 : Int) == (x : Int)) = false) (b2 : ((33 : Int) == (x : Int)) = false) (b3 : ((63 : Int) == (x : Int)) = false) (b4 : ((42 : Int) == (x : Int)) = false) (b5 : ((43 : Int) == (x : Int)) = false) (b6 : ((40 : Int) == (x : Int)) = false) (b7 : ((41 : Int) == (x : Int)) = true) :
    Calls Tryz.prog 17 #[.int .u8 (x : Int)] w fun e w' => e = .returned (.bool true) ∧ w' = w := by
  have g0 : (({ data := #[47, 38, 33, 63, 42, 43, 40, 41, 46] } : ByteArray)[0]'(by decide)).toNat = 47 := rfl
  have g1 : (({ data := #[47, 38, 33, 63, 42, 43, 40, 41, 46] } : ByteArray)[1]'(by decide)).toNat = 38 := rfl
  have g2 : (({ data := #[47, 38, 33, 63, 42, 43, 40, 41, 46] } : ByteArray)[2]'(by decide)).toNat = 33 := rfl
  have g3 : (({ data := #[47, 38, 33, 63, 42, 43, 40, 41, 46] } : ByteArray)[3]'(by decide)).toNat = 63 := rfl
  have g4 : (({ data := #[47, 38, 33, 63, 42, 43, 40, 41, 46] } : ByteArray)[4]'(by decide)).toNat = 42 := rfl
  have g5 : (({ data := #[47, 38, 33, 63, 42, 43, 40, 41, 46] } : ByteArray)[5]'(by decide)).toNat = 43 := rfl
  have g6 : (({ data := #[47, 38, 33, 63, 42, 43, 40, 41, 46] } : ByteArray)[6]'(by decide)).toNat = 40 := rfl
  have g7 : (({ data := #[47, 38, 33, 63, 42, 43, 40, 41, 46] } : ByteArray)[7]'(by decide)).toNat = 41 := rfl
  go_enter Tryz.func17, Tryz.ntmps17
  go_wp2_with fail
  refine wp_loop_rounds 8 ?_
  rw [rounds_succ]
  go_wp2_with fail
  rw [rounds_succ]
  go_wp2_with fail
  rw [rounds_succ]
  go_wp2_with fail
  rw [rounds_succ]
  go_wp2_with fail
  rw [rounds_succ]
  go_wp2_with fail
  rw [rounds_succ]
  go_wp2_with fail
  rw [rounds_succ]
  go_wp2_with fail
  rw [rounds_succ]
  go_wp2_with fail
  go_ret
  exact ⟨rfl, rfl⟩
set_option maxRecDepth 100000 in
set_option maxHeartbeats 1000000 in
theorem qsigns_8 (x : Nat) (w : World) (b0 : ((47 : Int) == (x : Int)) = false) (b1 : ((38 : Int) == (x : Int)) = false) (b2 : ((33 : Int) == (x : Int)) = false) (b3 : ((63 : Int) == (x : Int)) = false) (b4 : ((42 : Int) == (x : Int)) = false) (b5 : ((43 : Int) == (x : Int)) = false) (b6 : ((40 : Int) == (x : Int)) = false) (b7 : ((41 : Int) == (x : Int)) = false) (b8 : ((46 : Int) == (x : Int)) = true) :
    Calls Tryz.prog 17 #[.int .u8 (x : Int)] w fun e w' => e = .returned (.bool true) ∧ w' = w := by
  have g0 : (({ data := #[47, 38, 33, 63, 42, 43, 40, 41, 46] } : ByteArray)[0]'(by decide)).toNat = 47 := rfl
  have g1 : (({ data := #[47, 38, 33, 63, 42, 43, 40, 41, 46] } : ByteArray)[1]'(by decide)).toNat = 38 := rfl
  have g2 : (({ data := #[47, 38, 33, 63, 42, 43, 40, 41, 46] } : ByteArray)[2]'(by decide)).toNat = 33 := rfl
  have g3 : (({ data := #[47, 38, 33, 63, 42, 43, 40, 41, 46] } : ByteArray)[3]'(by decide)).toNat = 63 := rfl
  have g4 : (({ data := #[47, 38, 33, 63, 42, 43, 40, 41, 46] } : ByteArray)[4]'(by decide)).toNat = 42 := rfl
  have g5 : (({ data := #[47, 38, 33, 63, 42, 43, 40, 41, 46] } : ByteArray)[5]'(by decide)).toNat = 43 := rfl
  have g6 : (({ data := #[47, 38, 33, 63, 42, 43, 40, 41, 46] } : ByteArray)[6]'(by decide)).toNat = 40 := rfl
  have g7 : (({ data := #[47, 38, 33, 63, 42, 43, 40, 41, 46] } : ByteArray)[7]'(by decide)).toNat = 41 := rfl
  have g8 : (({ data := #[47, 38, 33, 63, 42, 43, 40, 41, 46] } : ByteArray)[8]'(by decide)).toNat = 46 := rfl
  go_enter Tryz.func17, Tryz.ntmps17
  go_wp2_with fail
  refine wp_loop_rounds 9 ?_
  rw [rounds_succ]
  go_wp2_with fail
  rw [rounds_succ]
  go_wp2_with fail
  rw [rounds_succ]
  go_wp2_with fail
  rw [rounds_succ]
  go_wp2_with fail
  rw [rounds_succ]
  go_wp2_with fail
  rw [rounds_succ]
  go_wp2_with fail
  rw [rounds_succ]
  go_wp2_with fail
  rw [rounds_succ]
  go_wp2_with fail
  rw [rounds_succ]
  go_wp2_with fail
  go_ret
  exact ⟨rfl, rfl⟩
set_option maxRecDepth 100000 in
set_option maxHeartbeats 1000000 in
theorem qsigns_9 (x : Nat) (w : World) (b0 : ((47 : Int) == (x : Int)) = false) (b1 : ((38 : Int) == (x : Int)) = false) (b2 : ((33 : Int) == (x : Int)) = false) (b3 : ((63 : Int) == (x : Int)) = false) (b4 : ((42 : Int) == (x : Int)) = false) (b5 : ((43 : Int) == (x : Int)) = false) (b6 : ((40 : Int) == (x : Int)) = false) (b7 : ((41 : Int) == (x : Int)) = false) (b8 : ((46 : Int) == (x : Int)) = false) :
    Calls Tryz.prog 17 #[.int .u8 (x : Int)] w fun e w' => e = .returned (.bool false) ∧ w' = w := by
  have g0 : (({ data := #[47, 38, 33, 63, 42, 43, 40, 41, 46] } : ByteArray)[0]'(by decide)).toNat = 47 := rfl
  have g1 : (({ data := #[47, 38, 33, 63, 42, 43, 40, 41, 46] } : ByteArray)[1]'(by decide)).toNat = 38 := rfl
  have g2 : (({ data := #[47, 38, 33, 63, 42, 43, 40, 41, 46] } : ByteArray)[2]'(by decide)).toNat = 33 := rfl
  have g3 : (({ data := #[47, 38, 33, 63, 42, 43, 40, 41, 46] } : ByteArray)[3]'(by decide)).toNat = 63 := rfl
  have g4 : (({ data := #[47, 38, 33, 63, 42, 43, 40, 41, 46] } : ByteArray)[4]'(by decide)).toNat = 42 := rfl
  have g5 : (({ data := #[47, 38, 33, 63, 42, 43, 40, 41, 46] } : ByteArray)[5]'(by decide)).toNat = 43 := rfl
  have g6 : (({ data := #[47, 38, 33, 63, 42, 43, 40, 41, 46] } : ByteArray)[6]'(by decide)).toNat = 40 := rfl
  have g7 : (({ data := #[47, 38, 33, 63, 42, 43, 40, 41, 46] } : ByteArray)[7]'(by decide)).toNat = 41 := rfl
  have g8 : (({ data := #[47, 38, 33, 63, 42, 43, 40, 41, 46] } : ByteArray)[8]'(by decide)).toNat = 46 := rfl
  go_enter Tryz.func17, Tryz.ntmps17
  go_wp2_with fail
  refine wp_loop_rounds 10 ?_
  rw [rounds_succ]
  go_wp2_with fail
  rw [rounds_succ]
  go_wp2_with fail
  rw [rounds_succ]
  go_wp2_with fail
  rw [rounds_succ]
  go_wp2_with fail
  rw [rounds_succ]
  go_wp2_with fail
  rw [rounds_succ]
  go_wp2_with fail
  rw [rounds_succ]
  go_wp2_with fail
  rw [rounds_succ]
  go_wp2_with fail
  rw [rounds_succ]
  go_wp2_with fail
  rw [rounds_succ]
  go_wp2_with fail
  go_ret
  exact ⟨rfl, rfl⟩
theorem qsigns_any (x : Nat) (w : World) : Calls Tryz.prog 17 #[.int .u8 (x : Int)] w fun e w' => e = .returned (.bool (mkB x)) ∧ w' = w := by
  by_cases h0 : x = 47
  · have hm : mkB x = true := by rw [h0]; rfl
    rw [hm]
    exact qsigns_0 x w (by simp; omega)
  by_cases h1 : x = 38
  · have hm : mkB x = true := by rw [h1]; rfl
    rw [hm]
    exact qsigns_1 x w (by simp; omega) (by simp; omega)
  by_cases h2 : x = 33
  · have hm : mkB x = true := by rw [h2]; rfl
    rw [hm]
    exact qsigns_2 x w (by simp; omega) (by simp; omega) (by simp; omega)
  by_cases h3 : x = 63
  · have hm : mkB x = true := by rw [h3]; rfl
    rw [hm]
    exact qsigns_3 x w (by simp; omega) (by simp; omega) (by simp; omega) (by simp; omega)
  by_cases h4 : x = 42
  · have hm : mkB x = true := by rw [h4]; rfl
    rw [hm]
    exact qsigns_4 x w (by simp; omega) (by simp; omega) (by simp; omega) (by simp; omega) (by simp; omega)
  by_cases h5 : x = 43
  · have hm : mkB x = true := by rw [h5]; rfl
    rw [hm]
    exact qsigns_5 x w (by simp; omega) (by simp; omega) (by simp; omega) (by simp; omega) (by simp; omega) (by simp; omega)
  by_cases h6 : x = 40
  · have hm : mkB x = true := by rw [h6]; rfl
    rw [hm]
    exact qsigns_6 x w (by simp; omega) (by simp; omega) (by simp; omega) (by simp; omega) (by simp; omega) (by simp; omega) (by simp; omega)
  by_cases h7 : x = 41
  · have hm : mkB x = true := by rw [h7]; rfl
    rw [hm]
    exact qsigns_7 x w (by simp; omega) (by simp; omega) (by simp; omega) (by simp; omega) (by simp; omega) (by simp; omega) (by simp; omega) (by simp; omega)
  by_cases h8 : x = 46
  · have hm : mkB x = true := by rw [h8]; rfl
    rw [hm]
    exact qsigns_8 x w (by simp; omega) (by simp; omega) (by simp; omega) (by simp; omega) (by simp; omega) (by simp; omega) (by simp; omega) (by simp; omega) (by simp; omega)
  have hm : mkB x = false := by unfold mkB; simp; omega
  rw [hm]
  exact qsigns_9 x w (by simp; omega) (by simp; omega) (by simp; omega) (by simp; omega) (by simp; omega) (by simp; omega) (by simp; omega) (by simp; omega) (by simp; omega)
/-- What a literal is handed back as. -/
def r3s (r : Ls) : Value :=
  match r with
  | .inr (l, n) => .tuple #[.string (nb l), .int .i64 (n : Int), .int .i64 0]
  | .inl c => .tuple #[.string { data := #[] }, .int .i64 (c.2 : Int), .int .i64 (c.1 : Int)]
theorem lsg_code {S : ByteArray} {k : Nat} {c : Nat × Nat} (h : lsg S k = .inl c) : c.1 = 3 ∨ c.1 = 4 := by
  have hd : ∀ i c, digs S i = .inl c → c.1 = 3 ∨ c.1 = 4 := fun i c h => by
    unfold digs at h
    split at h
    · simp only [Sum.inl.injEq] at h; rw [← h]; unfold flt; split <;> simp
    · split at h
      · simp only [Sum.inl.injEq] at h; rw [← h]; unfold flt; split <;> simp
      · cases h
  have hf : ∀ i, (flt S i).1 = 3 ∨ (flt S i).1 = 4 := fun i => by unfold flt; split <;> simp
  unfold lsg at h
  split at h
  · simp only [Sum.inl.injEq] at h; rw [← h]; exact hf _
  · split at h
    · simp only [Sum.inl.injEq] at h; rw [← h]; exact hf _
    · split at h
      · unfold lesc at h
        split at h
        · simp only [Sum.inl.injEq] at h; rw [← h]; exact hf _
        · split at h
          · cases h
          · split at h
            · exact hd _ _ h
            · simp only [Sum.inl.injEq] at h; rw [← h]; exact hf _
      · cases h
theorem Lq.keep {w W w' : World} {v : Value} {l : List Nat} (h : Lq w v l W) (hb : Below W.heap.size W w') : Lq w v l w' :=
  ⟨hid (h.1.out.trans (hb.mono h.1.out.size)), hid (own_keep h.2.out hb)⟩
set_option maxRecDepth 100000 in
set_option maxHeartbeats 8000000 in
theorem qliteral_any (S : ByteArray) (q p : Nat) (w : World) (h0 : bt S p = some q) (hS : S.size ≤ 9007199254740992) :
    Calls Tryz.prog 18 #[.string S, .int .i64 (p : Int)] w fun e w' => e = .returned (r3s (ll S q p (p + 1) [])) ∧ Below w.heap.size w w' := by
  obtain ⟨i0, hi0, hz0, hz1, hz2⟩ := info_parts Tryz.infoByte
  have hql := (bt_lt h0).2
  obtain ⟨hp0, hq0⟩ := bt_at h0
  have hpI : (p : Int) < (S.size : Int) := by omega
  obtain ⟨R, hR⟩ : ∃ R, R = ll S q p (p + 1) [] := ⟨_, rfl⟩
  rw [← hR]
  have HR : Hid (ll S q p (p + 1) [] = R) := hR.symm
  clear hR h0
  go_enter Tryz.func18, Tryz.ntmps18
  go_wp2_with fail
  go_loopw [8, 9] (fun v a wr => ∃ (k : Nat) (acc : List Nat), a = .int .i64 (k : Int) ∧ k ≤ S.size ∧ acc.length ≤ 255 ∧ Hid (∀ x ∈ acc, x < 256) ∧ Hid (ll S q p k acc = R) ∧ Hid (Lq w v acc wr)) (fun _ a _ => S.size - (intOf a).toNat)
  case atStart => exact ⟨p + 1, [], by go_num, by omega, by simp, hid (fun x hx => by simp at hx), HR, hid ⟨hid (Below.refl _ _), hid (World.ownsRow_nil _ _ _ _)⟩⟩
  case round =>
    obtain ⟨k, acc, rfl, hks, hal, HX, HM, HL⟩ := hrel
    clear hq0
    cases hb : bt S k with
    | none =>
      have hge := bt_none hb
      have a0 : decide ((k : Int) < (S.size : Int)) = false := by simp; omega
      have a1 : decide ((S.size : Int) ≤ (k : Int)) = true := by simp; omega
      have hm : lsg S k = .inl (flt S k) := by unfold lsg; rw [hb]
      have HRe : Hid (R = .inl (3, S.size)) := by show _ = _; rw [← HM.out, ll_bad (by rw [hb]; simp) hm, flt_end hge]
      have HB0 : Hid (Below w.heap.size w wr) := HL.out.1
      clear hb hm HM HL HX
      go_wp2_with fail
      go_ret3
      rw [HRe.out]
      exact ⟨rfl, HB0.out⟩
    | some x =>
      obtain ⟨hkk, hxk⟩ := bt_at hb
      have hkI : (k : Int) < (S.size : Int) := by omega
      have hx6 := (bt_lt hb).2
      have a0 : decide ((k : Int) < (S.size : Int)) = true := by simp; omega
      have a1 : decide ((S.size : Int) ≤ (k : Int)) = false := by simp; omega
      by_cases hxq : x = q
      · have n0 : ((x : Int) != (q : Int)) = false := by simp; omega
        have HRe : Hid (R = .inr (acc, k + 1)) := by show _ = _; rw [← HM.out, ll_end (by rw [hb, hxq])]
        have HN : Hid (((k + 1 : Nat) : Int) = (k : Int) + 1) := by show _ = _; omega
        have cva := conv_any HL.out.2.out HX.out
        obtain ⟨TT, hTT⟩ : ∃ TT, TT = nb acc := ⟨_, rfl⟩
        rw [← hTT] at cva
        have HB0 : Hid (Below w.heap.size w wr) := HL.out.1
        have HTT : Hid (TT = nb acc) := hTT
        clear hb hxq HM HL hTT
        go_wp2_with fail
        go_ret3
        rw [HRe.out]
        unfold r3s
        simp only
        rw [HN.out, ← HTT.out]
        exact ⟨rfl, HB0.out⟩
      · have n0 : ((x : Int) != (q : Int)) = true := by rw [bne_iff_ne]; omega
        have hend : ¬ bt S k = some q := by rw [hb]; simp; exact hxq
        have HSg : Hid (∀ w : World, Calls Tryz.prog 31 #[.string S, .int .i64 (k : Int)] w fun e w' => e = .returned (r3u (lsg S k)) ∧ w' = w) := fun w => qsign_any S k x w hb hS
        cases hm : lsg S k with
        | inl c =>
          have HRe : Hid (R = .inl c) := by show _ = _; rw [← HM.out, ll_bad hend hm]
          have hc0 : (((c.1 : Nat) : Int) != 0) = true := by have := lsg_code hm; rw [bne_iff_ne]; omega
          rw [hm] at HSg
          have HB0 : Hid (Below w.heap.size w wr) := HL.out.1
          clear hb hxq HM HL hm hend HX
          go_wp2_with fail
          refine (HSg.out _).mono ?_
          rintro e w1 ⟨rfl, hw1⟩
          rw [hw1]
          clear hw1
          unfold r3u
          go_wp2_with fail
          go_ret3
          rw [HRe.out]
          exact ⟨rfl, HB0.out⟩
        | inr r =>
          obtain ⟨b, n⟩ := r
          have hok := lsg_ok hm
          have hsl : ∃ a c, u8 = .slice a acc.length c := by
            obtain ⟨_, ⟨h1, h2⟩ | ⟨g, cap, cur, e, _⟩⟩ := HL.out.2.out
            · exact ⟨none, 0, by rw [h1, h2]⟩
            · exact ⟨_, cap, e⟩
          obtain ⟨av, cv, rfl⟩ := hsl
          by_cases hl5 : acc.length = 255
          · have HRe : Hid (R = .inl (2, p)) := by show _ = _; rw [← HM.out, ll_long hend hm hl5]
            rw [hm] at HSg
            rw [hl5] at HL ⊢
            have HB0 : Hid (Below w.heap.size w wr) := HL.out.1
            clear hb hxq HM HL hm hend HX hl5
            go_wp2_with fail
            refine (HSg.out _).mono ?_
            rintro e w1 ⟨rfl, hw1⟩
            rw [hw1]
            clear hw1
            unfold r3u
            go_wp2_with fail
            go_ret3
            rw [HRe.out]
            exact ⟨rfl, HB0.out⟩
          · have HM2 : Hid (ll S q p n (acc ++ [b]) = R) := by show _ = _; rw [← HM.out, ll_on hend hm hl5]
            have HX2 : Hid (∀ y ∈ acc ++ [b], y < 256) := fun y hy => by
              rcases List.mem_append.1 hy with h | h
              · exact HX.out y h
              · simp at h; omega
            have d5 : ((acc.length : Int) == 255) = false := by rw [beq_eq_false_iff_ne]; omega
            have hkn : k < n := hok.2.1
            have hns : n ≤ S.size := hok.2.2
            have hal2 : acc.length ≤ 254 := by omega
            have hsz : w.heap.size ≤ wr.heap.size := HL.out.1.out.size
            rw [hm] at HSg
            clear hb hxq HM hm hend HX hl5 hok
            go_wp2_with fail
            refine (HSg.out _).mono ?_
            rintro e w1 ⟨rfl, hw1⟩
            rw [hw1]
            clear hw1
            unfold r3u
            go_wp2_with (first | (at_builtin; refine wpList_append_own _ rfl (.tmp 44) (.tmp 46) 86 rfl w.heap.size 5 i0 (.int .u8 0) 1 1 Tryz.underlying86 hi0 hz0 hz1 hz2 rfl (by decide) _ _ _ rfl (HL.out.2.out.alloc _) ⟨wr.heap.size, 0, none⟩ 1 1 [.int .u8 (b : Int)] rfl rfl (one_newB _ _ _) (bytes_ok [(b : Int)]) (by unfold maxLen; omega) (by omega) (by simp; omega) ?_; intro v2 w2 hown2 hgr2 hnil2))
            have HL2 : Hid (Lq w v2 (acc ++ [b]) w2) := by
              refine ⟨hid ((HL.out.1.out.alloc hsz _).grown hgr2 (by simp; omega) (fun y e => (HL.out.2.out.lt y e).1)), hid ?_⟩
              rw [nv_append, List.length_append]; exact hown2
            clear hown2 hgr2 hnil2 HL
            go_roundw
            case rel => exact ⟨n, acc ++ [b], rfl, hns, by simp; omega, HX2, HM2, HL2⟩
            case measure => simp [intOf]; omega
theorem le_noneB {S : ByteArray} {k : Nat} (h : bt S k = none) : le S k = k := by
  have := bt_none h
  unfold le
  rw [show S.size - k = 0 by omega, lnd]
theorem le_eqB {S : ByteArray} {k x : Nat} (h : bt S k = some x) : le S k = if x = 10 then k else le S (k + 1) := by
  rw [le_end (bt_lt h).1, h]
  simp
set_option maxRecDepth 100000 in
set_option maxHeartbeats 8000000 in
theorem qblanks_any (S : ByteArray) (p : Nat) (w : World) (hp : p ≤ S.size) (hS : S.size ≤ 9007199254740992) :
    Calls Tryz.prog 10 #[.string S, .int .i64 (p : Int)] w fun e w' => e = .returned (.int .i64 (sb S p : Int)) ∧ w' = w := by
  obtain ⟨R, hR⟩ : ∃ R, R = sb S p := ⟨_, rfl⟩
  rw [← hR]
  have HR : Hid (sb S p = R) := hR.symm
  clear hR
  go_enter Tryz.func10, Tryz.ntmps10
  go_wp2_with fail
  go_loopw [1] (fun a wr => ∃ k : Nat, a = .int .i64 (k : Int) ∧ k ≤ S.size ∧ Hid (sb S k = R) ∧ wr = w) (fun a _ => S.size - (intOf a).toNat)
  case atStart => exact ⟨p, rfl, hp, HR, rfl⟩
  case round =>
    obtain ⟨k, rfl, hk, HK, rfl⟩ := hrel
    clear HR
    cases hb : bt S k with
    | none =>
      have hge := bt_none hb
      have a0 : decide ((k : Int) < (S.size : Int)) = false := by simp; omega
      have HF : Hid (R = k) := by show _ = _; rw [← HK.out, sb_none hb]
      clear hb
      go_wp2_with fail
      go_ret
      rw [HF.out]
      exact ⟨rfl, rfl⟩
    | some x =>
      obtain ⟨hkk, hxk⟩ := bt_at hb
      have hkI : (k : Int) < (S.size : Int) := by omega
      have hx6 := (bt_lt hb).2
      have a0 : decide ((k : Int) < (S.size : Int)) = true := by simp; omega
      have hse := sb_eq hb
      by_cases h35 : x = 35
      · have t35 : ((x : Int) == 35) = true := by simp; omega
        have HF : Hid (sb S (le S k) = R) := by
          show _ = _
          rw [← HK.out, hse, h35]; rfl
        have hgt := le_gt hb (by omega)
        have hle := (le_le (S := S) (k := k) hk).2
        obtain ⟨E, hE⟩ : ∃ E, E = le S k := ⟨_, rfl⟩
        rw [← hE] at HF hgt hle
        have HE : Hid (le S k = E) := hE.symm
        clear hb hse h35 hE
        go_wp2_with fail
        go_loopw [1] (fun a wr2 => ∃ j : Nat, a = .int .i64 (j : Int) ∧ k ≤ j ∧ j ≤ S.size ∧ Hid (le S j = E) ∧ wr2 = wr) (fun a _ => S.size - (intOf a).toNat)
        case atStart => exact ⟨k, rfl, Nat.le_refl _, hk, HE, rfl⟩
        case round =>
          obtain ⟨j, rfl, hkj, hj, HJ, rfl⟩ := hrel
          cases hbj : bt S j with
          | none =>
            have hge := bt_none hbj
            have a0j : decide ((j : Int) < (S.size : Int)) = false := by simp; omega
            have HjE : Hid (j = E) := by show _ = _; rw [← HJ.out, le_noneB hbj]
            have hkj2 : k < j := by rw [HjE.out]; exact hgt
            clear hbj
            go_wp2_with fail
            go_roundw
            case rel => exact ⟨j, rfl, hj, hid (by rw [HjE.out]; exact HF.out), by first | rfl | trivial⟩
            case measure => simp [intOf]; omega
          | some y =>
            obtain ⟨hjk, hyj⟩ := bt_at hbj
            have hjI : (j : Int) < (S.size : Int) := by omega
            have a0j : decide ((j : Int) < (S.size : Int)) = true := by simp; omega
            have hje := le_eqB hbj
            by_cases h10 : y = 10
            · have t10 : ((y : Int) != 10) = false := by simp; omega
              have HjE : Hid (j = E) := by show _ = _; rw [← HJ.out, hje, if_pos h10]
              have hkj2 : k < j := by rw [HjE.out]; exact hgt
              clear hbj hje h10
              go_wp2_with fail
              go_roundw
              case rel => exact ⟨j, rfl, hj, hid (by rw [HjE.out]; exact HF.out), by first | rfl | trivial⟩
              case measure => simp [intOf]; omega
            · have t10 : ((y : Int) != 10) = true := by rw [bne_iff_ne]; omega
              have HJ2 : Hid (le S (j + 1) = E) := by show _ = _; rw [← HJ.out, hje, if_neg h10]
              have HN : Hid (((j + 1 : Nat) : Int) = (j : Int) + 1) := by show _ = _; omega
              clear hbj hje h10
              go_wp2_with fail
              go_roundw
              case rel => exact ⟨j + 1, by rw [HN.out], by omega, by omega, HJ2, by first | rfl | trivial⟩
              case measure => simp [intOf]; omega
      · have t35 : ((x : Int) == 35) = false := by simp; omega
        by_cases hbl : blB x = true
        · have HF : Hid (sb S (k + 1) = R) := by show _ = _; rw [← HK.out, hse, hbl]; rfl
          have HN : Hid (((k + 1 : Nat) : Int) = (k : Int) + 1) := by show _ = _; omega
          have hc : x = 9 ∨ x = 10 ∨ x = 13 ∨ x = 32 := by unfold blB at hbl; simpa using hbl
          clear hb hse hbl
          rcases hc with h | h | h | h
          · have t9 : ((x : Int) == 9) = true := by simp; omega
            clear h
            go_wp2_with fail
            go_roundw
            case rel => exact ⟨k + 1, by rw [HN.out], by omega, HF, by first | rfl | trivial⟩
            case measure => simp [intOf]; omega
          · have t9 : ((x : Int) == 9) = false := by simp; omega
            have t10 : ((x : Int) == 10) = true := by simp; omega
            clear h
            go_wp2_with fail
            go_roundw
            case rel => exact ⟨k + 1, by rw [HN.out], by omega, HF, by first | rfl | trivial⟩
            case measure => simp [intOf]; omega
          · have t9 : ((x : Int) == 9) = false := by simp; omega
            have t10 : ((x : Int) == 10) = false := by simp; omega
            have t13 : ((x : Int) == 13) = true := by simp; omega
            clear h
            go_wp2_with fail
            go_roundw
            case rel => exact ⟨k + 1, by rw [HN.out], by omega, HF, by first | rfl | trivial⟩
            case measure => simp [intOf]; omega
          · have t9 : ((x : Int) == 9) = false := by simp; omega
            have t10 : ((x : Int) == 10) = false := by simp; omega
            have t13 : ((x : Int) == 13) = false := by simp; omega
            have t32 : ((x : Int) == 32) = true := by simp; omega
            clear h
            go_wp2_with fail
            go_roundw
            case rel => exact ⟨k + 1, by rw [HN.out], by omega, HF, by first | rfl | trivial⟩
            case measure => simp [intOf]; omega
        · have HF : Hid (R = k) := by show _ = _; rw [← HK.out, hse, if_neg hbl, if_neg h35]
          have hc : x ≠ 9 ∧ x ≠ 10 ∧ x ≠ 13 ∧ x ≠ 32 := by unfold blB at hbl; simpa using hbl
          have t9 : ((x : Int) == 9) = false := by simp; omega
          have t10 : ((x : Int) == 10) = false := by simp; omega
          have t13 : ((x : Int) == 13) = false := by simp; omega
          have t32 : ((x : Int) == 32) = false := by simp; omega
          clear hb hse hbl hc h35
          go_wp2_with fail
          go_ret
          rw [HF.out]
          exact ⟨rfl, rfl⟩
theorem and1 (n : Nat) (h : n < 18446744073709551616) : bits BinOp.and IntKind.u64 (n : Int) 1 = ((n % 2 : Nat) : Int) := by
  have := Go.bits_and_u64_nat n 1 h (by omega)
  rw [Nat.and_one_is_mod] at this
  exact this

theorem has_cell (C b : Nat) (hb : b < 256) : [Value.int IntKind.u64 (wd C 0 : Nat), .int .u64 (wd C 1 : Nat), .int .u64 (wd C 2 : Nat), .int .u64 (wd C 3 : Nat)][b / 64]? = some (.int .u64 (wd C (b / 64) : Nat)) := by
  have : b / 64 = 0 ∨ b / 64 = 1 ∨ b / 64 = 2 ∨ b / 64 = 3 := by omega
  rcases this with e | e | e | e <;> rw [e] <;> rfl
set_option maxRecDepth 100000 in
set_option maxHeartbeats 1000000 in
theorem rhas_any (C : Nat) (b : Nat) (w : World) (hx : b < 256) :
    Calls Tryz.prog 51 #[cv C, .int .i64 (b : Int)] w fun e w' => e = .returned (.bool (C.testBit b)) ∧ Below w.heap.size w w' := by
  have hc := has_cell C b hx
  unfold cv
  have hd : bits BinOp.and IntKind.u64 ((wd C (b / 64) : Int) / 2 ^ (b % 64)) 1 = ((wd C (b / 64) / 2 ^ (b % 64) % 2 : Nat) : Int) := by
    have := and1 (wd C (b / 64) / 2 ^ (b % 64)) (Nat.lt_of_le_of_lt (Nat.div_le_self _ _) (wd_lt _ _))
    rw [← this]
    congr 1
  have hT : ((((wd C (b / 64) / 2 ^ (b % 64) % 2 : Nat) : Int)) == 1) = C.testBit b := by
    have e1 := wd_bit C (b / 64) (b % 64)
    rw [show 64 * (b / 64) + b % 64 = b by omega, Nat.testBit_eq_decide_div_mod_eq] at e1
    simp only [show b % 64 < 64 by omega, decide_true, Bool.true_and] at e1
    rw [← e1]
    rcases Nat.mod_two_eq_zero_or_one (wd C (b / 64) / 2 ^ (b % 64)) with h | h <;> rw [h] <;> rfl
  go_enter Tryz.func51, Tryz.ntmps51
  go_wp2
  go_ret
  exact ⟨by rw [← hT]; rfl, (Below.refl _ _).alloc (Nat.le_refl _) _⟩
theorem rhas_val (C b : Nat) (v : Bool) (w : World) (h : C.testBit b = v) (hx : b < 256) :
    Calls Tryz.prog 51 #[cv C, .int .i64 (b : Int)] w fun e w' => e = .returned (.bool v) ∧ Below w.heap.size w w' := h ▸ rhas_any C b w hx
set_option maxRecDepth 100000 in
set_option maxHeartbeats 2000000 in
theorem rwith_any (C : Nat) (b : Nat) (w : World) (hx : b < 256) :
    Calls Tryz.prog 33 #[cv C, .int .i64 (b : Int)] w fun e w' => e = .returned (cv (C ||| 2 ^ b)) ∧ Below w.heap.size w w' := by
  unfold cv
  have hd : b / 64 = 0 ∨ b / 64 = 1 ∨ b / 64 = 2 ∨ b / 64 = 3 := by omega
  have hp := put_cells C b
  have pw : ∀ k, b / 64 = k → bits BinOp.or IntKind.u64 (wd C k : Nat) (IntKind.u64.wrap (2 ^ (b % 64))) = (wd (C ||| 2 ^ b) k : Nat) := by
    intro k hk
    subst hk
    have h := put_word C b hx
    have hpp : 2 ^ (b % 64) < 2 ^ 64 := Nat.pow_lt_pow_right (by decide) (by omega)
    have hw : IntKind.u64.wrap (2 ^ (b % 64)) = 2 ^ (b % 64) := by
      rw [IntKind.wrap_u64]
      have : ((2 : Int) ^ (b % 64)) = ((2 ^ (b % 64) : Nat) : Int) := (Int.natCast_pow 2 (b % 64)).symm
      rw [this]
      exact Int.emod_eq_of_lt (Int.natCast_nonneg _) (Int.ofNat_lt.2 hpp)
    rw [hw]; exact h
  have ne : ∀ k, k < 4 → b / 64 ≠ k → wd (C ||| 2 ^ b) k = wd C k := fun k hk h => by rw [wd_put C b k hx hk, if_neg h]
  clear hp
  rcases hd with hd | hd | hd | hd
  · have hdI : (b : Int) / 64 = 0 := by omega
    have u := pw 0 hd
    have e1 := ne 1 (by omega) (by omega)
    have e2 := ne 2 (by omega) (by omega)
    have e3 := ne 3 (by omega) (by omega)
    clear pw ne
    go_enter Tryz.func33, Tryz.ntmps33
    go_wp2
    go_region
    go_wp2
    refine bodyPost_ret (v := .agg #[.int .u64 (wd (C ||| 2 ^ b) 0 : Nat), .int .u64 (wd (C ||| 2 ^ b) 1 : Nat), .int .u64 (wd (C ||| 2 ^ b) 2 : Nat), .int .u64 (wd (C ||| 2 ^ b) 3 : Nat)]) (by simp [results, Tryz.results33, go_sem, e1, e2, e3]) rfl ⟨rfl, ?_⟩
    exact (((Below.refl _ _).alloc (Nat.le_refl _) _).alloc (by simp) _).drew
  · have hdI : (b : Int) / 64 = 1 := by omega
    have u := pw 1 hd
    have e0 := ne 0 (by omega) (by omega)
    have e2 := ne 2 (by omega) (by omega)
    have e3 := ne 3 (by omega) (by omega)
    clear pw ne
    go_enter Tryz.func33, Tryz.ntmps33
    go_wp2
    go_region
    go_wp2
    refine bodyPost_ret (v := .agg #[.int .u64 (wd (C ||| 2 ^ b) 0 : Nat), .int .u64 (wd (C ||| 2 ^ b) 1 : Nat), .int .u64 (wd (C ||| 2 ^ b) 2 : Nat), .int .u64 (wd (C ||| 2 ^ b) 3 : Nat)]) (by simp [results, Tryz.results33, go_sem, e0, e2, e3]) rfl ⟨rfl, ?_⟩
    exact (((Below.refl _ _).alloc (Nat.le_refl _) _).alloc (by simp) _).drew
  · have hdI : (b : Int) / 64 = 2 := by omega
    have u := pw 2 hd
    have e0 := ne 0 (by omega) (by omega)
    have e1 := ne 1 (by omega) (by omega)
    have e3 := ne 3 (by omega) (by omega)
    clear pw ne
    go_enter Tryz.func33, Tryz.ntmps33
    go_wp2
    go_region
    go_wp2
    refine bodyPost_ret (v := .agg #[.int .u64 (wd (C ||| 2 ^ b) 0 : Nat), .int .u64 (wd (C ||| 2 ^ b) 1 : Nat), .int .u64 (wd (C ||| 2 ^ b) 2 : Nat), .int .u64 (wd (C ||| 2 ^ b) 3 : Nat)]) (by simp [results, Tryz.results33, go_sem, e0, e1, e3]) rfl ⟨rfl, ?_⟩
    exact (((Below.refl _ _).alloc (Nat.le_refl _) _).alloc (by simp) _).drew
  · have hdI : (b : Int) / 64 = 3 := by omega
    have u := pw 3 hd
    have e0 := ne 0 (by omega) (by omega)
    have e1 := ne 1 (by omega) (by omega)
    have e2 := ne 2 (by omega) (by omega)
    clear pw ne
    go_enter Tryz.func33, Tryz.ntmps33
    go_wp2
    go_region
    go_wp2
    refine bodyPost_ret (v := .agg #[.int .u64 (wd (C ||| 2 ^ b) 0 : Nat), .int .u64 (wd (C ||| 2 ^ b) 1 : Nat), .int .u64 (wd (C ||| 2 ^ b) 2 : Nat), .int .u64 (wd (C ||| 2 ^ b) 3 : Nat)]) (by simp [results, Tryz.results33, go_sem, e0, e1, e2]) rfl ⟨rfl, ?_⟩
    exact (((Below.refl _ _).alloc (Nat.le_refl _) _).alloc (by simp) _).drew
def Cl (w : World) (g C : Nat) : Prop := w.cell? ⟨g, 0, none⟩ = some (.int .u64 (wd C 0 : Nat)) ∧ w.cell? ⟨g, 1, none⟩ = some (.int .u64 (wd C 1 : Nat)) ∧ w.cell? ⟨g, 2, none⟩ = some (.int .u64 (wd C 2 : Nat)) ∧ w.cell? ⟨g, 3, none⟩ = some (.int .u64 (wd C 3 : Nat))
theorem Cl.lt {w : World} {g C : Nat} (h : Cl w g C) : g < w.heap.size := World.block_lt_of_cell? w _ h.1
theorem Cl.below {w w' : World} {g C : Nat} (h : Cl w g C) (hb : Below w.heap.size w w') : Cl w' g C := by
  have hl := h.lt
  unfold Cl at *
  rw [hb.cell (p := ⟨g, 0, none⟩) hl, hb.cell (p := ⟨g, 1, none⟩) hl, hb.cell (p := ⟨g, 2, none⟩) hl, hb.cell (p := ⟨g, 3, none⟩) hl]
  exact h
theorem Cl.alloc {w : World} {g C : Nat} (h : Cl w g C) (o : Obj) : Cl (w.alloc o) g C := h.below ((Below.refl _ _).alloc (Nat.le_refl _) _)
theorem Cl.new (w : World) (C : Nat) {n : Nat} (hn : n = w.heap.size) : Cl (w.alloc (.cells #[.int .u64 (wd C 0 : Nat), .int .u64 (wd C 1 : Nat), .int .u64 (wd C 2 : Nat), .int .u64 (wd C 3 : Nat)] 30)) n C := by subst hn; exact (Blk.new w C).cells
theorem Cl.drew {w : World} {g C : Nat} (h : Cl w g C) : Cl w.drew g C := h
theorem Cl.st4 {w : World} {g g' C : Nat} (h : Cl w g C) (hne : g ≠ g') (D : Nat) : Cl (st4 w g' D) g C := by
  have e : (Proofs.YtkofhmmnlapnnaaGreatDoor.st4 w g' D).heap[g]? = w.heap[g]? := by
    unfold Proofs.YtkofhmmnlapnnaaGreatDoor.st4
    rw [Below.heap_setCell _ _ _ _ hne, Below.heap_setCell _ _ _ _ hne, Below.heap_setCell _ _ _ _ hne, Below.heap_setCell _ _ _ _ hne]
  have c : ∀ k, (Proofs.YtkofhmmnlapnnaaGreatDoor.st4 w g' D).cell? ⟨g, k, none⟩ = w.cell? ⟨g, k, none⟩ := fun k => by simp only [World.cell?]; rw [e]
  unfold Cl at *
  rw [c, c, c, c]
  exact h
/-- The bytes below b of which f holds. -/
def low (f : Nat → Bool) : Nat → Nat
  | 0 => 0
  | b + 1 => if f b then low f b ||| 2 ^ b else low f b
theorem low_bit (f : Nat → Bool) (j : Nat) : ∀ b, (low f b).testBit j = (decide (j < b) && f j)
  | 0 => by simp [low]
  | b + 1 => by
    rw [low]
    by_cases hf : f b = true
    · rw [if_pos hf, Nat.testBit_or, low_bit f j b, Nat.testBit_two_pow]
      by_cases h1 : b = j
      · subst h1; simp [hf]
      · by_cases h2 : j < b
        · simp [h1, h2, show j < b + 1 by omega]
        · simp [h1, h2, show ¬ j < b + 1 by omega]
    · rw [if_neg hf, low_bit f j b]
      by_cases h1 : b = j
      · subst h1; simp [hf]
      · by_cases h2 : j < b
        · simp [h2, show j < b + 1 by omega]
        · simp [h2, show ¬ j < b + 1 by omega]
theorem low_eq (f : Nat → Bool) (C : Nat) (hC : C < 2 ^ 256) (h : ∀ j, j < 256 → f j = C.testBit j) : low f 256 = C := by
  apply Nat.eq_of_testBit_eq
  intro j
  rw [low_bit]
  by_cases hj : j < 256
  · simp [hj, h j hj]
  · rw [Nat.testBit_lt_two_pow (Nat.lt_of_lt_of_le hC (Nat.pow_le_pow_right (by decide) (by omega)))]
    simp [hj]
set_option maxRecDepth 100000 in
set_option maxHeartbeats 4000000 in
theorem rmix_not (C D : Nat) (w : World) (hC : C < 2 ^ 256) (hD : D < 2 ^ 256) :
    Calls Tryz.prog 34 #[.int .i64 2, cv C, cv D] w fun e w' => e = .returned (cv (cnot C)) ∧ Below w.heap.size w w' := by
  obtain ⟨f, hf⟩ : ∃ f : Nat → Bool, f = fun b => (!C.testBit b) := ⟨_, rfl⟩
  have hfin : low f 256 = cnot C := low_eq f _ (cnot_lt C) (fun j hj => by rw [hf]; simp [cnot_bit C hC, hj])
  have HF : Hid (low f 256 = cnot C) := hfin
  have HF' : Hid (f = fun b => (!C.testBit b)) := hf
  clear hf hfin
  unfold cv
  go_enter Tryz.func34, Tryz.ntmps34
  go_wp2_with fail
  go_loopw [8] (fun i wr => ∃ b : Nat, b ≤ 256 ∧ i = .int .i64 (b : Int) ∧ Hid (Below w.heap.size w wr) ∧ Hid (Cl wr w.heap.size C) ∧ Hid (Cl wr (w.heap.size + 1) D) ∧ Hid (Blk wr (w.heap.size + 1 + 1) 0) ∧ Hid (Blk wr (w.heap.size + 1 + 1 + 1) (low f b))) (fun i _ => 256 - (intOf i).toNat)
  case atStart =>
    refine ⟨0, by omega, rfl, hid (((((Below.refl _ _).alloc (Nat.le_refl _) _).alloc (by simp) _).alloc (by simp <;> omega) _).alloc (by simp <;> omega) _), hid ((((Cl.new w C rfl).alloc _).alloc _).alloc _), hid (((Cl.new _ D (by simp)).alloc _).alloc _), hid ?_, hid ?_⟩
    · refine Blk.alloc ?_ _
      simpa using Blk.new0 ((w.alloc (.cells #[.int .u64 (wd C 0 : Nat), .int .u64 (wd C 1 : Nat), .int .u64 (wd C 2 : Nat), .int .u64 (wd C 3 : Nat)] 30)).alloc (.cells #[.int .u64 (wd D 0 : Nat), .int .u64 (wd D 1 : Nat), .int .u64 (wd D 2 : Nat), .int .u64 (wd D 3 : Nat)] 30))
    · rw [show low f 0 = 0 from rfl]
      simpa using Blk.new0 (((w.alloc (.cells #[.int .u64 (wd C 0 : Nat), .int .u64 (wd C 1 : Nat), .int .u64 (wd C 2 : Nat), .int .u64 (wd C 3 : Nat)] 30)).alloc (.cells #[.int .u64 (wd D 0 : Nat), .int .u64 (wd D 1 : Nat), .int .u64 (wd D 2 : Nat), .int .u64 (wd D 3 : Nat)] 30)).alloc (.cells #[.int .u64 0, .int .u64 0, .int .u64 0, .int .u64 0] 30))
  case round =>
    obtain ⟨b, hb1, rfl, HB, HC, HD, HR, HG⟩ := hrel
    by_cases hbh : b < 256
    · obtain ⟨c0, c1, c2, c3⟩ := HC.out
      cases hx : C.testBit b
      · cases hy : D.testBit b
        · have hl : low f (b + 1) = low f b ||| 2 ^ b := by rw [low, HF'.out]; simp [hx]
          have HL : Hid (low f (b + 1) = low f b ||| 2 ^ b) := hl
          clear hl
          go_wp2_with fail
          refine (rhas_val _ _ _ _ hx hbh).mono ?_
          rintro e w1 ⟨rfl, hb3⟩
          have HC1 : Hid (Cl w1 w.heap.size C) := HC.out.below hb3
          have HD1 : Hid (Cl w1 (w.heap.size + 1) D) := HD.out.below hb3
          have HR1 : Hid (Blk w1 (w.heap.size + 1 + 1) 0) := HR.out.below hb3 HR.out.lt
          have HG1 : Hid (Blk w1 (w.heap.size + 1 + 1 + 1) (low f b)) := HG.out.below hb3 HG.out.lt
          have HB1 : Hid (Below w.heap.size w w1) := HB.out.trans (hb3.mono HB.out.size)
          clear hb3 c0 c1 c2 c3 HC HD HR HG HB
          obtain ⟨d0, d1, d2, d3⟩ := HD1.out
          go_wp2_with fail
          refine (rhas_val _ _ _ _ hy hbh).mono ?_
          rintro e w2 ⟨rfl, hb3⟩
          have HC2 : Hid (Cl w2 w.heap.size C) := HC1.out.below hb3
          have HD2 : Hid (Cl w2 (w.heap.size + 1) D) := HD1.out.below hb3
          have HR2 : Hid (Blk w2 (w.heap.size + 1 + 1) 0) := HR1.out.below hb3 HR1.out.lt
          have HG2 : Hid (Blk w2 (w.heap.size + 1 + 1 + 1) (low f b)) := HG1.out.below hb3 HG1.out.lt
          have HB2 : Hid (Below w.heap.size w w2) := HB1.out.trans (hb3.mono HB1.out.size)
          clear hb3 d0 d1 d2 d3 HC1 HD1 HR1 HG1 HB1
          obtain ⟨c0, c1, c2, c3⟩ := HG2.out.cells
          go_wp2_with fail
          refine (rwith_any _ _ _ hbh).mono ?_
          rintro e w3 ⟨rfl, hb3⟩
          have HC3 : Hid (Cl w3 w.heap.size C) := HC2.out.below hb3
          have HD3 : Hid (Cl w3 (w.heap.size + 1) D) := HD2.out.below hb3
          have HR3 : Hid (Blk w3 (w.heap.size + 1 + 1) 0) := HR2.out.below hb3 HR2.out.lt
          have HG3 : Hid (Blk w3 (w.heap.size + 1 + 1 + 1) (low f b)) := HG2.out.below hb3 HG2.out.lt
          have HB3 : Hid (Below w.heap.size w w3) := HB2.out.trans (hb3.mono HB2.out.size)
          clear hb3 c0 c1 c2 c3 HC2 HD2 HR2 HG2 HB2
          obtain ⟨c0, c1, c2, c3⟩ := HG3.out.cells
          obtain ⟨f0, f1, f2, f3⟩ := HG3.out.thaw
          rw [← HL.out]
          dsimp only [cv]
          go_wp2_with fail
          go_roundw
          case rel => exact ⟨b + 1, by omega, by go_num, hid (Below.st4 HB3.out (by omega) (low f (b + 1))), hid (HC3.out.st4 (by omega) _), hid (HD3.out.st4 (by omega) _), hid (HR3.out.other (by omega)), hid (HG3.out.st4 _)⟩
          case measure => simp [intOf]; omega
        · have hl : low f (b + 1) = low f b ||| 2 ^ b := by rw [low, HF'.out]; simp [hx]
          have HL : Hid (low f (b + 1) = low f b ||| 2 ^ b) := hl
          clear hl
          go_wp2_with fail
          refine (rhas_val _ _ _ _ hx hbh).mono ?_
          rintro e w1 ⟨rfl, hb3⟩
          have HC1 : Hid (Cl w1 w.heap.size C) := HC.out.below hb3
          have HD1 : Hid (Cl w1 (w.heap.size + 1) D) := HD.out.below hb3
          have HR1 : Hid (Blk w1 (w.heap.size + 1 + 1) 0) := HR.out.below hb3 HR.out.lt
          have HG1 : Hid (Blk w1 (w.heap.size + 1 + 1 + 1) (low f b)) := HG.out.below hb3 HG.out.lt
          have HB1 : Hid (Below w.heap.size w w1) := HB.out.trans (hb3.mono HB.out.size)
          clear hb3 c0 c1 c2 c3 HC HD HR HG HB
          obtain ⟨d0, d1, d2, d3⟩ := HD1.out
          go_wp2_with fail
          refine (rhas_val _ _ _ _ hy hbh).mono ?_
          rintro e w2 ⟨rfl, hb3⟩
          have HC2 : Hid (Cl w2 w.heap.size C) := HC1.out.below hb3
          have HD2 : Hid (Cl w2 (w.heap.size + 1) D) := HD1.out.below hb3
          have HR2 : Hid (Blk w2 (w.heap.size + 1 + 1) 0) := HR1.out.below hb3 HR1.out.lt
          have HG2 : Hid (Blk w2 (w.heap.size + 1 + 1 + 1) (low f b)) := HG1.out.below hb3 HG1.out.lt
          have HB2 : Hid (Below w.heap.size w w2) := HB1.out.trans (hb3.mono HB1.out.size)
          clear hb3 d0 d1 d2 d3 HC1 HD1 HR1 HG1 HB1
          obtain ⟨c0, c1, c2, c3⟩ := HG2.out.cells
          go_wp2_with fail
          refine (rwith_any _ _ _ hbh).mono ?_
          rintro e w3 ⟨rfl, hb3⟩
          have HC3 : Hid (Cl w3 w.heap.size C) := HC2.out.below hb3
          have HD3 : Hid (Cl w3 (w.heap.size + 1) D) := HD2.out.below hb3
          have HR3 : Hid (Blk w3 (w.heap.size + 1 + 1) 0) := HR2.out.below hb3 HR2.out.lt
          have HG3 : Hid (Blk w3 (w.heap.size + 1 + 1 + 1) (low f b)) := HG2.out.below hb3 HG2.out.lt
          have HB3 : Hid (Below w.heap.size w w3) := HB2.out.trans (hb3.mono HB2.out.size)
          clear hb3 c0 c1 c2 c3 HC2 HD2 HR2 HG2 HB2
          obtain ⟨c0, c1, c2, c3⟩ := HG3.out.cells
          obtain ⟨f0, f1, f2, f3⟩ := HG3.out.thaw
          rw [← HL.out]
          dsimp only [cv]
          go_wp2_with fail
          go_roundw
          case rel => exact ⟨b + 1, by omega, by go_num, hid (Below.st4 HB3.out (by omega) (low f (b + 1))), hid (HC3.out.st4 (by omega) _), hid (HD3.out.st4 (by omega) _), hid (HR3.out.other (by omega)), hid (HG3.out.st4 _)⟩
          case measure => simp [intOf]; omega
      · cases hy : D.testBit b
        · have hl : low f (b + 1) = low f b := by rw [low, HF'.out]; simp [hx]
          have HL : Hid (low f (b + 1) = low f b) := hl
          clear hl
          go_wp2_with fail
          refine (rhas_val _ _ _ _ hx hbh).mono ?_
          rintro e w1 ⟨rfl, hb3⟩
          have HC1 : Hid (Cl w1 w.heap.size C) := HC.out.below hb3
          have HD1 : Hid (Cl w1 (w.heap.size + 1) D) := HD.out.below hb3
          have HR1 : Hid (Blk w1 (w.heap.size + 1 + 1) 0) := HR.out.below hb3 HR.out.lt
          have HG1 : Hid (Blk w1 (w.heap.size + 1 + 1 + 1) (low f b)) := HG.out.below hb3 HG.out.lt
          have HB1 : Hid (Below w.heap.size w w1) := HB.out.trans (hb3.mono HB.out.size)
          clear hb3 c0 c1 c2 c3 HC HD HR HG HB
          obtain ⟨d0, d1, d2, d3⟩ := HD1.out
          go_wp2_with fail
          refine (rhas_val _ _ _ _ hy hbh).mono ?_
          rintro e w2 ⟨rfl, hb3⟩
          have HC2 : Hid (Cl w2 w.heap.size C) := HC1.out.below hb3
          have HD2 : Hid (Cl w2 (w.heap.size + 1) D) := HD1.out.below hb3
          have HR2 : Hid (Blk w2 (w.heap.size + 1 + 1) 0) := HR1.out.below hb3 HR1.out.lt
          have HG2 : Hid (Blk w2 (w.heap.size + 1 + 1 + 1) (low f b)) := HG1.out.below hb3 HG1.out.lt
          have HB2 : Hid (Below w.heap.size w w2) := HB1.out.trans (hb3.mono HB1.out.size)
          clear hb3 d0 d1 d2 d3 HC1 HD1 HR1 HG1 HB1
          go_wp2_with fail
          go_roundw
          case rel => exact ⟨b + 1, by omega, by go_num, HB2, HC2, HD2, HR2, hid (by rw [HL.out]; exact HG2.out)⟩
          case measure => simp [intOf]; omega
        · have hl : low f (b + 1) = low f b := by rw [low, HF'.out]; simp [hx]
          have HL : Hid (low f (b + 1) = low f b) := hl
          clear hl
          go_wp2_with fail
          refine (rhas_val _ _ _ _ hx hbh).mono ?_
          rintro e w1 ⟨rfl, hb3⟩
          have HC1 : Hid (Cl w1 w.heap.size C) := HC.out.below hb3
          have HD1 : Hid (Cl w1 (w.heap.size + 1) D) := HD.out.below hb3
          have HR1 : Hid (Blk w1 (w.heap.size + 1 + 1) 0) := HR.out.below hb3 HR.out.lt
          have HG1 : Hid (Blk w1 (w.heap.size + 1 + 1 + 1) (low f b)) := HG.out.below hb3 HG.out.lt
          have HB1 : Hid (Below w.heap.size w w1) := HB.out.trans (hb3.mono HB.out.size)
          clear hb3 c0 c1 c2 c3 HC HD HR HG HB
          obtain ⟨d0, d1, d2, d3⟩ := HD1.out
          go_wp2_with fail
          refine (rhas_val _ _ _ _ hy hbh).mono ?_
          rintro e w2 ⟨rfl, hb3⟩
          have HC2 : Hid (Cl w2 w.heap.size C) := HC1.out.below hb3
          have HD2 : Hid (Cl w2 (w.heap.size + 1) D) := HD1.out.below hb3
          have HR2 : Hid (Blk w2 (w.heap.size + 1 + 1) 0) := HR1.out.below hb3 HR1.out.lt
          have HG2 : Hid (Blk w2 (w.heap.size + 1 + 1 + 1) (low f b)) := HG1.out.below hb3 HG1.out.lt
          have HB2 : Hid (Below w.heap.size w w2) := HB1.out.trans (hb3.mono HB1.out.size)
          clear hb3 d0 d1 d2 d3 HC1 HD1 HR1 HG1 HB1
          go_wp2_with fail
          go_roundw
          case rel => exact ⟨b + 1, by omega, by go_num, HB2, HC2, HD2, HR2, hid (by rw [HL.out]; exact HG2.out)⟩
          case measure => simp [intOf]; omega
    · obtain rfl : b = 256 := by omega
      have HG1 : Hid (Blk wr (w.heap.size + 1 + 1 + 1) (cnot C)) := by rw [← HF.out]; exact HG
      obtain ⟨c0, c1, c2, c3⟩ := HG1.out.cells
      obtain ⟨f0, f1, f2, f3⟩ := HR.out.thaw
      obtain ⟨d0, d1, d2, d3⟩ := HR.out.cells
      obtain ⟨r0, r1, r2, r3⟩ := (HR.out.st4 (cnot C)).cells
      unfold st4 at r0 r1 r2 r3
      have HB2 : Hid (Below w.heap.size w (st4 wr (w.heap.size + 1 + 1) (cnot C))) := Below.st4 HB.out (by omega) _
      clear HB HR HG HG1
      go_wp2_with fail
      refine bodyPost_ret (v := cv (cnot C)) (by simp [results, Tryz.results34, go_sem, r0, r1, r2, r3]) rfl ⟨rfl, HB2.out⟩
/-- What a class is handed back as. -/
def rA (r : Rs) : Value :=
  match r with
  | .inr (C, n) => .tuple #[cv C, .int .i64 (n : Int), .int .i64 0]
  | .inl c => .tuple #[cv 0, .int .i64 (c.2 : Int), .int .i64 (c.1 : Int)]
theorem seg_or_step (acc lo b : Nat) (h : lo ≤ b) : (acc ||| seg lo b) ||| 2 ^ b = acc ||| seg lo (b + 1) := by rw [seg_succ lo b h, Nat.or_assoc]
theorem blk_seg {w : World} {g acc lo b c : Nat} (h : Hid (Blk w g (acc ||| seg lo b))) (e : b = c) : Hid (Blk w g (acc ||| seg lo c)) := e ▸ h
theorem sg_bad_code {S : ByteArray} {k : Nat} {c : Nat × Nat} (h : sg S k = .inl c) : c.1 = 3 ∨ c.1 = 4 := by
  have hf : ∀ j, (flt S j).1 = 3 ∨ (flt S j).1 = 4 := fun j => by unfold flt; split <;> simp
  have hd : ∀ j e, digs S j = .inl e → e.1 = 3 ∨ e.1 = 4 := fun j e he => by
    unfold digs at he
    split at he
    · simp at he; rw [← he]; exact hf _
    · split at he
      · simp at he; rw [← he]; exact hf _
      · cases he
  unfold sg at h
  split at h
  · simp at h; rw [← h]; exact hf _
  · split at h
    · unfold esc at h
      split at h
      · simp at h; rw [← h]; exact hf _
      · split at h
        · cases h
        · split at h
          · exact hd _ _ h
          · simp at h; rw [← h]; exact hf _
    · split at h
      · cases h
      · simp at h; rw [← h]; exact hf _
set_option maxRecDepth 100000 in
set_option maxHeartbeats 8000000 in
theorem rparse_pos (S : ByteArray) (w : World) (h0 : bt S 0 = some 91) (h1 : ¬ bt S 1 = some 94) (hS : S.size ≤ 9007199254740992) :
    Calls Tryz.prog 19 #[.string S] w fun e w' => e = .returned (rA (mm S 1 0)) ∧ Below w.heap.size w w' := by
  obtain ⟨hk0', hx0⟩ := bt_at h0
  have hz0 : ((S.size : Int) == 0) = false := by rw [beq_eq_false_iff_ne]; omega
  have hz0' : ¬ S.size = 0 := by omega
  have hkI0 : (0 : Int) < (S.size : Int) := by omega
  have hk0 : 1 ≤ S.size := (bt_lt h0).1
  obtain ⟨R, hR⟩ : ∃ R, R = mm S 1 0 := ⟨_, rfl⟩
  rw [← hR]
  have HR : Hid (mm S 1 0 = R) := hR.symm
  clear hR
  cases hb1 : bt S 1 with
  | none =>
    have hge1 := bt_none hb1
    have d1 : decide ((1 : Int) < (S.size : Int)) = false := by simp; omega
    have d1' : ¬ 1 < S.size := by omega
    have hz1 : S.size = 1 := by omega
    have HRe : Hid (R = .inl (3, 1)) := by show _ = _; rw [← HR.out, mm_bad (by rw [hb1]; simp) (by unfold mbr sg; rw [hb1])]; rw [flt_end hge1, hz1]
    have HS1 : Hid (∀ w : World, Calls Tryz.prog 32 #[.string S, .int .i64 1] w fun e w' => e = .returned (.tuple #[.int .i64 0, .int .i64 1, .int .i64 3]) ∧ w' = w) := fun w => by
      have h := rsign_any S 1 w hS
      rw [show sg S 1 = .inl (3, 1) by unfold sg; rw [hb1]; simp only; rw [flt_end hge1, hz1]] at h
      exact h
    clear h0 h1 hb1 hz1
    go_enter Tryz.func19, Tryz.ntmps19
    go_wp2_with fail
    refine wp_loop_rounds 1 ?_
    rw [rounds_succ]
    go_wp2_with fail
    refine (HS1.out _).mono ?_
    rintro e w3 ⟨rfl, rfl⟩
    go_wp2_with fail
    (try simp only [Exit.inBlock, Exit.then])
    refine bodyPost_ret (v := .tuple #[.agg #[.int .u64 0, .int .u64 0, .int .u64 0, .int .u64 0], .int .i64 1, .int .i64 3]) (by simp [results, Tryz.results19, go_sem]) rfl ?_
    rw [HRe.out]
    exact ⟨by unfold rA; simp only; rw [cv0]; try rfl, ((Below.refl _ _).alloc (Nat.le_refl _) _).alloc (by simp) _⟩
  | some y1 =>
    have hyl1 := (bt_lt hb1).2
    obtain ⟨hk1, hx1⟩ := bt_at hb1
    have hk1I : (1 : Int) < (S.size : Int) := by omega
    have d1 : decide ((1 : Int) < (S.size : Int)) = true := by simp; omega
    have d2 : ((y1 : Int) == 94) = false := by rw [beq_eq_false_iff_ne]; intro e; exact h1 (by rw [hb1]; congr 1; omega)
    clear h0 h1 hb1
    go_enter Tryz.func19, Tryz.ntmps19
    go_wp2_with fail
    go_loopw [6] (fun a wr => ∃ (k acc : Nat), a = .int .i64 (k : Int) ∧ k ≤ S.size ∧ Hid (mm S k acc = R) ∧ Hid (acc < 2 ^ 256) ∧ Hid (Below w.heap.size w wr) ∧ Hid (Blk wr w.heap.size 0) ∧ Hid (Blk wr (w.heap.size + 1) acc)) (fun a _ => S.size - (intOf a).toNat)
    case atStart =>
      refine ⟨1, 0, rfl, hk0, HR, hid (by decide +kernel), hid (((Below.refl _ _).alloc (Nat.le_refl _) _).alloc (by simp) _), hid ((Blk.new0 w).alloc _), ?_⟩
      have h2 := Blk.new0 (w.alloc (.cells #[.int .u64 0, .int .u64 0, .int .u64 0, .int .u64 0] 30))
      rw [World.size_alloc] at h2
      exact hid h2
    case round =>
      obtain ⟨k, acc, rfl, hks, HM, HA, HB, HRb, HO⟩ := hrel
      clear hx0
      by_cases h93 : bt S k = some 93
      · obtain ⟨hkk, hxk⟩ := bt_at h93
        have hkI : (k : Int) < (S.size : Int) := by omega
        have a0 : decide ((S.size : Int) ≤ (k : Int)) = false := by simp; omega
        have HRe : Hid (R = .inr (acc, k + 1)) := by show _ = _; rw [← HM.out, mm_end h93]
        have HN : Hid (((k + 1 : Nat) : Int) = (k : Int) + 1) := by show _ = _; omega
        clear h93 HM
        obtain ⟨c0, c1, c2, c3⟩ := HO.out.cells
        obtain ⟨d0, d1, d2, d3⟩ := HRb.out.cells
        obtain ⟨f0, f1, f2, f3⟩ := HRb.out.thaw
        obtain ⟨r0, r1, r2, r3'⟩ := (HRb.out.st4 acc).cells
        have HBe : Hid (Below w.heap.size w (st4 wr w.heap.size acc)) := Below.st4 HB.out (Nat.le_refl _) _
        unfold st4 at r0 r1 r2 r3'
        clear HRb HO
        go_wp2_with fail
        refine bodyPost_ret (v := .tuple #[cv acc, .int .i64 ((k : Int) + 1), .int .i64 0]) (by simp [results, Tryz.results19, go_sem, r0, r1, r2, r3']) rfl ?_
        rw [HRe.out]
        exact ⟨by unfold rA; simp only; rw [HN.out], HBe.out⟩
      · cases hb0 : bt S k with
        | none =>
          have hge := bt_none hb0
          have a0 : decide ((S.size : Int) ≤ (k : Int)) = true := by simp; omega
          obtain ⟨c, hs⟩ : ∃ c, sg S k = .inl c := ⟨flt S k, by unfold sg; rw [hb0]⟩
          have hc0 : (((c.1 : Nat) : Int) != 0) = true := by have := sg_bad_code hs; rw [bne_iff_ne]; omega
          have HRe : Hid (R = .inl c) := by show _ = _; rw [← HM.out, mm_bad h93 (by unfold mbr; rw [hs])]
          have HS1 : Hid (∀ w : World, Calls Tryz.prog 32 #[.string S, .int .i64 (k : Int)] w fun e w' => e = .returned (.tuple #[.int .i64 0, .int .i64 (c.2 : Int), .int .i64 (c.1 : Int)]) ∧ w' = w) := fun w => by have h := rsign_any S k w hS; rw [hs] at h; exact h
          clear h93 HM hs hb0
          go_wp2_with fail
          refine (HS1.out _).mono ?_
          rintro e w3 ⟨rfl, rfl⟩
          obtain ⟨c0, c1, c2, c3⟩ := HRb.out.cells
          obtain ⟨f0, f1, f2, f3⟩ := HRb.out.thaw
          obtain ⟨r0, r1, r2, r3'⟩ := HRb.out.zero
          unfold z4 at r0 r1 r2 r3'
          go_wp2_with fail
          (try simp only [Exit.inBlock, Exit.then])
          refine bodyPost_ret (v := .tuple #[.agg #[.int .u64 0, .int .u64 0, .int .u64 0, .int .u64 0], .int .i64 (c.2 : Int), .int .i64 (c.1 : Int)]) (by simp [results, Tryz.results19, go_sem, r0, r1, r2, r3']) rfl ?_
          rw [HRe.out]
          refine ⟨by unfold rA; simp only; rw [cv0]; try rfl, ?_⟩
          have hbe := Below.st4 HB.out (Nat.le_refl _) 0
          rw [← z4_eq] at hbe
          exact hbe
        | some x =>
          have hxl := (bt_lt hb0).2
          obtain ⟨hkk, hxk⟩ := bt_at hb0
          have hkI : (k : Int) < (S.size : Int) := by omega
          have a0 : decide ((S.size : Int) ≤ (k : Int)) = false := by simp; omega
          have hx93 : x ≠ 93 := fun e => h93 (by rw [hb0, e])
          have n93 : ((x : Int) != 93) = true := by rw [bne_iff_ne]; omega
          cases hs : sg S k with
          | inl c =>
            have hc0 : (((c.1 : Nat) : Int) != 0) = true := by have := sg_bad_code hs; rw [bne_iff_ne]; omega
            have HRe : Hid (R = .inl c) := by show _ = _; rw [← HM.out, mm_bad h93 (by unfold mbr; rw [hs])]
            have HS1 : Hid (∀ w : World, Calls Tryz.prog 32 #[.string S, .int .i64 (k : Int)] w fun e w' => e = .returned (.tuple #[.int .i64 0, .int .i64 (c.2 : Int), .int .i64 (c.1 : Int)]) ∧ w' = w) := fun w => by have h := rsign_any S k w hS; rw [hs] at h; exact h
            clear h93 HM hs hb0
            go_wp2_with fail
            refine (HS1.out _).mono ?_
            rintro e w3 ⟨rfl, rfl⟩
            obtain ⟨c0, c1, c2, c3⟩ := HRb.out.cells
            obtain ⟨f0, f1, f2, f3⟩ := HRb.out.thaw
            obtain ⟨r0, r1, r2, r3'⟩ := HRb.out.zero
            unfold z4 at r0 r1 r2 r3'
            go_wp2_with fail
            (try simp only [Exit.inBlock, Exit.then])
            refine bodyPost_ret (v := .tuple #[.agg #[.int .u64 0, .int .u64 0, .int .u64 0, .int .u64 0], .int .i64 (c.2 : Int), .int .i64 (c.1 : Int)]) (by simp [results, Tryz.results19, go_sem, r0, r1, r2, r3']) rfl ?_
            rw [HRe.out]
            refine ⟨by unfold rA; simp only; rw [cv0]; try rfl, ?_⟩
            have hbe := Below.st4 HB.out (Nat.le_refl _) 0
            rw [← z4_eq] at hbe
            exact hbe
          | inr q =>
            obtain ⟨lo, n⟩ := q
            have hok := sg_ok hs
            have HS1 : Hid (∀ w : World, Calls Tryz.prog 32 #[.string S, .int .i64 (k : Int)] w fun e w' => e = .returned (.tuple #[.int .i64 (lo : Int), .int .i64 (n : Int), .int .i64 0]) ∧ w' = w) := fun w => by have h := rsign_any S k w hS; rw [hs] at h; exact h
            cases hbn : bt S n with
            | none =>
              have hgn := bt_none hbn
              have g0 : decide ((n : Int) < (S.size : Int)) = false := by simp; omega
              have hmb : mbr S k = .inr (seg lo (lo + 1), n) := by unfold mbr; rw [hs]; simp only; rw [hbn, if_neg (by simp)]
              have hkn : k < n := hok.2.1
              have hNs : n ≤ S.size := hok.2.2
              have hlo : lo < 256 := hok.1
              have HM2 : Hid (mm S n (acc ||| seg lo (lo + 1)) = R) := by show _ = _; rw [← HM.out, mm_on h93 hmb]
              have HA2 : Hid (acc ||| seg lo (lo + 1) < 2 ^ 256) := Nat.or_lt_two_pow HA.out (mbr_ok hmb).1
              clear h93 HM hs hb0 hbn hx93 hok hmb HA
              go_wp2_with fail
              refine (HS1.out _).mono ?_
              rintro e w3 ⟨rfl, rfl⟩
              go_wp2_with fail
              go_loopw [12] (fun bv wq => ∃ (b : Nat), bv = .int .i64 (b : Int) ∧ lo ≤ b ∧ b ≤ lo + 1 ∧ Hid (Below w.heap.size w wq) ∧ Hid (Blk wq w.heap.size 0) ∧ Hid (Blk wq (w.heap.size + 1) (acc ||| seg lo b))) (fun bv _ => lo + 1 - (intOf bv).toNat)
              case atStart => exact ⟨lo, rfl, Nat.le_refl _, by omega, HB, HRb, by rw [seg_zero, Nat.or_zero]; exact HO⟩
              case round =>
                obtain ⟨b, rfl, hb1, hb2, HBq, HRq, HOq⟩ := hrel
                by_cases hbh : b ≤ lo
                · have lb : decide ((b : Int) ≤ (lo : Int)) = true := by simp; omega
                  have HW : Hid (∀ w : World, Calls Tryz.prog 33 #[cv (acc ||| seg lo b), .int .i64 (b : Int)] w fun e w' => e = .returned (cv (acc ||| seg lo (b + 1))) ∧ Below w.heap.size w w') := fun w => by have h := rwith_any (acc ||| seg lo b) b w (by omega); rw [seg_or_step acc lo b hb1] at h; exact h
                  obtain ⟨c0, c1, c2, c3⟩ := HOq.out.cells
                  go_wp2_with fail
                  refine (HW.out _).mono ?_
                  rintro e w5 ⟨rfl, hb5⟩
                  have HB5 : Hid (Below w.heap.size w w5) := HBq.out.trans (hb5.mono HBq.out.size)
                  have HR5 : Hid (Blk w5 w.heap.size 0) := HRq.out.below hb5 HRq.out.lt
                  have HO5 : Hid (Blk w5 (w.heap.size + 1) (acc ||| seg lo b)) := HOq.out.below hb5 HOq.out.lt
                  clear hb5 HBq HRq HOq c0 c1 c2 c3
                  obtain ⟨c0, c1, c2, c3⟩ := HO5.out.cells
                  obtain ⟨f0, f1, f2, f3⟩ := HO5.out.thaw
                  dsimp only [cv]
                  go_wp2_with fail
                  go_roundw
                  case rel => exact ⟨b + 1, by go_num, by omega, by omega, hid (Below.st4 HB5.out (by omega) (acc ||| seg lo (b + 1))), hid (HR5.out.other (by omega)), hid (HO5.out.st4 _)⟩
                  case measure => simp [intOf]; omega
                · have lb : decide ((b : Int) ≤ (lo : Int)) = false := by simp; omega
                  have HO6 := blk_seg HOq (show b = lo + 1 by omega)
                  clear HOq
                  go_wp2_with fail
                  go_roundw
                  case rel => exact ⟨n, acc ||| seg lo (lo + 1), rfl, hNs, HM2, HA2, HBq, HRq, HO6⟩
                  case measure => simp [intOf]; omega
            | some z =>
              have hzl := (bt_lt hbn).2
              obtain ⟨hnk, hzk⟩ := bt_at hbn
              have hnI : (n : Int) < (S.size : Int) := by omega
              have g0 : decide ((n : Int) < (S.size : Int)) = true := by simp; omega
              by_cases h45 : z = 45
              · subst h45
                cases hs2 : sg S (n + 1) with
                | inl c =>
                  have hc0 : (((c.1 : Nat) : Int) != 0) = true := by have := sg_bad_code hs2; rw [bne_iff_ne]; omega
                  have HRe : Hid (R = .inl c) := by show _ = _; rw [← HM.out, mm_bad h93 (by unfold mbr; rw [hs]; simp only; rw [hbn, if_pos rfl, hs2])]
                  have HS2 : Hid (∀ w : World, Calls Tryz.prog 32 #[.string S, .int .i64 ((n : Int) + 1)] w fun e w' => e = .returned (.tuple #[.int .i64 0, .int .i64 (c.2 : Int), .int .i64 (c.1 : Int)]) ∧ w' = w) := fun w => by have h := rsign_any S (n + 1) w hS; rw [hs2, show ((n + 1 : Nat) : Int) = (n : Int) + 1 by omega] at h; exact h
                  clear h93 HM hs hs2 hb0 hbn hx93
                  go_wp2_with fail
                  refine (HS1.out _).mono ?_
                  rintro e w3 ⟨rfl, rfl⟩
                  go_wp2_with fail
                  refine (HS2.out _).mono ?_
                  rintro e w3 ⟨rfl, rfl⟩
                  obtain ⟨c0, c1, c2, c3⟩ := HRb.out.cells
                  obtain ⟨f0, f1, f2, f3⟩ := HRb.out.thaw
                  obtain ⟨r0, r1, r2, r3'⟩ := HRb.out.zero
                  unfold z4 at r0 r1 r2 r3'
                  go_wp2_with fail
                  (try simp only [Exit.inBlock, Exit.then])
                  refine bodyPost_ret (v := .tuple #[.agg #[.int .u64 0, .int .u64 0, .int .u64 0, .int .u64 0], .int .i64 (c.2 : Int), .int .i64 (c.1 : Int)]) (by simp [results, Tryz.results19, go_sem, r0, r1, r2, r3']) rfl ?_
                  rw [HRe.out]
                  refine ⟨by unfold rA; simp only; rw [cv0]; try rfl, ?_⟩
                  have hbe := Below.st4 HB.out (Nat.le_refl _) 0
                  rw [← z4_eq] at hbe
                  exact hbe
                | inr q2 =>
                  obtain ⟨hi, n2⟩ := q2
                  have hok2 := sg_ok hs2
                  have HS2 : Hid (∀ w : World, Calls Tryz.prog 32 #[.string S, .int .i64 ((n : Int) + 1)] w fun e w' => e = .returned (.tuple #[.int .i64 (hi : Int), .int .i64 (n2 : Int), .int .i64 0]) ∧ w' = w) := fun w => by have h := rsign_any S (n + 1) w hS; rw [hs2, show ((n + 1 : Nat) : Int) = (n : Int) + 1 by omega] at h; exact h
                  by_cases hlt : hi < lo
                  · have HRe : Hid (R = .inl (4, k)) := by show _ = _; rw [← HM.out, mm_bad h93 (by unfold mbr; rw [hs]; simp only; rw [hbn, if_pos rfl, hs2]; simp only; rw [if_pos hlt])]; rw [flt_form hkk]
                    have e1 : decide ((hi : Int) < (lo : Int)) = true := by simp; omega
                    clear h93 HM hs hs2 hb0 hbn hx93 hok hok2
                    go_wp2_with fail
                    refine (HS1.out _).mono ?_
                    rintro e w3 ⟨rfl, rfl⟩
                    go_wp2_with fail
                    refine (HS2.out _).mono ?_
                    rintro e w3 ⟨rfl, rfl⟩
                    obtain ⟨c0, c1, c2, c3⟩ := HRb.out.cells
                    obtain ⟨f0, f1, f2, f3⟩ := HRb.out.thaw
                    obtain ⟨r0, r1, r2, r3'⟩ := HRb.out.zero
                    unfold z4 at r0 r1 r2 r3'
                    go_wp2_with fail
                    (try simp only [Exit.inBlock, Exit.then])
                    refine bodyPost_ret (v := .tuple #[.agg #[.int .u64 0, .int .u64 0, .int .u64 0, .int .u64 0], .int .i64 (k : Int), .int .i64 (4 : Int)]) (by simp [results, Tryz.results19, go_sem, r0, r1, r2, r3']) rfl ?_
                    rw [HRe.out]
                    refine ⟨by unfold rA; simp only; rw [cv0]; try rfl, ?_⟩
                    have hbe := Below.st4 HB.out (Nat.le_refl _) 0
                    rw [← z4_eq] at hbe
                    exact hbe
                  · have e1 : decide ((hi : Int) < (lo : Int)) = false := by simp; omega
                    have e2 : lo ≤ hi := by omega
                    have hhi : hi < 256 := hok2.1
                    have hmb : mbr S k = .inr (seg lo (hi + 1), n2) := by unfold mbr; rw [hs]; simp only; rw [hbn, if_pos rfl, hs2]; simp only; rw [if_neg hlt]
                    have hkn : k < n2 := by omega
                    have hNs : n2 ≤ S.size := hok2.2.2
                    have HM2 : Hid (mm S n2 (acc ||| seg lo (hi + 1)) = R) := by show _ = _; rw [← HM.out, mm_on h93 hmb]
                    have HA2 : Hid (acc ||| seg lo (hi + 1) < 2 ^ 256) := Nat.or_lt_two_pow HA.out (mbr_ok hmb).1
                    clear h93 HM hs hs2 hb0 hbn hx93 hok hok2 hmb hlt HA
                    go_wp2_with fail
                    refine (HS1.out _).mono ?_
                    rintro e w3 ⟨rfl, rfl⟩
                    go_wp2_with fail
                    refine (HS2.out _).mono ?_
                    rintro e w3 ⟨rfl, rfl⟩
                    go_wp2_with fail
                    go_loopw [12] (fun bv wq => ∃ (b : Nat), bv = .int .i64 (b : Int) ∧ lo ≤ b ∧ b ≤ hi + 1 ∧ Hid (Below w.heap.size w wq) ∧ Hid (Blk wq w.heap.size 0) ∧ Hid (Blk wq (w.heap.size + 1) (acc ||| seg lo b))) (fun bv _ => hi + 1 - (intOf bv).toNat)
                    case atStart => exact ⟨lo, rfl, Nat.le_refl _, by omega, HB, HRb, by rw [seg_zero, Nat.or_zero]; exact HO⟩
                    case round =>
                      obtain ⟨b, rfl, hb1, hb2, HBq, HRq, HOq⟩ := hrel
                      by_cases hbh : b ≤ hi
                      · have lb : decide ((b : Int) ≤ (hi : Int)) = true := by simp; omega
                        have HW : Hid (∀ w : World, Calls Tryz.prog 33 #[cv (acc ||| seg lo b), .int .i64 (b : Int)] w fun e w' => e = .returned (cv (acc ||| seg lo (b + 1))) ∧ Below w.heap.size w w') := fun w => by have h := rwith_any (acc ||| seg lo b) b w (by omega); rw [seg_or_step acc lo b hb1] at h; exact h
                        obtain ⟨c0, c1, c2, c3⟩ := HOq.out.cells
                        go_wp2_with fail
                        refine (HW.out _).mono ?_
                        rintro e w5 ⟨rfl, hb5⟩
                        have HB5 : Hid (Below w.heap.size w w5) := HBq.out.trans (hb5.mono HBq.out.size)
                        have HR5 : Hid (Blk w5 w.heap.size 0) := HRq.out.below hb5 HRq.out.lt
                        have HO5 : Hid (Blk w5 (w.heap.size + 1) (acc ||| seg lo b)) := HOq.out.below hb5 HOq.out.lt
                        clear hb5 HBq HRq HOq c0 c1 c2 c3
                        obtain ⟨c0, c1, c2, c3⟩ := HO5.out.cells
                        obtain ⟨f0, f1, f2, f3⟩ := HO5.out.thaw
                        dsimp only [cv]
                        go_wp2_with fail
                        go_roundw
                        case rel => exact ⟨b + 1, by go_num, by omega, by omega, hid (Below.st4 HB5.out (by omega) (acc ||| seg lo (b + 1))), hid (HR5.out.other (by omega)), hid (HO5.out.st4 _)⟩
                        case measure => simp [intOf]; omega
                      · have lb : decide ((b : Int) ≤ (hi : Int)) = false := by simp; omega
                        have HO6 := blk_seg HOq (show b = hi + 1 by omega)
                        clear HOq
                        go_wp2_with fail
                        go_roundw
                        case rel => exact ⟨n2, acc ||| seg lo (hi + 1), rfl, hNs, HM2, HA2, HBq, HRq, HO6⟩
                        case measure => simp [intOf]; omega
              · have n45 : ((z : Int) == 45) = false := by rw [beq_eq_false_iff_ne]; omega
                have hmb : mbr S k = .inr (seg lo (lo + 1), n) := by unfold mbr; rw [hs]; simp only; rw [hbn, if_neg (by simpa using h45)]
                have hkn : k < n := hok.2.1
                have hNs : n ≤ S.size := hok.2.2
                have hlo : lo < 256 := hok.1
                have HM2 : Hid (mm S n (acc ||| seg lo (lo + 1)) = R) := by show _ = _; rw [← HM.out, mm_on h93 hmb]
                have HA2 : Hid (acc ||| seg lo (lo + 1) < 2 ^ 256) := Nat.or_lt_two_pow HA.out (mbr_ok hmb).1
                clear h93 HM hs hb0 hbn hx93 hok hmb HA
                go_wp2_with fail
                refine (HS1.out _).mono ?_
                rintro e w3 ⟨rfl, rfl⟩
                go_wp2_with fail
                go_loopw [12] (fun bv wq => ∃ (b : Nat), bv = .int .i64 (b : Int) ∧ lo ≤ b ∧ b ≤ lo + 1 ∧ Hid (Below w.heap.size w wq) ∧ Hid (Blk wq w.heap.size 0) ∧ Hid (Blk wq (w.heap.size + 1) (acc ||| seg lo b))) (fun bv _ => lo + 1 - (intOf bv).toNat)
                case atStart => exact ⟨lo, rfl, Nat.le_refl _, by omega, HB, HRb, by rw [seg_zero, Nat.or_zero]; exact HO⟩
                case round =>
                  obtain ⟨b, rfl, hb1, hb2, HBq, HRq, HOq⟩ := hrel
                  by_cases hbh : b ≤ lo
                  · have lb : decide ((b : Int) ≤ (lo : Int)) = true := by simp; omega
                    have HW : Hid (∀ w : World, Calls Tryz.prog 33 #[cv (acc ||| seg lo b), .int .i64 (b : Int)] w fun e w' => e = .returned (cv (acc ||| seg lo (b + 1))) ∧ Below w.heap.size w w') := fun w => by have h := rwith_any (acc ||| seg lo b) b w (by omega); rw [seg_or_step acc lo b hb1] at h; exact h
                    obtain ⟨c0, c1, c2, c3⟩ := HOq.out.cells
                    go_wp2_with fail
                    refine (HW.out _).mono ?_
                    rintro e w5 ⟨rfl, hb5⟩
                    have HB5 : Hid (Below w.heap.size w w5) := HBq.out.trans (hb5.mono HBq.out.size)
                    have HR5 : Hid (Blk w5 w.heap.size 0) := HRq.out.below hb5 HRq.out.lt
                    have HO5 : Hid (Blk w5 (w.heap.size + 1) (acc ||| seg lo b)) := HOq.out.below hb5 HOq.out.lt
                    clear hb5 HBq HRq HOq c0 c1 c2 c3
                    obtain ⟨c0, c1, c2, c3⟩ := HO5.out.cells
                    obtain ⟨f0, f1, f2, f3⟩ := HO5.out.thaw
                    dsimp only [cv]
                    go_wp2_with fail
                    go_roundw
                    case rel => exact ⟨b + 1, by go_num, by omega, by omega, hid (Below.st4 HB5.out (by omega) (acc ||| seg lo (b + 1))), hid (HR5.out.other (by omega)), hid (HO5.out.st4 _)⟩
                    case measure => simp [intOf]; omega
                  · have lb : decide ((b : Int) ≤ (lo : Int)) = false := by simp; omega
                    have HO6 := blk_seg HOq (show b = lo + 1 by omega)
                    clear HOq
                    go_wp2_with fail
                    go_roundw
                    case rel => exact ⟨n, acc ||| seg lo (lo + 1), rfl, hNs, HM2, HA2, HBq, HRq, HO6⟩
                    case measure => simp [intOf]; omega
set_option maxRecDepth 100000 in
set_option maxHeartbeats 8000000 in
theorem rparse_neg (S : ByteArray) (w : World) (h0 : bt S 0 = some 91) (h1 :  bt S 1 = some 94) (hS : S.size ≤ 9007199254740992) :
    Calls Tryz.prog 19 #[.string S] w fun e w' => e = .returned (rA (ng (mm S 2 0))) ∧ Below w.heap.size w w' := by
  obtain ⟨hk0', hx0⟩ := bt_at h0
  have hz0 : ((S.size : Int) == 0) = false := by rw [beq_eq_false_iff_ne]; omega
  have hz0' : ¬ S.size = 0 := by omega
  have hkI0 : (0 : Int) < (S.size : Int) := by omega
  have hk0 : 2 ≤ S.size := (bt_lt h1).1
  obtain ⟨R, hR⟩ : ∃ R, R = mm S 2 0 := ⟨_, rfl⟩
  rw [← hR]
  have HR : Hid (mm S 2 0 = R) := hR.symm
  clear hR
  obtain ⟨hk1, hx1⟩ := bt_at h1
  have hk1I : (1 : Int) < (S.size : Int) := by omega
  have d1 : decide ((1 : Int) < (S.size : Int)) = true := by simp; omega
  clear h0 h1
  go_enter Tryz.func19, Tryz.ntmps19
  go_wp2_with fail
  go_loopw [6] (fun a wr => ∃ (k acc : Nat), a = .int .i64 (k : Int) ∧ k ≤ S.size ∧ Hid (mm S k acc = R) ∧ Hid (acc < 2 ^ 256) ∧ Hid (Below w.heap.size w wr) ∧ Hid (Blk wr w.heap.size 0) ∧ Hid (Blk wr (w.heap.size + 1) acc)) (fun a _ => S.size - (intOf a).toNat)
  case atStart =>
    refine ⟨2, 0, rfl, hk0, HR, hid (by decide +kernel), hid (((Below.refl _ _).alloc (Nat.le_refl _) _).alloc (by simp) _), hid ((Blk.new0 w).alloc _), ?_⟩
    have h2 := Blk.new0 (w.alloc (.cells #[.int .u64 0, .int .u64 0, .int .u64 0, .int .u64 0] 30))
    rw [World.size_alloc] at h2
    exact hid h2
  case round =>
    obtain ⟨k, acc, rfl, hks, HM, HA, HB, HRb, HO⟩ := hrel
    clear hx0
    by_cases h93 : bt S k = some 93
    · obtain ⟨hkk, hxk⟩ := bt_at h93
      have hkI : (k : Int) < (S.size : Int) := by omega
      have a0 : decide ((S.size : Int) ≤ (k : Int)) = false := by simp; omega
      have HRe : Hid (R = .inr (acc, k + 1)) := by show _ = _; rw [← HM.out, mm_end h93]
      have HN : Hid (((k + 1 : Nat) : Int) = (k : Int) + 1) := by show _ = _; omega
      clear h93 HM
      obtain ⟨c0, c1, c2, c3⟩ := HO.out.cells
      go_wp2_with fail
      refine (rmix_not acc acc _ HA.out HA.out).mono ?_
      rintro e w4 ⟨rfl, hb4⟩
      have HB4 : Hid (Below w.heap.size w w4) := HB.out.trans (hb4.mono HB.out.size)
      have HR4 : Hid (Blk w4 w.heap.size 0) := HRb.out.below hb4 HRb.out.lt
      have HO4 : Hid (Blk w4 (w.heap.size + 1) acc) := HO.out.below hb4 HO.out.lt
      clear hb4 HB HRb HO c0 c1 c2 c3
      obtain ⟨c0, c1, c2, c3⟩ := HO4.out.cells
      obtain ⟨f0, f1, f2, f3⟩ := HO4.out.thaw
      have HR5 : Hid (Blk (st4 w4 (w.heap.size + 1) (cnot acc)) w.heap.size 0) := HR4.out.other (by omega)
      obtain ⟨d0, d1, d2, d3⟩ := HR5.out.cells
      obtain ⟨g0, g1, g2, g3⟩ := HR5.out.thaw
      obtain ⟨x0, x1, x2, x3⟩ := (HO4.out.st4 (cnot acc)).cells
      obtain ⟨r0, r1, r2, r3'⟩ := (HR5.out.st4 (cnot acc)).cells
      have HBe : Hid (Below w.heap.size w (st4 (st4 w4 (w.heap.size + 1) (cnot acc)) w.heap.size (cnot acc))) := Below.st4 (Below.st4 HB4.out (by omega) _) (Nat.le_refl _) _
      unfold st4 at d0 d1 d2 d3 g0 g1 g2 g3 x0 x1 x2 x3 r0 r1 r2 r3'
      clear HR4 HR5 HO4
      dsimp only [cv]
      go_wp2_with fail
      refine bodyPost_ret (v := .tuple #[cv (cnot acc), .int .i64 ((k : Int) + 1), .int .i64 0]) (by simp [results, Tryz.results19, go_sem, r0, r1, r2, r3']) rfl ?_
      rw [HRe.out]
      exact ⟨by unfold ng rA; simp only; rw [HN.out], HBe.out⟩
    · cases hb0 : bt S k with
      | none =>
        have hge := bt_none hb0
        have a0 : decide ((S.size : Int) ≤ (k : Int)) = true := by simp; omega
        obtain ⟨c, hs⟩ : ∃ c, sg S k = .inl c := ⟨flt S k, by unfold sg; rw [hb0]⟩
        have hc0 : (((c.1 : Nat) : Int) != 0) = true := by have := sg_bad_code hs; rw [bne_iff_ne]; omega
        have HRe : Hid (R = .inl c) := by show _ = _; rw [← HM.out, mm_bad h93 (by unfold mbr; rw [hs])]
        have HS1 : Hid (∀ w : World, Calls Tryz.prog 32 #[.string S, .int .i64 (k : Int)] w fun e w' => e = .returned (.tuple #[.int .i64 0, .int .i64 (c.2 : Int), .int .i64 (c.1 : Int)]) ∧ w' = w) := fun w => by have h := rsign_any S k w hS; rw [hs] at h; exact h
        clear h93 HM hs hb0
        go_wp2_with fail
        refine (HS1.out _).mono ?_
        rintro e w3 ⟨rfl, rfl⟩
        obtain ⟨c0, c1, c2, c3⟩ := HRb.out.cells
        obtain ⟨f0, f1, f2, f3⟩ := HRb.out.thaw
        obtain ⟨r0, r1, r2, r3'⟩ := HRb.out.zero
        unfold z4 at r0 r1 r2 r3'
        go_wp2_with fail
        (try simp only [Exit.inBlock, Exit.then])
        refine bodyPost_ret (v := .tuple #[.agg #[.int .u64 0, .int .u64 0, .int .u64 0, .int .u64 0], .int .i64 (c.2 : Int), .int .i64 (c.1 : Int)]) (by simp [results, Tryz.results19, go_sem, r0, r1, r2, r3']) rfl ?_
        rw [HRe.out]
        refine ⟨by unfold ng rA; simp only; rw [cv0]; try rfl, ?_⟩
        have hbe := Below.st4 HB.out (Nat.le_refl _) 0
        rw [← z4_eq] at hbe
        exact hbe
      | some x =>
        have hxl := (bt_lt hb0).2
        obtain ⟨hkk, hxk⟩ := bt_at hb0
        have hkI : (k : Int) < (S.size : Int) := by omega
        have a0 : decide ((S.size : Int) ≤ (k : Int)) = false := by simp; omega
        have hx93 : x ≠ 93 := fun e => h93 (by rw [hb0, e])
        have n93 : ((x : Int) != 93) = true := by rw [bne_iff_ne]; omega
        cases hs : sg S k with
        | inl c =>
          have hc0 : (((c.1 : Nat) : Int) != 0) = true := by have := sg_bad_code hs; rw [bne_iff_ne]; omega
          have HRe : Hid (R = .inl c) := by show _ = _; rw [← HM.out, mm_bad h93 (by unfold mbr; rw [hs])]
          have HS1 : Hid (∀ w : World, Calls Tryz.prog 32 #[.string S, .int .i64 (k : Int)] w fun e w' => e = .returned (.tuple #[.int .i64 0, .int .i64 (c.2 : Int), .int .i64 (c.1 : Int)]) ∧ w' = w) := fun w => by have h := rsign_any S k w hS; rw [hs] at h; exact h
          clear h93 HM hs hb0
          go_wp2_with fail
          refine (HS1.out _).mono ?_
          rintro e w3 ⟨rfl, rfl⟩
          obtain ⟨c0, c1, c2, c3⟩ := HRb.out.cells
          obtain ⟨f0, f1, f2, f3⟩ := HRb.out.thaw
          obtain ⟨r0, r1, r2, r3'⟩ := HRb.out.zero
          unfold z4 at r0 r1 r2 r3'
          go_wp2_with fail
          (try simp only [Exit.inBlock, Exit.then])
          refine bodyPost_ret (v := .tuple #[.agg #[.int .u64 0, .int .u64 0, .int .u64 0, .int .u64 0], .int .i64 (c.2 : Int), .int .i64 (c.1 : Int)]) (by simp [results, Tryz.results19, go_sem, r0, r1, r2, r3']) rfl ?_
          rw [HRe.out]
          refine ⟨by unfold ng rA; simp only; rw [cv0]; try rfl, ?_⟩
          have hbe := Below.st4 HB.out (Nat.le_refl _) 0
          rw [← z4_eq] at hbe
          exact hbe
        | inr q =>
          obtain ⟨lo, n⟩ := q
          have hok := sg_ok hs
          have HS1 : Hid (∀ w : World, Calls Tryz.prog 32 #[.string S, .int .i64 (k : Int)] w fun e w' => e = .returned (.tuple #[.int .i64 (lo : Int), .int .i64 (n : Int), .int .i64 0]) ∧ w' = w) := fun w => by have h := rsign_any S k w hS; rw [hs] at h; exact h
          cases hbn : bt S n with
          | none =>
            have hgn := bt_none hbn
            have g0 : decide ((n : Int) < (S.size : Int)) = false := by simp; omega
            have hmb : mbr S k = .inr (seg lo (lo + 1), n) := by unfold mbr; rw [hs]; simp only; rw [hbn, if_neg (by simp)]
            have hkn : k < n := hok.2.1
            have hNs : n ≤ S.size := hok.2.2
            have hlo : lo < 256 := hok.1
            have HM2 : Hid (mm S n (acc ||| seg lo (lo + 1)) = R) := by show _ = _; rw [← HM.out, mm_on h93 hmb]
            have HA2 : Hid (acc ||| seg lo (lo + 1) < 2 ^ 256) := Nat.or_lt_two_pow HA.out (mbr_ok hmb).1
            clear h93 HM hs hb0 hbn hx93 hok hmb HA
            go_wp2_with fail
            refine (HS1.out _).mono ?_
            rintro e w3 ⟨rfl, rfl⟩
            go_wp2_with fail
            go_loopw [12] (fun bv wq => ∃ (b : Nat), bv = .int .i64 (b : Int) ∧ lo ≤ b ∧ b ≤ lo + 1 ∧ Hid (Below w.heap.size w wq) ∧ Hid (Blk wq w.heap.size 0) ∧ Hid (Blk wq (w.heap.size + 1) (acc ||| seg lo b))) (fun bv _ => lo + 1 - (intOf bv).toNat)
            case atStart => exact ⟨lo, rfl, Nat.le_refl _, by omega, HB, HRb, by rw [seg_zero, Nat.or_zero]; exact HO⟩
            case round =>
              obtain ⟨b, rfl, hb1, hb2, HBq, HRq, HOq⟩ := hrel
              by_cases hbh : b ≤ lo
              · have lb : decide ((b : Int) ≤ (lo : Int)) = true := by simp; omega
                have HW : Hid (∀ w : World, Calls Tryz.prog 33 #[cv (acc ||| seg lo b), .int .i64 (b : Int)] w fun e w' => e = .returned (cv (acc ||| seg lo (b + 1))) ∧ Below w.heap.size w w') := fun w => by have h := rwith_any (acc ||| seg lo b) b w (by omega); rw [seg_or_step acc lo b hb1] at h; exact h
                obtain ⟨c0, c1, c2, c3⟩ := HOq.out.cells
                go_wp2_with fail
                refine (HW.out _).mono ?_
                rintro e w5 ⟨rfl, hb5⟩
                have HB5 : Hid (Below w.heap.size w w5) := HBq.out.trans (hb5.mono HBq.out.size)
                have HR5 : Hid (Blk w5 w.heap.size 0) := HRq.out.below hb5 HRq.out.lt
                have HO5 : Hid (Blk w5 (w.heap.size + 1) (acc ||| seg lo b)) := HOq.out.below hb5 HOq.out.lt
                clear hb5 HBq HRq HOq c0 c1 c2 c3
                obtain ⟨c0, c1, c2, c3⟩ := HO5.out.cells
                obtain ⟨f0, f1, f2, f3⟩ := HO5.out.thaw
                dsimp only [cv]
                go_wp2_with fail
                go_roundw
                case rel => exact ⟨b + 1, by go_num, by omega, by omega, hid (Below.st4 HB5.out (by omega) (acc ||| seg lo (b + 1))), hid (HR5.out.other (by omega)), hid (HO5.out.st4 _)⟩
                case measure => simp [intOf]; omega
              · have lb : decide ((b : Int) ≤ (lo : Int)) = false := by simp; omega
                have HO6 := blk_seg HOq (show b = lo + 1 by omega)
                clear HOq
                go_wp2_with fail
                go_roundw
                case rel => exact ⟨n, acc ||| seg lo (lo + 1), rfl, hNs, HM2, HA2, HBq, HRq, HO6⟩
                case measure => simp [intOf]; omega
          | some z =>
            have hzl := (bt_lt hbn).2
            obtain ⟨hnk, hzk⟩ := bt_at hbn
            have hnI : (n : Int) < (S.size : Int) := by omega
            have g0 : decide ((n : Int) < (S.size : Int)) = true := by simp; omega
            by_cases h45 : z = 45
            · subst h45
              cases hs2 : sg S (n + 1) with
              | inl c =>
                have hc0 : (((c.1 : Nat) : Int) != 0) = true := by have := sg_bad_code hs2; rw [bne_iff_ne]; omega
                have HRe : Hid (R = .inl c) := by show _ = _; rw [← HM.out, mm_bad h93 (by unfold mbr; rw [hs]; simp only; rw [hbn, if_pos rfl, hs2])]
                have HS2 : Hid (∀ w : World, Calls Tryz.prog 32 #[.string S, .int .i64 ((n : Int) + 1)] w fun e w' => e = .returned (.tuple #[.int .i64 0, .int .i64 (c.2 : Int), .int .i64 (c.1 : Int)]) ∧ w' = w) := fun w => by have h := rsign_any S (n + 1) w hS; rw [hs2, show ((n + 1 : Nat) : Int) = (n : Int) + 1 by omega] at h; exact h
                clear h93 HM hs hs2 hb0 hbn hx93
                go_wp2_with fail
                refine (HS1.out _).mono ?_
                rintro e w3 ⟨rfl, rfl⟩
                go_wp2_with fail
                refine (HS2.out _).mono ?_
                rintro e w3 ⟨rfl, rfl⟩
                obtain ⟨c0, c1, c2, c3⟩ := HRb.out.cells
                obtain ⟨f0, f1, f2, f3⟩ := HRb.out.thaw
                obtain ⟨r0, r1, r2, r3'⟩ := HRb.out.zero
                unfold z4 at r0 r1 r2 r3'
                go_wp2_with fail
                (try simp only [Exit.inBlock, Exit.then])
                refine bodyPost_ret (v := .tuple #[.agg #[.int .u64 0, .int .u64 0, .int .u64 0, .int .u64 0], .int .i64 (c.2 : Int), .int .i64 (c.1 : Int)]) (by simp [results, Tryz.results19, go_sem, r0, r1, r2, r3']) rfl ?_
                rw [HRe.out]
                refine ⟨by unfold ng rA; simp only; rw [cv0]; try rfl, ?_⟩
                have hbe := Below.st4 HB.out (Nat.le_refl _) 0
                rw [← z4_eq] at hbe
                exact hbe
              | inr q2 =>
                obtain ⟨hi, n2⟩ := q2
                have hok2 := sg_ok hs2
                have HS2 : Hid (∀ w : World, Calls Tryz.prog 32 #[.string S, .int .i64 ((n : Int) + 1)] w fun e w' => e = .returned (.tuple #[.int .i64 (hi : Int), .int .i64 (n2 : Int), .int .i64 0]) ∧ w' = w) := fun w => by have h := rsign_any S (n + 1) w hS; rw [hs2, show ((n + 1 : Nat) : Int) = (n : Int) + 1 by omega] at h; exact h
                by_cases hlt : hi < lo
                · have HRe : Hid (R = .inl (4, k)) := by show _ = _; rw [← HM.out, mm_bad h93 (by unfold mbr; rw [hs]; simp only; rw [hbn, if_pos rfl, hs2]; simp only; rw [if_pos hlt])]; rw [flt_form hkk]
                  have e1 : decide ((hi : Int) < (lo : Int)) = true := by simp; omega
                  clear h93 HM hs hs2 hb0 hbn hx93 hok hok2
                  go_wp2_with fail
                  refine (HS1.out _).mono ?_
                  rintro e w3 ⟨rfl, rfl⟩
                  go_wp2_with fail
                  refine (HS2.out _).mono ?_
                  rintro e w3 ⟨rfl, rfl⟩
                  obtain ⟨c0, c1, c2, c3⟩ := HRb.out.cells
                  obtain ⟨f0, f1, f2, f3⟩ := HRb.out.thaw
                  obtain ⟨r0, r1, r2, r3'⟩ := HRb.out.zero
                  unfold z4 at r0 r1 r2 r3'
                  go_wp2_with fail
                  (try simp only [Exit.inBlock, Exit.then])
                  refine bodyPost_ret (v := .tuple #[.agg #[.int .u64 0, .int .u64 0, .int .u64 0, .int .u64 0], .int .i64 (k : Int), .int .i64 (4 : Int)]) (by simp [results, Tryz.results19, go_sem, r0, r1, r2, r3']) rfl ?_
                  rw [HRe.out]
                  refine ⟨by unfold ng rA; simp only; rw [cv0]; try rfl, ?_⟩
                  have hbe := Below.st4 HB.out (Nat.le_refl _) 0
                  rw [← z4_eq] at hbe
                  exact hbe
                · have e1 : decide ((hi : Int) < (lo : Int)) = false := by simp; omega
                  have e2 : lo ≤ hi := by omega
                  have hhi : hi < 256 := hok2.1
                  have hmb : mbr S k = .inr (seg lo (hi + 1), n2) := by unfold mbr; rw [hs]; simp only; rw [hbn, if_pos rfl, hs2]; simp only; rw [if_neg hlt]
                  have hkn : k < n2 := by omega
                  have hNs : n2 ≤ S.size := hok2.2.2
                  have HM2 : Hid (mm S n2 (acc ||| seg lo (hi + 1)) = R) := by show _ = _; rw [← HM.out, mm_on h93 hmb]
                  have HA2 : Hid (acc ||| seg lo (hi + 1) < 2 ^ 256) := Nat.or_lt_two_pow HA.out (mbr_ok hmb).1
                  clear h93 HM hs hs2 hb0 hbn hx93 hok hok2 hmb hlt HA
                  go_wp2_with fail
                  refine (HS1.out _).mono ?_
                  rintro e w3 ⟨rfl, rfl⟩
                  go_wp2_with fail
                  refine (HS2.out _).mono ?_
                  rintro e w3 ⟨rfl, rfl⟩
                  go_wp2_with fail
                  go_loopw [12] (fun bv wq => ∃ (b : Nat), bv = .int .i64 (b : Int) ∧ lo ≤ b ∧ b ≤ hi + 1 ∧ Hid (Below w.heap.size w wq) ∧ Hid (Blk wq w.heap.size 0) ∧ Hid (Blk wq (w.heap.size + 1) (acc ||| seg lo b))) (fun bv _ => hi + 1 - (intOf bv).toNat)
                  case atStart => exact ⟨lo, rfl, Nat.le_refl _, by omega, HB, HRb, by rw [seg_zero, Nat.or_zero]; exact HO⟩
                  case round =>
                    obtain ⟨b, rfl, hb1, hb2, HBq, HRq, HOq⟩ := hrel
                    by_cases hbh : b ≤ hi
                    · have lb : decide ((b : Int) ≤ (hi : Int)) = true := by simp; omega
                      have HW : Hid (∀ w : World, Calls Tryz.prog 33 #[cv (acc ||| seg lo b), .int .i64 (b : Int)] w fun e w' => e = .returned (cv (acc ||| seg lo (b + 1))) ∧ Below w.heap.size w w') := fun w => by have h := rwith_any (acc ||| seg lo b) b w (by omega); rw [seg_or_step acc lo b hb1] at h; exact h
                      obtain ⟨c0, c1, c2, c3⟩ := HOq.out.cells
                      go_wp2_with fail
                      refine (HW.out _).mono ?_
                      rintro e w5 ⟨rfl, hb5⟩
                      have HB5 : Hid (Below w.heap.size w w5) := HBq.out.trans (hb5.mono HBq.out.size)
                      have HR5 : Hid (Blk w5 w.heap.size 0) := HRq.out.below hb5 HRq.out.lt
                      have HO5 : Hid (Blk w5 (w.heap.size + 1) (acc ||| seg lo b)) := HOq.out.below hb5 HOq.out.lt
                      clear hb5 HBq HRq HOq c0 c1 c2 c3
                      obtain ⟨c0, c1, c2, c3⟩ := HO5.out.cells
                      obtain ⟨f0, f1, f2, f3⟩ := HO5.out.thaw
                      dsimp only [cv]
                      go_wp2_with fail
                      go_roundw
                      case rel => exact ⟨b + 1, by go_num, by omega, by omega, hid (Below.st4 HB5.out (by omega) (acc ||| seg lo (b + 1))), hid (HR5.out.other (by omega)), hid (HO5.out.st4 _)⟩
                      case measure => simp [intOf]; omega
                    · have lb : decide ((b : Int) ≤ (hi : Int)) = false := by simp; omega
                      have HO6 := blk_seg HOq (show b = hi + 1 by omega)
                      clear HOq
                      go_wp2_with fail
                      go_roundw
                      case rel => exact ⟨n2, acc ||| seg lo (hi + 1), rfl, hNs, HM2, HA2, HBq, HRq, HO6⟩
                      case measure => simp [intOf]; omega
            · have n45 : ((z : Int) == 45) = false := by rw [beq_eq_false_iff_ne]; omega
              have hmb : mbr S k = .inr (seg lo (lo + 1), n) := by unfold mbr; rw [hs]; simp only; rw [hbn, if_neg (by simpa using h45)]
              have hkn : k < n := hok.2.1
              have hNs : n ≤ S.size := hok.2.2
              have hlo : lo < 256 := hok.1
              have HM2 : Hid (mm S n (acc ||| seg lo (lo + 1)) = R) := by show _ = _; rw [← HM.out, mm_on h93 hmb]
              have HA2 : Hid (acc ||| seg lo (lo + 1) < 2 ^ 256) := Nat.or_lt_two_pow HA.out (mbr_ok hmb).1
              clear h93 HM hs hb0 hbn hx93 hok hmb HA
              go_wp2_with fail
              refine (HS1.out _).mono ?_
              rintro e w3 ⟨rfl, rfl⟩
              go_wp2_with fail
              go_loopw [12] (fun bv wq => ∃ (b : Nat), bv = .int .i64 (b : Int) ∧ lo ≤ b ∧ b ≤ lo + 1 ∧ Hid (Below w.heap.size w wq) ∧ Hid (Blk wq w.heap.size 0) ∧ Hid (Blk wq (w.heap.size + 1) (acc ||| seg lo b))) (fun bv _ => lo + 1 - (intOf bv).toNat)
              case atStart => exact ⟨lo, rfl, Nat.le_refl _, by omega, HB, HRb, by rw [seg_zero, Nat.or_zero]; exact HO⟩
              case round =>
                obtain ⟨b, rfl, hb1, hb2, HBq, HRq, HOq⟩ := hrel
                by_cases hbh : b ≤ lo
                · have lb : decide ((b : Int) ≤ (lo : Int)) = true := by simp; omega
                  have HW : Hid (∀ w : World, Calls Tryz.prog 33 #[cv (acc ||| seg lo b), .int .i64 (b : Int)] w fun e w' => e = .returned (cv (acc ||| seg lo (b + 1))) ∧ Below w.heap.size w w') := fun w => by have h := rwith_any (acc ||| seg lo b) b w (by omega); rw [seg_or_step acc lo b hb1] at h; exact h
                  obtain ⟨c0, c1, c2, c3⟩ := HOq.out.cells
                  go_wp2_with fail
                  refine (HW.out _).mono ?_
                  rintro e w5 ⟨rfl, hb5⟩
                  have HB5 : Hid (Below w.heap.size w w5) := HBq.out.trans (hb5.mono HBq.out.size)
                  have HR5 : Hid (Blk w5 w.heap.size 0) := HRq.out.below hb5 HRq.out.lt
                  have HO5 : Hid (Blk w5 (w.heap.size + 1) (acc ||| seg lo b)) := HOq.out.below hb5 HOq.out.lt
                  clear hb5 HBq HRq HOq c0 c1 c2 c3
                  obtain ⟨c0, c1, c2, c3⟩ := HO5.out.cells
                  obtain ⟨f0, f1, f2, f3⟩ := HO5.out.thaw
                  dsimp only [cv]
                  go_wp2_with fail
                  go_roundw
                  case rel => exact ⟨b + 1, by go_num, by omega, by omega, hid (Below.st4 HB5.out (by omega) (acc ||| seg lo (b + 1))), hid (HR5.out.other (by omega)), hid (HO5.out.st4 _)⟩
                  case measure => simp [intOf]; omega
                · have lb : decide ((b : Int) ≤ (lo : Int)) = false := by simp; omega
                  have HO6 := blk_seg HOq (show b = lo + 1 by omega)
                  clear HOq
                  go_wp2_with fail
                  go_roundw
                  case rel => exact ⟨n, acc ||| seg lo (lo + 1), rfl, hNs, HM2, HA2, HBq, HRq, HO6⟩
                  case measure => simp [intOf]; omega
set_option maxRecDepth 100000 in
set_option maxHeartbeats 1000000 in
theorem rparse_none (S : ByteArray) (w : World) (h0 : ¬ bt S 0 = some 91) (hS : S.size ≤ 9007199254740992) :
    Calls Tryz.prog 19 #[.string S] w fun e w' => e = .returned (rA (.inl (flt S 0))) ∧ Below w.heap.size w w' := by
  unfold rA
  simp only
  rw [cv0]
  cases hb : bt S 0 with
  | none =>
    have hge := bt_none hb
    have hz : ((S.size : Int) == 0) = true := by rw [beq_iff_eq]; omega
    have hz' : S.size = 0 := by omega
    rw [flt_end hge, hz']
    clear h0 hb hge hz'
    go_enter Tryz.func19, Tryz.ntmps19
    go_wp2_with fail
    exact bodyPost_ret (v := .tuple #[.agg #[.int .u64 0, .int .u64 0, .int .u64 0, .int .u64 0], .int .i64 0, .int .i64 3]) (by simp [results, Tryz.results19, go_sem]) rfl ⟨rfl, ((Below.refl _ _).alloc (Nat.le_refl _) _).alloc (by simp) _⟩
  | some x =>
    obtain ⟨hk0, hx0⟩ := bt_at hb
    have hxl := (bt_lt hb).2
    have hz0 : ((S.size : Int) == 0) = false := by rw [beq_eq_false_iff_ne]; omega
    have hz0' : ¬ S.size = 0 := by omega
    have hkI0 : (0 : Int) < (S.size : Int) := by omega
    have n91 : ((x : Int) != 91) = true := by rw [bne_iff_ne]; intro e; exact h0 (by rw [hb]; congr 1; omega)
    rw [flt_form hk0]
    clear h0 hb
    go_enter Tryz.func19, Tryz.ntmps19
    go_wp2_with fail
    exact bodyPost_ret (v := .tuple #[.agg #[.int .u64 0, .int .u64 0, .int .u64 0, .int .u64 0], .int .i64 0, .int .i64 4]) (by simp [results, Tryz.results19, go_sem]) rfl ⟨rfl, ((Below.refl _ _).alloc (Nat.le_refl _) _).alloc (by simp) _⟩
/-- The document's own Parse at any text. -/
theorem rparse_any (S : ByteArray) (w : World) (hS : S.size ≤ 9007199254740992) :
    Calls Tryz.prog 19 #[.string S] w fun e w' => e = .returned (rA (clsP S)) ∧ Below w.heap.size w w' := by
  rw [clsP_ng]
  by_cases h0 : bt S 0 = some 91
  · rw [if_pos h0]
    by_cases h1 : bt S 1 = some 94
    · rw [if_pos h1]; exact rparse_neg S w h0 h1 hS
    · rw [if_neg h1]; exact rparse_pos S w h0 h1 hS
  · rw [if_neg h0]; exact rparse_none S w h0 hS
@[reducible] def q3 (kd : Int) (T : ByteArray) (c0 c1 c2 c3 p n e : Int) : Value := .tuple #[tv kd T c0 c1 c2 c3 p, .int .i64 n, .int .i64 e]
theorem ext_one {S : ByteArray} {p x : Nat} (h : bt S p = some x) : S.extract p (p + 1) = nb [x] := by
  obtain ⟨hk, hx⟩ := bt_at h
  have hx6 := (bt_lt h).2
  apply ByteArray.ext
  rw [ByteArray.data_extract]
  apply Array.ext'
  have hk2 : p < S.data.toList.length := by rw [Array.length_toList]; exact hk
  rw [Array.toList_extract]
  have h1 : UInt8.ofNat x = S.data.toList[p] := by
    rw [← hx]
    apply UInt8.toNat.inj
    simp
    rfl
  simp only [nb, List.map_cons, List.map_nil, h1]
  show (S.data.toList.drop p).take (p + 1 - p) = _
  rw [show p + 1 - p = 1 by omega, List.drop_eq_getElem_cons hk2]
  rfl
set_option maxRecDepth 100000 in
set_option maxHeartbeats 4000000 in
theorem qtoken_long (S : ByteArray) (p x : Nat) (w : World) (hb : bt S p = some x) (hl : letB x = true) (h32 : 32 < ne S p - p) (hS : S.size ≤ 9007199254740992) :
    Calls Tryz.prog 11 #[.string S, .int .i64 (p : Int)] w fun e w' => e = .returned (q3 0 { data := #[] } 0 0 0 0 0 (p : Int) 2) ∧ Below w.heap.size w w' := by
  have hxl := (bt_lt hb).2
  obtain ⟨hp, hxx⟩ := bt_at hb
  have hpI : (p : Int) < (S.size : Int) := by omega
  have hpI2 : (p : Int) ≤ (S.size : Int) := by omega
  obtain ⟨W, hW⟩ : ∃ W, W = w.alloc (.cells #[.int .i64 0, .string { data := #[] }, .int .u64 0, .int .u64 0, .int .u64 0, .int .u64 0, .int .i64 0] 32) := ⟨_, rfl⟩
  have HB1 : Hid (Below w.heap.size w W) := by show Below _ _ _; rw [hW]; exact (Below.refl _ _).alloc (Nat.le_refl _) _
  have HT0 : Hid (Tk W w.heap.size 0 { data := #[] } 0 0 0 0 0) := by show Tk _ _ _ _ _ _ _ _ _; rw [hW]; exact Tk.new w 0 { data := #[] } 0 0 0 0 0
  obtain ⟨n, hn⟩ : ∃ n, n = rl S p := ⟨_, rfl⟩
  have HLt : Hid (∀ w : World, Calls Tryz.prog 16 #[.string S, .int .i64 (p : Int)] w fun e w' => e = .returned (.int .i64 (n : Int)) ∧ w' = w) := fun w => by rw [hn]; exact qletters_any S p w (by omega) hS
  obtain ⟨B, hB⟩ : ∃ B, B = mkB x := ⟨_, rfl⟩
  have HSg : Hid (∀ w : World, Calls Tryz.prog 17 #[.int .u8 (x : Int)] w fun e w' => e = .returned (.bool B) ∧ w' = w) := fun w => by rw [hB]; exact qsigns_any x w
  have hrl : rl S p = ne S p - p := by unfold rl; rw [hb]; simp only; rw [hl, if_pos rfl]
  have hnl := ne_le (S := S) (k := p) (by omega)
  have hne1 : p < ne S p := by
    have h1 : ne S p = ne S (p + 1) := by rw [ne_eq hb, hl]; rfl
    have h2 := ne_le (S := S) (k := p + 1) (by omega)
    omega
  have n1 : decide ((32 : Int) < (n : Int)) = true := by simp; omega
  clear hb hl h32 hrl hnl hne1 hn hB
  go_enter Tryz.func11, Tryz.ntmps11
  go_wp2_with fail
  rw [← hW]
  clear hW
  refine (HLt.out _).mono ?_
  rintro e w0 ⟨rfl, rfl⟩
  go_wp2_with fail
  refine (HSg.out _).mono ?_
  rintro e w1 ⟨rfl, rfl⟩
  obtain ⟨c0, c1, c2, c3, c4, c5, c6⟩ := HT0.out.cells
  obtain ⟨f0, f1, f2, f3, f4, f5, f6⟩ := HT0.out.thaw
  go_wp2_with fail
  obtain ⟨r0, r1, r2, r3, r4, r5, r6⟩ := (HT0.out.st7 0 { data := #[] } 0 0 0 0 0).cells
  unfold st7 at r0 r1 r2 r3 r4 r5 r6
  (try simp only [Exit.inBlock, Exit.then])
  refine bodyPost_ret (v := q3 0 { data := #[] } 0 0 0 0 0 (p : Int) 2) (by simp [results, Tryz.results11, go_sem, r0, r1, r2, r3, r4, r5, r6]) rfl ?_
  exact ⟨rfl, Below.st7 HB1.out (Nat.le_refl _) _ _ _ _ _ _ _⟩
set_option maxRecDepth 100000 in
set_option maxHeartbeats 4000000 in
theorem qtoken_name (S : ByteArray) (p x : Nat) (w : World) (hb : bt S p = some x) (hl : letB x = true) (h32 : ¬ 32 < ne S p - p) (T : ByteArray) (E : Nat) (hE : E = ne S p) (hT : T = S.extract p E) (hS : S.size ≤ 9007199254740992) :
    Calls Tryz.prog 11 #[.string S, .int .i64 (p : Int)] w fun e w' => e = .returned (q3 1 T 0 0 0 0 (p : Int) (E : Int) 0) ∧ Below w.heap.size w w' := by
  have hxl := (bt_lt hb).2
  obtain ⟨hp, hxx⟩ := bt_at hb
  have hpI : (p : Int) < (S.size : Int) := by omega
  have hpI2 : (p : Int) ≤ (S.size : Int) := by omega
  obtain ⟨W, hW⟩ : ∃ W, W = w.alloc (.cells #[.int .i64 0, .string { data := #[] }, .int .u64 0, .int .u64 0, .int .u64 0, .int .u64 0, .int .i64 0] 32) := ⟨_, rfl⟩
  have HB1 : Hid (Below w.heap.size w W) := by show Below _ _ _; rw [hW]; exact (Below.refl _ _).alloc (Nat.le_refl _) _
  have HT0 : Hid (Tk W w.heap.size 0 { data := #[] } 0 0 0 0 0) := by show Tk _ _ _ _ _ _ _ _ _; rw [hW]; exact Tk.new w 0 { data := #[] } 0 0 0 0 0
  obtain ⟨n, hn⟩ : ∃ n, n = rl S p := ⟨_, rfl⟩
  have HLt : Hid (∀ w : World, Calls Tryz.prog 16 #[.string S, .int .i64 (p : Int)] w fun e w' => e = .returned (.int .i64 (n : Int)) ∧ w' = w) := fun w => by rw [hn]; exact qletters_any S p w (by omega) hS
  obtain ⟨B, hB⟩ : ∃ B, B = mkB x := ⟨_, rfl⟩
  have HSg : Hid (∀ w : World, Calls Tryz.prog 17 #[.int .u8 (x : Int)] w fun e w' => e = .returned (.bool B) ∧ w' = w) := fun w => by rw [hB]; exact qsigns_any x w
  have hrl : rl S p = ne S p - p := by unfold rl; rw [hb]; simp only; rw [hl, if_pos rfl]
  have hnl := ne_le (S := S) (k := p) (by omega)
  have hne1 : p < ne S p := by
    have h1 : ne S p = ne S (p + 1) := by rw [ne_eq hb, hl]; rfl
    have h2 := ne_le (S := S) (k := p + 1) (by omega)
    omega
  have n1 : decide ((32 : Int) < (n : Int)) = false := by simp; omega
  have n2 : decide ((0 : Int) < (n : Int)) = true := by simp; omega
  have n3 : n ≤ 32 := by omega
  have n4 : 0 < n := by omega
  have hc : (p : Int) + (n : Int) = (E : Int) := by omega
  have hE1 : (p : Int) ≤ (E : Int) := by omega
  have hE2 : (E : Int) ≤ (S.size : Int) := by omega
  have hT2 : S.extract p E = T := hT.symm
  clear hb hl h32 hrl hnl hne1 hn hB hE hT
  go_enter Tryz.func11, Tryz.ntmps11
  go_wp2_with fail
  rw [← hW]
  clear hW
  refine (HLt.out _).mono ?_
  rintro e w0 ⟨rfl, rfl⟩
  go_wp2_with fail
  refine (HSg.out _).mono ?_
  rintro e w1 ⟨rfl, rfl⟩
  obtain ⟨c0, c1, c2, c3, c4, c5, c6⟩ := HT0.out.cells
  obtain ⟨f0, f1, f2, f3, f4, f5, f6⟩ := HT0.out.thaw
  go_wp2_with fail
  obtain ⟨r0, r1, r2, r3, r4, r5, r6⟩ := (HT0.out.st7 1 T 0 0 0 0 (p : Int)).cells
  unfold st7 at r0 r1 r2 r3 r4 r5 r6
  (try simp only [Exit.inBlock, Exit.then])
  refine bodyPost_ret (v := q3 1 T 0 0 0 0 (p : Int) (E : Int) 0) (by simp [results, Tryz.results11, go_sem, r0, r1, r2, r3, r4, r5, r6]) rfl ?_
  exact ⟨rfl, Below.st7 HB1.out (Nat.le_refl _) _ _ _ _ _ _ _⟩
set_option maxRecDepth 100000 in
set_option maxHeartbeats 4000000 in
theorem qtoken_sign (S : ByteArray) (p x : Nat) (w : World) (hb : bt S p = some x) (hl : letB x = false) (hm : mkB x = true) (T : ByteArray) (hT : T = nb [x]) (hS : S.size ≤ 9007199254740992) :
    Calls Tryz.prog 11 #[.string S, .int .i64 (p : Int)] w fun e w' => e = .returned (q3 5 T 0 0 0 0 (p : Int) ((p : Int) + 1) 0) ∧ Below w.heap.size w w' := by
  have hxl := (bt_lt hb).2
  obtain ⟨hp, hxx⟩ := bt_at hb
  have hpI : (p : Int) < (S.size : Int) := by omega
  have hpI2 : (p : Int) ≤ (S.size : Int) := by omega
  obtain ⟨W, hW⟩ : ∃ W, W = w.alloc (.cells #[.int .i64 0, .string { data := #[] }, .int .u64 0, .int .u64 0, .int .u64 0, .int .u64 0, .int .i64 0] 32) := ⟨_, rfl⟩
  have HB1 : Hid (Below w.heap.size w W) := by show Below _ _ _; rw [hW]; exact (Below.refl _ _).alloc (Nat.le_refl _) _
  have HT0 : Hid (Tk W w.heap.size 0 { data := #[] } 0 0 0 0 0) := by show Tk _ _ _ _ _ _ _ _ _; rw [hW]; exact Tk.new w 0 { data := #[] } 0 0 0 0 0
  obtain ⟨n, hn⟩ : ∃ n, n = rl S p := ⟨_, rfl⟩
  have HLt : Hid (∀ w : World, Calls Tryz.prog 16 #[.string S, .int .i64 (p : Int)] w fun e w' => e = .returned (.int .i64 (n : Int)) ∧ w' = w) := fun w => by rw [hn]; exact qletters_any S p w (by omega) hS
  obtain ⟨B, hB⟩ : ∃ B, B = mkB x := ⟨_, rfl⟩
  have HSg : Hid (∀ w : World, Calls Tryz.prog 17 #[.int .u8 (x : Int)] w fun e w' => e = .returned (.bool B) ∧ w' = w) := fun w => by rw [hB]; exact qsigns_any x w
  have hrl : rl S p = 0 := by unfold rl; rw [hb]; simp [hl]
  have n0 : (n : Int) = 0 := by omega
  have hT2 : S.extract p (p + 1) = T := by rw [ext_one hb, hT]
  obtain ⟨E, hE⟩ : ∃ E, E = p + 1 := ⟨_, rfl⟩
  rw [← hE] at hT2
  have hc : (p : Int) + 1 = (E : Int) := by omega
  have hE1 : (p : Int) ≤ (E : Int) := by omega
  have hE2 : (E : Int) ≤ (S.size : Int) := by omega
  have hBt : B = true := by rw [hB, hm]
  rw [hBt] at HSg
  rw [hc]
  clear hb hl hm hrl hn hB hE hT hBt
  go_enter Tryz.func11, Tryz.ntmps11
  go_wp2_with fail
  rw [← hW]
  clear hW
  refine (HLt.out _).mono ?_
  rintro e w0 ⟨rfl, rfl⟩
  go_wp2_with fail
  refine (HSg.out _).mono ?_
  rintro e w1 ⟨rfl, rfl⟩
  obtain ⟨c0, c1, c2, c3, c4, c5, c6⟩ := HT0.out.cells
  obtain ⟨f0, f1, f2, f3, f4, f5, f6⟩ := HT0.out.thaw
  go_wp2_with fail
  obtain ⟨r0, r1, r2, r3, r4, r5, r6⟩ := (HT0.out.st7 5 T 0 0 0 0 (p : Int)).cells
  unfold st7 at r0 r1 r2 r3 r4 r5 r6
  (try simp only [Exit.inBlock, Exit.then])
  refine bodyPost_ret (v := q3 5 T 0 0 0 0 (p : Int) (E : Int) 0) (by simp [results, Tryz.results11, go_sem, r0, r1, r2, r3, r4, r5, r6]) rfl ?_
  exact ⟨rfl, Below.st7 HB1.out (Nat.le_refl _) _ _ _ _ _ _ _⟩
set_option maxRecDepth 100000 in
set_option maxHeartbeats 4000000 in
theorem qtoken_arrow (S : ByteArray) (p x : Nat) (w : World) (hb : bt S p = some x) (ha : arB S p = true) (hS : S.size ≤ 9007199254740992) :
    Calls Tryz.prog 11 #[.string S, .int .i64 (p : Int)] w fun e w' => e = .returned (q3 2 { data := #[] } 0 0 0 0 (p : Int) ((p : Int) + 2) 0) ∧ Below w.heap.size w w' := by
  have hxl := (bt_lt hb).2
  obtain ⟨hp, hxx⟩ := bt_at hb
  have hpI : (p : Int) < (S.size : Int) := by omega
  have hpI2 : (p : Int) ≤ (S.size : Int) := by omega
  obtain ⟨W, hW⟩ : ∃ W, W = w.alloc (.cells #[.int .i64 0, .string { data := #[] }, .int .u64 0, .int .u64 0, .int .u64 0, .int .u64 0, .int .i64 0] 32) := ⟨_, rfl⟩
  have HB1 : Hid (Below w.heap.size w W) := by show Below _ _ _; rw [hW]; exact (Below.refl _ _).alloc (Nat.le_refl _) _
  have HT0 : Hid (Tk W w.heap.size 0 { data := #[] } 0 0 0 0 0) := by show Tk _ _ _ _ _ _ _ _ _; rw [hW]; exact Tk.new w 0 { data := #[] } 0 0 0 0 0
  obtain ⟨n, hn⟩ : ∃ n, n = rl S p := ⟨_, rfl⟩
  have HLt : Hid (∀ w : World, Calls Tryz.prog 16 #[.string S, .int .i64 (p : Int)] w fun e w' => e = .returned (.int .i64 (n : Int)) ∧ w' = w) := fun w => by rw [hn]; exact qletters_any S p w (by omega) hS
  obtain ⟨B, hB⟩ : ∃ B, B = mkB x := ⟨_, rfl⟩
  have HSg : Hid (∀ w : World, Calls Tryz.prog 17 #[.int .u8 (x : Int)] w fun e w' => e = .returned (.bool B) ∧ w' = w) := fun w => by rw [hB]; exact qsigns_any x w
  have hx : x = 60 := by unfold arB at ha; rw [hb] at ha; simp at ha; exact ha.1
  have hl : letB x = false := by rw [hx]; rfl
  have hm : mkB x = false := by rw [hx]; rfl
  have hb2 : bt S (p + 1) = some 45 := by unfold arB at ha; simp at ha; exact ha.2
  obtain ⟨E, hE⟩ : ∃ E, E = p + 1 := ⟨_, rfl⟩
  rw [← hE] at hb2
  obtain ⟨hEk, hEx⟩ := bt_at hb2
  have hc : (p : Int) + 1 = (E : Int) := by omega
  have hE2 : (E : Int) < (S.size : Int) := by omega
  have e0 : decide ((E : Int) < (S.size : Int)) = true := by simp; omega
  have hrl : rl S p = 0 := by unfold rl; rw [hb]; simp [hl]
  have n0 : (n : Int) = 0 := by omega
  have hBt : B = false := by rw [hB, hm]
  rw [hBt] at HSg
  have t60 : ((x : Int) == 60) = true := by simp; omega
  clear hb hl hm hrl hn hB hE hBt ha hx hb2
  go_enter Tryz.func11, Tryz.ntmps11
  go_wp2_with fail
  rw [← hW]
  clear hW
  refine (HLt.out _).mono ?_
  rintro e w0 ⟨rfl, rfl⟩
  go_wp2_with fail
  refine (HSg.out _).mono ?_
  rintro e w1 ⟨rfl, rfl⟩
  obtain ⟨c0, c1, c2, c3, c4, c5, c6⟩ := HT0.out.cells
  obtain ⟨f0, f1, f2, f3, f4, f5, f6⟩ := HT0.out.thaw
  go_wp2_with fail
  obtain ⟨r0, r1, r2, r3, r4, r5, r6⟩ := (HT0.out.st7 2 { data := #[] } 0 0 0 0 (p : Int)).cells
  unfold st7 at r0 r1 r2 r3 r4 r5 r6
  (try simp only [Exit.inBlock, Exit.then])
  refine bodyPost_ret (v := q3 2 { data := #[] } 0 0 0 0 (p : Int) ((p : Int) + 2) 0) (by simp [results, Tryz.results11, go_sem, r0, r1, r2, r3, r4, r5, r6]) rfl ?_
  exact ⟨rfl, Below.st7 HB1.out (Nat.le_refl _) _ _ _ _ _ _ _⟩
set_option maxRecDepth 100000 in
set_option maxHeartbeats 4000000 in
theorem qtoken_bad1 (S : ByteArray) (p x : Nat) (w : World) (hb : bt S p = some x) (hl : letB x = false) (hq : x ≠ 39 ∧ x ≠ 34 ∧ x ≠ 91) (hm : mkB x = false) (h60 : x ≠ 60) (hS : S.size ≤ 9007199254740992) :
    Calls Tryz.prog 11 #[.string S, .int .i64 (p : Int)] w fun e w' => e = .returned (q3 0 { data := #[] } 0 0 0 0 0 (p : Int) 4) ∧ Below w.heap.size w w' := by
  have hxl := (bt_lt hb).2
  obtain ⟨hp, hxx⟩ := bt_at hb
  have hpI : (p : Int) < (S.size : Int) := by omega
  have hpI2 : (p : Int) ≤ (S.size : Int) := by omega
  obtain ⟨W, hW⟩ : ∃ W, W = w.alloc (.cells #[.int .i64 0, .string { data := #[] }, .int .u64 0, .int .u64 0, .int .u64 0, .int .u64 0, .int .i64 0] 32) := ⟨_, rfl⟩
  have HB1 : Hid (Below w.heap.size w W) := by show Below _ _ _; rw [hW]; exact (Below.refl _ _).alloc (Nat.le_refl _) _
  have HT0 : Hid (Tk W w.heap.size 0 { data := #[] } 0 0 0 0 0) := by show Tk _ _ _ _ _ _ _ _ _; rw [hW]; exact Tk.new w 0 { data := #[] } 0 0 0 0 0
  obtain ⟨n, hn⟩ : ∃ n, n = rl S p := ⟨_, rfl⟩
  have HLt : Hid (∀ w : World, Calls Tryz.prog 16 #[.string S, .int .i64 (p : Int)] w fun e w' => e = .returned (.int .i64 (n : Int)) ∧ w' = w) := fun w => by rw [hn]; exact qletters_any S p w (by omega) hS
  obtain ⟨B, hB⟩ : ∃ B, B = mkB x := ⟨_, rfl⟩
  have HSg : Hid (∀ w : World, Calls Tryz.prog 17 #[.int .u8 (x : Int)] w fun e w' => e = .returned (.bool B) ∧ w' = w) := fun w => by rw [hB]; exact qsigns_any x w
  have hrl : rl S p = 0 := by unfold rl; rw [hb]; simp [hl]
  have n0 : (n : Int) = 0 := by omega
  have hBt : B = false := by rw [hB, hm]
  rw [hBt] at HSg
  have t39 : ((x : Int) == 39) = false := by simp; omega
  have t34 : ((x : Int) == 34) = false := by simp; omega
  have t91 : ((x : Int) == 91) = false := by simp; omega
  have t60 : ((x : Int) == 60) = false := by simp; omega
  clear hb hl hm hrl hn hB hBt hq h60
  go_enter Tryz.func11, Tryz.ntmps11
  go_wp2_with fail
  rw [← hW]
  clear hW
  refine (HLt.out _).mono ?_
  rintro e w0 ⟨rfl, rfl⟩
  go_wp2_with fail
  refine (HSg.out _).mono ?_
  rintro e w1 ⟨rfl, rfl⟩
  obtain ⟨c0, c1, c2, c3, c4, c5, c6⟩ := HT0.out.cells
  obtain ⟨f0, f1, f2, f3, f4, f5, f6⟩ := HT0.out.thaw
  go_wp2_with fail
  obtain ⟨r0, r1, r2, r3, r4, r5, r6⟩ := (HT0.out.st7 0 { data := #[] } 0 0 0 0 0).cells
  unfold st7 at r0 r1 r2 r3 r4 r5 r6
  (try simp only [Exit.inBlock, Exit.then])
  refine bodyPost_ret (v := q3 0 { data := #[] } 0 0 0 0 0 (p : Int) 4) (by simp [results, Tryz.results11, go_sem, r0, r1, r2, r3, r4, r5, r6]) rfl ?_
  exact ⟨rfl, Below.st7 HB1.out (Nat.le_refl _) _ _ _ _ _ _ _⟩
set_option maxRecDepth 100000 in
set_option maxHeartbeats 4000000 in
theorem qtoken_bad2 (S : ByteArray) (p x : Nat) (w : World) (hb : bt S p = some x) (hl : letB x = false) (hq : x ≠ 39 ∧ x ≠ 34 ∧ x ≠ 91) (hm : mkB x = false) (h60 : x = 60) (he : S.size ≤ p + 1) (hS : S.size ≤ 9007199254740992) :
    Calls Tryz.prog 11 #[.string S, .int .i64 (p : Int)] w fun e w' => e = .returned (q3 0 { data := #[] } 0 0 0 0 0 (p : Int) 4) ∧ Below w.heap.size w w' := by
  have hxl := (bt_lt hb).2
  obtain ⟨hp, hxx⟩ := bt_at hb
  have hpI : (p : Int) < (S.size : Int) := by omega
  have hpI2 : (p : Int) ≤ (S.size : Int) := by omega
  obtain ⟨W, hW⟩ : ∃ W, W = w.alloc (.cells #[.int .i64 0, .string { data := #[] }, .int .u64 0, .int .u64 0, .int .u64 0, .int .u64 0, .int .i64 0] 32) := ⟨_, rfl⟩
  have HB1 : Hid (Below w.heap.size w W) := by show Below _ _ _; rw [hW]; exact (Below.refl _ _).alloc (Nat.le_refl _) _
  have HT0 : Hid (Tk W w.heap.size 0 { data := #[] } 0 0 0 0 0) := by show Tk _ _ _ _ _ _ _ _ _; rw [hW]; exact Tk.new w 0 { data := #[] } 0 0 0 0 0
  obtain ⟨n, hn⟩ : ∃ n, n = rl S p := ⟨_, rfl⟩
  have HLt : Hid (∀ w : World, Calls Tryz.prog 16 #[.string S, .int .i64 (p : Int)] w fun e w' => e = .returned (.int .i64 (n : Int)) ∧ w' = w) := fun w => by rw [hn]; exact qletters_any S p w (by omega) hS
  obtain ⟨B, hB⟩ : ∃ B, B = mkB x := ⟨_, rfl⟩
  have HSg : Hid (∀ w : World, Calls Tryz.prog 17 #[.int .u8 (x : Int)] w fun e w' => e = .returned (.bool B) ∧ w' = w) := fun w => by rw [hB]; exact qsigns_any x w
  have hrl : rl S p = 0 := by unfold rl; rw [hb]; simp [hl]
  have n0 : (n : Int) = 0 := by omega
  have hBt : B = false := by rw [hB, hm]
  rw [hBt] at HSg
  have t39 : ((x : Int) == 39) = false := by simp; omega
  have t34 : ((x : Int) == 34) = false := by simp; omega
  have t91 : ((x : Int) == 91) = false := by simp; omega
  have t60 : ((x : Int) == 60) = true := by simp; omega
  obtain ⟨E, hE⟩ : ∃ E, E = p + 1 := ⟨_, rfl⟩
  have hc : (p : Int) + 1 = (E : Int) := by omega
  have e0 : decide ((E : Int) < (S.size : Int)) = false := by simp; omega
  have e1 : S.size ≤ E := by omega
  clear hb hl hm hrl hn hB hBt hq h60 hE he
  go_enter Tryz.func11, Tryz.ntmps11
  go_wp2_with fail
  rw [← hW]
  clear hW
  refine (HLt.out _).mono ?_
  rintro e w0 ⟨rfl, rfl⟩
  go_wp2_with fail
  refine (HSg.out _).mono ?_
  rintro e w1 ⟨rfl, rfl⟩
  obtain ⟨c0, c1, c2, c3, c4, c5, c6⟩ := HT0.out.cells
  obtain ⟨f0, f1, f2, f3, f4, f5, f6⟩ := HT0.out.thaw
  go_wp2_with fail
  obtain ⟨r0, r1, r2, r3, r4, r5, r6⟩ := (HT0.out.st7 0 { data := #[] } 0 0 0 0 0).cells
  unfold st7 at r0 r1 r2 r3 r4 r5 r6
  (try simp only [Exit.inBlock, Exit.then])
  refine bodyPost_ret (v := q3 0 { data := #[] } 0 0 0 0 0 (p : Int) 4) (by simp [results, Tryz.results11, go_sem, r0, r1, r2, r3, r4, r5, r6]) rfl ?_
  exact ⟨rfl, Below.st7 HB1.out (Nat.le_refl _) _ _ _ _ _ _ _⟩
set_option maxRecDepth 100000 in
set_option maxHeartbeats 4000000 in
theorem qtoken_bad3 (S : ByteArray) (p x : Nat) (w : World) (hb : bt S p = some x) (hl : letB x = false) (hq : x ≠ 39 ∧ x ≠ 34 ∧ x ≠ 91) (hm : mkB x = false) (h60 : x = 60) (y : Nat) (hb2 : bt S (p + 1) = some y) (hy : y ≠ 45) (hS : S.size ≤ 9007199254740992) :
    Calls Tryz.prog 11 #[.string S, .int .i64 (p : Int)] w fun e w' => e = .returned (q3 0 { data := #[] } 0 0 0 0 0 (p : Int) 4) ∧ Below w.heap.size w w' := by
  have hxl := (bt_lt hb).2
  obtain ⟨hp, hxx⟩ := bt_at hb
  have hpI : (p : Int) < (S.size : Int) := by omega
  have hpI2 : (p : Int) ≤ (S.size : Int) := by omega
  obtain ⟨W, hW⟩ : ∃ W, W = w.alloc (.cells #[.int .i64 0, .string { data := #[] }, .int .u64 0, .int .u64 0, .int .u64 0, .int .u64 0, .int .i64 0] 32) := ⟨_, rfl⟩
  have HB1 : Hid (Below w.heap.size w W) := by show Below _ _ _; rw [hW]; exact (Below.refl _ _).alloc (Nat.le_refl _) _
  have HT0 : Hid (Tk W w.heap.size 0 { data := #[] } 0 0 0 0 0) := by show Tk _ _ _ _ _ _ _ _ _; rw [hW]; exact Tk.new w 0 { data := #[] } 0 0 0 0 0
  obtain ⟨n, hn⟩ : ∃ n, n = rl S p := ⟨_, rfl⟩
  have HLt : Hid (∀ w : World, Calls Tryz.prog 16 #[.string S, .int .i64 (p : Int)] w fun e w' => e = .returned (.int .i64 (n : Int)) ∧ w' = w) := fun w => by rw [hn]; exact qletters_any S p w (by omega) hS
  obtain ⟨B, hB⟩ : ∃ B, B = mkB x := ⟨_, rfl⟩
  have HSg : Hid (∀ w : World, Calls Tryz.prog 17 #[.int .u8 (x : Int)] w fun e w' => e = .returned (.bool B) ∧ w' = w) := fun w => by rw [hB]; exact qsigns_any x w
  have hrl : rl S p = 0 := by unfold rl; rw [hb]; simp [hl]
  have n0 : (n : Int) = 0 := by omega
  have hBt : B = false := by rw [hB, hm]
  rw [hBt] at HSg
  have t39 : ((x : Int) == 39) = false := by simp; omega
  have t34 : ((x : Int) == 34) = false := by simp; omega
  have t91 : ((x : Int) == 91) = false := by simp; omega
  have t60 : ((x : Int) == 60) = true := by simp; omega
  obtain ⟨E, hE⟩ : ∃ E, E = p + 1 := ⟨_, rfl⟩
  rw [← hE] at hb2
  obtain ⟨hEk, hEx⟩ := bt_at hb2
  have hc : (p : Int) + 1 = (E : Int) := by omega
  have hE2 : (E : Int) < (S.size : Int) := by omega
  have e0 : decide ((E : Int) < (S.size : Int)) = true := by simp; omega
  have t45 : ((y : Int) == 45) = false := by simp; omega
  clear hb hl hm hrl hn hB hBt hq h60 hE hb2 hy
  go_enter Tryz.func11, Tryz.ntmps11
  go_wp2_with fail
  rw [← hW]
  clear hW
  refine (HLt.out _).mono ?_
  rintro e w0 ⟨rfl, rfl⟩
  go_wp2_with fail
  refine (HSg.out _).mono ?_
  rintro e w1 ⟨rfl, rfl⟩
  obtain ⟨c0, c1, c2, c3, c4, c5, c6⟩ := HT0.out.cells
  obtain ⟨f0, f1, f2, f3, f4, f5, f6⟩ := HT0.out.thaw
  go_wp2_with fail
  obtain ⟨r0, r1, r2, r3, r4, r5, r6⟩ := (HT0.out.st7 0 { data := #[] } 0 0 0 0 0).cells
  unfold st7 at r0 r1 r2 r3 r4 r5 r6
  (try simp only [Exit.inBlock, Exit.then])
  refine bodyPost_ret (v := q3 0 { data := #[] } 0 0 0 0 0 (p : Int) 4) (by simp [results, Tryz.results11, go_sem, r0, r1, r2, r3, r4, r5, r6]) rfl ?_
  exact ⟨rfl, Below.st7 HB1.out (Nat.le_refl _) _ _ _ _ _ _ _⟩
set_option maxRecDepth 100000 in
set_option maxHeartbeats 4000000 in
theorem qtoken_litbad (S : ByteArray) (p x : Nat) (w : World) (hb : bt S p = some x) (hq : x = 39 ∨ x = 34) (c : Nat × Nat) (hll : ll S x p (p + 1) [] = .inl c) (hS : S.size ≤ 9007199254740992) :
    Calls Tryz.prog 11 #[.string S, .int .i64 (p : Int)] w fun e w' => e = .returned (q3 0 { data := #[] } 0 0 0 0 0 (c.2 : Int) (c.1 : Int)) ∧ Below w.heap.size w w' := by
  have hxl := (bt_lt hb).2
  obtain ⟨hp, hxx⟩ := bt_at hb
  have hpI : (p : Int) < (S.size : Int) := by omega
  have hpI2 : (p : Int) ≤ (S.size : Int) := by omega
  obtain ⟨W, hW⟩ : ∃ W, W = w.alloc (.cells #[.int .i64 0, .string { data := #[] }, .int .u64 0, .int .u64 0, .int .u64 0, .int .u64 0, .int .i64 0] 32) := ⟨_, rfl⟩
  have HB1 : Hid (Below w.heap.size w W) := by show Below _ _ _; rw [hW]; exact (Below.refl _ _).alloc (Nat.le_refl _) _
  have HT0 : Hid (Tk W w.heap.size 0 { data := #[] } 0 0 0 0 0) := by show Tk _ _ _ _ _ _ _ _ _; rw [hW]; exact Tk.new w 0 { data := #[] } 0 0 0 0 0
  obtain ⟨n, hn⟩ : ∃ n, n = rl S p := ⟨_, rfl⟩
  have HLt : Hid (∀ w : World, Calls Tryz.prog 16 #[.string S, .int .i64 (p : Int)] w fun e w' => e = .returned (.int .i64 (n : Int)) ∧ w' = w) := fun w => by rw [hn]; exact qletters_any S p w (by omega) hS
  obtain ⟨B, hB⟩ : ∃ B, B = mkB x := ⟨_, rfl⟩
  have HSg : Hid (∀ w : World, Calls Tryz.prog 17 #[.int .u8 (x : Int)] w fun e w' => e = .returned (.bool B) ∧ w' = w) := fun w => by rw [hB]; exact qsigns_any x w
  have hl : letB x = false := by rcases hq with h | h <;> (rw [h]; rfl)
  have hm : mkB x = false := by rcases hq with h | h <;> (rw [h]; rfl)
  have hrl : rl S p = 0 := by unfold rl; rw [hb]; simp [hl]
  have n0 : (n : Int) = 0 := by omega
  have hBt : B = false := by rw [hB, hm]
  rw [hBt] at HSg
  have t60 : ((x : Int) == 60) = false := by simp; omega
  have HQ : Hid (∀ w : World, Calls Tryz.prog 18 #[.string S, .int .i64 (p : Int)] w fun e w' => e = .returned (r3s (ll S x p (p + 1) [])) ∧ Below w.heap.size w w') := fun w => qliteral_any S x p w hb hS
  rw [hll] at HQ
  have hc0 : (((c.1 : Nat) : Int) != 0) = true := by
    have := ll_wrong hll
    rw [bne_iff_ne]
    rcases this with h | h
    · have := h.1; omega
    · rw [h]; simp
  clear hb hl hm hrl hn hB hBt hll
  rcases hq with h | h
  · have t39 : ((x : Int) == 39) = true := by simp; omega
    clear h
    go_enter Tryz.func11, Tryz.ntmps11
    go_wp2_with fail
    rw [← hW]
    clear hW
    refine (HLt.out _).mono ?_
    rintro e w0 ⟨rfl, rfl⟩
    go_wp2_with fail
    refine (HSg.out _).mono ?_
    rintro e w1 ⟨rfl, rfl⟩
    go_wp2_with fail
    refine (HQ.out _).mono ?_
    rintro e w2 ⟨rfl, hb2⟩
    have HB2 : Hid (Below w.heap.size w w2) := HB1.out.trans (hb2.mono HB1.out.size)
    have HT2 : Hid (Tk w2 w.heap.size 0 { data := #[] } 0 0 0 0 0) := HT0.out.below hb2 HT0.out.lt
    clear hb2
    (try unfold r3s)
    obtain ⟨c0, c1, c2, c3, c4, c5, c6⟩ := HT2.out.cells
    obtain ⟨f0, f1, f2, f3, f4, f5, f6⟩ := HT2.out.thaw
    go_wp2_with fail
    obtain ⟨r0, r1, r2, r3, r4, r5, r6⟩ := (HT2.out.st7 0 { data := #[] } 0 0 0 0 0).cells
    unfold st7 at r0 r1 r2 r3 r4 r5 r6
    (try simp only [Exit.inBlock, Exit.then])
    refine bodyPost_ret (v := q3 0 { data := #[] } 0 0 0 0 0 (c.2 : Int) (c.1 : Int)) (by simp [results, Tryz.results11, go_sem, r0, r1, r2, r3, r4, r5, r6]) rfl ?_
    exact ⟨rfl, Below.st7 HB2.out (Nat.le_refl _) _ _ _ _ _ _ _⟩
  · have t39 : ((x : Int) == 39) = false := by simp; omega
    have t34 : ((x : Int) == 34) = true := by simp; omega
    clear h
    go_enter Tryz.func11, Tryz.ntmps11
    go_wp2_with fail
    rw [← hW]
    clear hW
    refine (HLt.out _).mono ?_
    rintro e w0 ⟨rfl, rfl⟩
    go_wp2_with fail
    refine (HSg.out _).mono ?_
    rintro e w1 ⟨rfl, rfl⟩
    go_wp2_with fail
    refine (HQ.out _).mono ?_
    rintro e w2 ⟨rfl, hb2⟩
    have HB2 : Hid (Below w.heap.size w w2) := HB1.out.trans (hb2.mono HB1.out.size)
    have HT2 : Hid (Tk w2 w.heap.size 0 { data := #[] } 0 0 0 0 0) := HT0.out.below hb2 HT0.out.lt
    clear hb2
    (try unfold r3s)
    obtain ⟨c0, c1, c2, c3, c4, c5, c6⟩ := HT2.out.cells
    obtain ⟨f0, f1, f2, f3, f4, f5, f6⟩ := HT2.out.thaw
    go_wp2_with fail
    obtain ⟨r0, r1, r2, r3, r4, r5, r6⟩ := (HT2.out.st7 0 { data := #[] } 0 0 0 0 0).cells
    unfold st7 at r0 r1 r2 r3 r4 r5 r6
    (try simp only [Exit.inBlock, Exit.then])
    refine bodyPost_ret (v := q3 0 { data := #[] } 0 0 0 0 0 (c.2 : Int) (c.1 : Int)) (by simp [results, Tryz.results11, go_sem, r0, r1, r2, r3, r4, r5, r6]) rfl ?_
    exact ⟨rfl, Below.st7 HB2.out (Nat.le_refl _) _ _ _ _ _ _ _⟩
set_option maxRecDepth 100000 in
set_option maxHeartbeats 4000000 in
theorem qtoken_lit (S : ByteArray) (p x : Nat) (w : World) (hb : bt S p = some x) (hq : x = 39 ∨ x = 34) (l : List Nat) (m : Nat) (T : ByteArray) (hT : T = nb l) (hll : ll S x p (p + 1) [] = .inr (l, m)) (hS : S.size ≤ 9007199254740992) :
    Calls Tryz.prog 11 #[.string S, .int .i64 (p : Int)] w fun e w' => e = .returned (q3 3 T 0 0 0 0 (p : Int) (m : Int) 0) ∧ Below w.heap.size w w' := by
  have hxl := (bt_lt hb).2
  obtain ⟨hp, hxx⟩ := bt_at hb
  have hpI : (p : Int) < (S.size : Int) := by omega
  have hpI2 : (p : Int) ≤ (S.size : Int) := by omega
  obtain ⟨W, hW⟩ : ∃ W, W = w.alloc (.cells #[.int .i64 0, .string { data := #[] }, .int .u64 0, .int .u64 0, .int .u64 0, .int .u64 0, .int .i64 0] 32) := ⟨_, rfl⟩
  have HB1 : Hid (Below w.heap.size w W) := by show Below _ _ _; rw [hW]; exact (Below.refl _ _).alloc (Nat.le_refl _) _
  have HT0 : Hid (Tk W w.heap.size 0 { data := #[] } 0 0 0 0 0) := by show Tk _ _ _ _ _ _ _ _ _; rw [hW]; exact Tk.new w 0 { data := #[] } 0 0 0 0 0
  obtain ⟨n, hn⟩ : ∃ n, n = rl S p := ⟨_, rfl⟩
  have HLt : Hid (∀ w : World, Calls Tryz.prog 16 #[.string S, .int .i64 (p : Int)] w fun e w' => e = .returned (.int .i64 (n : Int)) ∧ w' = w) := fun w => by rw [hn]; exact qletters_any S p w (by omega) hS
  obtain ⟨B, hB⟩ : ∃ B, B = mkB x := ⟨_, rfl⟩
  have HSg : Hid (∀ w : World, Calls Tryz.prog 17 #[.int .u8 (x : Int)] w fun e w' => e = .returned (.bool B) ∧ w' = w) := fun w => by rw [hB]; exact qsigns_any x w
  have hl : letB x = false := by rcases hq with h | h <;> (rw [h]; rfl)
  have hm : mkB x = false := by rcases hq with h | h <;> (rw [h]; rfl)
  have hrl : rl S p = 0 := by unfold rl; rw [hb]; simp [hl]
  have n0 : (n : Int) = 0 := by omega
  have hBt : B = false := by rw [hB, hm]
  rw [hBt] at HSg
  have t60 : ((x : Int) == 60) = false := by simp; omega
  have HQ : Hid (∀ w : World, Calls Tryz.prog 18 #[.string S, .int .i64 (p : Int)] w fun e w' => e = .returned (r3s (ll S x p (p + 1) [])) ∧ Below w.heap.size w w') := fun w => qliteral_any S x p w hb hS
  rw [hll] at HQ
  unfold r3s at HQ
  simp only at HQ
  rw [← hT] at HQ
  clear hT
  clear hb hl hm hrl hn hB hBt hll
  rcases hq with h | h
  · have t39 : ((x : Int) == 39) = true := by simp; omega
    clear h
    go_enter Tryz.func11, Tryz.ntmps11
    go_wp2_with fail
    rw [← hW]
    clear hW
    refine (HLt.out _).mono ?_
    rintro e w0 ⟨rfl, rfl⟩
    go_wp2_with fail
    refine (HSg.out _).mono ?_
    rintro e w1 ⟨rfl, rfl⟩
    go_wp2_with fail
    refine (HQ.out _).mono ?_
    rintro e w2 ⟨rfl, hb2⟩
    have HB2 : Hid (Below w.heap.size w w2) := HB1.out.trans (hb2.mono HB1.out.size)
    have HT2 : Hid (Tk w2 w.heap.size 0 { data := #[] } 0 0 0 0 0) := HT0.out.below hb2 HT0.out.lt
    clear hb2
    (try unfold r3s)
    obtain ⟨c0, c1, c2, c3, c4, c5, c6⟩ := HT2.out.cells
    obtain ⟨f0, f1, f2, f3, f4, f5, f6⟩ := HT2.out.thaw
    go_wp2_with fail
    obtain ⟨r0, r1, r2, r3, r4, r5, r6⟩ := (HT2.out.st7 3 T 0 0 0 0 (p : Int)).cells
    unfold st7 at r0 r1 r2 r3 r4 r5 r6
    (try simp only [Exit.inBlock, Exit.then])
    refine bodyPost_ret (v := q3 3 T 0 0 0 0 (p : Int) (m : Int) 0) (by simp [results, Tryz.results11, go_sem, r0, r1, r2, r3, r4, r5, r6]) rfl ?_
    exact ⟨rfl, Below.st7 HB2.out (Nat.le_refl _) _ _ _ _ _ _ _⟩
  · have t39 : ((x : Int) == 39) = false := by simp; omega
    have t34 : ((x : Int) == 34) = true := by simp; omega
    clear h
    go_enter Tryz.func11, Tryz.ntmps11
    go_wp2_with fail
    rw [← hW]
    clear hW
    refine (HLt.out _).mono ?_
    rintro e w0 ⟨rfl, rfl⟩
    go_wp2_with fail
    refine (HSg.out _).mono ?_
    rintro e w1 ⟨rfl, rfl⟩
    go_wp2_with fail
    refine (HQ.out _).mono ?_
    rintro e w2 ⟨rfl, hb2⟩
    have HB2 : Hid (Below w.heap.size w w2) := HB1.out.trans (hb2.mono HB1.out.size)
    have HT2 : Hid (Tk w2 w.heap.size 0 { data := #[] } 0 0 0 0 0) := HT0.out.below hb2 HT0.out.lt
    clear hb2
    (try unfold r3s)
    obtain ⟨c0, c1, c2, c3, c4, c5, c6⟩ := HT2.out.cells
    obtain ⟨f0, f1, f2, f3, f4, f5, f6⟩ := HT2.out.thaw
    go_wp2_with fail
    obtain ⟨r0, r1, r2, r3, r4, r5, r6⟩ := (HT2.out.st7 3 T 0 0 0 0 (p : Int)).cells
    unfold st7 at r0 r1 r2 r3 r4 r5 r6
    (try simp only [Exit.inBlock, Exit.then])
    refine bodyPost_ret (v := q3 3 T 0 0 0 0 (p : Int) (m : Int) 0) (by simp [results, Tryz.results11, go_sem, r0, r1, r2, r3, r4, r5, r6]) rfl ?_
    exact ⟨rfl, Below.st7 HB2.out (Nat.le_refl _) _ _ _ _ _ _ _⟩
set_option maxRecDepth 100000 in
set_option maxHeartbeats 4000000 in
theorem qtoken_cls (S : ByteArray) (p x : Nat) (w : World) (hb : bt S p = some x) (hq : x = 91) (C m : Nat) (hcl : clsP (S.extract p S.size) = .inr (C, m)) (hS : S.size ≤ 9007199254740992) :
    Calls Tryz.prog 11 #[.string S, .int .i64 (p : Int)] w fun e w' => e = .returned (q3 4 { data := #[] } (wd C 0 : Nat) (wd C 1 : Nat) (wd C 2 : Nat) (wd C 3 : Nat) (p : Int) ((p : Int) + (m : Int)) 0) ∧ Below w.heap.size w w' := by
  have hxl := (bt_lt hb).2
  obtain ⟨hp, hxx⟩ := bt_at hb
  have hpI : (p : Int) < (S.size : Int) := by omega
  have hpI2 : (p : Int) ≤ (S.size : Int) := by omega
  obtain ⟨W, hW⟩ : ∃ W, W = w.alloc (.cells #[.int .i64 0, .string { data := #[] }, .int .u64 0, .int .u64 0, .int .u64 0, .int .u64 0, .int .i64 0] 32) := ⟨_, rfl⟩
  have HB1 : Hid (Below w.heap.size w W) := by show Below _ _ _; rw [hW]; exact (Below.refl _ _).alloc (Nat.le_refl _) _
  have HT0 : Hid (Tk W w.heap.size 0 { data := #[] } 0 0 0 0 0) := by show Tk _ _ _ _ _ _ _ _ _; rw [hW]; exact Tk.new w 0 { data := #[] } 0 0 0 0 0
  obtain ⟨n, hn⟩ : ∃ n, n = rl S p := ⟨_, rfl⟩
  have HLt : Hid (∀ w : World, Calls Tryz.prog 16 #[.string S, .int .i64 (p : Int)] w fun e w' => e = .returned (.int .i64 (n : Int)) ∧ w' = w) := fun w => by rw [hn]; exact qletters_any S p w (by omega) hS
  obtain ⟨B, hB⟩ : ∃ B, B = mkB x := ⟨_, rfl⟩
  have HSg : Hid (∀ w : World, Calls Tryz.prog 17 #[.int .u8 (x : Int)] w fun e w' => e = .returned (.bool B) ∧ w' = w) := fun w => by rw [hB]; exact qsigns_any x w
  have hl : letB x = false := by rw [hq]; rfl
  have hm : mkB x = false := by rw [hq]; rfl
  have hrl : rl S p = 0 := by unfold rl; rw [hb]; simp [hl]
  have n0 : (n : Int) = 0 := by omega
  have hBt : B = false := by rw [hB, hm]
  rw [hBt] at HSg
  have t60 : ((x : Int) == 60) = false := by simp; omega
  have t39 : ((x : Int) == 39) = false := by simp; omega
  have t34 : ((x : Int) == 34) = false := by simp; omega
  have t91 : ((x : Int) == 91) = true := by simp; omega
  obtain ⟨T, hT⟩ : ∃ T, T = S.extract p S.size := ⟨_, rfl⟩
  have hTs : T.size ≤ S.size := by rw [hT, ByteArray.size_extract]; omega
  have hT2 : S.extract p S.size = T := hT.symm
  rw [← hT] at hcl
  have HQ : Hid (∀ w : World, Calls Tryz.prog 19 #[.string T] w fun e w' => e = .returned (rA (clsP T)) ∧ Below w.heap.size w w') := fun w => rparse_any T w (by omega)
  rw [hcl] at HQ
  have hm8 := (clsP_ok hcl).2.2
  clear hb hl hm hrl hn hB hBt hcl hq hT
  go_enter Tryz.func11, Tryz.ntmps11
  go_wp2_with fail
  rw [← hW]
  clear hW
  refine (HLt.out _).mono ?_
  rintro e w0 ⟨rfl, rfl⟩
  go_wp2_with fail
  refine (HSg.out _).mono ?_
  rintro e w1 ⟨rfl, rfl⟩
  go_wp2_with fail
  refine (HQ.out _).mono ?_
  rintro e w2 ⟨rfl, hb2⟩
  have HB2 : Hid (Below w.heap.size w w2) := HB1.out.trans (hb2.mono HB1.out.size)
  have HT2 : Hid (Tk (w2.alloc (.cells #[.int .u64 (wd C 0 : Nat), .int .u64 (wd C 1 : Nat), .int .u64 (wd C 2 : Nat), .int .u64 (wd C 3 : Nat)] 30)) w.heap.size 0 { data := #[] } 0 0 0 0 0) := (HT0.out.below hb2 HT0.out.lt).alloc _
  clear hb2
  unfold rA cv
  obtain ⟨c0, c1, c2, c3, c4, c5, c6⟩ := HT2.out.cells
  obtain ⟨f0, f1, f2, f3, f4, f5, f6⟩ := HT2.out.thaw
  go_wp2_with fail
  obtain ⟨r0, r1, r2, r3, r4, r5, r6⟩ := (HT2.out.st7 4 { data := #[] } (wd C 0 : Nat) (wd C 1 : Nat) (wd C 2 : Nat) (wd C 3 : Nat) (p : Int)).cells
  unfold st7 at r0 r1 r2 r3 r4 r5 r6
  (try simp only [Exit.inBlock, Exit.then])
  refine bodyPost_ret (v := q3 4 { data := #[] } (wd C 0 : Nat) (wd C 1 : Nat) (wd C 2 : Nat) (wd C 3 : Nat) (p : Int) ((p : Int) + (m : Int)) 0) (by simp [results, Tryz.results11, go_sem, r0, r1, r2, r3, r4, r5, r6]) rfl ?_
  exact ⟨rfl, Below.st7 (HB2.out.alloc HB2.out.size _) (Nat.le_refl _) _ _ _ _ _ _ _⟩
set_option maxRecDepth 100000 in
set_option maxHeartbeats 4000000 in
theorem qtoken_clsbad (S : ByteArray) (p x : Nat) (w : World) (hb : bt S p = some x) (hq : x = 91) (c : Nat × Nat) (hcl : clsP (S.extract p S.size) = .inl c) (hS : S.size ≤ 9007199254740992) :
    Calls Tryz.prog 11 #[.string S, .int .i64 (p : Int)] w fun e w' => e = .returned (q3 0 { data := #[] } 0 0 0 0 0 ((p : Int) + (c.2 : Int)) (c.1 : Int)) ∧ Below w.heap.size w w' := by
  have hxl := (bt_lt hb).2
  obtain ⟨hp, hxx⟩ := bt_at hb
  have hpI : (p : Int) < (S.size : Int) := by omega
  have hpI2 : (p : Int) ≤ (S.size : Int) := by omega
  obtain ⟨W, hW⟩ : ∃ W, W = w.alloc (.cells #[.int .i64 0, .string { data := #[] }, .int .u64 0, .int .u64 0, .int .u64 0, .int .u64 0, .int .i64 0] 32) := ⟨_, rfl⟩
  have HB1 : Hid (Below w.heap.size w W) := by show Below _ _ _; rw [hW]; exact (Below.refl _ _).alloc (Nat.le_refl _) _
  have HT0 : Hid (Tk W w.heap.size 0 { data := #[] } 0 0 0 0 0) := by show Tk _ _ _ _ _ _ _ _ _; rw [hW]; exact Tk.new w 0 { data := #[] } 0 0 0 0 0
  obtain ⟨n, hn⟩ : ∃ n, n = rl S p := ⟨_, rfl⟩
  have HLt : Hid (∀ w : World, Calls Tryz.prog 16 #[.string S, .int .i64 (p : Int)] w fun e w' => e = .returned (.int .i64 (n : Int)) ∧ w' = w) := fun w => by rw [hn]; exact qletters_any S p w (by omega) hS
  obtain ⟨B, hB⟩ : ∃ B, B = mkB x := ⟨_, rfl⟩
  have HSg : Hid (∀ w : World, Calls Tryz.prog 17 #[.int .u8 (x : Int)] w fun e w' => e = .returned (.bool B) ∧ w' = w) := fun w => by rw [hB]; exact qsigns_any x w
  have hl : letB x = false := by rw [hq]; rfl
  have hm : mkB x = false := by rw [hq]; rfl
  have hrl : rl S p = 0 := by unfold rl; rw [hb]; simp [hl]
  have n0 : (n : Int) = 0 := by omega
  have hBt : B = false := by rw [hB, hm]
  rw [hBt] at HSg
  have t60 : ((x : Int) == 60) = false := by simp; omega
  have t39 : ((x : Int) == 39) = false := by simp; omega
  have t34 : ((x : Int) == 34) = false := by simp; omega
  have t91 : ((x : Int) == 91) = true := by simp; omega
  obtain ⟨T, hT⟩ : ∃ T, T = S.extract p S.size := ⟨_, rfl⟩
  have hTs : T.size ≤ S.size := by rw [hT, ByteArray.size_extract]; omega
  have hT2 : S.extract p S.size = T := hT.symm
  rw [← hT] at hcl
  have HQ : Hid (∀ w : World, Calls Tryz.prog 19 #[.string T] w fun e w' => e = .returned (rA (clsP T)) ∧ Below w.heap.size w w') := fun w => rparse_any T w (by omega)
  rw [hcl] at HQ
  have hm8 := (clsP_wrong hcl).2
  have hc0 : (((c.1 : Nat) : Int) != 0) = true := by have := (clsP_wrong hcl).1; rw [bne_iff_ne]; omega
  clear hb hl hm hrl hn hB hBt hcl hq hT
  go_enter Tryz.func11, Tryz.ntmps11
  go_wp2_with fail
  rw [← hW]
  clear hW
  refine (HLt.out _).mono ?_
  rintro e w0 ⟨rfl, rfl⟩
  go_wp2_with fail
  refine (HSg.out _).mono ?_
  rintro e w1 ⟨rfl, rfl⟩
  go_wp2_with fail
  refine (HQ.out _).mono ?_
  rintro e w2 ⟨rfl, hb2⟩
  have HB2 : Hid (Below w.heap.size w w2) := HB1.out.trans (hb2.mono HB1.out.size)
  have HT2 : Hid (Tk (w2.alloc (.cells #[.int .u64 (wd 0 0 : Nat), .int .u64 (wd 0 1 : Nat), .int .u64 (wd 0 2 : Nat), .int .u64 (wd 0 3 : Nat)] 30)) w.heap.size 0 { data := #[] } 0 0 0 0 0) := (HT0.out.below hb2 HT0.out.lt).alloc _
  clear hb2
  unfold rA cv
  obtain ⟨c0, c1, c2, c3, c4, c5, c6⟩ := HT2.out.cells
  obtain ⟨f0, f1, f2, f3, f4, f5, f6⟩ := HT2.out.thaw
  go_wp2_with fail
  obtain ⟨r0, r1, r2, r3, r4, r5, r6⟩ := (HT2.out.st7 0 { data := #[] } 0 0 0 0 0).cells
  unfold st7 at r0 r1 r2 r3 r4 r5 r6
  (try simp only [Exit.inBlock, Exit.then])
  refine bodyPost_ret (v := q3 0 { data := #[] } 0 0 0 0 0 ((p : Int) + (c.2 : Int)) (c.1 : Int)) (by simp [results, Tryz.results11, go_sem, r0, r1, r2, r3, r4, r5, r6]) rfl ?_
  exact ⟨rfl, Below.st7 (HB2.out.alloc HB2.out.size _) (Nat.le_refl _) _ _ _ _ _ _ _⟩
/-- What a token is handed back as. -/
def q3r (r : (Bool × (Nat × Nat)) ⊕ (Tok × Nat)) (p : Nat) : Value :=
  match r with
  | .inr (t, n) => .tuple #[tkv t, .int .i64 (n : Int), .int .i64 0]
  | .inl b => .tuple #[tv 0 { data := #[] } 0 0 0 0 0, .int .i64 ((wrg p b).2 : Int), .int .i64 ((wrg p b).1 : Int)]
/-- The document's own token, where a byte stands. -/
theorem qtoken_any (S : ByteArray) (p x : Nat) (w : World) (hb : bt S p = some x) (hS : S.size ≤ 9007199254740992) :
    Calls Tryz.prog 11 #[.string S, .int .i64 (p : Int)] w fun e w' => e = .returned (q3r (tokAt S p x) p) ∧ Below w.heap.size w w' := by
  unfold tokAt
  cases hl : letB x with
  | true =>
    simp only [if_true]
    by_cases h32 : 32 < ne S p - p
    · rw [if_pos h32]
      exact qtoken_long S p x w hb hl h32 hS
    · rw [if_neg h32]
      have := qtoken_name S p x w hb hl h32 _ _ rfl rfl hS
      simpa [q3r, tkv, tv, q3, wd_zero] using this
  | false =>
    simp only [Bool.false_eq_true, if_false]
    by_cases hq : x = 39 ∨ x = 34
    · rw [if_pos hq]
      cases hm : ll S x p (p + 1) [] with
      | inl c => exact qtoken_litbad S p x w hb hq c hm hS
      | inr r =>
        obtain ⟨l, m⟩ := r
        have := qtoken_lit S p x w hb hq l m _ rfl hm hS
        simpa [q3r, tkv, tv, q3, wd_zero] using this
    · rw [if_neg hq]
      by_cases hc : x = 91
      · rw [if_pos hc]
        cases hm : clsP (S.extract p S.size) with
        | inl c =>
          have := qtoken_clsbad S p x w hb hc c hm hS
          simpa [q3r, tv, q3, wrg] using this
        | inr r =>
          obtain ⟨C, m⟩ := r
          have := qtoken_cls S p x w hb hc C m hm hS
          simpa [q3r, tkv, tv, q3] using this
      · rw [if_neg hc]
        cases ha : arB S p with
        | true =>
          have := qtoken_arrow S p x w hb ha hS
          simpa [q3r, tkv, tv, q3, wd_zero] using this
        | false =>
          simp only [Bool.false_eq_true, if_false]
          cases hm : mkB x with
          | true =>
            have := qtoken_sign S p x w hb hl hm _ rfl hS
            simpa [q3r, tkv, tv, q3, wd_zero] using this
          | false =>
            simp only [Bool.false_eq_true, if_false]
            have hq2 : x ≠ 39 ∧ x ≠ 34 ∧ x ≠ 91 := by omega
            by_cases h60 : x = 60
            · cases hb2 : bt S (p + 1) with
              | none => exact qtoken_bad2 S p x w hb hl hq2 hm h60 (bt_none hb2) hS
              | some y =>
                refine qtoken_bad3 S p x w hb hl hq2 hm h60 y hb2 (fun e => ?_) hS
                unfold arB at ha
                rw [hb, hb2, h60, e] at ha
                simp at ha
            · exact qtoken_bad1 S p x w hb hl hq2 hm h60 hS
def AnsQ (r : Tr) (w : World) (e : Ending) (w' : World) : Prop :=
  match r with
  | .inr l => ∃ v, e = .returned (.tuple #[v, .int .i64 0, .int .i64 0]) ∧ Hid (w'.ownsRow w.heap.size 32 7 v l.length (tvs l)) ∧ Hid (Below w.heap.size w w')
  | .inl c => e = .returned (.tuple #[.slice none 0 0, .int .i64 (c.2 : Int), .int .i64 (c.1 : Int)]) ∧ Below w.heap.size w w'
set_option maxRecDepth 100000 in
theorem qtokens_long (S : ByteArray) (w : World) (hS : 8192 < S.size) :
    Calls Tryz.prog 6 #[.string S] w fun e w' => e = .returned (.tuple #[.slice none 0 0, .int .i64 (-1), .int .i64 2]) ∧ w' = w := by
  have c0 : decide ((8192 : Int) < (S.size : Int)) = true := by simp; omega
  go_enter Tryz.func6, Tryz.ntmps6
  go_wp2_with fail
  go_ret3
  exact ⟨rfl, rfl⟩
theorem wrg_code {p : Nat} {b : Bool × (Nat × Nat)} (h : b.2.1 = 2 ∨ b.2.1 = 3 ∨ b.2.1 = 4) : (((wrg p b).1 : Nat) : Int) ≠ 0 := by
  unfold wrg
  split
  · simp only; omega
  · omega
set_option maxRecDepth 100000 in
set_option maxHeartbeats 8000000 in
theorem qtokens_any (S : ByteArray) (w : World) (hS : S.size ≤ 8192) :
    Calls Tryz.prog 6 #[.string S] w fun e w' => AnsQ (tkS S) w e w' := by
  obtain ⟨iT, hiT, hzT0, hzT1, hzT2⟩ := info_parts Tryz.infoTok
  obtain ⟨R, hR⟩ : ∃ R, R = tks S (sb S 0) [] := ⟨_, rfl⟩
  have HA : Hid (tkS S = tkE S R) := by show _ = _; rw [hR]; rfl
  have HR : Hid (tks S (sb S 0) [] = R) := hR.symm
  have hs0 := sb_ge (S := S) (n := 0) (Nat.zero_le _)
  have HK : Hid (∀ (k : Nat) (w : World), k ≤ S.size → Calls Tryz.prog 10 #[.string S, .int .i64 (k : Int)] w fun e w' => e = .returned (.int .i64 ((sb S k : Nat) : Int)) ∧ w' = w) := fun k w hk => qblanks_any S k w hk (by omega)
  have c0 : decide ((8192 : Int) < (S.size : Int)) = false := by simp; omega
  clear hR
  go_enter Tryz.func6, Tryz.ntmps6
  go_wp2_with fail
  refine (HK.out 0 _ (Nat.zero_le _)).mono ?_
  rintro e w1 ⟨rfl, hw1⟩
  rw [hw1]
  clear hw1
  go_wp2_with fail
  go_loopw [5, 6] (fun v a wr => ∃ (k : Nat) (acc : List Tok), a = .int .i64 (k : Int) ∧ k ≤ S.size ∧ acc.length ≤ k ∧ Hid (tks S k acc = R) ∧ Hid (Lt w v acc wr)) (fun _ a _ => S.size - (intOf a).toNat)
  case atStart => exact ⟨sb S 0, [], rfl, hs0.2, by simp, HR, hid ⟨hid (Below.refl _ _), hid (World.ownsRow_nil _ _ _ _)⟩⟩
  case round =>
    obtain ⟨k, acc, rfl, hks, hal, HM, HL⟩ := hrel
    clear HR c0
    cases hb : bt S k with
    | none =>
      have hge := bt_none hb
      have a0 : decide ((k : Int) < (S.size : Int)) = false := by simp; omega
      have HF : Hid (tkS S = .inr (acc ++ [(6, { data := #[] }, 0, S.size)])) := by
        show _ = _
        rw [HA.out, ← HM.out, tks_end hge]; rfl
      have hsz : w.heap.size ≤ wr.heap.size := HL.out.1.out.size
      clear hb HM
      go_wp2_with (first | (at_builtin; refine wpList_append_own _ rfl (.tmp 37) (.tmp 41) 24 rfl w.heap.size 32 iT (.agg #[.int .i64 0, .string { data := #[] }, .int .u64 0, .int .u64 0, .int .u64 0, .int .u64 0, .int .i64 0]) 7 64 Tryz.underlying24 hiT hzT0 hzT1 hzT2 rfl (by decide) _ _ _ rfl (HL.out.2.out.alloc _) ⟨wr.heap.size, 0, none⟩ 1 1 (tvs [(6, { data := #[] }, 0, S.size)]) rfl rfl (by simpa [tvs, wd_zero] using seven_new wr _ _ _ _ _ _ _ 32) (seven_ok _ _ _ _ _ _ _) (by unfold maxLen; omega) (by omega) (by simp; omega) ?_; intro v3 w3 hown3 hgr3 hnil3))
      go_ret3
      rw [HF.out]
      exact ⟨_, rfl, hid (by rw [tvs_append, List.length_append]; exact hown3), hid ((HL.out.1.out.alloc hsz _).grown hgr3 (by simp; omega) (fun y e => (HL.out.2.out.lt y e).1))⟩
    | some x =>
      have hlt := (bt_lt hb).1
      have a0 : decide ((k : Int) < (S.size : Int)) = true := by simp; omega
      have HT : Hid (∀ w : World, Calls Tryz.prog 11 #[.string S, .int .i64 (k : Int)] w fun e w' => e = .returned (q3r (tokAt S k x) k) ∧ Below w.heap.size w w') := fun w => qtoken_any S k x w hb (by omega)
      cases ht : tokAt S k x with
      | inl b =>
        have HF : Hid (tkS S = .inl (wrg k b)) := by
          show _ = _
          rw [HA.out, ← HM.out, tks_bad hb ht]; rfl
        have hwr := tokAt_wrong hb ht
        obtain ⟨c, hc⟩ : ∃ c, c = wrg k b := ⟨_, rfl⟩
        have hc0 : (((c.1 : Nat) : Int) != 0) = true := by rw [bne_iff_ne, hc]; exact wrg_code hwr.1
        rw [ht] at HT
        unfold q3r at HT
        simp only at HT
        rw [← hc] at HT HF
        clear hb ht HM hwr hc
        go_wp2_with fail
        refine (HT.out _).mono ?_
        rintro e w2 ⟨rfl, hb2⟩
        have HB2 : Hid (Below w.heap.size w w2) := HL.out.1.out.trans (hb2.mono HL.out.1.out.size)
        clear hb2 HL HT
        go_wp2_with fail
        go_ret3
        rw [HF.out]
        exact ⟨rfl, HB2.out.alloc HB2.out.size _⟩
      | inr r =>
        obtain ⟨t, n⟩ := r
        obtain ⟨q1, q2, q3, q4, q5, q6, q7⟩ := tokAt_ok hb ht
        have HM2 : Hid (tks S (sb S n) (acc ++ [t]) = R) := by show _ = _; rw [← HM.out, tks_on hb ht]
        have hsn := sb_ge (S := S) (n := n) q2
        rw [ht] at HT
        unfold q3r at HT
        simp only at HT
        clear hb ht HM
        go_wp2_with fail
        refine (HT.out _).mono ?_
        rintro e w2 ⟨rfl, hb2⟩
        have HL2 := hid (HL.out.keep hb2)
        clear hb2 HL HT
        obtain ⟨kd, T, C, p⟩ := t
        have q4' : p = k := q4
        rw [q4'] at HM2 ⊢
        clear q4 q4'
        dsimp only [tkv]
        have hsz : w.heap.size ≤ w2.heap.size := HL2.out.1.out.size
        go_wp2_with (first | (at_builtin; refine wpList_append_own _ rfl (.tmp 30) (.tmp 32) 24 rfl w.heap.size 32 iT (.agg #[.int .i64 0, .string { data := #[] }, .int .u64 0, .int .u64 0, .int .u64 0, .int .u64 0, .int .i64 0]) 7 64 Tryz.underlying24 hiT hzT0 hzT1 hzT2 rfl (by decide) _ _ _ rfl ((HL2.out.2.out.alloc _).alloc _) ⟨w2.heap.size + 1, 0, none⟩ 1 1 (tvs [(kd, T, C, k)]) rfl rfl (by have := seven_new (w2.alloc (.cells #[.int .i64 (kd : Int), .string T, .int .u64 (wd C 0 : Nat), .int .u64 (wd C 1 : Nat), .int .u64 (wd C 2 : Nat), .int .u64 (wd C 3 : Nat), .int .i64 (k : Int)] 32)); simpa [tvs] using this _ _ _ _ _ _ _ 32) (seven_ok _ _ _ _ _ _ _) (by unfold maxLen; omega) (by omega) (by simp; omega) ?_; intro v3 w3 hown3 hgr3 hnil3))
        have HL3 : Hid (Lt w v3 (acc ++ [(kd, T, C, k)]) w3) := by
          refine ⟨hid (((HL2.out.1.out.alloc hsz _).alloc (by simp; omega) _).grown hgr3 (by simp; omega) (fun y e => (HL2.out.2.out.lt y e).1)), hid ?_⟩
          rw [tvs_append, List.length_append]; exact hown3
        clear hown3 hgr3 hnil3 HL2
        have HKn := hid (HK.out n w3 q2)
        refine HKn.out.mono ?_
        rintro e w4 ⟨rfl, hw4⟩
        rw [hw4]
        clear hw4
        go_wp2_with fail
        go_roundw
        case rel => exact ⟨sb S n, acc ++ [(kd, T, C, k)], rfl, hsn.2, by simp; omega, HM2, HL3⟩
        case measure => simp [intOf]; omega
end Go.Proofs.YtkofhmmnlapnnaaGreatDoor
