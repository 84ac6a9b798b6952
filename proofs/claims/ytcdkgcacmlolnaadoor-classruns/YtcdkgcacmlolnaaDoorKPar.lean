/-
  What class.begins, digit, takeDigits, takeEscape and takeSign answer where a sign stands. Conditions: those that each theorem names.
-/
import Derived.Test.YtcdkgcacmlolnaaDoorKTxt
namespace Go.Proofs.YtcdkgcacmlolnaaDoor
open Go.RowKit
set_option linter.unusedVariables false
theorem nb_size (l : List Nat) : (nb l).size = l.length := by simp [nb, ByteArray.size]
/-- In the text S there stands the byte x at k. -/
def At (S : ByteArray) (k x : Nat) : Prop := ∃ h : k < S.size, (S[k]).toNat = x
theorem At.lt {S : ByteArray} {k x : Nat} (h : At S k x) : k < S.size := h.1
theorem At.u8 {S : ByteArray} {k x : Nat} (h : At S k x) : x < 256 := by
  obtain ⟨h1, rfl⟩ := h
  exact (S[k]).toNat_lt
theorem at_nb (l : List Nat) (hl : ∀ x ∈ l, x < 256) (k x : Nat) (h : l[k]? = some x) : At (nb l) k x := by
  obtain ⟨hk, e⟩ := List.getElem?_eq_some_iff.1 h
  refine ⟨by rw [nb_size]; exact hk, ?_⟩
  have hx := hl x (by rw [← e]; exact List.getElem_mem hk)
  have hg : (nb l)[k]'(by rw [nb_size]; exact hk) = UInt8.ofNat x := by
    rw [ByteArray.getElem_eq_getElem_data]
    simp [nb, e]
  rw [hg]
  simp
  omega
theorem beqN (x b : Nat) : ((x : Int) == (b : Int)) = (x == b) := by
  by_cases e : x = b
  · subst e; simp
  · rw [beq_false_of_ne e]; simp; omega
set_option maxRecDepth 100000 in
set_option maxHeartbeats 1000000 in
theorem begins_at (S : ByteArray) (k x b : Nat) (v : Bool) (w : World) (hb : b < 256) (h : At S k x) (hv : (x == b) = v) (hS : S.size ≤ 9007199254740992) :
    Calls Tryd.prog 35 #[.string S, .int .i64 (k : Int), .int .u8 (b : Int)] w fun e w' => e = .returned (.bool v) ∧ Below w.heap.size w w' := by
  obtain ⟨hk, hx⟩ := h
  have hkI : (k : Int) < (S.size : Int) := by omega
  have hq := beqN x b
  rw [hv] at hq
  go_enter Tryd.func35, Tryd.ntmps35
  go_wp2_with fail
  go_ret
  exact ⟨rfl, Below.refl _ _⟩
theorem or_dig : ∀ q : Nat, q < 16 → ∀ r : Nat, r < 16 → bits BinOp.or IntKind.u8 ((q : Int) * 16) (r : Int) = ((16 * q + r : Nat) : Int) := by decide +kernel
set_option maxRecDepth 100000 in
set_option maxHeartbeats 1000000 in
theorem digit_at (S : ByteArray) (k d : Nat) (w : World) (hd : d < 16) (h : At S k (hexd d)) (hS : S.size ≤ 9007199254740992) :
    Calls Tryd.prog 55 #[.string S, .int .i64 (k : Int)] w fun e w' => e = .returned (.tuple #[.int .u8 (d : Int), .bool true]) ∧ Below w.heap.size w w' := by
  obtain ⟨x, hxd⟩ : ∃ x, x = hexd d := ⟨_, rfl⟩
  rw [← hxd] at h
  obtain ⟨hk, hx⟩ := h
  have hkI : (k : Int) < (S.size : Int) := by omega
  have a0 : decide ((S.size : Int) ≤ (k : Int)) = false := by simp; omega
  by_cases h10 : d < 10
  · have hx2 : x = 48 + d := by rw [hxd, hexd, if_pos h10]
    have a1 : decide (48 ≤ (x : Int)) = true := by simp; omega
    have a2 : decide ((x : Int) ≤ 57) = true := by simp; omega
    have a3 : IntKind.u8.wrap ((x : Int) - 48) = (d : Int) := by rw [IntKind.wrap_u8]; omega
    clear hxd hx2
    go_enter Tryd.func55, Tryd.ntmps55
    go_wp2_with fail
    go_ret2
    exact ⟨rfl, Below.refl _ _⟩
  · have hx2 : x = 87 + d := by rw [hxd, hexd, if_neg h10]
    have a1 : decide (48 ≤ (x : Int)) = true := by simp; omega
    have a2 : decide ((x : Int) ≤ 57) = false := by simp; omega
    have a4 : decide (97 ≤ (x : Int)) = true := by simp; omega
    have a5 : decide ((x : Int) ≤ 102) = true := by simp; omega
    have a3 : IntKind.u8.wrap ((x : Int) - 97) = ((d - 10 : Nat) : Int) := by rw [IntKind.wrap_u8]; omega
    have a6 : IntKind.u8.wrap (((d - 10 : Nat) : Int) + 10) = (d : Int) := by rw [IntKind.wrap_u8]; omega
    clear hxd hx2
    go_enter Tryd.func55, Tryd.ntmps55
    go_wp2_with fail
    go_ret2
    exact ⟨rfl, Below.refl _ _⟩
set_option maxRecDepth 100000 in
set_option maxHeartbeats 1000000 in
theorem digits_at (S : ByteArray) (k q r c : Nat) (w : World) (hc : 16 * q + r = c) (hq : q < 16) (hr : r < 16) (h : At S k (hexd q)) (h2 : At S (k + 1) (hexd r)) (hS : S.size ≤ 9007199254740992) :
    Calls Tryd.prog 54 #[.string S, .int .i64 (k : Int)] w fun e w' => e = .returned (.tuple #[.int .u8 (c : Int), .int .i64 ((k : Int) + 2), .nilIface]) ∧ Below w.heap.size w w' := by
  have H1 : Hid (∀ w : World, Calls Tryd.prog 55 #[.string S, .int .i64 (k : Int)] w fun e w' => e = .returned (.tuple #[.int .u8 (q : Int), .bool true]) ∧ Below w.heap.size w w') := fun w => digit_at S k q w hq h hS
  have H2 : Hid (∀ w : World, Calls Tryd.prog 55 #[.string S, .int .i64 ((k : Int) + 1)] w fun e w' => e = .returned (.tuple #[.int .u8 (r : Int), .bool true]) ∧ Below w.heap.size w w') := fun w => by
    have h := digit_at S (k + 1) r w hr h2 hS
    rw [show ((k + 1 : Nat) : Int) = (k : Int) + 1 by omega] at h
    exact h
  have hk := h.lt
  have ho := or_dig q hq r hr
  rw [hc] at ho
  clear hc
  have hks : (k : Int) + 2 ≤ 9007199254740994 := by omega
  clear h h2
  go_enter Tryd.func54, Tryd.ntmps54
  go_wp2_with fail
  refine (H1.out _).mono ?_
  rintro e w1 ⟨rfl, hb1⟩
  have HB1 : Hid (Below w.heap.size w w1) := hb1
  clear hb1
  go_wp2_with fail
  refine (H2.out _).mono ?_
  rintro e w2 ⟨rfl, hb2⟩
  have HB2 : Hid (Below w.heap.size w w2) := HB1.out.trans (hb2.mono HB1.out.size)
  clear hb2
  go_wp2_with fail
  go_ret3
  exact ⟨rfl, HB2.out⟩
set_option maxRecDepth 100000 in
set_option maxHeartbeats 2000000 in
theorem escape_any (S : ByteArray) (m b : Nat) (t : List Nat) (w : World) (hb : b < 256) (ht : sgn b = 92 :: t) (hne : t ≠ []) (hAt : ∀ j x, t[j]? = some x → At S (m + j) x) (hS : S.size ≤ 9007199254740992) :
    Calls Tryd.prog 53 #[.string S, .int .i64 (m : Int)] w fun e w' => e = .returned (.tuple #[.int .u8 (b : Int), .int .i64 ((m + t.length : Nat) : Int), .nilIface]) ∧ Below w.heap.size w w' := by
  unfold sgn at ht
  by_cases h10 : b = 10
  · rw [if_pos h10] at ht
    obtain rfl : t = [110] := by simpa using ht.symm
    obtain ⟨x, hx0⟩ : ∃ x : Nat, x = 110 := ⟨_, rfl⟩
    obtain ⟨hk, hx⟩ := hAt 0 110 rfl
    rw [← hx0] at hx
    have t110 : ((x : Int) == 110) = true := by simp; omega
    have hkI : (m : Int) < (S.size : Int) := by omega
    have a0 : decide ((S.size : Int) ≤ (m : Int)) = false := by simp; omega
    simp only [Nat.add_zero] at hk hx
    subst h10
    clear ht hAt hne hx0
    go_enter Tryd.func53, Tryd.ntmps53
    go_wp2_with fail
    go_ret3
    exact ⟨rfl, Below.refl _ _⟩
  · rw [if_neg h10] at ht
    by_cases h13 : b = 13
    · rw [if_pos h13] at ht
      obtain rfl : t = [114] := by simpa using ht.symm
      obtain ⟨x, hx0⟩ : ∃ x : Nat, x = 114 := ⟨_, rfl⟩
      obtain ⟨hk, hx⟩ := hAt 0 114 rfl
      rw [← hx0] at hx
      have t110 : ((x : Int) == 110) = false := by simp; omega
      have t114 : ((x : Int) == 114) = true := by simp; omega
      have hkI : (m : Int) < (S.size : Int) := by omega
      have a0 : decide ((S.size : Int) ≤ (m : Int)) = false := by simp; omega
      simp only [Nat.add_zero] at hk hx
      subst h13
      clear ht hAt hne hx0
      go_enter Tryd.func53, Tryd.ntmps53
      go_wp2_with fail
      go_ret3
      exact ⟨rfl, Below.refl _ _⟩
    · rw [if_neg h13] at ht
      by_cases h9 : b = 9
      · rw [if_pos h9] at ht
        obtain rfl : t = [116] := by simpa using ht.symm
        obtain ⟨x, hx0⟩ : ∃ x : Nat, x = 116 := ⟨_, rfl⟩
        obtain ⟨hk, hx⟩ := hAt 0 116 rfl
        rw [← hx0] at hx
        have t110 : ((x : Int) == 110) = false := by simp; omega
        have t114 : ((x : Int) == 114) = false := by simp; omega
        have t116 : ((x : Int) == 116) = true := by simp; omega
        have hkI : (m : Int) < (S.size : Int) := by omega
        have a0 : decide ((S.size : Int) ≤ (m : Int)) = false := by simp; omega
        simp only [Nat.add_zero] at hk hx
        subst h9
        clear ht hAt hne hx0
        go_enter Tryd.func53, Tryd.ntmps53
        go_wp2_with fail
        go_ret3
        exact ⟨rfl, Below.refl _ _⟩
      · rw [if_neg h9] at ht
        cases hm : mark b
        · rw [hm, if_neg (by simp)] at ht
          by_cases hp : 32 ≤ b ∧ b ≤ 126
          · rw [if_pos hp] at ht
            have : t = [] := by simp at ht; exact ht.2
            exact absurd this hne
          · rw [if_neg hp] at ht
            obtain rfl : t = [120, hexd (b / 16), hexd (b % 16)] := by simpa using ht.symm
            have HD : Hid (∀ w : World, Calls Tryd.prog 54 #[.string S, .int .i64 ((m : Int) + 1)] w fun e w' => e = .returned (.tuple #[.int .u8 (b : Int), .int .i64 ((m : Int) + 3), .nilIface]) ∧ Below w.heap.size w w') := fun w => by
              have h := digits_at S (m + 1) (b / 16) (b % 16) b w (by omega) (by omega) (by omega) (hAt 1 _ rfl) (hAt 2 _ rfl) hS
              rw [show ((m + 1 : Nat) : Int) = (m : Int) + 1 by omega, show (m : Int) + 1 + 2 = (m : Int) + 3 by omega] at h
              exact h
            have hk2 := (hAt 2 _ rfl).lt
            obtain ⟨x, hx0⟩ : ∃ x : Nat, x = 120 := ⟨_, rfl⟩
            obtain ⟨hk, hx⟩ := hAt 0 120 rfl
            rw [← hx0] at hx
            have t110 : ((x : Int) == 110) = false := by simp; omega
            have t114 : ((x : Int) == 114) = false := by simp; omega
            have t116 : ((x : Int) == 116) = false := by simp; omega
            have t120 : ((x : Int) == 120) = true := by simp; omega
            have hkI : (m : Int) < (S.size : Int) := by omega
            have a0 : decide ((S.size : Int) ≤ (m : Int)) = false := by simp; omega
            simp only [Nat.add_zero] at hk hx
            have HMk : Hid (∀ w : World, Calls Tryd.prog 44 #[.int .u8 (x : Int)] w fun e w' => e = .returned (.bool false) ∧ w' = w) := fun w => by rw [hx0]; exact mark_any 120 w (by omega)
            clear ht hAt hne hp hm hx0
            go_enter Tryd.func53, Tryd.ntmps53
            go_wp2_with fail
            refine (HMk.out _).mono ?_
            rintro e w1 ⟨rfl, rfl⟩
            go_wp2_with fail
            refine (HD.out _).mono ?_
            rintro e w2 ⟨rfl, hb2⟩
            have HB2 : Hid (Below w1.heap.size w1 w2) := hb2
            clear hb2
            go_wp2_with fail
            go_ret3
            exact ⟨by simp, HB2.out⟩
        · rw [hm, if_pos rfl] at ht
          obtain rfl : t = [b] := by simpa using ht.symm
          obtain ⟨hk, hx⟩ := hAt 0 b rfl
          have hkI : (m : Int) < (S.size : Int) := by omega
          have a0 : decide ((S.size : Int) ≤ (m : Int)) = false := by simp; omega
          simp only [Nat.add_zero] at hk hx
          have hml := hm
          unfold mark at hml
          simp at hml
          have b1 : ((b : Int) == 110) = false := by simp; omega
          have b2 : ((b : Int) == 114) = false := by simp; omega
          have b3 : ((b : Int) == 116) = false := by simp; omega
          have HMk : Hid (∀ w : World, Calls Tryd.prog 44 #[.int .u8 (b : Int)] w fun e w' => e = .returned (.bool true) ∧ w' = w) := fun w => by
            have := mark_any b w hb
            rw [hm] at this
            exact this
          clear ht hAt hne hm hml h10 h13 h9
          go_enter Tryd.func53, Tryd.ntmps53
          go_wp2_with fail
          refine (HMk.out _).mono ?_
          rintro e w1 ⟨rfl, rfl⟩
          go_wp2_with fail
          go_ret3
          exact ⟨rfl, Below.refl _ _⟩
end Go.Proofs.YtcdkgcacmlolnaaDoor
