/-
  What lex.isLetter, isDigit, isPlain, fault, digit and strings.IndexByte answer. Conditions: those that each theorem names.
-/
import Derived.Test.YtkofhmmnlapnnaaGreatDoorKG5
import Derived.Lib.Bytealg
import Derived.LaidEql
import Derived.Stop.Asserts
import Derived.RowKitTokens
namespace Go.Proofs.YtkofhmmnlapnnaaGreatDoor
open Go.RowKit Go.Extern.Stop Go.Stop Go.Extern
set_option linter.unusedVariables false
def letB (x : Nat) : Bool := (decide (65 ≤ x) && decide (x ≤ 90)) || ((decide (97 ≤ x) && decide (x ≤ 122)) || x == 95)
def digB (x : Nat) : Bool := decide (48 ≤ x) && decide (x ≤ 57)
def plB (x : Nat) : Bool := decide (32 ≤ x) && decide (x ≤ 126)
set_option maxRecDepth 100000 in
set_option maxHeartbeats 1000000 in
theorem xletter_any (x : Nat) (v : Bool) (hv : letB x = v) (w : World) (hx : x < 256) :
    Calls Tryz.prog 36 #[.int .u8 (x : Int)] w fun e w' => e = .returned (.bool v) ∧ w' = w := by
  subst hv
  have hc : x < 65 ∨ (65 ≤ x ∧ x ≤ 90) ∨ (90 < x ∧ x < 95) ∨ x = 95 ∨ x = 96 ∨ (97 ≤ x ∧ x ≤ 122) ∨ 122 < x := by omega
  rcases hc with h | h | h | h | h | h | h
  · have hv : letB x = false := by unfold letB; simp; omega
    have a1 : decide (65 ≤ (x : Int)) = false := by simp; omega
    have a3 : decide (97 ≤ (x : Int)) = false := by simp; omega
    have a5 : ((x : Int) == 95) = false := by simp; omega
    rw [hv]; clear h hv
    go_enter Tryz.func36, Tryz.ntmps36
    go_wp2_with fail
    go_ret
    exact ⟨rfl, rfl⟩
  · have hv : letB x = true := by unfold letB; simp; omega
    have a1 : decide (65 ≤ (x : Int)) = true := by simp; omega
    have a2 : decide ((x : Int) ≤ 90) = true := by simp; omega
    rw [hv]; clear h hv
    go_enter Tryz.func36, Tryz.ntmps36
    go_wp2_with fail
    go_ret
    exact ⟨rfl, rfl⟩
  · have hv : letB x = false := by unfold letB; simp; omega
    have a1 : decide (65 ≤ (x : Int)) = true := by simp; omega
    have a2 : decide ((x : Int) ≤ 90) = false := by simp; omega
    have a3 : decide (97 ≤ (x : Int)) = false := by simp; omega
    have a5 : ((x : Int) == 95) = false := by simp; omega
    rw [hv]; clear h hv
    go_enter Tryz.func36, Tryz.ntmps36
    go_wp2_with fail
    go_ret
    exact ⟨rfl, rfl⟩
  · have hv : letB x = true := by unfold letB; simp; omega
    have a1 : decide (65 ≤ (x : Int)) = true := by simp; omega
    have a2 : decide ((x : Int) ≤ 90) = false := by simp; omega
    have a3 : decide (97 ≤ (x : Int)) = false := by simp; omega
    have a5 : ((x : Int) == 95) = true := by simp; omega
    rw [hv]; clear h hv
    go_enter Tryz.func36, Tryz.ntmps36
    go_wp2_with fail
    go_ret
    exact ⟨rfl, rfl⟩
  · have hv : letB x = false := by unfold letB; simp; omega
    have a1 : decide (65 ≤ (x : Int)) = true := by simp; omega
    have a2 : decide ((x : Int) ≤ 90) = false := by simp; omega
    have a3 : decide (97 ≤ (x : Int)) = false := by simp; omega
    have a5 : ((x : Int) == 95) = false := by simp; omega
    rw [hv]; clear h hv
    go_enter Tryz.func36, Tryz.ntmps36
    go_wp2_with fail
    go_ret
    exact ⟨rfl, rfl⟩
  · have hv : letB x = true := by unfold letB; simp; omega
    have a1 : decide (65 ≤ (x : Int)) = true := by simp; omega
    have a2 : decide ((x : Int) ≤ 90) = false := by simp; omega
    have a3 : decide (97 ≤ (x : Int)) = true := by simp; omega
    have a4 : decide ((x : Int) ≤ 122) = true := by simp; omega
    rw [hv]; clear h hv
    go_enter Tryz.func36, Tryz.ntmps36
    go_wp2_with fail
    go_ret
    exact ⟨rfl, rfl⟩
  · have hv : letB x = false := by unfold letB; simp; omega
    have a1 : decide (65 ≤ (x : Int)) = true := by simp; omega
    have a2 : decide ((x : Int) ≤ 90) = false := by simp; omega
    have a3 : decide (97 ≤ (x : Int)) = true := by simp; omega
    have a4 : decide ((x : Int) ≤ 122) = false := by simp; omega
    have a5 : ((x : Int) == 95) = false := by simp; omega
    rw [hv]; clear h hv
    go_enter Tryz.func36, Tryz.ntmps36
    go_wp2_with fail
    go_ret
    exact ⟨rfl, rfl⟩
set_option maxRecDepth 100000 in
set_option maxHeartbeats 1000000 in
theorem xdigitB_any (x : Nat) (v : Bool) (hv : digB x = v) (w : World) (hx : x < 256) :
    Calls Tryz.prog 61 #[.int .u8 (x : Int)] w fun e w' => e = .returned (.bool v) ∧ w' = w := by
  subst hv
  unfold digB
  by_cases h1 : 48 ≤ x
  · have a1 : decide (48 ≤ (x : Int)) = true := by simp; omega
    by_cases h2 : x ≤ 57
    · have a2 : decide ((x : Int) ≤ 57) = true := by simp; omega
      rw [decide_eq_true h1, decide_eq_true h2]
      clear h1 h2
      go_enter Tryz.func61, Tryz.ntmps61
      go_wp2_with fail
      go_ret
      exact ⟨rfl, rfl⟩
    · have a2 : decide ((x : Int) ≤ 57) = false := by simp; omega
      rw [decide_eq_true h1, decide_eq_false h2]
      clear h1 h2
      go_enter Tryz.func61, Tryz.ntmps61
      go_wp2_with fail
      go_ret
      exact ⟨rfl, rfl⟩
  · have a1 : decide (48 ≤ (x : Int)) = false := by simp; omega
    rw [decide_eq_false h1]
    clear h1
    go_enter Tryz.func61, Tryz.ntmps61
    go_wp2_with fail
    go_ret
    exact ⟨rfl, rfl⟩
set_option maxRecDepth 100000 in
set_option maxHeartbeats 1000000 in
theorem xplain_any (x : Nat) (v : Bool) (hv : plB x = v) (w : World) (hx : x < 256) :
    Calls Tryz.prog 63 #[.int .u8 (x : Int)] w fun e w' => e = .returned (.bool v) ∧ w' = w := by
  subst hv
  unfold plB
  by_cases h1 : 32 ≤ x
  · have a1 : decide (32 ≤ (x : Int)) = true := by simp; omega
    by_cases h2 : x ≤ 126
    · have a2 : decide ((x : Int) ≤ 126) = true := by simp; omega
      rw [decide_eq_true h1, decide_eq_true h2]
      clear h1 h2
      go_enter Tryz.func63, Tryz.ntmps63
      go_wp2_with fail
      go_ret
      exact ⟨rfl, rfl⟩
    · have a2 : decide ((x : Int) ≤ 126) = false := by simp; omega
      rw [decide_eq_true h1, decide_eq_false h2]
      clear h1 h2
      go_enter Tryz.func63, Tryz.ntmps63
      go_wp2_with fail
      go_ret
      exact ⟨rfl, rfl⟩
  · have a1 : decide (32 ≤ (x : Int)) = false := by simp; omega
    rw [decide_eq_false h1]
    clear h1
    go_enter Tryz.func63, Tryz.ntmps63
    go_wp2_with fail
    go_ret
    exact ⟨rfl, rfl⟩
set_option maxRecDepth 100000 in
set_option maxHeartbeats 1000000 in
theorem xfault_any (S : ByteArray) (k : Nat) (w : World) (hS : S.size ≤ 9007199254740992) (hk : k ≤ 9007199254740999) :
    Calls Tryz.prog 42 #[.string S, .int .i64 (k : Int)] w fun e w' => e = .returned (flv w.heap.size) ∧ Flt w' w.heap.size (flt S k) ∧ Below w.heap.size w w' := by
  by_cases h : S.size ≤ k
  · have a0 : decide ((S.size : Int) ≤ (k : Int)) = true := by simp; omega
    have HF : Hid (flt S k = (3, S.size)) := by show _ = _; unfold flt; rw [if_pos h]
    go_enter Tryz.func42, Tryz.ntmps42
    go_wp2_with fail
    go_ret
    rw [HF.out]
    exact ⟨rfl, Flt.new w (3, S.size), (Below.refl _ _).alloc (Nat.le_refl _) _⟩
  · have a0 : decide ((S.size : Int) ≤ (k : Int)) = false := by simp; omega
    have HF : Hid (flt S k = (4, k)) := by show _ = _; unfold flt; rw [if_neg h]
    go_enter Tryz.func42, Tryz.ntmps42
    go_wp2_with fail
    go_ret
    rw [HF.out]
    exact ⟨rfl, Flt.new w (4, k), (Below.refl _ _).alloc (Nat.le_refl _) _⟩
theorem xfault_at (S : ByteArray) (k : Nat) (c : Nat × Nat) (w0 w : World) (h : flt S k = c) (hS : S.size ≤ 9007199254740992) (hk : k ≤ 9007199254740999) (hb : Below w0.heap.size w0 w) :
    Calls Tryz.prog 42 #[.string S, .int .i64 (k : Int)] w fun e w' => ∃ p, e = .returned (flv p) ∧ Hid (w0.heap.size ≤ p ∧ Flt w' p c ∧ Below w0.heap.size w0 w') :=
  (xfault_any S k w hS hk).mono fun e w' ⟨h1, h2, h3⟩ => ⟨_, h1, hb.size, h ▸ h2, hb.trans (h3.mono hb.size)⟩
set_option maxRecDepth 100000 in
set_option maxHeartbeats 1000000 in
theorem index_any (T : ByteArray) (x : Nat) (w : World) :
    Calls Tryz.prog 41 #[.string T, .int .u8 (x : Int)] w fun e w' => e = .returned (.int .i64 (Lib.indexByte T.data.toList x.toUInt8)) ∧ w' = w := by
  have hIB := @run_callFunc_extern Tryz.prog 70 _ Extern.BytealgIndexByte.indexByte Tryz.func70 (by kernel_rfl) (by kernel_rfl) (by kernel_rfl) (by kernel_rfl)
  have hR := Lib.run_indexByteString (P := Tryz.prog) T (x : Int)
  simp only [Int.toNat_natCast] at hR
  go_enter Tryz.func41, Tryz.ntmps41
  go_wp2
  go_ret
  exact ⟨rfl, rfl⟩
/-- A digit's number, or -1. -/
def dgi (x : Nat) : Int := match dgv x with | some d => (d : Int) | none => -1
theorem dgi_some {x d : Nat} (h : dgv x = some d) : dgi x = (d : Int) := by unfold dgi; rw [h]
theorem dgi_none {x : Nat} (h : dgv x = none) : dgi x = -1 := by unfold dgi; rw [h]
theorem dig_index : ∀ x : Nat, x < 256 → Lib.indexByte [48, 49, 50, 51, 52, 53, 54, 55, 56, 57, 97, 98, 99, 100, 101, 102] x.toUInt8 = dgi x := by decide +kernel
def mkB (x : Nat) : Bool := x == 47 || x == 38 || x == 33 || x == 63 || x == 42 || x == 43 || x == 40 || x == 41 || x == 46
theorem mark_index : ∀ x : Nat, x < 256 → decide (0 ≤ Lib.indexByte [47, 38, 33, 63, 42, 43, 40, 41, 46] x.toUInt8) = mkB x := by decide +kernel
/-- The digit at a place: its number, or -1. -/
def dgk (S : ByteArray) (k : Nat) : Int := match bt S k with | none => -1 | some x => dgi x
set_option maxRecDepth 100000 in
set_option maxHeartbeats 1000000 in
theorem xdig_any (S : ByteArray) (k : Nat) (w : World) (hS : S.size ≤ 9007199254740992) :
    Calls Tryz.prog 79 #[.string S, .int .i64 (k : Int)] w fun e w' => e = .returned (.int .i64 (dgk S k)) ∧ w' = w := by
  unfold dgk
  cases hx : bt S k with
  | none =>
    have hge := bt_none hx
    have a0 : decide ((S.size : Int) ≤ (k : Int)) = true := by simp; omega
    simp only
    clear hx
    go_enter Tryz.func79, Tryz.ntmps79
    go_wp2_with fail
    go_ret
    exact ⟨rfl, rfl⟩
  | some x =>
    have hxl := (bt_lt hx).2
    obtain ⟨hk, hxx⟩ := bt_at hx
    have hkI : (k : Int) < (S.size : Int) := by omega
    have a0 : decide ((S.size : Int) ≤ (k : Int)) = false := by simp; omega
    have HI : Hid (∀ w : World, Calls Tryz.prog 41 #[.string { data := #[48, 49, 50, 51, 52, 53, 54, 55, 56, 57, 97, 98, 99, 100, 101, 102] }, .int .u8 (x : Int)] w fun e w' => e = .returned (.int .i64 (dgi x)) ∧ w' = w) := fun w => by
      have h := index_any { data := #[48, 49, 50, 51, 52, 53, 54, 55, 56, 57, 97, 98, 99, 100, 101, 102] } x w
      rw [show ({ data := #[48, 49, 50, 51, 52, 53, 54, 55, 56, 57, 97, 98, 99, 100, 101, 102] } : ByteArray).data.toList = [48, 49, 50, 51, 52, 53, 54, 55, 56, 57, 97, 98, 99, 100, 101, 102] from rfl, dig_index x hxl] at h
      exact h
    simp only
    clear hx
    go_enter Tryz.func79, Tryz.ntmps79
    go_wp2_with fail
    refine (HI.out _).mono ?_
    rintro e w1 ⟨rfl, rfl⟩
    go_wp2_with fail
    go_ret
    exact ⟨rfl, rfl⟩
end Go.Proofs.YtkofhmmnlapnnaaGreatDoor
