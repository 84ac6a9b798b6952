/-
  What class.takeSign and takeMember answer where a sign, a member stands. Conditions: those that each theorem names.
-/
import Derived.Test.YtcdkgcacmlolnaaDoorKPar
namespace Go.Proofs.YtcdkgcacmlolnaaDoor
open Go.RowKit
set_option linter.unusedVariables false
theorem sgn_form (b : Nat) : (∃ t, sgn b = 92 :: t ∧ t ≠ []) ∨ (sgn b = [b] ∧ mark b = false ∧ 32 ≤ b ∧ b ≤ 126) := by
  unfold sgn
  split
  · exact .inl ⟨_, rfl, by simp⟩
  · split
    · exact .inl ⟨_, rfl, by simp⟩
    · split
      · exact .inl ⟨_, rfl, by simp⟩
      · split
        · exact .inl ⟨_, rfl, by simp⟩
        · rename_i hm
          split
          · rename_i hp
            exact .inr ⟨rfl, by simpa using hm, hp.1, hp.2⟩
          · exact .inl ⟨_, rfl, by simp⟩
/-- In the text S there stand these bytes from k on. -/
def Here (S : ByteArray) (k : Nat) (l : List Nat) : Prop := ∀ j x, l[j]? = some x → At S (k + j) x
theorem Here.left {S : ByteArray} {k : Nat} {a b : List Nat} (h : Here S k (a ++ b)) : Here S k a := fun j x hj => h j x (by
  rw [List.getElem?_append_left (List.getElem?_eq_some_iff.1 hj).1]; exact hj)
theorem Here.right {S : ByteArray} {k : Nat} {a b : List Nat} (h : Here S k (a ++ b)) : Here S (k + a.length) b := fun j x hj => by
  have := h (a.length + j) x (by rw [List.getElem?_append_right (by omega), show a.length + j - a.length = j by omega]; exact hj)
  rw [← Nat.add_assoc] at this
  exact this
theorem Here.head {S : ByteArray} {k x : Nat} {l : List Nat} (h : Here S k (x :: l)) : At S k x := h 0 x rfl
set_option maxRecDepth 100000 in
set_option maxHeartbeats 2000000 in
theorem tsign_any (S : ByteArray) (k b N : Nat) (w : World) (hb : b < 256) (hN : k + (sgn b).length = N) (h : Here S k (sgn b)) (hS : S.size ≤ 9007199254740992) :
    Calls Tryd.prog 48 #[.string S, .int .i64 (k : Int)] w fun e w' => e = .returned (.tuple #[.int .u8 (b : Int), .int .i64 (N : Int), .nilIface]) ∧ Below w.heap.size w w' := by
  rcases sgn_form b with ⟨t, ht, hne⟩ | ⟨ht, hm, hp1, hp2⟩
  · rw [ht] at h hN
    have HB : Hid (∀ w : World, Calls Tryd.prog 35 #[.string S, .int .i64 (k : Int), .int .u8 92] w fun e w' => e = .returned (.bool true) ∧ Below w.heap.size w w') := fun w => begins_at S k 92 92 true w (by omega) h.head rfl hS
    have HE : Hid (∀ w : World, Calls Tryd.prog 53 #[.string S, .int .i64 ((k : Int) + 1)] w fun e w' => e = .returned (.tuple #[.int .u8 (b : Int), .int .i64 (N : Int), .nilIface]) ∧ Below w.heap.size w w') := fun w => by
      have he := escape_any S (k + 1) b t w hb ht hne (fun j x hj => by have := h (j + 1) x (by simpa using hj); rw [show k + 1 + j = k + (j + 1) by omega]; exact this) hS
      rw [show k + 1 + t.length = N by simp at hN; omega, show ((k + 1 : Nat) : Int) = (k : Int) + 1 by omega] at he
      exact he
    have hk := h.head.lt
    clear h hN ht hne
    go_enter Tryd.func48, Tryd.ntmps48
    go_wp2_with fail
    refine (HB.out _).mono ?_
    rintro e w1 ⟨rfl, hb1⟩
    have HB1 : Hid (Below w.heap.size w w1) := hb1
    clear hb1
    go_wp2_with fail
    refine (HE.out _).mono ?_
    rintro e w2 ⟨rfl, hb2⟩
    have HB2 : Hid (Below w.heap.size w w2) := HB1.out.trans (hb2.mono HB1.out.size)
    clear hb2
    go_wp2_with fail
    go_ret3
    exact ⟨rfl, HB2.out⟩
  · rw [ht] at h hN
    have hn92 : (b == 92) = false := by
      unfold mark at hm
      simp at hm ⊢
      omega
    have HB : Hid (∀ w : World, Calls Tryd.prog 35 #[.string S, .int .i64 (k : Int), .int .u8 92] w fun e w' => e = .returned (.bool false) ∧ Below w.heap.size w w') := fun w => begins_at S k b 92 false w (by omega) h.head hn92 hS
    have HM : Hid (∀ w : World, Calls Tryd.prog 44 #[.int .u8 (b : Int)] w fun e w' => e = .returned (.bool false) ∧ w' = w) := fun w => by
      have := mark_any b w hb
      rw [hm] at this
      exact this
    have HP : Hid (∀ w : World, Calls Tryd.prog 45 #[.int .u8 (b : Int)] w fun e w' => e = .returned (.bool true) ∧ w' = w) := fun w => by
      have := print_any b w hb
      rw [decide_eq_true hp1, decide_eq_true hp2] at this
      exact this
    obtain ⟨hk, hx⟩ := h.head
    have hkI : (k : Int) < (S.size : Int) := by omega
    have a0 : decide ((S.size : Int) ≤ (k : Int)) = false := by simp; omega
    have hNI : (k : Int) + 1 = (N : Int) := by simp at hN; omega
    clear h hN ht hm hn92 hp1 hp2
    go_enter Tryd.func48, Tryd.ntmps48
    go_wp2_with fail
    refine (HB.out _).mono ?_
    rintro e w1 ⟨rfl, hb1⟩
    have HB1 : Hid (Below w.heap.size w w1) := hb1
    clear hb1
    go_wp2_with fail
    refine (HM.out _).mono ?_
    rintro e w2 ⟨rfl, rfl⟩
    go_wp2_with fail
    refine (HP.out _).mono ?_
    rintro e w3 ⟨rfl, rfl⟩
    go_wp2_with fail
    go_ret3
    exact ⟨rfl, HB1.out⟩
end Go.Proofs.YtcdkgcacmlolnaaDoor
