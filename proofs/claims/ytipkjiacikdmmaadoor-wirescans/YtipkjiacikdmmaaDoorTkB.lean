/-
  What wire.TakeBlob leaves, in one form for all its ways; a blob's bytes are taken as that blob. Condition: the slice holds the bytes.
-/
import Derived.Test.YtipkjiacikdmmaaDoorBackP
namespace Go.Proofs.YtipkjiacikdmmaaDoor
open Go.RowKit
set_option linter.unusedVariables false

theorem has_nil (w : World) : Has w none 0 0 [] := ⟨rfl, Nat.le_refl _, by unfold maxLen; omega, fun _ => rfl, fun h => absurd h (by omega)⟩
/-- What wire.TakeBlob left. -/
def BkLeft (w : World) (l : List UInt8) (aq : Option Addr) (lq cq u : Nat) (ev : Value) : Prop := Has w aq lq cq (tkBlob l).1 ∧ u = (tkBlob l).2.1 ∧ ev = errV (tkBlob l).2.2
theorem takeBlob_ex (a : Option Addr) (len cap : Nat) (l : List UInt8) (w : World) (h : Has w a len cap l) :
    Calls Tryd.prog 17 #[.slice a len cap] w fun e w' => ∃ (aq : Option Addr) (lq cq u : Nat) (ev : Value), e = .returned (.tuple #[.slice aq lq cq, .int .i64 (u : Int), ev]) ∧ Hid (Below w.heap.size w w') ∧ Hid (BkLeft w' l aq lq cq u ev) := by
  by_cases h0 : (tkNum l).2.2 = 0
  · by_cases h1 : 65536 < (tkNum l).1
    · refine (takeBlob_long a len cap l w h h0 h1).mono fun e w' ⟨he, hw⟩ => ?_
      subst hw
      refine ⟨none, 0, 0, 0, _, he, Below.refl _ _, ?_⟩
      have e1 : tkBlob l = ([], 0, 2) := by unfold tkBlob; rw [if_neg (by simpa using h0), if_pos h1]
      rw [BkLeft, e1]
      exact ⟨has_nil _, rfl, rfl⟩
    · by_cases h2 : l.length - (tkNum l).2.1 < (tkNum l).1
      · refine (takeBlob_short a len cap l w h h0 h1 h2).mono fun e w' ⟨he, hw⟩ => ?_
        subst hw
        refine ⟨none, 0, 0, 0, _, he, Below.refl _ _, ?_⟩
        have e1 : tkBlob l = ([], 0, 3) := by unfold tkBlob; rw [if_neg (by simpa using h0), if_neg h1, if_pos h2]
        rw [BkLeft, e1]
        exact ⟨has_nil _, rfl, rfl⟩
      · refine (takeBlob_ok a len cap l w h h0 h1 h2).mono fun e w' ⟨he, hown, hb⟩ => ?_
        refine ⟨_, _, _, _, _, he, hb, ?_⟩
        have e1 : tkBlob l = ((l.drop (tkNum l).2.1).take (tkNum l).1, (tkNum l).2.1 + (tkNum l).1, 0) := by unfold tkBlob; rw [if_neg (by simpa using h0), if_neg h1, if_neg h2]
        rw [BkLeft, e1]
        exact ⟨Has.of_row hown, rfl, rfl⟩
  · refine (takeBlob_err a len cap _ l w h rfl h0).mono fun e w' ⟨he, hw⟩ => ?_
    subst hw
    refine ⟨none, 0, 0, 0, _, he, Below.refl _ _, ?_⟩
    have e1 : tkBlob l = ([], 0, (tkNum l).2.2) := by unfold tkBlob; rw [if_pos h0]
    rw [BkLeft, e1]
    exact ⟨has_nil _, rfl, by simp [errV, h0]⟩
theorem tkBlob_blobB (p b : List UInt8) (h : p.length ≤ 65536) : tkBlob (blobB p ++ b) = (p, 1 + wid p.length + p.length, 0) := by
  unfold tkBlob
  rw [blob_back p b h]
  rw [if_neg (by simp), if_neg (by simp; omega), if_neg (by simp [blobB_length]; omega)]
  simp only
  rw [blob_part]

/-- Blobs in a row. -/
def cat : List (List UInt8) → List UInt8
  | [] => []
  | p :: r => blobB p ++ cat r
theorem cat_append : ∀ (l m : List (List UInt8)), cat (l ++ m) = cat l ++ cat m
  | [], m => rfl
  | p :: l, m => by simp [cat, cat_append l m]
theorem cat_take (ls : List (List UInt8)) (k : Nat) (h : k < ls.length) : cat (ls.take (k + 1)) = cat (ls.take k) ++ blobB ls[k] := by
  rw [List.take_succ_eq_append_getElem h, cat_append]
  simp [cat]
theorem cat_drop (ls : List (List UInt8)) (k : Nat) (h : k < ls.length) : cat (ls.drop k) = blobB ls[k] ++ cat (ls.drop (k + 1)) := by
  rw [List.drop_eq_getElem_cons h]
  rfl
theorem cat_len : ∀ (ls : List (List UInt8)), (∀ p ∈ ls, p.length ≤ 65536) → (cat ls).length ≤ 65545 * ls.length
  | [], _ => by simp [cat]
  | p :: r, h => by
    have h1 := cat_len r (fun q hq => h q (List.mem_cons_of_mem _ hq))
    have h2 := h p List.mem_cons_self
    have h3 := wid_le p.length
    simp only [cat, List.length_append, List.length_cons, blobB_length]
    omega
end Go.Proofs.YtipkjiacikdmmaaDoor
