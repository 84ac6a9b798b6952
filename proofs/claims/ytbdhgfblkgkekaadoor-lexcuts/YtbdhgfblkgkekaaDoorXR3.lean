/-
  What the document's own Parse answers at any text. Conditions: those that each theorem names.
-/
import Derived.Test.YtbdhgfblkgkekaaDoorXK2
import Derived.Test.YtbdhgfblkgkekaaDoorXR2
namespace Go.Proofs.YtbdhgfblkgkekaaDoor
open Go.RowKit
set_option linter.unusedVariables false
/-- What a class is handed back as. -/
def rA (r : Rs) : Value :=
  match r with
  | .inr (C, n) => .tuple #[cv C, .int .i64 (n : Int), .int .i64 0]
  | .inl c => .tuple #[cv 0, .int .i64 (c.2 : Int), .int .i64 (c.1 : Int)]
theorem seg_or_step (acc lo b : Nat) (h : lo ≤ b) : (acc ||| seg lo b) ||| 2 ^ b = acc ||| seg lo (b + 1) := by rw [seg_succ lo b h, Nat.or_assoc]
theorem blk_seg {w : World} {g acc lo b c : Nat} (h : Hid (Blk w g (acc ||| seg lo b))) (e : b = c) : Hid (Blk w g (acc ||| seg lo c)) := e ▸ h
theorem sg_bad_code {S : ByteArray} {k : Nat} {c : Nat × Nat} (h : sg S k = .inl c) : c.1 = 3 ∨ c.1 = 4 := by
  have hf : ∀ j, (flt S j).1 = 3 ∨ (flt S j).1 = 4 := fun j => by unfold flt; split <;> simp
  have hd : ∀ j e, digs S j = .inl e → e.1 = 3 ∨ e.1 = 4 := fun j e he => by
    unfold digs at he
    split at he
    · simp at he; rw [← he]; exact hf _
    · split at he
      · simp at he; rw [← he]; exact hf _
      · cases he
  unfold sg at h
  split at h
  · simp at h; rw [← h]; exact hf _
  · split at h
    · unfold esc at h
      split at h
      · simp at h; rw [← h]; exact hf _
      · split at h
        · cases h
        · split at h
          · exact hd _ _ h
          · simp at h; rw [← h]; exact hf _
    · split at h
      · cases h
      · simp at h; rw [← h]; exact hf _
end Go.Proofs.YtbdhgfblkgkekaaDoor
