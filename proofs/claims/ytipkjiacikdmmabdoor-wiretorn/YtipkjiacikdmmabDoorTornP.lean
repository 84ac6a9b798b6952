/-
  Plain facts: frames in a row that are cut off somewhere are scanned as those that are whole. No condition beside those that each theorem names.
-/
import Derived.Test.YtipkjiacikdmmabDoorTurnedP
import Derived.Test.YtipkjiacikdmmabDoorScan
namespace Go.Proofs.YtipkjiacikdmmabDoor
set_option linter.unusedVariables false

/-- Frames in a row. -/
def catF : List (List UInt8) → List UInt8
  | [] => []
  | p :: r => frameB p ++ catF r
theorem catF_append : ∀ (l m : List (List UInt8)), catF (l ++ m) = catF l ++ catF m
  | [], m => rfl
  | p :: l, m => by simp [catF, catF_append l m]
theorem catF_take (ls : List (List UInt8)) (k : Nat) (h : k < ls.length) : catF (ls.take (k + 1)) = catF (ls.take k) ++ frameB ls[k] := by
  rw [List.take_succ_eq_append_getElem h, catF_append]
  simp [catF]
/-- Where the first k frames end. -/
def S (ls : List (List UInt8)) (k : Nat) : Nat := (catF (ls.take k)).length
theorem S_zero (ls : List (List UInt8)) : S ls 0 = 0 := rfl
theorem S_succ (ls : List (List UInt8)) (k : Nat) (h : k < ls.length) : S ls (k + 1) = S ls k + (ls[k].length + 8) := by
  unfold S; rw [catF_take ls k h, List.length_append, frameB_length]
theorem S_cons (p : List UInt8) (r : List (List UInt8)) (k : Nat) : S (p :: r) (k + 1) = p.length + 8 + S r k := by
  unfold S; simp [catF, frameB_length]
theorem S_mono (ls : List (List UInt8)) : ∀ (k j : Nat), k ≤ j → S ls k ≤ S ls j := by
  intro k j h
  unfold S
  have : ls.take j = ls.take k ++ (ls.take j).drop k := by
    have := List.take_append_drop k (ls.take j)
    rw [List.take_take, Nat.min_eq_left h] at this
    exact this.symm
  rw [this, catF_append, List.length_append]
  omega
theorem S_all (ls : List (List UInt8)) : S ls ls.length = (catF ls).length := by unfold S; rw [List.take_length]
theorem S_take (ls : List (List UInt8)) (k j : Nat) (h : j ≤ k) : S (ls.take k) j = S ls j := by unfold S; rw [List.take_take, Nat.min_eq_left h]

theorem opn_frame (p r : List UInt8) (hp : p.length ≤ 1048576) : opn (frameB p ++ r) = (p, p.length + 8, 0) := by
  have hl := frameB_length p
  have e4 : (frameB p ++ r).take 4 = dig p.length 4 := by rw [List.take_append_of_le_length (by omega), frameB_take4]
  have eN : (frameB p ++ r).take (4 + p.length) = dig p.length 4 ++ p := by rw [List.take_append_of_le_length (by omega), frameB_takeN]
  have eS : ((frameB p ++ r).drop (4 + p.length)).take 4 = dig (crc (dig p.length 4 ++ p)) 4 := by
    rw [List.drop_append_of_le_length (by omega), frameB_sum, List.take_left' (dig_length _ _)]
  have eP : ((frameB p ++ r).drop 4).take p.length = p := by
    rw [List.drop_append_of_le_length (by omega), List.take_append_of_le_length (by rw [List.length_drop]; omega), frameB_part]
  unfold opn
  rw [e4, val_len p hp, eN, eS, val_crc, eP]
  rw [if_neg (by rw [List.length_append]; omega), if_neg (by omega), if_neg (by rw [List.length_append]; omega), if_neg (by simp)]

theorem opn_cut (p r : List UInt8) (hp : p.length ≤ 1048576) (c : Nat) (hc : c < p.length + 8) : ∃ e, e ≠ 0 ∧ opn ((frameB p ++ r).take c) = ([], 0, e) := by
  have hl := frameB_length p
  have hlen : ((frameB p ++ r).take c).length = c := by rw [List.length_take, List.length_append]; omega
  unfold opn
  rw [hlen]
  by_cases c4 : c < 4
  · exact ⟨3, by omega, by rw [if_pos c4]⟩
  · have e4 : ((frameB p ++ r).take c).take 4 = dig p.length 4 := by rw [List.take_take, Nat.min_eq_left (by omega), List.take_append_of_le_length (by omega), frameB_take4]
    rw [e4, val_len p hp]
    exact ⟨3, by omega, by rw [if_neg c4, if_neg (by omega), if_pos hc]⟩

/-- Of frames that are cut off those that are whole are told. -/
theorem torn : ∀ (M : List (List UInt8)) (c f : Nat), (∀ p ∈ M, p.length ≤ 1048576) → c ≤ (catF M).length → c ≤ f →
    ∃ W, W ≤ M.length ∧ S M W ≤ c ∧ (W < M.length → c < S M (W + 1)) ∧ ∃ e, scanN f ((catF M).take c) = (M.take W, S M W, e) ∧ (e = 0 ↔ S M W = c)
  | [], c, f, _, hc, _ => by
    simp [catF] at hc
    subst hc
    exact ⟨0, Nat.le_refl _, Nat.le_refl _, fun h => (by simp at h), 0, by rw [show catF [] = [] from rfl, List.take_nil, scanN_nil]; rfl, by simp [S, catF]⟩
  | p :: r, c, f, hM, hc, hf => by
    have hp := hM p List.mem_cons_self
    have hfl := frameB_length p
    rcases Nat.eq_zero_or_pos c with rfl | hpos
    · exact ⟨0, Nat.zero_le _, Nat.le_refl _, fun _ => (by rw [S_cons]; omega), 0, by simp [scanN_nil, S, catF], by simp [S, catF]⟩
    · obtain ⟨f', rfl⟩ : ∃ f', f = f' + 1 := ⟨f - 1, by omega⟩
      have hcat : catF (p :: r) = frameB p ++ catF r := rfl
      rw [hcat] at hc ⊢
      rw [List.length_append] at hc
      have hlen : ((frameB p ++ catF r).take c).length = c := by rw [List.length_take, List.length_append]; omega
      have hne : (frameB p ++ catF r).take c ≠ [] := by
        intro e
        rw [e] at hlen
        simp at hlen
        omega
      by_cases hcp : c < p.length + 8
      · obtain ⟨e, he0, he⟩ := opn_cut p (catF r) hp c hcp
        refine ⟨0, Nat.zero_le _, Nat.zero_le _, fun _ => ?_, e, ?_, ?_⟩
        · rw [S_cons]; omega
        · rw [scanN, if_neg hne, he]
          simp [he0, S, catF]
        · simp [S, catF]; omega
      · obtain ⟨W, h1, h2, h3, e, h4, h5⟩ := torn r (c - (p.length + 8)) f' (fun q hq => hM q (List.mem_cons_of_mem _ hq)) (by omega) (by omega)
        have et : (frameB p ++ catF r).take c = frameB p ++ (catF r).take (c - (p.length + 8)) := by
          rw [List.take_append, hfl, List.take_of_length_le (by omega)]
        refine ⟨W + 1, by simp; omega, by rw [S_cons]; omega, fun h => ?_, e, ?_, ?_⟩
        · rw [S_cons]
          have := h3 (by simpa using h)
          omega
        · rw [scanN, if_neg hne, et, opn_frame p _ hp]
          simp only [if_true]
          rw [List.drop_left' (by omega), h4, S_cons]
          simp
        · rw [S_cons, h5]
          omega
end Go.Proofs.YtipkjiacikdmmabDoor
