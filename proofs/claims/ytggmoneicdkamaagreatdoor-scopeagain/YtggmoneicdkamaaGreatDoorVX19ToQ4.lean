/-
  What lex.Tokens answers at a text that is too long; plain facts on names and tokens. Conditions: those that each theorem names.
  What a quote is read as. Plain facts on the functions of X15 and X17. Conditions: those that each theorem names.
  A class's text is read as the class. Plain facts on texts and classes.
-/
import Derived.Test.YtggmoneicdkamaaGreatDoorVX13ToX16
import Derived.Laws.Strings
import Derived.WideShapes
import Derived.Test.YtggmoneicdkamaaGreatDoorVX17ToQ1
import Derived.Test.YtggmoneicdkamaaGreatDoorVQ3
namespace Go.Proofs.YtggmoneicdkamaaGreatDoor
open Go.RowKit
set_option linter.unusedVariables false
theorem tkS_inv {S : ByteArray} {l : List Tok} (h : tkS S = .inr l) : ∃ m, tks S (sb S 0) [] = .inr m ∧ l = m ++ [(6, { data := #[] }, 0, S.size)] := by
  unfold tkS at h
  cases hm : tks S (sb S 0) [] with
  | inl c => rw [hm] at h; cases h
  | inr m => rw [hm] at h; simp [tkE] at h; exact ⟨m, rfl, h.symm⟩
/-- All bytes from k on are of a name. -/
theorem ne_all (S : ByteArray) : ∀ f k : Nat, S.size - k = f → k ≤ S.size → (ne S k = S.size ↔ ∀ i x, k ≤ i → bt S i = some x → (letB x || digB x) = true)
  | 0, k, hf, hk => by
    have : k = S.size := by omega
    rw [ne_none (bt_ge (by omega))]
    refine ⟨fun _ i x hi hx => ?_, fun _ => this⟩
    have := (bt_lt hx).1
    omega
  | f + 1, k, hf, hk => by
    cases hb : bt S k with
    | none => have := bt_none hb; omega
    | some y =>
      rw [ne_eq hb]
      cases hy : (letB y || digB y) with
      | false =>
        simp only [Bool.false_eq_true, if_false]
        refine ⟨fun e => by have := (bt_lt hb).1; omega, fun h => ?_⟩
        have := h k y (Nat.le_refl _) hb
        rw [hy] at this
        cases this
      | true =>
        simp only [if_true]
        rw [ne_all S f (k + 1) (by omega) (by omega)]
        refine ⟨fun h i x hi hx => ?_, fun h i x hi hx => h i x (by omega) hx⟩
        rcases Nat.lt_or_ge k i with h1 | h1
        · exact h i x (by omega) hx
        · obtain rfl : i = k := by omega
          rw [hb] at hx
          cases hx
          exact hy
end Go.Proofs.YtggmoneicdkamaaGreatDoor
namespace Go.Proofs.YtggmoneicdkamaaGreatDoor
open Go.RowKit
set_option linter.unusedVariables false
theorem dgv_hexd : ∀ d, d < 16 → dgv (hexd d) = some d := by decide +kernel
/-- These bytes stand at k. -/
def Hr (S : ByteArray) (k : Nat) (l : List Nat) : Prop := ∀ j x, l[j]? = some x → bt S (k + j) = some x
theorem lsg_lq {S : ByteArray} {k b : Nat} (hb : b < 256) (h : Hr S k (lq b)) : lsg S k = .inr (b, k + (lq b).length) ∧ ¬ bt S k = some 39 := by
  have p92 : plB 92 = true := rfl
  unfold lq at h ⊢
  split at h
  · rename_i e; subst e
    have a0 := h 0 92 rfl; have a1 := h 1 110 rfl
    simp only [Nat.add_zero] at a0
    refine ⟨?_, by rw [a0]; simp⟩
    unfold lsg lesc; rw [a0]; simp [a1, lescv, p92]
  · rename_i h1
    split at h
    · rename_i e; subst e
      have a0 := h 0 92 rfl; have a1 := h 1 114 rfl
      simp only [Nat.add_zero] at a0
      refine ⟨?_, by rw [a0]; simp⟩
      unfold lsg lesc; rw [a0]; simp [a1, lescv, p92]
    · rename_i h2
      split at h
      · rename_i e; subst e
        have a0 := h 0 92 rfl; have a1 := h 1 116 rfl
        simp only [Nat.add_zero] at a0
        refine ⟨?_, by rw [a0]; simp⟩
        unfold lsg lesc; rw [a0]; simp [a1, lescv, p92]
      · rename_i h3
        split at h
        · rename_i hm
          have a0 := h 0 92 rfl; have a1 := h 1 b rfl
          simp only [Nat.add_zero] at a0
          refine ⟨?_, by rw [a0]; simp⟩
          have hv : lescv b = some b := by
            unfold lescv
            rw [if_neg (by omega), if_neg (by omega), if_neg (by omega), if_pos (by omega)]
          unfold lsg lesc; rw [a0]; simp [a1, hv, p92, hm, h1, h2, h3]
        · rename_i hm
          split at h
          · rename_i hp
            have a0 := h 0 b rfl
            simp only [Nat.add_zero] at a0
            refine ⟨?_, by rw [a0]; simp; omega⟩
            unfold lsg; rw [a0]; simp [hp, h1, h2, h3, hm]; omega
          · rename_i hp
            have a0 := h 0 92 rfl; have a1 := h 1 120 rfl; have a2 := h 2 _ rfl; have a3 := h 3 _ rfl
            simp only [Nat.add_zero] at a0
            refine ⟨?_, by rw [a0]; simp⟩
            have d1 : dg S (k + 2) = some (b / 16) := by unfold dg; rw [a2]; exact dgv_hexd _ (by omega)
            have d2 : dg S (k + 3) = some (b % 16) := by unfold dg; rw [a3]; exact dgv_hexd _ (by omega)
            have hd : digs S (k + 1 + 1) = .inr (b, k + 4) := by
              unfold digs
              rw [show k + 1 + 1 = k + 2 by omega, d1]
              simp only
              rw [show k + 2 + 1 = k + 3 by omega, d2]
              simp only
              rw [show 16 * (b / 16) + b % 16 = b by omega]
            have hv : lescv 120 = none := rfl
            unfold lsg lesc; rw [a0]; simp [a1, hv, p92, hp, h1, h2, h3, hm, hd]
/-- The bytes of a text up to k. -/
def bp (S : ByteArray) : Nat → List Nat
  | 0 => []
  | k + 1 => bp S k ++ (match bt S k with | some x => [x] | none => [])
theorem bp_succ {S : ByteArray} {k x : Nat} (h : bt S k = some x) : bp S (k + 1) = bp S k ++ [x] := by rw [bp, h]
theorem bp_len (S : ByteArray) : ∀ k, k ≤ S.size → (bp S k).length = k
  | 0, _ => rfl
  | k + 1, h => by
    cases hb : bt S k with
    | none => have := bt_none hb; omega
    | some x => rw [bp_succ hb, List.length_append, bp_len S k (by omega)]; rfl
theorem bp_take (S : ByteArray) : ∀ k, k ≤ S.size → (bp S k).map UInt8.ofNat = S.data.toList.take k
  | 0, _ => by simp [bp]
  | k + 1, h => by
    cases hb : bt S k with
    | none => have := bt_none hb; omega
    | some x =>
      obtain ⟨hk, hx⟩ := bt_at hb
      have hk2 : k < S.data.toList.length := by rw [Array.length_toList]; exact hk
      have h1 : UInt8.ofNat x = S.data.toList[k] := by
        rw [← hx]
        apply UInt8.toNat.inj
        have := (bt_lt hb).2
        simp
        rfl
      rw [bp_succ hb, List.map_append, bp_take S k (by omega), List.take_succ_eq_append_getElem hk2]
      simp [h1]
theorem nb_bp (S : ByteArray) : nb (bp S S.size) = S := by
  apply ByteArray.ext
  unfold nb
  simp only
  rw [bp_take S S.size (Nat.le_refl _)]
  apply Array.toList_inj.1
  simp only
  exact List.take_of_length_le (by rw [Array.length_toList]; exact Nat.le_refl _)
theorem bt_nb (l : List Nat) (h : ∀ x ∈ l, x < 256) (i : Nat) : bt (nb l) i = l[i]? := by
  unfold bt
  by_cases hi : i < (nb l).size
  · rw [dif_pos hi]
    rw [nb_size] at hi
    rw [List.getElem?_eq_getElem hi]
    have := h _ (List.getElem_mem hi)
    show some (((nb l).data[i]).toNat) = _
    simp [nb]
    omega
  · rw [dif_neg hi]
    rw [nb_size] at hi
    rw [List.getElem?_eq_none (by omega)]
theorem qp_rest (P : ByteArray) : ∀ f k : Nat, P.size - k = f → k ≤ P.size → ∃ r, qt P = qp P k ++ r
  | 0, k, hf, hk => by
    obtain rfl : k = P.size := by omega
    exact ⟨[39], rfl⟩
  | f + 1, k, hf, hk => by
    obtain ⟨r, hr⟩ := qp_rest P f (k + 1) (by omega) (by omega)
    cases hb : bt P k with
    | none => have := bt_none hb; omega
    | some x => rw [qp_succ hb] at hr; exact ⟨lq x ++ r, by rw [hr, List.append_assoc]⟩
theorem qt_here {P : ByteArray} {k x : Nat} (h : bt P k = some x) : Hr (nb (qt P)) (qp P k).length (lq x) := by
  have hk := (bt_lt h).1
  obtain ⟨r, hr⟩ := qp_rest P _ (k + 1) rfl (by omega)
  rw [qp_succ h, List.append_assoc] at hr
  intro j y hj
  rw [bt_nb _ (qt_lt P), hr, List.getElem?_append_right (by omega), Nat.add_sub_cancel_left]
  have hjl : j < (lq x).length := by
    rcases Nat.lt_or_ge j (lq x).length with h1 | h1
    · exact h1
    · rw [List.getElem?_eq_none h1] at hj; cases hj
  rw [List.getElem?_append_left hjl]
  exact hj
/-- A quote is read back. -/
theorem ll_quote (P : ByteArray) : ∀ f k : Nat, P.size - k = f → k ≤ P.size → k ≤ 255 →
    ll (nb (qt P)) 39 0 (qp P k).length (bp P k) = if P.size ≤ 255 then .inr (bp P P.size, (nb (qt P)).size) else .inl (2, 0)
  | 0, k, hf, hk, h5 => by
    obtain rfl : k = P.size := by omega
    have hb : bt (nb (qt P)) (qp P P.size).length = some 39 := by
      rw [bt_nb _ (qt_lt P)]
      unfold qt
      rw [List.getElem?_append_right (Nat.le_refl _), Nat.sub_self]; rfl
    rw [ll_end hb, if_pos (by omega), nb_size]
    unfold qt
    rw [List.length_append]; rfl
  | f + 1, k, hf, hk, h5 => by
    cases hb : bt P k with
    | none => have := bt_none hb; omega
    | some x =>
      obtain ⟨hs, hq⟩ := lsg_lq (bt_lt hb).2 (qt_here hb)
      have hlen := bp_len P k hk
      by_cases h6 : k = 255
      · rw [ll_long hq hs (by omega), if_neg (by omega)]
      · rw [ll_on hq hs (by omega), ← bp_succ hb, ← List.length_append, ← qp_succ hb]
        exact ll_quote P f (k + 1) (by omega) (by omega) (by omega)
end Go.Proofs.YtggmoneicdkamaaGreatDoor
namespace Go.Proofs.YtggmoneicdkamaaGreatDoor
open Go.RowKit
set_option linter.unusedVariables false
theorem at_nb (l : List Nat) (hl : ∀ x ∈ l, x < 256) (k x : Nat) (h : l[k]? = some x) : At (nb l) k x := by
  obtain ⟨hk, e⟩ := List.getElem?_eq_some_iff.1 h
  refine ⟨by rw [nb_size]; exact hk, ?_⟩
  have hx := hl x (by rw [← e]; exact List.getElem_mem hk)
  have hg : (nb l)[k]'(by rw [nb_size]; exact hk) = UInt8.ofNat x := by
    rw [ByteArray.getElem_eq_getElem_data]
    simp [nb, e]
  rw [hg]
  simp
  omega
theorem sgn_form (b : Nat) : (∃ t, sgn b = 92 :: t ∧ t ≠ []) ∨ (sgn b = [b] ∧ mark b = false ∧ 32 ≤ b ∧ b ≤ 126) := by
  unfold sgn
  split
  · exact .inl ⟨_, rfl, by simp⟩
  · split
    · exact .inl ⟨_, rfl, by simp⟩
    · split
      · exact .inl ⟨_, rfl, by simp⟩
      · split
        · exact .inl ⟨_, rfl, by simp⟩
        · rename_i hm
          split
          · rename_i hp
            exact .inr ⟨rfl, by simpa using hm, hp.1, hp.2⟩
          · exact .inl ⟨_, rfl, by simp⟩
/-- In the text S there stand these bytes from k on. -/
def Here (S : ByteArray) (k : Nat) (l : List Nat) : Prop := ∀ j x, l[j]? = some x → At S (k + j) x
theorem Here.left {S : ByteArray} {k : Nat} {a b : List Nat} (h : Here S k (a ++ b)) : Here S k a := fun j x hj => h j x (by
  rw [List.getElem?_append_left (List.getElem?_eq_some_iff.1 hj).1]; exact hj)
theorem Here.right {S : ByteArray} {k : Nat} {a b : List Nat} (h : Here S k (a ++ b)) : Here S (k + a.length) b := fun j x hj => by
  have := h (a.length + j) x (by rw [List.getElem?_append_right (by omega), show a.length + j - a.length = j by omega]; exact hj)
  rw [← Nat.add_assoc] at this
  exact this
theorem Here.head {S : ByteArray} {k x : Nat} {l : List Nat} (h : Here S k (x :: l)) : At S k x := h 0 x rfl
/-- The members that the rows are written as. -/
def its : List (Nat × Nat) → List (Nat × Nat)
  | [] => []
  | p :: t => (if p.2 = p.1 + 1 then [(p.1, p.1), (p.2, p.2)] else [p]) ++ its t
def itxt (p : Nat × Nat) : List Nat := if p.1 = p.2 then sgn p.1 else sgn p.1 ++ ([45] ++ sgn p.2)
def ibody : List (Nat × Nat) → List Nat
  | [] => []
  | p :: t => itxt p ++ ibody t
theorem ibody_append : ∀ (a b : List (Nat × Nat)), ibody (a ++ b) = ibody a ++ ibody b
  | [], b => rfl
  | p :: t, b => by simp only [List.cons_append, ibody, ibody_append t b, List.append_assoc]
theorem body_its : ∀ (L : List (Nat × Nat)), (∀ p ∈ L, p.1 ≤ p.2) → body L = ibody (its L)
  | [], _ => rfl
  | p :: t, h => by
    have hp := h p (List.mem_cons_self ..)
    rw [body, its, ibody_append, body_its t (fun q hq => h q (List.mem_cons_of_mem _ hq))]
    congr 1
    unfold memb
    by_cases h1 : p.2 = p.1 + 1
    · rw [if_pos h1, if_neg (by omega), if_pos (by omega)]
      simp [ibody, itxt]
    · rw [if_neg h1]
      by_cases h2 : p.1 = p.2
      · rw [if_neg (by omega), if_neg (by omega)]
        simp [ibody, itxt, h2]
      · rw [if_pos (by omega), if_pos (by omega)]
        simp [ibody, itxt, h2]
def uo : List (Nat × Nat) → Nat
  | [] => 0
  | p :: t => seg p.1 (p.2 + 1) ||| uo t
theorem uo_append : ∀ (a b : List (Nat × Nat)), uo (a ++ b) = uo a ||| uo b
  | [], b => by simp [uo]
  | p :: t, b => by simp only [List.cons_append, uo, uo_append t b, Nat.or_assoc]
theorem uo_rev : ∀ (Q : List (Nat × Nat)), uo Q.reverse = un Q
  | [] => rfl
  | p :: t => by rw [List.reverse_cons, uo_append, uo_rev t, un]; simp [uo]
theorem seg_two (a : Nat) : seg a (a + 1 + 1) = seg a (a + 1) ||| seg (a + 1) (a + 1 + 1) := by
  apply Nat.eq_of_testBit_eq
  intro j
  rw [Nat.testBit_or, seg_bit, seg_bit, seg_bit]
  by_cases h1 : a ≤ j <;> by_cases h2 : j < a + 1 <;> by_cases h3 : a + 1 ≤ j <;> by_cases h4 : j < a + 1 + 1 <;> simp [h1, h2, h3, h4] <;> omega
theorem uo_its : ∀ (L : List (Nat × Nat)), uo (its L) = uo L
  | [] => rfl
  | p :: t => by
    rw [its, uo_append, uo_its t, uo]
    congr 1
    by_cases h1 : p.2 = p.1 + 1
    · rw [if_pos h1, h1, seg_two]; simp [uo]
    · rw [if_neg h1]; simp [uo]
theorem its_ok : ∀ (L : List (Nat × Nat)), (∀ p ∈ L, p.1 ≤ p.2 ∧ p.2 < 256) → ∀ p ∈ its L, p.1 ≤ p.2 ∧ p.2 < 256
  | [], _, p, hp => by simp [its] at hp
  | q :: t, h, p, hp => by
    have hq := h q (List.mem_cons_self ..)
    rw [its, List.mem_append] at hp
    rcases hp with hp | hp
    · split at hp
      · simp at hp; rcases hp with rfl | rfl <;> simp <;> omega
      · simp at hp; subst hp; exact hq
    · exact its_ok t (fun r hr => h r (List.mem_cons_of_mem _ hr)) p hp
theorem itxt_head (p : Nat × Nat) : ∃ y t, itxt p = y :: t ∧ (y == 45) = false ∧ (y == 94) = false ∧ (y == 93) = false := by
  have : ∃ t, itxt p = sgn p.1 ++ t := by
    unfold itxt
    split
    · exact ⟨[], by simp⟩
    · exact ⟨_, rfl⟩
  obtain ⟨t, ht⟩ := this
  rcases sgn_form p.1 with ⟨u, hu, _⟩ | ⟨hu, hm, _, _⟩
  · exact ⟨92, u ++ t, by rw [ht, hu]; rfl, rfl, rfl, rfl⟩
  · unfold mark at hm
    simp at hm
    exact ⟨p.1, t, by rw [ht, hu]; rfl, by simp; omega, by simp; omega, by simp; omega⟩
theorem ibody_head (I : List (Nat × Nat)) : ∃ y t, ibody I ++ [93] = y :: t ∧ (y == 45) = false ∧ (y == 94) = false := by
  cases I with
  | nil => exact ⟨93, [], rfl, rfl, rfl⟩
  | cons p t =>
    obtain ⟨y, u, hu, h1, h2, h3⟩ := itxt_head p
    exact ⟨y, u ++ ibody t ++ [93], by rw [ibody, hu]; simp, h1, h2⟩
theorem dg_of {S : ByteArray} {k d : Nat} (hd : d < 16) (h : At S k (hexd d)) : dg S k = some d := by
  unfold dg
  rw [bt_of h]
  exact dgv_hexd d hd
theorem sg_sgn {S : ByteArray} {k b : Nat} (hb : b < 256) (h : Here S k (sgn b)) : sg S k = .inr (b, k + (sgn b).length) := by
  unfold sgn at h ⊢
  split at h
  · rename_i e; subst e
    have a0 := bt_of (h 0 92 rfl); have a1 := bt_of (h 1 110 rfl)
    simp only [Nat.add_zero] at a0
    unfold sg esc; rw [a0]; simp [a1, escv]
  · rename_i h1
    split at h
    · rename_i e; subst e
      have a0 := bt_of (h 0 92 rfl); have a1 := bt_of (h 1 114 rfl)
      simp only [Nat.add_zero] at a0
      unfold sg esc; rw [a0]; simp [a1, escv]
    · rename_i h2
      split at h
      · rename_i e; subst e
        have a0 := bt_of (h 0 92 rfl); have a1 := bt_of (h 1 116 rfl)
        simp only [Nat.add_zero] at a0
        unfold sg esc; rw [a0]; simp [a1, escv]
      · rename_i h3
        split at h
        · rename_i hm
          have a0 := bt_of (h 0 92 rfl); have a1 := bt_of (h 1 b rfl)
          simp only [Nat.add_zero] at a0
          have hn : b ≠ 110 ∧ b ≠ 114 ∧ b ≠ 116 := by
            unfold mark at hm
            simp at hm
            omega
          rw [if_neg h1, if_neg h2, if_neg h3, if_pos hm]
          unfold sg esc; rw [a0]; simp [a1, escv, hn.1, hn.2.1, hn.2.2, hm]
        · rename_i hm
          split at h
          · rename_i hp
            have a0 := bt_of (h 0 b rfl)
            simp only [Nat.add_zero] at a0
            have hmf : mark b = false := by simpa using hm
            have hn : b ≠ 92 := by intro e; subst e; simp [mark] at hmf
            rw [if_neg h1, if_neg h2, if_neg h3, if_neg hm, if_pos hp]
            unfold sg; rw [a0]; simp [hn, plain, hmf, hp.1, hp.2]
          · rename_i hp
            have a0 := bt_of (h 0 92 rfl); have a1 := bt_of (h 1 120 rfl)
            have a2 := dg_of (by omega) (h 2 _ rfl); have a3 := dg_of (by omega) (h 3 _ rfl)
            simp only [Nat.add_zero] at a0
            rw [if_neg h1, if_neg h2, if_neg h3, if_neg hm, if_neg hp]
            unfold sg esc; rw [a0]
            have hm120 : mark 120 = false := rfl
            simp only [if_true, a1, escv, hm120]
            unfold digs
            rw [show k + 1 + 1 = k + 2 from rfl, a2, show k + 2 + 1 = k + 3 from rfl, a3]
            simp
            omega
theorem mbr_itxt {S : ByteArray} {k y : Nat} {p : Nat × Nat} {t : List Nat} (h1 : p.1 ≤ p.2) (h2 : p.2 < 256) (hy : (y == 45) = false) (h : Here S k (itxt p ++ (y :: t))) : mbr S k = .inr (seg p.1 (p.2 + 1), k + (itxt p).length) := by
  have hl := h.left
  have hr := h.right
  unfold itxt at hl hr ⊢
  by_cases e : p.1 = p.2
  · rw [if_pos e] at hl hr ⊢
    unfold mbr
    rw [sg_sgn (by omega) hl]
    have hb := bt_of hr.head
    simp only
    rw [hb, if_neg (by simpa using hy), ← e]
  · rw [if_neg e] at hl ⊢
    have hl1 := hl.left
    have hl2 := hl.right
    have hb := bt_of hl2.head
    have hl3 : Here S (k + (sgn p.1).length + 1) (sgn p.2) := hl2.right
    unfold mbr
    rw [sg_sgn (by omega) hl1]
    simp only
    rw [hb, if_pos rfl, sg_sgn h2 hl3]
    simp only
    rw [if_neg (by omega)]
    simp
    omega
theorem mm_ibody {S : ByteArray} : ∀ (I : List (Nat × Nat)) (k acc : Nat), (∀ p ∈ I, p.1 ≤ p.2 ∧ p.2 < 256) → Here S k (ibody I ++ [93]) → mm S k acc = .inr (acc ||| uo I, k + (ibody I).length + 1)
  | [], k, acc, _, h => by
    rw [mm_end (bt_of h.head)]
    simp [uo, ibody]
  | p :: t, k, acc, hI, h => by
    obtain ⟨y, u, hyu, hy, _⟩ := ibody_head t
    have hp := hI p (List.mem_cons_self ..)
    have h' : Here S k (itxt p ++ (ibody t ++ [93])) := by rw [← List.append_assoc]; exact h
    have hr := h'.right
    rw [hyu] at h'
    have hm := mbr_itxt hp.1 hp.2 hy h'
    obtain ⟨z, v, hz, _, _, hz3⟩ := itxt_head p
    have h93 : ¬ bt S k = some 93 := by
      have h2 := h
      rw [ibody, hz] at h2
      rw [bt_of h2.head]
      simpa using hz3
    rw [mm_on h93 hm, mm_ibody t _ _ (fun q hq => hI q (List.mem_cons_of_mem _ hq)) hr]
    simp only [uo, ibody, List.length_append, Nat.or_assoc]
    simp
    omega
theorem clsP_txt {S : ByteArray} {I : List (Nat × Nat)} (hI : ∀ p ∈ I, p.1 ≤ p.2 ∧ p.2 < 256) (h : Here S 0 ([91] ++ (ibody I ++ [93]))) : clsP S = .inr (uo I, 1 + (ibody I).length + 1) := by
  have h1 : Here S 1 (ibody I ++ [93]) := h.right
  obtain ⟨y, u, hyu, _, hy⟩ := ibody_head I
  have h94 : ¬ bt S 1 = some 94 := by
    have h2 := h1
    rw [hyu] at h2
    rw [bt_of h2.head]
    simpa using hy
  unfold clsP
  rw [if_pos (bt_of h.head), if_neg h94, mm_ibody I 1 0 hI h1]
  simp
/-! A text that is cut off. -/
end Go.Proofs.YtggmoneicdkamaaGreatDoor
