/-
  What the document says of the tree of a row of tokens, as functions on tokens, and plain facts on them. Nothing of the program stands here.
-/
import Derived.Test.YtkofhmmnlapnnaaGreatDoorY5
namespace Go.Proofs.YtkofhmmnlapnnaaGreatDoor
open Go.RowKit
set_option linter.unusedVariables false
/-- The token at k. -/
def gL (L : List Tok) (k : Nat) : Tok := (L[k]?).getD (6, { data := #[] }, 0, 0)
theorem gL_eq {L : List Tok} {k : Nat} (h : k < L.length) : gL L k = L[k] := by
  unfold gL
  rw [List.getElem?_eq_getElem h]
  rfl
/-- What tokens of a source are like: behind each but the last one comes another, a sign is one byte. -/
structure Good (L : List Tok) : Prop where
  len : L.length ≤ 10000
  nxt : ∀ k, k < L.length → (gL L k).1 ≠ 6 → k + 1 < L.length
  sgn : ∀ k, (gL L k).1 = 5 → ∃ x, x < 256 ∧ (gL L k).2.1 = nb [x]
def oneS (L : List Tok) (inn : Nat → Pr) (k : Nat) : Pr :=
  if (gL L k).1 = 1 ∧ hdB L k = false then .inr (.mk 5 (gL L k).2.1 (gL L k).2.2.1 [] (gL L k).2.2.2, k + 1)
  else if (gL L k).1 = 3 then .inr (.mk 2 (gL L k).2.1 (gL L k).2.2.1 [] (gL L k).2.2.2, k + 1)
  else if (gL L k).1 = 4 then .inr (.mk 3 (gL L k).2.1 (gL L k).2.2.1 [] (gL L k).2.2.2, k + 1)
  else if sgT (gL L k) = { data := #[46] } then .inr (.mk 4 { data := #[] } (gL L k).2.2.1 [] (gL L k).2.2.2, k + 1)
  else if sgT (gL L k) = { data := #[40] } then inn k
  else .inl (wrC (gL L k), (gL L k).2.2.2)
def repE (L : List Tok) (r : Pr) : Pr := match r with
  | .inl e => .inl e
  | .inr (n, k') => if rpK (sgT (gL L k')) = 0 then .inr (n, k') else .inr (.mk (rpK (sgT (gL L k'))) { data := #[] } 0 [n] n.at', k' + 1)
def repS (L : List Tok) (inn : Nat → Pr) (k : Nat) : Pr := repE L (oneS L inn k)
def ovS (kd p : Nat) (r : Pr) : Pr := match r with
  | .inl e => .inl e
  | .inr (n, k') => .inr (.mk kd { data := #[] } 0 [n] p, k')
def partS (L : List Tok) (inn : Nat → Pr) (k : Nat) : Pr :=
  if sgT (gL L k) = { data := #[33] } then ovS 12 (gL L k).2.2.2 (repS L inn (k + 1))
  else if sgT (gL L k) = { data := #[38] } then ovS 11 (gL L k).2.2.2 (repS L inn (k + 1))
  else repS L inn k
def rowS (L : List Tok) (inn : Nat → Pr) : Nat → Nat → List Nd → Pr
  | 0, _, _ => .inl (0, 0)
  | f + 1, k, acc => if ptB L k (gL L k) = true then (match partS L inn k with
      | .inl e => .inl e
      | .inr (n, k') => rowS L inn f k' (acc ++ [n]))
    else if acc.isEmpty = true then .inr (.mk 1 { data := #[] } 0 [] (gL L k).2.2.2, k) else .inr (joinN 6 acc, k)
def altS (L : List Tok) (inn : Nat → Pr) : Nat → Nat → List Nd → Pr
  | 0, _, _ => .inl (0, 0)
  | f + 1, k, acc => if sgT (gL L k) = { data := #[47] } then (match rowS L inn L.length (k + 1) [] with
      | .inl e => .inl e
      | .inr (n, k') => altS L inn f k' (acc ++ [n]))
    else .inr (joinN 7 acc, k)
def chE (L : List Tok) (inn : Nat → Pr) (r : Pr) : Pr := match r with
  | .inl e => .inl e
  | .inr (n, k') => altS L inn L.length k' [n]
def chS (L : List Tok) (inn : Nat → Pr) (k : Nat) : Pr := chE L inn (rowS L inn L.length k [])
def innE (L : List Tok) (r : Pr) : Pr := match r with
  | .inl e => .inl e
  | .inr (n, k') => if sgT (gL L k') = { data := #[41] } then .inr (n, k' + 1) else .inl (wrC (gL L k'), (gL L k').2.2.2)
def innS (L : List Tok) : Nat → Nat → Pr
  | 0, k => .inl (2, (gL L k).2.2.2)
  | d + 1, k => innE L (chS L (innS L d) (k + 1))
/-- What is read lies ahead of where the reader stands then. -/
def Adv (L : List Tok) (inn : Nat → Pr) : Prop := ∀ k n k', k < L.length → sgT (gL L k) = { data := #[40] } → inn k = .inr (n, k') → k < k' ∧ k' < L.length
theorem sgT_five {t : Tok} {x : UInt8} (h : sgT t = { data := #[x] }) : t.1 = 5 := by
  unfold sgT at h
  split at h
  · assumption
  · exact absurd (congrArg (fun a : ByteArray => a.data.size) h) (by simp)
theorem Good.sg {L : List Tok} (hg : Good L) {k : Nat} {x : UInt8} (hk : k < L.length) (h : sgT (gL L k) = { data := #[x] }) : k + 1 < L.length :=
  hg.nxt k hk (by rw [sgT_five h]; decide)
theorem oneS_adv {L : List Tok} {inn : Nat → Pr} (hg : Good L) (ha : Adv L inn) {k k' : Nat} {n : Nd} (hk : k < L.length) (h : oneS L inn k = .inr (n, k')) : k < k' ∧ k' < L.length := by
  unfold oneS at h
  split at h
  · rename_i hc
    simp only [Sum.inr.injEq, Prod.mk.injEq] at h
    have := hg.nxt k hk (by omega)
    omega
  · split at h
    · simp only [Sum.inr.injEq, Prod.mk.injEq] at h
      have := hg.nxt k hk (by omega)
      omega
    · split at h
      · simp only [Sum.inr.injEq, Prod.mk.injEq] at h
        have := hg.nxt k hk (by omega)
        omega
      · split at h
        · rename_i hs
          simp only [Sum.inr.injEq, Prod.mk.injEq] at h
          have := hg.sg hk hs
          omega
        · split at h
          · rename_i hs
            exact ha k n k' hk hs h
          · cases h
theorem rpK_sg {t : Tok} (h : rpK (sgT t) ≠ 0) : t.1 = 5 := by
  unfold rpK at h
  split at h
  · rename_i hs; exact sgT_five hs
  · split at h
    · rename_i hs; exact sgT_five hs
    · split at h
      · rename_i hs; exact sgT_five hs
      · exact absurd rfl h
theorem repE_adv {L : List Tok} (hg : Good L) {r : Pr} {k k' : Nat} {n : Nd} (hr : ∀ m j, r = .inr (m, j) → k < j ∧ j < L.length) (h : repE L r = .inr (n, k')) : k < k' ∧ k' < L.length := by
  cases r with
  | inl e => cases h
  | inr q =>
    obtain ⟨m, j⟩ := q
    have h1 := hr m j rfl
    unfold repE at h
    simp only at h
    split at h
    · simp only [Sum.inr.injEq, Prod.mk.injEq] at h
      omega
    · rename_i hs
      have := hg.nxt j h1.2 (by rw [rpK_sg hs]; decide)
      simp only [Sum.inr.injEq, Prod.mk.injEq] at h
      omega
theorem repS_adv {L : List Tok} {inn : Nat → Pr} (hg : Good L) (ha : Adv L inn) {k k' : Nat} {n : Nd} (hk : k < L.length) (h : repS L inn k = .inr (n, k')) : k < k' ∧ k' < L.length :=
  repE_adv hg (fun m j e => oneS_adv hg ha hk e) h
theorem ovS_inv {kd p k' : Nat} {r : Pr} {n : Nd} (h : ovS kd p r = .inr (n, k')) : ∃ m, r = .inr (m, k') := by
  cases r with
  | inl e => cases h
  | inr q =>
    obtain ⟨m, j⟩ := q
    unfold ovS at h
    simp only [Sum.inr.injEq, Prod.mk.injEq] at h
    exact ⟨m, by rw [h.2]⟩
theorem partS_adv {L : List Tok} {inn : Nat → Pr} (hg : Good L) (ha : Adv L inn) {k k' : Nat} {n : Nd} (hk : k < L.length) (h : partS L inn k = .inr (n, k')) : k < k' ∧ k' < L.length := by
  unfold partS at h
  split at h
  · rename_i hs
    obtain ⟨m, hm⟩ := ovS_inv h
    have := repS_adv hg ha (hg.sg hk hs) hm
    omega
  · split at h
    · rename_i hs
      obtain ⟨m, hm⟩ := ovS_inv h
      have := repS_adv hg ha (hg.sg hk hs) hm
      omega
    · exact repS_adv hg ha hk h
theorem rowS_adv {L : List Tok} {inn : Nat → Pr} (hg : Good L) (ha : Adv L inn) : ∀ (f k : Nat) (acc : List Nd) (n : Nd) (k' : Nat), k < L.length → rowS L inn f k acc = .inr (n, k') → k ≤ k' ∧ k' < L.length
  | 0, _, _, _, _, _, h => by rw [rowS] at h; cases h
  | f + 1, k, acc, n, k', hk, h => by
    rw [rowS] at h
    split at h
    · split at h
      · cases h
      · rename_i m j hp
        have h1 := partS_adv hg ha hk hp
        have h2 := rowS_adv hg ha f j (acc ++ [m]) n k' h1.2 h
        omega
    · split at h
      · simp only [Sum.inr.injEq, Prod.mk.injEq] at h; omega
      · simp only [Sum.inr.injEq, Prod.mk.injEq] at h; omega
theorem altS_adv {L : List Tok} {inn : Nat → Pr} (hg : Good L) (ha : Adv L inn) : ∀ (f k : Nat) (acc : List Nd) (n : Nd) (k' : Nat), k < L.length → altS L inn f k acc = .inr (n, k') → k ≤ k' ∧ k' < L.length
  | 0, _, _, _, _, _, h => by rw [altS] at h; cases h
  | f + 1, k, acc, n, k', hk, h => by
    rw [altS] at h
    split at h
    · rename_i hs
      split at h
      · cases h
      · rename_i m j hp
        have h1 := rowS_adv hg ha _ _ _ _ _ (hg.sg hk hs) hp
        have h2 := altS_adv hg ha f j (acc ++ [m]) n k' h1.2 h
        omega
    · simp only [Sum.inr.injEq, Prod.mk.injEq] at h; omega
theorem chS_adv {L : List Tok} {inn : Nat → Pr} (hg : Good L) (ha : Adv L inn) {k k' : Nat} {n : Nd} (hk : k < L.length) (h : chS L inn k = .inr (n, k')) : k ≤ k' ∧ k' < L.length := by
  unfold chS at h
  cases hr : rowS L inn L.length k [] with
  | inl e => rw [hr] at h; cases h
  | inr q =>
    obtain ⟨m, j⟩ := q
    rw [hr] at h
    have h1 := rowS_adv hg ha _ _ _ _ _ hk hr
    have h2 := altS_adv hg ha _ _ _ _ _ h1.2 h
    omega
theorem innE_inv {L : List Tok} {r : Pr} {n : Nd} {k' : Nat} (h : innE L r = .inr (n, k')) : ∃ j, r = .inr (n, j) ∧ sgT (gL L j) = { data := #[41] } ∧ k' = j + 1 := by
  cases r with
  | inl e => cases h
  | inr q =>
    obtain ⟨m, j⟩ := q
    unfold innE at h
    simp only at h
    split at h
    · rename_i hs
      simp only [Sum.inr.injEq, Prod.mk.injEq] at h
      exact ⟨j, by rw [h.1], hs, h.2.symm⟩
    · cases h
theorem innS_adv {L : List Tok} (hg : Good L) : ∀ d, Adv L (innS L d)
  | 0 => fun k n k' _ _ h => by rw [innS] at h; cases h
  | d + 1 => fun k n k' hk hs h => by
    rw [innS] at h
    obtain ⟨j, h1, h2, h3⟩ := innE_inv h
    have h4 := chS_adv hg (innS_adv hg d) (hg.sg hk hs) h1
    have h5 := hg.sg h4.2 h2
    omega
theorem ptB_nxt {L : List Tok} (hg : Good L) {k : Nat} (hk : k < L.length) (h : ptB L k (gL L k) = true) : k + 1 < L.length := by
  refine hg.nxt k hk ?_
  intro h6
  unfold ptB at h
  rw [h6] at h
  simp at h
end Go.Proofs.YtkofhmmnlapnnaaGreatDoor
