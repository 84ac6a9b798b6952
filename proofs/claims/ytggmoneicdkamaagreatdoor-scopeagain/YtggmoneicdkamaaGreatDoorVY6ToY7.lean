/-
  What the document says of the tree of a row of tokens, as functions on tokens, and plain facts on them. Nothing of the program stands here.
  What stays while the reader goes on, and the contracts of its methods as one form. Conditions: those that each theorem names.
-/
import Derived.Test.YtggmoneicdkamaaGreatDoorVY5
namespace Go.Proofs.YtggmoneicdkamaaGreatDoor
open Go.RowKit
set_option linter.unusedVariables false
/-- The token at k. -/
def gL (L : List Tok) (k : Nat) : Tok := (L[k]?).getD (6, { data := #[] }, 0, 0)
theorem gL_eq {L : List Tok} {k : Nat} (h : k < L.length) : gL L k = L[k] := by
  unfold gL
  rw [List.getElem?_eq_getElem h]
  rfl
/-- What tokens of a source are like: behind each but the last one comes another, a sign is one byte. -/
structure Good (L : List Tok) : Prop where
  len : L.length ≤ 10000
  nxt : ∀ k, k < L.length → (gL L k).1 ≠ 6 → k + 1 < L.length
  sgn : ∀ k, (gL L k).1 = 5 → ∃ x, x < 256 ∧ (gL L k).2.1 = nb [x]
def oneS (L : List Tok) (inn : Nat → Pr) (k : Nat) : Pr :=
  if (gL L k).1 = 1 ∧ hdB L k = false then .inr (.mk 5 (gL L k).2.1 (gL L k).2.2.1 [] (gL L k).2.2.2, k + 1)
  else if (gL L k).1 = 3 then .inr (.mk 2 (gL L k).2.1 (gL L k).2.2.1 [] (gL L k).2.2.2, k + 1)
  else if (gL L k).1 = 4 then .inr (.mk 3 (gL L k).2.1 (gL L k).2.2.1 [] (gL L k).2.2.2, k + 1)
  else if sgT (gL L k) = { data := #[46] } then .inr (.mk 4 { data := #[] } (gL L k).2.2.1 [] (gL L k).2.2.2, k + 1)
  else if sgT (gL L k) = { data := #[40] } then inn k
  else .inl (wrC (gL L k), (gL L k).2.2.2)
def repE (L : List Tok) (r : Pr) : Pr := match r with
  | .inl e => .inl e
  | .inr (n, k') => if rpK (sgT (gL L k')) = 0 then .inr (n, k') else .inr (.mk (rpK (sgT (gL L k'))) { data := #[] } 0 [n] n.at', k' + 1)
def repS (L : List Tok) (inn : Nat → Pr) (k : Nat) : Pr := repE L (oneS L inn k)
def ovS (kd p : Nat) (r : Pr) : Pr := match r with
  | .inl e => .inl e
  | .inr (n, k') => .inr (.mk kd { data := #[] } 0 [n] p, k')
def partS (L : List Tok) (inn : Nat → Pr) (k : Nat) : Pr :=
  if sgT (gL L k) = { data := #[33] } then ovS 12 (gL L k).2.2.2 (repS L inn (k + 1))
  else if sgT (gL L k) = { data := #[38] } then ovS 11 (gL L k).2.2.2 (repS L inn (k + 1))
  else repS L inn k
def rowS (L : List Tok) (inn : Nat → Pr) : Nat → Nat → List Nd → Pr
  | 0, _, _ => .inl (0, 0)
  | f + 1, k, acc => if ptB L k (gL L k) = true then (match partS L inn k with
      | .inl e => .inl e
      | .inr (n, k') => rowS L inn f k' (acc ++ [n]))
    else if acc.isEmpty = true then .inr (.mk 1 { data := #[] } 0 [] (gL L k).2.2.2, k) else .inr (joinN 6 acc, k)
def altS (L : List Tok) (inn : Nat → Pr) : Nat → Nat → List Nd → Pr
  | 0, _, _ => .inl (0, 0)
  | f + 1, k, acc => if sgT (gL L k) = { data := #[47] } then (match rowS L inn L.length (k + 1) [] with
      | .inl e => .inl e
      | .inr (n, k') => altS L inn f k' (acc ++ [n]))
    else .inr (joinN 7 acc, k)
def chE (L : List Tok) (inn : Nat → Pr) (r : Pr) : Pr := match r with
  | .inl e => .inl e
  | .inr (n, k') => altS L inn L.length k' [n]
def chS (L : List Tok) (inn : Nat → Pr) (k : Nat) : Pr := chE L inn (rowS L inn L.length k [])
def innE (L : List Tok) (r : Pr) : Pr := match r with
  | .inl e => .inl e
  | .inr (n, k') => if sgT (gL L k') = { data := #[41] } then .inr (n, k' + 1) else .inl (wrC (gL L k'), (gL L k').2.2.2)
def innS (L : List Tok) : Nat → Nat → Pr
  | 0, k => .inl (2, (gL L k).2.2.2)
  | d + 1, k => innE L (chS L (innS L d) (k + 1))
/-- What is read lies ahead of where the reader stands then. -/
def Adv (L : List Tok) (inn : Nat → Pr) : Prop := ∀ k n k', k < L.length → sgT (gL L k) = { data := #[40] } → inn k = .inr (n, k') → k < k' ∧ k' < L.length
theorem sgT_five {t : Tok} {x : UInt8} (h : sgT t = { data := #[x] }) : t.1 = 5 := by
  unfold sgT at h
  split at h
  · assumption
  · exact absurd (congrArg (fun a : ByteArray => a.data.size) h) (by simp)
theorem Good.sg {L : List Tok} (hg : Good L) {k : Nat} {x : UInt8} (hk : k < L.length) (h : sgT (gL L k) = { data := #[x] }) : k + 1 < L.length :=
  hg.nxt k hk (by rw [sgT_five h]; decide)
theorem oneS_adv {L : List Tok} {inn : Nat → Pr} (hg : Good L) (ha : Adv L inn) {k k' : Nat} {n : Nd} (hk : k < L.length) (h : oneS L inn k = .inr (n, k')) : k < k' ∧ k' < L.length := by
  unfold oneS at h
  split at h
  · rename_i hc
    simp only [Sum.inr.injEq, Prod.mk.injEq] at h
    have := hg.nxt k hk (by omega)
    omega
  · split at h
    · simp only [Sum.inr.injEq, Prod.mk.injEq] at h
      have := hg.nxt k hk (by omega)
      omega
    · split at h
      · simp only [Sum.inr.injEq, Prod.mk.injEq] at h
        have := hg.nxt k hk (by omega)
        omega
      · split at h
        · rename_i hs
          simp only [Sum.inr.injEq, Prod.mk.injEq] at h
          have := hg.sg hk hs
          omega
        · split at h
          · rename_i hs
            exact ha k n k' hk hs h
          · cases h
theorem rpK_sg {t : Tok} (h : rpK (sgT t) ≠ 0) : t.1 = 5 := by
  unfold rpK at h
  split at h
  · rename_i hs; exact sgT_five hs
  · split at h
    · rename_i hs; exact sgT_five hs
    · split at h
      · rename_i hs; exact sgT_five hs
      · exact absurd rfl h
theorem repE_adv {L : List Tok} (hg : Good L) {r : Pr} {k k' : Nat} {n : Nd} (hr : ∀ m j, r = .inr (m, j) → k < j ∧ j < L.length) (h : repE L r = .inr (n, k')) : k < k' ∧ k' < L.length := by
  cases r with
  | inl e => cases h
  | inr q =>
    obtain ⟨m, j⟩ := q
    have h1 := hr m j rfl
    unfold repE at h
    simp only at h
    split at h
    · simp only [Sum.inr.injEq, Prod.mk.injEq] at h
      omega
    · rename_i hs
      have := hg.nxt j h1.2 (by rw [rpK_sg hs]; decide)
      simp only [Sum.inr.injEq, Prod.mk.injEq] at h
      omega
theorem repS_adv {L : List Tok} {inn : Nat → Pr} (hg : Good L) (ha : Adv L inn) {k k' : Nat} {n : Nd} (hk : k < L.length) (h : repS L inn k = .inr (n, k')) : k < k' ∧ k' < L.length :=
  repE_adv hg (fun m j e => oneS_adv hg ha hk e) h
theorem ovS_inv {kd p k' : Nat} {r : Pr} {n : Nd} (h : ovS kd p r = .inr (n, k')) : ∃ m, r = .inr (m, k') := by
  cases r with
  | inl e => cases h
  | inr q =>
    obtain ⟨m, j⟩ := q
    unfold ovS at h
    simp only [Sum.inr.injEq, Prod.mk.injEq] at h
    exact ⟨m, by rw [h.2]⟩
theorem partS_adv {L : List Tok} {inn : Nat → Pr} (hg : Good L) (ha : Adv L inn) {k k' : Nat} {n : Nd} (hk : k < L.length) (h : partS L inn k = .inr (n, k')) : k < k' ∧ k' < L.length := by
  unfold partS at h
  split at h
  · rename_i hs
    obtain ⟨m, hm⟩ := ovS_inv h
    have := repS_adv hg ha (hg.sg hk hs) hm
    omega
  · split at h
    · rename_i hs
      obtain ⟨m, hm⟩ := ovS_inv h
      have := repS_adv hg ha (hg.sg hk hs) hm
      omega
    · exact repS_adv hg ha hk h
theorem rowS_adv {L : List Tok} {inn : Nat → Pr} (hg : Good L) (ha : Adv L inn) : ∀ (f k : Nat) (acc : List Nd) (n : Nd) (k' : Nat), k < L.length → rowS L inn f k acc = .inr (n, k') → k ≤ k' ∧ k' < L.length
  | 0, _, _, _, _, _, h => by rw [rowS] at h; cases h
  | f + 1, k, acc, n, k', hk, h => by
    rw [rowS] at h
    split at h
    · split at h
      · cases h
      · rename_i m j hp
        have h1 := partS_adv hg ha hk hp
        have h2 := rowS_adv hg ha f j (acc ++ [m]) n k' h1.2 h
        omega
    · split at h
      · simp only [Sum.inr.injEq, Prod.mk.injEq] at h; omega
      · simp only [Sum.inr.injEq, Prod.mk.injEq] at h; omega
theorem altS_adv {L : List Tok} {inn : Nat → Pr} (hg : Good L) (ha : Adv L inn) : ∀ (f k : Nat) (acc : List Nd) (n : Nd) (k' : Nat), k < L.length → altS L inn f k acc = .inr (n, k') → k ≤ k' ∧ k' < L.length
  | 0, _, _, _, _, _, h => by rw [altS] at h; cases h
  | f + 1, k, acc, n, k', hk, h => by
    rw [altS] at h
    split at h
    · rename_i hs
      split at h
      · cases h
      · rename_i m j hp
        have h1 := rowS_adv hg ha _ _ _ _ _ (hg.sg hk hs) hp
        have h2 := altS_adv hg ha f j (acc ++ [m]) n k' h1.2 h
        omega
    · simp only [Sum.inr.injEq, Prod.mk.injEq] at h; omega
theorem chS_adv {L : List Tok} {inn : Nat → Pr} (hg : Good L) (ha : Adv L inn) {k k' : Nat} {n : Nd} (hk : k < L.length) (h : chS L inn k = .inr (n, k')) : k ≤ k' ∧ k' < L.length := by
  unfold chS at h
  cases hr : rowS L inn L.length k [] with
  | inl e => rw [hr] at h; cases h
  | inr q =>
    obtain ⟨m, j⟩ := q
    rw [hr] at h
    have h1 := rowS_adv hg ha _ _ _ _ _ hk hr
    have h2 := altS_adv hg ha _ _ _ _ _ h1.2 h
    omega
theorem innE_inv {L : List Tok} {r : Pr} {n : Nd} {k' : Nat} (h : innE L r = .inr (n, k')) : ∃ j, r = .inr (n, j) ∧ sgT (gL L j) = { data := #[41] } ∧ k' = j + 1 := by
  cases r with
  | inl e => cases h
  | inr q =>
    obtain ⟨m, j⟩ := q
    unfold innE at h
    simp only at h
    split at h
    · rename_i hs
      simp only [Sum.inr.injEq, Prod.mk.injEq] at h
      exact ⟨j, by rw [h.1], hs, h.2.symm⟩
    · cases h
theorem innS_adv {L : List Tok} (hg : Good L) : ∀ d, Adv L (innS L d)
  | 0 => fun k n k' _ _ h => by rw [innS] at h; cases h
  | d + 1 => fun k n k' hk hs h => by
    rw [innS] at h
    obtain ⟨j, h1, h2, h3⟩ := innE_inv h
    have h4 := chS_adv hg (innS_adv hg d) (hg.sg hk hs) h1
    have h5 := hg.sg h4.2 h2
    omega
end Go.Proofs.YtggmoneicdkamaaGreatDoor
namespace Go.Proofs.YtggmoneicdkamaaGreatDoor
open Go.RowKit
set_option linter.unusedVariables false
theorem NdIs.shape {w : World} {P : Nat → Prop} {n : Nd} {c : List Value} (h : NdIs w P n c) : ∃ kd T C so sl sc, c = n8 kd T C (.slice so sl sc) n.at' := by
  obtain ⟨kd', T, C, subs, p'⟩ := n
  rw [NdIs] at h
  obtain ⟨sv, rfl, h2⟩ := h
  rcases h2 with ⟨_, rfl⟩ | ⟨_, g, cap, cur, rfl, _⟩
  · exact ⟨kd', T, C, none, 0, 0, rfl⟩
  · exact ⟨kd', T, C, _, _, cap, rfl⟩
theorem G.trans {w w1 w2 : World} {R : Nat} (h : w.grownBy w1 (some R)) (h2 : w1.grownBy w2 (some R)) : w.grownBy w2 (some R) :=
  ⟨h2.os.trans h.os, h2.tape.trans h.tape, h2.output.trans h.output, Nat.le_trans h.size h2.size, fun j hj hne => (h2.block j (Nat.lt_of_lt_of_le hj h.size) hne).trans (h.block j hj hne)⟩
theorem G.refl (w : World) (R : Nat) : w.grownBy w (some R) := G.below (Below.refl _ _)
/-- A node that was read, the reader, and what was there. -/
def St (w : World) (P : Nat → Prop) (n : Nd) (cs : List Value) (R b : Nat) (v : Value) (L : List Tok) (k ru ne : Nat) (W : World) : Prop :=
  NdIs W P n cs ∧ Rd W R b v L k ru ne ∧ w.grownBy W (some R)
theorem St.next {w W : World} {P : Nat → Prop} {n : Nd} {cs : List Value} {R b : Nat} {v : Value} {L : List Tok} {k ru ne : Nat} (h : St w P n cs R b v L k ru ne W) : St w P n cs R b v L (k + 1) ru ne (W.setCell ⟨R, 1, none⟩ (.int .i64 ((k : Int) + 1))) := by
  have h2 := h.2.1.next (k + 1)
  rw [show (((k + 1 : Nat) : Int)) = (k : Int) + 1 by omega] at h2
  exact ⟨NdIs.grown h.1 (G.setR (G.refl W R)) h.2.1.1, h2, G.setR h.2.2⟩
theorem Rd.next1 {w : World} {R b : Nat} {v : Value} {L : List Tok} {k ru ne : Nat} (h : Rd w R b v L k ru ne) : Rd (w.setCell ⟨R, 1, none⟩ (.int .i64 ((k : Int) + 1))) R b v L (k + 1) ru ne := by
  have h2 := h.next (k + 1)
  rw [show (((k + 1 : Nat) : Int)) = (k : Int) + 1 by omega] at h2
  exact h2
theorem Rd.alloc {w : World} {R b : Nat} {v : Value} {L : List Tok} {k ru ne : Nat} (h : Rd w R b v L k ru ne) (o : Obj) : Rd (w.alloc o) R b v L k ru ne := h.below ((Below.refl _ _).alloc (Nat.le_refl _) _)
/-- A method of the reader reads as the function sp says, where ok holds. -/
def MC (F : Nat) (sp : Nat → Pr) (ok : Nat → Prop) (R b : Nat) (v : Value) (L : List Tok) (ru ne : Nat) : Prop :=
  ∀ (k B : Nat) (w : World), Rd w R b v L k ru ne → k < L.length → ok k → B ≤ w.heap.size → Calls Tryz.prog F #[.pointer (some ⟨R, 0, none⟩)] w fun e w' => AnsP (sp k) B R b v L ru ne w e w'
theorem ytoken_g (R b : Nat) (v : Value) (L : List Tok) (k ru ne : Nat) (hk : k < L.length) (hg : Good L) : Hid (∀ w : World, Rd w R b v L k ru ne →
    Calls Tryz.prog 92 #[.pointer (some ⟨R, 0, none⟩)] w fun e w' => e = .returned (tkv (gL L k)) ∧ Below w.heap.size w w') := fun w h => by
  rw [gL_eq hk]; exact ytoken_any R b v L k ru ne w h hk hg.len
theorem ysign_g (R b : Nat) (v : Value) (L : List Tok) (k ru ne : Nat) (hk : k < L.length) (hg : Good L) : Hid (∀ w : World, Rd w R b v L k ru ne →
    Calls Tryz.prog 153 #[.pointer (some ⟨R, 0, none⟩)] w fun e w' => e = .returned (.string (sgT (gL L k))) ∧ Below w.heap.size w w') := fun w h => by
  rw [gL_eq hk]; exact ysign_any R b v L k ru ne w h hk hg.len
theorem ywrong_g (R b : Nat) (v : Value) (L : List Tok) (k ru ne : Nat) (hk : k < L.length) (hg : Good L) : Hid (∀ w : World, Rd w R b v L k ru ne →
    Calls Tryz.prog 121 #[.pointer (some ⟨R, 0, none⟩)] w fun e w' => ∃ f, e = .returned (.pointer (some ⟨f, 0, none⟩)) ∧ Hid (w.heap.size ≤ f ∧ Flt w' f (wrC (gL L k), (gL L k).2.2.2) ∧ Below w.heap.size w w')) := fun w h => by
  rw [gL_eq hk]; exact ywrong_any R b v L k ru ne w h hk hg.len
theorem yfault_g (R b : Nat) (v : Value) (L : List Tok) (k ru ne : Nat) (hk : k < L.length) (hg : Good L) : Hid (∀ (c : Nat) (w : World), Rd w R b v L k ru ne →
    Calls Tryz.prog 122 #[.pointer (some ⟨R, 0, none⟩), .int .i64 (c : Int)] w fun e w' => ∃ f, e = .returned (.pointer (some ⟨f, 0, none⟩)) ∧ Hid (w.heap.size ≤ f ∧ Flt w' f (c, (gL L k).2.2.2) ∧ Below w.heap.size w w')) := fun c w h => by
  rw [gL_eq hk]; exact yfault_any R b v L k ru ne c w h hk hg.len
theorem yhead_g (R b : Nat) (v : Value) (L : List Tok) (k ru ne : Nat) (hk : k < L.length) (h1 : (gL L k).1 = 1) (hg : Good L) : Hid (∀ w : World, Rd w R b v L k ru ne →
    Calls Tryz.prog 181 #[.pointer (some ⟨R, 0, none⟩)] w fun e w' => e = .returned (.bool (hdB L k)) ∧ Below w.heap.size w w') := fun w h =>
  yhead_any R b v L k ru ne w h hk (by rw [gL_eq hk] at h1; exact h1) (hg.nxt k hk (by rw [h1]; decide)) hg.len
theorem ypart_g (R b : Nat) (v : Value) (L : List Tok) (k ru ne : Nat) (hk : k < L.length) (hg : Good L) : Hid (∀ w : World, Rd w R b v L k ru ne →
    Calls Tryz.prog 168 #[.pointer (some ⟨R, 0, none⟩)] w fun e w' => e = .returned (.bool (ptB L k (gL L k))) ∧ Below w.heap.size w w') := fun w h => by
  rw [gL_eq hk]
  exact ypart_any R b v L k ru ne w h hk (fun h1 => hg.nxt k hk (by rw [gL_eq hk, h1]; decide)) (fun h5 => by have := hg.sgn k (by rw [gL_eq hk]; exact h5); rw [gL_eq hk] at this; exact this) hg.len
theorem yone_lit_g (B R b : Nat) (v : Value) (L : List Tok) (k ru ne : Nat) (w : World) (h : Rd w R b v L k ru ne) (hk : k < L.length) (h3 : (gL L k).1 = 3) (hg : Good L) (hB : B ≤ w.heap.size) :
    Calls Tryz.prog 192 #[.pointer (some ⟨R, 0, none⟩)] w fun e w' => AnsP (.inr (.mk 2 (gL L k).2.1 (gL L k).2.2.1 [] (gL L k).2.2.2, k + 1)) B R b v L ru ne w e w' :=
  yone_lit B R b v L k ru ne _ _ _ w h hk (by rw [gL_eq hk] at h3 ⊢; rw [← h3]) hg.len hB
theorem yone_cls_g (B R b : Nat) (v : Value) (L : List Tok) (k ru ne : Nat) (w : World) (h : Rd w R b v L k ru ne) (hk : k < L.length) (h3 : (gL L k).1 = 4) (hg : Good L) (hB : B ≤ w.heap.size) :
    Calls Tryz.prog 192 #[.pointer (some ⟨R, 0, none⟩)] w fun e w' => AnsP (.inr (.mk 3 (gL L k).2.1 (gL L k).2.2.1 [] (gL L k).2.2.2, k + 1)) B R b v L ru ne w e w' :=
  yone_cls B R b v L k ru ne _ _ _ w h hk (by rw [gL_eq hk] at h3 ⊢; rw [← h3]) hg.len hB
theorem eight_cells {w : World} {g : Nat} {a0 a1 a2 a3 a4 a5 a6 a7 : Value} (h : w.heap[g]? = some (.cells #[a0, a1, a2, a3, a4, a5, a6, a7] 58)) :
    (w.cell? ⟨g, 0, none⟩ = some a0 ∧ w.cell? ⟨g, 1, none⟩ = some a1 ∧ w.cell? ⟨g, 2, none⟩ = some a2 ∧ w.cell? ⟨g, 3, none⟩ = some a3 ∧ w.cell? ⟨g, 4, none⟩ = some a4 ∧ w.cell? ⟨g, 5, none⟩ = some a5 ∧ w.cell? ⟨g, 6, none⟩ = some a6 ∧ w.cell? ⟨g, 7, none⟩ = some a7) ∧
    (w.frozen? ⟨g, 0, none⟩ = false ∧ w.frozen? ⟨g, 1, none⟩ = false ∧ w.frozen? ⟨g, 2, none⟩ = false ∧ w.frozen? ⟨g, 3, none⟩ = false ∧ w.frozen? ⟨g, 4, none⟩ = false ∧ w.frozen? ⟨g, 5, none⟩ = false ∧ w.frozen? ⟨g, 6, none⟩ = false ∧ w.frozen? ⟨g, 7, none⟩ = false) := by
  refine ⟨⟨?_, ?_, ?_, ?_, ?_, ?_, ?_, ?_⟩, ⟨?_, ?_, ?_, ?_, ?_, ?_, ?_, ?_⟩⟩ <;> simp [World.cell?, World.frozen?, h]
/-- A node's zero cells. -/
@[reducible] def Zo : Obj := .cells #[.int .i64 0, .string { data := #[] }, .int .u64 0, .int .u64 0, .int .u64 0, .int .u64 0, .slice none 0 0, .int .i64 0] 58
/-- The reader, what was there, and the variable of the result, laid first. -/
def En (w : World) (R b : Nat) (v : Value) (L : List Tok) (k ru ne : Nat) (W : World) : Prop :=
  Rd W R b v L k ru ne ∧ w.grownBy W (some R) ∧ W.heap[w.heap.size]? = some Zo ∧ R < w.heap.size ∧ (∀ g, w.heap.size ≤ g → v.ownBlock ≠ some g)
theorem En.start {w : World} {R b : Nat} {v : Value} {L : List Tok} {k ru ne : Nat} (h : Rd w R b v L k ru ne) : En w R b v L k ru ne (w.alloc Zo) :=
  ⟨h.alloc _, G.alloc (G.refl w R), new_block_at w _ rfl, h.lt, fun g hg e => by have := (h.2.lt _ e).2; omega⟩
theorem En.size {w W : World} {R b : Nat} {v : Value} {L : List Tok} {k ru ne : Nat} (h : En w R b v L k ru ne W) : w.heap.size < W.heap.size := by
  rcases Nat.lt_or_ge w.heap.size W.heap.size with h1 | h1
  · exact h1
  · have := h.2.2.1; rw [Array.getElem?_eq_none h1] at this; cases this
theorem En.grown {w W W' : World} {R b : Nat} {v : Value} {L : List Tok} {k k' ru ne : Nat} (h : En w R b v L k ru ne W) (hr : Rd W' R b v L k' ru ne) (hg : W.grownBy W' (some R)) : En w R b v L k' ru ne W' :=
  ⟨hr, G.trans h.2.1 hg, (hg.block _ h.size (fun e => by have := Option.some.inj e; have := h.2.2.2.1; omega)).trans h.2.2.1, h.2.2.2.1, h.2.2.2.2⟩
theorem En.below {w W W' : World} {R b : Nat} {v : Value} {L : List Tok} {k ru ne : Nat} (h : En w R b v L k ru ne W) (hb : Below W.heap.size W W') : En w R b v L k ru ne W' :=
  h.grown (h.1.below hb) (G.below hb)
theorem En.alloc {w W : World} {R b : Nat} {v : Value} {L : List Tok} {k ru ne : Nat} (h : En w R b v L k ru ne W) (o : Obj) : En w R b v L k ru ne (W.alloc o) :=
  h.below ((Below.refl _ _).alloc (Nat.le_refl _) _)
theorem En.next {w W : World} {R b : Nat} {v : Value} {L : List Tok} {k ru ne : Nat} (h : En w R b v L k ru ne W) : En w R b v L (k + 1) ru ne (W.setCell ⟨R, 1, none⟩ (.int .i64 ((k : Int) + 1))) :=
  h.grown h.1.next1 (G.setR (G.refl W R))
theorem En.other {w W : World} {R b g j : Nat} {v u : Value} {L : List Tok} {k ru ne : Nat} (h : En w R b v L k ru ne W) (hg : w.heap.size < g) : En w R b v L k ru ne (W.setCell ⟨g, j, none⟩ u) :=
  ⟨h.1.other (by have := h.2.2.2.1; omega) (h.2.2.2.2 g (by omega)), G.setN h.2.1 (by omega), (Below.heap_setCell _ _ _ _ (show w.heap.size ≠ g by omega)).trans h.2.2.1, h.2.2.2.1, h.2.2.2.2⟩
theorem En.lt {w W : World} {R b : Nat} {v : Value} {L : List Tok} {k ru ne : Nat} (h : En w R b v L k ru ne W) : R < w.heap.size := h.2.2.2.1
/-- The result is laid, and handed back. -/
theorem En.fin {w W : World} {B R b : Nat} {v sv : Value} {L : List Tok} {k ru ne kd C p : Nat} {T : ByteArray} {n : Nd} (h : En w R b v L k ru ne W) (hn : NdIs W (fun g => w.heap.size + 1 ≤ g) n (n8 kd T C sv p)) (hB : B ≤ w.heap.size) :
    AnsP (.inr (n, k)) B R b v L ru ne w (.returned (.agg (n8 kd T C sv p).toArray)) (st8 W w.heap.size (kd : Int) T (wd C 0 : Nat) (wd C 1 : Nat) (wd C 2 : Nat) (wd C 3 : Nat) sv (p : Int)) := by
  have hRQ : w.heap.size ≠ R := by have := h.lt; omega
  have hv := h.2.2.2.2 w.heap.size (Nat.le_refl _)
  have hg := Nat.le_refl w.heap.size
  refine ⟨_, rfl, hid ?_, hid ((((((((h.1.other hRQ hv).other hRQ hv).other hRQ hv).other hRQ hv).other hRQ hv).other hRQ hv).other hRQ hv).other hRQ hv), hid (G.setN (G.setN (G.setN (G.setN (G.setN (G.setN (G.setN (G.setN h.2.1 hg) hg) hg) hg) hg) hg) hg) hg)⟩
  refine NdIs.kept (fun g cur hp hq => ⟨?_, by omega⟩) n _ hn
  have hne : ∀ j : Nat, g ≠ (⟨w.heap.size, j, none⟩ : Addr).block := fun j e => by have e2 : g = w.heap.size := e; omega
  have s : ∀ (V : World) (j : Nat) (u : Value), (V.setCell ⟨w.heap.size, j, none⟩ u).heap[g]? = V.heap[g]? := fun V j u => Below.heap_setCell _ _ _ _ (hne j)
  unfold st8
  rw [s, s, s, s, s, s, s, s]
theorem En.cells {w W : World} {R b : Nat} {v : Value} {L : List Tok} {k ru ne : Nat} (h : En w R b v L k ru ne W) :
    (W.cell? ⟨w.heap.size, 0, none⟩ = some (.int .i64 0) ∧ W.cell? ⟨w.heap.size, 1, none⟩ = some (.string { data := #[] }) ∧ W.cell? ⟨w.heap.size, 2, none⟩ = some (.int .u64 0) ∧ W.cell? ⟨w.heap.size, 3, none⟩ = some (.int .u64 0) ∧ W.cell? ⟨w.heap.size, 4, none⟩ = some (.int .u64 0) ∧ W.cell? ⟨w.heap.size, 5, none⟩ = some (.int .u64 0) ∧ W.cell? ⟨w.heap.size, 6, none⟩ = some (.slice none 0 0) ∧ W.cell? ⟨w.heap.size, 7, none⟩ = some (.int .i64 0)) ∧
    (W.frozen? ⟨w.heap.size, 0, none⟩ = false ∧ W.frozen? ⟨w.heap.size, 1, none⟩ = false ∧ W.frozen? ⟨w.heap.size, 2, none⟩ = false ∧ W.frozen? ⟨w.heap.size, 3, none⟩ = false ∧ W.frozen? ⟨w.heap.size, 4, none⟩ = false ∧ W.frozen? ⟨w.heap.size, 5, none⟩ = false ∧ W.frozen? ⟨w.heap.size, 6, none⟩ = false ∧ W.frozen? ⟨w.heap.size, 7, none⟩ = false) := eight_cells h.2.2.1
theorem AnsP.up {w W w' : World} {c : Nat × Nat} {B B' R b : Nat} {v : Value} {L : List Tok} {k ru ne ne' ne2 : Nat} {e : Ending} (hE : En w R b v L k ru ne2 W) (h : AnsP (.inl c) B' R b v L ru ne' W e w') : AnsP (.inl c) B R b v L ru ne w e w' := by
  obtain ⟨f, he, HF, HG⟩ := h
  exact ⟨f, he, hid ⟨by have := HF.out.1; have := hE.size; omega, HF.out.2⟩, hid (G.trans hE.2.1 HG.out)⟩
end Go.Proofs.YtggmoneicdkamaaGreatDoor
