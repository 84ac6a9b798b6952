/-
  What is read of the tokens of a tree's text: the tree, but for places. Plain facts on tokens and trees.
  What is read of the tokens of a grammar's text: its rules, but for places. Plain facts on tokens and trees.
  Trees that are read may be printed: each node is what its kind may be. Plain facts on tokens and trees.
  The text of a tree, in pieces, and its tokens. Plain facts on texts, tokens and trees; what a name, a quote and a class's text are read as is asked for.
  A grammar's text: it is read as the grammar, but for places; it is the same for grammars that are one but for places; how many parentheses are open at once. Plain facts on texts, tokens and trees.
  What trees are that are read: each may be printed; without an Empty within, no more parentheses are open at once than its source had. Plain facts on tokens and trees.
-/
import Derived.Test.YtikfnaffiehpaaaGreatDoorVP1
import Derived.Test.YtikfnaffiehpaaaGreatDoorVQ2
namespace Go.Proofs.YtikfnaffiehpaaaGreatDoor
open Go.RowKit
set_option linter.unusedVariables false
theorem ptB_sg {L : List Tok} {k : Nat} {t : Tok} {x : UInt8} (h : tk3 t = sgc x) : ptB L k t = bgB x.toNat := by
  obtain ⟨_, h1, h2, _⟩ := tk_sg h
  unfold ptB
  rw [h1, h2, if_neg (by decide), if_neg (by decide), if_pos rfl]
  rfl
theorem bg0_not {c : Nat × ByteArray × Nat} {t : Tok} (hb : Bg0 c) (h : tk3 t = c) : sgT t ≠ { data := #[33] } ∧ sgT t ≠ { data := #[38] } ∧ rpK (sgT t) = 0 ∧ t.1 ≠ 2 := by
  rcases hb with h1 | h1 | h1 | h1 | h1
  · obtain ⟨a, b, _⟩ := tk_no h (by omega)
    rw [a, b, h1]; decide
  · obtain ⟨a, b, _⟩ := tk_no h (by omega)
    rw [a, b, h1]; decide
  · obtain ⟨a, b, _⟩ := tk_no h (by omega)
    rw [a, b, h1]; decide
  · obtain ⟨a, b, _⟩ := tk_sg (h.trans h1)
    rw [a, b]; decide
  · obtain ⟨a, b, _⟩ := tk_sg (h.trans h1)
    rw [a, b]; decide
theorem bg_not {c : Nat × ByteArray × Nat} {t : Tok} (hb : Bg c) (h : tk3 t = c) : rpK (sgT t) = 0 ∧ t.1 ≠ 2 := by
  rcases hb with hb | h1 | h1
  · exact (bg0_not hb h).2.2
  · obtain ⟨a, b, _⟩ := tk_sg (h.trans h1)
    rw [a, b]; decide
  · obtain ⟨a, b, _⟩ := tk_sg (h.trans h1)
    rw [a, b]; decide
theorem bg_pt {L : List Tok} {k : Nat} {c : Nat × ByteArray × Nat} (hb : Bg c) (h : tk3 (gL L k) = c) (hn : (gL L (k + 1)).1 ≠ 2) (hk : k + 1 < L.length) : ptB L k (gL L k) = true := by
  rcases hb with (h1 | h1 | h1 | h1 | h1) | h1 | h1
  · obtain ⟨a, b, _⟩ := tk_no h (by omega)
    unfold ptB
    rw [b, h1, if_pos rfl, hdB_gL L k hk]
    simp [hn]
  · obtain ⟨a, b, _⟩ := tk_no h (by omega)
    unfold ptB
    rw [b, h1]
    rfl
  · obtain ⟨a, b, _⟩ := tk_no h (by omega)
    unfold ptB
    rw [b, h1]
    rfl
  · rw [ptB_sg (h.trans h1)]; rfl
  · rw [ptB_sg (h.trans h1)]; rfl
  · rw [ptB_sg (h.trans h1)]; rfl
  · rw [ptB_sg (h.trans h1)]; rfl
mutual
theorem kN_arr : ∀ (n : Nd), ∀ c ∈ kN n, c.1 ≠ 2
  | .mk kd T C s p, c, hc => by
    rw [kN] at hc
    have h1 := kS_arr 6 s c
    have h2 := kA_arr s c
    have h3 := kS_arr 11 s c
    have h4 := kS_arr 12 s c
    have h5 := kS_arr kd s c
    split at hc
    · simp at hc; rcases hc with rfl | rfl <;> decide
    · split at hc
      · simp at hc; subst hc; show (3 : Nat) ≠ 2; decide
      · split at hc
        · simp at hc; subst hc; show (4 : Nat) ≠ 2; decide
        · split at hc
          · simp at hc; subst hc; decide
          · split at hc
            · simp at hc; subst hc; show (1 : Nat) ≠ 2; decide
            · split at hc
              · exact h1 hc
              · split at hc
                · exact h2 hc
                · split at hc
                  · rcases List.mem_cons.1 hc with rfl | hc
                    · decide
                    · exact h3 hc
                  · split at hc
                    · rcases List.mem_cons.1 hc with rfl | hc
                      · decide
                      · exact h4 hc
                    · rcases List.mem_append.1 hc with hc | hc
                      · exact h5 hc
                      · simp at hc; subst hc; show (5 : Nat) ≠ 2; decide
theorem kS_arr (over : Nat) : ∀ (s : List Nd), ∀ c ∈ kS over s, c.1 ≠ 2
  | [], c, hc => by rw [kS] at hc; simp at hc
  | n :: r, c, hc => by
    rw [kS] at hc
    have h1 := kN_arr n c
    have h2 := kS_arr over r c
    rcases List.mem_append.1 hc with hc | hc
    · split at hc
      · rcases List.mem_cons.1 hc with rfl | hc
        · decide
        · rcases List.mem_append.1 hc with hc | hc
          · exact h1 hc
          · simp at hc; subst hc; decide
      · exact h1 hc
    · exact h2 hc
theorem kA_arr : ∀ (s : List Nd), ∀ c ∈ kA s, c.1 ≠ 2
  | [], c, hc => by rw [kA] at hc; simp at hc
  | n :: r, c, hc => by
    rw [kA] at hc
    have h1 := kN_arr n c
    have h2 := kB_arr r c
    rcases List.mem_append.1 hc with hc | hc
    · split at hc
      · rcases List.mem_cons.1 hc with rfl | hc
        · decide
        · rcases List.mem_append.1 hc with hc | hc
          · exact h1 hc
          · simp at hc; subst hc; decide
      · exact h1 hc
    · exact h2 hc
theorem kB_arr : ∀ (s : List Nd), ∀ c ∈ kB s, c.1 ≠ 2
  | [], c, hc => by rw [kB] at hc; simp at hc
  | n :: r, c, hc => by
    rw [kB] at hc
    have h1 := kN_arr n c
    have h2 := kB_arr r c
    rcases List.mem_cons.1 hc with rfl | hc
    · decide
    · rcases List.mem_append.1 hc with hc | hc
      · split at hc
        · rcases List.mem_cons.1 hc with rfl | hc
          · decide
          · rcases List.mem_append.1 hc with hc | hc
            · exact h1 hc
            · simp at hc; subst hc; decide
        · exact h1 hc
      · exact h2 hc
end
theorem kP_arr (over : Nat) (n : Nd) : ∀ c ∈ kP over n, c.1 ≠ 2 := fun c hc => by
  have h1 := kN_arr n c
  unfold kP at hc
  split at hc
  · rcases List.mem_cons.1 hc with rfl | hc
    · decide
    · rcases List.mem_append.1 hc with hc | hc
      · exact h1 hc
      · simp at hc; subst hc; decide
  · exact h1 hc
theorem nxt_arr {L : List Tok} {k : Nat} {K : List (Nat × ByteArray × Nat)} (h : AtK L k K) (ha : ∀ c ∈ K, c.1 ≠ 2) (hf : (gL L (k + K.length)).1 ≠ 2) (h0 : 0 < K.length) : (gL L (k + 1)).1 ≠ 2 := by
  rcases Nat.lt_or_ge 1 K.length with h1 | h1
  · have := h 1 K[1] (List.getElem?_eq_getElem h1)
    have h2 := ha K[1] (List.getElem_mem h1)
    rw [← this] at h2
    exact h2
  · have : K.length = 1 := by omega
    rw [this] at hf
    exact hf
def Rd1 (n : Nd) : Prop := ∀ (L : List Tok) (d k : Nat), L.length ≤ 10000 → AtK L k (kP 8 n) → k + (kP 8 n).length < L.length → (gL L (k + (kP 8 n).length)).1 ≠ 2 → dP 8 n ≤ d → ∃ n', oneS L (innS L d) k = .inr (n', k + (kP 8 n).length) ∧ Sm n n'
def Rd2 (n : Nd) : Prop := ∀ (L : List Tok) (d k : Nat), L.length ≤ 10000 → AtK L k (kP 11 n) → k + (kP 11 n).length < L.length → (gL L (k + (kP 11 n).length)).1 ≠ 2 → rpK (sgT (gL L (k + (kP 11 n).length))) = 0 → dP 11 n ≤ d → ∃ n', repS L (innS L d) k = .inr (n', k + (kP 11 n).length) ∧ Sm n n'
def Rd3 (n : Nd) : Prop := ∀ (L : List Tok) (d k : Nat), L.length ≤ 10000 → AtK L k (kP 6 n) → k + (kP 6 n).length < L.length → (gL L (k + (kP 6 n).length)).1 ≠ 2 → rpK (sgT (gL L (k + (kP 6 n).length))) = 0 → dP 6 n ≤ d → ∃ n', partS L (innS L d) k = .inr (n', k + (kP 6 n).length) ∧ Sm n n'
def Rd4 (n : Nd) : Prop := ∀ (L : List Tok) (d k : Nat), L.length ≤ 10000 → AtK L k (kP 7 n) → k + (kP 7 n).length < L.length → (gL L (k + (kP 7 n).length)).1 ≠ 2 → rpK (sgT (gL L (k + (kP 7 n).length))) = 0 → ptB L (k + (kP 7 n).length) (gL L (k + (kP 7 n).length)) = false → dP 7 n ≤ d →
  ∃ n', rowS L (innS L d) L.length k [] = .inr (n', k + (kP 7 n).length) ∧ Sm n n'
def Rd5 (n : Nd) : Prop := ∀ (L : List Tok) (d k : Nat), L.length ≤ 10000 → AtK L k (kN n) → k + (kN n).length < L.length → (gL L (k + (kN n).length)).1 ≠ 2 → rpK (sgT (gL L (k + (kN n).length))) = 0 → ptB L (k + (kN n).length) (gL L (k + (kN n).length)) = false → sgT (gL L (k + (kN n).length)) ≠ { data := #[47] } → dN n ≤ d →
  ∃ n', chS L (innS L d) k = .inr (n', k + (kN n).length) ∧ Sm n n'
theorem rd1_base {n : Nd} (hv : Vk n) (h5 : n.kd ≤ 5) : Rd1 n := by
  have hk := hv.kd
  have e8 : kP 8 n = kN n ∧ dP 8 n = dN n := by
    unfold kP dP
    rw [wr8, decide_eq_false (by omega)]
    exact ⟨rfl, rfl⟩
  intro L d k hL ha hlen har hd
  rw [e8.1] at ha hlen har ⊢
  rw [e8.2] at hd
  obtain ⟨kd, T, C, s, p⟩ := n
  rw [Vk] at hv
  have h5' : kd ≤ 5 := h5
  have hk' : 1 ≤ kd := hk.1
  have : kd = 1 ∨ kd = 2 ∨ kd = 3 ∨ kd = 4 ∨ kd = 5 := by omega
  rcases this with rfl | rfl | rfl | rfl | rfl
  · obtain ⟨hT, hC, hs⟩ : T = { data := #[] } ∧ C = 0 ∧ s = [] := by
      rcases hv.1 with h | h | h | h | h | h | h
      · exact h.2
      · omega
      · omega
      · omega
      · omega
      · omega
      · omega
    subst hT hC hs
    have eK : kN (.mk 1 { data := #[] } 0 [] p) = [sgc 40, sgc 41] := by rw [kN, if_pos rfl]
    rw [eK] at ha hlen har ⊢
    have eD : dN (.mk 1 { data := #[] } 0 [] p) = 1 := by rw [dN, if_pos rfl]
    rw [eD] at hd
    obtain ⟨d', rfl⟩ : ∃ d', d = d' + 1 := ⟨d - 1, by omega⟩
    obtain ⟨a0, a1, _⟩ := tk_sg ha.head
    obtain ⟨b0, b1, _⟩ := tk_sg ha.tail.head
    have hpt := ptB_sg (L := L) (k := k + 1) ha.tail.head
    obtain ⟨f, hf⟩ : ∃ f, L.length = f + 1 := ⟨L.length - 1, by simp at hlen; omega⟩
    refine ⟨.mk 1 { data := #[] } 0 [] (gL L (k + 1)).2.2.2, ?_, Sm_mk SmL_nil (by simp)⟩
    unfold oneS
    rw [if_neg (by rw [a1]; simp), if_neg (by rw [a1]; decide), if_neg (by rw [a1]; decide), if_neg (by rw [a0]; decide), if_pos a0, innS]
    unfold chS
    rw [hf, rowS, if_neg (by rw [hpt]; decide), if_pos (show ([] : List Nd).isEmpty = true from rfl)]
    unfold chE
    simp only
    rw [hf, altS, if_neg (by rw [b0]; decide)]
    unfold innE
    simp only
    rw [if_pos b0]
    rfl
  · obtain ⟨hC, hs⟩ : C = 0 ∧ s = [] := by
      rcases hv.1 with h | h | h | h | h | h | h
      · omega
      · exact h.2
      · omega
      · omega
      · omega
      · omega
      · omega
    subst hC hs
    have eK : kN (.mk 2 T 0 [] p) = [(3, T, 0)] := by rw [kN, if_neg (by decide), if_pos rfl]
    rw [eK] at ha ⊢
    obtain ⟨_, b, c, e⟩ := tk_no ha.head (by show (3 : Nat) ≠ 5; decide)
    have b' : (gL L k).1 = 3 := b
    have c' : (gL L k).2.1 = T := c
    have e' : (gL L k).2.2.1 = 0 := e
    refine ⟨.mk 2 T 0 [] (gL L k).2.2.2, ?_, Sm_mk SmL_nil (by simp)⟩
    unfold oneS
    rw [if_neg (by rw [b']; simp), if_pos b', c', e']
    rfl
  · obtain ⟨hT, hs⟩ : T = { data := #[] } ∧ s = [] := by
      rcases hv.1 with h | h | h | h | h | h | h
      · omega
      · omega
      · exact h.2
      · omega
      · omega
      · omega
      · omega
    subst hT hs
    have eK : kN (.mk 3 { data := #[] } C [] p) = [(4, { data := #[] }, C)] := by rw [kN, if_neg (by decide), if_neg (by decide), if_pos rfl]
    rw [eK] at ha ⊢
    obtain ⟨_, b, c, e⟩ := tk_no ha.head (by show (4 : Nat) ≠ 5; decide)
    have b' : (gL L k).1 = 4 := b
    have c' : (gL L k).2.1 = { data := #[] } := c
    have e' : (gL L k).2.2.1 = C := e
    refine ⟨.mk 3 { data := #[] } C [] (gL L k).2.2.2, ?_, Sm_mk SmL_nil (by simp)⟩
    unfold oneS
    rw [if_neg (by rw [b']; simp), if_neg (by rw [b']; decide), if_pos b', c', e']
    rfl
  · obtain ⟨hT, hC, hs⟩ : T = { data := #[] } ∧ C = 0 ∧ s = [] := by
      rcases hv.1 with h | h | h | h | h | h | h
      · omega
      · omega
      · omega
      · exact h.2
      · omega
      · omega
      · omega
    subst hT hC hs
    have eK : kN (.mk 4 { data := #[] } 0 [] p) = [sgc 46] := by rw [kN, if_neg (by decide), if_neg (by decide), if_neg (by decide), if_pos rfl]
    rw [eK] at ha ⊢
    obtain ⟨a, b, _, e⟩ := tk_sg ha.head
    refine ⟨.mk 4 { data := #[] } 0 [] (gL L k).2.2.2, ?_, Sm_mk SmL_nil (by simp)⟩
    unfold oneS
    rw [if_neg (by rw [b]; simp), if_neg (by rw [b]; decide), if_neg (by rw [b]; decide), if_pos a, e]
    rfl
  · obtain ⟨hC, hs⟩ : C = 0 ∧ s = [] := by
      rcases hv.1 with h | h | h | h | h | h | h
      · omega
      · omega
      · omega
      · omega
      · exact h.2
      · omega
      · omega
    subst hC hs
    have eK : kN (.mk 5 T 0 [] p) = [(1, T, 0)] := by rw [kN, if_neg (by decide), if_neg (by decide), if_neg (by decide), if_neg (by decide), if_pos rfl]
    rw [eK] at ha hlen har ⊢
    obtain ⟨_, b, c, e⟩ := tk_no ha.head (by show (1 : Nat) ≠ 5; decide)
    have b' : (gL L k).1 = 1 := b
    have c' : (gL L k).2.1 = T := c
    have e' : (gL L k).2.2.1 = 0 := e
    have hh : hdB L k = false := by
      rw [hdB_gL L k (by simpa using hlen)]
      have : (gL L (k + 1)).1 ≠ 2 := har
      simp [this]
    refine ⟨.mk 5 T 0 [] (gL L k).2.2.2, ?_, Sm_mk SmL_nil (by simp)⟩
    unfold oneS
    rw [if_pos ⟨b', hh⟩, c', e']
    rfl
theorem lift12 {n : Nd} (hv : Vk n) (h : ¬ (n.kd = 8 ∨ n.kd = 9 ∨ n.kd = 10)) (h1 : Rd1 n) : Rd2 n := by
  intro L d k hL ha hlen har hrp hd
  obtain ⟨e1, e2⟩ := kP_8_11 hv h
  rw [e1] at ha hlen har hrp ⊢
  rw [e2] at hd
  obtain ⟨n', e, hs⟩ := h1 L d k hL ha hlen har hd
  refine ⟨n', ?_, hs⟩
  unfold repS
  rw [e]
  unfold repE
  simp only [hrp, if_true]
theorem lift23 {n : Nd} (hv : Vk n) (h : ¬ (n.kd = 11 ∨ n.kd = 12)) (h2 : Rd2 n) : Rd3 n := by
  intro L d k hL ha hlen har hrp hd
  obtain ⟨e1, e2⟩ := kP_11_6 hv h
  rw [e1] at ha hlen har hrp ⊢
  rw [e2] at hd
  obtain ⟨n', e, hs⟩ := h2 L d k hL ha hlen har hrp hd
  refine ⟨n', ?_, hs⟩
  obtain ⟨c, r, ec, hb⟩ := fst11 hv
  rw [ec] at ha
  obtain ⟨n1, n2, _⟩ := bg0_not hb ha.head
  unfold partS
  rw [if_neg n1, if_neg n2]
  exact e
theorem lift34 {n : Nd} (hv : Vk n) (h : n.kd ≠ 6) (h3 : Rd3 n) : Rd4 n := by
  intro L d k hL ha hlen har hrp hpt hd
  obtain ⟨e1, e2⟩ := kP_6_7 hv h
  rw [e1] at ha hlen har hrp hpt ⊢
  rw [e2] at hd
  obtain ⟨n', e, hs⟩ := h3 L d k hL ha hlen har hrp hd
  refine ⟨n', ?_, hs⟩
  obtain ⟨c, r, ec, hb⟩ := fst6 hv
  have hl0 : 0 < (kP 6 n).length := by rw [ec]; simp
  have hn := nxt_arr ha (kP_arr 6 n) har hl0
  have hp := bg_pt hb (by have := ha; rw [ec] at this; exact this.head) hn (by omega)
  obtain ⟨f, hf⟩ : ∃ f, L.length = f + 2 := ⟨L.length - 2, by omega⟩
  rw [hf, rowS, if_pos hp, e]
  simp only
  rw [rowS, if_neg (by rw [hpt]; decide)]
  rfl
theorem lift45 {n : Nd} (h : n.kd ≠ 7) (h4 : Rd4 n) : Rd5 n := by
  intro L d k hL ha hlen har hrp hpt hal hd
  obtain ⟨e1, e2⟩ := kP_7 h
  rw [← e1] at ha hlen har hrp hpt hal ⊢
  rw [← e2] at hd
  obtain ⟨n', e, hs⟩ := h4 L d k hL ha hlen har hrp hpt hd
  refine ⟨n', ?_, hs⟩
  unfold chS
  rw [e]
  unfold chE
  simp only
  obtain ⟨f, hf⟩ : ∃ f, L.length = f + 1 := ⟨L.length - 1, by omega⟩
  rw [hf, altS, if_neg hal]
  rfl
theorem wrap_one {n : Nd} (h5 : Rd5 n) {L : List Tok} {d k : Nat} (hL : L.length ≤ 10000) (ha : AtK L k (sgc 40 :: (kN n ++ [sgc 41]))) (hlen : k + (kN n).length + 2 < L.length) (hd : dN n + 1 ≤ d) :
    ∃ n', oneS L (innS L d) k = .inr (n', k + (kN n).length + 2) ∧ Sm n n' := by
  obtain ⟨d', rfl⟩ : ∃ d', d = d' + 1 := ⟨d - 1, by omega⟩
  obtain ⟨a0, a1, _⟩ := tk_sg ha.head
  have hin := ha.tail.left
  have hsh := ha.tail.right.head
  obtain ⟨b0, b1, _⟩ := tk_sg hsh
  have hpt := ptB_sg (L := L) (k := k + 1 + (kN n).length) hsh
  obtain ⟨n', e, hs⟩ := h5 L d' (k + 1) hL hin (by omega) (by rw [b1]; decide) (by rw [b0]; decide) (by rw [hpt]; decide) (by rw [b0]; decide) (by omega)
  refine ⟨n', ?_, hs⟩
  unfold oneS
  rw [if_neg (by rw [a1]; simp), if_neg (by rw [a1]; decide), if_neg (by rw [a1]; decide), if_neg (by rw [a0]; decide), if_pos a0, innS, e]
  unfold innE
  simp only
  rw [if_pos b0, show k + 1 + (kN n).length + 1 = k + (kN n).length + 2 by omega]
theorem rd1_wrap {n : Nd} (h6 : 6 ≤ n.kd) (h5 : Rd5 n) : Rd1 n := by
  have e8 : kP 8 n = sgc 40 :: (kN n ++ [sgc 41]) ∧ dP 8 n = dN n + 1 := by
    unfold kP dP
    rw [wr8, decide_eq_true h6]
    exact ⟨rfl, rfl⟩
  intro L d k hL ha hlen har hd
  rw [e8.1] at ha hlen ⊢
  rw [e8.2] at hd
  have hl : (sgc 40 :: (kN n ++ [sgc 41])).length = (kN n).length + 2 := by simp
  rw [hl] at hlen ⊢
  exact wrap_one h5 hL ha (by omega) hd
theorem rd2_rep {kd : Nat} {T : ByteArray} {C p : Nat} {m : Nd} (hk : kd = 8 ∨ kd = 9 ∨ kd = 10) (hT : T = { data := #[] }) (hC : C = 0) (h1 : Rd1 m) : Rd2 (.mk kd T C [m] p) := by
  subst hT hC
  obtain ⟨ek, ed⟩ := kN_rep (T := { data := #[] }) (C := 0) (p := p) (m := m) hk
  have e11 : kP 11 (.mk kd { data := #[] } 0 [m] p) = kN (.mk kd { data := #[] } 0 [m] p) ∧ dP 11 (.mk kd { data := #[] } 0 [m] p) = dN (.mk kd { data := #[] } 0 [m] p) := by
    unfold kP dP
    rw [wr11]
    show (if decide (kd = 6 ∨ kd = 7 ∨ kd = 11 ∨ kd = 12) = true then _ else _) = _ ∧ (if decide (kd = 6 ∨ kd = 7 ∨ kd = 11 ∨ kd = 12) = true then _ else _) = _
    rw [decide_eq_false (by omega)]
    exact ⟨rfl, rfl⟩
  intro L d k hL ha hlen har hrp hd
  rw [e11.1, ek] at ha hlen ⊢
  rw [e11.2, ed] at hd
  have hsg := ha.right.head
  obtain ⟨b0, b1, _⟩ := tk_sg hsg
  rw [List.length_append] at hlen ⊢
  simp only [List.length_cons, List.length_nil, Nat.zero_add] at hlen ⊢
  obtain ⟨m', e, hs⟩ := h1 L d k hL ha.left (by omega) (by rw [b1]; decide) hd
  have hr : rpK (sgT (gL L (k + (kP 8 m).length))) = kd := by
    rw [b0]
    rcases hk with rfl | rfl | rfl <;> decide
  refine ⟨.mk kd { data := #[] } 0 [m'] m'.at', ?_, Sm_mk (SmL_one hs) (by simp)⟩
  unfold repS
  rw [e]
  unfold repE
  simp only [hr]
  rw [if_neg (by omega), Nat.add_assoc]
theorem rd3_and {kd : Nat} {T : ByteArray} {C p : Nat} {m : Nd} (hk : kd = 11 ∨ kd = 12) (hT : T = { data := #[] }) (hC : C = 0) (h2 : Rd2 m) : Rd3 (.mk kd T C [m] p) := by
  subst hT hC
  obtain ⟨ek, ed⟩ := kN_and (T := { data := #[] }) (C := 0) (p := p) (m := m) hk
  have e6 : kP 6 (.mk kd { data := #[] } 0 [m] p) = kN (.mk kd { data := #[] } 0 [m] p) ∧ dP 6 (.mk kd { data := #[] } 0 [m] p) = dN (.mk kd { data := #[] } 0 [m] p) := by
    unfold kP dP
    rw [wr6]
    show (if decide (kd = 6 ∨ kd = 7) = true then _ else _) = _ ∧ (if decide (kd = 6 ∨ kd = 7) = true then _ else _) = _
    rw [decide_eq_false (by omega)]
    exact ⟨rfl, rfl⟩
  intro L d k hL ha hlen har hrp hd
  rw [e6.1, ek] at ha hlen har hrp ⊢
  rw [e6.2, ed] at hd
  rw [List.length_cons] at hlen har hrp ⊢
  have e1 : k + ((kP 11 m).length + 1) = k + 1 + (kP 11 m).length := by omega
  rw [e1] at hlen har hrp ⊢
  obtain ⟨m', e, hs⟩ := h2 L d (k + 1) hL ha.tail hlen har hrp hd
  refine ⟨.mk kd { data := #[] } 0 [m'] (gL L k).2.2.2, ?_, Sm_mk (SmL_one hs) (by simp)⟩
  obtain ⟨b0, _⟩ := tk_sg ha.head
  unfold partS
  rcases hk with rfl | rfl
  · rw [if_neg (by rw [b0]; decide), if_pos (by rw [b0]; rfl), e]
    rfl
  · rw [if_pos (by rw [b0]; rfl), e]
    rfl
theorem kS_len : ∀ (s : List Nd), VkL s → s.length ≤ (kS 6 s).length
  | [], _ => Nat.zero_le _
  | n :: r, h => by
    rw [VkL] at h
    obtain ⟨c, q, e, _⟩ := fst6 h.1
    have := kS_len r h.2
    rw [kS_cons, List.length_append, e]
    simp
    omega
/-- Parts in a row. -/
theorem row_list {L : List Tok} {d : Nat} (hL : L.length ≤ 10000) : ∀ (s : List Nd) (f k : Nat) (acc : List Nd), (∀ m ∈ s, Vk m ∧ Rd3 m) → s.length < f → AtK L k (kS 6 s) → k + (kS 6 s).length < L.length → (gL L (k + (kS 6 s).length)).1 ≠ 2 → rpK (sgT (gL L (k + (kS 6 s).length))) = 0 →
    ptB L (k + (kS 6 s).length) (gL L (k + (kS 6 s).length)) = false → dS 6 s ≤ d → (acc ≠ [] ∨ s ≠ []) → ∃ s', SmL s s' ∧ rowS L (innS L d) f k acc = .inr (joinN 6 (acc ++ s'), k + (kS 6 s).length)
  | [], f, k, acc, _, hf, _, _, _, _, hpt, _, hne => by
    obtain ⟨g, rfl⟩ : ∃ g, f = g + 1 := ⟨f - 1, by simp at hf; omega⟩
    rw [kS_nil] at hpt ⊢
    have hpt' : ptB L k (gL L k) = false := hpt
    have ha : acc.isEmpty = false := by
      cases acc with
      | nil => simp at hne
      | cons _ _ => rfl
    refine ⟨[], SmL_nil, ?_⟩
    rw [rowS, if_neg (by rw [hpt']; decide), if_neg (by rw [ha]; decide), List.append_nil]
    rfl
  | m :: r, f, k, acc, hm, hf, ha, hlen, har, hrp, hpt, hd, _ => by
    obtain ⟨g, rfl⟩ : ∃ g, f = g + 1 := ⟨f - 1, by simp at hf; omega⟩
    rw [kS_cons] at ha hlen har hrp hpt ⊢
    rw [List.length_append] at hlen har hrp hpt ⊢
    rw [← Nat.add_assoc] at hlen har hrp hpt ⊢
    rw [dS_cons] at hd
    obtain ⟨vm, rm⟩ := hm m (by simp)
    obtain ⟨c, q, ec, hb⟩ := fst6 vm
    have hl0 : 0 < (kP 6 m).length := by rw [ec]; simp
    have hfol : (gL L (k + (kP 6 m).length)).1 ≠ 2 ∧ rpK (sgT (gL L (k + (kP 6 m).length))) = 0 := by
      cases r with
      | nil =>
        rw [kS_nil] at har hrp
        exact ⟨har, hrp⟩
      | cons m2 r2 =>
        obtain ⟨c2, q2, ec2, hb2⟩ := fst6 (hm m2 (by simp)).1
        have h2 := ha.right
        rw [kS_cons, ec2] at h2
        have := bg_not hb2 h2.head
        exact ⟨this.2, this.1⟩
    obtain ⟨m', e, hs⟩ := rm L d k hL ha.left (by omega) hfol.1 hfol.2 (by omega)
    have hn := nxt_arr ha.left (kP_arr 6 m) hfol.1 hl0
    have hp := bg_pt hb (by have := ha.left; rw [ec] at this; exact this.head) hn (by omega)
    obtain ⟨s', hs', e'⟩ := row_list (d := d) hL r g (k + (kP 6 m).length) (acc ++ [m']) (fun x hx => hm x (by simp [hx])) (by simp at hf; omega) ha.right hlen har hrp hpt (by omega) (.inl (by simp))
    refine ⟨m' :: s', by rw [SmL]; exact ⟨hs, hs'⟩, ?_⟩
    rw [rowS, if_pos hp, e]
    simp only
    rw [e', List.append_assoc]
    rfl
theorem join_two {kd : Nat} {s s' : List Nd} {p : Nat} (h : SmL s s') (h2 : 2 ≤ s.length) (hl : s.length ≤ 1000000) : Sm (.mk kd { data := #[] } 0 s p) (joinN kd s') := by
  have hle := h.len
  match s', hle with
  | [], hle => simp at hle; omega
  | [a], hle => simp at hle; omega
  | a :: b :: r, hle => exact Sm_mk h hl
theorem rd4_seq {T : ByteArray} {C p : Nat} {s : List Nd} (hT : T = { data := #[] }) (hC : C = 0) (h2 : 2 ≤ s.length) (hv : VkL s) (h3 : ∀ m ∈ s, Vk m ∧ Rd3 m) : Rd4 (.mk 6 T C s p) := by
  subst hT hC
  have ek : kN (.mk 6 { data := #[] } 0 s p) = kS 6 s := by rw [kN, if_neg (by decide), if_neg (by decide), if_neg (by decide), if_neg (by decide), if_neg (by decide), if_pos rfl]
  have ed : dN (.mk 6 { data := #[] } 0 s p) = dS 6 s := by rw [dN, if_neg (by decide)]
  obtain ⟨e1, e2⟩ := kP_7 (n := .mk 6 { data := #[] } 0 s p) (by show (6 : Nat) ≠ 7; decide)
  intro L d k hL ha hlen har hrp hpt hd
  rw [e1, ek] at ha hlen har hrp hpt ⊢
  rw [e2, ed] at hd
  have hsl := kS_len s hv
  obtain ⟨s', hs', e⟩ := row_list (d := d) hL s L.length k [] h3 (by omega) ha hlen har hrp hpt hd (.inr (by intro h; rw [h] at h2; simp at h2))
  exact ⟨_, e, join_two hs' h2 (by omega)⟩
theorem kB_len : ∀ (s : List Nd), s.length ≤ (kB s).length
  | [] => Nat.zero_le _
  | n :: r => by
    have := kB_len r
    rw [kB_cons]
    simp only [List.length_cons, List.length_append]
    omega
theorem tk_bar {L : List Tok} {k : Nat} (h : tk3 (gL L k) = sgc 47) : (gL L k).1 ≠ 2 ∧ rpK (sgT (gL L k)) = 0 ∧ ptB L k (gL L k) = false ∧ sgT (gL L k) = { data := #[47] } := by
  obtain ⟨a, b, _⟩ := tk_sg h
  rw [ptB_sg h, a, b]
  decide
/-- Parts of a choice behind the first one. -/
theorem alt_list {L : List Tok} {d : Nat} (hL : L.length ≤ 10000) : ∀ (s : List Nd) (f k : Nat) (acc : List Nd), (∀ m ∈ s, Rd4 m) → s.length < f → AtK L k (kB s) → k + (kB s).length < L.length → (gL L (k + (kB s).length)).1 ≠ 2 → rpK (sgT (gL L (k + (kB s).length))) = 0 →
    ptB L (k + (kB s).length) (gL L (k + (kB s).length)) = false → sgT (gL L (k + (kB s).length)) ≠ { data := #[47] } → dS 7 s ≤ d → ∃ s', SmL s s' ∧ altS L (innS L d) f k acc = .inr (joinN 7 (acc ++ s'), k + (kB s).length)
  | [], f, k, acc, _, hf, _, _, _, _, _, hal, _ => by
    obtain ⟨g, rfl⟩ : ∃ g, f = g + 1 := ⟨f - 1, by simp at hf; omega⟩
    rw [kB_nil] at hal ⊢
    refine ⟨[], SmL_nil, ?_⟩
    have hal' : sgT (gL L k) ≠ { data := #[47] } := hal
    rw [altS, if_neg hal', List.append_nil]
    rfl
  | m :: r, f, k, acc, hm, hf, ha, hlen, har, hrp, hpt, hal, hd => by
    obtain ⟨g, rfl⟩ : ∃ g, f = g + 1 := ⟨f - 1, by simp at hf; omega⟩
    rw [kB_cons] at ha hlen har hrp hpt hal ⊢
    rw [List.length_cons, List.length_append] at hlen har hrp hpt hal ⊢
    have e1 : k + ((kP 7 m).length + (kB r).length + 1) = k + 1 + (kP 7 m).length + (kB r).length := by omega
    rw [e1] at hlen har hrp hpt hal ⊢
    rw [dS_cons] at hd
    obtain ⟨_, _, _, hbar⟩ := tk_bar ha.head
    have hfol : (gL L (k + 1 + (kP 7 m).length)).1 ≠ 2 ∧ rpK (sgT (gL L (k + 1 + (kP 7 m).length))) = 0 ∧ ptB L (k + 1 + (kP 7 m).length) (gL L (k + 1 + (kP 7 m).length)) = false := by
      cases r with
      | nil =>
        rw [kB_nil] at har hrp hpt
        exact ⟨har, hrp, hpt⟩
      | cons m2 r2 =>
        have h2 := ha.tail.right
        rw [kB_cons] at h2
        obtain ⟨u1, u2, u3, _⟩ := tk_bar h2.head
        exact ⟨u1, u2, u3⟩
    obtain ⟨m', e, hs⟩ := hm m (by simp) L d (k + 1) hL ha.tail.left (by omega) hfol.1 hfol.2.1 hfol.2.2 (by omega)
    obtain ⟨s', hs', e'⟩ := alt_list (d := d) hL r g (k + 1 + (kP 7 m).length) (acc ++ [m']) (fun x hx => hm x (by simp [hx])) (by simp at hf; omega) ha.tail.right hlen har hrp hpt hal (by omega)
    refine ⟨m' :: s', by rw [SmL]; exact ⟨hs, hs'⟩, ?_⟩
    rw [altS, if_pos hbar, e]
    simp only
    rw [e', List.append_assoc]
    rfl
theorem rd5_alt {T : ByteArray} {C p : Nat} {s : List Nd} (hT : T = { data := #[] }) (hC : C = 0) (h2 : 2 ≤ s.length) (h4 : ∀ m ∈ s, Rd4 m) : Rd5 (.mk 7 T C s p) := by
  subst hT hC
  have ek : kN (.mk 7 { data := #[] } 0 s p) = kA s := by rw [kN, if_neg (by decide), if_neg (by decide), if_neg (by decide), if_neg (by decide), if_neg (by decide), if_neg (by decide), if_pos rfl]
  have ed : dN (.mk 7 { data := #[] } 0 s p) = dS 7 s := by rw [dN, if_neg (by decide)]
  intro L d k hL ha hlen har hrp hpt hal hd
  rw [ek] at ha hlen har hrp hpt hal ⊢
  rw [ed] at hd
  match s, h2 with
  | m :: m2 :: r, h2 =>
    rw [kA_cons] at ha hlen har hrp hpt hal ⊢
    rw [List.length_append, ← Nat.add_assoc] at hlen har hrp hpt hal ⊢
    rw [dS_cons] at hd
    have hbl := kB_len (m2 :: r)
    have hb := ha.right
    have hb2 := hb
    rw [kB_cons] at hb2
    obtain ⟨u1, u2, u3, _⟩ := tk_bar hb2.head
    obtain ⟨m', e, hs⟩ := h4 m (by simp) L d k hL ha.left (by omega) u1 u2 u3 (by omega)
    obtain ⟨s', hs', e'⟩ := alt_list (d := d) hL (m2 :: r) L.length (k + (kP 7 m).length) [m'] (fun x hx => h4 x (by simp at hx ⊢; exact .inr hx)) (by omega) hb hlen har hrp hpt hal (by omega)
    have hss : SmL (m :: m2 :: r) (m' :: s') := by rw [SmL]; exact ⟨hs, hs'⟩
    refine ⟨joinN 7 (m' :: s'), ?_, join_two hss h2 (by simp at hbl ⊢; omega)⟩
    unfold chS
    rw [e]
    unfold chE
    simp only
    rw [e']
    rfl
theorem rd_all : ∀ (N : Nat) (n : Nd), SizeOf.sizeOf n < N → Vk n → Rd1 n ∧ Rd2 n ∧ Rd3 n ∧ Rd4 n ∧ Rd5 n
  | 0, n, h, _ => by omega
  | N + 1, .mk kd T C s p, hN, hv => by
    have hkd : (Nd.mk kd T C s p).kd = kd := rfl
    have hv0 := hv
    rw [Vk] at hv
    obtain ⟨hv1, hvs⟩ := hv
    have ih : ∀ m ∈ s, Vk m ∧ Rd1 m ∧ Rd2 m ∧ Rd3 m ∧ Rd4 m ∧ Rd5 m := fun m hm => by
      have h3 := List.sizeOf_lt_of_mem hm
      simp only [Nd.mk.sizeOf_spec] at hN
      exact ⟨hvs.mem m hm, rd_all N m (by omega) (hvs.mem m hm)⟩
    have up : Rd4 (.mk kd T C s p) → kd ≠ 7 → Rd5 (.mk kd T C s p) := fun h hk => lift45 hk h
    rcases Nat.lt_or_ge kd 6 with h6 | h6
    · have r1 := rd1_base hv0 (show kd ≤ 5 by omega)
      have r2 := lift12 hv0 (by rw [hkd]; omega) r1
      have r3 := lift23 hv0 (by rw [hkd]; omega) r2
      have r4 := lift34 hv0 (by rw [hkd]; omega) r3
      exact ⟨r1, r2, r3, r4, lift45 (by rw [hkd]; omega) r4⟩
    · rcases Nat.lt_or_ge kd 8 with h8 | h8
      · obtain ⟨hT, hC, h2⟩ : T = { data := #[] } ∧ C = 0 ∧ 2 ≤ s.length := by
          rcases hv1 with h | h | h | h | h | h | h
          · omega
          · omega
          · omega
          · omega
          · omega
          · exact h.2
          · omega
        by_cases h7 : kd = 7
        · subst h7
          have r5 : Rd5 (.mk 7 T C s p) := rd5_alt hT hC h2 (fun m hm => (ih m hm).2.2.2.2.1)
          have r1 := rd1_wrap (n := .mk 7 T C s p) (show 6 ≤ 7 by decide) r5
          have r2 := lift12 hv0 (by rw [hkd]; omega) r1
          have r3 := lift23 hv0 (by rw [hkd]; omega) r2
          exact ⟨r1, r2, r3, lift34 hv0 (by rw [hkd]; omega) r3, r5⟩
        · obtain rfl : kd = 6 := by omega
          have r4 : Rd4 (.mk 6 T C s p) := rd4_seq hT hC h2 hvs (fun m hm => ⟨(ih m hm).1, (ih m hm).2.2.2.1⟩)
          have r5 := lift45 (by rw [hkd]; omega) r4
          have r1 := rd1_wrap (n := .mk 6 T C s p) (show 6 ≤ 6 by decide) r5
          have r2 := lift12 hv0 (by rw [hkd]; omega) r1
          exact ⟨r1, r2, lift23 hv0 (by rw [hkd]; omega) r2, r4, r5⟩
      · obtain ⟨h12, hT, hC, h1⟩ : kd ≤ 12 ∧ T = { data := #[] } ∧ C = 0 ∧ s.length = 1 := by
          rcases hv1 with h | h | h | h | h | h | h
          · omega
          · omega
          · omega
          · omega
          · omega
          · omega
          · exact h.2
        obtain ⟨m, rfl⟩ := one_sub h1
        obtain ⟨_, m1, m2, _⟩ := ih m (by simp)
        rcases Nat.lt_or_ge kd 11 with h11 | h11
        · have r2 : Rd2 (.mk kd T C [m] p) := rd2_rep (by omega) hT hC m1
          have r3 := lift23 hv0 (by rw [hkd]; omega) r2
          have r4 := lift34 hv0 (by rw [hkd]; omega) r3
          have r5 := lift45 (by rw [hkd]; omega) r4
          exact ⟨rd1_wrap (by rw [hkd]; omega) r5, r2, r3, r4, r5⟩
        · have r3 : Rd3 (.mk kd T C [m] p) := rd3_and (by omega) hT hC m2
          have r4 := lift34 hv0 (by rw [hkd]; omega) r3
          have r5 := lift45 (by rw [hkd]; omega) r4
          have r1 := rd1_wrap (by rw [hkd]; omega) r5
          exact ⟨r1, lift12 hv0 (by rw [hkd]; omega) r1, r3, r4, r5⟩
end Go.Proofs.YtikfnaffiehpaaaGreatDoor
namespace Go.Proofs.YtikfnaffiehpaaaGreatDoor
open Go.RowKit
set_option linter.unusedVariables false
/-- The tokens of rules, but for places. -/
def kR : List Rl → List (Nat × ByteArray × Nat)
  | [] => []
  | x :: r => (1, x.1, 0) :: (2, { data := #[] }, 0) :: (kN x.2.1 ++ kR r)
/-- What stands behind a rule. -/
def Fo (L : List Tok) (k : Nat) : Prop := (gL L k).1 ≠ 2 ∧ rpK (sgT (gL L k)) = 0 ∧ ptB L k (gL L k) = false ∧ sgT (gL L k) ≠ { data := #[47] }
theorem fo_end {L : List Tok} {k : Nat} (h : (gL L k).1 = 6) : Fo L k := by
  have hs : sgT (gL L k) = { data := #[] } := by unfold sgT; rw [h]; rfl
  refine ⟨by rw [h]; decide, by rw [hs]; decide, ?_, by rw [hs]; decide⟩
  unfold ptB
  rw [h]
  rfl
theorem fo_head {L : List Tok} {k : Nat} (h1 : (gL L k).1 = 1) (h2 : (gL L (k + 1)).1 = 2) (hk : k + 1 < L.length) : Fo L k := by
  have hs : sgT (gL L k) = { data := #[] } := by unfold sgT; rw [h1]; rfl
  refine ⟨by rw [h1]; decide, by rw [hs]; decide, ?_, by rw [hs]; decide⟩
  unfold ptB
  rw [h1, if_pos rfl, hdB_gL L k hk, h1, h2]
  rfl
theorem rls_list {L : List Tok} (hL : L.length ≤ 10000) : ∀ (rs : List Rl) (f k : Nat) (acc : List Rl), (∀ x ∈ rs, Vk x.2.1 ∧ dN x.2.1 ≤ 24) → rs.length < f → acc.length + rs.length ≤ 64 → AtK L k (kR rs) → k + (kR rs).length + 1 = L.length → (gL L (k + (kR rs).length)).1 = 6 →
    ∃ rs', RlL rs rs' ∧ rlsS L f k acc = .inr (acc ++ rs')
  | [], f, k, acc, _, hf, _, _, _, h6 => by
    obtain ⟨g, rfl⟩ : ∃ g, f = g + 1 := ⟨f - 1, by simp at hf; omega⟩
    have h6' : (gL L k).1 = 6 := by rw [kR] at h6; exact h6
    refine ⟨[], by rw [RlL]; trivial, ?_⟩
    rw [rlsS, if_pos h6', List.append_nil]
  | x :: r, f, k, acc, hx, hf, h64, ha, hlen, h6 => by
    obtain ⟨g, rfl⟩ : ∃ g, f = g + 1 := ⟨f - 1, by simp at hf; omega⟩
    rw [kR] at ha hlen h6
    simp only [List.length_cons, List.length_append] at hlen h6
    obtain ⟨_, b, c, _⟩ := tk_no ha.head (by show (1 : Nat) ≠ 5; decide)
    have b' : (gL L k).1 = 1 := b
    have c' : (gL L k).2.1 = x.1 := c
    obtain ⟨_, b2, _⟩ := tk_no ha.tail.head (by show (2 : Nat) ≠ 5; decide)
    have b2' : (gL L (k + 1)).1 = 2 := b2
    have hbody := ha.tail.tail.left
    have hrest := ha.tail.tail.right
    have hfo : Fo L (k + 1 + 1 + (kN x.2.1).length) := by
      cases r with
      | nil =>
        rw [kR, List.length_nil] at h6
        exact fo_end (by rw [← h6]; congr 2; omega)
      | cons y q =>
        rw [kR] at hrest hlen
        simp only [List.length_cons, List.length_append] at hlen
        obtain ⟨_, u, _⟩ := tk_no hrest.head (by show (1 : Nat) ≠ 5; decide)
        obtain ⟨_, v, _⟩ := tk_no hrest.tail.head (by show (2 : Nat) ≠ 5; decide)
        exact fo_head u v (by omega)
    obtain ⟨f1, f2, f3, f4⟩ := hfo
    obtain ⟨hv, hd⟩ := hx x (by simp)
    obtain ⟨n', e, hs⟩ := (rd_all _ x.2.1 (Nat.lt_succ_self _) hv).2.2.2.2 L 24 (k + 1 + 1) hL hbody (by omega) f1 f2 f3 f4 hd
    obtain ⟨rs', hr, e'⟩ := rls_list hL r g (k + 1 + 1 + (kN x.2.1).length) (acc ++ [(x.1, n', (gL L k).2.2.2)]) (fun y hy => hx y (by simp [hy])) (by simp at hf; omega) (by simp at h64 ⊢; omega) hrest (by omega) (by rw [← h6]; congr 2; omega)
    refine ⟨(x.1, n', (gL L k).2.2.2) :: rs', by rw [RlL]; exact ⟨⟨rfl, hs⟩, hr⟩, ?_⟩
    rw [rlsS, if_neg (by rw [b']; decide)]
    have hru : ruS L acc.length k = .inr ((x.1, n', (gL L k).2.2.2), k + 1 + 1 + (kN x.2.1).length) := by
      unfold ruS
      rw [if_neg (by rw [b']; decide), if_neg (by simp at h64; omega), if_neg (by rw [b2']; decide), show k + 2 = k + 1 + 1 from rfl, e, c']
      rfl
    rw [hru]
    simp only
    rw [e', List.append_assoc]
    rfl
theorem gra_print {L : List Tok} {rs : List Rl} (hL : L.length ≤ 10000) (hx : ∀ x ∈ rs, Vk x.2.1 ∧ dN x.2.1 ≤ 24) (h1 : 0 < rs.length) (h64 : rs.length ≤ 64) (ha : AtK L 0 (kR rs)) (hlen : (kR rs).length + 1 = L.length) (h6 : (gL L (kR rs).length).1 = 6) :
    ∃ rs', graS L = .inr rs' ∧ RlL rs rs' := by
  have hl : rs.length ≤ (kR rs).length := by
    clear hx h1 h64 ha hlen h6
    induction rs with
    | nil => exact Nat.zero_le _
    | cons x r ih => rw [kR]; simp only [List.length_cons, List.length_append]; omega
  have h0 : (gL L 0).1 ≠ 6 := by
    match rs, h1 with
    | x :: r, _ =>
      rw [kR] at ha
      obtain ⟨_, b, _⟩ := tk_no ha.head (by show (1 : Nat) ≠ 5; decide)
      rw [b]
      show (1 : Nat) ≠ 6
      decide
  obtain ⟨rs', hr, e⟩ := rls_list hL rs (L.length + 1) 0 [] hx (by omega) (by simp; omega) ha (by omega) (by rw [Nat.zero_add]; exact h6)
  refine ⟨rs', ?_, hr⟩
  rw [gra_eq h0, e]
  rfl
end Go.Proofs.YtikfnaffiehpaaaGreatDoor
namespace Go.Proofs.YtikfnaffiehpaaaGreatDoor
open Go.RowKit
set_option linter.unusedVariables false
mutual
/-- Texts and classes of a tree's nodes; Nm: what a name is. -/
def Wf (Nm : ByteArray → Prop) : Nd → Prop
  | .mk kd T C s p => (kd = 2 → T.size ≤ 255) ∧ (kd = 5 → Nm T) ∧ C < 2 ^ 256 ∧ WfL Nm s
def WfL (Nm : ByteArray → Prop) : List Nd → Prop
  | [] => True
  | n :: r => Wf Nm n ∧ WfL Nm r
end
/-- What a token is, but for its place. -/
def TokG (Nm : ByteArray → Prop) (t : Tok) : Prop := (t.1 = 1 → Nm t.2.1 ∧ t.2.2.1 = 0) ∧ (t.1 = 3 → t.2.1.size ≤ 255 ∧ t.2.2.1 = 0) ∧ (t.1 = 4 → t.2.1 = { data := #[] }) ∧ (t.1 = 5 → t.2.2.1 = 0) ∧ t.2.2.1 < 2 ^ 256
def Pq (Nm : ByteArray → Prop) (r : Pr) : Prop := ∀ n k, r = .inr (n, k) → Vk n ∧ Wf Nm n
theorem VkL.app : ∀ {a b : List Nd}, VkL a → VkL b → VkL (a ++ b)
  | [], b, _, h => h
  | n :: r, b, h1, h2 => by
    rw [VkL] at h1
    rw [List.cons_append, VkL]
    exact ⟨h1.1, VkL.app h1.2 h2⟩
theorem WfL.app {Nm : ByteArray → Prop} : ∀ {a b : List Nd}, WfL Nm a → WfL Nm b → WfL Nm (a ++ b)
  | [], b, _, h => h
  | n :: r, b, h1, h2 => by
    rw [WfL] at h1
    rw [List.cons_append, WfL]
    exact ⟨h1.1, WfL.app h1.2 h2⟩
section
variable {L : List Tok} {Nm : ByteArray → Prop}
theorem VkL_nil : VkL [] := by rw [VkL]; trivial
theorem WfL_nil : WfL Nm [] := by rw [WfL]; trivial
theorem two256 : (0 : Nat) < 2 ^ 256 := by decide
theorem wf_bare {kd p : Nat} {s : List Nd} (h2 : kd ≠ 2) (h5 : kd ≠ 5) (hs : WfL Nm s) : Wf Nm (.mk kd { data := #[] } 0 s p) := by
  rw [Wf]
  exact ⟨fun h => absurd h h2, fun h => absurd h h5, two256, hs⟩
theorem one_v (ht : ∀ k, TokG Nm (gL L k)) {inn : Nat → Pr} (hi : ∀ k, Pq Nm (inn k)) (k : Nat) : Pq Nm (oneS L inn k) := by
  intro n k' h
  obtain ⟨t1, t3, t4, t5, tc⟩ := ht k
  unfold oneS at h
  split at h
  · rename_i hc
    simp only [Sum.inr.injEq, Prod.mk.injEq] at h
    rw [← h.1]
    have := t1 hc.1
    refine ⟨?_, ?_⟩
    · rw [Vk]; exact ⟨.inr (.inr (.inr (.inr (.inl ⟨rfl, this.2, rfl⟩)))), VkL_nil⟩
    · rw [Wf]; exact ⟨fun h => by omega, fun _ => this.1, tc, WfL_nil⟩
  · split at h
    · rename_i hc
      simp only [Sum.inr.injEq, Prod.mk.injEq] at h
      rw [← h.1]
      have := t3 hc
      refine ⟨?_, ?_⟩
      · rw [Vk]; exact ⟨.inr (.inl ⟨rfl, this.2, rfl⟩), VkL_nil⟩
      · rw [Wf]; exact ⟨fun _ => this.1, fun h => by omega, tc, WfL_nil⟩
    · split at h
      · rename_i hc
        simp only [Sum.inr.injEq, Prod.mk.injEq] at h
        rw [← h.1]
        refine ⟨?_, ?_⟩
        · rw [Vk]; exact ⟨.inr (.inr (.inl ⟨rfl, t4 hc, rfl⟩)), VkL_nil⟩
        · rw [Wf]; exact ⟨fun h => by omega, fun h => by omega, tc, WfL_nil⟩
      · split at h
        · rename_i hs
          simp only [Sum.inr.injEq, Prod.mk.injEq] at h
          rw [← h.1]
          refine ⟨?_, ?_⟩
          · rw [Vk]; exact ⟨.inr (.inr (.inr (.inl ⟨rfl, rfl, t5 (sgT_five hs), rfl⟩))), VkL_nil⟩
          · rw [Wf]; exact ⟨fun h => by omega, fun h => by omega, tc, WfL_nil⟩
        · split at h
          · exact hi k n k' h
          · cases h
theorem rep_v {r : Pr} (hr : Pq Nm r) : Pq Nm (repE L r) := by
  intro n k' h
  cases r with
  | inl e => cases h
  | inr q =>
    obtain ⟨m, j⟩ := q
    have h1 := hr m j rfl
    unfold repE at h
    simp only at h
    split at h
    · simp only [Sum.inr.injEq, Prod.mk.injEq] at h
      rw [← h.1]
      exact h1
    · rename_i hs
      have hk : rpK (sgT (gL L j)) = 8 ∨ rpK (sgT (gL L j)) = 9 ∨ rpK (sgT (gL L j)) = 10 := by
        unfold rpK at hs ⊢
        split
        · exact .inl rfl
        · split
          · exact .inr (.inl rfl)
          · split
            · exact .inr (.inr rfl)
            · rename_i a b c
              rw [if_neg a, if_neg b, if_neg c] at hs
              exact absurd rfl hs
      simp only [Sum.inr.injEq, Prod.mk.injEq] at h
      rw [← h.1]
      refine ⟨?_, wf_bare (by omega) (by omega) (by rw [WfL]; exact ⟨h1.2, WfL_nil⟩)⟩
      rw [Vk]
      exact ⟨.inr (.inr (.inr (.inr (.inr (.inr ⟨by omega, by omega, rfl, rfl, rfl⟩))))), by rw [VkL]; exact ⟨h1.1, VkL_nil⟩⟩
theorem part_v (ht : ∀ k, TokG Nm (gL L k)) {inn : Nat → Pr} (hi : ∀ k, Pq Nm (inn k)) (k : Nat) : Pq Nm (partS L inn k) := by
  have ov : ∀ (kd p : Nat) (r : Pr), (kd = 11 ∨ kd = 12) → Pq Nm r → Pq Nm (ovS kd p r) := fun kd p r hk hr n k' h => by
    cases r with
    | inl e => cases h
    | inr q =>
      obtain ⟨m, j⟩ := q
      have h1 := hr m j rfl
      simp only [ovS, Sum.inr.injEq, Prod.mk.injEq] at h
      rw [← h.1]
      refine ⟨?_, wf_bare (by omega) (by omega) (by rw [WfL]; exact ⟨h1.2, WfL_nil⟩)⟩
      rw [Vk]
      exact ⟨.inr (.inr (.inr (.inr (.inr (.inr ⟨by omega, by omega, rfl, rfl, rfl⟩))))), by rw [VkL]; exact ⟨h1.1, VkL_nil⟩⟩
  unfold partS
  split
  · exact ov 12 _ _ (.inr rfl) (rep_v (one_v ht hi _))
  · split
    · exact ov 11 _ _ (.inl rfl) (rep_v (one_v ht hi _))
    · exact rep_v (one_v ht hi _)
theorem join_v {kd : Nat} (hk : kd = 6 ∨ kd = 7) : ∀ {l : List Nd}, l ≠ [] → VkL l → WfL Nm l → Vk (joinN kd l) ∧ Wf Nm (joinN kd l)
  | [], h, _, _ => absurd rfl h
  | [n], _, h1, h2 => by
    rw [VkL] at h1
    rw [WfL] at h2
    exact ⟨h1.1, h2.1⟩
  | n :: m :: r, _, h1, h2 => by
    refine ⟨?_, wf_bare (by omega) (by omega) h2⟩
    show Vk (.mk kd _ 0 (n :: m :: r) n.at')
    rw [Vk]
    exact ⟨.inr (.inr (.inr (.inr (.inr (.inl ⟨hk, rfl, rfl, by simp⟩))))), h1⟩
theorem row_v (ht : ∀ k, TokG Nm (gL L k)) {inn : Nat → Pr} (hi : ∀ k, Pq Nm (inn k)) : ∀ (f k : Nat) (acc : List Nd), VkL acc → WfL Nm acc → Pq Nm (rowS L inn f k acc)
  | 0, _, _, _, _ => fun n k' h => by rw [rowS] at h; cases h
  | f + 1, k, acc, h1, h2 => fun n k' h => by
    rw [rowS] at h
    split at h
    · split at h
      · cases h
      · rename_i m j hp
        have hm := part_v ht hi k m j hp
        exact row_v ht hi f j (acc ++ [m]) (h1.app (by rw [VkL]; exact ⟨hm.1, VkL_nil⟩)) (h2.app (by rw [WfL]; exact ⟨hm.2, WfL_nil⟩)) n k' h
    · split at h
      · simp only [Sum.inr.injEq, Prod.mk.injEq] at h
        rw [← h.1]
        refine ⟨?_, wf_bare (by decide) (by decide) WfL_nil⟩
        rw [Vk]
        exact ⟨.inl ⟨rfl, rfl, rfl, rfl⟩, VkL_nil⟩
      · rename_i hne
        simp only [Sum.inr.injEq, Prod.mk.injEq] at h
        rw [← h.1]
        exact join_v (.inl rfl) (fun e => hne (by rw [e]; rfl)) h1 h2
theorem alt_v (ht : ∀ k, TokG Nm (gL L k)) {inn : Nat → Pr} (hi : ∀ k, Pq Nm (inn k)) : ∀ (f k : Nat) (acc : List Nd), acc ≠ [] → VkL acc → WfL Nm acc → Pq Nm (altS L inn f k acc)
  | 0, _, _, _, _, _ => fun n k' h => by rw [altS] at h; cases h
  | f + 1, k, acc, hn, h1, h2 => fun n k' h => by
    rw [altS] at h
    split at h
    · split at h
      · cases h
      · rename_i m j hp
        have hm := row_v ht hi _ _ [] VkL_nil WfL_nil m j hp
        exact alt_v ht hi f j (acc ++ [m]) (by simp) (h1.app (by rw [VkL]; exact ⟨hm.1, VkL_nil⟩)) (h2.app (by rw [WfL]; exact ⟨hm.2, WfL_nil⟩)) n k' h
    · simp only [Sum.inr.injEq, Prod.mk.injEq] at h
      rw [← h.1]
      exact join_v (.inr rfl) hn h1 h2
theorem ch_v (ht : ∀ k, TokG Nm (gL L k)) {inn : Nat → Pr} (hi : ∀ k, Pq Nm (inn k)) (k : Nat) : Pq Nm (chS L inn k) := by
  intro n k' h
  unfold chS at h
  cases hr : rowS L inn L.length k [] with
  | inl e => rw [hr] at h; cases h
  | inr q =>
    obtain ⟨m, j⟩ := q
    rw [hr] at h
    have hm := row_v ht hi _ _ [] VkL_nil WfL_nil m j hr
    exact alt_v ht hi _ j [m] (by simp) (by rw [VkL]; exact ⟨hm.1, VkL_nil⟩) (by rw [WfL]; exact ⟨hm.2, WfL_nil⟩) n k' h
theorem inn_v (ht : ∀ k, TokG Nm (gL L k)) : ∀ (d k : Nat), Pq Nm (innS L d k)
  | 0, k => fun n k' h => by rw [innS] at h; cases h
  | d + 1, k => fun n k' h => by
    rw [innS] at h
    obtain ⟨j, h1, _⟩ := innE_inv h
    exact ch_v ht (inn_v ht d) (k + 1) n j h1
/-- What a rule is. -/
def Ruk (Nm : ByteArray → Prop) (x : Rl) : Prop := Nm x.1 ∧ Vk x.2.1 ∧ Wf Nm x.2.1
theorem ru_v (ht : ∀ k, TokG Nm (gL L k)) {ru k k' : Nat} {x : Rl} (h : ruS L ru k = .inr (x, k')) : Ruk Nm x := by
  obtain ⟨h1, h2⟩ := ruS_inv h
  have h3 := ch_v ht (inn_v ht 24) _ _ _ h1
  refine ⟨?_, h3.1, h3.2⟩
  unfold ruS at h
  split at h
  · cases h
  · rename_i c
    rw [h2]
    exact ((ht k).1 (by simpa using c)).1
theorem rls_v (ht : ∀ k, TokG Nm (gL L k)) : ∀ (f k : Nat) (acc rs : List Rl), rlsS L f k acc = .inr rs → (∀ x ∈ acc, Ruk Nm x) → ∀ x ∈ rs, Ruk Nm x
  | 0, _, _, _, h, _ => by rw [rlsS] at h; cases h
  | f + 1, k, acc, rs, h, ha => by
    rw [rlsS] at h
    split at h
    · simp only [Sum.inr.injEq] at h; subst h; exact ha
    · split at h
      · cases h
      · rename_i x k' hr
        refine rls_v ht f k' (acc ++ [x]) rs h (fun y hy => ?_)
        rcases List.mem_append.1 hy with hy | hy
        · exact ha y hy
        · simp at hy
          subst hy
          exact ru_v ht hr
theorem gra_v (ht : ∀ k, TokG Nm (gL L k)) {rs : List Rl} (h : graS L = .inr rs) : ∀ x ∈ rs, Ruk Nm x := by
  unfold graS at h
  cases hr : ruS L 0 0 with
  | inl c => rw [hr] at h; cases h
  | inr q =>
    obtain ⟨x, k'⟩ := q
    rw [hr] at h
    refine rls_v ht _ _ _ _ h (fun y hy => ?_)
    simp at hy
    subst hy
    exact ru_v ht hr
end
end Go.Proofs.YtikfnaffiehpaaaGreatDoor
namespace Go.Proofs.YtikfnaffiehpaaaGreatDoor
open Go.RowKit
set_option linter.unusedVariables false
def bO : ByteArray := { data := #[40] }
def bC : ByteArray := { data := #[41] }
def bSp : ByteArray := { data := #[32] }
def bSl : ByteArray := { data := #[32, 47, 32] }
def bAr : ByteArray := { data := #[32, 60, 45, 32] }
def bNl : ByteArray := { data := #[10] }
def bDot : ByteArray := { data := #[46] }
def bE : ByteArray := { data := #[] }
/-- A kind's sign. -/
def bsg (kd : Nat) : ByteArray := if kd = 11 then { data := #[38] } else if kd = 12 then { data := #[33] } else { data := #[rpS kd] }
section
variable (QT : ByteArray → ByteArray) (CT : Nat → ByteArray)
mutual
/-- The pieces of a tree's text. -/
def pN : Nd → List ByteArray
  | .mk kd T C s p => if kd = 1 then [bO, bC] else if kd = 2 then [QT T] else if kd = 3 then [CT C] else if kd = 4 then [bDot] else if kd = 5 then [T] else if kd = 6 then pS 6 bSp s else if kd = 7 then pS 7 bSl s
    else if kd = 11 ∨ kd = 12 then bsg kd :: pS kd bE s else pS kd bE s ++ [bsg kd]
def pS (over : Nat) (sep : ByteArray) : List Nd → List ByteArray
  | [] => []
  | n :: r => (if wr over n.kd = true then bO :: (pN n ++ [bC]) else pN n) ++ pB over sep r
def pB (over : Nat) (sep : ByteArray) : List Nd → List ByteArray
  | [] => []
  | n :: r => sep :: ((if wr over n.kd = true then bO :: (pN n ++ [bC]) else pN n) ++ pB over sep r)
end
def pP (over : Nat) (n : Nd) : List ByteArray := if wr over n.kd = true then bO :: (pN QT CT n ++ [bC]) else pN QT CT n
/-- The pieces of rules. -/
def pR : List Rl → List ByteArray
  | [] => []
  | x :: r => x.1 :: bAr :: (pN QT CT x.2.1 ++ (bNl :: pR r))
end
def sz : List ByteArray → Nat
  | [] => 0
  | p :: r => p.size + sz r
theorem sz_app : ∀ (a b : List ByteArray), sz (a ++ b) = sz a + sz b
  | [], b => by rw [List.nil_append, sz, Nat.zero_add]
  | p :: r, b => by rw [List.cons_append, sz, sz, sz_app r b, Nat.add_assoc]
def Pl (X : ByteArray) (a : Nat) (P : ByteArray) : Prop := a + P.size ≤ X.size ∧ ∀ i, i < P.size → bt X (a + i) = bt P i
def PlL (X : ByteArray) : Nat → List ByteArray → Prop
  | _, [] => True
  | a, p :: r => Pl X a p ∧ PlL X (a + p.size) r
theorem PlL.app {X : ByteArray} : ∀ {A B : List ByteArray} {a : Nat}, PlL X a (A ++ B) → PlL X a A ∧ PlL X (a + sz A) B
  | [], B, a, h => by
    rw [List.nil_append] at h
    exact ⟨by rw [PlL]; trivial, by rw [sz, Nat.add_zero]; exact h⟩
  | p :: r, B, a, h => by
    rw [List.cons_append, PlL] at h
    obtain ⟨h1, h2⟩ := h
    obtain ⟨h3, h4⟩ := PlL.app h2
    refine ⟨by rw [PlL]; exact ⟨h1, h3⟩, ?_⟩
    rw [sz, ← Nat.add_assoc]
    exact h4
/-- From a on these tokens are read, then one stands at b. -/
def Rds (X : ByteArray) (a b : Nat) (K : List (Nat × ByteArray × Nat)) : Prop := ∃ ts : List Tok, ts.map tk3 = K ∧ tks X (sb X a) [] = lift ts (tks X (sb X b) [])
section
variable {X : ByteArray}
theorem Rds.refl (a : Nat) : Rds X a a [] := ⟨[], rfl, (lift_nil _).symm⟩
theorem Rds.trans {a b c : Nat} {K M : List (Nat × ByteArray × Nat)} (h1 : Rds X a b K) (h2 : Rds X b c M) : Rds X a c (K ++ M) := by
  obtain ⟨t1, e1, f1⟩ := h1
  obtain ⟨t2, e2, f2⟩ := h2
  refine ⟨t1 ++ t2, by rw [List.map_append, e1, e2], ?_⟩
  rw [f1, f2, lift_lift]
theorem rds_blank {a x : Nat} (h : bt X a = some x) (hb : blB x = true) : Rds X a (a + 1) [] := by
  refine ⟨[], rfl, ?_⟩
  rw [sb_eq h, if_pos hb, lift_nil]
theorem rds_tok {a b x : Nat} {t : Tok} (h : bt X a = some x) (h1 : blB x = false) (h2 : x ≠ 35) (ht : tokAt X a x = .inr (t, b)) : Rds X a b [tk3 t] := by
  refine ⟨[t], rfl, ?_⟩
  rw [sb_at h h1 h2, tks_on h ht, tks_acc]
  rfl
theorem mk_not {x : Nat} (h : mkB x = true) : letB x = false ∧ x ≠ 39 ∧ x ≠ 34 ∧ x ≠ 91 ∧ x ≠ 60 ∧ blB x = false ∧ x ≠ 35 := by
  unfold mkB at h
  simp at h
  have : x = 47 ∨ x = 38 ∨ x = 33 ∨ x = 63 ∨ x = 42 ∨ x = 43 ∨ x = 40 ∨ x = 41 ∨ x = 46 := by omega
  rcases this with rfl | rfl | rfl | rfl | rfl | rfl | rfl | rfl | rfl <;> decide
theorem rds_sign {a : Nat} {x : UInt8} (hm : mkB x.toNat = true) (h : bt X a = some x.toNat) : Rds X a (a + 1) [sgc x] := by
  obtain ⟨n1, n2, n3, n4, n5, n6, n7⟩ := mk_not hm
  have ht : tokAt X a x.toNat = .inr ((5, nb [x.toNat], 0, a), a + 1) := by
    unfold tokAt
    rw [if_neg (by rw [n1]; decide), if_neg (by omega), if_neg n4, if_neg (by unfold arB; rw [h]; simp [n5]), if_pos hm]
  have := rds_tok h n6 n7 ht
  have e : tk3 (5, nb [x.toNat], 0, a) = sgc x := by
    unfold tk3 sgc nb
    simp
  rw [e] at this
  exact this
theorem pl_one {a : Nat} {x : UInt8} (h : Pl X a { data := #[x] }) : bt X a = some x.toNat := by
  have := h.2 0 (by show 0 < 1; decide)
  rw [Nat.add_zero] at this
  rw [this]
  rfl
theorem rds_bar {a : Nat} (h : Pl X a bSl) : Rds X a (a + 3) [sgc 47] := by
  have h0 : bt X a = some 32 := h.2 0 (by decide)
  have h1 : bt X (a + 1) = some (47 : UInt8).toNat := h.2 1 (by decide)
  have h2 : bt X (a + 1 + 1) = some 32 := h.2 2 (by decide)
  exact ((rds_blank h0 (by decide)).trans (rds_sign (x := 47) (by decide) h1)).trans (rds_blank h2 (by decide))
theorem rds_arrow {a : Nat} (h : Pl X a bAr) : Rds X a (a + 4) [(2, { data := #[] }, 0)] := by
  have h0 : bt X a = some 32 := h.2 0 (by decide)
  have h1 : bt X (a + 1) = some 60 := h.2 1 (by decide)
  have h2 : bt X (a + 1 + 1) = some 45 := h.2 2 (by decide)
  have h3 : bt X (a + 1 + 2) = some 32 := h.2 3 (by decide)
  have ht : tokAt X (a + 1) 60 = .inr ((2, { data := #[] }, 0, a + 1), a + 1 + 2) := by
    unfold tokAt
    rw [if_neg (by decide), if_neg (by decide), if_neg (by decide), if_pos (by unfold arB; rw [h1, h2]; decide)]
  exact ((rds_blank h0 (by decide)).trans (rds_tok h1 (by decide) (by decide) ht)).trans (rds_blank h3 (by decide))
/-- No byte of a name. -/
def Fol (X : ByteArray) (b : Nat) : Prop := ∀ x, bt X b = some x → (letB x || digB x) = false
theorem fol_of {b x : Nat} (h : bt X b = some x) (hx : (letB x || digB x) = false) : Fol X b := fun y hy => by
  rw [h] at hy
  cases hy
  exact hx
/-- What names, quotes and class texts are. -/
structure Pcs (Nm : ByteArray → Prop) (QT : ByteArray → ByteArray) (CT : Nat → ByteArray) : Prop where
  nm : ∀ T, Nm T → T.size ≤ 32 ∧ (∃ x, bt T 0 = some x ∧ letB x = true) ∧ ∀ i x, bt T i = some x → (letB x || digB x) = true
  qt : ∀ T X a, T.size ≤ 255 → Pl X a (QT T) → ∃ p, bt X a = some 39 ∧ tokAt X a 39 = .inr ((3, T, 0, p), a + (QT T).size)
  ct : ∀ C X a, C < 2 ^ 256 → Pl X a (CT C) → ∃ p, bt X a = some 91 ∧ tokAt X a 91 = .inr ((4, { data := #[] }, C, p), a + (CT C).size)
theorem ne_name {T : ByteArray} {a : Nat} (h : Pl X a T) (hall : ∀ i x, bt T i = some x → (letB x || digB x) = true) (hf : Fol X (a + T.size)) : ∀ f i, T.size - i = f → i ≤ T.size → ne X (a + i) = a + T.size
  | 0, i, hf', hi => by
    obtain rfl : i = T.size := by omega
    cases hb : bt X (a + T.size) with
    | none => rw [ne_none hb]
    | some x => rw [ne_eq hb, hf x hb]; rfl
  | f + 1, i, hf', hi => by
    have hb := h.2 i (by omega)
    cases hx : bt T i with
    | none => have := bt_none hx; omega
    | some x =>
      rw [hx] at hb
      rw [ne_eq hb, hall i x hx]
      simp only [if_true]
      rw [Nat.add_assoc]
      exact ne_name h hall hf f (i + 1) (by omega) (by omega)
variable {Nm : ByteArray → Prop} {QT : ByteArray → ByteArray} {CT : Nat → ByteArray}
theorem rds_name (hP : Pcs Nm QT CT) {T : ByteArray} {a : Nat} (hn : Nm T) (h : Pl X a T) (hf : Fol X (a + T.size)) : Rds X a (a + T.size) [(1, T, 0)] := by
  obtain ⟨h32, ⟨x, hx, hl⟩, hall⟩ := hP.nm T hn
  have h0 := (bt_lt hx).1
  have hb : bt X a = some x := by
    have := h.2 0 h0
    rw [Nat.add_zero] at this
    rw [this]; exact hx
  have hne : ne X a = a + T.size := ne_name h hall hf _ 0 rfl (Nat.zero_le _)
  have hnl := letB_not hl
  have he : X.extract a (a + T.size) = T := by
    apply ext_bt
    intro j
    rw [bt_ext X _ _ _ h.1]
    by_cases hj : j < T.size
    · rw [if_pos (by omega), h.2 j hj]
    · rw [if_neg (by omega), bt_ge (by omega)]
  have ht : tokAt X a x = .inr ((1, T, 0, a), a + T.size) := by
    unfold tokAt
    rw [if_pos hl, hne, if_neg (by omega), he]
  exact rds_tok hb hnl.1 hnl.2 ht
theorem rds_quote (hP : Pcs Nm QT CT) {T : ByteArray} {a : Nat} (hT : T.size ≤ 255) (h : Pl X a (QT T)) : Rds X a (a + (QT T).size) [(3, T, 0)] := by
  obtain ⟨p, hb, ht⟩ := hP.qt T X a hT h
  exact rds_tok hb (by decide) (by decide) ht
theorem rds_class (hP : Pcs Nm QT CT) {C a : Nat} (hC : C < 2 ^ 256) (h : Pl X a (CT C)) : Rds X a (a + (CT C).size) [(4, { data := #[] }, C)] := by
  obtain ⟨p, hb, ht⟩ := hP.ct C X a hC h
  exact rds_tok hb (by decide) (by decide) ht
def RN (X : ByteArray) (Nm : ByteArray → Prop) (QT : ByteArray → ByteArray) (CT : Nat → ByteArray) (n : Nd) : Prop := ∀ a, PlL X a (pN QT CT n) → Fol X (a + sz (pN QT CT n)) → Rds X a (a + sz (pN QT CT n)) (kN n)
theorem rds_part (over : Nat) {n : Nd} (hr : RN X Nm QT CT n) {a : Nat} (h : PlL X a (pP QT CT over n)) (hf : Fol X (a + sz (pP QT CT over n))) : Rds X a (a + sz (pP QT CT over n)) (kP over n) := by
  unfold pP at h hf ⊢
  unfold kP
  split
  · rename_i hw
    rw [if_pos hw] at h
    rw [PlL] at h
    obtain ⟨h1, h2⟩ := h
    obtain ⟨h3, h4⟩ := PlL.app h2
    rw [PlL] at h4
    have c0 := pl_one (x := 40) h1
    have c1 := pl_one (x := 41) h4.1
    have hin := hr (a + 1) h3 (fol_of c1 (by decide))
    have e : a + sz (bO :: (pN QT CT n ++ [bC])) = a + 1 + sz (pN QT CT n) + 1 := by
      rw [sz, sz_app, sz, sz, show bO.size = 1 from rfl, show bC.size = 1 from rfl]
      omega
    rw [e]
    have := ((rds_sign (x := 40) (by decide) c0).trans hin).trans (rds_sign (x := 41) (by decide) c1)
    rw [List.append_assoc] at this
    exact this
  · rename_i hw
    rw [if_neg hw] at h hf
    exact hr a h hf
theorem pS_cons (over : Nat) (sep : ByteArray) (n : Nd) (r : List Nd) : pS QT CT over sep (n :: r) = pP QT CT over n ++ pB QT CT over sep r := by rw [pS]; rfl
theorem pB_cons (over : Nat) (sep : ByteArray) (n : Nd) (r : List Nd) : pB QT CT over sep (n :: r) = sep :: (pP QT CT over n ++ pB QT CT over sep r) := by rw [pB]; rfl
theorem pB_nil (over : Nat) (sep : ByteArray) : pB QT CT over sep [] = [] := by rw [pB]
theorem rds_seqB : ∀ (s : List Nd), (∀ m ∈ s, RN X Nm QT CT m) → ∀ a, PlL X a (pB QT CT 6 bSp s) → Fol X (a + sz (pB QT CT 6 bSp s)) → Rds X a (a + sz (pB QT CT 6 bSp s)) (kS 6 s)
  | [], _, a, _, _ => by
    rw [pB_nil, sz, kS_nil, Nat.add_zero]
    exact Rds.refl a
  | m :: r, hm, a, h, hf => by
    rw [pB_cons] at h hf ⊢
    rw [PlL] at h
    obtain ⟨h1, h2⟩ := h
    obtain ⟨h3, h4⟩ := PlL.app h2
    have c0 := pl_one (x := 32) h1
    have e : a + sz (bSp :: (pP QT CT 6 m ++ pB QT CT 6 bSp r)) = a + 1 + sz (pP QT CT 6 m) + sz (pB QT CT 6 bSp r) := by
      rw [sz, sz_app, show bSp.size = 1 from rfl]
      omega
    rw [e] at hf ⊢
    have hfm : Fol X (a + 1 + sz (pP QT CT 6 m)) := by
      cases r with
      | nil => rw [pB_nil, sz, Nat.add_zero] at hf; exact hf
      | cons m2 r2 =>
        rw [pB_cons, PlL] at h4
        exact fol_of (pl_one (x := 32) h4.1) (by decide)
    have hp := rds_part 6 (hm m (by simp)) h3 hfm
    have hr := rds_seqB r (fun x hx => hm x (by simp [hx])) _ h4 hf
    rw [kS_cons]
    exact (rds_blank c0 (by decide)).trans (hp.trans hr)
theorem rds_altB : ∀ (s : List Nd), (∀ m ∈ s, RN X Nm QT CT m) → ∀ a, PlL X a (pB QT CT 7 bSl s) → Fol X (a + sz (pB QT CT 7 bSl s)) → Rds X a (a + sz (pB QT CT 7 bSl s)) (kB s)
  | [], _, a, _, _ => by
    rw [pB_nil, sz, kB_nil, Nat.add_zero]
    exact Rds.refl a
  | m :: r, hm, a, h, hf => by
    rw [pB_cons] at h hf ⊢
    rw [PlL] at h
    obtain ⟨h1, h2⟩ := h
    obtain ⟨h3, h4⟩ := PlL.app h2
    have e : a + sz (bSl :: (pP QT CT 7 m ++ pB QT CT 7 bSl r)) = a + 3 + sz (pP QT CT 7 m) + sz (pB QT CT 7 bSl r) := by
      rw [sz, sz_app, show bSl.size = 3 from rfl]
      omega
    rw [e] at hf ⊢
    have hfm : Fol X (a + 3 + sz (pP QT CT 7 m)) := by
      cases r with
      | nil => rw [pB_nil, sz, Nat.add_zero] at hf; exact hf
      | cons m2 r2 =>
        rw [pB_cons, PlL] at h4
        have h0 : bt X (a + 3 + sz (pP QT CT 7 m)) = some 32 := h4.1.2 0 (by decide)
        exact fol_of h0 (by decide)
    have hp := rds_part 7 (hm m (by simp)) h3 hfm
    have hr := rds_altB r (fun x hx => hm x (by simp [hx])) _ h4 hf
    rw [kB_cons]
    exact (rds_bar h1).trans (hp.trans hr)
theorem one_sub' {s : List Nd} (h : s.length = 1) : ∃ m, s = [m] := one_sub h
theorem rds_all (hP : Pcs Nm QT CT) : ∀ (N : Nat) (n : Nd), SizeOf.sizeOf n < N → Vk n → Wf Nm n → RN X Nm QT CT n
  | 0, n, h, _, _ => by omega
  | N + 1, .mk kd T C s p, hN, hv, hw => by
    rw [Vk] at hv
    rw [Wf] at hw
    obtain ⟨hv1, hvs⟩ := hv
    obtain ⟨w2, w5, wc, ws⟩ := hw
    have wmem : ∀ m ∈ s, Wf Nm m := by
      clear hN hv1 hvs
      induction s with
      | nil => intro m hm; simp at hm
      | cons a r ih =>
        rw [WfL] at ws
        intro m hm
        rcases List.mem_cons.1 hm with rfl | hm
        · exact ws.1
        · exact ih ws.2 m hm
    have ih : ∀ m ∈ s, RN X Nm QT CT m := fun m hm => by
      have h3 := List.sizeOf_lt_of_mem hm
      simp only [Nd.mk.sizeOf_spec] at hN
      exact rds_all hP N m (by omega) (hvs.mem m hm) (wmem m hm)
    intro a h hf
    rw [pN] at h hf ⊢
    rw [kN]
    by_cases h1 : kd = 1
    · rw [if_pos h1] at h ⊢
      rw [if_pos h1]
      rw [PlL, PlL] at h
      have := (rds_sign (x := 40) (by decide) (pl_one (x := 40) h.1)).trans (rds_sign (x := 41) (by decide) (pl_one (x := 41) h.2.1))
      exact this
    · rw [if_neg h1] at h hf ⊢
      rw [if_neg h1]
      by_cases h2 : kd = 2
      · rw [if_pos h2] at h ⊢
        rw [if_pos h2]
        rw [PlL] at h
        have hC : C = 0 := by
          rcases hv1 with q | q | q | q | q | q | q
          · omega
          · exact q.2.1
          · omega
          · omega
          · omega
          · omega
          · omega
        subst hC
        have := rds_quote hP (w2 h2) h.1
        rw [sz, sz, Nat.add_zero]
        exact this
      · rw [if_neg h2] at h hf ⊢
        rw [if_neg h2]
        by_cases h3 : kd = 3
        · rw [if_pos h3] at h ⊢
          rw [if_pos h3]
          rw [PlL] at h
          have hT : T = { data := #[] } := by
            rcases hv1 with q | q | q | q | q | q | q
            · omega
            · omega
            · exact q.2.1
            · omega
            · omega
            · omega
            · omega
          subst hT
          have := rds_class hP wc h.1
          rw [sz, sz, Nat.add_zero]
          exact this
        · rw [if_neg h3] at h hf ⊢
          rw [if_neg h3]
          by_cases h4 : kd = 4
          · rw [if_pos h4] at h ⊢
            rw [if_pos h4]
            rw [PlL] at h
            exact rds_sign (x := 46) (by decide) (pl_one (x := 46) h.1)
          · rw [if_neg h4] at h hf ⊢
            rw [if_neg h4]
            by_cases h5 : kd = 5
            · rw [if_pos h5] at h hf ⊢
              rw [if_pos h5]
              rw [PlL] at h
              have hC : C = 0 := by
                rcases hv1 with q | q | q | q | q | q | q
                · omega
                · omega
                · omega
                · omega
                · exact q.2.1
                · omega
                · omega
              subst hC
              rw [sz, sz, Nat.add_zero] at hf ⊢
              exact rds_name hP (w5 h5) h.1 hf
            · rw [if_neg h5] at h hf ⊢
              rw [if_neg h5]
              by_cases h6 : kd = 6
              · rw [if_pos h6] at h hf ⊢
                rw [if_pos h6]
                cases s with
                | nil => rw [pS, sz, kS_nil, Nat.add_zero]; exact Rds.refl a
                | cons m r =>
                  rw [pS_cons] at h hf ⊢
                  obtain ⟨h7, h8⟩ := PlL.app h
                  rw [sz_app, ← Nat.add_assoc] at hf ⊢
                  have hfm : Fol X (a + sz (pP QT CT 6 m)) := by
                    cases r with
                    | nil => rw [pB_nil, sz, Nat.add_zero] at hf; exact hf
                    | cons m2 r2 =>
                      rw [pB_cons, PlL] at h8
                      exact fol_of (pl_one (x := 32) h8.1) (by decide)
                  rw [kS_cons]
                  exact (rds_part 6 (ih m (by simp)) h7 hfm).trans (rds_seqB r (fun x hx => ih x (by simp [hx])) _ h8 hf)
              · rw [if_neg h6] at h hf ⊢
                rw [if_neg h6]
                by_cases h7 : kd = 7
                · rw [if_pos h7] at h hf ⊢
                  rw [if_pos h7]
                  cases s with
                  | nil => rw [pS, sz, kA, Nat.add_zero]; exact Rds.refl a
                  | cons m r =>
                    rw [pS_cons] at h hf ⊢
                    obtain ⟨h8, h9⟩ := PlL.app h
                    rw [sz_app, ← Nat.add_assoc] at hf ⊢
                    have hfm : Fol X (a + sz (pP QT CT 7 m)) := by
                      cases r with
                      | nil => rw [pB_nil, sz, Nat.add_zero] at hf; exact hf
                      | cons m2 r2 =>
                        rw [pB_cons, PlL] at h9
                        have h0 : bt X (a + sz (pP QT CT 7 m)) = some 32 := h9.1.2 0 (by decide)
                        exact fol_of h0 (by decide)
                    rw [kA_cons]
                    exact (rds_part 7 (ih m (by simp)) h8 hfm).trans (rds_altB r (fun x hx => ih x (by simp [hx])) _ h9 hf)
                · rw [if_neg h7] at h hf ⊢
                  rw [if_neg h7]
                  have h1s : s.length = 1 ∧ 8 ≤ kd ∧ kd ≤ 12 := by
                    rcases hv1 with q | q | q | q | q | q | q
                    · omega
                    · omega
                    · omega
                    · omega
                    · omega
                    · omega
                    · exact ⟨q.2.2.2.2, q.1, q.2.1⟩
                  obtain ⟨m, rfl⟩ := one_sub h1s.1
                  have hm := ih m (by simp)
                  rw [pS_cons, pB_nil, List.append_nil] at h hf ⊢
                  by_cases h11 : kd = 11 ∨ kd = 12
                  · rw [if_pos h11] at h hf ⊢
                    rw [PlL] at h
                    rcases h11 with rfl | rfl
                    · rw [if_pos rfl, kS_cons, kS_nil, List.append_nil]
                      have c0 := pl_one (x := 38) h.1
                      have e : a + sz (bsg 11 :: pP QT CT 11 m) = a + 1 + sz (pP QT CT 11 m) := by
                        rw [sz, show (bsg 11).size = 1 from rfl]; omega
                      rw [e] at hf ⊢
                      exact (rds_sign (x := 38) (by decide) c0).trans (rds_part 11 hm h.2 hf)
                    · rw [if_neg (by decide), if_pos rfl, kS_cons, kS_nil, List.append_nil]
                      have c0 := pl_one (x := 33) h.1
                      have e : a + sz (bsg 12 :: pP QT CT 12 m) = a + 1 + sz (pP QT CT 12 m) := by
                        rw [sz, show (bsg 12).size = 1 from rfl]; omega
                      rw [e] at hf ⊢
                      exact (rds_sign (x := 33) (by decide) c0).trans (rds_part 12 hm h.2 hf)
                  · rw [if_neg h11] at h hf ⊢
                    rw [if_neg (fun e => h11 (.inl e)), if_neg (fun e => h11 (.inr e)), kS_cons, kS_nil, List.append_nil]
                    obtain ⟨h8, h9⟩ := PlL.app h
                    rw [PlL] at h9
                    have hb : bsg kd = { data := #[rpS kd] } := by unfold bsg; rw [if_neg (fun e => h11 (.inl e)), if_neg (fun e => h11 (.inr e))]
                    rw [hb] at h9
                    have c0 := pl_one h9.1
                    have hmk : mkB (rpS kd).toNat = true ∧ (letB (rpS kd).toNat || digB (rpS kd).toNat) = false := by
                      unfold rpS
                      split
                      · decide
                      · split <;> decide
                    rw [sz_app, sz, sz, hb, show ({ data := #[rpS kd] } : ByteArray).size = 1 from rfl, Nat.add_zero, ← Nat.add_assoc]
                    exact (rds_part kd hm h8 (fol_of c0 hmk.2)).trans (rds_sign hmk.1 c0)
end
end Go.Proofs.YtikfnaffiehpaaaGreatDoor
namespace Go.Proofs.YtikfnaffiehpaaaGreatDoor
open Go.RowKit
set_option linter.unusedVariables false
def cat : List ByteArray → ByteArray
  | [] => { data := #[] }
  | p :: r => p ++ cat r
theorem cat_size : ∀ (ps : List ByteArray), (cat ps).size = sz ps
  | [] => rfl
  | p :: r => by rw [cat, ByteArray.size_append, cat_size r, sz]
theorem cat_app : ∀ (A B : List ByteArray), cat (A ++ B) = cat A ++ cat B
  | [], B => by
    rw [List.nil_append, cat]
    apply ext_bt
    intro j
    rw [bt_app, if_neg (by show ¬ j < 0; omega)]
    rfl
  | p :: r, B => by rw [List.cons_append, cat, cat, cat_app r B, ByteArray.append_assoc]
theorem pl_cat : ∀ (ps : List ByteArray) (A : ByteArray), PlL (A ++ cat ps) A.size ps
  | [], A => by rw [PlL]; trivial
  | p :: r, A => by
    rw [PlL]
    refine ⟨⟨?_, fun i hi => ?_⟩, ?_⟩
    · rw [ByteArray.size_append, cat, ByteArray.size_append]; omega
    · rw [bt_app, if_neg (by omega), Nat.add_sub_cancel_left, cat, bt_app, if_pos hi]
    · have := pl_cat r (A ++ p)
      rw [ByteArray.size_append] at this
      rw [cat, ← ByteArray.append_assoc]
      exact this
section
variable {Nm : ByteArray → Prop} {QT : ByteArray → ByteArray} {CT : Nat → ByteArray}
theorem rds_rules (hP : Pcs Nm QT CT) {X : ByteArray} : ∀ (rs : List Rl) (a : Nat), (∀ x ∈ rs, Ruk Nm x) → PlL X a (pR QT CT rs) → Rds X a (a + sz (pR QT CT rs)) (kR rs)
  | [], a, _, _ => by
    rw [pR, sz, kR, Nat.add_zero]
    exact Rds.refl a
  | x :: r, a, hx, h => by
    obtain ⟨hn, hv, hw⟩ := hx x (by simp)
    rw [pR] at h ⊢
    rw [PlL, PlL] at h
    obtain ⟨h1, h2, h3⟩ := h
    obtain ⟨h4, h5⟩ := PlL.app h3
    rw [PlL] at h5
    obtain ⟨h6, h7⟩ := h5
    have c0 : bt X (a + x.1.size) = some 32 := h2.2 0 (by decide)
    have c1 : bt X (a + x.1.size + bAr.size + sz (pN QT CT x.2.1)) = some 10 := h6.2 0 (by decide)
    have r1 := rds_name hP hn h1 (fol_of c0 (by decide))
    have r2 := rds_arrow h2
    have r3 := rds_all hP _ x.2.1 (Nat.lt_succ_self _) hv hw _ h4 (fol_of c1 (by decide))
    have r4 := rds_blank c1 (by decide)
    have r5 := rds_rules hP r _ (fun y hy => hx y (by simp [hy])) h7
    have e : a + sz (x.1 :: bAr :: (pN QT CT x.2.1 ++ (bNl :: pR QT CT r))) = a + x.1.size + bAr.size + sz (pN QT CT x.2.1) + bNl.size + sz (pR QT CT r) := by
      rw [sz, sz, sz_app, sz]
      omega
    rw [e, kR]
    have := r1.trans (r2.trans (r3.trans (r4.trans r5)))
    exact this
/-- A grammar's text is read as the grammar. -/
theorem print_back (hP : Pcs Nm QT CT) {rs : List Rl} (hx : ∀ x ∈ rs, Ruk Nm x ∧ dN x.2.1 ≤ 24) (h1 : 0 < rs.length) (h64 : rs.length ≤ 64) (h8 : sz (pR QT CT rs) ≤ 8192) : ∃ rs', parS (cat (pR QT CT rs)) = .inr rs' ∧ RlL rs rs' := by
  obtain ⟨X, hX⟩ : ∃ X, X = cat (pR QT CT rs) := ⟨_, rfl⟩
  have hsz : X.size = sz (pR QT CT rs) := by rw [hX, cat_size]
  have hpl : PlL X 0 (pR QT CT rs) := by
    have := pl_cat (pR QT CT rs) { data := #[] }
    have e : ({ data := #[] } : ByteArray) ++ cat (pR QT CT rs) = X := by
      rw [hX]
      apply ext_bt
      intro j
      rw [bt_app, if_neg (by show ¬ j < 0; omega)]
      rfl
    rw [e] at this
    exact this
  obtain ⟨ts, e1, e2⟩ := rds_rules hP rs 0 (fun x h => (hx x h).1) hpl
  rw [Nat.zero_add, ← hsz, sb_none (bt_ge (Nat.le_refl _)), tks_end (Nat.le_refl _)] at e2
  simp only [lift, List.append_nil] at e2
  have ht : tkS X = .inr (ts ++ [(6, { data := #[] }, 0, X.size)]) := by
    unfold tkS
    rw [e2]
    rfl
  have hlen : ts.length = (kR rs).length := by
    have := congrArg List.length e1
    simpa using this
  have hgood := tkS_good ht (by omega)
  rw [← hX]
  unfold parS
  rw [ht]
  refine gra_print hgood.1.len (fun x h => ⟨(hx x h).1.2.1, (hx x h).2⟩) h1 h64 (fun i c hi => ?_) (by simp; omega) ?_
  · have hi2 : i < ts.length := by
      rcases Nat.lt_or_ge i ts.length with h | h
      · exact h
      · rw [List.getElem?_eq_none (by omega)] at hi; cases hi
    rw [Nat.zero_add, gL_left hi2]
    rw [← e1, List.getElem?_map, List.getElem?_eq_getElem hi2] at hi
    simpa using hi
  · rw [← hlen, gL_right (Nat.le_refl _), Nat.sub_self]
    rfl
mutual
theorem dN_sm : ∀ {n m : Nd}, Sm n m → dN m = dN n ∧ m.kd = n.kd
  | .mk kd T C s p, .mk kd' T' C' s' p', h => by
    rw [Sm] at h
    obtain ⟨rfl, rfl, rfl, h2, h3⟩ := h
    have b := fun over => dS_sm over h2
    refine ⟨?_, rfl⟩
    rw [dN, dN]
    simp only [b]
theorem dS_sm : ∀ (over : Nat) {s t : List Nd}, SmL s t → dS over t = dS over s
  | over, [], [], h => rfl
  | over, [], _ :: _, h => by simp [SmL] at h
  | over, _ :: _, [], h => by simp [SmL] at h
  | over, a :: r, b :: q, h => by
    rw [SmL] at h
    have e := dN_sm h.1
    have e' := dS_sm over h.2
    rw [dS, dS, e.1, e.2, e']
end
mutual
theorem pN_sm : ∀ {n m : Nd}, Sm n m → pN QT CT m = pN QT CT n
  | .mk kd T C s p, .mk kd' T' C' s' p', h => by
    rw [Sm] at h
    obtain ⟨rfl, rfl, rfl, h2, h3⟩ := h
    have a := fun over sep => pS_sm over sep h2
    rw [pN, pN]
    simp only [a]
theorem pS_sm : ∀ (over : Nat) (sep : ByteArray) {s t : List Nd}, SmL s t → pS QT CT over sep t = pS QT CT over sep s
  | over, sep, [], [], h => rfl
  | over, sep, [], _ :: _, h => by simp [SmL] at h
  | over, sep, _ :: _, [], h => by simp [SmL] at h
  | over, sep, a :: r, b :: q, h => by
    rw [SmL] at h
    have e1 := pN_sm h.1
    have e2 := pB_sm over sep h.2
    rw [pS, pS, e1, (dN_sm h.1).2, e2]
theorem pB_sm : ∀ (over : Nat) (sep : ByteArray) {s t : List Nd}, SmL s t → pB QT CT over sep t = pB QT CT over sep s
  | over, sep, [], [], h => rfl
  | over, sep, [], _ :: _, h => by simp [SmL] at h
  | over, sep, _ :: _, [], h => by simp [SmL] at h
  | over, sep, a :: r, b :: q, h => by
    rw [SmL] at h
    have e1 := pN_sm h.1
    have e2 := pB_sm over sep h.2
    rw [pB, pB, e1, (dN_sm h.1).2, e2]
end
theorem pR_sm : ∀ {s t : List Rl}, RlL s t → pR QT CT t = pR QT CT s
  | [], [], _ => rfl
  | [], _ :: _, h => by simp [RlL] at h
  | _ :: _, [], h => by simp [RlL] at h
  | a :: r, b :: q, h => by
    rw [RlL] at h
    rw [pR, pR, h.1.1, pN_sm h.1.2, pR_sm h.2]
/-- Parentheses open, and the most that were open at once. -/
def cnt : List ByteArray → Nat × Nat → Nat × Nat
  | [], st => st
  | p :: r, st => cnt r (if p = bO then (st.1 + 1, max st.2 (st.1 + 1)) else if p = bC then (st.1 - 1, st.2) else st)
theorem cnt_app : ∀ (A B : List ByteArray) (st : Nat × Nat), cnt (A ++ B) st = cnt B (cnt A st)
  | [], B, st => rfl
  | p :: r, B, st => by rw [List.cons_append, cnt, cnt, cnt_app r B]
theorem cnt_other {p : ByteArray} (h1 : p ≠ bO) (h2 : p ≠ bC) (r : List ByteArray) (st : Nat × Nat) : cnt (p :: r) st = cnt r st := by rw [cnt, if_neg h1, if_neg h2]
theorem first_ne {p q : ByteArray} {x y : Nat} (h1 : bt p 0 = some x) (h2 : bt q 0 = some y) (h : x ≠ y) : p ≠ q := fun e => by
  rw [e, h2] at h1
  cases h1
  exact h rfl
theorem bC_bO : bC ≠ bO := first_ne (x := 41) (y := 40) rfl rfl (by decide)
def CN (QT : ByteArray → ByteArray) (CT : Nat → ByteArray) (n : Nd) : Prop := ∀ o m, o ≤ m → cnt (pN QT CT n) (o, m) = (o, max m (o + dN n))
theorem cnt_part (over : Nat) {n : Nd} (h : CN QT CT n) (o m : Nat) (hm : o ≤ m) : cnt (pP QT CT over n) (o, m) = (o, max m (o + dP over n)) := by
  unfold pP dP
  split
  · rw [cnt, if_pos rfl, cnt_app, h _ _ (by show o + 1 ≤ max m (o + 1); omega), cnt, if_neg bC_bO, if_pos rfl, cnt]
    simp only
    congr 1
    omega
  · exact h o m hm
theorem cnt_list (over : Nat) (sep : ByteArray) (h1 : sep ≠ bO) (h2 : sep ≠ bC) : ∀ (s : List Nd), (∀ m ∈ s, CN QT CT m) → ∀ o m, o ≤ m → cnt (pB QT CT over sep s) (o, m) = (o, max m (o + dS over s))
  | [], _, o, m, hm => by
    rw [pB_nil, cnt, dS]
    congr 1
    omega
  | n :: r, hn, o, m, hm => by
    rw [pB_cons, cnt_other h1 h2, cnt_app, cnt_part over (hn n (by simp)) o m hm, cnt_list over sep h1 h2 r (fun x hx => hn x (by simp [hx])) _ _ (by omega), dS_cons]
    congr 1
    omega
theorem cnt_first (over : Nat) (sep : ByteArray) (h1 : sep ≠ bO) (h2 : sep ≠ bC) : ∀ (s : List Nd), (∀ m ∈ s, CN QT CT m) → ∀ o m, o ≤ m → cnt (pS QT CT over sep s) (o, m) = (o, max m (o + dS over s))
  | [], _, o, m, hm => by
    rw [pS, cnt, dS]
    congr 1
    omega
  | n :: r, hn, o, m, hm => by
    rw [pS_cons, cnt_app, cnt_part over (hn n (by simp)) o m hm, cnt_list over sep h1 h2 r (fun x hx => hn x (by simp [hx])) _ _ (by omega), dS_cons]
    congr 1
    omega
theorem bsg_ne (kd : Nat) : bsg kd ≠ bO ∧ bsg kd ≠ bC := by
  unfold bsg rpS
  split
  · exact ⟨first_ne (x := 38) (y := 40) rfl rfl (by decide), first_ne (x := 38) (y := 41) rfl rfl (by decide)⟩
  · split
    · exact ⟨first_ne (x := 33) (y := 40) rfl rfl (by decide), first_ne (x := 33) (y := 41) rfl rfl (by decide)⟩
    · split
      · exact ⟨first_ne (x := 63) (y := 40) rfl rfl (by decide), first_ne (x := 63) (y := 41) rfl rfl (by decide)⟩
      · split
        · exact ⟨first_ne (x := 42) (y := 40) rfl rfl (by decide), first_ne (x := 42) (y := 41) rfl rfl (by decide)⟩
        · exact ⟨first_ne (x := 43) (y := 40) rfl rfl (by decide), first_ne (x := 43) (y := 41) rfl rfl (by decide)⟩
theorem bE_ne : bE ≠ bO ∧ bE ≠ bC := ⟨fun e => by have := congrArg ByteArray.size e; simp [bE, bO, ByteArray.size] at this, fun e => by have := congrArg ByteArray.size e; simp [bE, bC, ByteArray.size] at this⟩
theorem bSp_ne : bSp ≠ bO ∧ bSp ≠ bC := ⟨first_ne (x := 32) (y := 40) rfl rfl (by decide), first_ne (x := 32) (y := 41) rfl rfl (by decide)⟩
theorem bSl_ne : bSl ≠ bO ∧ bSl ≠ bC := ⟨first_ne (x := 32) (y := 40) rfl rfl (by decide), first_ne (x := 32) (y := 41) rfl rfl (by decide)⟩
theorem pl_self (P : ByteArray) : Pl P 0 P := ⟨by omega, fun i _ => by rw [Nat.zero_add]⟩
theorem nm_ne (hP : Pcs Nm QT CT) {T : ByteArray} (h : Nm T) : T ≠ bO ∧ T ≠ bC := by
  obtain ⟨_, ⟨x, hx, hl⟩, _⟩ := hP.nm T h
  have : x ≠ 40 ∧ x ≠ 41 := by
    unfold letB at hl
    simp at hl
    omega
  exact ⟨first_ne hx (y := 40) rfl this.1, first_ne hx (y := 41) rfl this.2⟩
theorem cnt_all (hP : Pcs Nm QT CT) : ∀ (N : Nat) (n : Nd), SizeOf.sizeOf n < N → Vk n → Wf Nm n → CN QT CT n
  | 0, n, h, _, _ => by omega
  | N + 1, .mk kd T C s p, hN, hv, hw => by
    have hkd := hv.kd
    rw [Vk] at hv
    rw [Wf] at hw
    obtain ⟨hv1, hvs⟩ := hv
    obtain ⟨w2, w5, wc, ws⟩ := hw
    have wmem : ∀ m ∈ s, Wf Nm m := by
      clear hN hv1 hvs hkd
      induction s with
      | nil => intro m hm; simp at hm
      | cons a r ih =>
        rw [WfL] at ws
        intro m hm
        rcases List.mem_cons.1 hm with rfl | hm
        · exact ws.1
        · exact ih ws.2 m hm
    have ih : ∀ m ∈ s, CN QT CT m := fun m hm => by
      have h3 := List.sizeOf_lt_of_mem hm
      simp only [Nd.mk.sizeOf_spec] at hN
      exact cnt_all hP N m (by omega) (hvs.mem m hm) (wmem m hm)
    intro o m hm
    have hk1 : 1 ≤ kd := hkd.1
    have hs0 : kd ≤ 5 → s = [] := fun h5 => by
      rcases hv1 with q | q | q | q | q | q | q
      · exact q.2.2.2
      · exact q.2.2
      · exact q.2.2
      · exact q.2.2.2
      · exact q.2.2
      · omega
      · omega
    rw [pN, dN]
    by_cases h1 : kd = 1
    · rw [if_pos h1, if_pos h1, cnt, if_pos rfl, cnt, if_neg bC_bO, if_pos rfl, cnt]
      simp only
      congr 1
    · rw [if_neg h1, if_neg h1]
      have lf : ∀ (P : ByteArray), kd ≤ 5 → P ≠ bO → P ≠ bC → cnt [P] (o, m) = (o, max m (o + dS kd s)) := fun P h5 a b => by
        rw [hs0 h5, dS, cnt_other a b, cnt]
        congr 1
        omega
      by_cases h2 : kd = 2
      · rw [if_pos h2]
        obtain ⟨p, hb, _⟩ := hP.qt T (QT T) 0 (w2 h2) (pl_self _)
        exact lf _ (by omega) (first_ne hb (y := 40) rfl (by decide)) (first_ne hb (y := 41) rfl (by decide))
      · rw [if_neg h2]
        by_cases h3 : kd = 3
        · rw [if_pos h3]
          obtain ⟨p, hb, _⟩ := hP.ct C (CT C) 0 wc (pl_self _)
          exact lf _ (by omega) (first_ne hb (y := 40) rfl (by decide)) (first_ne hb (y := 41) rfl (by decide))
        · rw [if_neg h3]
          by_cases h4 : kd = 4
          · rw [if_pos h4]
            exact lf _ (by omega) (first_ne (x := 46) (y := 40) rfl rfl (by decide)) (first_ne (x := 46) (y := 41) rfl rfl (by decide))
          · rw [if_neg h4]
            by_cases h5 : kd = 5
            · rw [if_pos h5]
              have := nm_ne hP (w5 h5)
              exact lf _ (by omega) this.1 this.2
            · rw [if_neg h5]
              by_cases h6 : kd = 6
              · rw [if_pos h6, h6]
                exact cnt_first 6 bSp bSp_ne.1 bSp_ne.2 s ih o m hm
              · rw [if_neg h6]
                by_cases h7 : kd = 7
                · rw [if_pos h7, h7]
                  exact cnt_first 7 bSl bSl_ne.1 bSl_ne.2 s ih o m hm
                · rw [if_neg h7]
                  split
                  · rw [cnt_other (bsg_ne kd).1 (bsg_ne kd).2]
                    exact cnt_first kd bE bE_ne.1 bE_ne.2 s ih o m hm
                  · rw [cnt_app, cnt_first kd bE bE_ne.1 bE_ne.2 s ih o m hm, cnt_other (bsg_ne kd).1 (bsg_ne kd).2, cnt]
/-- The most that are open at once in a grammar's text. -/
def dR : List Rl → Nat
  | [] => 0
  | x :: r => max (dN x.2.1) (dR r)
theorem cnt_rules (hP : Pcs Nm QT CT) : ∀ (rs : List Rl), (∀ x ∈ rs, Ruk Nm x) → ∀ m, cnt (pR QT CT rs) (0, m) = (0, max m (dR rs))
  | [], _, m => by
    rw [pR, cnt, dR]
    congr 1
    omega
  | x :: r, hx, m => by
    obtain ⟨hn, hv, hw⟩ := hx x (by simp)
    have a := nm_ne hP hn
    rw [pR, cnt_other a.1 a.2, cnt_other (first_ne (x := 32) (y := 40) rfl rfl (by decide)) (first_ne (x := 32) (y := 41) rfl rfl (by decide)), cnt_app, cnt_all hP _ x.2.1 (Nat.lt_succ_self _) hv hw 0 m (Nat.zero_le _),
      cnt_other (first_ne (x := 10) (y := 40) rfl rfl (by decide)) (first_ne (x := 10) (y := 41) rfl rfl (by decide)), cnt_rules hP r (fun y hy => hx y (by simp [hy])), dR]
    congr 1
    omega
theorem dR_le {rs : List Rl} {d : Nat} : dR rs ≤ d ↔ ∀ x ∈ rs, dN x.2.1 ≤ d := by
  induction rs with
  | nil => simp [dR]
  | cons x r ih =>
    rw [dR]
    constructor
    · intro h y hy
      rcases List.mem_cons.1 hy with rfl | hy
      · omega
      · exact ih.1 (by omega) y hy
    · intro h
      have h1 := h x (by simp)
      have h2 := ih.2 (fun y hy => h y (by simp [hy]))
      omega
end
end Go.Proofs.YtikfnaffiehpaaaGreatDoor
namespace Go.Proofs.YtikfnaffiehpaaaGreatDoor
open Go.RowKit
set_option linter.unusedVariables false
mutual
/-- Is no Empty within? -/
def eN : Nd → Bool
  | .mk kd T C s p => decide (kd = 1) || eL s
def eL : List Nd → Bool
  | [] => false
  | n :: r => eN n || eL r
end
theorem eL_app : ∀ (a b : List Nd), eL (a ++ b) = (eL a || eL b)
  | [], b => by rw [List.nil_append, eL, Bool.false_or]
  | n :: r, b => by rw [List.cons_append, eL, eL, eL_app r b, Bool.or_assoc]
theorem dS_app (over : Nat) : ∀ (a b : List Nd), dS over (a ++ b) = max (dS over a) (dS over b)
  | [], b => by rw [List.nil_append, dS, Nat.zero_max]
  | n :: r, b => by rw [List.cons_append, dS_cons, dS_cons, dS_app over r b, Nat.max_assoc]
theorem dP_le (over : Nat) (n : Nd) : dN n ≤ dP over n ∧ dP over n ≤ dN n + 1 := by
  unfold dP
  split <;> omega
theorem dP_11_8 (n : Nd) : dP 11 n ≤ dP 8 n := by
  unfold dP
  rw [wr11, wr8]
  by_cases h : n.kd = 6 ∨ n.kd = 7 ∨ n.kd = 11 ∨ n.kd = 12
  · rw [decide_eq_true h, decide_eq_true (show 6 ≤ n.kd by omega)]
    exact Nat.le_refl _
  · rw [decide_eq_false h]
    simp only [Bool.false_eq_true, if_false]
    split <;> omega
theorem dP_6_11 (n : Nd) : dP 6 n ≤ dP 11 n := by
  unfold dP
  rw [wr11, wr6]
  by_cases h : n.kd = 6 ∨ n.kd = 7
  · rw [decide_eq_true h, decide_eq_true (show n.kd = 6 ∨ n.kd = 7 ∨ n.kd = 11 ∨ n.kd = 12 by omega)]
    exact Nat.le_refl _
  · rw [decide_eq_false h]
    simp only [Bool.false_eq_true, if_false]
    split <;> omega
theorem dP_7_6 (n : Nd) : dP 7 n ≤ dP 6 n := by
  unfold dP
  rw [wr7, wr6]
  by_cases h : n.kd = 7
  · rw [decide_eq_true h, decide_eq_true (show n.kd = 6 ∨ n.kd = 7 from .inr h)]
    exact Nat.le_refl _
  · rw [decide_eq_false h]
    simp only [Bool.false_eq_true, if_false]
    split <;> omega
def Dq (g : Nd → Nat) (d : Nat) (r : Pr) : Prop := ∀ n k, r = .inr (n, k) → eN n = false → g n ≤ d
section
variable {L : List Tok}
theorem leaf_d {kd : Nat} {T : ByteArray} {C p : Nat} (h : kd = 2 ∨ kd = 3 ∨ kd = 4 ∨ kd = 5) (d : Nat) : dP 8 (.mk kd T C [] p) ≤ d := by
  unfold dP
  rw [wr8]
  show (if decide (6 ≤ kd) = true then _ else _) ≤ d
  rw [decide_eq_false (by omega)]
  simp only [Bool.false_eq_true, if_false]
  rw [dN, if_neg (by omega), dS]
  exact Nat.zero_le _
theorem one_d {inn : Nat → Pr} {d : Nat} (hi : ∀ k, Dq (dP 8) d (inn k)) (k : Nat) : Dq (dP 8) d (oneS L inn k) := by
  intro n k' h he
  unfold oneS at h
  split at h
  · simp only [Sum.inr.injEq, Prod.mk.injEq] at h
    rw [← h.1]; exact leaf_d (by omega) d
  · split at h
    · simp only [Sum.inr.injEq, Prod.mk.injEq] at h
      rw [← h.1]; exact leaf_d (by omega) d
    · split at h
      · simp only [Sum.inr.injEq, Prod.mk.injEq] at h
        rw [← h.1]; exact leaf_d (by omega) d
      · split at h
        · simp only [Sum.inr.injEq, Prod.mk.injEq] at h
          rw [← h.1]; exact leaf_d (by omega) d
        · split at h
          · exact hi k n k' h he
          · cases h
theorem rpK_kd {T : ByteArray} (h : rpK T ≠ 0) : rpK T = 8 ∨ rpK T = 9 ∨ rpK T = 10 := by
  unfold rpK at h ⊢
  split
  · exact .inl rfl
  · split
    · exact .inr (.inl rfl)
    · split
      · exact .inr (.inr rfl)
      · rename_i h1 h2 h3
        rw [if_neg h1, if_neg h2, if_neg h3] at h
        exact absurd rfl h
theorem eN_one {kd : Nat} {T : ByteArray} {C p : Nat} {m : Nd} (h : eN (.mk kd T C [m] p) = false) : eN m = false := by
  rw [eN, eL, eL] at h
  simp at h
  exact h.2
theorem rep_d {d : Nat} {r : Pr} (hr : Dq (dP 8) d r) : Dq (dP 11) d (repE L r) := by
  intro n k' h he
  cases r with
  | inl e => cases h
  | inr q =>
    obtain ⟨m, j⟩ := q
    unfold repE at h
    simp only at h
    split at h
    · simp only [Sum.inr.injEq, Prod.mk.injEq] at h
      obtain ⟨rfl, rfl⟩ := h
      have := hr m j rfl he
      have := dP_11_8 m
      omega
    · rename_i hs
      have hk := rpK_kd hs
      simp only [Sum.inr.injEq, Prod.mk.injEq] at h
      obtain ⟨rfl, _⟩ := h
      have h1 := hr m j rfl (eN_one he)
      unfold dP
      rw [wr11]
      show (if decide (rpK (sgT (gL L j)) = 6 ∨ rpK (sgT (gL L j)) = 7 ∨ rpK (sgT (gL L j)) = 11 ∨ rpK (sgT (gL L j)) = 12) = true then _ else _) ≤ d
      rw [decide_eq_false (by omega)]
      simp only [Bool.false_eq_true, if_false]
      rw [(kN_rep hk).2]
      exact h1
theorem part_d {inn : Nat → Pr} {d : Nat} (hi : ∀ k, Dq (dP 8) d (inn k)) (k : Nat) : Dq (dP 6) d (partS L inn k) := by
  have ov : ∀ (kd p : Nat) (r : Pr), (kd = 11 ∨ kd = 12) → Dq (dP 11) d r → Dq (dP 6) d (ovS kd p r) := fun kd p r hk hr n k' h he => by
    cases r with
    | inl e => cases h
    | inr q =>
      obtain ⟨m, j⟩ := q
      simp only [ovS, Sum.inr.injEq, Prod.mk.injEq] at h
      obtain ⟨rfl, _⟩ := h
      have h1 := hr m j rfl (eN_one he)
      unfold dP
      rw [wr6]
      show (if decide (kd = 6 ∨ kd = 7) = true then _ else _) ≤ d
      rw [decide_eq_false (by omega)]
      simp only [Bool.false_eq_true, if_false]
      rw [(kN_and hk).2]
      exact h1
  unfold partS
  split
  · exact ov 12 _ _ (.inr rfl) (rep_d (one_d hi _))
  · split
    · exact ov 11 _ _ (.inl rfl) (rep_d (one_d hi _))
    · intro n k' h he
      have h1 := rep_d (one_d hi _) n k' h he
      have := dP_6_11 n
      omega
theorem eN_join {kd : Nat} : ∀ {l : List Nd}, l ≠ [] → kd ≠ 1 → eN (joinN kd l) = eL l
  | [], h, _ => absurd rfl h
  | [n], _, _ => by rw [joinN, eL, eL, Bool.or_false]
  | n :: m :: r, _, h => by
    show eN (.mk kd _ 0 (n :: m :: r) n.at') = _
    rw [eN, decide_eq_false h, Bool.false_or]
theorem row_d {inn : Nat → Pr} {d : Nat} (hi : ∀ k, Dq (dP 8) d (inn k)) : ∀ (f k : Nat) (acc : List Nd), (eL acc = false → dS 6 acc ≤ d) → Dq (dP 7) d (rowS L inn f k acc)
  | 0, _, _, _ => fun n k' h _ => by rw [rowS] at h; cases h
  | f + 1, k, acc, ha => fun n k' h he => by
    rw [rowS] at h
    split at h
    · split at h
      · cases h
      · rename_i m j hp
        refine row_d hi f j (acc ++ [m]) (fun hel => ?_) n k' h he
        rw [eL_app, eL, eL, Bool.or_false] at hel
        simp at hel
        have h1 := ha hel.1
        have h2 := part_d hi k m j hp hel.2
        rw [dS_app, dS_cons, dS]
        omega
    · split at h
      · simp only [Sum.inr.injEq, Prod.mk.injEq] at h
        rw [← h.1, eN] at he
        simp at he
      · rename_i hne
        simp only [Sum.inr.injEq, Prod.mk.injEq] at h
        obtain ⟨rfl, _⟩ := h
        have hn : acc ≠ [] := fun e => hne (by rw [e]; rfl)
        rw [eN_join hn (by decide)] at he
        have h1 := ha he
        match acc, hn with
        | [n], _ =>
          rw [dS_cons, dS] at h1
          have := dP_7_6 n
          show dP 7 n ≤ d
          omega
        | n :: m :: r, _ =>
          show dP 7 (.mk 6 _ 0 (n :: m :: r) n.at') ≤ d
          rw [(kP_7 (n := .mk 6 _ 0 (n :: m :: r) n.at') (by show (6 : Nat) ≠ 7; decide)).2, dN, if_neg (by decide)]
          exact h1
theorem alt_d {inn : Nat → Pr} {d : Nat} (hi : ∀ k, Dq (dP 8) d (inn k)) : ∀ (f k : Nat) (acc : List Nd), acc ≠ [] → (eL acc = false → dS 7 acc ≤ d) → Dq dN d (altS L inn f k acc)
  | 0, _, _, _, _ => fun n k' h _ => by rw [altS] at h; cases h
  | f + 1, k, acc, hn, ha => fun n k' h he => by
    rw [altS] at h
    split at h
    · split at h
      · cases h
      · rename_i m j hp
        refine alt_d hi f j (acc ++ [m]) (by simp) (fun hel => ?_) n k' h he
        rw [eL_app, eL, eL, Bool.or_false] at hel
        simp at hel
        have h1 := ha hel.1
        have h2 := row_d hi _ _ [] (fun _ => by rw [dS]; exact Nat.zero_le _) m j hp hel.2
        rw [dS_app, dS_cons, dS]
        omega
    · simp only [Sum.inr.injEq, Prod.mk.injEq] at h
      obtain ⟨rfl, _⟩ := h
      rw [eN_join hn (by decide)] at he
      have h1 := ha he
      match acc, hn with
      | [n], _ =>
        rw [dS_cons, dS] at h1
        have := (dP_le 7 n).1
        show dN n ≤ d
        omega
      | n :: m :: r, _ =>
        show dN (.mk 7 _ 0 (n :: m :: r) n.at') ≤ d
        rw [dN, if_neg (by decide)]
        exact h1
theorem ch_d {inn : Nat → Pr} {d : Nat} (hi : ∀ k, Dq (dP 8) d (inn k)) (k : Nat) : Dq dN d (chS L inn k) := by
  intro n k' h he
  unfold chS at h
  cases hr : rowS L inn L.length k [] with
  | inl e => rw [hr] at h; cases h
  | inr q =>
    obtain ⟨m, j⟩ := q
    rw [hr] at h
    refine alt_d hi _ j [m] (by simp) (fun hel => ?_) n k' h he
    rw [eL, eL, Bool.or_false] at hel
    have h1 := row_d hi _ _ [] (fun _ => by rw [dS]; exact Nat.zero_le _) m j hr hel
    rw [dS_cons, dS]
    omega
theorem inn_d : ∀ (d k : Nat), Dq (dP 8) d (innS L d k)
  | 0, k => fun n k' h _ => by rw [innS] at h; cases h
  | d + 1, k => fun n k' h he => by
    rw [innS] at h
    obtain ⟨j, h1, _⟩ := innE_inv h
    have := ch_d (inn_d d) (k + 1) n j h1 he
    have := (dP_le 8 n).2
    omega
/-- A rule's body without an Empty. -/
theorem ru_d {ru k k' : Nat} {x : Rl} (h : ruS L ru k = .inr (x, k')) (he : eN x.2.1 = false) : dN x.2.1 ≤ 24 :=
  ch_d (inn_d 24) (k + 2) _ _ (ruS_inv h).1 he
theorem rls_d : ∀ (f k : Nat) (acc rs : List Rl), rlsS L f k acc = .inr rs → (∀ x ∈ acc, eN x.2.1 = false → dN x.2.1 ≤ 24) → ∀ x ∈ rs, eN x.2.1 = false → dN x.2.1 ≤ 24
  | 0, _, _, _, h, _ => by rw [rlsS] at h; cases h
  | f + 1, k, acc, rs, h, ha => by
    rw [rlsS] at h
    split at h
    · simp only [Sum.inr.injEq] at h; subst h; exact ha
    · split at h
      · cases h
      · rename_i x k' hr
        refine rls_d f k' (acc ++ [x]) rs h (fun y hy hey => ?_)
        rcases List.mem_append.1 hy with hy | hy
        · exact ha y hy hey
        · simp at hy
          subst hy
          exact ru_d hr hey
theorem gra_d {rs : List Rl} (h : graS L = .inr rs) : ∀ x ∈ rs, eN x.2.1 = false → dN x.2.1 ≤ 24 := by
  unfold graS at h
  cases hr : ruS L 0 0 with
  | inl c => rw [hr] at h; cases h
  | inr q =>
    obtain ⟨x, k'⟩ := q
    rw [hr] at h
    refine rls_d _ _ _ _ h (fun y hy hey => ?_)
    simp at hy
    subst hy
    exact ru_d hr hey
end
end Go.Proofs.YtikfnaffiehpaaaGreatDoor
