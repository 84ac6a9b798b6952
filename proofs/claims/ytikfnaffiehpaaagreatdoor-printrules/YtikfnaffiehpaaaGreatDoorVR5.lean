/-
  What printer.yieldNode answers at any tree that may be printed. Conditions: those that each theorem names.
-/
import Derived.Test.YtikfnaffiehpaaaGreatDoorVR4
namespace Go.Proofs.YtikfnaffiehpaaaGreatDoor
open Go.RowKit Go.Shelf
set_option linter.unusedVariables false
/-- A quote, a class's text. -/
abbrev qT : ByteArray → ByteArray := fun T => nb (qt T)
abbrev cT : Nat → ByteArray := fun C => nb (txt C)
abbrev Nmq : ByteArray → Prop := fun T => nmS T = true
theorem qt_size {T : ByteArray} (h : T.size ≤ 255) : (nb (qt T)).size ≤ 4096 := by
  rw [nb_size]
  unfold qt
  have := (qp_len T T.size).1
  rw [List.length_append]
  show _ + 1 ≤ _
  omega
theorem txt_size (C : Nat) : (nb (txt C)).size ≤ 4096 := by
  rw [nb_size]
  have h1 := body_len (rs C 256).reverse
  have h2 := rs_len C 256
  unfold txt
  simp at h1 ⊢
  omega
theorem nm_size {T : ByteArray} (h : nmS T = true) : T.size ≤ 4096 := by
  have := (pcs_ok.nm T h).1
  omega
theorem sm_sub {s : List Nd} (h : SmL s s) : ∀ m ∈ s, Sm m m := by
  induction s with
  | nil => intro m hm; simp at hm
  | cons a r ih =>
    rw [SmL] at h
    intro m hm
    rcases List.mem_cons.1 hm with rfl | hm
    · exact h.1
    · exact ih h.2 m hm
section
variable {s0 l N : Nat} {J Jx : List ByteArray → World → Prop}
theorem ynode_all (hY : Yl s0 l N J Jx) : ∀ (M : Nat) (n : Nd), SizeOf.sizeOf n < M → Vk n → Wf Nmq n → YN s0 l N J Jx qT cT n
  | 0, n, h, _, _ => by omega
  | M + 1, .mk kd T C s pn, hM, hv, hw => by
    have hv0 := hv
    have hkd := hv.kd
    rw [Vk] at hv
    rw [Wf] at hw
    obtain ⟨hv1, hvs⟩ := hv
    obtain ⟨w2, w5, wc, ws⟩ := hw
    have wmem : ∀ m ∈ s, Wf Nmq m := by
      clear hM hv1 hvs hkd hv0
      induction s with
      | nil => intro m hm; simp at hm
      | cons a r ih =>
        rw [WfL] at ws
        intro m hm
        rcases List.mem_cons.1 hm with rfl | hm
        · exact ws.1
        · exact ih ws.2 m hm
    have ih : ∀ m ∈ s, YN s0 l N J Jx qT cT m ∧ 1 ≤ m.kd ∧ m.kd ≤ 12 := fun m hm => by
      have h3 := List.sizeOf_lt_of_mem hm
      simp only [Nd.mk.sizeOf_spec] at hM
      exact ⟨ynode_all hY M m (by omega) (hvs.mem m hm) (wmem m hm), (hvs.mem m hm).kd⟩
    have hse : 6 ≤ kd → s.isEmpty = false := fun h6 => by
      have : 0 < s.length := by
        rcases hv1 with q | q | q | q | q | q | q <;> omega
      cases s with
      | nil => simp at this
      | cons _ _ => rfl
    have hs1 : 8 ≤ kd → s.length = 1 := fun h8 => by
      rcases hv1 with q | q | q | q | q | q | q <;> omega
    intro m cs pre W hn hT hJ hl
    have hk1 : 1 ≤ kd := hkd.1
    have hk2 : kd ≤ 12 := hkd.2
    have hn0 := hn
    obtain ⟨so, sl, sc, p, rfl⟩ := nd_cells hn
    have hpar : ∀ (sep : ByteArray), sep.size ≤ 4096 → 6 ≤ kd → ∀ (pre' : List ByteArray), pre'.length + (pS qT cT kd sep s).length ≤ N → ∀ W1, Kt s0 W W1 → J pre' W1 → CallsIn Fence.wide (m - 1) Tryz.prog 83 #[.agg (v8 kd T C (.slice so sl sc) p).toArray, .string sep, .func (.yield l) #[] #[]] W1 (Yp s0 J Jx pre' (pS qT cT kd sep s) W1) := fun sep hz h6 pre' hl' W1 hk hJ1 =>
      yparts_in hY (hse h6) ih sep hz (m - 1) _ pre' W1 h6 hk2 (hk.node hn0) (hk.tab hT) hJ1 hl'
    rw [pN] at hl ⊢
    have hc : kd = 1 ∨ kd = 2 ∨ kd = 3 ∨ kd = 4 ∨ kd = 5 ∨ kd = 6 ∨ kd = 7 ∨ kd = 8 ∨ kd = 9 ∨ kd = 10 ∨ kd = 11 ∨ kd = 12 := by omega
    clear hn hn0 ih hvs wmem ws hM hv1
    rcases hc with rfl | rfl | rfl | rfl | rfl | rfl | rfl | rfl | rfl | rfl | rfl | rfl
    · exact ynode_empty hY m T C p so sl sc pre W hJ hl
    · exact ynode_2 hY m T C p so sl sc pre W (w2 rfl) (qt_size (w2 rfl)) hJ hl
    · exact ynode_3 hY m T C p so sl sc pre W wc (txt_size C) hT hJ hl
    · exact ynode_4 hY m T C p so sl sc pre W hJ hl
    · exact ynode_5 hY m T C p so sl sc pre W (nm_size (w5 rfl)) hJ hl
    · exact ynode_6 hY m T C p so sl sc pre W _ (hpar bSp (by decide) (by decide) pre hl) hJ
    · exact ynode_7 hY m T C p so sl sc pre W _ (hpar bSl (by decide) (by decide) pre hl) hJ
    · exact ynode_8 hY m T C p so sl sc pre W _ (hpar bE (by decide) (by decide) pre (by simp at hl; omega)) hJ (by simp at hl; omega)
    · exact ynode_9 hY m T C p so sl sc pre W _ (hpar bE (by decide) (by decide) pre (by simp at hl; omega)) hJ (by simp at hl; omega)
    · exact ynode_10 hY m T C p so sl sc pre W _ (hpar bE (by decide) (by decide) pre (by simp at hl; omega)) hJ (by simp at hl; omega)
    · exact ynode_11 hY m T C p so sl sc pre W _ (hpar bE (by decide) (by decide) (pre ++ [bsg 11]) (by simp at hl ⊢; omega)) hJ (by simp at hl; omega)
    · exact ynode_12 hY m T C p so sl sc pre W _ (hpar bE (by decide) (by decide) (pre ++ [bsg 12]) (by simp at hl ⊢; omega)) hJ (by simp at hl; omega)
end
end Go.Proofs.YtikfnaffiehpaaaGreatDoor
