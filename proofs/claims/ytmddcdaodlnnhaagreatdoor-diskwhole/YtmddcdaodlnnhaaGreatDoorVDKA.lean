/-
  Rows that rise by their names: find, put in, put in the place, take out. Conditions: those that each theorem names.
-/
import Derived.Test.YtmddcdaodlnnhaaGreatDoorVFB
import Derived.Maps.OwnSet
import Derived.Maps.Ext
import Derived.Sort.Walk0
namespace Go.Proofs.YtmddcdaodlnnhaaGreatDoor
open Go.RowKit
set_option linter.unusedVariables false
abbrev Nm := List UInt8
class Nmd (α : Type) where nm : α → Nm
export Nmd (nm)
theorem before_less : ∀ a b : Nm, bytesBefore a b = Op.bytesLess a b
  | [], [] => rfl
  | [], _ :: _ => rfl
  | _ :: _, [] => rfl
  | a :: r, b :: s => by
    unfold bytesBefore Op.bytesLess
    rw [before_less r s]
theorem before_lt (a b : Nm) : bytesBefore a b = decide (a < b) := by rw [before_less, Go.Proofs.bytesLess_eq]
theorem before_ne {a b : Nm} (h : bytesBefore a b = true) : a ≠ b := by
  intro e
  subst e
  rw [WideAt.bytes_irrefl] at h
  cases h
section
variable {α : Type} [Nmd α]
def fnd (l : List α) (x : Nm) : Option α := l.find? fun s => nm s == x
def Rise (l : List α) : Prop := l.Pairwise fun a b => bytesBefore (nm a) (nm b) = true
def ins : List α → α → List α
  | [], s => [s]
  | t :: r, s => if bytesBefore (nm t) (nm s) = true then t :: ins r s else s :: t :: r
def del (l : List α) (x : Nm) : List α := l.filter fun t => nm t != x
def put (l : List α) (s : α) : List α := l.map fun t => if nm t = nm s then s else t
theorem mem_ins {s t : α} : ∀ {l : List α}, t ∈ ins l s ↔ t = s ∨ t ∈ l
  | [] => by simp [ins]
  | a :: r => by
    unfold ins
    split
    · rw [List.mem_cons, mem_ins (l := r), List.mem_cons]
      constructor
      · rintro (h | h | h) <;> simp [h]
      · rintro (h | h | h) <;> simp [h]
    · rw [List.mem_cons]
theorem len_ins (s : α) : ∀ l : List α, (ins l s).length = l.length + 1
  | [] => rfl
  | a :: r => by
    unfold ins
    split
    · simp [len_ins s r]
    · simp
theorem fnd_nil (x : Nm) : fnd ([] : List α) x = none := rfl
theorem fnd_cons (t : α) (r : List α) (x : Nm) : fnd (t :: r) x = if nm t = x then some t else fnd r x := by
  unfold fnd
  rw [List.find?_cons]
  by_cases h : nm t = x
  · simp [h]
  · have : (nm t == x) = false := by simp [h]
    simp [h, this]
theorem fnd_ins (s : α) (x : Nm) : ∀ l : List α, (∀ t ∈ l, nm t ≠ nm s) → fnd (ins l s) x = if x = nm s then some s else fnd l x
  | [], _ => by
    unfold ins
    rw [fnd_cons]
    by_cases h : x = nm s
    · simp [h]
    · simp [h, Ne.symm h]
  | t :: r, hn => by
    have hts := hn t (by simp)
    unfold ins
    split
    · rw [fnd_cons, fnd_ins s x r (fun t ht => hn t (by simp [ht])), fnd_cons]
      by_cases h : nm t = x
      · have : x ≠ nm s := fun e => hts (h.trans e)
        simp [h, this]
      · simp [h]
    · rw [fnd_cons]
      by_cases h : x = nm s
      · simp [h]
      · simp [h, Ne.symm h]
theorem pw_ins {R : α → α → Prop} {s : α} : ∀ {l : List α}, l.Pairwise R → (∀ t ∈ l, (bytesBefore (nm t) (nm s) = true → R t s) ∧ (bytesBefore (nm t) (nm s) ≠ true → R s t)) → Rise l → (∀ t ∈ l, nm t ≠ nm s) → (ins l s).Pairwise R
  | [], _, _, _, _ => List.pairwise_singleton _ _
  | t :: r, hr, hR, hs, hn => by
    obtain ⟨h1, h2⟩ := List.pairwise_cons.1 hr
    obtain ⟨g1, g2⟩ := List.pairwise_cons.1 hs
    unfold ins
    split
    · rename_i hlt
      refine List.pairwise_cons.2 ⟨fun a ha => ?_, pw_ins h2 (fun t ht => hR t (by simp [ht])) g2 (fun t ht => hn t (by simp [ht]))⟩
      rcases mem_ins.1 ha with rfl | ha
      · exact (hR t (by simp)).1 hlt
      · exact h1 a ha
    · rename_i hlt
      refine List.pairwise_cons.2 ⟨fun a ha => ?_, hr⟩
      refine (hR a ha).2 fun e => hlt ?_
      rcases List.mem_cons.1 ha with rfl | ha
      · exact e
      · exact WideShapes.bytes_trans _ _ _ (g1 a ha) e
theorem rise_ins {s : α} {l : List α} (hr : Rise l) (hn : ∀ t ∈ l, nm t ≠ nm s) : Rise (ins l s) :=
  pw_ins hr (fun t ht => ⟨fun h => h, fun h => ((WideAt.bytes_total _ _ (hn t ht)).resolve_left h)⟩) hr hn
theorem fnd_some {l : List α} {x : Nm} {s : α} (h : fnd l x = some s) : s ∈ l ∧ nm s = x := by
  unfold fnd at h
  exact ⟨List.mem_of_find?_eq_some h, by simpa using List.find?_some h⟩
theorem fnd_none {l : List α} {x : Nm} (h : fnd l x = none) : ∀ t ∈ l, nm t ≠ x := by
  intro t ht e
  have := List.find?_eq_none.1 h t ht
  simp [e] at this
theorem rise_mem {l : List α} (hr : Rise l) {s t : α} (hs : s ∈ l) (ht : t ∈ l) (e : nm s = nm t) : s = t := by
  induction l with
  | nil => cases hs
  | cons a r ih =>
    obtain ⟨h1, h2⟩ := List.pairwise_cons.1 hr
    rcases List.mem_cons.1 hs with e1 | hs'
    · rcases List.mem_cons.1 ht with e2 | ht'
      · rw [e1, e2]
      · have := before_ne (h1 t ht'); rw [e1] at e; exact absurd e this
    · rcases List.mem_cons.1 ht with e2 | ht'
      · have := before_ne (h1 s hs'); rw [e2] at e; exact absurd e.symm this
      · exact ih h2 hs' ht'
theorem fnd_mem {l : List α} (hr : Rise l) {s : α} (hs : s ∈ l) : fnd l (nm s) = some s := by
  cases h : fnd l (nm s) with
  | none => exact absurd rfl (fnd_none h s hs)
  | some t =>
    obtain ⟨h1, h2⟩ := fnd_some h
    rw [rise_mem hr h1 hs h2]
theorem fnd_del (x y : Nm) : ∀ l : List α, fnd (del l x) y = if y = x then none else fnd l y
  | [] => by simp [del, fnd]
  | t :: r => by
    have ih := fnd_del x y r
    unfold del at *
    rw [List.filter_cons]
    by_cases h : nm t = x
    · have h' : (nm t != x) = false := by simp [h]
      rw [h']
      simp only [Bool.false_eq_true, if_false]
      rw [ih, fnd_cons]
      by_cases e : y = x
      · simp [e]
      · simp [e, show nm t ≠ y from fun e2 => e (e2.symm.trans h)]
    · have h' : (nm t != x) = true := by simp [h]
      rw [h']
      simp only [if_true]
      rw [fnd_cons, ih, fnd_cons]
      by_cases e : nm t = y
      · simp [e, show y ≠ x from fun e2 => h (e.trans e2)]
      · simp [e]
theorem rise_del {l : List α} (h : Rise l) (x : Nm) : Rise (del l x) := h.filter _
theorem mem_del {l : List α} {x : Nm} {t : α} : t ∈ del l x ↔ t ∈ l ∧ nm t ≠ x := by simp [del]
theorem len_del_le (l : List α) (x : Nm) : (del l x).length ≤ l.length := List.length_filter_le _ _
theorem fnd_put (s : α) (x : Nm) : ∀ l : List α, (∃ t ∈ l, nm t = nm s) → fnd (put l s) x = if x = nm s then some s else fnd l x
  | [], h => by obtain ⟨t, ht, _⟩ := h; cases ht
  | t :: r, h => by
    have e0 : put (t :: r) s = (if nm t = nm s then s else t) :: put r s := rfl
    rw [e0, fnd_cons, fnd_cons]
    by_cases h1 : nm t = nm s
    · rw [if_pos h1]
      by_cases h2 : x = nm s
      · simp [h2]
      · rw [if_neg (Ne.symm h2), if_neg h2, if_neg (fun e => h2 (e.symm.trans h1))]
        by_cases h3 : ∃ t ∈ r, nm t = nm s
        · rw [fnd_put s x r h3, if_neg h2]
        · have : put r s = r := by
            unfold put
            have : ∀ a ∈ r, (if nm a = nm s then s else a) = id a := fun a ha => if_neg fun e => h3 ⟨a, ha, e⟩
            rw [List.map_congr_left this, List.map_id]
          rw [this]
    · rw [if_neg h1]
      have h3 : ∃ t ∈ r, nm t = nm s := by
        obtain ⟨a, ha, e⟩ := h
        rcases List.mem_cons.1 ha with rfl | ha
        · exact absurd e h1
        · exact ⟨a, ha, e⟩
      rw [fnd_put s x r h3]
      by_cases h2 : nm t = x
      · rw [if_pos h2, if_neg (fun e => h1 (h2.trans e)), if_pos h2]
      · simp [h2]
theorem put_ids (l : List α) (s : α) : (put l s).map nm = l.map nm := by
  unfold put
  rw [List.map_map]
  refine List.map_congr_left fun t _ => ?_
  simp only [Function.comp]
  split
  · rename_i h; exact h.symm
  · rfl
theorem rise_ids {β : Type} [Nmd β] {l : List α} {m : List β} (e : l.map nm = m.map nm) (h : Rise l) : Rise m := by
  have e1 : ∀ m : List α, Rise m ↔ (m.map nm).Pairwise (fun a b => bytesBefore a b = true) := fun m => by rw [List.pairwise_map]; rfl
  have e2 : ∀ m : List β, Rise m ↔ (m.map nm).Pairwise (fun a b => bytesBefore a b = true) := fun m => by rw [List.pairwise_map]; rfl
  rw [e2, ← e, ← e1]
  exact h
theorem rise_put {l : List α} (h : Rise l) (s : α) : Rise (put l s) := rise_ids (put_ids l s).symm h
theorem mem_put {l : List α} {s t : α} (h : t ∈ put l s) : t = s ∨ (t ∈ l ∧ nm t ≠ nm s) := by
  obtain ⟨a, ha, e⟩ := List.mem_map.1 h
  by_cases h1 : nm a = nm s
  · rw [if_pos h1] at e; exact .inl e.symm
  · rw [if_neg h1] at e; subst e; exact .inr ⟨ha, h1⟩
theorem put_mem {l : List α} {s t : α} (h : t ∈ l) (e : nm t = nm s) : s ∈ put l s := List.mem_map.2 ⟨t, h, if_pos e⟩
theorem len_put (l : List α) (s : α) : (put l s).length = l.length := by simp [put]
/-- A relation between any two of a row, either way round. -/
theorem pw_put {R : α → α → Prop} (hsym : ∀ a b, R a b → R b a) {s : α} : ∀ {l : List α}, l.Pairwise R → Rise l → (∀ t ∈ l, nm t ≠ nm s → R t s) → (put l s).Pairwise R
  | [], _, _, _ => List.Pairwise.nil
  | t :: r, h, hr, hs => by
    obtain ⟨h1, h2⟩ := List.pairwise_cons.1 h
    obtain ⟨g1, g2⟩ := List.pairwise_cons.1 hr
    have e0 : put (t :: r) s = (if nm t = nm s then s else t) :: put r s := rfl
    rw [e0]
    refine List.pairwise_cons.2 ⟨fun a ha => ?_, pw_put hsym h2 g2 (fun t ht => hs t (by simp [ht]))⟩
    by_cases e : nm t = nm s
    · rw [if_pos e]
      rcases mem_put ha with rfl | ⟨ha, hn⟩
      · obtain ⟨b, hb, e2⟩ := List.mem_map.1 ha
        by_cases e3 : nm b = nm a
        · exact absurd (e.trans e3.symm) (before_ne (g1 b hb))
        · rw [if_neg e3] at e2; exact absurd (by rw [e2]) e3
      · exact hsym _ _ (hs a (by simp [ha]) hn)
    · rw [if_neg e]
      rcases mem_put ha with rfl | ⟨ha, hn⟩
      · exact hs t (by simp) e
      · exact h1 a ha
theorem fnd_at_split {l : List α} {x : Nm} {s : α} (h : fnd l x = some s) : ∃ a b, l = a ++ s :: b ∧ nm s = x ∧ ∀ t ∈ a, nm t ≠ x := by
  induction l with
  | nil => cases h
  | cons t r ih =>
    rw [fnd_cons] at h
    by_cases e : nm t = x
    · rw [if_pos e] at h
      cases h
      exact ⟨[], r, rfl, e, by simp⟩
    · rw [if_neg e] at h
      obtain ⟨a, b, h1, h2, h3⟩ := ih h
      refine ⟨t :: a, b, by rw [h1]; rfl, h2, fun u hu => ?_⟩
      rcases List.mem_cons.1 hu with rfl | hu
      · exact e
      · exact h3 u hu
end
section
variable {α β : Type} [Nmd α] [Nmd β] {π : α → β}
theorem map_fnd (hp : ∀ a, nm (π a) = nm a) (x : Nm) : ∀ l : List α, fnd (l.map π) x = (fnd l x).map π
  | [] => rfl
  | t :: r => by
    rw [List.map_cons, fnd_cons, fnd_cons, hp, map_fnd hp x r]
    by_cases h : nm t = x <;> simp [h]
theorem map_ins (hp : ∀ a, nm (π a) = nm a) (s : α) : ∀ l : List α, (ins l s).map π = ins (l.map π) (π s)
  | [] => rfl
  | t :: r => by
    show (ins (t :: r) s).map π = ins (π t :: r.map π) (π s)
    unfold ins
    rw [hp, hp]
    by_cases h : bytesBefore (nm t) (nm s) = true
    · rw [if_pos h, if_pos h, List.map_cons, map_ins hp s r]
    · rw [if_neg h, if_neg h]
      rfl
theorem map_del (hp : ∀ a, nm (π a) = nm a) (x : Nm) (l : List α) : (del l x).map π = del (l.map π) x := by
  unfold del
  rw [List.filter_map]
  congr 2
  funext t
  simp [hp]
theorem map_put (hp : ∀ a, nm (π a) = nm a) (s : α) (l : List α) : (put l s).map π = put (l.map π) (π s) := by
  unfold put
  rw [List.map_map, List.map_map]
  refine List.map_congr_left fun t _ => ?_
  simp only [Function.comp]
  rw [hp, hp]
  split <;> rfl
end
end Go.Proofs.YtmddcdaodlnnhaaGreatDoor
