/-
  When sessions were used: no two at once, however long the clock goes on. Plain facts. Conditions: those that each theorem names.
-/
import Derived.Test.YtjhclpionimjbaaDoorZDo
namespace Go.Proofs.YtjhclpionimjbaaDoor
open Go.RowKit Go.Maps
set_option linter.unusedVariables false
/-- What the clock shows at the time E. -/
def wr (E : Int) : Int := IntKind.i64.wrap E
/-- Each was used at a time from 1 to E, no two at once; the clock shows E. -/
structure IU (l : List Sx) (ck E : Int) : Prop where
  nn : 0 ≤ E
  lt : E < 18446744073709551000
  ck : ck = wr E
  us : ∀ s ∈ l, ∃ v, 1 ≤ v ∧ v ≤ E ∧ s.u = wr v
  ap : ∀ s ∈ l, ∀ t ∈ l, s.u = t.u → s.i = t.i
theorem wr_next (E : Int) : ckn (wr E) = wr (E + 1) := by
  unfold ckn wr
  rw [IntKind.wrap_i64, IntKind.wrap_i64, IntKind.wrap_i64]
  omega
theorem wr_ne {E v : Int} (h1 : 1 ≤ v) (h2 : v ≤ E) (h3 : E < 18446744073709551000) : wr (E + 1) ≠ wr v := by
  unfold wr
  rw [IntKind.wrap_i64, IntKind.wrap_i64]
  omega
theorem IU.new (ck : Int) (h0 : 0 ≤ ck) (h1 : ck ≤ 9223372036854775807) : IU [] ck ck := ⟨h0, by omega, by unfold wr; rw [IntKind.wrap_i64]; omega, by simp, by simp⟩
theorem IU.sub {l l1 : List Sx} {ck E : Int} (h : IU l ck E) (hs : ∀ t ∈ l1, t ∈ l) : IU l1 ck E := ⟨h.nn, h.lt, h.ck, fun s m => h.us s (hs s m), fun s m t n => h.ap s (hs s m) t (hs t n)⟩
theorem IU.step {l l' : List Sx} {ck E : Int} {s : Sx} (h : IU l ck E) (hE : E < 18446744073709550000) (hm : ∀ t ∈ l', t = s ∨ t ∈ l) (hu : s.u = ckn ck) : IU l' (ckn ck) (E + 1) := by
  have h0 := h.nn
  have e : ckn ck = wr (E + 1) := by rw [h.ck, wr_next]
  refine ⟨by omega, by omega, e, fun t ht => ?_, fun a ha b hb hab => ?_⟩
  · rcases hm t ht with rfl | ht
    · exact ⟨E + 1, by omega, Int.le_refl _, by rw [hu, e]⟩
    · obtain ⟨v, h1, h2, h3⟩ := h.us t ht
      exact ⟨v, h1, by omega, h3⟩
  · rcases hm a ha with rfl | ha
    · rcases hm b hb with rfl | hb
      · rfl
      · obtain ⟨v, h1, h2, h3⟩ := h.us b hb
        rw [hu, e, h3] at hab
        exact absurd hab (wr_ne h1 h2 h.lt)
    · rcases hm b hb with rfl | hb
      · obtain ⟨v, h1, h2, h3⟩ := h.us a ha
        rw [hu, e, h3] at hab
        exact absurd hab.symm (wr_ne h1 h2 h.lt)
      · exact h.ap a ha b hb hab
theorem IU.open {l l' : List Sx} {ck x ck' d E : Int} {er : Value} (h : IU l ck E) (hE : E < 18446744073709550000) (ho : OpenR l ck x l' ck' d er) : ∃ E', IU l' ck' E' ∧ E' ≤ E + 1 := by
  rcases ho with ⟨_, _, rfl, rfl, _⟩ | ⟨_, _, _, rfl, l1, hd, s, _, _, hu, _, rfl⟩
  · exact ⟨E, h, by omega⟩
  · exact ⟨E + 1, h.step hE (fun t ht => (mem_ins.1 ht).imp (fun e => e) (fun e => drop_sub hd t e)) hu, Int.le_refl _⟩
theorem IU.note {l l' : List Sx} {ck x q ck' E : Int} {b : List UInt8} {er : Value} (h : IU l ck E) (hE : E < 18446744073709550000) (ho : NoteR l ck x q b l' ck' er) : ∃ E', IU l' ck' E' ∧ E' ≤ E + 1 := by
  rcases ho with ⟨_, _, rfl, rfl⟩ | ⟨_, _, _, rfl, rfl⟩ | ⟨_, _, _, rfl, s, _, _, hu, _, rfl⟩
  · exact ⟨E, h, by omega⟩
  · exact ⟨E, h, by omega⟩
  · exact ⟨E + 1, h.step hE (fun t ht => (mem_put ht).imp (fun e => e) (fun e => e.1)) hu, Int.le_refl _⟩
theorem IU.do {l l' : List Sx} {ck ck' r E : Int} {T : ByteArray} {s : Sx} (h : IU l ck E) (hE : E < 18446744073709550000) (ho : DoR l ck s l' ck' r T) : ∃ E', IU l' ck' E' ∧ E' ≤ E + 1 := by
  cases ho with
  | opened d _ ho => exact h.open hE ho
  | refused d _ ho => exact h.open hE ho
  | asked _ e1 e2 => subst e1 e2; exact ⟨E, h, by omega⟩
  | noted _ _ ho => exact h.note hE ho
  | unnoted c _ _ ho => exact h.note hE ho
/-- Two that were used least lately are one. -/
theorem IU.least {l : List Sx} {ck E : Int} (h : IU l ck E) (hr : Rise l) {m k : Sx} (hm : m ∈ l) (hk : k ∈ l) (h1 : ∀ t ∈ l, m.u ≤ t.u) (h2 : ∀ t ∈ l, k.u ≤ t.u) : m = k :=
  rise_mem hr hm hk (h.ap m hm k hk (Int.le_antisymm (h1 k hk) (h2 m hm)))
end Go.Proofs.YtjhclpionimjbaaDoor
