/-
  Note at any table. Conditions: those that each theorem names.
-/
import Derived.Test.YtjhclpionimjbaaDoorZW
namespace Go.Proofs.YtjhclpionimjbaaDoor
open Go.RowKit Go.Maps
set_option linter.unusedVariables false
/-- What Note does. -/
def NoteR (l : List Sx) (ck x q : Int) (b : List UInt8) (l' : List Sx) (ck' : Int) (er : Value) : Prop :=
  (er = errv 1 ∧ askK l x q ≠ 1 ∧ l' = l ∧ ck' = ck) ∨ (er = errv 2 ∧ askK l x q = 1 ∧ 16384 < b.length ∧ l' = l ∧ ck' = ck) ∨
  (er = .nilIface ∧ askK l x q = 1 ∧ b.length ≤ 16384 ∧ ck' = ckn ck ∧ ∃ s : Sx, s.i = x ∧ s.l = q ∧ s.u = ckn ck ∧ s.b = b ∧ l' = put l s)
theorem ask_new {l : List Sx} {x q : Int} (h : askK l x q = 1) : ∃ s, fnd l x = some s ∧ s.l < q := by
  unfold askK at h
  cases hf : fnd l x with
  | none => rw [hf] at h; simp at h
  | some s =>
    rw [hf] at h
    refine ⟨s, rfl, ?_⟩
    simp only at h
    split at h
    · assumption
    · split at h <;> simp at h
set_option maxRecDepth 100000 in
set_option maxHeartbeats 2000000 in
theorem note_ok {w : World} {tb B : Nat} {l : List Sx} {ck : Int} (h : Tb w tb B l ck) (x q : Int) (hx : inI x) (hq : inI q) (o : Option Addr) (n c : Nat) (b : List UInt8) (hb : Has w o n c b) (hn : n ≤ 140737488355328) :
    Calls Tryd.prog 17 #[.pointer (some ⟨tb, 0, none⟩), .int .i64 x, .int .i64 q, .slice o n c] w fun e w' => ∃ l' ck' er, e = .returned er ∧ NoteR l ck x q b l' ck' er ∧ Tb w' tb B l' ck' ∧ Kx (own2 tb B) w w' ∧ ∀ s ∈ l', s ∈ l ∨ Fr w.heap.size w' s.o s.c := by
  have HA := hid (ask_ok h x q hx hq)
  have HT := hid h
  have HN := hid hb
  have hbl : b.length = n := hb.1
  obtain ⟨K0, hK0⟩ : ∃ K0, K0 = askK l x q := ⟨_, rfl⟩
  have HK := hid hK0
  rw [← hK0] at HA
  have HQ := hid hq
  have HX := hid hx
  have HBL := hid hbl
  clear h hb hK0 hq hx hbl
  by_cases h1 : K0 = 1
  · have HK1 : Hid (askK l x q = 1) := by rw [← HK.out]; exact h1
    subst h1
    by_cases h2 : 16384 < n
    · have a1 : (16384 : Int) < (n : Int) := by omega
      have a2 : decide ((16384 : Int) < (n : Int)) = true := by simpa using a1
      have a3 : decide (16384 < n) = true := by simpa using h2
      go_enter Tryd.func17, Tryd.ntmps17
      go_wp2_with fail
      refine HA.out.mono ?_
      rintro e w2 ⟨o2, n2, c2, rfl, k1, k2, k3⟩
      have HB := hid k3
      clear k1 k2 k3 HA
      go_wp2_with fail
      go_ret
      exact ⟨l, ck, _, rfl, .inr (.inl ⟨rfl, HK1.out, by rw [HBL.out]; exact h2, rfl, rfl⟩), HT.out.below HB.out, .below HB.out, fun s hs => .inl hs⟩
    · have a1 : ¬ (16384 : Int) < (n : Int) := by omega
      have a2 : decide ((16384 : Int) < (n : Int)) = false := by simpa using a1
      have a3 : decide (16384 < n) = false := by simpa using h2
      go_enter Tryd.func17, Tryd.ntmps17
      go_wp2_with fail
      refine HA.out.mono ?_
      rintro e w2 ⟨o2, n2, c2, rfl, k1, k2, k3⟩
      obtain ⟨s0, hs0, _⟩ := ask_new HK1.out
      obtain ⟨hm0, hi0⟩ := fnd_some hs0
      have hT2 := HT.out.below k3
      have hU := use_ok hT2 x q (by have := (hT2.ok s0 hm0).id1; omega) HX.out HQ.out o n c b (HN.out.below k3) (by omega) (fun s => put l s)
        (fun s hs => rise_put hT2.m.1 s) (fun s hs y => fnd_put s y l ⟨s0, hm0, hi0.trans hs.symm⟩) (fun s => by rw [len_put]; exact hT2.few) (fun s t ht => (mem_put ht).imp (fun e => e) (fun e => e.1))
      have HU := hid hU
      have HB := hid k3
      clear k1 k2 k3 HA hs0 hm0 hi0 hT2 hU
      go_wp2_with fail
      refine HU.out.mono ?_
      rintro e w3 ⟨o', c', rfl, ho, hT3, hk3, hF3⟩
      have HE := hid (And.intro (show NoteR l ck x q b (put l ⟨x, q, ckn ck, o', n, c', b⟩) (ckn ck) .nilIface from .inr (.inr ⟨rfl, HK1.out, by rw [HBL.out]; omega, rfl, _, rfl, rfl, rfl, rfl, rfl⟩)) (And.intro hT3 (And.intro ((Kx.below HB.out : Kx (own2 tb B) _ _).trans hk3) (show ∀ t ∈ put l ⟨x, q, ckn ck, o', n, c', b⟩, t ∈ l ∨ Fr w.heap.size w3 t.o t.c from fun t ht => (mem_put ht).elim (fun e => Or.inr (by subst e; exact hF3.mono HB.out.size)) (fun e => Or.inl e.1)))))
      clear ho hT3 hk3 hF3 HU HB HT HN
      go_wp2_with fail
      go_ret
      exact ⟨_, _, _, rfl, HE.out⟩
  · have HK1 : Hid (askK l x q ≠ 1) := by rw [← HK.out]; exact h1
    have a1 : (K0 != 1) = true := by simpa using h1
    clear HK
    go_enter Tryd.func17, Tryd.ntmps17
    go_wp2_with fail
    refine HA.out.mono ?_
    rintro e w2 ⟨o2, n2, c2, rfl, k1, k2, k3⟩
    have HB := hid k3
    clear k1 k2 k3 HA
    go_wp2_with fail
    all_goals (
      go_ret
      exact ⟨l, ck, _, rfl, .inl ⟨rfl, HK1.out, rfl, rfl⟩, HT.out.below HB.out, .below HB.out, fun s hs => .inl hs⟩)
end Go.Proofs.YtjhclpionimjbaaDoor
