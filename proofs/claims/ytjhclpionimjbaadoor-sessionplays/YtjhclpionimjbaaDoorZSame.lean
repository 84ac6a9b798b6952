/-
  The document's Same, at two rows of sessions that say the same. Conditions: those that each theorem names.
-/
import Derived.Test.YtjhclpionimjbaaDoorZL
import Derived.Test.YtjhclpionimjbaaDoorZG
import Derived.Deep.QuietTactic
import Derived.BigQuiet
namespace Go.Proofs.YtjhclpionimjbaaDoor
open Go.RowKit Go.Maps
set_option linter.unusedVariables false
/-- A row of sessions, wherever it lies. -/
structure RowC (w : World) (a : Option Addr) (len : Nat) (ls : List Sx) : Prop where
  ln : ls.length = len
  le : len ≤ maxLen
  at' : 0 < len → ∃ g off, a = some ⟨g, off, none⟩ ∧ g < w.heap.size ∧ ∀ j (h : j < ls.length), w.cell? ⟨g, off + j * 4, none⟩ = some (.int .i64 ls[j].i) ∧ w.cell? ⟨g, off + j * 4 + 1, none⟩ = some (.int .i64 ls[j].l) ∧ w.cell? ⟨g, off + j * 4 + 2, none⟩ = some (.int .i64 ls[j].u) ∧ w.cell? ⟨g, off + j * 4 + 3, none⟩ = some (.slice ls[j].o ls[j].n ls[j].c)
  has : ∀ s ∈ ls, Has w s.o s.n s.c s.b
theorem RowC.below {w w' : World} {a : Option Addr} {len : Nat} {ls : List Sx} (h : RowC w a len ls) (hb : Below w.heap.size w w') : RowC w' a len ls := by
  refine ⟨h.ln, h.le, fun h0 => ?_, fun s hs => (h.has s hs).below hb⟩
  obtain ⟨g, off, h1, h2, h3⟩ := h.at' h0
  refine ⟨g, off, h1, Nat.lt_of_lt_of_le h2 hb.size, fun j hj => ?_⟩
  obtain ⟨k0, k1, k2, k3⟩ := h3 j hj
  exact ⟨(hb.cell (p := ⟨g, off + j * 4, none⟩) h2).trans k0, (hb.cell (p := ⟨g, off + j * 4 + 1, none⟩) h2).trans k1, (hb.cell (p := ⟨g, off + j * 4 + 2, none⟩) h2).trans k2, (hb.cell (p := ⟨g, off + j * 4 + 3, none⟩) h2).trans k3⟩
theorem RowA.c {w : World} {a : Option Addr} {n cap : Nat} {ls : List Sx} (h : RowA w a n cap ls) : RowC w a n ls := ⟨h.ln, h.le, h.at', fun s hs => (h.ok s hs).2.2.2⟩
theorem RowS.c {w : World} {m : Nat} {v : Value} {ls : List Sx} (h : RowS w m v ls) : ∃ so cp, v = .slice so ls.length cp ∧ RowC w so ls.length ls ∧ ls.length ≤ cp ∧ (so = none → cp = 0) := by
  obtain ⟨hll, hk | ⟨g, cap, cur, rfl, hm, hg, hn, hmx, hsz, htk⟩⟩ := h.own
  · obtain ⟨rfl, h0⟩ := hk
    exact ⟨none, 0, by rw [h0], ⟨rfl, by rw [h0]; unfold maxLen; omega, fun h => absurd h (by omega), fun s hs => (h.has s hs).1⟩, by omega, fun _ => rfl⟩
  · refine ⟨_, cap, rfl, ⟨rfl, by omega, fun _ => ⟨g, 0, rfl, node_lt hg, fun k hk => ?_⟩, fun s hs => (h.has s hs).1⟩, hn, fun e => by cases e⟩
    have hat : ∀ j, j < 4 → ∀ u, (c4 ls[k])[j]? = some u → w.cell? ⟨g, k * 4 + j, none⟩ = some u := fun j hj u hu => by
      have h1 : (cur.toList.take (ls.length * 4))[k * 4 + j]? = some u := by rw [htk, cl_at ls k hk j hj, hu]
      rw [List.getElem?_take_of_lt (by omega)] at h1
      exact (cell_in hg _ u (by simpa using h1)).1
    rw [Nat.zero_add]
    exact ⟨hat 0 (by omega) _ rfl, hat 1 (by omega) _ rfl, hat 2 (by omega) _ rfl, hat 3 (by omega) _ rfl⟩
theorem key_of {xs ys : List Sx} (h : xs.map key = ys.map key) {k : Nat} (hk : k < xs.length) (hk2 : k < ys.length) : ys[k].i = xs[k].i ∧ ys[k].l = xs[k].l ∧ ys[k].u = xs[k].u ∧ ys[k].b = xs[k].b := by
  have h1 : (xs.map key)[k]'(by simpa using hk) = (ys.map key)[k]'(by simpa using hk2) := by simp only [h]
  have h2 : key xs[k] = key ys[k] := by simpa using h1
  exact ⟨(congrArg (fun x => x.1) h2).symm, (congrArg (fun x => x.2.1) h2).symm, (congrArg (fun x => x.2.2.1) h2).symm, (congrArg (fun x => x.2.2.2) h2).symm⟩
set_option maxRecDepth 100000 in
set_option maxHeartbeats 8000000 in
theorem same_ok {w : World} {a b : Option Addr} {n cap m cap2 : Nat} {xs ys : List Sx} (h1 : RowC w a n xs) (h2 : RowC w b m ys) (he : xs.map key = ys.map key) :
    Calls Tryd.prog 10 #[.slice a n cap, .slice b m cap2] w fun e w' => e = .returned (.bool true) ∧ Below w.heap.size w w' := by
  have hnm : n = m := by have := congrArg List.length he; simp only [List.length_map] at this; rw [← h1.ln, ← h2.ln, this]
  subst hnm
  have H1 := hid h1
  have H2 := hid h2
  have HK := hid he
  have hnI : (n : Int) ≤ 9223372036854775807 := by have := h1.le; unfold maxLen at this; omega
  clear h1 h2 he
  go_enter Tryd.func10, Tryd.ntmps10
  go_wp2_with fail
  go_loopw [5] (fun i wr => ∃ k : Nat, i = .int .i64 (k : Int) ∧ k ≤ n ∧ Hid (Below w.heap.size w wr)) (fun i _ => n - (intOf i).toNat)
  case atStart => exact ⟨0, rfl, Nat.zero_le _, Below.refl _ _⟩
  case round =>
    obtain ⟨k, rfl, hk, HB⟩ := hrel
    by_cases hkn : k < n
    · have hkI : (k : Int) < (n : Int) := by omega
      have r1 := H1.out.below HB.out
      have r2 := H2.out.below HB.out
      have hk1 : k < xs.length := by rw [H1.out.ln]; exact hkn
      have hk2 : k < ys.length := by rw [H2.out.ln]; exact hkn
      obtain ⟨g1, o1, rfl, hg1, hc1⟩ := r1.at' (by omega)
      obtain ⟨g2, o2, rfl, hg2, hc2⟩ := r2.at' (by omega)
      obtain ⟨p0, p1, p2, p3⟩ := hc1 k hk1
      obtain ⟨q0, q1, q2, q3⟩ := hc2 k hk2
      obtain ⟨e0, e1, e2, e3⟩ := key_of HK.out hk1 hk2
      have v1 := fun q => ((r1.has _ (List.getElem_mem hk1)).drewN q).conv
      have v2 := fun q => ((r2.has _ (List.getElem_mem hk2)).drewN q).conv
      rw [e0] at q0
      rw [e1] at q1
      rw [e2] at q2
      rw [e3] at v2
      generalize xs[k] = s at *
      generalize ys[k] = t at *
      obtain ⟨si, sl, su, so, sn, sc, sb⟩ := s
      obtain ⟨ti, tl, tu, t0, tn, tc, tb⟩ := t
      dsimp only at p0 p1 p2 p3 q0 q1 q2 q3 v1 v2
      generalize bs sb = T at *
      clear r1 r2 hk1 hk2 hg1 hg2 hc1 hc2 e0 e1 e2 e3
      go_wp2_with fail
      go_quiet (fail)
      go_wp2_with fail
      exact ⟨⟨k + 1, by go_num, by omega, HB.out.trans ⟨rfl, rfl, rfl, Nat.le_refl _, fun _ _ => rfl⟩⟩, by simp [intOf]; omega⟩
    · have hkI : ¬ (k : Int) < (n : Int) := by omega
      have hkd : decide ((k : Int) < (n : Int)) = false := by simpa using hkI
      have hkd2 : decide (k < n) = false := by simpa using hkn
      go_wp2_with fail
      go_ret
      exact ⟨rfl, HB.out⟩
end Go.Proofs.YtjhclpionimjbaaDoor
