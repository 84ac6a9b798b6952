/-
  The document's Ask. Conditions: those that each theorem names.
-/
import Derived.Test.YtjhclpionimjbaaDoorZXf
import Derived.Test.YtjhclpionimjbaaDoorApp
namespace Go.Proofs.YtjhclpionimjbaaDoor
open Go.RowKit Go.Maps
set_option linter.unusedVariables false
theorem fr_row {w : World} {base g n cap : Nat} {xs : List Value} (h : w.ownsRow base 5 1 (.slice (some ⟨g, 0, none⟩) n cap) n xs) : Fr base w (some ⟨g, 0, none⟩) cap := by
  obtain ⟨_, h1 | ⟨g2, cap2, cur, e, k1, k2, k3, k4, k5, k6⟩⟩ := h
  · cases h1.1
  · cases e
    exact .inr ⟨g, cur, rfl, k1, k2, by simpa using k5, k4⟩
theorem Xt.cells {w : World} {m xb : Nat} {l : List Sx} {ck : Int} {so : Option Addr} {n cp : Nat} (h : Xt w m xb (.slice so n cp) l ck) : w.cell? ⟨xb, 0, none⟩ = some (.slice so n cp) ∧ w.cell? ⟨xb, 1, none⟩ = some (.int .i64 ck) ∧ w.frozen? ⟨xb, 0, none⟩ = false ∧ w.frozen? ⟨xb, 1, none⟩ = false ∧ xb < w.heap.size ∧ w.ownsRow m 59 4 (.slice so n cp) n (cl l) ∧ n = l.length := by
  obtain ⟨so', cp', e⟩ := row_slice h.row.own
  cases e
  exact ⟨(cell_in h.blk 0 _ rfl).1, (cell_in h.blk 1 _ rfl).1, (cell_in h.blk 0 _ rfl).2, (cell_in h.blk 1 _ rfl).2, node_lt h.blk, h.row.own, rfl⟩
set_option maxRecDepth 100000 in
set_option maxHeartbeats 2000000 in
theorem askx_ok {w : World} {m xb : Nat} {v : Value} {l : List Sx} {ck : Int} (h : Xt w m xb v l ck) (x q : Int) :
    Calls Tryd.prog 25 #[.pointer (some ⟨xb, 0, none⟩), .int .i64 x, .int .i64 q] w fun e w' => ∃ o n c, e = .returned (.tuple #[.int .i64 (askK l x q), .slice o n c]) ∧ Has w' o n c (askB l x q) ∧ Fr w.heap.size w' o c ∧ Below w.heap.size w w' := by
  have HF := hid (find_ok h x)
  have HX := hid h
  clear h
  go_enter Tryd.func25, Tryd.ntmps25
  go_wp2_with fail
  refine HF.out.mono ?_
  rintro e w2 ⟨hb, ⟨k, hk, hx, hf, rfl⟩ | ⟨hf, rfl⟩⟩
  · have HX2 := hid (HX.out.below hb)
    obtain ⟨so, cp, rfl, hc, _, _⟩ := HX2.out.row.c
    have c0 := HX2.out.cells.1
    have hkn := hk
    have hfew := HX2.out.few
    have hkI : (k : Int) < (l.length : Int) := by omega
    have hk0 : ¬ ((k : Int) < 0) := by omega
    obtain ⟨g, off, rfl, hg, hcs⟩ := hc.at' (by omega)
    obtain ⟨_, q1, _, q3⟩ := hcs k hk
    obtain ⟨hh, _, hsh⟩ := HX2.out.row.has _ (List.getElem_mem hk)
    have HB := hid hb
    have HA : Hid (askK l x q = (if l[k].l < q then 1 else if q = l[k].l ∧ q ≠ 0 then 2 else 3) ∧ askB l x q = (if l[k].l < q then [] else if q = l[k].l ∧ q ≠ 0 then l[k].b else [])) := by unfold askK askB; rw [hf]; exact ⟨rfl, rfl⟩
    have q3e : (w2.alloc (.cells #[] 5)).cell? ⟨g, off + k * 4 + 3, none⟩ = some (.slice l[k].o l[k].n l[k].c) := ((below_al w2 (.cells #[] 5)).cell (p := ⟨g, off + k * 4 + 3, none⟩) hg).trans q3
    have c0e : (w2.alloc (.cells #[] 5)).cell? ⟨xb, 0, none⟩ = some (.slice (some ⟨g, off, none⟩) l.length cp) := ((below_al w2 (.cells #[] 5)).cell (p := ⟨xb, 0, none⟩) (node_lt HX2.out.blk)).trans c0
    clear hc hcs hg hx hb HX HF hf HX2
    generalize l[k] = s at *
    obtain ⟨si, sl, su, so, sn, sc, sb⟩ := s
    dsimp only at *
    have HH := hid hh
    have HSh := hid hsh
    clear hh hsh hk
    by_cases h1 : sl < q
    · have a1 : decide (sl < q) = true := by simpa using h1
      rw [if_pos h1, if_pos h1] at HA
      go_wp2_with fail
      refine bodyPost_ret (v := .tuple #[.int .i64 1, .slice none 0 0]) (by simp [results, Tryd.results25, go_sem]) rfl ?_
      rw [HA.out.1, HA.out.2]
      exact ⟨none, 0, 0, rfl, Has.nil _, Fr.nil _ _, HB.out⟩
    · have a1 : decide (sl < q) = false := by simpa using h1
      rw [if_neg h1, if_neg h1] at HA
      by_cases h2 : q = sl
      · subst h2
        by_cases h3 : q = 0
        · subst h3
          go_wp2_with fail
          refine bodyPost_ret (v := .tuple #[.int .i64 3, .slice none 0 0]) (by simp [results, Tryd.results25, go_sem]) rfl ?_
          rw [HA.out.1, HA.out.2]
          exact ⟨none, 0, 0, by simp, by simpa using Has.nil _, Fr.nil _ _, HB.out⟩
        · have a3 : (q != 0) = true := by simpa using h3
          have HO := hid (owns_empty w2 w2.heap.size (Nat.le_refl _))
          have hbe : Below w2.heap.size w2 (w2.alloc (.cells #[] 5)) := below_al w2 _
          have HE := hid (And.intro (HH.out.below hbe) hbe)
          clear hbe
          go_wp2_with (first | (at_builtin; refine wpList_app rfl (.tmp 41) (.tmp 49) rfl w2.heap.size w2.heap.size 0 0 [] rfl HO.out _ sn sc sb rfl HE.out.1 (by have := HSh.out; omega) (by simp) ?_; intro g2 cap2 w3 hg2 hown hgr))
          have HZ := hid (And.intro (Has.of_row (by simpa using hown) : Has w3 (some ⟨g2, 0, none⟩) sn cap2 sb) (And.intro (fr_row hown) ((HE.out.2.grown hgr (by simp) (fun k e => by cases e; simp) : Below w2.heap.size w2 w3))))
          clear hown hgr HE HO
          go_wp2_with fail
          refine bodyPost_ret (v := .tuple #[.int .i64 2, .slice (some ⟨g2, 0, none⟩) sn cap2]) (by simp [results, Tryd.results25, go_sem]) rfl ?_
          rw [HA.out.1, HA.out.2]
          exact ⟨_, sn, cap2, by simp [h3], by simpa [h3] using HZ.out.1, HZ.out.2.1.mono HB.out.size, HB.out.trans (HZ.out.2.2.mono HB.out.size)⟩
      · have a2 : (q == sl) = false := by simpa using h2
        go_wp2_with fail
        refine bodyPost_ret (v := .tuple #[.int .i64 3, .slice none 0 0]) (by simp [results, Tryd.results25, go_sem]) rfl ?_
        rw [HA.out.1, HA.out.2]
        exact ⟨none, 0, 0, by simp [h2], by simpa [h2] using Has.nil _, Fr.nil _ _, HB.out⟩
  · have HB := hid hb
    have HA : Hid (askK l x q = 4 ∧ askB l x q = []) := by unfold askK askB; rw [hf]; exact ⟨rfl, rfl⟩
    go_wp2_with fail
    refine bodyPost_ret (v := .tuple #[.int .i64 4, .slice none 0 0]) (by simp [results, Tryd.results25, go_sem]) rfl ?_
    rw [HA.out.1, HA.out.2]
    exact ⟨none, 0, 0, rfl, Has.nil _, Fr.nil _ _, HB.out⟩
end Go.Proofs.YtjhclpionimjbaaDoor
