/-
  The document's drop. Conditions: those that each theorem names.
-/
import Derived.Test.YtjhclpionimjbaaDoorZXr
import Derived.Deep.QuietTactic
import Derived.BigQuiet
namespace Go.Proofs.YtjhclpionimjbaaDoor
open Go.RowKit Go.Maps
set_option linter.unusedVariables false
def XH (xb : Nat) (v : Value) (X : World) : Prop := X.cell? ⟨xb, 0, none⟩ = some v ∧ xb < X.heap.size
/-- What drop does. -/
def XdR (w : World) (m xb : Nat) (l : List Sx) (ck : Int) (e : Ending) (w' : World) : Prop := ∃ s ∈ l, (∀ t ∈ l, s.u ≤ t.u) ∧ e = .returned (.int .i64 s.i) ∧ ∃ v', Xt w' m xb v' (del l s.i) ck ∧ Kx (fun g => g = xb) w w'
set_option maxRecDepth 100000 in
set_option maxHeartbeats 4000000 in
theorem dropx_ok {w : World} {m xb : Nat} {v : Value} {l : List Sx} {ck : Int} (h : Xt w m xb v l ck) (hr : Rise l) (h0 : 0 < l.length) :
    Calls Tryd.prog 43 #[.pointer (some ⟨xb, 0, none⟩)] w (XdR w m xb l ck) := by
  obtain ⟨g, cap, cur, rfl, hmg, hgc, hlc, hcm, hsz, htk⟩ := row_form h.row h0
  have c0 := h.cells.1
  have hlt := node_lt h.blk
  have hfew := h.few
  have HX := hid h
  have HR := hid hr
  have hnI : (l.length : Int) ≤ 8 := by omega
  have HC : Hid (∀ X, Below w.heap.size w X → X.cell? ⟨xb, 0, none⟩ = some (.slice (some ⟨g, 0, none⟩) l.length cap) ∧ ∀ k (hk : k < l.length), X.cell? ⟨g, k * 4 + 2, none⟩ = some (.int .i64 l[k].u) ∧ X.cell? ⟨g, k * 4, none⟩ = some (.int .i64 l[k].i)) := fun X hX => ⟨(hX.cell (p := ⟨xb, 0, none⟩) hlt).trans c0, fun k hk => ⟨(hX.cell (p := ⟨g, k * 4 + 2, none⟩) (node_lt hgc)).trans (row_cell (n := 0) hgc htk hk 2 (by omega) _ rfl).1, (hX.cell (p := ⟨g, k * 4, none⟩) (node_lt hgc)).trans (row_cell (n := 0) hgc htk hk 0 (by omega) _ rfl).1⟩⟩
  have HB0 : Hid (Below w.heap.size w w ∧ ∀ hj : 0 < l.length, ∀ t (ht : t < l.length), t < 1 → l[0].u ≤ l[t].u) := ⟨Below.refl _ _, fun _ t ht h => by
    obtain rfl : t = 0 := by omega
    exact Int.le_refl _⟩
  clear h hr hmg hgc hlc hcm hsz htk c0 hlt
  go_enter Tryd.func43, Tryd.ntmps43
  go_wp2_with fail
  go_loopw [3, 4] (fun a b wr => ∃ j k : Nat, a = .int .i64 (j : Int) ∧ b = .int .i64 (k : Int) ∧ j < l.length ∧ 1 ≤ k ∧ k ≤ l.length ∧ Hid (Below w.heap.size w wr ∧ ∀ hj : j < l.length, ∀ t (ht : t < l.length), t < k → l[j].u ≤ l[t].u)) (fun _ b _ => l.length - (intOf b).toNat)
  case atStart => exact ⟨0, 1, rfl, rfl, h0, Nat.le_refl _, h0, HB0⟩
  case round =>
    obtain ⟨j, k, rfl, rfl, hj, hk1, hk, HB⟩ := hrel
    obtain ⟨c0, hcs⟩ := HC.out _ HB.out.1
    have hjI : (j : Int) < (l.length : Int) := by omega
    by_cases hkn : k < l.length
    · have hkI : (k : Int) < (l.length : Int) := by omega
      have p2 := (hcs j hj).1
      have q2 := (hcs k hkn).1
      have HN : Hid ((l[k].u < l[j].u → ∀ t (ht : t < l.length), t < k + 1 → l[k].u ≤ l[t].u) ∧ (¬ l[k].u < l[j].u → ∀ t (ht : t < l.length), t < k + 1 → l[j].u ≤ l[t].u)) := ⟨fun h t ht h2 => by
          rcases Nat.lt_or_eq_of_le (Nat.le_of_lt_succ h2) with h3 | rfl
          · have := HB.out.2 hj t ht h3; omega
          · exact Int.le_refl _, fun h t ht h2 => by
          rcases Nat.lt_or_eq_of_le (Nat.le_of_lt_succ h2) with h3 | rfl
          · exact HB.out.2 hj t ht h3
          · omega⟩
      have HN2 := hid (HN.out)
      clear HN hcs
      obtain ⟨a, ha⟩ : ∃ a, a = l[j].u := ⟨_, rfl⟩
      obtain ⟨b, hb⟩ : ∃ b, b = l[k].u := ⟨_, rfl⟩
      have HE := hid (And.intro ha hb)
      rw [← ha] at p2 HN2
      rw [← hb] at q2 HN2
      clear ha hb
      by_cases hlt : b < a
      · have d1 : decide (b < a) = true := by simpa using hlt
        go_wp2_with fail
        go_quiet (fail)
        go_wp2_with fail
        exact ⟨⟨k, k + 1, rfl, by go_num, hkn, by omega, by omega, hid ⟨HB.out.1.trans ⟨rfl, rfl, rfl, Nat.le_refl _, fun _ _ => rfl⟩, fun _ => by rw [← HE.out.2]; exact HN2.out.1 hlt⟩⟩, by simp [intOf]; omega⟩
      · have d1 : decide (b < a) = false := by simpa using hlt
        go_wp2_with fail
        go_quiet (fail)
        go_wp2_with fail
        exact ⟨⟨j, k + 1, rfl, by go_num, hj, by omega, by omega, hid ⟨HB.out.1.trans ⟨rfl, rfl, rfl, Nat.le_refl _, fun _ _ => rfl⟩, fun _ => by rw [← HE.out.1]; exact HN2.out.2 hlt⟩⟩, by simp [intOf]; omega⟩
    · have hkI : ¬ (k : Int) < (l.length : Int) := by omega
      have hkd : decide ((k : Int) < (l.length : Int)) = false := by simpa using hkI
      have hkd2 : decide (k < l.length) = false := by simpa using hkn
      have p0 := (hcs j hj).2
      have HM : Hid (∀ t ∈ l, l[j].u ≤ t.u) := fun t ht => by
        obtain ⟨a, ha, rfl⟩ := List.getElem_of_mem ht
        exact HB.out.2 hj a ha (by omega)
      have HXr := hid (HX.out.below HB.out.1)
      have HBr := hid HB.out.1
      have hin1 : (0 : Int) ≤ (j : Int) ∧ (j : Int) ≤ (cap : Int) := by
        obtain ⟨so, cp, e, h⟩ := HX.out.row.src; cases e; have := h.le; omega
      have hin2 : (0 : Int) ≤ (j : Int) + 1 ∧ (j : Int) + 1 ≤ (l.length : Int) := by omega
      have hw1 : IntKind.i64.wrap ((j : Int) + 1) = ((j + 1 : Nat) : Int) := by rw [IntKind.wrap_i64]; omega
      have HSr := hid (show XH xb (.slice (some ⟨g, 0, none⟩) l.length cap) wr.drew from ⟨c0, (HBr.out.size |> Nat.lt_of_lt_of_le (node_lt HX.out.blk))⟩)
      have HXd : Hid (Xt wr.drew m xb (.slice (some ⟨g, 0, none⟩) l.length cap) l ck) := HXr.out.below (Below.refl _ wr).drew
      have HBd : Hid (Below w.heap.size w wr.drew) := HBr.out.drew
      clear HB HC hcs HXr HBr
      go_wp2_with fail
      refine region_L 99 (fun X : World => X.cell? ⟨xb, 0, none⟩ = some (.slice (some ⟨g, 0, none⟩) l.length cap) ∧ xb < X.heap.size) (by kernel_rfl) HSr.out (fun hHeld => ?_)
      generalize wr.drew = W at *
      refine anyT 0 hHeld ?_
      refine anyT 1 hHeld ?_
      refine anyT 2 hHeld ?_
      refine anyT 3 hHeld ?_
      refine anyT 4 hHeld ?_
      refine anyT 5 hHeld ?_
      refine anyT (v := .slice (some ⟨g, 0, none⟩) j cap) 6 hHeld ?_ (hy := by refine Or.inl ⟨by rfl, ?_⟩; intro w hSw; (try dsimp only at hSw); go_simp; (try rw [if_pos hin1]); (try simp))
      refine anyT 8 hHeld ?_
      refine anyT 9 hHeld ?_
      refine anyT 10 hHeld ?_
      refine anyT 11 hHeld ?_
      refine anyT 12 hHeld ?_
      refine anyT 13 hHeld ?_
      refine anyT (v := .slice (if cap = j + 1 then some ⟨g, 0, none⟩ else some ⟨g, (j + 1) * 4, none⟩) (l.length - (j + 1)) (cap - (j + 1))) 14 hHeld ?_ (hy := by refine Or.inl ⟨by rfl, ?_⟩; intro w hSw; (try dsimp only at hSw); go_simp; (try rw [if_pos hin2]))
      (try simp only [Act.put, List.setIfInBounds_toArray, List.set_cons_zero, List.set_cons_succ])
      obtain ⟨so2, hso2⟩ : ∃ so2, so2 = (if cap = j + 1 then some (⟨g, 0, none⟩ : Addr) else some ⟨g, (j + 1) * 4, none⟩) := ⟨_, rfl⟩
      rw [← hso2]
      have HW := HXd.out.row
      have hsrc : RSrc W (some ⟨g, 0, none⟩) cap l := by obtain ⟨so, cp, e, h⟩ := HW.src; cases e; exact h
      have hjn : j + 1 ≤ l.length := hj
      obtain ⟨v1, W1, hr1, ho1, hg1, hb1⟩ := app_row (W := W) (base := W.heap.size) (v := .slice none 0 0) (ls := []) (N := 0) (ps := l.take j) (M := j) (World.ownsRow_nil _ _ _ _) rfl cap (by rw [List.length_take]; omega) (hsrc.hi (by omega)) (fun e => by cases e) (Nat.le_refl _) (by omega)
      have hsrc1 : Src W1 so2 (l.length - (j + 1)) (cl (l.drop (j + 1))) := (hsrc.below hb1).lo (so' := so2) hjn (fun e => by cases e) (fun g' e hlt => by cases e; rw [hso2, if_neg]; have := hsrc.le; omega)
      obtain ⟨v2, W2, hr2, ho2, hg2, hb2⟩ := app_row (W := W1) (base := W.heap.size) (v := v1) (N := 0 + j) (ps := l.drop (j + 1)) (M := l.length - (j + 1)) ho1 (by simp; omega) (cap - (j + 1)) (by simp) hsrc1 (fun e => by rw [hso2] at e; split at e <;> cases e) hb1.size (by omega)
      have hcl : cl ([] ++ l.take j ++ l.drop (j + 1)) = cl (del l l[j].i) := by rw [del_at HR.out hj]; rfl
      have hlen : 0 + j + (l.length - (j + 1)) = (del l l[j].i).length := by have := len_del HR.out (List.getElem_mem hj); omega
      rw [hcl, hlen] at ho2
      obtain ⟨so3, cp3, rfl⟩ := row_slice ho2
      have HT : Hid (Xt (W2.setCell ⟨xb, 0, none⟩ (.slice so3 (del l l[j].i).length cp3)) m xb (.slice so3 (del l l[j].i).length cp3) (del l l[j].i) ck ∧ Kx (fun g => g = xb) W (W2.setCell ⟨xb, 0, none⟩ (.slice so3 (del l l[j].i).length cp3))) := hid (HXd.out.turn (hb1.trans hb2) HXd.out.ms ho2 (by have := len_del HR.out (List.getElem_mem hj); omega) (fun t ht => .inl (mem_del.1 ht).1))
      have HFin : Hid (XdR w m xb l ck (.returned (.int .i64 l[j].i)) (W2.setCell ⟨xb, 0, none⟩ (.slice so3 (del l l[j].i).length cp3))) := hid ⟨l[j], List.getElem_mem hj, HM.out, rfl, (.slice so3 (del l l[j].i).length cp3), HT.out.1, (Kx.below HBd.out).trans HT.out.2⟩
      have HRun := hid (And.intro hr1 hr2)
      have HS1 := hid (show XH xb (.slice (some ⟨g, 0, none⟩) l.length cap) W1 from ⟨(hb1.cell (p := ⟨xb, 0, none⟩) HSr.out.2).trans HSr.out.1, Nat.lt_of_lt_of_le HSr.out.2 hb1.size⟩)
      have hb12 := hb1.trans hb2
      have HS2' := hid (show XH xb (.slice (some ⟨g, 0, none⟩) l.length cap) W2 from ⟨(hb12.cell (p := ⟨xb, 0, none⟩) HSr.out.2).trans HSr.out.1, Nat.lt_of_lt_of_le HSr.out.2 hb12.size⟩)
      have pf0 := (cell_in (HXd.out.below hb12).blk 0 _ rfl).2
      have pc0 := HS2'.out.1
      clear hHeld HW hsrc hsrc1 ho1 ho2 hg1 hg2 hb1 hb2 hb12 hr1 hr2 hcl hlen HT hso2
      refine anyO 7 (fun K hK => ?_)
      refine step_app_run rfl (.tmp 42) (.tmp 48) 22 rfl (by rfl) (by rfl) HRun.out.1 ?_
      refine hK.out _ _ HS1.out ?_
      clear hK K
      (try simp only [Act.put, List.setIfInBounds_toArray, List.set_cons_zero, List.set_cons_succ])
      refine anyO 15 (fun K hK => ?_)
      refine step_app_run rfl (.tmp 49) (.tmp 56) 22 rfl (by rfl) (by rfl) HRun.out.2 ?_
      refine hK.out _ _ HS2'.out ?_
      clear hK K
      (try simp only [Act.put, List.setIfInBounds_toArray, List.set_cons_zero, List.set_cons_succ])
      have hHeld := HS2'.out
      unfold XH at hHeld
      have hsz2 := hHeld.2
      refine anyT 16 hHeld ?_
      refine ⟨by kernel_rfl, ?_⟩
      clear hHeld
      go_wp2_with fail
      go_ret
      exact HFin.out
end Go.Proofs.YtjhclpionimjbaaDoor
