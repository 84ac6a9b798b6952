/-
  use at any table. Conditions: those that each theorem names.
-/
import Derived.Test.YtjhclpionimjbaaDoorZR
namespace Go.Proofs.YtjhclpionimjbaaDoor
open Go.RowKit Go.Maps
set_option linter.unusedVariables false
/-- How a table's cells are held while a region is gone through. -/
def US (tb B : Nat) (c : Int) (X : World) : Prop := X.cell? ⟨tb, 0, none⟩ = some (.map (some B)) ∧ X.cell? ⟨tb, 1, none⟩ = some (.int .i64 c) ∧ tb < X.heap.size
theorem US.below {tb B : Nat} {c : Int} {X Y : World} (h : US tb B c X) (hb : Below X.heap.size X Y) : US tb B c Y := ⟨(hb.cell (p := ⟨tb, 0, none⟩) h.2.2).trans h.1, (hb.cell (p := ⟨tb, 1, none⟩) h.2.2).trans h.2.1, Nat.lt_of_lt_of_le h.2.2 hb.size⟩
set_option maxRecDepth 100000 in
set_option maxHeartbeats 2000000 in
theorem use_ok {w : World} {tb B : Nat} {l : List Sx} {ck : Int} (h : Tb w tb B l ck) (x la : Int) (hx1 : 1 ≤ x) (hx : inI x) (hla : inI la) (o : Option Addr) (n c : Nat) (b : List UInt8) (hb : Has w o n c b) (hn : n ≤ 16384) (mk : Sx → List Sx)
    (hr : ∀ s : Sx, s.i = x → Rise (mk s)) (hf : ∀ s : Sx, s.i = x → ∀ y, fnd (mk s) y = if y = s.i then some s else fnd l y) (hl : ∀ s, (mk s).length ≤ 8) (hm : ∀ s t, t ∈ mk s → t = s ∨ t ∈ l) :
    Calls Tryd.prog 31 #[.pointer (some ⟨tb, 0, none⟩), .int .i64 x, .int .i64 la, .slice o n c] w fun e w' => ∃ o' c', e = .returned (.tuple #[]) ∧ (o = none → o' = none) ∧ Tb w' tb B (mk ⟨x, la, ckn ck, o', n, c', b⟩) (ckn ck) ∧ Kx (own2 tb B) w w' ∧ Fr w.heap.size w' o' c' := by
  obtain ⟨c0, f0⟩ := cell_in h.blk 0 _ rfl
  obtain ⟨c1, f1⟩ := cell_in h.blk 1 _ rfl
  simp only [List.getElem_toArray, List.getElem_cons_zero, List.getElem_cons_succ] at c0 c1
  have hlt := node_lt h.blk
  have hne := h.ne
  obtain ⟨c', hc'⟩ : ∃ c', c' = ckn ck := ⟨_, rfl⟩
  have hw : IntKind.i64.wrap (ck + 1) = c' := hc'.symm
  have hcI : inI c' := by rw [hc']; exact ckn_in ck
  rw [← hc']
  obtain ⟨w1, hw1⟩ : ∃ w1, w1 = w.setCell ⟨tb, 1, none⟩ (.int .i64 c') := ⟨_, rfl⟩
  have hk1 : Kx (own2 tb B) w w1 := by rw [hw1]; exact Kx.set (.inl rfl) _
  have hblk1 : w1.heap[tb]? = some (.cells #[.map (some B), .int .i64 c'] 63) := by rw [hw1]; exact set_in h.blk 1 _
  have hB1 : w1.heap[B]? = w.heap[B]? := by rw [hw1]; exact Below.heap_setCell _ _ _ _ hne
  have hT1 : Tb w1 tb B l c' := ⟨hblk1, h.m.same hB1, h.few, fun s hs => (h.ok s hs).kx hk1 h.nor, hcI⟩
  have hb1 : Has w1 o n c b := hb.kx hk1 h.nob
  have HS := hid (show US tb B c' w1 from ⟨(cell_in hblk1 0 _ rfl).1, (cell_in hblk1 1 _ rfl).1, node_lt hblk1⟩)
  have HC := hid (fun X (hX : Below w1.heap.size w1 X) => clone_ok o n c b X (hb1.below hX) (by omega))
  have HT := hid hT1
  have HK := hid hk1
  have HM := hid (And.intro hr (And.intro hf (And.intro hl (And.intro hm (And.intro hx1 (And.intro hx (And.intro hla (And.intro hcI hn))))))))
  have HW1 := hid hw1
  clear hc' hcI hw1 hk1 hblk1 hB1 hT1 hb1 h hb hr hf hl hm hx1 hx hla hn
  go_enter Tryd.func31, Tryd.ntmps31
  go_wp2_with fail
  rw [← HW1.out]
  clear c0 c1 f0 f1 hw HW1 hlt
  refine region_L 14 (fun X : World => X.cell? ⟨tb, 0, none⟩ = some (.map (some B)) ∧ X.cell? ⟨tb, 1, none⟩ = some (.int .i64 c') ∧ tb < X.heap.size) (by kernel_rfl) HS.out (fun hHeld => ?_)
  refine anyT 0 hHeld ?_
  refine anyT 1 hHeld ?_
  refine anyT 2 hHeld ?_
  refine anyT 3 hHeld ?_
  refine anyT 4 hHeld ?_
  refine anyT 5 hHeld ?_
  refine anyT 6 hHeld ?_
  refine anyT 7 hHeld ?_
  refine anyT 8 hHeld ?_
  refine anyT 9 hHeld ?_
  refine anyT 10 hHeld ?_
  refine anyT 11 hHeld ?_
  (try simp only [Act.put, List.setIfInBounds_toArray, List.set_cons_zero, List.set_cons_succ])
  refine anyO 12 (fun K hK => ?_)
  go_simp
  refine (HC.out _ (Below.refl _ w1).drew).mono ?_
  rintro e w2 ⟨o', c2, rfl, k1, k2, k3, k4⟩
  have hb2 : Below w1.heap.size w1 w2 := (Below.refl _ w1).drew.trans k4
  have HB2 := hid (And.intro k1 (And.intro k3 (And.intro hb2 k2)))
  have hHeld2 := HS.out.below hb2
  clear hHeld k1 k2 k3 k4 hb2
  go_simp
  refine hK.out _ _ hHeld2 ?_
  clear hK K
  (try simp only [Act.put, List.setIfInBounds_toArray, List.set_cons_zero, List.set_cons_succ])
  refine anyT 13 hHeld2 ?_
  refine anyZ (fun K hK => ?_)
  clear hHeld2
  have hT2 := HT.out.below HB2.out.2.2.1
  obtain ⟨hr, hf, hl, hm, hx1, hx, hla, hcI, hn⟩ := HM.out
  obtain ⟨w3, hupd, hm3, hg3⟩ := hT2.m.upd (s := ⟨x, la, c', o', n, c2, b⟩) hx (by have := hT2.few; unfold maxLen; omega) (hr _ rfl) (hf _ rfl)
  have hT3 := hT2.map_turn hm3 hg3 (hl _) (fun t ht => by
    rcases hm _ t ht with e | e
    · subst e
      exact .inr ⟨hx1, hx, hla, hcI, HB2.out.1.kx (L := own2 tb B) (.grown hg3 (fun g e => by cases e; exact .inr rfl)) hT2.nob, .inr ((HB2.out.2.2.2.kx (L := own2 tb B) (.grown hg3 (fun g e => by cases e; exact .inr rfl)) (fun g hg hl => by
        have h1 := node_lt HT.out.blk
        have h2 := HT.out.m.lt
        have h3 : w1.heap.size ≤ g := hg
        rcases hl with rfl | rfl <;> omega)).mono (Nat.zero_le _)), hn⟩
    · exact .inl e)
  have hF3 : Fr w.heap.size w3 o' c2 := (HB2.out.2.2.2.kx (L := own2 tb B) (.grown hg3 (fun g e => by cases e; exact .inr rfl)) (fun g hg hl => by
    have h1 := node_lt HT.out.blk
    have h2 := HT.out.m.lt
    have h3 : w1.heap.size ≤ g := hg
    rcases hl with rfl | rfl <;> omega)).mono HK.out.size
  have HR := hid (And.intro HB2.out.2.1 (And.intro hT3 (And.intro (HK.out.trans (Kx.trans (.below HB2.out.2.2.1) (Kx.grown hg3 (fun g e => by cases e; exact .inr rfl) : Kx (own2 tb B) w2 w3))) hF3)))
  dsimp only [sxv] at hupd
  clear hT2 hr hf hl hm hx1 hx hla hcI hn hm3 hg3 hT3 hF3 HS HC HT HK HM HB2
  go_simp
  refine hK.out _ _ ?_
  clear hK K
  go_wp2_with fail
  (try simp only [Exit.inBlock, Exit.then])
  exact bodyPost_end (v := .tuple #[]) (by simp [results, Tryd.results31, go_sem]) rfl ⟨o', c2, rfl, HR.out⟩
end Go.Proofs.YtjhclpionimjbaaDoor
