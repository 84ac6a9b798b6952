/-
  Whether sessions may stand in one table. Conditions: those that each theorem names.
-/
import Derived.Test.YtjhclpionimjbaaDoorZRi
import Derived.Test.YtjhclpionimjbaaDoorZG
import Derived.Deep.AppendLies
namespace Go.Proofs.YtjhclpionimjbaaDoor
open Go.RowKit Go.Maps Go.Sort
set_option linter.unusedVariables false
section
variable {P : Program} {md : Region.Mode} {ops : Array Oper} {Q : Exit → Act → World → Prop} {S : World → Prop} {z : Nat}
theorem anyL_two {i j : Nat} {o o' : Oper} {n : Nat} {l : Array Bool} {a : Act} {w : World} (hr : Region.ready md ops l = [i, j]) (ho : ops[i]? = some o) (ho' : ops[j]? = some o')
    (h : ∀ K' : Act → World → Prop, Shut (∀ a w, S w → anyL P md ops Q S z n (l.setIfInBounds i true) a w → K' a w) → if Region.wanted o (yielded ops a.tmps) = true then Oper.wp P o a w K' Q else K' (a.put o.dst undef) w)
    (h' : ∀ K' : Act → World → Prop, Shut (∀ a w, S w → anyL P md ops Q S z n (l.setIfInBounds j true) a w → K' a w) → if Region.wanted o' (yielded ops a.tmps) = true then Oper.wp P o' a w K' Q else K' (a.put o'.dst undef) w) : anyL P md ops Q S z (n + 1) l a w := by
  refine ⟨(fun h0 => by rw [hr] at h0; cases h0), fun k hk => ?_⟩
  rw [hr, List.mem_cons, List.mem_singleton] at hk
  rcases hk with rfl | rfl
  · exact wpOp_step ho fun K' hK => h K' fun a w hS hW => hK a w ⟨fun _ => hS, hW⟩
  · exact wpOp_step ho' fun K' hK => h' K' fun a w hS hW => hK a w ⟨fun _ => hS, hW⟩
theorem anyD (i j : Nat) {o o' : Oper} {n : Nat} {l : Array Bool} {a : Act} {w : World}
    (h : ∀ K' : Act → World → Prop, Shut (∀ a w, S w → anyL P md ops Q S z n (l.setIfInBounds i true) a w → K' a w) → if Region.wanted o (yielded ops a.tmps) = true then Oper.wp P o a w K' Q else K' (a.put o.dst undef) w)
    (h' : ∀ K' : Act → World → Prop, Shut (∀ a w, S w → anyL P md ops Q S z n (l.setIfInBounds j true) a w → K' a w) → if Region.wanted o' (yielded ops a.tmps) = true then Oper.wp P o' a w K' Q else K' (a.put o'.dst undef) w)
    (hi : nthO ops.toList i = some o := by exact rfl) (hj : nthO ops.toList j = some o' := by exact rfl) (hr : Region.ready md ops l = [i, j] := by kernel_rfl) : anyL P md ops Q S z (n + 1) l a w := anyL_two hr (nthO_at hi) (nthO_at hj) h h'
end
/-- Two rows of numbers, one apart from the other. -/
structure PI (m : Nat) (v5 : Value) (x5 : List Int) (v6 : Value) (x6 : List Int) (W : World) : Prop where
  o5 : W.ownsRow m 3 1 v5 x5.length (iv x5)
  o6 : W.ownsRow m 3 1 v6 x6.length (iv x6)
  ne : ∀ g, v5.ownBlock = some g → v6.ownBlock ≠ some g
  le : m ≤ W.heap.size
theorem PI.symm {m : Nat} {v5 v6 : Value} {x5 x6 : List Int} {W : World} (h : PI m v5 x5 v6 x6 W) : PI m v6 x6 v5 x5 W := ⟨h.o6, h.o5, fun g h1 h2 => h.ne g h2 h1, h.le⟩
theorem own_same {W W' : World} {m n : Nat} {v : Value} {xs : List Value} (h : W.ownsRow m 3 1 v n xs) (hb : ∀ g, v.ownBlock = some g → g < W.heap.size → W'.heap[g]? = W.heap[g]?) : W'.ownsRow m 3 1 v n xs := by
  obtain ⟨h1, h | ⟨g, cap, cur, rfl, h2, h3, h4⟩⟩ := h
  · exact ⟨h1, .inl h⟩
  · exact ⟨h1, .inr ⟨g, cap, cur, rfl, h2, (hb g rfl (node_lt h3)).trans h3, h4⟩⟩
theorem own_lt {W : World} {m n : Nat} {v : Value} {xs : List Value} (h : W.ownsRow m 3 1 v n xs) {g : Nat} (hg : v.ownBlock = some g) : m ≤ g ∧ g < W.heap.size := by
  obtain ⟨h1, h | ⟨g', cap, cur, rfl, h2, h3, h4⟩⟩ := h
  · rw [h.1] at hg; cases hg
  · cases hg; exact ⟨h2, node_lt h3⟩
theorem PI.below {m : Nat} {v5 v6 : Value} {x5 x6 : List Int} {W W' : World} (h : PI m v5 x5 v6 x6 W) (hb : Below W.heap.size W W') : PI m v5 x5 v6 x6 W' :=
  ⟨own_same h.o5 (fun g _ hl => hb.block g hl), own_same h.o6 (fun g _ hl => hb.block g hl), h.ne, Nat.le_trans h.le hb.size⟩
theorem PI.app {m : Nat} {v5 v6 : Value} {x5 x6 : List Int} {W W' : World} (h : PI m v5 x5 v6 x6 W) {x : Int} {g c n : Nat} (hn : n = x5.length) (ho : W'.ownsRow m 3 1 (.slice (some ⟨g, 0, none⟩) (n + 1) c) (n + 1) (iv x5 ++ [.int .i64 x])) (hg : W.grownBy W' v5.ownBlock) (hat : v5.ownBlock = some g ∨ g = W.heap.size) : PI m (.slice (some ⟨g, 0, none⟩) (n + 1) c) (x5 ++ [x]) v6 x6 W' := by
  subst hn
  refine ⟨by simpa [iv] using ho, own_same h.o6 (fun k hk hl => hg.block k hl (fun e => h.ne k e.symm hk)), fun k hk hk2 => ?_, Nat.le_trans h.le hg.size⟩
  have hk' : g = k := by simpa [Value.ownBlock] using hk
  subst hk'
  rcases hat with e | e
  · exact h.ne g e hk2
  · have := (own_lt h.o6 hk2).2; omega
/-- What a region reads of the session's copy. -/
def CS (b8 : Nat) (i u : Int) (X : World) : Prop := X.cell? ⟨b8, 0, none⟩ = some (.int .i64 i) ∧ X.cell? ⟨b8, 2, none⟩ = some (.int .i64 u) ∧ b8 < X.heap.size
theorem CS.below {b8 : Nat} {i u : Int} {X Y : World} (h : CS b8 i u X) (hb : Below X.heap.size X Y) : CS b8 i u Y := ⟨(hb.cell (p := ⟨b8, 0, none⟩) h.2.2).trans h.1, (hb.cell (p := ⟨b8, 2, none⟩) h.2.2).trans h.2.1, Nat.lt_of_lt_of_le h.2.2 hb.size⟩
theorem CS.grown {b8 : Nat} {i u : Int} {X Y : World} {r : Option Nat} (h : CS b8 i u X) (hg : X.grownBy Y r) (hr : r ≠ some b8) : CS b8 i u Y := by
  have hb := hg.block b8 h.2.2 (fun e => hr e.symm)
  exact ⟨(World.cell?_of_block (a := ⟨b8, 0, none⟩) hb).trans h.1, (World.cell?_of_block (a := ⟨b8, 2, none⟩) hb).trans h.2.1, Nat.lt_of_lt_of_le h.2.2 hg.size⟩
def leq : Int → Int → Bool := fun x y => decide (x ≤ y)
def usS (ls : List Sx) : List Int := (ls.map Sx.u).mergeSort (fun x y => decide (x ≤ y))
/-- May sessions stand in one table? -/
def stB (ls : List Sx) (ck : Int) : Bool := ls.all (fun s => mayB s ck) && (riB (ls.map Sx.i) && riB (usS ls))
/-- While they are gone through. -/
structure SI (w : World) (ls : List Sx) (ck : Int) (k : Nat) (v5 v6 : Value) (X : World) : Prop where
  pi : PI w.heap.size v5 ((ls.take k).map Sx.i) v6 ((ls.take k).map Sx.u) X
  all : ∀ s ∈ ls.take k, mayB s ck = true
  bel : Below w.heap.size w X
theorem SI.next {w X : World} {ls : List Sx} {ck : Int} {k : Nat} {v5 v6 : Value} (hk : k < ls.length) (hp : PI w.heap.size v5 ((ls.take k).map Sx.i ++ [ls[k].i]) v6 ((ls.take k).map Sx.u ++ [ls[k].u]) X) (ha : ∀ s ∈ ls.take k, mayB s ck = true) (hm : mayB ls[k] ck = true) (hb : Below w.heap.size w X) : SI w ls ck (k + 1) v5 v6 X := by
  have e : ls.take (k + 1) = ls.take k ++ [ls[k]] := List.take_succ_eq_append_getElem hk
  refine ⟨?_, ?_, hb⟩
  · rw [e, List.map_append, List.map_append]; exact hp
  · rw [e]
    intro s hs
    rcases List.mem_append.1 hs with hs | hs
    · exact ha s hs
    · rw [List.mem_singleton] at hs; rw [hs]; exact hm
theorem Tryd.infoInt : (Tryd.prog.info? 3).map (fun i => (i.zero, i.size, i.bytes)) = some (some (.int .i64 0), 1, 8) := by kernel_rfl
theorem new_int (w : World) (x : Int) : ∀ j u, [Value.int .i64 x][j]? = some u → (w.alloc (.cells #[.int .i64 x] 3)).cell? ((⟨w.heap.size, 0, none⟩ : Addr).add j) = some u := one_new w _ 3
theorem new_intB {w W : World} (x : Int) (hb : Below (w.heap.size + 1) (w.alloc (.cells #[.int .i64 x] 3)) W) : ∀ j u, [Value.int .i64 x][j]? = some u → W.cell? ((⟨w.heap.size, 0, none⟩ : Addr).add j) = some u := by
  intro j u hj
  rw [Addr.add_lit, Nat.zero_add]
  have h := new_int w x j u hj
  rw [Addr.add_lit, Nat.zero_add] at h
  exact (hb.cell (p := ⟨w.heap.size, j, none⟩) (by simp)).trans h
/-- A new number in a block of its own. -/
structure NI (W W0 : World) (b : Nat) (x : Int) : Prop where
  new : ∀ j u, [Value.int .i64 x][j]? = some u → W.cell? ((⟨b, 0, none⟩ : Addr).add j) = some u
  lt : b < W.heap.size
  ge : W0.heap.size ≤ b
theorem NI.below {W W' W0 : World} {b : Nat} {x : Int} (h : NI W W0 b x) (hb : Below W.heap.size W W') : NI W' W0 b x := ⟨fun j u hj => by
  have := h.new j u hj
  rw [Addr.add_lit] at this ⊢
  exact (hb.cell (p := ⟨b, 0 + j, none⟩) h.lt).trans this, Nat.lt_of_lt_of_le h.lt hb.size, h.ge⟩
theorem NI.grown {W W' W0 : World} {b : Nat} {x : Int} {r : Option Nat} (h : NI W W0 b x) (hg : W.grownBy W' r) (hr : ∀ g, r = some g → g < W0.heap.size) : NI W' W0 b x := ⟨fun j u hj => by
  have := h.new j u hj
  rw [Addr.add_lit] at this ⊢
  exact (World.cell?_of_block (a := ⟨b, 0 + j, none⟩) (hg.block b h.lt (fun e => by have := hr b e.symm; have := h.ge; omega))).trans this, Nat.lt_of_lt_of_le h.lt hg.size, h.ge⟩
set_option maxRecDepth 100000 in
set_option maxHeartbeats 8000000 in
theorem stand_ok {w : World} {a : Option Addr} {n cap : Nat} {ls : List Sx} (h : RowA w a n cap ls) (hn : n ≤ 8) (ck : Int) :
    Calls Tryd.prog 21 #[.slice a n cap, .int .i64 ck] w fun e w' => e = .returned (.bool (stB ls ck)) ∧ Below w.heap.size w w' := by
  obtain ⟨iT, hiT, hzT0, hzT1, hzT2⟩ := info_parts Tryd.infoInt
  have HA := hid h
  have hnI : (n : Int) ≤ 8 := by omega
  obtain ⟨R, hR⟩ : ∃ R, R = stB ls ck := ⟨_, rfl⟩
  have HRr := hid hR
  rw [← hR]
  have HS0 : Hid (SI w ls ck 0 (.slice none 0 0) (.slice none 0 0) w) := ⟨⟨World.ownsRow_nil _ _ _ _, World.ownsRow_nil _ _ _ _, fun g e => (by cases e), Nat.le_refl _⟩, fun s hs => (by cases hs), Below.refl _ _⟩
  clear h hR
  go_enter Tryd.func21, Tryd.ntmps21
  go_wp2_with fail
  go_loopw [5, 6, 11] (fun v5 v6 i wr => ∃ k : Nat, i = .int .i64 (k : Int) ∧ k ≤ n ∧ Hid (SI w ls ck k v5 v6 wr)) (fun _ _ i _ => n - (intOf i).toNat)
  case atStart => exact ⟨0, rfl, Nat.zero_le _, HS0⟩
  case round =>
    obtain ⟨k, rfl, hk, HR⟩ := hrel
    clear HS0
    by_cases hkn : k < n
    · have hkI : (k : Int) < (n : Int) := by omega
      have hrow := HA.out.below HR.out.bel
      have hkx : k < ls.length := by rw [HA.out.ln]; exact hkn
      obtain ⟨g, off, rfl, hg, hcs⟩ := hrow.at' (by omega)
      obtain ⟨q0, q1, q2, q3⟩ := hcs k hkx
      obtain ⟨wa, hwa⟩ : ∃ wa, wa = wr.alloc (.cells #[.int .i64 ls[k].i, .int .i64 ls[k].l, .int .i64 ls[k].u, .slice ls[k].o ls[k].n ls[k].c] 59) := ⟨_, rfl⟩
      have hba : Below wr.heap.size wr wa := by rw [hwa]; exact below_al wr _
      have qa : wa.heap[wr.heap.size]? = some (.cells #[.int .i64 ls[k].i, .int .i64 ls[k].l, .int .i64 ls[k].u, .slice ls[k].o ls[k].n ls[k].c] 59) := by rw [hwa]; exact new_block_at wr _ rfl
      have HM := hid (mayBe_ok ls[k] ck wa)
      have HCa := hid (show CS wr.heap.size ls[k].i ls[k].u wa from ⟨(cell_in qa 0 _ rfl).1, (cell_in qa 2 _ rfl).1, node_lt qa⟩)
      have HPa := hid (HR.out.pi.below hba)
      have HBa := hid (HR.out.bel.trans (hba.mono HR.out.bel.size))
      have HNe : Hid (∀ g', wr.heap.size = g' → u5.ownBlock ≠ some g' ∧ u6.ownBlock ≠ some g') := fun g' e => ⟨fun h => by have := (own_lt HR.out.pi.o5 h).2; omega, fun h => by have := (own_lt HR.out.pi.o6 h).2; omega⟩
      have HNx := hid (fun v5 v6 X hp hm hb => SI.next (w := w) (X := X) (ck := ck) (v5 := v5) (v6 := v6) hkx hp HR.out.all hm hb)
      have HNo : Hid (mayB ls[k] ck = false → R = false) := fun e => by
        rw [HRr.out]
        unfold stB
        have : ls.all (fun s => mayB s ck) = false := by
          rw [List.all_eq_false]
          exact ⟨ls[k], List.getElem_mem hkx, by rw [e]; simp⟩
        rw [this]; rfl
      have HL5 : Hid (((ls.take k).map Sx.i).length = k ∧ ((ls.take k).map Sx.u).length = k) := by constructor <;> (simp; omega)
      have HWa := hid hwa
      generalize hsk : ls[k] = s at *
      obtain ⟨si, sl, su, so, sn, sc, sb⟩ := s
      dsimp only at q0 q1 q2 q3 HCa HNx HWa HM
      obtain ⟨M, hM⟩ : ∃ M, M = mayB ⟨si, sl, su, so, sn, sc, sb⟩ ck := ⟨_, rfl⟩
      rw [← hM] at HM HNx HNo
      clear hrow hcs hwa hba qa hsk hM
      generalize (ls.take k).map Sx.i = x5 at *
      generalize (ls.take k).map Sx.u = x6 at *
      go_wp2_with fail
      rw [← HWa.out]
      refine HM.out.mono ?_
      rintro e X1 ⟨rfl, hb1⟩
      have HC1 := hid (HCa.out.below hb1)
      have HP1 := hid (HPa.out.below hb1)
      have HB1 := hid (HBa.out.trans (hb1.mono HBa.out.size))
      clear hb1 HM HCa HPa HBa HWa HR q0 q1 q2 q3
      cases M with
      | false =>
        have HF := hid (HNo.out rfl)
        go_wp2_with fail
        go_ret
        exact ⟨by rw [HF.out]; rfl, HB1.out⟩
      | true =>
        have HD : Hid (CS wr.heap.size si su X1.drew) := HC1.out
        go_wp2_with fail
        refine region_L 99 (fun X : World => X.cell? ⟨wr.heap.size, 0, none⟩ = some (.int .i64 si) ∧ X.cell? ⟨wr.heap.size, 2, none⟩ = some (.int .i64 su) ∧ wr.heap.size < X.heap.size) (by kernel_rfl) HD.out (fun hHeld => ?_)
        refine anyT 0 hHeld ?_
        refine anyT 1 hHeld ?_
        refine anyT 2 hHeld ?_
        refine anyT 5 hHeld ?_
        refine anyT 6 hHeld ?_
        refine anyT 7 hHeld ?_
        clear hHeld
        (try simp only [Act.put, List.setIfInBounds_toArray, List.set_cons_zero, List.set_cons_succ])
        have HP1d : Hid (PI w.heap.size u5 x5 u6 x6 X1.drew) := HP1.out.below (Below.refl _ X1).drew
        have HB1d : Hid (Below w.heap.size w X1.drew) := HB1.out.drew
        generalize X1.drew = W0 at *
        have HD0 := HD
        have HP0 := HP1d
        have HB0 := HB1d
        have HZ0 : Hid (W0.heap.size ≤ W0.heap.size) := Nat.le_refl _
        refine anyD 3 8 (fun K hK => ?_) (fun K hK => ?_)
        · go_simp
          obtain ⟨W1, hW⟩ : ∃ W1, W1 = W0.alloc (.cells #[.int .i64 si] 3) := ⟨_, rfl⟩
          have hbb : Below W0.heap.size W0 W1 := by rw [hW]; exact below_al W0 _
          have HD1 := hid (HD0.out.below hbb)
          have HP1 := hid (HP0.out.below hbb)
          have HB1 := hid (HB0.out.trans (hbb.mono HB0.out.size))
          have HNsi : Hid (NI W1 W0 W0.heap.size si) := ⟨by rw [hW]; exact new_int W0 si, by rw [hW]; simp, HZ0.out⟩
          have HZ1 : Hid (W0.heap.size ≤ W1.heap.size) := Nat.le_trans HZ0.out hbb.size
          rw [← hW]
          refine hK.out _ _ HD1.out ?_
          clear hK K hW hbb
          (try simp only [Act.put, List.setIfInBounds_toArray, List.set_cons_zero, List.set_cons_succ])
          refine anyD 4 8 (fun K hK => ?_) (fun K hK => ?_)
          · refine step_append_lies _ rfl (.tmp 19) (.tmp 22) 76 rfl w.heap.size 3 iT (.int .i64 0) 1 8 Tryd.underlying76 hiT hzT0 hzT1 hzT2 rfl (by decide) u5 k (iv x5) (by rfl) (by have := HP1.out.o5; rw [HL5.out.1] at this; exact this) ⟨W0.heap.size, 0, none⟩ 1 1 [.int .i64 si] (by rfl) rfl HNsi.out.new (by simp [Value.oneCell']) (by decide) (by unfold maxLen; omega) (by omega) HP1.out.le _ rfl ?_
            intro g2 cap2 W2 hown hgr hat hlt
            have HP2 := hid (HP1.out.app HL5.out.1.symm hown hgr hat)
            have HD2 := hid (HD1.out.grown hgr ((HNe.out _ rfl).1))
            have HB2 := hid (HB1.out.grown hgr HB1.out.size (fun g e => (own_lt HP1.out.o5 e).1))
            have HZ2 : Hid (W0.heap.size ≤ W2.heap.size) := Nat.le_trans HZ1.out hgr.size
            refine hK.out _ _ HD2.out ?_
            clear hK K hown hgr hat hlt
            (try simp only [Act.put, List.setIfInBounds_toArray, List.set_cons_zero, List.set_cons_succ])
            refine anyO 8 (fun K hK => ?_)
            go_simp
            obtain ⟨W3, hW⟩ : ∃ W3, W3 = W2.alloc (.cells #[.int .i64 su] 3) := ⟨_, rfl⟩
            have hbb : Below W2.heap.size W2 W3 := by rw [hW]; exact below_al W2 _
            have HD3 := hid (HD2.out.below hbb)
            have HP3 := hid (HP2.out.below hbb)
            have HB3 := hid (HB2.out.trans (hbb.mono HB2.out.size))
            have HNsu : Hid (NI W3 W0 W2.heap.size su) := ⟨by rw [hW]; exact new_int W2 su, by rw [hW]; simp, HZ2.out⟩
            have HZ3 : Hid (W0.heap.size ≤ W3.heap.size) := Nat.le_trans HZ2.out hbb.size
            rw [← hW]
            refine hK.out _ _ HD3.out ?_
            clear hK K hW hbb
            (try simp only [Act.put, List.setIfInBounds_toArray, List.set_cons_zero, List.set_cons_succ])
            refine anyO 9 (fun K hK => ?_)
            refine step_append_lies _ rfl (.tmp 24) (.tmp 27) 76 rfl w.heap.size 3 iT (.int .i64 0) 1 8 Tryd.underlying76 hiT hzT0 hzT1 hzT2 rfl (by decide) u6 k (iv x6) (by rfl) (by have := HP3.out.o6; rw [HL5.out.2] at this; exact this) ⟨W2.heap.size, 0, none⟩ 1 1 [.int .i64 su] (by rfl) rfl HNsu.out.new (by simp [Value.oneCell']) (by decide) (by unfold maxLen; omega) (by omega) HP3.out.le _ rfl ?_
            intro g4 cap4 W4 hown hgr hat hlt
            have HP4 := hid ((HP3.out.symm.app HL5.out.2.symm hown hgr hat).symm)
            have HD4 := hid (HD3.out.grown hgr ((HNe.out _ rfl).2))
            have HB4 := hid (HB3.out.grown hgr HB3.out.size (fun g e => (own_lt HP3.out.o6 e).1))
            have HZ4 : Hid (W0.heap.size ≤ W4.heap.size) := Nat.le_trans HZ3.out hgr.size
            refine hK.out _ _ HD4.out ?_
            clear hK K hown hgr hat hlt
            (try simp only [Act.put, List.setIfInBounds_toArray, List.set_cons_zero, List.set_cons_succ])
            have hHeld := HD4.out
            unfold CS at hHeld
            refine anyT 10 hHeld ?_
            refine anyT 11 hHeld ?_
            refine ⟨by kernel_rfl, ?_⟩
            have HFin := hid (HNx.out _ _ _ HP4.out (by trivial) HB4.out)
            clear hHeld HNx HNo
            go_wp2_with fail
            exact ⟨⟨k + 1, by go_num, by omega, HFin⟩, by simp [intOf]; omega⟩
          · go_simp
            obtain ⟨W2, hW⟩ : ∃ W2, W2 = W1.alloc (.cells #[.int .i64 su] 3) := ⟨_, rfl⟩
            have hbb : Below W1.heap.size W1 W2 := by rw [hW]; exact below_al W1 _
            have HD2 := hid (HD1.out.below hbb)
            have HP2 := hid (HP1.out.below hbb)
            have HB2 := hid (HB1.out.trans (hbb.mono HB1.out.size))
            have HNsu : Hid (NI W2 W0 W1.heap.size su) := ⟨by rw [hW]; exact new_int W1 su, by rw [hW]; simp, HZ1.out⟩
            have HZ2 : Hid (W0.heap.size ≤ W2.heap.size) := Nat.le_trans HZ1.out hbb.size
            have HNsib := hid (HNsi.out.below hbb)
            rw [← hW]
            refine hK.out _ _ HD2.out ?_
            clear hK K hW hbb
            (try simp only [Act.put, List.setIfInBounds_toArray, List.set_cons_zero, List.set_cons_succ])
            refine anyO 4 (fun K hK => ?_)
            refine step_append_lies _ rfl (.tmp 19) (.tmp 22) 76 rfl w.heap.size 3 iT (.int .i64 0) 1 8 Tryd.underlying76 hiT hzT0 hzT1 hzT2 rfl (by decide) u5 k (iv x5) (by rfl) (by have := HP2.out.o5; rw [HL5.out.1] at this; exact this) ⟨W0.heap.size, 0, none⟩ 1 1 [.int .i64 si] (by rfl) rfl HNsib.out.new (by simp [Value.oneCell']) (by decide) (by unfold maxLen; omega) (by omega) HP2.out.le _ rfl ?_
            intro g3 cap3 W3 hown hgr hat hlt
            have HP3 := hid (HP2.out.app HL5.out.1.symm hown hgr hat)
            have HD3 := hid (HD2.out.grown hgr ((HNe.out _ rfl).1))
            have HB3 := hid (HB2.out.grown hgr HB2.out.size (fun g e => (own_lt HP2.out.o5 e).1))
            have HZ3 : Hid (W0.heap.size ≤ W3.heap.size) := Nat.le_trans HZ2.out hgr.size
            have HNsub := hid (HNsu.out.grown hgr (fun g e => (own_lt HP0.out.o5 e).2))
            refine hK.out _ _ HD3.out ?_
            clear hK K hown hgr hat hlt
            (try simp only [Act.put, List.setIfInBounds_toArray, List.set_cons_zero, List.set_cons_succ])
            refine anyO 9 (fun K hK => ?_)
            refine step_append_lies _ rfl (.tmp 24) (.tmp 27) 76 rfl w.heap.size 3 iT (.int .i64 0) 1 8 Tryd.underlying76 hiT hzT0 hzT1 hzT2 rfl (by decide) u6 k (iv x6) (by rfl) (by have := HP3.out.o6; rw [HL5.out.2] at this; exact this) ⟨W1.heap.size, 0, none⟩ 1 1 [.int .i64 su] (by rfl) rfl HNsub.out.new (by simp [Value.oneCell']) (by decide) (by unfold maxLen; omega) (by omega) HP3.out.le _ rfl ?_
            intro g4 cap4 W4 hown hgr hat hlt
            have HP4 := hid ((HP3.out.symm.app HL5.out.2.symm hown hgr hat).symm)
            have HD4 := hid (HD3.out.grown hgr ((HNe.out _ rfl).2))
            have HB4 := hid (HB3.out.grown hgr HB3.out.size (fun g e => (own_lt HP3.out.o6 e).1))
            have HZ4 : Hid (W0.heap.size ≤ W4.heap.size) := Nat.le_trans HZ3.out hgr.size
            refine hK.out _ _ HD4.out ?_
            clear hK K hown hgr hat hlt
            (try simp only [Act.put, List.setIfInBounds_toArray, List.set_cons_zero, List.set_cons_succ])
            have hHeld := HD4.out
            unfold CS at hHeld
            refine anyT 10 hHeld ?_
            refine anyT 11 hHeld ?_
            refine ⟨by kernel_rfl, ?_⟩
            have HFin := hid (HNx.out _ _ _ HP4.out (by trivial) HB4.out)
            clear hHeld HNx HNo
            go_wp2_with fail
            exact ⟨⟨k + 1, by go_num, by omega, HFin⟩, by simp [intOf]; omega⟩
        · go_simp
          obtain ⟨W1, hW⟩ : ∃ W1, W1 = W0.alloc (.cells #[.int .i64 su] 3) := ⟨_, rfl⟩
          have hbb : Below W0.heap.size W0 W1 := by rw [hW]; exact below_al W0 _
          have HD1 := hid (HD0.out.below hbb)
          have HP1 := hid (HP0.out.below hbb)
          have HB1 := hid (HB0.out.trans (hbb.mono HB0.out.size))
          have HNsu : Hid (NI W1 W0 W0.heap.size su) := ⟨by rw [hW]; exact new_int W0 su, by rw [hW]; simp, HZ0.out⟩
          have HZ1 : Hid (W0.heap.size ≤ W1.heap.size) := Nat.le_trans HZ0.out hbb.size
          rw [← hW]
          refine hK.out _ _ HD1.out ?_
          clear hK K hW hbb
          (try simp only [Act.put, List.setIfInBounds_toArray, List.set_cons_zero, List.set_cons_succ])
          refine anyO 3 (fun K hK => ?_)
          go_simp
          obtain ⟨W2, hW⟩ : ∃ W2, W2 = W1.alloc (.cells #[.int .i64 si] 3) := ⟨_, rfl⟩
          have hbb : Below W1.heap.size W1 W2 := by rw [hW]; exact below_al W1 _
          have HD2 := hid (HD1.out.below hbb)
          have HP2 := hid (HP1.out.below hbb)
          have HB2 := hid (HB1.out.trans (hbb.mono HB1.out.size))
          have HNsi : Hid (NI W2 W0 W1.heap.size si) := ⟨by rw [hW]; exact new_int W1 si, by rw [hW]; simp, HZ1.out⟩
          have HZ2 : Hid (W0.heap.size ≤ W2.heap.size) := Nat.le_trans HZ1.out hbb.size
          have HNsub := hid (HNsu.out.below hbb)
          rw [← hW]
          refine hK.out _ _ HD2.out ?_
          clear hK K hW hbb
          (try simp only [Act.put, List.setIfInBounds_toArray, List.set_cons_zero, List.set_cons_succ])
          refine anyO 4 (fun K hK => ?_)
          refine step_append_lies _ rfl (.tmp 19) (.tmp 22) 76 rfl w.heap.size 3 iT (.int .i64 0) 1 8 Tryd.underlying76 hiT hzT0 hzT1 hzT2 rfl (by decide) u5 k (iv x5) (by rfl) (by have := HP2.out.o5; rw [HL5.out.1] at this; exact this) ⟨W1.heap.size, 0, none⟩ 1 1 [.int .i64 si] (by rfl) rfl HNsi.out.new (by simp [Value.oneCell']) (by decide) (by unfold maxLen; omega) (by omega) HP2.out.le _ rfl ?_
          intro g3 cap3 W3 hown hgr hat hlt
          have HP3 := hid (HP2.out.app HL5.out.1.symm hown hgr hat)
          have HD3 := hid (HD2.out.grown hgr ((HNe.out _ rfl).1))
          have HB3 := hid (HB2.out.grown hgr HB2.out.size (fun g e => (own_lt HP2.out.o5 e).1))
          have HZ3 : Hid (W0.heap.size ≤ W3.heap.size) := Nat.le_trans HZ2.out hgr.size
          have HNsubb := hid (HNsub.out.grown hgr (fun g e => (own_lt HP0.out.o5 e).2))
          refine hK.out _ _ HD3.out ?_
          clear hK K hown hgr hat hlt
          (try simp only [Act.put, List.setIfInBounds_toArray, List.set_cons_zero, List.set_cons_succ])
          refine anyO 9 (fun K hK => ?_)
          refine step_append_lies _ rfl (.tmp 24) (.tmp 27) 76 rfl w.heap.size 3 iT (.int .i64 0) 1 8 Tryd.underlying76 hiT hzT0 hzT1 hzT2 rfl (by decide) u6 k (iv x6) (by rfl) (by have := HP3.out.o6; rw [HL5.out.2] at this; exact this) ⟨W0.heap.size, 0, none⟩ 1 1 [.int .i64 su] (by rfl) rfl HNsubb.out.new (by simp [Value.oneCell']) (by decide) (by unfold maxLen; omega) (by omega) HP3.out.le _ rfl ?_
          intro g4 cap4 W4 hown hgr hat hlt
          have HP4 := hid ((HP3.out.symm.app HL5.out.2.symm hown hgr hat).symm)
          have HD4 := hid (HD3.out.grown hgr ((HNe.out _ rfl).2))
          have HB4 := hid (HB3.out.grown hgr HB3.out.size (fun g e => (own_lt HP3.out.o6 e).1))
          have HZ4 : Hid (W0.heap.size ≤ W4.heap.size) := Nat.le_trans HZ3.out hgr.size
          refine hK.out _ _ HD4.out ?_
          clear hK K hown hgr hat hlt
          (try simp only [Act.put, List.setIfInBounds_toArray, List.set_cons_zero, List.set_cons_succ])
          have hHeld := HD4.out
          unfold CS at hHeld
          refine anyT 10 hHeld ?_
          refine anyT 11 hHeld ?_
          refine ⟨by kernel_rfl, ?_⟩
          have HFin := hid (HNx.out _ _ _ HP4.out (by trivial) HB4.out)
          clear hHeld HNx HNo
          go_wp2_with fail
          exact ⟨⟨k + 1, by go_num, by omega, HFin⟩, by simp [intOf]; omega⟩
    · have hkI : ¬ (k : Int) < (n : Int) := by omega
      have hkd : decide ((k : Int) < (n : Int)) = false := by simpa using hkI
      have hkd2 : decide (k < n) = false := by simpa using hkn
      have hkl : k = ls.length := by rw [HA.out.ln]; omega
      have HP : Hid (PI w.heap.size u5 (ls.map Sx.i) u6 (ls.map Sx.u) wr) := by
        have := HR.out.pi
        rw [hkl, List.take_length] at this
        exact this
      have HAl : Hid (ls.all (fun s => mayB s ck) = true) := by
        rw [List.all_eq_true]
        intro s hs
        exact HR.out.all s (by rw [hkl, List.take_length]; exact hs)
      have HB := hid HR.out.bel
      have HS := hid (sort_ok HP.out.o6 (by simp; omega))
      clear HR
      go_wp2_with fail
      refine HS.out.mono ?_
      rintro e X1 ⟨rfl, ho6, hg6⟩
      have ho5 := own_same HP.out.o5 (W' := X1) (fun g hg hl => hg6.block g hl (fun e => HP.out.ne g hg e.symm))
      have HB1 := hid (HB.out.grown hg6 HB.out.size (fun g e => (own_lt HP.out.o6 e).1))
      have HR5 := hid (rise_ok ho5)
      have HO6 := hid ho6
      clear ho5 ho6 hg6 HS
      obtain ⟨r5, hr5⟩ : ∃ r5, r5 = riB (ls.map Sx.i) := ⟨_, rfl⟩
      have HR50 := hid hr5
      rw [← hr5] at HR5
      clear hr5
      go_wp2_with fail
      refine HR5.out.mono ?_
      rintro e X2 ⟨rfl, hb2⟩
      have HB2 := hid (HB1.out.trans (hb2.mono HB1.out.size))
      have HR6 := hid (rise_ok (xs := usS ls) (own_same HO6.out (fun g _ hl => hb2.block g hl)))
      clear hb2 HR5
      obtain ⟨r6, hr6⟩ : ∃ r6, r6 = riB (usS ls) := ⟨_, rfl⟩
      have HR60 := hid hr6
      rw [← hr6] at HR6
      clear hr6
      have HRf : Hid (R = (r5 && r6)) := by
        rw [HRr.out]
        unfold stB
        rw [HAl.out, ← HR50.out, ← HR60.out, Bool.true_and]
        exact rfl
      clear HO6 HAl HP HB HB1
      cases r5 with
      | false =>
        go_wp2_with fail
        go_ret
        exact ⟨by rw [HRf.out]; rfl, HB2.out⟩
      | true =>
        go_wp2_with fail
        refine HR6.out.mono ?_
        rintro e X3 ⟨rfl, hb3⟩
        have HB3 := hid (HB2.out.trans (hb3.mono HB2.out.size))
        clear hb3
        go_wp2_with fail
        go_ret
        exact ⟨by rw [HRf.out, Bool.true_and]; rfl, HB3.out⟩
end Go.Proofs.YtjhclpionimjbaaDoor
