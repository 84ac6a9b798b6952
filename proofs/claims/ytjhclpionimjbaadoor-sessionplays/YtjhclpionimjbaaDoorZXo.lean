/-
  The document's Open. Conditions: those that each theorem names.
-/
import Derived.Test.YtjhclpionimjbaaDoorZXp
namespace Go.Proofs.YtjhclpionimjbaaDoor
open Go.RowKit Go.Maps
set_option linter.unusedVariables false
theorem own_sameS {W W' : World} {m n : Nat} {v : Value} {xs : List Value} (h : W.ownsRow m 59 4 v n xs) (hb : ∀ g, v.ownBlock = some g → g < W.heap.size → W'.heap[g]? = W.heap[g]?) : W'.ownsRow m 59 4 v n xs := by
  obtain ⟨k1, e | ⟨g, cap, cur, rfl, h1, h2, h3⟩⟩ := h
  · exact ⟨k1, .inl e⟩
  · exact ⟨k1, .inr ⟨g, cap, cur, rfl, h1, (hb g rfl (node_lt h2)).trans h2, h3⟩⟩
/-- What Open of the document does. -/
def XoR (w : World) (m xb : Nat) (l : List Sx) (ck x : Int) (e : Ending) (w' : World) : Prop := ∃ l' ck' d er v', e = .returned (.tuple #[.int .i64 d, .int .i64 (cdE er)]) ∧ OpenR l ck x l' ck' d er ∧ Xt w' m xb v' l' ck' ∧ Kx (fun g => g = xb) w w'
/-- The row with a new session put in. -/
theorem put_in {W : World} {m xb : Nat} {so : Option Addr} {cp k : Nat} {l1 : List Sx} {c' x : Int} (hX : Xt W m xb (.slice so l1.length cp) l1 c') (hk : k ≤ l1.length) (h7 : l1.length ≤ 7) (hxI : inI x) (hI : ∀ S : Sx, S.i = x → ins l1 S = l1.take k ++ S :: l1.drop k) :
    ∃ v1 W1 v2 W2 so3 cp3 W3 so2, (Builtin.append_ #[22, 22] 22 #[.slice none 0 0, .slice so k cp]).run Tryd.prog W = .ok v1 W1 ∧ (Builtin.append_ #[22, 22] 22 #[v1, .slice (some ⟨W1.heap.size, 0, none⟩) 1 1]).run Tryd.prog (W1.alloc (.cells #[.int .i64 x, .int .i64 0, .int .i64 c', .slice none 0 0] 59)) = .ok v2 W2 ∧
      (∀ X : World, (Instr.slice 22 (.slice so l1.length cp) none (some (.int .i64 (k : Int))) none).run Tryd.prog X = .ok (.slice so k cp) X) ∧ (∀ X : World, (Instr.slice 22 (.slice so l1.length cp) (some (.int .i64 (k : Int))) none none).run Tryd.prog X = .ok (.slice so2 (l1.length - k) (cp - k)) X) ∧
      (Builtin.append_ #[22, 22] 22 #[v2, .slice so2 (l1.length - k) (cp - k)]).run Tryd.prog W2 = .ok (.slice so3 (l1.length + 1) cp3) W3 ∧ XS xb (.slice so l1.length cp) c' W1 ∧ XS xb (.slice so l1.length cp) c' W2 ∧ XS xb (.slice so l1.length cp) c' W3 ∧ W3.frozen? ⟨xb, 0, none⟩ = false ∧
      Xt (W3.setCell ⟨xb, 0, none⟩ (.slice so3 (l1.length + 1) cp3)) m xb (.slice so3 (l1.length + 1) cp3) (ins l1 ⟨x, 0, c', none, 0, 0, []⟩) c' ∧ Kx (fun g => g = xb) W (W3.setCell ⟨xb, 0, none⟩ (.slice so3 (l1.length + 1) cp3)) := by
  obtain ⟨so', cp', e, hs⟩ := hX.row.src
  cases e
  obtain ⟨so2, hsl2, e1, e2, e3⟩ := slice_lo (so := so) (n := l1.length) (cp := cp) (k := k) hk hs.le hs.nil
  obtain ⟨v1, W1, hr1, ho1, hg1, hb1⟩ := app_row (W := W) (base := W.heap.size) (v := .slice none 0 0) (ls := []) (N := 0) (ps := l1.take k) (M := k) (World.ownsRow_nil _ _ _ _) rfl cp (by rw [List.length_take]; omega) (hs.hi hk) hs.nil (Nat.le_refl _) (by omega)
  obtain ⟨Wa, hWa⟩ : ∃ Wa, Wa = W1.alloc (.cells #[.int .i64 x, .int .i64 0, .int .i64 c', .slice none 0 0] 59) := ⟨_, rfl⟩
  have hba : Below W1.heap.size W1 Wa := by rw [hWa]; exact below_al W1 _
  have hsrcA : Src Wa (some ⟨W1.heap.size, 0, none⟩) 1 (cl [⟨x, 0, c', none, 0, 0, []⟩]) := .inr ⟨_, rfl, by rw [hWa]; exact four_new W1 (.int .i64 x) (.int .i64 0) (.int .i64 c') (.slice none 0 0) 59⟩
  have hbW1 : Below W.heap.size W Wa := hb1.trans (hba.mono hb1.size)
  obtain ⟨v2, W2, hr2, ho2, hg2, hb2⟩ := app_row (W := Wa) (base := W.heap.size) (v := v1) (N := 0 + k) (ps := [⟨x, 0, c', none, 0, 0, []⟩]) (M := 1) (own_sameS ho1 (fun g _ hlt => hba.block g hlt)) (by simp; omega) 1 rfl hsrcA (fun e => by cases e) hbW1.size (by omega)
  have hbW2 := hbW1.trans hb2
  have hsrc2 : Src W2 so2 (l1.length - k) (cl (l1.drop k)) := (hs.below hbW2).lo (so' := so2) hk e1 e2
  obtain ⟨v3, W3, hr3, ho3, hg3, hb3⟩ := app_row (W := W2) (base := W.heap.size) (v := v2) (N := 0 + k + 1) (ps := l1.drop k) (M := l1.length - k) ho2 (by simp; omega) (cp - k) (by simp) hsrc2 (fun e => e3 e) hbW2.size (by omega)
  have hbW3 := hbW2.trans hb3
  have hcl : cl ([] ++ l1.take k ++ [⟨x, 0, c', none, 0, 0, []⟩] ++ l1.drop k) = cl (ins l1 ⟨x, 0, c', none, 0, 0, []⟩) := by rw [hI _ rfl]; simp
  have hln : 0 + k + 1 + (l1.length - k) = l1.length + 1 := by omega
  rw [hcl, hln] at ho3
  obtain ⟨so3, cp3, rfl⟩ := row_slice ho3
  have hX3 := hX.below hbW3
  obtain ⟨d0, d1, _, _, dl, _⟩ := hX.cells
  have hxs : ∀ Y, Below W.heap.size W Y → XS xb (.slice so l1.length cp) c' Y := fun Y hY => ⟨(hY.cell (p := ⟨xb, 0, none⟩) dl).trans d0, (hY.cell (p := ⟨xb, 1, none⟩) dl).trans d1, Nat.lt_of_lt_of_le dl hY.size⟩
  have hT := hX.turn (W := W3) (v' := .slice so3 (l1.length + 1) cp3) (l' := ins l1 ⟨x, 0, c', none, 0, 0, []⟩) hbW3 hX.ms (by rw [len_ins]; exact ho3) (by rw [len_ins]; omega) (fun t ht => by
    rcases mem_ins.1 ht with rfl | ht
    · exact .inr ⟨⟨hxI, (by show inI 0; unfold inI; omega), hX.ckI⟩, rfl, Has.nil _, Fr.nil _ _⟩
    · exact .inl ht)
  refine ⟨v1, W1, v2, W2, so3, cp3, W3, so2, hr1, by rw [← hWa]; exact hr2, slice_hi hk hs.le hs.nil, hsl2, ?_, hxs _ hb1, hxs _ hbW2, hxs _ hbW3, (cell_in hX3.blk 0 _ rfl).2, hT.1, hT.2⟩
  rw [← hln]
  rw [← hln] at hr3
  exact hr3
set_option maxRecDepth 100000 in
set_option maxHeartbeats 8000000 in
theorem openx_ok {w : World} {m xb : Nat} {v : Value} {l : List Sx} {ck : Int} (h : Xt w m xb v l ck) (hr : Rise l) (x : Int) (hx : inI x) :
    Calls Tryd.prog 24 #[.pointer (some ⟨xb, 0, none⟩), .int .i64 x] w (XoR w m xb l ck x) := by
  have HF := hid (find_ok h x)
  have HX := hid h
  have HR := hid (And.intro hr hx)
  clear h hr hx
  by_cases hx1 : x < 1
  · have a1 : decide (x < 1) = true := by simpa using hx1
    go_enter Tryd.func24, Tryd.ntmps24
    go_wp2_with fail
    refine bodyPost_ret (v := .tuple #[.int .i64 0, .int .i64 1]) (by simp [results, Tryd.results24, go_sem]) rfl ?_
    exact ⟨l, ck, 0, errv 1, v, rfl, .inl ⟨rfl, rfl, rfl, rfl, .inl hx1⟩, HX.out, Kx.refl _ _⟩
  · have a1 : decide (x < 1) = false := by simpa using hx1
    obtain ⟨c', hc'⟩ : ∃ c', c' = ckn ck := ⟨_, rfl⟩
    have hw : IntKind.i64.wrap (ck + 1) = c' := hc'.symm
    have HC := hid hc'
    have HCI : Hid (inI c') := by rw [hc']; exact ckn_in ck
    clear hc'
    go_enter Tryd.func24, Tryd.ntmps24
    go_wp2_with fail
    refine HF.out.mono ?_
    rintro e w0 ⟨hb, ⟨k, hk, hx, hf, rfl⟩ | ⟨hf, rfl⟩⟩
    · have k0 : (0 : Int) ≤ (k : Int) := by omega
      have HE := hid (And.intro hb hf)
      have hk' := hk
      clear hb hf hx
      go_wp2_with fail
      refine bodyPost_ret (v := .tuple #[.int .i64 0, .int .i64 1]) (by simp [results, Tryd.results24, go_sem]) rfl ?_
      exact ⟨l, ck, 0, errv 1, v, rfl, .inl ⟨rfl, rfl, rfl, rfl, .inr (by rw [HE.out.2]; exact fun e => by cases e)⟩, HX.out.below HE.out.1, .below HE.out.1⟩
    · have HX0 := hid (HX.out.below hb)
      have HB0 := hid hb
      have HFn := hid hf
      clear hb hf HF
      obtain ⟨so, cp, rfl⟩ := row_slice HX0.out.row.own
      obtain ⟨p0, p1, pf0, pf1, plt, _⟩ := HX0.out.cells
      have hfew := HX0.out.few
      have hnI : (l.length : Int) ≤ 8 := by omega
      by_cases h8 : l.length = 8
      · have a8 : (l.length : Int) = 8 := by omega
        have b8 : ((l.length : Int) == 8) = true := by simpa using a8
        have HDr := hid (dropx_ok HX0.out HR.out.1 (by omega))
        have HL8 := hid h8
        go_wp2_with fail
        refine HDr.out.mono ?_
        rintro e w1 ⟨s, hs, hmin, rfl, v1, hX1, hk1⟩
        clear p0 p1 pf0 pf1 plt HDr a8 b8 hnI hfew h8
        have HDp : Hid (DropR l (del l s.i) s.i) := .inr ⟨by have := HL8.out; omega, s, hs, hmin, rfl, rfl⟩
        have HRl : Hid (Rise (del l s.i)) := rise_del HR.out.1 _
        have HNo : Hid (∀ t ∈ del l s.i, t.i ≠ x) := fun t ht => fnd_none HFn.out t (mem_del.1 ht).1
        have h7 : (del l s.i).length ≤ 7 := by have h1 := len_del HR.out.1 hs; have h2 := HL8.out; omega
        have HK1 : Hid (Kx (fun g => g = xb) w w1) := (Kx.below HB0.out).trans hk1
        obtain ⟨d, hd⟩ : ∃ d, d = s.i := ⟨_, rfl⟩
        rw [← hd] at HDp HRl HNo h7 hX1 ⊢
        generalize del l d = l1 at *
        obtain ⟨so1, cp1, rfl⟩ := row_slice hX1.row.own
        have HX1 := hid hX1
        clear hs hmin hX1 hk1 hd HX0 HB0 HX
        obtain ⟨p0, p1, pf0, pf1, plt, _⟩ := HX1.out.cells
        have hlI : (l1.length : Int) ≤ 7 := by omega
        obtain ⟨w2, hw2⟩ : ∃ w2, w2 = w1.setCell ⟨xb, 1, none⟩ (.int .i64 c') := ⟨_, rfl⟩
        have HX2 : Hid (Xt w2 m xb (.slice so1 l1.length cp1) l1 c') := by rw [hw2]; exact HX1.out.tick HCI.out
        have HK2 : Hid (Kx (fun g => g = xb) w w2) := by rw [hw2]; exact HK1.out.trans (Kx.set (P := fun g => g = xb) rfl _)
        have HW2 := hid hw2
        clear hw2 HX1 HK1
        go_wp2_with fail
        rw [← HW2.out]
        clear HW2 p0 p1 pf0 pf1 plt
        go_loopw [8] (fun i wr => ∃ k : Nat, i = .int .i64 (k : Int) ∧ k ≤ l1.length ∧ Hid (Below w2.heap.size w2 wr ∧ ∀ j (hj : j < l1.length), j < k → l1[j].i < x)) (fun i _ => l1.length - (intOf i).toNat)
        case atStart => exact ⟨0, rfl, Nat.zero_le _, hid ⟨Below.refl _ _, fun j _ hj => absurd hj (by omega)⟩⟩
        case round =>
          obtain ⟨k, rfl, hk, HB⟩ := hrel
          have hXw := HX2.out.below HB.out.1
          obtain ⟨c0, c1, _, _, clt, _⟩ := hXw.cells
          have HXw := hid hXw
          by_cases hkn : k < l1.length
          · have hkI : (k : Int) < (l1.length : Int) := by omega
            obtain ⟨so', cp', e, hs⟩ := hXw.row.src
            cases e
            have hq : ∀ g, so1 = some ⟨g, 0, none⟩ → wr.cell? ⟨g, k * 4, none⟩ = some (.int .i64 l1[k].i) := fun g e => (hs.at' g e).2 _ _ (by have := cl_at l1 k hkn 0 (by omega); rw [Nat.add_zero] at this; rw [this]; rfl)
            obtain ⟨g, hg⟩ : ∃ g, so1 = some ⟨g, 0, none⟩ := by
              rcases hs.form with e | e
              · have := hs.nil e; have := hs.le; omega
              · exact e
            have q0 := hq g hg
            by_cases hlt : l1[k].i < x
            · have HN : Hid (∀ j (hj : j < l1.length), j < k + 1 → l1[j].i < x) := fun j hj h => by
                rcases Nat.lt_or_eq_of_le (Nat.le_of_lt_succ h) with h | rfl
                · exact HB.out.2 j hj h
                · exact hlt
              clear hs hq hXw
              generalize l1[k].i = y at *
              have d1 : decide (y < x) = true := by simpa using hlt
              subst hg
              go_wp2_with fail
              exact ⟨⟨k + 1, by go_num, by omega, hid ⟨HB.out.1, HN.out⟩⟩, by simp [intOf]; omega⟩
            · have HI : Hid (∀ S : Sx, S.i = x → ins l1 S = l1.take k ++ S :: l1.drop k) := fun S e => ins_at hk (fun j hj h => by rw [e]; exact HB.out.2 j hj h) (fun _ => by rw [e]; exact hlt)
              clear hs hq hXw
              generalize l1[k].i = y at *
              have d1 : decide (y < x) = false := by simpa using hlt
              subst hg
              obtain ⟨v1, W1, v2, W2, so3, cp3, W3, so2, r1, r2, r3, r4, r5, x1, x2, x3, f3, hT, hK⟩ := put_in HXw.out hk h7 HR.out.2 HI.out
              have HRn := hid (And.intro r1 (And.intro r2 (And.intro r3 (And.intro r4 r5))))
              have HFin : Hid (XoR w m xb l ck x (.returned (.tuple #[.int .i64 d, .int .i64 0])) (W3.setCell ⟨xb, 0, none⟩ (.slice so3 (l1.length + 1) cp3))) := hid ⟨_, c', d, .nilIface, _, rfl, .inr ⟨rfl, by omega, HFn.out, HC.out, l1, HDp.out, _, rfl, rfl, HC.out, rfl, rfl⟩, hT, HK2.out.trans ((Kx.below HB.out.1).trans hK)⟩
              obtain ⟨_, u1, ul1⟩ := x1
              have u2 : (W1.alloc (.cells #[.int .i64 x, .int .i64 0, .int .i64 c', .slice none 0 0] 59)).heap.size = W1.heap.size + 1 := by simp
              obtain ⟨u3, _, ul3⟩ := x2
              obtain ⟨u4, _, ul4⟩ := x3
              clear r1 r2 r3 r4 r5 hT hK HXw HB HX2
              go_wp2_with (first
                | (refine wpList_slice_hi rfl (.tmp 57) (.tmp 58) rfl rfl rfl (HRn.out.2.2.1 _) ?_)
                | (refine wpList_slice_lo rfl (.tmp 74) (.tmp 75) rfl rfl rfl (HRn.out.2.2.2.1 _) ?_)
                | (at_builtin; refine wpList_app_run rfl (.tmp 53) (.tmp 59) 22 rfl rfl rfl HRn.out.1 ?_)
                | (at_builtin; refine wpList_app_run rfl (.tmp 61) (.tmp 68) 22 rfl rfl rfl HRn.out.2.1 ?_)
                | (at_builtin; refine wpList_app_run rfl (.tmp 70) (.tmp 76) 22 rfl rfl rfl HRn.out.2.2.2.2 ?_))
              refine bodyPost_ret (v := .tuple #[.int .i64 d, .int .i64 0]) (by simp [results, Tryd.results24, go_sem]) rfl ?_
              exact HFin.out
          · have hkI : ¬ (k : Int) < (l1.length : Int) := by omega
            have hkd : decide ((k : Int) < (l1.length : Int)) = false := by simpa using hkI
            have hkd2 : decide (k < l1.length) = false := by simpa using hkn
            have HI : Hid (∀ S : Sx, S.i = x → ins l1 S = l1.take k ++ S :: l1.drop k) := fun S e => ins_at hk (fun j hj h => by rw [e]; exact HB.out.2 j hj h) (fun h => absurd h hkn)
            clear hXw
            obtain ⟨v1, W1, v2, W2, so3, cp3, W3, so2, r1, r2, r3, r4, r5, x1, x2, x3, f3, hT, hK⟩ := put_in HXw.out hk h7 HR.out.2 HI.out
            have HRn := hid (And.intro r1 (And.intro r2 (And.intro r3 (And.intro r4 r5))))
            have HFin : Hid (XoR w m xb l ck x (.returned (.tuple #[.int .i64 d, .int .i64 0])) (W3.setCell ⟨xb, 0, none⟩ (.slice so3 (l1.length + 1) cp3))) := hid ⟨_, c', d, .nilIface, _, rfl, .inr ⟨rfl, by omega, HFn.out, HC.out, l1, HDp.out, _, rfl, rfl, HC.out, rfl, rfl⟩, hT, HK2.out.trans ((Kx.below HB.out.1).trans hK)⟩
            obtain ⟨_, u1, ul1⟩ := x1
            have u2 : (W1.alloc (.cells #[.int .i64 x, .int .i64 0, .int .i64 c', .slice none 0 0] 59)).heap.size = W1.heap.size + 1 := by simp
            obtain ⟨u3, _, ul3⟩ := x2
            obtain ⟨u4, _, ul4⟩ := x3
            clear r1 r2 r3 r4 r5 hT hK HXw HB HX2
            go_wp2_with (first
              | (refine wpList_slice_hi rfl (.tmp 57) (.tmp 58) rfl rfl rfl (HRn.out.2.2.1 _) ?_)
              | (refine wpList_slice_lo rfl (.tmp 74) (.tmp 75) rfl rfl rfl (HRn.out.2.2.2.1 _) ?_)
              | (at_builtin; refine wpList_app_run rfl (.tmp 53) (.tmp 59) 22 rfl rfl rfl HRn.out.1 ?_)
              | (at_builtin; refine wpList_app_run rfl (.tmp 61) (.tmp 68) 22 rfl rfl rfl HRn.out.2.1 ?_)
              | (at_builtin; refine wpList_app_run rfl (.tmp 70) (.tmp 76) 22 rfl rfl rfl HRn.out.2.2.2.2 ?_))
            refine bodyPost_ret (v := .tuple #[.int .i64 d, .int .i64 0]) (by simp [results, Tryd.results24, go_sem]) rfl ?_
            exact HFin.out
      · have a8 : ¬ (l.length : Int) = 8 := by omega
        have b8 : ((l.length : Int) == 8) = false := by simpa using a8
        have HDp : Hid (DropR l l 0) := .inl ⟨by omega, rfl, rfl⟩
        have HRl : Hid (Rise l) := HR.out.1
        have HNo : Hid (∀ t ∈ l, t.i ≠ x) := fun t ht => fnd_none HFn.out t ht
        have h7 : l.length ≤ 7 := by omega
        have HK1 : Hid (Kx (fun g => g = xb) w w0) := Kx.below HB0.out
        have HX1 := HX0
        clear HX0 HB0 HX
        obtain ⟨p0, p1, pf0, pf1, plt, _⟩ := HX1.out.cells
        have hlI : (l.length : Int) ≤ 7 := by omega
        obtain ⟨w2, hw2⟩ : ∃ w2, w2 = w0.setCell ⟨xb, 1, none⟩ (.int .i64 c') := ⟨_, rfl⟩
        have HX2 : Hid (Xt w2 m xb (.slice so l.length cp) l c') := by rw [hw2]; exact HX1.out.tick HCI.out
        have HK2 : Hid (Kx (fun g => g = xb) w w2) := by rw [hw2]; exact HK1.out.trans (Kx.set (P := fun g => g = xb) rfl _)
        have HW2 := hid hw2
        clear hw2 HX1 HK1
        go_wp2_with fail
        rw [← HW2.out]
        clear HW2 p0 p1 pf0 pf1 plt
        go_loopw [8] (fun i wr => ∃ k : Nat, i = .int .i64 (k : Int) ∧ k ≤ l.length ∧ Hid (Below w2.heap.size w2 wr ∧ ∀ j (hj : j < l.length), j < k → l[j].i < x)) (fun i _ => l.length - (intOf i).toNat)
        case atStart => exact ⟨0, rfl, Nat.zero_le _, hid ⟨Below.refl _ _, fun j _ hj => absurd hj (by omega)⟩⟩
        case round =>
          obtain ⟨k, rfl, hk, HB⟩ := hrel
          have hXw := HX2.out.below HB.out.1
          obtain ⟨c0, c1, _, _, clt, _⟩ := hXw.cells
          have HXw := hid hXw
          by_cases hkn : k < l.length
          · have hkI : (k : Int) < (l.length : Int) := by omega
            obtain ⟨so', cp', e, hs⟩ := hXw.row.src
            cases e
            have hq : ∀ g, so = some ⟨g, 0, none⟩ → wr.cell? ⟨g, k * 4, none⟩ = some (.int .i64 l[k].i) := fun g e => (hs.at' g e).2 _ _ (by have := cl_at l k hkn 0 (by omega); rw [Nat.add_zero] at this; rw [this]; rfl)
            obtain ⟨g, hg⟩ : ∃ g, so = some ⟨g, 0, none⟩ := by
              rcases hs.form with e | e
              · have := hs.nil e; have := hs.le; omega
              · exact e
            have q0 := hq g hg
            by_cases hlt : l[k].i < x
            · have HN : Hid (∀ j (hj : j < l.length), j < k + 1 → l[j].i < x) := fun j hj h => by
                rcases Nat.lt_or_eq_of_le (Nat.le_of_lt_succ h) with h | rfl
                · exact HB.out.2 j hj h
                · exact hlt
              clear hs hq hXw
              generalize l[k].i = y at *
              have d1 : decide (y < x) = true := by simpa using hlt
              subst hg
              go_wp2_with fail
              exact ⟨⟨k + 1, by go_num, by omega, hid ⟨HB.out.1, HN.out⟩⟩, by simp [intOf]; omega⟩
            · have HI : Hid (∀ S : Sx, S.i = x → ins l S = l.take k ++ S :: l.drop k) := fun S e => ins_at hk (fun j hj h => by rw [e]; exact HB.out.2 j hj h) (fun _ => by rw [e]; exact hlt)
              clear hs hq hXw
              generalize l[k].i = y at *
              have d1 : decide (y < x) = false := by simpa using hlt
              subst hg
              obtain ⟨v1, W1, v2, W2, so3, cp3, W3, so2, r1, r2, r3, r4, r5, x1, x2, x3, f3, hT, hK⟩ := put_in HXw.out hk h7 HR.out.2 HI.out
              have HRn := hid (And.intro r1 (And.intro r2 (And.intro r3 (And.intro r4 r5))))
              have HFin : Hid (XoR w m xb l ck x (.returned (.tuple #[.int .i64 0, .int .i64 0])) (W3.setCell ⟨xb, 0, none⟩ (.slice so3 (l.length + 1) cp3))) := hid ⟨_, c', 0, .nilIface, _, rfl, .inr ⟨rfl, by omega, HFn.out, HC.out, l, HDp.out, _, rfl, rfl, HC.out, rfl, rfl⟩, hT, HK2.out.trans ((Kx.below HB.out.1).trans hK)⟩
              obtain ⟨_, u1, ul1⟩ := x1
              have u2 : (W1.alloc (.cells #[.int .i64 x, .int .i64 0, .int .i64 c', .slice none 0 0] 59)).heap.size = W1.heap.size + 1 := by simp
              obtain ⟨u3, _, ul3⟩ := x2
              obtain ⟨u4, _, ul4⟩ := x3
              clear r1 r2 r3 r4 r5 hT hK HXw HB HX2
              go_wp2_with (first
                | (refine wpList_slice_hi rfl (.tmp 57) (.tmp 58) rfl rfl rfl (HRn.out.2.2.1 _) ?_)
                | (refine wpList_slice_lo rfl (.tmp 74) (.tmp 75) rfl rfl rfl (HRn.out.2.2.2.1 _) ?_)
                | (at_builtin; refine wpList_app_run rfl (.tmp 53) (.tmp 59) 22 rfl rfl rfl HRn.out.1 ?_)
                | (at_builtin; refine wpList_app_run rfl (.tmp 61) (.tmp 68) 22 rfl rfl rfl HRn.out.2.1 ?_)
                | (at_builtin; refine wpList_app_run rfl (.tmp 70) (.tmp 76) 22 rfl rfl rfl HRn.out.2.2.2.2 ?_))
              refine bodyPost_ret (v := .tuple #[.int .i64 0, .int .i64 0]) (by simp [results, Tryd.results24, go_sem]) rfl ?_
              exact HFin.out
          · have hkI : ¬ (k : Int) < (l.length : Int) := by omega
            have hkd : decide ((k : Int) < (l.length : Int)) = false := by simpa using hkI
            have hkd2 : decide (k < l.length) = false := by simpa using hkn
            have HI : Hid (∀ S : Sx, S.i = x → ins l S = l.take k ++ S :: l.drop k) := fun S e => ins_at hk (fun j hj h => by rw [e]; exact HB.out.2 j hj h) (fun h => absurd h hkn)
            clear hXw
            obtain ⟨v1, W1, v2, W2, so3, cp3, W3, so2, r1, r2, r3, r4, r5, x1, x2, x3, f3, hT, hK⟩ := put_in HXw.out hk h7 HR.out.2 HI.out
            have HRn := hid (And.intro r1 (And.intro r2 (And.intro r3 (And.intro r4 r5))))
            have HFin : Hid (XoR w m xb l ck x (.returned (.tuple #[.int .i64 0, .int .i64 0])) (W3.setCell ⟨xb, 0, none⟩ (.slice so3 (l.length + 1) cp3))) := hid ⟨_, c', 0, .nilIface, _, rfl, .inr ⟨rfl, by omega, HFn.out, HC.out, l, HDp.out, _, rfl, rfl, HC.out, rfl, rfl⟩, hT, HK2.out.trans ((Kx.below HB.out.1).trans hK)⟩
            obtain ⟨_, u1, ul1⟩ := x1
            have u2 : (W1.alloc (.cells #[.int .i64 x, .int .i64 0, .int .i64 c', .slice none 0 0] 59)).heap.size = W1.heap.size + 1 := by simp
            obtain ⟨u3, _, ul3⟩ := x2
            obtain ⟨u4, _, ul4⟩ := x3
            clear r1 r2 r3 r4 r5 hT hK HXw HB HX2
            go_wp2_with (first
              | (refine wpList_slice_hi rfl (.tmp 57) (.tmp 58) rfl rfl rfl (HRn.out.2.2.1 _) ?_)
              | (refine wpList_slice_lo rfl (.tmp 74) (.tmp 75) rfl rfl rfl (HRn.out.2.2.2.1 _) ?_)
              | (at_builtin; refine wpList_app_run rfl (.tmp 53) (.tmp 59) 22 rfl rfl rfl HRn.out.1 ?_)
              | (at_builtin; refine wpList_app_run rfl (.tmp 61) (.tmp 68) 22 rfl rfl rfl HRn.out.2.1 ?_)
              | (at_builtin; refine wpList_app_run rfl (.tmp 70) (.tmp 76) 22 rfl rfl rfl HRn.out.2.2.2.2 ?_))
            refine bodyPost_ret (v := .tuple #[.int .i64 0, .int .i64 0]) (by simp [results, Tryd.results24, go_sem]) rfl ?_
            exact HFin.out
end Go.Proofs.YtjhclpionimjbaaDoor
