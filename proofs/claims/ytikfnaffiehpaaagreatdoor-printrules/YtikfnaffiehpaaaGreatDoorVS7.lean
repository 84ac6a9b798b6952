/-
  The small case of layer 5's laws; muntinlaw05.PrintForm answers true, whatever its argument. Conditions: those that each theorem names.
-/
import Derived.Test.YtikfnaffiehpaaaGreatDoorVS5
import Derived.Test.YtikfnaffiehpaaaGreatDoorVSb
namespace Go.Proofs.YtikfnaffiehpaaaGreatDoor
open Go.RowKit Go.Shelf
set_option linter.unusedVariables false
set_option maxRecDepth 100000 in
set_option maxHeartbeats 8000000 in
theorem psmall_ok (w : World) (h : ErrIs w) (hT : TabIs w) : Calls Tryz.prog 8 #[] w fun e w' => e = .returned (.bool true) ∧ Hid (Below w.heap.size w w') := by
  obtain ⟨rs, hp, ha⟩ := small_p
  have HP := hid (yparse_any smP w h (by decide))
  have HA := hid (fun (g n cap : Nat) (W : World) (hr : RoR w.heap.size (.slice (some ⟨g, 0, none⟩) n cap) rs W) (hb : Below w.heap.size w W) => nprint_read (by decide) hp _ g n cap W hr (hT.below hb hT.lt))
  rw [ha] at HA
  rw [hp] at HP
  obtain ⟨n, hn⟩ : ∃ n, n = rs.length := ⟨_, rfl⟩
  unfold AnsD at HP
  simp only at HP
  rw [← hn] at HP
  clear h hT hp ha hn
  go_enter Tryz.func8, Tryz.ntmps8
  go_wp2_with fail
  refine HP.out.mono ?_
  rintro e w1 ⟨g, cap, rfl, HR, HB⟩
  have HA1 := hid (fun o : Obj => HA.out g n cap (w1.alloc o) (HR.out.below ((Below.refl _ w1).alloc (Nat.le_refl _) o)) (HB.out.alloc HB.out.size o))
  have HB1 := hid (fun o : Obj => HB.out.alloc HB.out.size o)
  clear HP HA HR HB
  go_wp2_with fail
  refine (HA1.out _).mono ?_
  rintro e w2 ⟨rfl, hb2⟩
  have HB2 := hid ((HB1.out _).trans (hb2.mono (HB1.out _).size))
  clear HA1 HB1 hb2
  go_wp2_with fail
  go_ret
  exact ⟨rfl, HB2⟩
theorem rll_get : ∀ {xs ys : List Rl}, RlL xs ys → ∀ j (hj : j < xs.length) (hj' : j < ys.length), ys[j].1 = xs[j].1 ∧ Sm xs[j].2.1 ys[j].2.1
  | [], [], _, j, hj, _ => by simp at hj
  | [], _ :: _, h, _, _, _ => by simp [RlL] at h
  | _ :: _, [], h, _, _, _ => by simp [RlL] at h
  | a :: r, b :: q, h, 0, _, _ => by
    rw [RlL] at h
    exact h.1
  | a :: r, b :: q, h, j + 1, hj, hj' => by
    rw [RlL] at h
    exact rll_get h.2 j (by simpa using hj) (by simpa using hj')
theorem dR_sm {rs ns : List Rl} (h : RlL rs ns) : dR ns = dR rs := by
  induction rs generalizing ns with
  | nil =>
    cases ns with
    | nil => rfl
    | cons _ _ => simp [RlL] at h
  | cons a r ih =>
    cases ns with
    | nil => simp [RlL] at h
    | cons b q =>
      rw [RlL] at h
      rw [dR, dR, ih h.2, (dN_sm h.1.2).1]
theorem ansT_sm {rs ns : List Rl} (h : RlL rs ns) : ansT ns = ansT rs := by
  unfold ansT
  rw [pR_sm h, dR_sm h]
/-- Where parentheses are too many, an Empty stands within. -/
theorem deep_e {S : ByteArray} {rs : List Rl} (h : parS S = .inr rs) (hd : 24 < dR rs) : eG (toG rs) = true := by
  have : ∃ x ∈ rs, 24 < dN x.2.1 := by
    refine Classical.byContradiction fun hn => ?_
    have h2 : dR rs ≤ 24 := dR_le.2 fun x hx => by
      rcases Nat.lt_or_ge 24 (dN x.2.1) with h3 | h3
      · exact absurd ⟨x, hx, h3⟩ hn
      · exact h3
    omega
  obtain ⟨x, hx, hx2⟩ := this
  refine List.any_eq_true.2 ⟨(x.1, toR x.2.1, (x.2.2 : Int)), List.mem_map.2 ⟨x, hx, rfl⟩, ?_⟩
  rw [eT_nd _ _ (tq_toR _)]
  cases he : eN x.2.1 with
  | true => rfl
  | false =>
    have := (par_ok h x hx).2 he
    omega
set_option maxRecDepth 100000 in
set_option maxHeartbeats 8000000 in
theorem pform_any (D : ByteArray) (w : World) (h : ErrIs w) (hT : TabIs w) : Calls Tryz.prog 5 #[.string D] w fun e w' => e = .returned (.bool true) ∧ Below w.heap.size w w' := by
  have HSm := hid (psmall_ok w h hT)
  have HE : Hid (ErrIs w) := h
  have HT := hid hT
  clear h hT
  go_enter Tryz.func5, Tryz.ntmps5
  go_wp2_with fail
  refine HSm.out.mono ?_
  rintro e w1 ⟨rfl, HB1⟩
  clear HSm
  go_wp2_with fail
  refine (yparse_two D w1 (HE.out.below HB1.out HE.out.lt)).mono ?_
  rintro e w2 (⟨f, rfl, HB2⟩ | ⟨rs, g, n, cap, HP, rfl, HR, HB2⟩)
  · have HB3 : Hid (∀ o : Obj, Below w.heap.size w (w2.alloc o)) := fun o => (HB1.out.trans (HB2.out.mono HB1.out.size)).alloc (Nat.le_trans HB1.out.size HB2.out.size) o
    clear HB1 HB2
    unfold flv
    go_wp2_with fail
    go_ret
    exact ⟨rfl, HB3.out _⟩
  · obtain ⟨W3, hW3⟩ : ∃ W3, W3 = w2.alloc (.cells #[.slice (some ⟨g, 0, none⟩) n cap] 24) := ⟨_, rfl⟩
    have HB3 : Hid (Below w.heap.size w W3) := by rw [hW3]; exact (HB1.out.trans (HB2.out.mono HB1.out.size)).alloc (Nat.le_trans HB1.out.size HB2.out.size) _
    have HR3 : Hid (RoR w1.heap.size (.slice (some ⟨g, 0, none⟩) n cap) rs W3) := by rw [hW3]; exact HR.out.below ((Below.refl _ w2).alloc (Nat.le_refl _) _)
    have HK3 : Hid (W3.heap[w2.heap.size]? = some (.cells #[.slice (some ⟨g, 0, none⟩) n cap] 24)) := by rw [hW3]; exact new_block_at w2 _ rfl
    have HA := hid (nprint_read HP.out.1 HP.out.2 _ g n cap W3 HR3.out (HT.out.below HB3.out HT.out.lt))
    have HW3 := hid hW3
    clear HB1 HB2 HR hW3
    rcases Nat.lt_or_ge 8192 (sz (pR qT cT rs)) with hlong | hshort
    · rw [ansT_long hlong] at HA
      have HC := hid (fun (W : World) (hb : Below w.heap.size w W) => code_errno 2 W (HE.out.below hb HE.out.lt))
      clear hlong
      go_wp2_with fail
      rw [← HW3.out]
      refine HA.out.mono ?_
      rintro e w4 ⟨rfl, hb4⟩
      have HB4 : Hid (Below w.heap.size w w4) := HB3.out.trans (hb4.mono HB3.out.size)
      clear HA hb4
      go_wp2_with fail
      refine (HC.out _ HB4.out).mono ?_
      rintro e w5 ⟨rfl, hb5⟩
      have HB5 : Hid (Below w.heap.size w w5) := HB4.out.trans (hb5.mono HB4.out.size)
      clear HC hb5
      go_wp2_with fail
      go_ret
      exact ⟨rfl, HB5.out⟩
    · rcases Nat.lt_or_ge 24 (dR rs) with hdeep | hflat
      · rw [ansT_deep hshort hdeep] at HA
        have HC := hid (fun (W : World) (hb : Below w.heap.size w W) => code_errno 20 W (HE.out.below hb HE.out.lt))
        have HNe := hid (fun (W : World) (hb : Below W3.heap.size W3 W) => nested_any _ n cap (toG rs) W3.heap.size W ((toG_is HR3.out (rll_mem (par_sm HP.out.1 HP.out.2)) (par_le HP.out.2).1).below hb) hb.size)
        rw [deep_e HP.out.2 hdeep] at HNe
        clear hdeep hshort
        go_wp2_with fail
        rw [← HW3.out]
        refine HA.out.mono ?_
        rintro e w4 ⟨rfl, hb4⟩
        have HB4 : Hid (Below w.heap.size w w4) := HB3.out.trans (hb4.mono HB3.out.size)
        have HB4' := hid hb4
        clear HA hb4
        go_wp2_with fail
        refine (HC.out _ HB4.out).mono ?_
        rintro e w5 ⟨rfl, hb5⟩
        have HB5 : Hid (Below w.heap.size w w5) := HB4.out.trans (hb5.mono HB4.out.size)
        have HB5' := hid (HB4'.out.trans (hb5.mono HB4'.out.size))
        have k0 := (one_cell ((HB5'.out.block _ (node_lt HK3.out)).trans HK3.out)).1
        clear HC hb5
        go_wp2_with fail
        refine (HNe.out _ HB5'.out).mono ?_
        rintro e w6 ⟨rfl, hb6⟩
        have HB6 : Hid (Below w.heap.size w w6) := HB5.out.trans (hb6.mono HB5.out.size)
        clear HNe hb6
        go_wp2_with fail
        go_ret
        exact ⟨rfl, HB6.out⟩
      · rw [ansT_ok hshort hflat] at HA
        have hx : ∀ x ∈ rs, Ruk Nmq x ∧ dN x.2.1 ≤ 24 := fun x hx => ⟨(par_ok HP.out.2 x hx).1, dR_le.1 hflat x hx⟩
        obtain ⟨ns, hpb, hrl⟩ := print_back pcs_ok hx (par_le HP.out.2).2 (par_le HP.out.2).1 hshort
        have hts : (cat (pR qT cT rs)).size ≤ 8192 := by rw [cat_size]; exact hshort
        have hans : ansT ns = .tuple #[.string (cat (pR qT cT rs)), .nilIface] := (ansT_sm hrl).trans (ansT_ok hshort hflat)
        obtain ⟨T, hTx⟩ : ∃ T, T = cat (pR qT cT rs) := ⟨_, rfl⟩
        rw [show cat (pR (fun T => nb (qt T)) (fun C => nb (txt C)) rs) = T from hTx.symm] at hpb
        rw [← hTx] at HA hts hans
        have HPn : Hid (T.size ≤ 8192 ∧ parS T = .inr ns) := ⟨hts, hpb⟩
        have HRL := hid hrl
        have HAN := hid hans
        have hl := hrl.len
        have HNL : Hid (ns.length = n) := hl.trans HR3.out.len.symm
        have hn64 : n ≤ 64 := by rw [HR3.out.len]; exact (par_le HP.out.2).1
        clear hx hpb hrl hts hans hTx hl hshort hflat
        go_wp2_with fail
        rw [← HW3.out]
        refine HA.out.mono ?_
        rintro e w4 ⟨rfl, hb4⟩
        have HB4 : Hid (Below w.heap.size w w4) := HB3.out.trans (hb4.mono HB3.out.size)
        have HB4' := hid hb4
        have HY := hid (yparse_any T w4 (HE.out.below HB4.out HE.out.lt) HPn.out.1)
        rw [HPn.out.2] at HY
        unfold AnsD at HY
        simp only at HY
        rw [HNL.out] at HY
        clear HA hb4
        go_wp2_with fail
        refine HY.out.mono ?_
        rintro e w5 ⟨g', cap', rfl, HR5, hb5⟩
        obtain ⟨W6, hW6⟩ : ∃ W6, W6 = w5.alloc (.cells #[.slice (some ⟨g', 0, none⟩) n cap'] 24) := ⟨_, rfl⟩
        have HB5' : Hid (Below W3.heap.size W3 w5) := HB4'.out.trans (hb5.out.mono HB4'.out.size)
        have HB6' : Hid (Below W3.heap.size W3 W6) := by rw [hW6]; exact HB5'.out.alloc HB5'.out.size _
        have HB6 : Hid (Below w.heap.size w W6) := HB3.out.trans (HB6'.out.mono HB3.out.size)
        have HR6 : Hid (RoR w4.heap.size (.slice (some ⟨g', 0, none⟩) n cap') ns W6) := by rw [hW6]; exact HR5.out.below ((Below.refl _ w5).alloc (Nat.le_refl _) _)
        have HK6 : Hid (W6.heap[w5.heap.size]? = some (.cells #[.slice (some ⟨g', 0, none⟩) n cap'] 24)) := by rw [hW6]; exact new_block_at w5 _ rfl
        have HA6 := hid (nprint_read HPn.out.1 HPn.out.2 _ g' n cap' W6 HR6.out (HT.out.below HB6.out HT.out.lt))
        rw [HAN.out] at HA6
        have HW6 := hid hW6
        clear HY HB5' hb5 HR5 hW6
        go_wp2_with fail
        rw [← HW6.out]
        refine HA6.out.mono ?_
        rintro e w7 ⟨rfl, hb7⟩
        have HB7' : Hid (Below W3.heap.size W3 w7) := HB6'.out.trans (hb7.mono HB6'.out.size)
        have HB7 : Hid (Below w.heap.size w w7) := HB3.out.trans (HB7'.out.mono HB3.out.size)
        have k0 := (one_cell ((HB7'.out.block _ (node_lt HK3.out)).trans HK3.out)).1
        have k1 := (one_cell ((hb7.block _ (node_lt HK6.out)).trans HK6.out)).1
        have HZ := hid (zgram_all (HR3.out.below HB7'.out) (HR6.out.below hb7) (by omega) (rll_get HRL.out))
        clear HA6 hb7
        go_wp2_with fail
        refine HZ.out.mono ?_
        rintro e w8 ⟨rfl, hb8⟩
        have HB8 : Hid (Below w.heap.size w w8) := HB7.out.trans (hb8.mono HB7.out.size)
        clear HZ hb8
        go_wp2_with fail
        go_ret
        exact ⟨rfl, HB8.out⟩
end Go.Proofs.YtikfnaffiehpaaaGreatDoor
