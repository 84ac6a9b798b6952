/-
  muntinlaw05.PrintBack answers true, whatever its argument. Conditions: those that each theorem names.
-/
import Derived.Test.YtikfnaffiehpaaaGreatDoorVS8
import Derived.Test.YtikfnaffiehpaaaGreatDoorVS9
namespace Go.Proofs.YtikfnaffiehpaaaGreatDoor
open Go.RowKit Go.Shelf
set_option linter.unusedVariables false
mutual
theorem tq_sm : ∀ (t : RT) (n m : Nd), Tq t n → Sm n m → SmR false t (toR m)
  | .mk k T a b c d s p, .mk kd T' C s' pn, .mk kd2 T2 C2 s2 p2, h, hs => by
    rw [Tq] at h
    rw [Sm] at hs
    obtain ⟨rfl, rfl, rfl, rfl, rfl, rfl, h7⟩ := h
    obtain ⟨rfl, rfl, rfl, g4, _⟩ := hs
    rw [toR, SmR]
    exact ⟨rfl, rfl, rfl, rfl, rfl, rfl, fun e => (by cases e), tqs_sm s s' s2 h7 g4⟩
theorem tqs_sm : ∀ (s : List RT) (q r : List Nd), TqL s q → SmL q r → SmRL false s (toRs r)
  | [], [], [], _, _ => by rw [toRs, SmRL]; trivial
  | [], [], _ :: _, _, h => by simp [SmL] at h
  | [], _ :: _, _, h, _ => by simp [TqL] at h
  | _ :: _, [], _, h, _ => by simp [TqL] at h
  | _ :: _, _ :: _, [], _, h => by simp [SmL] at h
  | t :: s, n :: q, m :: r, h, hs => by
    rw [TqL] at h
    rw [SmL] at hs
    rw [toRs, SmRL]
    exact ⟨tq_sm t n m h.1 hs.1, tqs_sm s q r h.2 hs.2⟩
end
theorem tqr_sm {rs : List Rr} {ns ms : List Rl} (h : TqR rs ns) (hs : RlL ns ms) : SmG false rs (toG ms) := by
  have l1 := h.len
  have l2 := hs.len
  have l3 : (toG ms).length = ms.length := by unfold toG; rw [List.length_map]
  refine ⟨by omega, fun j h1 h2 => ?_⟩
  obtain ⟨a1, a2⟩ := h.get j h1 (by omega)
  obtain ⟨b1, b2⟩ := rll_get hs j (by omega) (by omega)
  have e : (toG ms)[j] = (ms[j].1, toR ms[j].2.1, (ms[j].2.2 : Int)) := List.getElem_map _
  rw [e]
  exact ⟨by rw [← a1]; exact b1, tq_sm _ _ _ a2 b2, fun h => by cases h⟩
set_option maxRecDepth 100000 in
set_option maxHeartbeats 8000000 in
theorem pback_any (so : Option Addr) (n cap : Nat) (rs : List Rr) (w : World) (h : ErrIs w) (hT : TabIs w) (hg : RgIs w w.heap.size so n rs) (hz : RgZ rs) (hu : RgU rs) :
    Calls Tryz.prog 4 #[.agg #[.slice so n cap]] w fun e w' => e = .returned (.bool true) ∧ Below w.heap.size w w' := by
  obtain ⟨W1, hW1⟩ : ∃ W1, W1 = w.alloc (.cells #[.slice so n cap] 24) := ⟨_, rfl⟩
  have HB1 : Hid (Below w.heap.size w W1) := by rw [hW1]; exact (Below.refl _ w).alloc (Nat.le_refl _) _
  have HC1 : Hid (W1.heap[w.heap.size]? = some (.cells #[.slice so n cap] 24)) := by rw [hW1]; exact new_block_at w _ rfl
  have HZ1 : Hid (w.heap.size < W1.heap.size) := node_lt HC1.out
  have HSm := hid (psmall_ok W1 (h.below HB1.out h.lt) (hT.below HB1.out hT.lt))
  have HE : Hid (ErrIs w) := h
  have HT := hid hT
  have HG := hid hg
  have HZ := hid hz
  have HU := hid hu
  have HW1 := hid hW1
  clear h hT hg hz hu hW1
  cases hk : okG rs with
  | false =>
    have HP := hid (fun (W : World) (hb : Below w.heap.size w W) => nprint_bad so n cap rs w.heap.size W HZ.out (HG.out.below hb) hb.size hk)
    clear hk
    go_enter Tryz.func4, Tryz.ntmps4
    go_wp2_with fail
    rw [← HW1.out]
    refine HSm.out.mono ?_
    rintro e w1 ⟨rfl, HB2⟩
    have HB3 : Hid (Below w.heap.size w w1) := HB1.out.trans (HB2.out.mono HB1.out.size)
    have k0 := (one_cell ((HB2.out.block _ HZ1.out).trans HC1.out)).1
    clear HSm
    go_wp2_with fail
    refine (HP.out _ HB3.out).mono ?_
    rintro e w2 ⟨rfl, hb2⟩
    have HB4 : Hid (Below w.heap.size w w2) := HB3.out.trans (hb2.mono HB3.out.size)
    clear HP hb2
    go_wp2_with fail
    go_ret
    exact ⟨rfl, HB4.out⟩
  | true =>
    obtain ⟨ns, hq, hx, hn1, hn64⟩ := of_okG hk HU.out
    have HP := hid (fun (W : World) (hb : Below w.heap.size w W) => nprint_ok so n cap rs ns w.heap.size W HZ.out (HG.out.below hb) hb.size hk hq hx (HT.out.below hb HT.out.lt))
    have hbad : ∀ c : Int, ansT ns = .tuple #[.string { data := #[] }, .iface 39 (.int .i64 c)] → Calls Tryz.prog 4 #[.agg #[.slice so n cap]] w fun e w' => e = .returned (.bool true) ∧ Below w.heap.size w w' := by
      intro c hc
      rw [hc] at HP
      clear hk hq hx hc
      go_enter Tryz.func4, Tryz.ntmps4
      go_wp2_with fail
      rw [← HW1.out]
      refine HSm.out.mono ?_
      rintro e w1 ⟨rfl, HB2⟩
      have HB3 : Hid (Below w.heap.size w w1) := HB1.out.trans (HB2.out.mono HB1.out.size)
      have k0 := (one_cell ((HB2.out.block _ HZ1.out).trans HC1.out)).1
      clear HSm
      go_wp2_with fail
      refine (HP.out _ HB3.out).mono ?_
      rintro e w2 ⟨rfl, hb2⟩
      have HB4 : Hid (Below w.heap.size w w2) := HB3.out.trans (hb2.mono HB3.out.size)
      clear HP hb2
      go_wp2_with fail
      go_ret
      exact ⟨rfl, HB4.out⟩
    rcases Nat.lt_or_ge 8192 (sz (pR qT cT ns)) with hlong | hshort
    · exact hbad 2 (ansT_long hlong)
    rcases Nat.lt_or_ge 24 (dR ns) with hdeep | hflat
    · exact hbad 20 (ansT_deep hshort hdeep)
    clear hbad
    obtain ⟨ms, hpb, hrl⟩ := print_back pcs_ok (fun x hx' => ⟨hx x hx', dR_le.1 hflat x hx'⟩) (by omega) hn64 hshort
    have hts : (cat (pR qT cT ns)).size ≤ 8192 := by rw [cat_size]; exact hshort
    rw [ansT_ok hshort hflat] at HP
    obtain ⟨T, hTx⟩ : ∃ T, T = cat (pR qT cT ns) := ⟨_, rfl⟩
    rw [show cat (pR (fun T => nb (qt T)) (fun C => nb (txt C)) ns) = T from hTx.symm] at hpb
    rw [← hTx] at HP hts
    have HPn : Hid (T.size ≤ 8192 ∧ parS T = .inr ms) := ⟨hts, hpb⟩
    have HSG := hid (tqr_sm hq hrl)
    have HNL : Hid (ms.length = n) := by
      have a1 := hrl.len
      have a2 := hq.len
      have a3 := HG.out.1
      show ms.length = n
      omega
    have hn6 : n ≤ 64 := by
      have a2 := hq.len
      have a3 := HG.out.1
      omega
    have HSS := hid (rll_mem (par_sm hts hpb))
    clear hk hq hx hn1 hpb hrl hts hTx hshort hflat
    go_enter Tryz.func4, Tryz.ntmps4
    go_wp2_with fail
    rw [← HW1.out]
    refine HSm.out.mono ?_
    rintro e w1 ⟨rfl, HB2⟩
    have HB3 : Hid (Below w.heap.size w w1) := HB1.out.trans (HB2.out.mono HB1.out.size)
    have HC3 : Hid (w1.heap[w.heap.size]? = some (.cells #[.slice so n cap] 24)) := (HB2.out.block _ HZ1.out).trans HC1.out
    have k0 := (one_cell HC3.out).1
    clear HSm
    go_wp2_with fail
    refine (HP.out _ HB3.out).mono ?_
    rintro e w2 ⟨rfl, hb2⟩
    have HB4 : Hid (Below w.heap.size w w2) := HB3.out.trans (hb2.mono HB3.out.size)
    have HC4 : Hid (w2.heap[w.heap.size]? = some (.cells #[.slice so n cap] 24)) := (hb2.block _ (node_lt HC3.out)).trans HC3.out
    have HY := hid (yparse_any T w2 (HE.out.below HB4.out HE.out.lt) HPn.out.1)
    rw [HPn.out.2] at HY
    unfold AnsD at HY
    simp only at HY
    rw [HNL.out] at HY
    clear HP hb2 k0
    go_wp2_with fail
    refine HY.out.mono ?_
    rintro e w3 ⟨g', cap', rfl, HR3, hb3⟩
    have HB5 : Hid (Below w.heap.size w w3) := HB4.out.trans (hb3.out.mono HB4.out.size)
    have HC5 : Hid (w3.heap[w.heap.size]? = some (.cells #[.slice so n cap] 24)) := (hb3.out.block _ (node_lt HC4.out)).trans HC4.out
    obtain ⟨W4, hW4⟩ : ∃ W4, W4 = w3.alloc (.cells #[.slice (some ⟨g', 0, none⟩) n cap'] 24) := ⟨_, rfl⟩
    have HB6 : Hid (Below w.heap.size w W4) := by rw [hW4]; exact HB5.out.alloc HB5.out.size _
    have HR6 : Hid (RoR w2.heap.size (.slice (some ⟨g', 0, none⟩) n cap') ms W4) := by rw [hW4]; exact HR3.out.below ((Below.refl _ w3).alloc (Nat.le_refl _) _)
    have HZ6 := hid (zsg_all false (cap := cap) (cap' := cap') (HG.out.below HB6.out) (toG_is HR6.out HSS.out (by rw [HNL.out]; exact hn6)) HB6.out.size (Nat.le_refl _) HSG.out)
    have k0 := (one_cell HC5.out).1
    have k1 := node_lt HC5.out
    have HW4 := hid hW4
    clear HY hb3 HR3 hW4
    go_wp2_with fail
    rw [← HW4.out]
    refine HZ6.out.mono ?_
    rintro e w5 ⟨rfl, hb5⟩
    have HB7 : Hid (Below w.heap.size w w5) := HB6.out.trans (hb5.mono HB6.out.size)
    clear HZ6 hb5
    go_wp2_with fail
    go_ret
    exact ⟨rfl, HB7.out⟩
end Go.Proofs.YtikfnaffiehpaaaGreatDoor
