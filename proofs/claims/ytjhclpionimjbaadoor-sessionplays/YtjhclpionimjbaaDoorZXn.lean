/-
  The document's Note. Conditions: those that each theorem names.
-/
import Derived.Test.YtjhclpionimjbaaDoorZXs
namespace Go.Proofs.YtjhclpionimjbaaDoor
open Go.RowKit Go.Maps
set_option linter.unusedVariables false
def cdE : Value → Int
  | .iface _ (.int _ c) => c
  | _ => 0
theorem bytes_app {W : World} {base g : Nat} {o : Option Addr} {n c : Nat} {b : List UInt8} (h : Has W o n c b) (hn : n ≤ 140737488355328) (hown : W.ownsRow base 5 1 (.slice (some ⟨g, 0, none⟩) 0 0) 0 []) (hbase : base ≤ W.heap.size) :
    ∃ o' c' W', (Builtin.append_ #[40, 40] 40 #[.slice (some ⟨g, 0, none⟩) 0 0, .slice o n c]).run Tryd.prog W = .ok (.slice o' n c') W' ∧ Has W' o' n c' b ∧ Fr base W' o' c' ∧ Below base W W' := by
  obtain ⟨i0, hi, hz0, hz1, hz2⟩ := info_parts Tryd.info5
  have hs : Src W o n (b.map bv) := by
    cases o with
    | none =>
      obtain ⟨h1, h2, h3, h4, h5⟩ := h
      obtain rfl := h4 rfl
      exact .inl ⟨rfl, by omega⟩
    | some ad =>
      refine .inr ⟨ad, rfl, fun j u hj => ?_⟩
      have h0 : 0 < (b.map bv).length := by have := (List.getElem?_eq_some_iff.1 hj).1; omega
      obtain ⟨ad', e', hc⟩ := h.cells h0
      cases e'
      exact hc j u hj
  obtain ⟨v', W', hr, ho, hg, hat⟩ := app_any Tryd.underlying40 hi hz0 hz1 hz2 rfl (by decide) hown c (by simpa using h.1) hs (bv_oneCell b) (by unfold maxLen; omega) (by omega) hbase 40 h.2.2.2.1
  have hb : Below base W W' := (Below.refl base W).grown hg hbase (fun k e => (hown.lt k e).1)
  have hform : ∃ a cp, v' = .slice a n cp := by
    obtain ⟨_, h1 | ⟨g', cp, cur, rfl, _⟩⟩ := ho
    · obtain ⟨rfl, h2⟩ := h1
      have : n = 0 := by omega
      subst this
      exact ⟨none, 0, rfl⟩
    · exact ⟨_, cp, by rw [Nat.zero_add]⟩
  obtain ⟨a, cp, rfl⟩ := hform
  rw [Nat.zero_add] at ho
  refine ⟨a, cp, W', hr, Has.of_owned (by simpa using ho), ?_, hb⟩
  cases a with
  | some ad =>
    obtain ⟨_, h1 | ⟨g', cp', cur, e, _⟩⟩ := id ho
    · cases h1.1
    · cases e
      exact fr_row ho
  | none =>
    obtain ⟨_, h1 | ⟨g', cp', cur, e, _⟩⟩ := ho
    · cases h1.1
      exact .inl ⟨rfl, rfl⟩
    · cases e
def XS (xb : Nat) (v : Value) (c : Int) (X : World) : Prop := X.cell? ⟨xb, 0, none⟩ = some v ∧ X.cell? ⟨xb, 1, none⟩ = some (.int .i64 c) ∧ xb < X.heap.size
theorem XS.below {xb : Nat} {v : Value} {c : Int} {X Y : World} (h : XS xb v c X) (hb : Below X.heap.size X Y) : XS xb v c Y := ⟨(hb.cell (p := ⟨xb, 0, none⟩) h.2.2).trans h.1, (hb.cell (p := ⟨xb, 1, none⟩) h.2.2).trans h.2.1, Nat.lt_of_lt_of_le h.2.2 hb.size⟩
set_option maxRecDepth 100000 in
set_option maxHeartbeats 4000000 in
theorem notex_ok {w : World} {m xb : Nat} {v : Value} {l : List Sx} {ck : Int} (h : Xt w m xb v l ck) (hr : Rise l) (x q : Int) (hx : inI x) (hq : inI q) (o : Option Addr) (n c : Nat) (b : List UInt8) (hb : Has w o n c b) (hbX : 0 < n → ∀ g off sp, o = some ⟨g, off, sp⟩ → g < m) (hn : n ≤ 140737488355328) :
    Calls Tryd.prog 29 #[.pointer (some ⟨xb, 0, none⟩), .int .i64 x, .int .i64 q, .slice o n c] w fun e w' => ∃ l' ck' er, e = .returned (.int .i64 (cdE er)) ∧ NoteR l ck x q b l' ck' er ∧ Xt w' m xb v l' ck' ∧ Kx (ownX xb v) w w' := by
  have HA := hid (askx_ok h x q)
  have HT := hid h
  have HN := hid hb
  have hbl : b.length = n := hb.1
  obtain ⟨K0, hK0⟩ : ∃ K0, K0 = askK l x q := ⟨_, rfl⟩
  have HK := hid hK0
  rw [← hK0] at HA
  have HQ := hid (And.intro hr (And.intro hx hq))
  have HBL := hid (And.intro hbl hbX)
  clear h hb hK0 hq hx hbl hr hbX
  by_cases h1 : K0 = 1
  · have HK1 : Hid (askK l x q = 1) := by rw [← HK.out]; exact h1
    subst h1
    by_cases h2 : 16384 < n
    · have a1 : (16384 : Int) < (n : Int) := by omega
      have a2 : decide ((16384 : Int) < (n : Int)) = true := by simpa using a1
      have a3 : decide (16384 < n) = true := by simpa using h2
      go_enter Tryd.func29, Tryd.ntmps29
      go_wp2_with fail
      refine HA.out.mono ?_
      rintro e w2 ⟨o2, n2, c2, rfl, k1, k2, k3⟩
      have HB := hid k3
      clear k1 k2 k3 HA
      go_wp2_with fail
      go_ret
      exact ⟨l, ck, errv 2, rfl, .inr (.inl ⟨rfl, HK1.out, by rw [HBL.out.1]; exact h2, rfl, rfl⟩), HT.out.below HB.out, .below HB.out⟩
    · have a1 : ¬ (16384 : Int) < (n : Int) := by omega
      have a2 : decide ((16384 : Int) < (n : Int)) = false := by simpa using a1
      have a3 : decide (16384 < n) = false := by simpa using h2
      obtain ⟨c', hc'⟩ : ∃ c', c' = ckn ck := ⟨_, rfl⟩
      have hw : IntKind.i64.wrap (ck + 1) = c' := hc'.symm
      have HC := hid hc'
      have hcI : inI c' := by rw [hc']; exact ckn_in ck
      clear hc'
      go_enter Tryd.func29, Tryd.ntmps29
      go_wp2_with fail
      refine HA.out.mono ?_
      rintro e w2 ⟨o2, n2, c2, rfl, k1, k2, k3⟩
      obtain ⟨s0, hs0, _⟩ := ask_new HK1.out
      have hT2 := HT.out.below k3
      obtain ⟨so, cp, rfl⟩ := row_slice hT2.row.own
      obtain ⟨p0, p1, pf0, pf1, plt, _⟩ := hT2.cells
      obtain ⟨w3, hw3⟩ : ∃ w3, w3 = w2.setCell ⟨xb, 1, none⟩ (.int .i64 c') := ⟨_, rfl⟩
      have hT3 : Xt w3 m xb (.slice so l.length cp) l c' := by rw [hw3]; exact hT2.tick hcI
      have hk3 : Kx (ownX xb (.slice so l.length cp)) w w3 := by rw [hw3]; exact (Kx.below k3).trans (Kx.set (.inl rfl) _)
      have HF := hid (find_ok hT3 x)
      have HT3 := hid hT3
      have HK3 := hid hk3
      have HS0 := hid hs0
      have hN3 : Has w3 o n c b := by
        rcases Nat.eq_zero_or_pos n with h0 | h0
        · obtain ⟨z1, z2, z3, z4, z5⟩ := HN.out
          exact ⟨z1, z2, z3, z4, fun hn => absurd h0 (by omega)⟩
        · have h2' := HN.out
          obtain ⟨z1, z2, z3, z4, z5⟩ := HN.out
          obtain ⟨g, off, ha, hlt, hcs⟩ := z5 h0
          have hng : ¬ ownX xb (.slice so l.length cp) g := fun hg => by
            have q1 := HT.out.ge g hg
            have q2 := HBL.out.2 h0 g off none ha
            omega
          exact ⟨z1, z2, z3, z4, fun _ => ⟨g, off, ha, Nat.lt_of_lt_of_le hlt hk3.size, fun i hi => (World.cell?_of_block (w := w) (hk3.block g hlt hng)).trans (hcs i hi)⟩⟩
      have HN3 := hid hN3
      have HW3 := hid hw3
      clear k1 k2 k3 HA hs0 hT2 hT3 hk3 hw3 hN3
      go_wp2_with fail
      rw [← HW3.out]
      clear HW3 p0 p1 pf0 pf1 plt
      refine HF.out.mono ?_
      rintro e w4 ⟨hb4, ⟨k, hk, hki, hkf, rfl⟩ | ⟨hf, rfl⟩⟩
      · have hT4 := HT3.out.below hb4
        have hT4d := hT4.below (Below.refl _ w4).drew
        obtain ⟨g, cap, cur, e, hmg, hgc, hlc, hcm, hsz, htk⟩ := row_form hT4d.row (by omega)
        cases e
        obtain ⟨y0, y1, _, _, ylt, _⟩ := hT4d.cells
        have HS : Hid (XS xb (.slice (some ⟨g, 0, none⟩) l.length cp) c' w4.drew) := hid ⟨y0, y1, ylt⟩
        have HT4 := hid hT4d
        have HB4 := hid (Below.drew hb4)
        have hkI : (k : Int) < (l.length : Int) := by omega
        have hkk := hk
        have HKk := hid (And.intro hk hki)
        have hlc' : (l.length : Int) ≤ 8 := by have := hT4.few; omega
        have hmb := hT4d.ms
        have HN4 := hid (HN3.out.below (HB4.out))
        clear hT4 hT4d hb4 hki hkf hgc hcm hsz htk HF HN3 y0 y1 ylt hmg hlc
        go_wp2_with fail
        refine region_L 16 (fun X : World => X.cell? ⟨xb, 0, none⟩ = some (.slice (some ⟨g, 0, none⟩) l.length cp) ∧ X.cell? ⟨xb, 1, none⟩ = some (.int .i64 c') ∧ xb < X.heap.size) (by kernel_rfl) HS.out (fun hHeld => ?_)
        generalize w4.drew = W at *
        refine anyT 0 hHeld ?_
        refine anyT 1 hHeld ?_
        refine anyT 2 hHeld ?_
        refine anyT 3 hHeld ?_
        refine anyT 4 hHeld ?_
        refine anyT 5 hHeld ?_
        refine anyT 6 hHeld ?_
        refine anyT 7 hHeld ?_
        refine anyT 8 hHeld ?_
        refine anyT 9 hHeld ?_
        refine anyT 10 hHeld ?_
        refine anyT 12 hHeld ?_
        (try simp only [Act.put, List.setIfInBounds_toArray, List.set_cons_zero, List.set_cons_succ])
        clear hHeld
        refine anyO 11 (fun K hK => ?_)
        go_simp
        have hbe : Below W.heap.size W (W.alloc (.cells #[] 5)) := below_al W _
        have HSe := hid (HS.out.below hbe)
        obtain ⟨oB, cB, W7, hrun, hhas, hfr, hb7⟩ := bytes_app (HN4.out.below hbe) hn (owns_empty W W.heap.size (Nat.le_refl _)) hbe.size
        have HS7 : Hid (XS xb (.slice (some ⟨g, 0, none⟩) l.length cp) c' W7) := hid (HS.out.below (hbe.trans hb7))
        have HT7 := hid (HT4.out.below (hbe.trans hb7))
        have HH7 := hid (And.intro hhas (And.intro (hfr.mono (k := m) hmb) (hbe.trans hb7)))
        have HRun := hid hrun
        clear hhas hfr hb7 hbe hrun
        refine hK.out _ _ HSe.out ?_
        clear hK K
        (try simp only [Act.put, List.setIfInBounds_toArray, List.set_cons_zero, List.set_cons_succ])
        refine anyO 13 (fun K hK => ?_)
        refine step_app_run rfl (.tmp 45) (.tmp 46) 40 rfl (by rfl) (by rfl) HRun.out ?_
        refine hK.out _ _ HS7.out ?_
        clear hK K HRun HSe HN4 HN
        have hHeld := HS7.out
        (try simp only [Act.put, List.setIfInBounds_toArray, List.set_cons_zero, List.set_cons_succ])
        refine anyT 14 hHeld ?_
        refine anyT 15 hHeld ?_
        (try simp only [Act.put, List.setIfInBounds_toArray, List.set_cons_zero, List.set_cons_succ])
        clear hHeld
        obtain ⟨g2, cap2, cur2, e, hmg, hgc, hlc, hcm, hsz, htk⟩ := row_form HT7.out.row (by omega)
        cases e
        obtain ⟨z0, zf0⟩ := row_cell (n := 0) hgc htk hk 0 (by omega) _ rfl
        obtain ⟨z1, zf1⟩ := row_cell (n := 0) hgc htk hk 1 (by omega) _ rfl
        obtain ⟨z2, zf2⟩ := row_cell (n := 0) hgc htk hk 2 (by omega) _ rfl
        obtain ⟨z3, zf3⟩ := row_cell (n := 0) hgc htk hk 3 (by omega) _ rfl
        rw [Nat.add_zero] at z0 zf0
        have hst := HT7.out.st4 (s := ⟨x, q, c', oB, n, cB, b⟩) hk ⟨HQ.out.2.1, HQ.out.2.2, HT7.out.ckI⟩ ⟨HH7.out.1, HH7.out.2.1, by show n ≤ 16384; omega⟩
        have hkx : Kx (ownX xb (.slice (some ⟨g, 0, none⟩) l.length cp)) w (st4 W7 g k ⟨x, q, c', oB, n, cB, b⟩) := HK3.out.trans ((Kx.below (HB4.out.trans (HH7.out.2.2.mono HB4.out.size))).trans ((st4_kx W7 g k _).wide (fun y e => .inr (by rw [e]; rfl))))
        have HZ : Hid (∃ l' ck' er, Ending.returned (.int .i64 0) = Ending.returned (.int .i64 (cdE er)) ∧ NoteR l ck x q b l' ck' er ∧ Xt (st4 W7 g k ⟨x, q, c', oB, n, cB, b⟩) m xb (.slice (some ⟨g, 0, none⟩) l.length cp) l' ck' ∧ Kx (ownX xb (.slice (some ⟨g, 0, none⟩) l.length cp)) w (st4 W7 g k ⟨x, q, c', oB, n, cB, b⟩)) := hid ⟨l.set k ⟨x, q, c', oB, n, cB, b⟩, c', .nilIface, rfl, .inr (.inr ⟨rfl, HK1.out, by rw [HBL.out.1]; omega, HC.out, _, rfl, rfl, HC.out, rfl, (put_set HQ.out.1 hk HKk.out.2).symm⟩), hst, hkx⟩
        clear hst hkx hgc hlc hcm hsz htk HT7 HH7 HS7
        refine anyZ (fun K hK => ?_)
        go_simp
        refine hK.out _ _ ?_
        clear hK K
        go_wp2_with fail
        go_ret
        exact HZ.out
      · exfalso
        rw [HS0.out] at hf
        cases hf
  · have HK1 : Hid (askK l x q ≠ 1) := by rw [← HK.out]; exact h1
    have a1 : (K0 != 1) = true := by simpa using h1
    clear HK
    go_enter Tryd.func29, Tryd.ntmps29
    go_wp2_with fail
    refine HA.out.mono ?_
    rintro e w2 ⟨o2, n2, c2, rfl, k1, k2, k3⟩
    have HB := hid k3
    clear k1 k2 k3 HA
    go_wp2_with fail
    all_goals (
      go_ret
      exact ⟨l, ck, errv 1, rfl, .inl ⟨rfl, HK1.out, rfl, rfl⟩, HT.out.below HB.out, .below HB.out⟩)
end Go.Proofs.YtjhclpionimjbaaDoor
