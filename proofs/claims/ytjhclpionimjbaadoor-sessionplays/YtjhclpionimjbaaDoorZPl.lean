/-
  SessionPlays: a table plays as the document's does. Conditions: those that each theorem names.
-/
import Derived.Test.YtjhclpionimjbaaDoorZAc
import Derived.Test.YtjhclpionimjbaaDoorZAg
namespace Go.Proofs.YtjhclpionimjbaaDoor
open Go.RowKit Go.Maps
set_option linter.unusedVariables false
theorem iu_key {a b : List Sx} {ck E : Int} (h : a.map key = b.map key) (hu : IU b ck E) : IU a ck E := by
  refine ⟨hu.nn, hu.lt, hu.ck, fun s hs => ?_, fun s hs t ht e => ?_⟩
  · obtain ⟨x, hx, hk⟩ := mem_key h.symm hs
    have q3 : x.u = s.u := congrArg (fun x => x.2.2.1) hk
    rw [← q3]
    exact hu.us x hx
  · obtain ⟨x, hx, hk⟩ := mem_key h.symm hs
    obtain ⟨y, hy, hl⟩ := mem_key h.symm ht
    have q1 : x.i = s.i := congrArg (fun x => x.1) hk
    have q3 : x.u = s.u := congrArg (fun x => x.2.2.1) hk
    have r1 : y.i = t.i := congrArg (fun x => x.1) hl
    have r3 : y.u = t.u := congrArg (fun x => x.2.2.1) hl
    rw [← q1, ← r1]
    exact hu.ap x hx y hy (by rw [q3, r3, e])
theorem iu_res {ls : List Sx} {ck : Int} (h : resB ls ck = true) (hck : inI ck) : IU ls ck ck := by
  obtain ⟨h0, _, hm, hr, hn⟩ := res_facts h
  have hi : ck ≤ 9223372036854775807 := hck.2
  refine ⟨h0, by omega, by unfold wr; rw [IntKind.wrap_i64]; omega, fun s hs => ?_, fun s hs t ht e => ?_⟩
  · obtain ⟨_, _, _, h1, h2, _⟩ := hm s hs
    exact ⟨s.u, h1, h2, by unfold wr; rw [IntKind.wrap_i64]; omega⟩
  · unfold List.Nodup at hn
    rw [List.pairwise_map] at hn
    have hp := List.pairwise_iff_getElem.1 hn
    obtain ⟨a, ha, rfl⟩ := List.getElem_of_mem hs
    obtain ⟨b, hb, rfl⟩ := List.getElem_of_mem ht
    rcases Nat.lt_trichotomy a b with h | h | h
    · exact absurd e (hp a b ha hb h)
    · subst h; rfl
    · exact absurd e.symm (hp b a hb ha h)
theorem RowA.src {w : World} {a : Option Addr} {n cap : Nat} {ls : List Sx} (h : RowA w a n cap ls) : Src w a n (cl ls) := by
  rcases Nat.eq_zero_or_pos n with h0 | h0
  · have : ls = [] := List.eq_nil_of_length_eq_zero (by rw [h.ln]; exact h0)
    subst this
    cases a with
    | none => exact .inl ⟨rfl, h0⟩
    | some ad => exact .inr ⟨ad, rfl, fun j u hj => by cases hj⟩
  · obtain ⟨g, off, rfl, hg, hc⟩ := h.at' h0
    refine .inr ⟨_, rfl, fun j u hj => ?_⟩
    have hjl : j < ls.length * 4 := by rw [← cl_len]; exact (List.getElem?_eq_some_iff.1 hj).1
    have hk : j / 4 < ls.length := by omega
    obtain ⟨k0, k1, k2, k3⟩ := hc (j / 4) hk
    have hcl := fun i (hi : i < 4) => cl_at ls (j / 4) hk i hi
    rw [Addr.add_lit]
    have hj4 : j % 4 < 4 := Nat.mod_lt _ (by omega)
    have e : j = j / 4 * 4 + j % 4 := by omega
    rw [e] at hj ⊢
    rw [hcl _ hj4] at hj
    rcases (show j % 4 = 0 ∨ j % 4 = 1 ∨ j % 4 = 2 ∨ j % 4 = 3 by omega) with e4 | e4 | e4 | e4 <;> rw [e4] at hj ⊢ <;> cases hj
    · exact k0
    · exact k1
    · exact k2
    · exact k3
theorem own_c {w : World} {m : Nat} {v : Value} {ls : List Sx} (h : w.ownsRow m 59 4 v ls.length (cl ls)) (hh : ∀ s ∈ ls, Has w s.o s.n s.c s.b) : ∃ so cp, v = .slice so ls.length cp ∧ RowC w so ls.length ls := by
  obtain ⟨hll, hk | ⟨g, cap, cur, rfl, hm, hg, hn, hmx, hsz, htk⟩⟩ := h
  · obtain ⟨rfl, h0⟩ := hk
    exact ⟨none, 0, by rw [h0], ⟨rfl, by rw [h0]; unfold maxLen; omega, fun h => absurd h (by omega), hh⟩⟩
  · refine ⟨_, cap, rfl, ⟨rfl, by omega, fun _ => ⟨g, 0, rfl, node_lt hg, fun k hk => ?_⟩, hh⟩⟩
    have hat : ∀ j, j < 4 → ∀ u, (c4 ls[k])[j]? = some u → w.cell? ⟨g, k * 4 + j, none⟩ = some u := fun j hj u hu => by
      have h1 : (cur.toList.take (ls.length * 4))[k * 4 + j]? = some u := by rw [htk, cl_at ls k hk j hj, hu]
      rw [List.getElem?_take_of_lt (by omega)] at h1
      exact (cell_in hg _ u (by simpa using h1)).1
    rw [Nat.zero_add]
    exact ⟨hat 0 (by omega) _ rfl, hat 1 (by omega) _ rfl, hat 2 (by omega) _ rfl, hat 3 (by omega) _ rfl⟩
theorem copy_row {w : World} {a : Option Addr} {n cap : Nat} {ls : List Sx} (h : RowA w a n cap ls) (hn : n * 48 ≤ 140737488355328) (hc : a = none → cap = 0) :
    ∃ so cp W, (Builtin.append_ #[22, 22] 22 #[.slice (some ⟨w.heap.size, 0, none⟩) 0 0, .slice a n cap]).run Tryd.prog (w.alloc (.cells #[] 59)) = .ok (.slice so n cp) W ∧ RowC W so n ls ∧ Below w.heap.size w W := by
  obtain ⟨iT, hiT, hzT0, hzT1, hzT2⟩ := info_parts Tryd.infoSess
  have hba := below_al w (.cells #[] 59)
  have hown : (w.alloc (.cells #[] 59)).ownsRow w.heap.size 59 4 (.slice (some ⟨w.heap.size, 0, none⟩) 0 0) 0 [] := ⟨rfl, .inr ⟨w.heap.size, 0, #[], rfl, Nat.le_refl _, new_block_at w _ rfl, Nat.le_refl _, by unfold maxLen; omega, rfl, rfl⟩⟩
  have hra := h.below hba
  obtain ⟨v', W', hr, ho, hg, _⟩ := app_any Tryd.underlying22 hiT hzT0 hzT1 hzT2 rfl (by decide) hown cap (by rw [cl_len, h.ln]) hra.src cl_one (by unfold maxLen; omega) (by omega) hba.size 22 hc
  have hb : Below w.heap.size w W' := hba.trans ((Below.refl _ _).grown hg hba.size (fun k e => (hown.lt k e).1))
  rw [Nat.zero_add, List.nil_append, ← h.ln] at ho
  obtain ⟨so, cp, rfl, hC⟩ := own_c ho (fun s hs => ((h.ok s hs).2.2.2).below hb)
  rw [h.ln] at hr hC
  exact ⟨so, cp, W', hr, hC, hb⟩
theorem Xt.mono {w : World} {m k xb : Nat} {v : Value} {l : List Sx} {ck : Int} (h : Xt w m xb v l ck) (hk : k ≤ m) : Xt w k xb v l ck := ⟨h.blk, h.row.mono hk, Nat.le_trans hk h.le, Nat.le_trans hk h.ms, h.few, h.idI, h.ckI⟩
/-- While the acts are played. -/
structure PL (w : World) (tb B xb : Nat) (E : Int) (wr : World) : Prop where
  bel : Below w.heap.size w wr
  px : PX w.heap.size tb B xb E wr
set_option maxRecDepth 100000 in
set_option maxHeartbeats 16000000 in
theorem plays_any {w : World} {a b : Option Addr} {n cap n2 cap2 : Nat} {ls ys : List Sx} {ck : Int} {fr : Bool} (hE : ErrIs w) (hA : RowA w a n cap ls) (hn48 : n * 48 ≤ 140737488355328) (hca : a = none → cap = 0) (hck : inI ck) (hY : RowA w b n2 cap2 ys) (hz : ∀ s ∈ ys, s.n ≤ 140737488355327) :
    Calls Tryd.prog 3 #[.slice a n cap, .int .i64 ck, .bool fr, .slice b n2 cap2] w fun e w' => e = .returned (.bool true) ∧ Below w.heap.size w w' := by
  have HE := hid hE
  have HA := hid hA
  have HN := hid (And.intro hn48 (And.intro hca hck))
  have HY := hid hY
  have HZ := hid hz
  have HEn : Hid (0 < w.heap.size) := hE.lt
  have hnl2 : (n2 : Int) ≤ 9223372036854775807 := by have := hY.le; unfold maxLen at this; omega
  clear hE hA hn48 hca hck hY hz
  go_enter Tryd.func3, Tryd.ntmps3
  go_wp2_with fail
  refine (small_ok w HE.out).mono ?_
  rintro e w1 ⟨rfl, hb1⟩
  obtain ⟨so, cp, W2, hrun, hC2, hb2⟩ := copy_row (HA.out.below hb1) HN.out.1 HN.out.2.1
  have HRun := hid hrun
  have HC2 := hid hC2
  have HB2 : Hid (Below w.heap.size w W2) := hb1.trans (hb2.mono hb1.size)
  clear hrun hC2 hb1 hb2
  go_wp2_with (first | (at_builtin; refine wpList_app_run rfl (.tmp 20) (.tmp 21) 22 rfl rfl rfl HRun.out ?_))
  clear HRun
  refine (restore_ok (HA.out.below HB2.out) ck HN.out.2.2).mono ?_
  rintro e W3 hR3
  have HB3 : Hid (Below w.heap.size w W3) := HB2.out.trans (hR3.1.mono HB2.out.size)
  have HC3 := hid (HC2.out.below hR3.1)
  have HSb : Hid (W2.heap.size ≤ W3.heap.size) := hR3.1.size
  have HX4 := hid (restorex_ok (HA.out.below HB3.out) ck HN.out.2.2)
  have HS5 := hid (fun X (hX : Below w.heap.size w X) (hX3 : Below W3.heap.size W3 X) => same_ok (cap := cap) (cap2 := cp) (HA.out.below hX).c (HC3.out.below hX3) rfl)
  have HW2 : Hid (w.heap.size ≤ W2.heap.size) := HB2.out.size
  have HW3 : Hid (w.heap.size ≤ W3.heap.size) := HB3.out.size
  rcases hR3.2 with ⟨hf, rfl⟩ | ⟨hf, tb, B, lT, rfl, hT3, hkT, htb, hBb⟩
  · have HF := hid hf
    clear hR3
    go_wp2_with fail
    refine HX4.out.mono ?_
    rintro e W4 ⟨hb4, ⟨_, rfl⟩ | ⟨hf2, _⟩⟩
    · have HB4 : Hid (Below w.heap.size w W4) := HB3.out.trans (hb4.mono HW3.out)
      have HS4 := hid (HS5.out W4 HB4.out hb4)
      clear hb4 HX4 HS5
      go_wp2_with fail
      refine HS4.out.mono ?_
      rintro e W5 ⟨rfl, hb5⟩
      have HB5 : Hid (Below w.heap.size w W5) := HB4.out.trans (hb5.mono HB4.out.size)
      clear hb5 HS4
      go_wp2_with fail
      refine (code_errno 1 W5 (HE.out.below HB5.out HEn.out)).mono ?_
      rintro e W6 ⟨rfl, hb6⟩
      have HBk : Hid (Below w.heap.size w W6) := HB5.out.trans (hb6.mono HB5.out.size)
      clear hb6
      go_wp2_with fail
      refine (new_ok W6).mono ?_
      rintro e w8 ⟨tb, B, rfl, hT8, ht8, hB8, hb8⟩
      obtain ⟨w9, hw9⟩ : ∃ w9, w9 = w8.alloc (.cells #[.slice none 0 0, .int .i64 0] 38) := ⟨_, rfl⟩
      have hb9 : Below w8.heap.size w8 w9 := by rw [hw9]; exact below_al w8 _
      have hB98 : Below w.heap.size w w8 := HBk.out.trans (hb8.mono HBk.out.size)
      obtain ⟨xb, hxb⟩ : ∃ xb, xb = w8.heap.size := ⟨_, rfl⟩
      have hX9 : Xt w9 w.heap.size xb (.slice none 0 0) [] 0 := ⟨by rw [hw9, hxb]; exact new_block_at w8 _ rfl, RowS.nil _ _, by rw [hxb]; exact hB98.size, Nat.le_trans hB98.size hb9.size, by simp, by simp, by unfold inI; omega⟩
      have HP0 : Hid (PL w tb B xb 0 w9) := ⟨hB98.trans (hb9.mono hB98.size), ⟨_, [], [], 0, hT8.below hb9, hX9, rfl, 0, IU.new 0 (Int.le_refl _) (by omega), Int.le_refl _⟩⟩
      have HTb : Hid (w.heap.size ≤ tb ∧ w.heap.size ≤ B) := ⟨Nat.le_trans HBk.out.size ht8, Nat.le_trans HBk.out.size hB8⟩
      have HEb : Hid ((0 : Int) ≤ 0) := Int.le_refl _
      have HW9 := hid hw9
      have HE2 := hid hxb
      clear hT8 ht8 hB8 hb8 hb9 hB98 hX9 hw9 hxb
      go_wp2_with fail
      rw [← HW9.out, ← HE2.out]
      clear HW9
      clear HE2
      go_loopw [16] (fun i wr => ∃ j : Nat, i = .int .i64 (j : Int) ∧ j ≤ n2 ∧ j ≤ 200 ∧ Hid (PL w tb B xb (0 + (j : Int)) wr)) (fun i _ => n2 - (intOf i).toNat)
      case atStart => exact ⟨0, rfl, Nat.zero_le _, Nat.zero_le _, by simpa using HP0⟩
      case round =>
        obtain ⟨j, rfl, hj, hj2, HR⟩ := hrel
        clear HP0
        by_cases hjn : j < n2 ∧ j < 200
        · obtain ⟨hjn, hj200⟩ := hjn
          have hjI : (j : Int) < (n2 : Int) := by omega
          have hjJ : (j : Int) < 200 := by omega
          have hjx : j < ys.length := by rw [HY.out.ln]; exact hjn
          have hRA := HY.out.below HR.out.bel
          obtain ⟨g, off, rfl, hg, hcs⟩ := hRA.at' (by omega)
          obtain ⟨c0, c1, c2, c3⟩ := hcs j hjx
          have hok := hRA.ok _ (List.getElem_mem hjx)
          have hok0 := HY.out.ok _ (List.getElem_mem hjx)
          obtain ⟨v, l, l2, ck2, hT, hX, he, E', hU, hE'⟩ := HR.out.px.st
          have HAc := hid (act_ok (HE.out.below HR.out.bel HEn.out) HEn.out hT hX he hU (by have := HEb.out; omega) HTb.out.1 HTb.out.2 ys[j] hok.1 hok.2.1 hok.2.2.1 hok.2.2.2 (fun h0 g off sp e => by
            obtain ⟨_, _, _, _, h5⟩ := hok0.2.2.2
            obtain ⟨g', off', ha, hlt, _⟩ := h5 h0
            rw [e] at ha
            cases ha
            exact hlt) (HZ.out _ (List.getElem_mem hjx)))
          have HEE := hid hE'
          have HBr := hid HR.out.bel
          clear hT hX he hU hE' hok hok0 hcs hg hRA HR
          generalize ys[j] = s at *
          obtain ⟨si, sl, su, t0, sn, sc, sb⟩ := s
          dsimp only [sxv] at c0 c1 c2 c3 HAc
          go_wp2_with fail
          refine HAc.out.mono ?_
          rintro e w5 ⟨rfl, hb5, hp5⟩
          have HB5 : Hid (Below w.heap.size w w5) := HBr.out.trans hb5
          have HP5 := hid hp5
          obtain ⟨v5, l5, l6, ck5, hT5, hX5, he5, _⟩ := hp5.st
          have HTl := hid (tells_ok hT5 hX5 he5)
          have HK5 : Hid (∀ X, Below w5.heap.size w5 X → PL w tb B xb (0 + ((j + 1 : Nat) : Int)) X) := fun X hX => by
            obtain ⟨v5, l5, l6, ck5, hT5, hX5, he5, E5, hU5, hE5⟩ := HP5.out.st
            exact ⟨HB5.out.trans (hX.mono HB5.out.size), ⟨v5, l5, l6, ck5, hT5.below hX, hX5.below hX, he5, E5, hU5, by have := HEE.out; omega⟩⟩
          clear hb5 hp5 hT5 hX5 he5 HAc c0 c1 c2 c3 HP5 HB5
          go_wp2_with fail
          refine HTl.out.mono ?_
          rintro e w6 ⟨rfl, hb6⟩
          have HF := hid (HK5.out _ hb6)
          clear hb6 HTl HK5
          go_wp2_with fail
          exact ⟨⟨j + 1, by go_num, by omega, by omega, HF⟩, by simp [intOf]; omega⟩
        · have HBr := hid HR.out.bel
          clear HR
          by_cases hj1 : j < n2
          · have hjI : (j : Int) < (n2 : Int) := by omega
            have hj200 : ¬ (j : Int) < 200 := by omega
            have hjd : decide ((j : Int) < 200) = false := by simpa using hj200
            have hjd2 : decide (j < 200) = false := by simp; omega
            go_wp2_with fail
            go_ret
            exact ⟨rfl, HBr.out⟩
          · have hjI : ¬ (j : Int) < (n2 : Int) := by omega
            have hjd : decide ((j : Int) < (n2 : Int)) = false := by simpa using hjI
            have hjd2 : decide (j < n2) = false := by simpa using hj1
            go_wp2_with fail
            go_ret
            exact ⟨rfl, HBr.out⟩
    · exact absurd (HF.out.symm.trans hf2) (by simp)
  · have H3 := hid (And.intro hT3 (And.intro hkT (And.intro htb hBb)))
    have HF := hid hf
    clear hR3 hT3 hkT htb hBb
    go_wp2_with fail
    refine HX4.out.mono ?_
    rintro e W4 ⟨hb4, ⟨hf2, _⟩ | ⟨_, xb, vX, lX, rfl, hX4, hkX⟩⟩
    · exact absurd (HF.out.symm.trans hf2) (by simp)
    · have HB4 : Hid (Below w.heap.size w W4) := HB3.out.trans (hb4.mono HW3.out)
      have HS4 := hid (HS5.out W4 HB4.out hb4)
      have HT4 := hid (H3.out.1.below hb4)
      have HX4' := hid (And.intro hX4 hkX)
      clear hb4 HX4 HS5 hX4 hkX
      go_wp2_with fail
      refine HS4.out.mono ?_
      rintro e W5 ⟨rfl, hb5⟩
      have HB5 : Hid (Below w.heap.size w W5) := HB4.out.trans (hb5.mono HB4.out.size)
      have HT5 := hid (HT4.out.below hb5)
      have HX5 := hid (HX4'.out.1.below hb5)
      clear hb5 HS4 HT4
      go_wp2_with fail
      refine (code_nil W5).mono ?_
      rintro e W6 ⟨rfl, rfl⟩
      cases fr with
      | true =>
        have HBk := HB5
        go_wp2_with fail
        refine (new_ok W6).mono ?_
        rintro e w8 ⟨tb, B, rfl, hT8, ht8, hB8, hb8⟩
        obtain ⟨w9, hw9⟩ : ∃ w9, w9 = w8.alloc (.cells #[.slice none 0 0, .int .i64 0] 38) := ⟨_, rfl⟩
        have hb9 : Below w8.heap.size w8 w9 := by rw [hw9]; exact below_al w8 _
        have hB98 : Below w.heap.size w w8 := HBk.out.trans (hb8.mono HBk.out.size)
        obtain ⟨xb, hxb⟩ : ∃ xb, xb = w8.heap.size := ⟨_, rfl⟩
        have hX9 : Xt w9 w.heap.size xb (.slice none 0 0) [] 0 := ⟨by rw [hw9, hxb]; exact new_block_at w8 _ rfl, RowS.nil _ _, by rw [hxb]; exact hB98.size, Nat.le_trans hB98.size hb9.size, by simp, by simp, by unfold inI; omega⟩
        have HP0 : Hid (PL w tb B xb 0 w9) := ⟨hB98.trans (hb9.mono hB98.size), ⟨_, [], [], 0, hT8.below hb9, hX9, rfl, 0, IU.new 0 (Int.le_refl _) (by omega), Int.le_refl _⟩⟩
        have HTb : Hid (w.heap.size ≤ tb ∧ w.heap.size ≤ B) := ⟨Nat.le_trans HBk.out.size ht8, Nat.le_trans HBk.out.size hB8⟩
        have HEb : Hid ((0 : Int) ≤ 0) := Int.le_refl _
        have HW9 := hid hw9
        have HE2 := hid hxb
        clear hT8 ht8 hB8 hb8 hb9 hB98 hX9 hw9 hxb
        go_wp2_with fail
        rw [← HW9.out, ← HE2.out]
        clear HW9
        clear HE2
        go_loopw [16] (fun i wr => ∃ j : Nat, i = .int .i64 (j : Int) ∧ j ≤ n2 ∧ j ≤ 200 ∧ Hid (PL w tb B xb (0 + (j : Int)) wr)) (fun i _ => n2 - (intOf i).toNat)
        case atStart => exact ⟨0, rfl, Nat.zero_le _, Nat.zero_le _, by simpa using HP0⟩
        case round =>
          obtain ⟨j, rfl, hj, hj2, HR⟩ := hrel
          clear HP0
          by_cases hjn : j < n2 ∧ j < 200
          · obtain ⟨hjn, hj200⟩ := hjn
            have hjI : (j : Int) < (n2 : Int) := by omega
            have hjJ : (j : Int) < 200 := by omega
            have hjx : j < ys.length := by rw [HY.out.ln]; exact hjn
            have hRA := HY.out.below HR.out.bel
            obtain ⟨g, off, rfl, hg, hcs⟩ := hRA.at' (by omega)
            obtain ⟨c0, c1, c2, c3⟩ := hcs j hjx
            have hok := hRA.ok _ (List.getElem_mem hjx)
            have hok0 := HY.out.ok _ (List.getElem_mem hjx)
            obtain ⟨v, l, l2, ck2, hT, hX, he, E', hU, hE'⟩ := HR.out.px.st
            have HAc := hid (act_ok (HE.out.below HR.out.bel HEn.out) HEn.out hT hX he hU (by have := HEb.out; omega) HTb.out.1 HTb.out.2 ys[j] hok.1 hok.2.1 hok.2.2.1 hok.2.2.2 (fun h0 g off sp e => by
              obtain ⟨_, _, _, _, h5⟩ := hok0.2.2.2
              obtain ⟨g', off', ha, hlt, _⟩ := h5 h0
              rw [e] at ha
              cases ha
              exact hlt) (HZ.out _ (List.getElem_mem hjx)))
            have HEE := hid hE'
            have HBr := hid HR.out.bel
            clear hT hX he hU hE' hok hok0 hcs hg hRA HR
            generalize ys[j] = s at *
            obtain ⟨si, sl, su, t0, sn, sc, sb⟩ := s
            dsimp only [sxv] at c0 c1 c2 c3 HAc
            go_wp2_with fail
            refine HAc.out.mono ?_
            rintro e w5 ⟨rfl, hb5, hp5⟩
            have HB5 : Hid (Below w.heap.size w w5) := HBr.out.trans hb5
            have HP5 := hid hp5
            obtain ⟨v5, l5, l6, ck5, hT5, hX5, he5, _⟩ := hp5.st
            have HTl := hid (tells_ok hT5 hX5 he5)
            have HK5 : Hid (∀ X, Below w5.heap.size w5 X → PL w tb B xb (0 + ((j + 1 : Nat) : Int)) X) := fun X hX => by
              obtain ⟨v5, l5, l6, ck5, hT5, hX5, he5, E5, hU5, hE5⟩ := HP5.out.st
              exact ⟨HB5.out.trans (hX.mono HB5.out.size), ⟨v5, l5, l6, ck5, hT5.below hX, hX5.below hX, he5, E5, hU5, by have := HEE.out; omega⟩⟩
            clear hb5 hp5 hT5 hX5 he5 HAc c0 c1 c2 c3 HP5 HB5
            go_wp2_with fail
            refine HTl.out.mono ?_
            rintro e w6 ⟨rfl, hb6⟩
            have HF := hid (HK5.out _ hb6)
            clear hb6 HTl HK5
            go_wp2_with fail
            exact ⟨⟨j + 1, by go_num, by omega, by omega, HF⟩, by simp [intOf]; omega⟩
          · have HBr := hid HR.out.bel
            clear HR
            by_cases hj1 : j < n2
            · have hjI : (j : Int) < (n2 : Int) := by omega
              have hj200 : ¬ (j : Int) < 200 := by omega
              have hjd : decide ((j : Int) < 200) = false := by simpa using hj200
              have hjd2 : decide (j < 200) = false := by simp; omega
              go_wp2_with fail
              go_ret
              exact ⟨rfl, HBr.out⟩
            · have hjI : ¬ (j : Int) < (n2 : Int) := by omega
              have hjd : decide ((j : Int) < (n2 : Int)) = false := by simpa using hjI
              have hjd2 : decide (j < n2) = false := by simpa using hj1
              go_wp2_with fail
              go_ret
              exact ⟨rfl, HBr.out⟩
      | false =>
        have HP0 : Hid (PL w tb B xb ck W6) := by
          obtain ⟨vX', hv⟩ : ∃ vX', vX' = vX := ⟨_, rfl⟩
          exact ⟨HB5.out, ⟨vX, lT, lX, ck, HT5.out, HX5.out.mono HW3.out, H3.out.2.1.trans HX4'.out.2.symm, ck, iu_key H3.out.2.1 (iu_res HF.out HN.out.2.2), Int.le_refl _⟩⟩
        have HTb : Hid (w.heap.size ≤ tb ∧ w.heap.size ≤ B) := ⟨Nat.le_trans HW2.out H3.out.2.2.1, Nat.le_trans HW2.out H3.out.2.2.2⟩
        have HEb : Hid (ck ≤ 9223372036854775807) := HN.out.2.2.2
        have HE2 := HEb
        clear HT5 HX5 HX4' H3
        go_wp2_with fail
        clear HE2
        go_loopw [16] (fun i wr => ∃ j : Nat, i = .int .i64 (j : Int) ∧ j ≤ n2 ∧ j ≤ 200 ∧ Hid (PL w tb B xb (ck + (j : Int)) wr)) (fun i _ => n2 - (intOf i).toNat)
        case atStart => exact ⟨0, rfl, Nat.zero_le _, Nat.zero_le _, by simpa using HP0⟩
        case round =>
          obtain ⟨j, rfl, hj, hj2, HR⟩ := hrel
          clear HP0
          by_cases hjn : j < n2 ∧ j < 200
          · obtain ⟨hjn, hj200⟩ := hjn
            have hjI : (j : Int) < (n2 : Int) := by omega
            have hjJ : (j : Int) < 200 := by omega
            have hjx : j < ys.length := by rw [HY.out.ln]; exact hjn
            have hRA := HY.out.below HR.out.bel
            obtain ⟨g, off, rfl, hg, hcs⟩ := hRA.at' (by omega)
            obtain ⟨c0, c1, c2, c3⟩ := hcs j hjx
            have hok := hRA.ok _ (List.getElem_mem hjx)
            have hok0 := HY.out.ok _ (List.getElem_mem hjx)
            obtain ⟨v, l, l2, ck2, hT, hX, he, E', hU, hE'⟩ := HR.out.px.st
            have HAc := hid (act_ok (HE.out.below HR.out.bel HEn.out) HEn.out hT hX he hU (by have := HEb.out; omega) HTb.out.1 HTb.out.2 ys[j] hok.1 hok.2.1 hok.2.2.1 hok.2.2.2 (fun h0 g off sp e => by
              obtain ⟨_, _, _, _, h5⟩ := hok0.2.2.2
              obtain ⟨g', off', ha, hlt, _⟩ := h5 h0
              rw [e] at ha
              cases ha
              exact hlt) (HZ.out _ (List.getElem_mem hjx)))
            have HEE := hid hE'
            have HBr := hid HR.out.bel
            clear hT hX he hU hE' hok hok0 hcs hg hRA HR
            generalize ys[j] = s at *
            obtain ⟨si, sl, su, t0, sn, sc, sb⟩ := s
            dsimp only [sxv] at c0 c1 c2 c3 HAc
            go_wp2_with fail
            refine HAc.out.mono ?_
            rintro e w5 ⟨rfl, hb5, hp5⟩
            have HB5 : Hid (Below w.heap.size w w5) := HBr.out.trans hb5
            have HP5 := hid hp5
            obtain ⟨v5, l5, l6, ck5, hT5, hX5, he5, _⟩ := hp5.st
            have HTl := hid (tells_ok hT5 hX5 he5)
            have HK5 : Hid (∀ X, Below w5.heap.size w5 X → PL w tb B xb (ck + ((j + 1 : Nat) : Int)) X) := fun X hX => by
              obtain ⟨v5, l5, l6, ck5, hT5, hX5, he5, E5, hU5, hE5⟩ := HP5.out.st
              exact ⟨HB5.out.trans (hX.mono HB5.out.size), ⟨v5, l5, l6, ck5, hT5.below hX, hX5.below hX, he5, E5, hU5, by have := HEE.out; omega⟩⟩
            clear hb5 hp5 hT5 hX5 he5 HAc c0 c1 c2 c3 HP5 HB5
            go_wp2_with fail
            refine HTl.out.mono ?_
            rintro e w6 ⟨rfl, hb6⟩
            have HF := hid (HK5.out _ hb6)
            clear hb6 HTl HK5
            go_wp2_with fail
            exact ⟨⟨j + 1, by go_num, by omega, by omega, HF⟩, by simp [intOf]; omega⟩
          · have HBr := hid HR.out.bel
            clear HR
            by_cases hj1 : j < n2
            · have hjI : (j : Int) < (n2 : Int) := by omega
              have hj200 : ¬ (j : Int) < 200 := by omega
              have hjd : decide ((j : Int) < 200) = false := by simpa using hj200
              have hjd2 : decide (j < 200) = false := by simp; omega
              go_wp2_with fail
              go_ret
              exact ⟨rfl, HBr.out⟩
            · have hjI : ¬ (j : Int) < (n2 : Int) := by omega
              have hjd : decide ((j : Int) < (n2 : Int)) = false := by simpa using hjI
              have hjd2 : decide (j < n2) = false := by simpa using hj1
              go_wp2_with fail
              go_ret
              exact ⟨rfl, HBr.out⟩
section
variable {H : Type} {enc : TypeId × Value → H} {W : World}
theorem Tryd.bytesSess : Tryd.prog.bytesOf 59 = 48 := by kernel_rfl
theorem row_w {so : Option Addr} {n cap : Nat} {d : DataW H} {ps : List MemPlace} (h : DataW.Trod enc Tryd.prog W 0 (fun _ => true) true 22 (.slice so n cap) d ps) : (so = none → cap = 0) ∧ ((∀ m ∈ d.weights Tryd.prog 22, m ≤ reachBytes) → n * 48 ≤ reachBytes) := by
  obtain ⟨fuel, h⟩ := h
  rcases DataW.trod_slice Tryd.underlying22 h with ⟨e6, _⟩ | ⟨ad, len, cap', elems, rest, m2, hm2, e6, ex, _, hlc, hcm, hel, hev, _⟩
  · simp only [Value.cells, List.cons.injEq, and_true, Value.slice.injEq] at e6
    obtain ⟨rfl, rfl, rfl⟩ := e6
    exact ⟨fun _ => rfl, fun _ => by simp⟩
  · simp only [Value.cells, List.cons.injEq, and_true, Value.slice.injEq] at e6
    obtain ⟨rfl, rfl, rfl⟩ := e6
    refine ⟨fun e => (by cases e), fun hw => ?_⟩
    have ex' : d = _ := congrArg Prod.fst ex
    obtain ⟨u1, _⟩ := slice_w Tryd.underlying22 ex' hw
    rw [List.length_map, hel, Tryd.bytesSess] at u1
    exact u1
end
end Go.Proofs.YtjhclpionimjbaaDoor
