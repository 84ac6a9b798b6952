/-
  The small case that each statement begins with comes out right. Conditions: those that each theorem names.
-/
import Derived.Test.YtjhclpionimjbaaDoorZOp
import Derived.Test.YtjhclpionimjbaaDoorZN
import Derived.Lib.SlBytesConst
namespace Go.Proofs.YtjhclpionimjbaaDoor
open Go.RowKit Go.Maps
set_option linter.unusedVariables false
theorem ckn0 : ckn 0 = 1 := by unfold ckn; rw [IntKind.wrap_i64]; omega
theorem ckn1 : ckn 1 = 2 := by unfold ckn; rw [IntKind.wrap_i64]; omega
theorem open1 {l' : List Sx} {ck' d : Int} {er : Value} (h : OpenR [] 0 5 l' ck' d er) : er = .nilIface ∧ ck' = 1 ∧ ∃ s : Sx, l' = [s] ∧ s.i = 5 ∧ s.l = 0 := by
  rcases h with ⟨_, _, _, _, h | h⟩ | ⟨rfl, _, _, rfl, l1, hd, s, h1, h2, h3, h4, rfl⟩
  · omega
  · exact absurd rfl h
  · rcases hd with ⟨_, rfl, _⟩ | ⟨h, _⟩
    · exact ⟨rfl, ckn0, s, rfl, h1, h2⟩
    · simp at h
theorem open2 {s : Sx} (hs : s.i = 5) {l' : List Sx} {ck' d : Int} {er : Value} (h : OpenR [s] 1 5 l' ck' d er) : er = errv 1 ∧ l' = [s] ∧ ck' = 1 := by
  rcases h with ⟨h1, _, h2, h3, _⟩ | ⟨_, _, h, _⟩
  · exact ⟨h1, h2, h3⟩
  · rw [fnd_cons, if_pos hs] at h
    cases h
theorem ask1 {s : Sx} (hs : s.i = 5) (hl : s.l = 0) : askK [s] 5 1 = 1 := by
  unfold askK
  rw [fnd_cons, if_pos hs]
  simp [hl]
theorem note1 {s : Sx} (hs : s.i = 5) (hl : s.l = 0) {l' : List Sx} {ck' : Int} {er : Value} (h : NoteR [s] 1 5 1 [97] l' ck' er) : er = .nilIface ∧ ck' = 2 ∧ ∃ t : Sx, l' = [t] ∧ t.i = 5 ∧ t.l = 1 ∧ t.b = [97] := by
  rcases h with ⟨_, h, _⟩ | ⟨_, _, h, _⟩ | ⟨h1, _, _, h2, t, h3, h4, _, h6, h7⟩
  · exact absurd (ask1 hs hl) h
  · simp at h
  · refine ⟨h1, by rw [h2, ckn1], t, ?_, h3, h4, h6⟩
    rw [h7]
    simp [put, hs, h3]
theorem ask2 {t : Sx} (h1 : t.i = 5) (h2 : t.l = 1) (h3 : t.b = [97]) : askK [t] 5 1 = 2 ∧ askB [t] 5 1 = [97] ∧ askK [t] 6 1 = 4 := by
  unfold askK askB
  rw [fnd_cons, if_pos h1, fnd_cons, if_neg (by omega)]
  simp [h2, h3, fnd]
theorem has_mark (w : World) : Has (w.alloc (.cells #[.int .u8 97] 5 (1, 2))) (some ⟨w.heap.size, 0, none⟩) 1 1 [97] :=
  ⟨rfl, Nat.le_refl _, by unfold maxLen; omega, fun e => (by cases e), fun _ => ⟨w.heap.size, 0, rfl, by simp, fun i hi => by
    have : i = 0 := by simp at hi; omega
    subst this
    have h := new_block_at w (.cells #[.int .u8 97] 5 (1, 2)) rfl
    unfold World.cell?
    simp only [Nat.add_zero, h]
    rfl⟩⟩
set_option maxRecDepth 100000 in
set_option maxHeartbeats 4000000 in
theorem small_ok (w : World) (hE : ErrIs w) : Calls Tryd.prog 7 #[] w fun e w' => e = .returned (.bool true) ∧ Below w.heap.size w w' := by
  have HE := hid hE
  have kc := fun (w : World) (C : Array Value) (n c : Nat) => Lib.run_convert_bytes_const (P := Tryd.prog) w 40 5 C n c Tryd.underlying40 Tryd.underlying5
  clear hE
  go_enter Tryd.func7, Tryd.ntmps7
  go_wp2_with fail
  refine (new_ok w).mono ?_
  rintro e w1 ⟨tb, B, rfl, hT, hb1, hb2, hbw⟩
  have HB := hid (And.intro hb1 (And.intro hb2 hbw))
  have HO := hid (open_ok hT 5 (by unfold inI; omega))
  clear hT hb1 hb2 hbw
  go_wp2_with fail
  refine HO.out.mono ?_
  rintro e w2 ⟨l2, k2, d2, r2, rfl, hR, hT, hk⟩
  obtain ⟨rfl, rfl, s, rfl, hs, hl⟩ := open1 hR
  have HK := hid hk
  have HO2 := hid (open_ok hT 5 (by unfold inI; omega))
  have HSl := hid (And.intro hs hl)
  clear hR hT hk HO hs hl
  go_wp2_with fail
  refine HO2.out.mono ?_
  rintro e w3 ⟨l3, k3, d3, r3, rfl, hR, hT, hk⟩
  obtain ⟨rfl, rfl, rfl⟩ := open2 HSl.out.1 hR
  have HK3 := hid (HK.out.trans hk)
  have hA := ask_ok hT 5 1 (by unfold inI; omega) (by unfold inI; omega)
  rw [ask1 HSl.out.1 HSl.out.2] at hA
  have HA := hid hA
  have HT3 := hid hT
  clear hR hT hk HO2 HK hA
  unfold errv
  go_wp2_with fail
  refine HA.out.mono ?_
  rintro e w4 ⟨o4, n4, c4, rfl, _, _, hb4⟩
  have HB4 := hid hb4
  have HT4 := hid ((HT3.out.below hb4).below (below_al w4 (.cells #[.int .u8 97] 5 (1, 2))))
  have HN := hid (note_ok HT4.out 5 1 (by unfold inI; omega) (by unfold inI; omega) _ 1 1 [97] (has_mark w4) (by omega))
  have HB5 := hid (hb4.trans ((below_al w4 (.cells #[.int .u8 97] 5 (1, 2))).mono hb4.size))
  clear hb4 HA HT3
  go_wp2_with fail
  refine HN.out.mono ?_
  rintro e w5 ⟨l5, k5, r5, rfl, hR, hT, hk, _⟩
  obtain ⟨rfl, rfl, t, rfl, ht1, ht2, ht3⟩ := note1 HSl.out.1 HSl.out.2 hR
  obtain ⟨q1, q2, q3⟩ := ask2 ht1 ht2 ht3
  have hA := ask_ok hT 5 1 (by unfold inI; omega) (by unfold inI; omega)
  rw [q1, q2] at hA
  have HA := hid hA
  have HT5 := hid hT
  have HQ := hid q3
  have HK5 := hid (HK3.out.trans ((Kx.below HB5.out : Kx (own2 tb B) _ _).trans hk))
  clear hR hT hk HN HT4 HK3 HB5 HB4 hA q1 q2 q3 ht1 ht2 ht3 HSl
  go_wp2_with fail
  refine HA.out.mono ?_
  rintro e w6 ⟨o6, n6, c6, rfl, hh6, _, hb6⟩
  have hA := ask_ok (HT5.out.below hb6) 6 1 (by unfold inI; omega) (by unfold inI; omega)
  rw [HQ.out] at hA
  have HA2 := hid hA
  have HH6 := hid hh6
  have HB6 := hid hb6
  clear hA hh6 hb6 HA
  go_wp2_with fail
  refine HA2.out.mono ?_
  rintro e w7 ⟨o7, n7, c7, rfl, _, _, hb7⟩
  have HH7 := hid (HH6.out.below hb7)
  have HB7 := hid (HB6.out.trans (hb7.mono HB6.out.size))
  have HT7 := hid (HT5.out.below (HB6.out.trans (hb7.mono HB6.out.size)))
  have HBw : Hid (Below w.heap.size w w7) := HB.out.2.2.trans (((HK5.out.trans (Kx.below HB7.out)).to HB.out.2.2.size (fun g e => by rcases e with rfl | rfl; exact HB.out.1; exact HB.out.2.1)))
  have HCd := hid (code_errno 1 w7 (HE.out.below HBw.out HE.out.lt))
  clear hb7 HA2 HH6
  go_wp2_with fail
  refine HCd.out.mono ?_
  rintro e w8 ⟨rfl, hb8⟩
  have hconv : (convert 40 9 (.slice o6 n6 c6)).run Tryd.prog w8 = .ok (.string ⟨#[97]⟩) w8 := (HH7.out.below hb8).conv
  have HCl := hid (clock_ok (HT7.out.below hb8))
  have HB8 : Hid (Below w.heap.size w w8) := HBw.out.trans (hb8.mono HBw.out.size)
  clear hb8 HCd HH7 HT7 HBw HB7 HB6 HK5 HT5 HQ
  go_wp2_with fail
  refine HCl.out.mono ?_
  rintro e w9 ⟨rfl, rfl⟩
  go_wp2_with fail
  go_ret
  exact ⟨rfl, HB8.out⟩
end Go.Proofs.YtjhclpionimjbaaDoor
