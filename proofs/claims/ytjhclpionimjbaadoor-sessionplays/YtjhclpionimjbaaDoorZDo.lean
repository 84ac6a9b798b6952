/-
  do, the laws' own: an act at any table. Conditions: those that each theorem names.
-/
import Derived.Test.YtjhclpionimjbaaDoorZSm
import Derived.Test.YtjhclpionimjbaaDoorZG
import Derived.Deep.QuietTactic
import Derived.BigQuiet
namespace Go.Proofs.YtjhclpionimjbaaDoor
open Go.RowKit Go.Maps
set_option linter.unusedVariables false
/-- What an act does, and what do tells of it. (An act: i what is done, l the Id, u the number, b the bytes.) -/
inductive DoR (l : List Sx) (ck : Int) (s : Sx) (l' : List Sx) (ck' : Int) : Int → ByteArray → Prop
  | opened (d : Int) : s.i = 0 → OpenR l ck s.l l' ck' d .nilIface → DoR l ck s l' ck' d ⟨#[]⟩
  | refused (d : Int) : s.i = 0 → OpenR l ck s.l l' ck' d (errv 1) → DoR l ck s l' ck' (-1) ⟨#[]⟩
  | asked : s.i = 1 → l' = l → ck' = ck → DoR l ck s l' ck' (askK l s.l s.u) (bs (askB l s.l s.u))
  | noted : s.i ≠ 0 → s.i ≠ 1 → NoteR l ck s.l s.u s.b l' ck' .nilIface → DoR l ck s l' ck' 0 ⟨#[]⟩
  | unnoted (c : Int) : s.i ≠ 0 → s.i ≠ 1 → NoteR l ck s.l s.u s.b l' ck' (errv c) → DoR l ck s l' ck' c ⟨#[]⟩
theorem open_er {l l' : List Sx} {ck x ck' d : Int} {er : Value} (h : OpenR l ck x l' ck' d er) : er = .nilIface ∨ er = errv 1 := by
  rcases h with ⟨h, _⟩ | ⟨h, _⟩
  · exact .inr h
  · exact .inl h
theorem note_er {l l' : List Sx} {ck x q ck' : Int} {b : List UInt8} {er : Value} (h : NoteR l ck x q b l' ck' er) : er = .nilIface ∨ ∃ c, (c = 1 ∨ c = 2) ∧ er = errv c := by
  rcases h with ⟨h, _⟩ | ⟨h, _⟩ | ⟨h, _⟩
  · exact .inr ⟨1, .inl rfl, h⟩
  · exact .inr ⟨2, .inr rfl, h⟩
  · exact .inl h
set_option maxRecDepth 100000 in
set_option maxHeartbeats 4000000 in
theorem do_ok {w : World} {tb B : Nat} {l : List Sx} {ck : Int} (hE : ErrIs w) (h : Tb w tb B l ck) (heT : ¬ own2 tb B 0) (s : Sx) (h1 : inI s.i) (h2 : inI s.l) (h3 : inI s.u) (hb : Has w s.o s.n s.c s.b) (hn : s.n ≤ 140737488355328) :
    Calls Tryd.prog 19 #[.pointer (some ⟨tb, 0, none⟩), sxv s] w fun e w' => ∃ l' ck' r T, e = .returned (.tuple #[.int .i64 r, .string T]) ∧ DoR l ck s l' ck' r T ∧ Tb w' tb B l' ck' ∧ Kx (own2 tb B) w w' := by
  obtain ⟨w1, hw1⟩ : ∃ w1, w1 = w.alloc (.cells #[.int .i64 s.i, .int .i64 s.l, .int .i64 s.u, .slice s.o s.n s.c] 42) := ⟨_, rfl⟩
  have hb1 : Below w.heap.size w w1 := by rw [hw1]; exact below_al w _
  have hT1 := h.below hb1
  have HO := hid (open_ok hT1 s.l h2)
  have HA := hid (ask_ok hT1 s.l s.u h2 h3)
  have HN := hid (note_ok hT1 s.l s.u h2 h3 s.o s.n s.c s.b (hb.below hb1) hn)
  have hE1 := hE.below hb1 hE.lt
  have HCe := hid (fun (c : Int) (X : World) (hk : Kx (own2 tb B) w1 X) => code_errno c X (by
    have := hk.block 0 hE1.lt heT
    exact (World.cell?_of_block (w := w1) (a := ⟨0, 0, none⟩) this).trans hE1))
  have HB1 : Hid (Kx (own2 tb B) w w1) := .below hb1
  have HT1 := hid hT1
  rw [hw1] at HO HA HN
  have HW := hid hw1
  have HS : Hid (∃ t, t = s) := ⟨s, rfl⟩
  clear hb1 hT1 hE hE1 h heT h1 h2 h3 hb hn hw1
  by_cases d0 : s.i = 0
  · have HD := hid d0
    generalize hsi : s.i = si at *
    subst d0
    go_enter Tryd.func19, Tryd.ntmps19
    go_wp2_with fail
    refine HO.out.mono ?_
    rintro e w2 ⟨l2, k2, d, er, rfl, hR, hT, hk⟩
    have HT2 := hid hT
    rw [← HW.out] at hk
    have HK := hid hk
    have HK2 := hid (HB1.out.trans hk)
    rcases open_er hR with rfl | rfl
    · have HF := hid (DoR.opened d hsi hR)
      clear hR hT hk HO HA HN HCe
      go_wp2_with fail
      refine bodyPost_ret (v := .tuple #[.int .i64 d, .string ⟨#[]⟩]) (by simp [results, Tryd.results19, go_sem]) rfl ?_
      exact ⟨l2, k2, d, ⟨#[]⟩, rfl, HF.out, HT2.out, HK2.out⟩
    · have HF := hid (DoR.refused d hsi hR)
      clear hR hT hk HO HA HN
      unfold errv
      go_wp2_with fail
      refine (HCe.out 1 _ HK.out).mono ?_
      rintro e w3 ⟨rfl, hb3⟩
      have HX := hid (And.intro (HT2.out.below hb3) (HK2.out.trans (.below hb3)))
      clear hb3 HCe
      go_wp2_with fail
      refine bodyPost_ret (v := .tuple #[.int .i64 (-1), .string ⟨#[]⟩]) (by simp [results, Tryd.results19, go_sem]) rfl ?_
      exact ⟨l2, k2, -1, ⟨#[]⟩, rfl, HF.out, HX.out⟩
  · by_cases d1 : s.i = 1
    · generalize hsi : s.i = si at *
      subst d1
      go_enter Tryd.func19, Tryd.ntmps19
      go_wp2_with fail
      refine HA.out.mono ?_
      rintro e w2 ⟨o2, n2, c2, rfl, hh, _, hb2⟩
      rw [← HW.out] at hb2
      have hcv := fun q => (hh.drewN q).conv
      have hdr : ∀ q, Below w2.heap.size w2 (w2.drewN q) := fun q => ⟨rfl, rfl, rfl, Nat.le_refl _, fun _ _ => rfl⟩
      have HX : Hid (∀ q, Tb (w2.drewN q) tb B l ck ∧ Kx (own2 tb B) w (w2.drewN q)) := fun q => ⟨(HT1.out.below hb2).below (hdr q), (HB1.out.trans (Kx.below hb2)).trans (.below (hdr q))⟩
      have HF := hid (DoR.asked (ck' := ck) (ck := ck) (l' := l) (l := l) hsi rfl rfl)
      generalize askK l s.l s.u = K0 at *
      generalize bs (askB l s.l s.u) = T0 at *
      clear hh hb2 HO HN HCe HA hdr
      go_wp2_with fail
      go_quiet (fail)
      go_wp2_with fail
      refine bodyPost_ret (v := .tuple #[.int .i64 K0, .string T0]) (by simp [results, Tryd.results19, go_sem]) rfl ?_
      exact ⟨l, ck, K0, T0, rfl, HF.out, HX.out _⟩
    · have a0 : (s.i == 0) = false := by simpa using d0
      have a1 : (s.i == 1) = false := by simpa using d1
      have HD := hid (And.intro d0 d1)
      generalize hsi : s.i = si at *
      go_enter Tryd.func19, Tryd.ntmps19
      go_wp2_with fail
      refine HN.out.mono ?_
      rintro e w2 ⟨l2, k2, er, rfl, hR, hT, hk, _⟩
      rw [← HW.out] at hk
      have HT2 := hid hT
      have HK := hid hk
      have HK2 := hid (HB1.out.trans hk)
      rcases note_er hR with rfl | ⟨c, _, rfl⟩
      · have HF := hid (DoR.noted (by rw [hsi]; exact HD.out.1) (by rw [hsi]; exact HD.out.2) hR)
        have HCn := hid (code_nil w2)
        clear hR hT hk HO HA HN HCe
        go_wp2_with fail
        refine HCn.out.mono ?_
        rintro e w3 ⟨rfl, rfl⟩
        go_wp2_with fail
        refine bodyPost_ret (v := .tuple #[.int .i64 0, .string ⟨#[]⟩]) (by simp [results, Tryd.results19, go_sem]) rfl ?_
        exact ⟨l2, k2, 0, ⟨#[]⟩, rfl, HF.out, HT2.out, HK2.out⟩
      · have HF := hid (DoR.unnoted c (by rw [hsi]; exact HD.out.1) (by rw [hsi]; exact HD.out.2) hR)
        clear hR hT hk HO HA HN
        unfold errv
        go_wp2_with fail
        refine (HCe.out c _ HK.out).mono ?_
        rintro e w3 ⟨rfl, hb3⟩
        have HX := hid (And.intro (HT2.out.below hb3) (HK2.out.trans (.below hb3)))
        clear hb3 HCe
        go_wp2_with fail
        refine bodyPost_ret (v := .tuple #[.int .i64 c, .string ⟨#[]⟩]) (by simp [results, Tryd.results19, go_sem]) rfl ?_
        exact ⟨l2, k2, c, ⟨#[]⟩, rfl, HF.out, HX.out⟩
end Go.Proofs.YtjhclpionimjbaaDoor
