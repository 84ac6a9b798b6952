/-
  Open at any table. Conditions: those that each theorem names.
-/
import Derived.Test.YtjhclpionimjbaaDoorZW
namespace Go.Proofs.YtjhclpionimjbaaDoor
open Go.RowKit Go.Maps
set_option linter.unusedVariables false
/-- What Open does. -/
def OpenR (l : List Sx) (ck x : Int) (l' : List Sx) (ck' d : Int) (er : Value) : Prop :=
  (er = errv 1 ∧ d = 0 ∧ l' = l ∧ ck' = ck ∧ (x < 1 ∨ fnd l x ≠ none)) ∨
  (er = .nilIface ∧ 1 ≤ x ∧ fnd l x = none ∧ ck' = ckn ck ∧ ∃ l1, DropR l l1 d ∧ ∃ s : Sx, s.i = x ∧ s.l = 0 ∧ s.u = ckn ck ∧ s.b = [] ∧ l' = ins l1 s)
theorem drop_sub {l l1 : List Sx} {d : Int} (h : DropR l l1 d) : ∀ t ∈ l1, t ∈ l := by
  rcases h with ⟨_, rfl, _⟩ | ⟨_, m, _, _, _, rfl⟩
  · exact fun t h => h
  · exact fun t h => (mem_del.1 h).1
theorem drop_len {l l1 : List Sx} {d : Int} (hr : Rise l) (hl : l.length ≤ 8) (h : DropR l l1 d) : l1.length + 1 ≤ 8 := by
  rcases h with ⟨_, rfl, _⟩ | ⟨_, m, hm, _, _, rfl⟩
  · omega
  · have := len_del hr hm
    omega
theorem fnd_no {l : List Sx} {x : Int} (h : ∀ t ∈ l, t.i ≠ x) : fnd l x = none := by
  unfold fnd
  rw [List.find?_eq_none]
  intro t ht
  simpa using h t ht
set_option maxRecDepth 100000 in
set_option maxHeartbeats 2000000 in
theorem open_ok {w : World} {tb B : Nat} {l : List Sx} {ck : Int} (h : Tb w tb B l ck) (x : Int) (hx : inI x) :
    Calls Tryd.prog 15 #[.pointer (some ⟨tb, 0, none⟩), .int .i64 x] w fun e w' => ∃ l' ck' d er, e = .returned (.tuple #[.int .i64 d, er]) ∧ OpenR l ck x l' ck' d er ∧ Tb w' tb B l' ck' ∧ Kx (own2 tb B) w w' := by
  obtain ⟨c0, _⟩ := cell_in h.blk 0 _ rfl
  simp only [List.getElem_toArray, List.getElem_cons_zero] at c0
  have hlk := h.m.look_ok hx
  have HT := hid h
  by_cases hbad : x < 1 ∨ fnd l x ≠ none
  · have HR : Hid (OpenR l ck x l ck 0 (errv 1)) := .inl ⟨rfl, rfl, rfl, rfl, hbad⟩
    cases hf : fnd l x with
    | none =>
      rw [hf] at hlk
      dsimp only [Option.getD_none, Option.isSome_none, sx0, sxv] at hlk
      have hx1 : x < 1 := by
        rcases hbad with h1 | h1
        · exact h1
        · exact absurd hf h1
      have a1 : decide (x < 1) = true := by simpa using hx1
      clear h hbad hf
      go_enter Tryd.func15, Tryd.ntmps15
      go_wp2_with fail
      refine bodyPost_ret (v := .tuple #[.int .i64 0, .iface 31 (.int .i64 1)]) (by simp [results, Tryd.results15, go_sem]) rfl ?_
      exact ⟨l, ck, 0, _, rfl, HR.out, HT.out.below (below_al w _), .below (below_al w _)⟩
    | some s =>
      rw [hf] at hlk
      dsimp only [Option.getD_some, Option.isSome_some, sxv] at hlk
      clear h hbad hf
      go_enter Tryd.func15, Tryd.ntmps15
      go_wp2_with fail
      refine bodyPost_ret (v := .tuple #[.int .i64 0, .iface 31 (.int .i64 1)]) (by simp [results, Tryd.results15, go_sem]) rfl ?_
      exact ⟨l, ck, 0, _, rfl, HR.out, HT.out.below (below_al w _), .below (below_al w _)⟩
  · have hx1 : 1 ≤ x := by
      rcases Int.lt_or_le x 1 with h1 | h1
      · exact absurd (.inl h1) hbad
      · exact h1
    have hf : fnd l x = none := by
      cases hf : fnd l x with
      | none => rfl
      | some s => exact absurd (.inr (by rw [hf]; exact fun e => by cases e)) hbad
    have a1 : decide (x < 1) = false := by simp; omega
    have hx2 : ¬ x < 1 := by omega
    have HF := hid hf
    rw [hf] at hlk
    dsimp only [Option.getD_none, Option.isSome_none, sx0, sxv] at hlk
    have HRo := hid (room_ok (h.below (below_al w (.cells #[.int .i64 0, .int .i64 0, .int .i64 0, .slice none 0 0] 59))))
    have HB0 := hid (below_al w (.cells #[.int .i64 0, .int .i64 0, .int .i64 0, .slice none 0 0] 59))
    have hxx := hx1
    clear h hbad hf hx1
    go_enter Tryd.func15, Tryd.ntmps15
    go_wp2_with fail
    refine HRo.out.mono ?_
    rintro e w2 ⟨l1, d, rfl, hd, hT1, hk1⟩
    have hno : ∀ t ∈ l1, t.i ≠ x := fun t ht => fnd_none HF.out t (drop_sub hd t ht)
    have hU := use_ok hT1 x 0 hxx hx (by unfold inI; omega) none 0 0 [] (Has.nil _) (by omega) (fun s => ins l1 s)
      (fun s hs => rise_ins hT1.m.1 (by rw [hs]; exact hno)) (fun s hs y => fnd_ins s y l1 (by rw [hs]; exact hno)) (fun s => by rw [len_ins]; exact drop_len HT.out.m.1 HT.out.few hd) (fun s t ht => mem_ins.1 ht)
    have HU := hid hU
    have HD := hid (And.intro hd hk1)
    clear hU hd hT1 hk1 hno HRo
    go_wp2_with fail
    refine HU.out.mono ?_
    rintro e w3 ⟨o', c', rfl, ho, hT3, hk3, _⟩
    have HE := hid (And.intro (show OpenR l ck x (ins l1 ⟨x, 0, ckn ck, o', 0, c', []⟩) (ckn ck) d .nilIface from .inr ⟨rfl, hxx, HF.out, rfl, l1, HD.out.1, _, rfl, rfl, rfl, rfl, rfl⟩) (And.intro hT3 ((Kx.below HB0.out : Kx (own2 tb B) _ _).trans (HD.out.2.trans hk3))))
    clear ho hT3 hk3 HU HD HB0 HF HT hxx
    go_wp2_with fail
    refine bodyPost_ret (v := .tuple #[.int .i64 d, .nilIface]) (by simp [results, Tryd.results15, go_sem]) rfl ?_
    exact ⟨_, _, d, _, rfl, HE.out⟩
end Go.Proofs.YtjhclpionimjbaaDoor
