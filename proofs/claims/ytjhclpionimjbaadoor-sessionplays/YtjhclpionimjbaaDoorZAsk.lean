/-
  What Ask answers of any table. Conditions: those that each theorem names.
-/
import Derived.Test.YtjhclpionimjbaaDoorZU
namespace Go.Proofs.YtjhclpionimjbaaDoor
open Go.RowKit Go.Maps
set_option linter.unusedVariables false
def errv (c : Int) : Value := .iface 31 (.int .i64 c)
def askK (l : List Sx) (x q : Int) : Int := match fnd l x with
  | none => 4
  | some s => if s.l < q then 1 else if q = s.l ∧ q ≠ 0 then 2 else 3
def askB (l : List Sx) (x q : Int) : List UInt8 := match fnd l x with
  | none => []
  | some s => if s.l < q then [] else if q = s.l ∧ q ≠ 0 then s.b else []
theorem Has.nil (w : World) : Has w none 0 0 [] := ⟨rfl, Nat.le_refl _, by unfold maxLen; omega, fun _ => rfl, fun h => absurd h (by omega)⟩
theorem Fr.nil (m : Nat) (w : World) : Fr m w none 0 := .inl ⟨rfl, rfl⟩
set_option maxRecDepth 100000 in
set_option maxHeartbeats 2000000 in
theorem ask_ok {w : World} {tb B : Nat} {l : List Sx} {ck : Int} (h : Tb w tb B l ck) (x q : Int) (hx : inI x) (hq : inI q) :
    Calls Tryd.prog 16 #[.pointer (some ⟨tb, 0, none⟩), .int .i64 x, .int .i64 q] w fun e w' => ∃ o n c, e = .returned (.tuple #[.int .i64 (askK l x q), .slice o n c]) ∧ Has w' o n c (askB l x q) ∧ Fr w.heap.size w' o c ∧ Below w.heap.size w w' := by
  obtain ⟨c0, _⟩ := cell_in h.blk 0 _ rfl
  have hlk := h.m.look_ok hx
  have hok := h.ok
  unfold askK askB
  cases hf : fnd l x with
  | none =>
    rw [hf] at hlk
    dsimp only [Option.getD_none, Option.isSome_none, sx0, sxv] at hlk
    clear h hok
    go_enter Tryd.func16, Tryd.ntmps16
    go_wp2_with fail
    refine bodyPost_ret (v := .tuple #[.int .i64 4, .slice none 0 0]) (by simp [results, Tryd.results16, go_sem]) rfl ?_
    exact ⟨none, 0, 0, rfl, Has.nil _, Fr.nil _ _, below_al w _⟩
  | some s =>
    rw [hf] at hlk
    dsimp only [Option.getD_some, Option.isSome_some, sxv] at hlk
    have hs := hok s (fnd_some hf).1
    have HC := hid (fun W (hW : Below w.heap.size w W) => clone_ok s.o s.n s.c s.b W (hs.has.below hW) (by have := hs.sh; omega))
    have HS := hid hs
    obtain ⟨si, sl, su, so, sn, sc, sb⟩ := s
    dsimp only at hlk HC ⊢
    clear h hok hs hf
    by_cases h1 : sl < q
    · have a1 : decide (sl < q) = true := by simpa using h1
      rw [if_pos h1]
      go_enter Tryd.func16, Tryd.ntmps16
      go_wp2_with fail
      refine bodyPost_ret (v := .tuple #[.int .i64 1, .slice none 0 0]) (by simp [results, Tryd.results16, go_sem]) rfl ?_
      exact ⟨none, 0, 0, rfl, Has.nil _, Fr.nil _ _, below_al w _⟩
    · have a1 : decide (sl < q) = false := by simpa using h1
      rw [if_neg h1]
      by_cases h2 : q = sl
      · subst h2
        by_cases h3 : q = 0
        · subst h3
          go_enter Tryd.func16, Tryd.ntmps16
          go_wp2_with fail
          refine bodyPost_ret (v := .tuple #[.int .i64 3, .slice none 0 0]) (by simp [results, Tryd.results16, go_sem]) rfl ?_
          exact ⟨none, 0, 0, by simp, by simpa using Has.nil _, Fr.nil _ _, below_al w _⟩
        · have a3 : (q != 0) = true := by simpa using h3
          go_enter Tryd.func16, Tryd.ntmps16
          go_wp2_with fail
          refine (HC.out _ (below_al w _)).mono ?_
          rintro e w2 ⟨o', c', rfl, k1, k2, k3, k4⟩
          have HK := hid (And.intro k1 (And.intro (Fr.mono (k := w.heap.size) k2 (by simp)) ((below_al w (.cells #[.int .i64 si, .int .i64 q, .int .i64 su, .slice so sn sc] 59)).trans (Below.mono (B' := w.heap.size) k4 (by simp)))))
          clear k1 k2 k3 k4
          go_wp2_with fail
          all_goals (
            refine bodyPost_ret (v := .tuple #[.int .i64 2, .slice o' sn c']) (by simp [results, Tryd.results16, go_sem]) rfl ?_
            exact ⟨o', sn, c', rfl, HK.out.1, HK.out.2.1, HK.out.2.2⟩)
      · have a2 : (q == sl) = false := by simpa using h2
        go_enter Tryd.func16, Tryd.ntmps16
        go_wp2_with fail
        refine bodyPost_ret (v := .tuple #[.int .i64 3, .slice none 0 0]) (by simp [results, Tryd.results16, go_sem]) rfl ?_
        exact ⟨none, 0, 0, rfl, Has.nil _, Fr.nil _ _, below_al w _⟩
end Go.Proofs.YtjhclpionimjbaaDoor
