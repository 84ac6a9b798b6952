/-
  What wire.Open answers for any bytes that memory holds. Conditions: the table of the sum lies in its place; the slice holds the bytes, fewer than 2^47.
-/
import Derived.Test.YtipkjiacikdmmaaDoorFrame
import Derived.Deep.QuietTactic
import Derived.BigQuiet
namespace Go.Proofs.YtipkjiacikdmmaaDoor
open Go.RowKit
set_option linter.unusedVariables false

/-- What a frame at the front holds, how long it is, the error's number. -/
def opn (l : List UInt8) : List UInt8 × Nat × Nat :=
  if l.length < 4 then ([], 0, 3) else if 1048576 < valFrom 0 (l.take 4) then ([], 0, 2) else
  if l.length < valFrom 0 (l.take 4) + 8 then ([], 0, 3) else
  if valFrom 0 ((l.drop (4 + valFrom 0 (l.take 4))).take 4) ≠ crc (l.take (4 + valFrom 0 (l.take 4))) then ([], 0, 5) else
  ((l.drop 4).take (valFrom 0 (l.take 4)), valFrom 0 (l.take 4) + 8, 0)

theorem val4_lt (l : List UInt8) (h : l.length ≤ 4) : valFrom 0 l < 4294967296 := by
  have h1 := valFrom_lt l
  have h2 : 256 ^ l.length ≤ 256 ^ 4 := Nat.pow_le_pow_right (by omega) h
  omega

set_option maxRecDepth 100000 in
theorem open_tiny (a : Option Addr) (len cap : Nat) (w : World) (h : (len : Int) < 4) :
    Calls Tryd.prog 24 #[.slice a len cap] w fun e w' => e = .returned (.tuple #[.slice none 0 0, .int .i64 0, .iface 30 (.int .i64 3)]) ∧ w' = w := by
  go_enter Tryd.func24, Tryd.ntmps24
  go_wp2
  go_ret3
  exact ⟨rfl, rfl⟩

set_option maxRecDepth 100000 in
set_option maxHeartbeats 1000000 in
theorem open_rest (b off len cap n : Nat) (l : List UInt8) (w : World) (h : Has w (some ⟨b, off, none⟩) len cap l) (h4 : 4 ≤ len) (hn : valFrom 0 (l.take 4) = n) (hT : TabIs w) (hlm : len ≤ 140737488355328) :
    Calls Tryd.prog 24 #[.slice (some ⟨b, off, none⟩) len cap] w fun e w' =>
      (1048576 < n ∧ e = .returned (.tuple #[.slice none 0 0, .int .i64 0, .iface 30 (.int .i64 2)]) ∧ w' = w) ∨
      (n ≤ 1048576 ∧ len < n + 8 ∧ e = .returned (.tuple #[.slice none 0 0, .int .i64 0, .iface 30 (.int .i64 3)]) ∧ w' = w) ∨
      (n ≤ 1048576 ∧ n + 8 ≤ len ∧ valFrom 0 ((l.drop (4 + n)).take 4) ≠ crc (l.take (4 + n)) ∧ e = .returned (.tuple #[.slice none 0 0, .int .i64 0, .iface 30 (.int .i64 5)]) ∧ Below w.heap.size w w') ∨
      (n ≤ 1048576 ∧ n + 8 ≤ len ∧ valFrom 0 ((l.drop (4 + n)).take 4) = crc (l.take (4 + n)) ∧ ∃ g, e = .returned (.tuple #[.slice (some ⟨g, 0, none⟩) n n, .int .i64 (4 + (n : Int) + 4), .nilIface]) ∧ w.heap.size ≤ g ∧
        w'.ownsRow g 5 1 (.slice (some ⟨g, 0, none⟩) n n) n (((l.drop 4).take n).map bv) ∧ Below w.heap.size w w') := by
  have hl := h.1
  have hlc := h.2.1
  have hcm : cap ≤ maxLen := h.2.2.1
  unfold maxLen at hcm
  have hv := val4_lt (l.take 4) (by simp; omega)
  have hc1 := h.cut 0 4 (by omega) h4 (a := some ⟨b, off, none⟩) (fun _ => rfl) (by simp)
  simp only [Nat.sub_zero, List.drop_zero] at hc1
  have hj1 := join_any _ 4 cap _ w hc1 (by omega) (by simp; omega)
  rw [hn] at hj1 hv
  clear hc1
  have HN : Hid (valFrom 0 (l.take 4) = n) := hn
  have HL : Hid (l.length = len) := hl
  have h4' : ¬ (len : Int) < 4 := by omega
  have hcap4 : (4 : Int) ≤ (cap : Int) := by omega
  have hlm' : (len : Int) ≤ 140737488355328 := by omega
  by_cases hbig : (1048576 : Int) < (n : Int)
  · clear hn hl h
    go_enter Tryd.func24, Tryd.ntmps24
    go_wp2_with fail
    refine hj1.mono ?_
    rintro e w1 ⟨rfl, rfl⟩
    go_wp2
    go_ret3
    exact .inl ⟨by omega, rfl, rfl⟩
  · by_cases hsh : (len : Int) < 4 + (n : Int) + 4
    · clear hn hl h
      go_enter Tryd.func24, Tryd.ntmps24
      go_wp2_with fail
      refine hj1.mono ?_
      rintro e w1 ⟨rfl, rfl⟩
      go_wp2
      go_ret3
      exact .inr (.inl ⟨by omega, by omega, rfl, rfl⟩)
    · have hc2 := h.cut (4 + n) (4 + n + 4) (by omega) (by omega) (a := some ⟨b, off + (4 + n), none⟩) (fun _ => rfl) (by simp)
      rw [show 4 + n + 4 - (4 + n) = 4 by omega] at hc2
      have hv2 := val4_lt ((l.drop (4 + n)).take 4) (by simp; omega)
      have hj2 := fun q => join_any _ _ _ _ (w.drewN q) (hc2.drewN q) (by omega) (by simp; omega)
      have hc3 := h.cut 0 (4 + n) (by omega) (by omega) (a := some ⟨b, off, none⟩) (fun _ => rfl) (by simp)
      simp only [Nat.sub_zero, List.drop_zero] at hc3
      have hs3 := fun q => sum_any _ _ _ _ (w.drewN q) (hc3.drewN q) (hT.drewN q) (by omega)
      have hc4 := h.cut 4 (4 + n) (by omega) (by omega) (a := some ⟨b, off + 4, none⟩) (fun _ => rfl) (by simp)
      rw [show 4 + n - 4 = n by omega] at hc4
      have HC4 : Hid (Has w (some ⟨b, off + 4, none⟩) n (cap - 4) ((l.drop 4).take n)) := hc4
      have HH : Hid (Has w (some ⟨b, off, none⟩) len cap l) := h
      clear hc2 hc3 hc4 hn hl h
      generalize valFrom 0 ((l.drop (4 + n)).take 4) = x at *
      generalize crc (l.take (4 + n)) = y at *
      have f1 : (4 : Int) + (n : Int) + 4 ≤ (cap : Int) := by omega
      have f2 : (4 : Int) + (n : Int) ≤ (cap : Int) := by omega
      have f3 : ¬ cap = 4 + n := by omega
      have f4 : ¬ cap = 4 := by omega
      have f5 : ¬ cap = 0 := by omega
      have HJ2 : Hid (∀ q, Calls _ _ _ _ _) := hj2
      have HS3 : Hid (∀ q, Calls _ _ _ _ _) := hs3
      clear hj2 hs3
      go_enter Tryd.func24, Tryd.ntmps24
      go_wp2_with fail
      refine hj1.mono ?_
      rintro e w1 ⟨rfl, rfl⟩
      go_upto_region 10 with fail
      go_cut [36] (fun c wx => c = .bool ((x : Int) != (y : Int)) ∧ ∃ q, wx = w1.drewN q)
      case first =>
        go_quiet ((first | (go_at_call 30; exact Calls.quiet_of_same (HJ2.out _)) | (go_at_call 20; exact Calls.quiet_of_same (HS3.out _))))
        go_wp2_with fail
        go_meet
        case rel => exact ⟨rfl, _, rfl⟩
      case rest =>
        obtain ⟨rfl, q, rfl⟩ := hcut
        by_cases hxy : x = y
        · have hx : ((x : Int) != (y : Int)) = false := by rw [hxy]; simp
          have hcp := copied_any _ _ _ _ _ (HC4.out.drewN q) (by omega)
          have HXY : Hid (x = y) := hxy
          clear hxy
          go_wp2_with fail
          refine hcp.mono ?_
          rintro e w3 ⟨rfl, hown3, hb3⟩
          go_wp2
          go_ret3
          refine .inr (.inr (.inr ⟨by omega, by omega, HXY.out, _, rfl, ?_, hown3, ?_⟩))
          · simp
          · exact (below_drewN (Below.refl _ _) q).trans (hb3.mono (by simp))
        · have hx : ((x : Int) != (y : Int)) = true := by rw [bne_iff_ne]; omega
          have HXY : Hid (¬ x = y) := hxy
          clear hxy
          go_wp2
          go_ret3
          exact .inr (.inr (.inl ⟨by omega, by omega, HXY.out, rfl, below_drewN (Below.refl _ _) q⟩))

/-- What wire.Open left. -/
def OpLeft (w w' : World) (l : List UInt8) (e : Ending) : Prop :=
  (∃ c, (opn l) = ([], 0, c) ∧ c ≠ 0 ∧ e = .returned (.tuple #[.slice none 0 0, .int .i64 0, .iface 30 (.int .i64 (c : Int))])) ∨
  (∃ g n u, (opn l).2.1 = u ∧ (opn l).2.2 = 0 ∧ e = .returned (.tuple #[.slice (some ⟨g, 0, none⟩) n n, .int .i64 (u : Int), .nilIface]) ∧ w.heap.size ≤ g ∧
    w'.ownsRow g 5 1 (.slice (some ⟨g, 0, none⟩) n n) n ((opn l).1.map bv))
theorem open_any (a : Option Addr) (len cap : Nat) (l : List UInt8) (w : World) (h : Has w a len cap l) (hT : TabIs w) (hlm : len ≤ 140737488355328) :
    Calls Tryd.prog 24 #[.slice a len cap] w fun e w' => OpLeft w w' l e ∧ Below w.heap.size w w' := by
  have hl := h.1
  by_cases h4 : len < 4
  · refine (open_tiny a len cap w (by omega)).mono fun e w' ⟨he, hw⟩ => ?_
    subst hw
    refine ⟨.inl ⟨3, ?_, by omega, he⟩, Below.refl _ _⟩
    unfold opn; rw [if_pos (by omega)]
  · obtain ⟨b, off, rfl, _, _⟩ := h.2.2.2.2 (by omega)
    refine (open_rest b off len cap _ l w h (by omega) rfl hT hlm).mono fun e w' hh => ?_
    have n4 : ¬ l.length < 4 := by omega
    rcases hh with ⟨h1, he, hw⟩ | ⟨h1, h2, he, hw⟩ | ⟨h1, h2, h3, he, hb⟩ | ⟨h1, h2, h3, g, he, hg, hown, hb⟩
    · subst hw
      refine ⟨.inl ⟨2, ?_, by omega, he⟩, Below.refl _ _⟩
      unfold opn; rw [if_neg n4, if_pos h1]
    · subst hw
      refine ⟨.inl ⟨3, ?_, by omega, he⟩, Below.refl _ _⟩
      unfold opn; rw [if_neg n4, if_neg (by omega), if_pos (by omega)]
    · refine ⟨.inl ⟨5, ?_, by omega, he⟩, hb⟩
      unfold opn; rw [if_neg n4, if_neg (by omega), if_neg (by omega), if_pos h3]
    · have e : opn l = ((l.drop 4).take (valFrom 0 (l.take 4)), valFrom 0 (l.take 4) + 8, 0) := by
        unfold opn; rw [if_neg n4, if_neg (by omega), if_neg (by omega), if_neg (by simpa using h3)]
      refine ⟨.inr ⟨g, _, valFrom 0 (l.take 4) + 8, by rw [e], by rw [e], ?_, hg, by rw [e]; exact hown⟩, hb⟩
      have e2 : (4 + ((valFrom 0 (l.take 4) : Nat) : Int) + 4) = ((valFrom 0 (l.take 4) + 8 : Nat) : Int) := by omega
      rw [he, e2]
end Go.Proofs.YtipkjiacikdmmaaDoor
