/-
  For any bytes p, any int at and any byte by: muntinlaw01.WireTurned answers true. Conditions: those that each theorem names.
-/
import Derived.Test.YtipkjiacikdmmabDoorTurnedP
namespace Go.Proofs.YtipkjiacikdmmabDoor
open Go.RowKit
set_option linter.unusedVariables false

set_option maxRecDepth 100000 in
theorem turned_long (a : Option Addr) (len cap : Nat) (at_ by_ : Int) (w : World) (h : (1048576 : Int) < (len : Int)) :
    Calls Tryd.prog 6 #[.slice a len cap, .int .i64 at_, .int .u8 by_] w fun e w' => e = .returned (.bool true) ∧ Below w.heap.size w w' := by
  go_enter Tryd.func6, Tryd.ntmps6
  go_wp2_with fail
  refine (frame_long a len cap _ h).mono ?_
  rintro e w1 ⟨rfl, rfl⟩
  go_wp2
  go_ret
  exact ⟨by simp, Below.refl _ _⟩

set_option maxRecDepth 100000 in
set_option maxHeartbeats 1000000 in
theorem turned_idle (a : Option Addr) (len cap : Nat) (l : List UInt8) (at_ by_ : Int) (w : World) (h : Has w a len cap l) (hT : TabIs w) (hb : (len : Int) ≤ 1048576) (hi : at_ < 0 ∨ by_ = 0) :
    Calls Tryd.prog 6 #[.slice a len cap, .int .i64 at_, .int .u8 by_] w fun e w' => e = .returned (.bool true) ∧ Below w.heap.size w w' := by
  have hfr := frame_ok a len cap l w h hT hb
  clear h hT
  rcases hi with hi | rfl
  · go_enter Tryd.func6, Tryd.ntmps6
    go_wp2_with fail
    refine hfr.mono ?_
    rintro e w1 ⟨g, rfl, hg, hown, hb1⟩
    clear hown
    go_wp2
    go_ret
    exact ⟨rfl, hb1⟩
  · by_cases hat : at_ < 0
    · go_enter Tryd.func6, Tryd.ntmps6
      go_wp2_with fail
      refine hfr.mono ?_
      rintro e w1 ⟨g, rfl, hg, hown, hb1⟩
      clear hown
      go_wp2
      go_ret
      exact ⟨rfl, hb1⟩
    · go_enter Tryd.func6, Tryd.ntmps6
      go_wp2_with fail
      refine hfr.mono ?_
      rintro e w1 ⟨g, rfl, hg, hown, hb1⟩
      clear hown
      go_wp2
      go_ret
      exact ⟨rfl, hb1⟩

set_option maxRecDepth 100000 in
set_option maxHeartbeats 1000000 in
theorem turned_walk (a : Option Addr) (len cap : Nat) (l : List UInt8) (n : Nat) (y : UInt8) (w : World) (h : Has w a len cap l) (hT : TabIs w) (hb : (len : Int) ≤ 1048576) (hn : (n : Int) ≤ 9223372036854775807) (hy : y ≠ 0) :
    Calls Tryd.prog 6 #[.slice a len cap, .int .i64 (n : Int), .int .u8 (y.toNat : Int)] w fun e w' => e = .returned (.bool true) ∧ Below w.heap.size w w' := by
  have hfr := frame_ok a len cap l w h hT hb
  have HL : Hid (l.length = len) := h.1
  have HT : Hid (TabIs w) := hT
  have HY : Hid (y ≠ 0) := hy
  have hy0 : ((y.toNat : Int) == 0) = false := by
    rw [beq_eq_false_iff_ne]
    intro e
    apply hy
    apply UInt8.toNat_inj.1
    have : y.toNat = 0 := by omega
    rw [this]; rfl
  have hyl := y.toNat_lt
  clear h hT hy
  have hn0 : ¬ (n : Int) < 0 := by omega
  obtain ⟨k, hk⟩ : ∃ k, n % (len + 8) = k := ⟨_, rfl⟩
  have hkl : k < len + 8 := by rw [← hk]; exact Nat.mod_lt _ (by omega)
  have hk' : (n : Int) % ((len : Int) + 8) = (k : Int) := by rw [← hk, Int.natCast_emod]; rfl
  go_enter Tryd.func6, Tryd.ntmps6
  go_wp2_with fail
  refine hfr.mono ?_
  rintro e w1 ⟨g, rfl, hg, hown, hb1⟩
  clear hfr hk
  have hlf : (frameB l).length = len + 8 := by rw [frameB_length, HL.out]
  have hkf : k < (frameB l).length := by omega
  obtain ⟨x, hx⟩ : ∃ x, (frameB l)[k] = x := ⟨_, rfl⟩
  have hcell : w1.cell? ⟨g, k, none⟩ = some (.int .u8 (x.toNat : Int)) := by
    rw [hown.cellAt k (by omega)]
    simp [hkf, hx, bv]
  have hfree : w1.frozen? ⟨g, k, none⟩ = false := hown.frozenAt k
  have hst := hown.stored k (bv (x ^^^ y))
  have e1 : ((frameB l).map bv).set k (bv (x ^^^ y)) = ((frameB l).set k (x ^^^ y)).map bv := by rw [List.map_set]
  rw [e1] at hst
  have hxl := x.toNat_lt
  have hxor : bits .xor .u8 (x.toNat : Int) (y.toNat : Int) = ((x ^^^ y).toNat : Int) := by rw [u8_xor_nat _ _ (by omega) (by omega), UInt8.toNat_xor]
  have HO : Hid (Has (w1.setCell ⟨g, k, none⟩ (bv (x ^^^ y))) (some ⟨g, 0, none⟩) (len + 8) (len + 8) ((frameB l).set k (x ^^^ y))) := Has.of_row hst.1
  have HB2 : Hid (Below w.heap.size w (w1.setCell ⟨g, k, none⟩ (bv (x ^^^ y)))) := hb1.setCell hg _
  have HT2 : Hid (TabIs (w1.setCell ⟨g, k, none⟩ (bv (x ^^^ y)))) := HT.out.below HB2.out HT.out.lt
  have hop := open_any _ _ _ _ _ HO.out HT2.out (by omega)
  have HTu : Hid ((opn ((frameB l).set k (x ^^^ y))).2.2 = 0 → k < 4 ∧ (opn ((frameB l).set k (x ^^^ y))).2.1 < len + 8) := by
    intro h0
    have := turned l (by have := HL.out; omega) k (x ^^^ y) hkf (by rw [hx]; exact xor_ne x y HY.out) h0
    rw [HL.out] at this
    exact this
  unfold bv at hop HB2
  clear HO HT2 hst e1 hown hx hb1
  generalize (x ^^^ y).toNat = z at *
  go_wp2_with fail
  refine hop.mono ?_
  rintro e w3 ⟨hopl, hb3⟩
  have HB3 : Hid (Below w.heap.size w w3) := HB2.out.trans (hb3.mono HB2.out.size)
  rcases hopl with ⟨c, hc, hc0, rfl⟩ | ⟨g2, n2, u2, hu, h0, rfl, hg2, hown2⟩
  · clear hc hb3 HTu hop
    go_wp2
    go_ret
    exact ⟨rfl, HB3.out⟩
  · obtain ⟨t1, t2⟩ := HTu.out h0
    rw [hu] at t2
    have t1' : (k : Int) < 4 := by omega
    have t2' : (u2 : Int) < (len : Int) + 8 := by omega
    clear hu h0 hown2 hg2 hb3 HTu hop
    go_wp2
    go_ret
    exact ⟨by simp, HB3.out⟩
end Go.Proofs.YtipkjiacikdmmabDoor
