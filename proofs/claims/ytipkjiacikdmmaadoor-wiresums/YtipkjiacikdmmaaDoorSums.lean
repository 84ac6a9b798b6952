/-
  For any bytes: muntinlaw01.WireSums answers true, and its argument reads as it did (the given card). Condition: the table of the sum is what the program's own text lays (the card ties it).
-/
import Derived.Test.YtipkjiacikdmmaaDoorCards
import Derived.Test.YtipkjiacikdmmaaDoorTie
import Derived.Test.YtipkjiacikdmmaaDoorRSum
import Derived.Test.YtipkjiacikdmmaaDoorLent
import Derived.Test.YtipkjiacikdmmaaDoorArgs
import Derived.Lib.SlBytesConst
import Derived.Deep.DeepHandedRow
import Derived.Lib.LaidTab
namespace Go.Proofs.YtipkjiacikdmmaaDoor
open Go.ChangeShapes Go.WideShapes Go.ChangeAt Go.RowKit
set_option linter.unusedVariables false

def nine : List UInt8 := [49, 50, 51, 52, 53, 54, 55, 56, 57]
theorem crc_nine : crc nine = 3808858755 := by decide +kernel

theorem has_new (w : World) (l : List UInt8) (fz : Nat × Nat) (hm : l.length ≤ maxLen) : Has (w.alloc (.cells (l.map bv).toArray 5 fz)) (some ⟨w.heap.size, 0, none⟩) l.length l.length l := by
  refine ⟨rfl, Nat.le_refl _, hm, fun e => (by cases e), fun _ => ⟨w.heap.size, 0, rfl, by simp, fun i hi => ?_⟩⟩
  rw [Nat.zero_add]
  show (match (w.heap.push (Obj.cells (l.map bv).toArray 5 fz))[w.heap.size]? with | some (.cells c _ _) => _ | _ => _) = _
  simp [hi]
set_option maxRecDepth 100000 in
set_option maxHeartbeats 1000000 in
theorem sums_walk (a : Option Addr) (len cap : Nat) (l : List UInt8) (w : World) (h : Has w a len cap l) (hT : TabIs w) (hb : len ≤ 140737488355327) :
    Calls Tryd.prog 5 #[.slice a len cap] w fun e w' => e = .returned (.bool true) ∧ Below w.heap.size w w' := by
  have HT : Hid (TabIs w) := hT
  have HH : Hid (Has w a len cap l) := h
  obtain rfl := h.1
  clear hT h
  have kc := fun (w : World) (C : Array Value) (n c : Nat) => Lib.run_convert_bytes_const (P := Tryd.prog) w 22 5 C n c Tryd.underlying22 Tryd.underlying5
  go_enter Tryd.func5, Tryd.ntmps5
  go_wp2_with fail
  refine (lent_any a _ cap l _ HH.out hb).mono ?_
  rintro e w1 ⟨rfl, hl1, hb1⟩
  have HL1 : Hid (LentIs w1 w.heap.size l) := hl1
  have HB1 : Hid (Below w.heap.size w w1) := hb1
  have HT1 : Hid (TabIs w1) := HT.out.below hb1 HT.out.lt
  have HH1 : Hid (Has w1 a l.length cap l) := HH.out.below hb1
  clear hl1 hb1 HT HH
  go_wp2_with fail
  refine (sum_any _ _ _ l _ (HL1.out.has (by unfold maxLen; omega)) HT1.out (by omega)).mono ?_
  rintro e w2 ⟨rfl, hw⟩
  subst hw
  go_wp2_with fail
  refine (kept_any _ a cap l _ HL1.out HH1.out hb).mono ?_
  rintro e w2 ⟨rfl, hw⟩
  subst hw
  go_wp2_with fail
  refine (rsum_any _ _ _ l _ HH1.out (by omega)).mono ?_
  rintro e w2 ⟨rfl, hw⟩
  subst hw
  go_wp2_with fail
  have hs9 := sum_any (some ⟨w2.heap.size, 0, none⟩) 9 9 nine _ (has_new w2 nine (9, 10) (by unfold maxLen; decide)) (HT1.out.below ((Below.refl _ _).alloc (Nat.le_refl _) _) HT1.out.lt) (by omega)
  rw [crc_nine] at hs9
  refine hs9.mono ?_
  rintro e w3 ⟨rfl, hw⟩
  subst hw
  go_wp2
  go_ret
  exact ⟨rfl, HB1.out.alloc HB1.out.size _⟩
end Go.Proofs.YtipkjiacikdmmaaDoor
