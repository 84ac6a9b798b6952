/-
  Cut and Read of package disk. Conditions: those that each theorem names.
-/
import Derived.Test.YtmddcdaodlnnhaaGreatDoorVDKT
import Derived.Deep.QuietTactic
import Derived.BigQuiet
namespace Go.Proofs.YtmddcdaodlnnhaaGreatDoor
open Go.RowKit Go.Maps
set_option linter.unusedVariables false
def cutR (P : List Pf) (off arm : Bool) (ah pa : Int) (S : ByteArray) (n : Int) : Res :=
  if fiP off S P = 0 then (if n < 0 ∨ ((oldP P S.data.toList).b.length : Int) < n then refP P off arm ah 1 else doneP (if actN arm ah pa 1 = 1 then setA P ⟨S.data.toList, (oldP P S.data.toList).b.take n.toNat, min (oldP P S.data.toList).s n.toNat⟩ else P) off arm ah) else refP P off arm ah (fiP off S P)
theorem below_drewN {B : Nat} {a w : World} (h : Below B a w) (q : Nat) : Below B a (w.drewN q) := ⟨h.os, h.tape, h.output, h.size, h.block⟩
section
variable {m T T' : Nat} {w w' W X Y : World} {d B : Nat} {fs : List Fx} {off arm : Bool} {ah pa : Int}
set_option maxRecDepth 100000 in
set_option maxHeartbeats 4000000 in
theorem dkcutop_ok (h : Dk m T w d B fs off arm ah pa) (hpa : inI pa) (hah : inI ah) (harm : arm = true → 0 ≤ ah) (hT : T < 1099511627776) (S : ByteArray) (hS : S.size ≤ 9007199254740992) (n : Int) :
    Calls Tryz.prog 24 #[.pointer (some ⟨d, 0, none⟩), .string S, .int .i64 n] w (DoneQ m T w d B fs pa (cutR (fs.map pl) off arm ah pa S n)) := by
  obtain ⟨w1, hw1, B1, hb1, hs1⟩ := one_bx w (.int .i64 n) 3
  have hD1 := h.below hb1
  have HFi := hid (dkfind_ok hD1 S hS)
  have hnew : ∀ g, w.heap.size ≤ g → ¬ OD d B fs g := fun g hg e => by have := (h.lt g e).2; omega
  have nd : ∀ g, w.heap.size ≤ g → ¬ g = d := fun g hg e => hnew g hg (.inl e)
  unfold cutR
  rw [← fiC_P]
  by_cases hc : fiC off S fs = 0
  · obtain ⟨hc0, f, hf, hfv⟩ := fiC_some hc
    simp only [if_pos hc]
    rw [hc, hfv] at HFi
    have HFi : Hid (Calls Tryz.prog 36 #[.pointer (some ⟨d, 0, none⟩), .string S] w1 fun e w' => e = .returned (.tuple #[.pointer (some ⟨f.p, 0, none⟩), .nilIface]) ∧ w' = w1) := HFi
    obtain ⟨w2, hw2, B2, hb2, hs2⟩ := one_bx w1 (.pointer (some ⟨f.p, 0, none⟩)) 68
    have B12 := bx_below B1 hb2
    have hD2 := hD1.below hb2
    obtain ⟨hm, hnx, hok, hbd⟩ := hD2.at hf
    have hlen : (oldP (fs.map pl) S.data.toList).b.length = f.k := by rw [oldP_some hf]; exact hok.len
    have hb12 : Below w.heap.size w w2 := hb1.trans (hb2.mono (by omega))
    obtain ⟨⟨c0, c1⟩, g0, g1⟩ := two_cells hok.blk
    have flt := node_lt hok.blk
    have k1 := B12.cell
    have l1 := B12.lt
    have k2 := B2.cell
    have l2 := B2.lt
    rw [hlen]
    have HWw : Hid (w2 = (w.alloc (.cells #[.int .i64 n] 3)).alloc (.cells #[.pointer (some ⟨f.p, 0, none⟩)] 68)) := by rw [hw2, hw1]; exact rfl
    have HW1 := hid hw1
    have HW2 := hid hw2
    by_cases hbad : n < 0 ∨ (f.k : Int) < n
    · simp only [if_pos hbad]
      have HX : Hid (∀ w3, Below w2.heap.size w2 w3 → DoneQ m T w d B fs pa (refP (fs.map pl) off arm ah 1) (.returned (.iface 51 (.int .i64 1))) w3) := hid fun w3 h3 => .ref h (Nat.le_refl _) (hb12.trans (h3.mono (by omega))) 1
      obtain ⟨R, hR⟩ : ∃ R, R = refP (fs.map pl) off arm ah 1 := ⟨_, rfl⟩
      rw [← hR] at HX ⊢
      have HBd := hid (Below.refl w2.heap.size w2)
      rcases hbad with hb | hb
      · have a0 : decide (n < 0) = true := by simp; omega
        clear h hnew nd hc hc0 hf hfv hw1 hw2 B1 B2 B12 hb1 hb2 hs1 hs2 hD1 hD2 hm hnx hok hbd hlen hb12 hpa hah harm hR hb
        obtain ⟨fn, fp, fo, fk, fc, fb, fs0⟩ := f
        dsimp only at *
        go_enter Tryz.func24, Tryz.ntmps24
        go_wp2_with fail
        rw [← HW1.out]
        refine HFi.out.mono ?_
        rintro e wf ⟨rfl, rfl⟩
        go_wp2_with fail
        rw [← HW2.out]
        clear HW1 HW2 HWw HFi
        go_quiet (fail)
        go_wp2_with fail
        go_ret
        exact HX.out _ (by first | exact Below.refl _ _ | exact below_drewN (Below.refl _ _) _)
      · have a0 : decide (n < 0) = false := by simp; omega
        have a1 : decide ((f.k : Int) < n) = true := by simp; omega
        clear h hnew nd hc hc0 hf hfv hw1 hw2 B1 B2 B12 hb1 hb2 hs1 hs2 hD1 hD2 hm hnx hok hbd hlen hb12 hpa hah harm hR hb
        obtain ⟨fn, fp, fo, fk, fc, fb, fs0⟩ := f
        dsimp only at *
        go_enter Tryz.func24, Tryz.ntmps24
        go_wp2_with fail
        rw [← HW1.out]
        refine HFi.out.mono ?_
        rintro e wf ⟨rfl, rfl⟩
        go_wp2_with fail
        rw [← HW2.out]
        clear HW1 HW2 HWw HFi
        go_quiet (fail)
        go_wp2_with fail
        go_ret
        exact HX.out _ (by first | exact Below.refl _ _ | exact below_drewN (Below.refl _ _) _)
    · simp only [if_neg hbad]
      obtain ⟨k, rfl⟩ : ∃ k : Nat, n = (k : Int) := ⟨n.toNat, by omega⟩
      rw [Int.toNat_natCast]
      have hkk : k ≤ f.k := by omega
      have a0 : decide ((k : Int) < 0) = false := by simp
      have a1 : decide ((f.k : Int) < (k : Int)) = false := by simp; omega
      have a2 : decide (f.k < k) = false := by simp; omega
      have HA : Hid (∀ w3, Below w2.heap.size w2 w3 → ∀ w4, w4 = w3.alloc (.cells #[.func (.func 45) #[] #[.pointer (some ⟨w1.heap.size, 0, none⟩), .pointer (some ⟨w.heap.size, 0, none⟩)]] 1) →
        Calls Tryz.prog 38 #[.pointer (some ⟨d, 0, none⟩), .int .i64 1, .func (.func 57) #[] #[.pointer (some ⟨w3.heap.size, 0, none⟩)]] w4 fun e w' => ∃ v, e = .returned v ∧ DoneQ m T w d B fs pa (doneP (if actN arm ah pa 1 = 1 then setA (fs.map pl) ⟨S.data.toList, (oldP (fs.map pl) S.data.toList).b.take k, min (oldP (fs.map pl) S.data.toList).s k⟩ else fs.map pl) off arm ah) (.returned v) w') := hid fun w3 h3 w4 hw4 => by
        have hb4 : Below w2.heap.size w2 w4 := by rw [hw4]; exact h3.trans ((below_al w3 _).mono h3.size)
        have B4 : Bx w4 w3.heap.size (.func (.func 45) #[] #[.pointer (some ⟨w1.heap.size, 0, none⟩), .pointer (some ⟨w.heap.size, 0, none⟩)]) 1 := by rw [hw4]; exact new_block_at _ _ rfl
        have := h3.size
        refine (whole_act (hD2.below hb4) hpa hah harm (Nat.le_refl T) B4 (nd _ (by omega)) (enters_of Tryz.func45 (by kernel_rfl) rfl) (fun W arm' ah' hk hD =>
          ccut_ok hD hf hT ((bx_below B2 hb4).kx hk (nd _ (by omega))) ((bx_below B12 hb4).kx hk (nd _ (by omega))) hkk)).mono ?_
        rintro e X ⟨v, rfl, hq, _⟩
        exact ⟨v, rfl, hq.base (hb12.trans (hb4.mono (by omega)))⟩
      obtain ⟨R, hR⟩ : ∃ R, R = doneP (if actN arm ah pa 1 = 1 then setA (fs.map pl) ⟨S.data.toList, (oldP (fs.map pl) S.data.toList).b.take k, min (oldP (fs.map pl) S.data.toList).s k⟩ else fs.map pl) off arm ah := ⟨_, rfl⟩
      rw [← hR] at HA ⊢
      clear h hnew nd hc hc0 hf hfv hw1 hw2 B1 B2 B12 hb1 hb2 hs1 hs2 hD1 hD2 hm hnx hok hbd hlen hb12 hpa hah harm hR hbad hkk
      obtain ⟨fn, fp, fo, fk, fc, fb, fs0⟩ := f
      dsimp only at *
      go_enter Tryz.func24, Tryz.ntmps24
      go_wp2_with fail
      rw [← HW1.out]
      refine HFi.out.mono ?_
      rintro e wf ⟨rfl, rfl⟩
      go_wp2_with fail
      rw [← HW2.out]
      clear HW1 HW2 HWw HFi
      go_quiet (fail)
      go_wp2_with (first
        | (go_at_call 39; refine (wholly_ok _ _ _).mono ?_; rintro e w4 ⟨rfl, hw4⟩; have HA4 := hid (HA.out _ (by first | exact Below.refl _ _ | exact below_drewN (Below.refl _ _) _) w4 hw4); clear HA hw4)
        | (go_at_call 38; refine HA4.out.mono ?_; rintro e X ⟨v, rfl, hv⟩; have HX := hid hv; clear hv HA4))
      go_ret
      exact HX.out
  · simp only [if_neg hc]
    obtain ⟨c, hcc⟩ : ∃ c, c = fiC off S fs := ⟨_, rfl⟩
    obtain ⟨p, hp⟩ := fiV_ptr off S fs
    rw [← hcc] at HFi hc ⊢
    rw [hp] at HFi
    obtain ⟨w2, hw2, B2, hb2, hs2⟩ := one_bx w1 (.pointer p) 68
    have HX : Hid (DoneQ m T w d B fs pa (refP (fs.map pl) off arm ah c) (.returned (evV c)) w2) := hid (.ref h (Nat.le_refl _) (hb1.trans (hb2.mono (by omega))) c)
    have e : evV c = .iface 51 (.int .i64 c) := if_neg hc
    rw [e] at HFi HX
    have HW1 := hid hw1
    have HW2 := hid hw2
    clear h hnew nd hc hcc hp hw1 hw2 B1 B2 hb1 hb2 hs1 hs2 hpa hah harm hD1 e
    go_enter Tryz.func24, Tryz.ntmps24
    go_wp2_with fail
    rw [← HW1.out]
    refine HFi.out.mono ?_
    rintro e wf ⟨rfl, rfl⟩
    go_wp2_with fail
    rw [← HW2.out]
    go_ret
    exact HX.out
end
end Go.Proofs.YtmddcdaodlnnhaaGreatDoor
