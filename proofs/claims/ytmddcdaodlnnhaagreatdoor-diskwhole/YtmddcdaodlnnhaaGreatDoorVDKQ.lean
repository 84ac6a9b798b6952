/-
  Put of package disk. Conditions: those that each theorem names.
-/
import Derived.Test.YtmddcdaodlnnhaaGreatDoorVDKLToDKO
namespace Go.Proofs.YtmddcdaodlnnhaaGreatDoor
open Go.RowKit Go.Maps
set_option linter.unusedVariables false
section
variable {m T T' : Nat} {w w' W X Y : World} {d B : Nat} {fs : List Fx} {off arm : Bool} {ah pa : Int}
theorem clo_whole {w0 : World} {bf Gn : Nat} {gp : Array Value} {P1 : List Pf} (hB : Bx w0 bf (.func (.func Gn) #[] gp) 1) (hd : ¬ bf = d) (hen : ∀ xs w, (callFunc Gn xs).run Tryz.prog w = .ok (.enter Gn xs) w) (hT : T ≤ T')
    (hI : ∀ (W : World) (arm : Bool) (ah : Int), Kx (fun g => g = d) w0 W → Dk m T W d B fs off arm ah pa → Calls Tryz.prog Gn gp W fun e W' => e = .returned (.tuple #[]) ∧ ∃ fs', fs'.map pl = P1 ∧ Dk m T' W' d B fs' off arm ah pa ∧ Stp (OD d B fs) W (OD d B fs') W') :
    ClO m T T' d B fs off pa 57 #[.pointer (some ⟨bf, 0, none⟩)] w0 1 (fun n fs' => fs'.map pl = if n = 1 then P1 else fs.map pl) := fun W arm ah n hn hk hD => by
  refine (whole_ok (hB.kx hk hd) hen n (fun _ => hI W arm ah hk hD)).mono ?_
  rintro e X ⟨rfl, h1, h2⟩
  refine ⟨rfl, ?_⟩
  by_cases e1 : n = 1
  · obtain ⟨fs', a1, a2, a3⟩ := h1 e1
    exact ⟨fs', by show _ = if _ then _ else _; rw [if_pos e1]; exact a1, a2, a3⟩
  · obtain rfl := h2 e1
    exact ⟨fs, by show _ = if _ then _ else _; rw [if_neg e1], hD.mono hT, Stp.refl _ _⟩
set_option maxRecDepth 100000 in
set_option maxHeartbeats 2000000 in
theorem dkput_ok (h : Dk m T w d B fs off arm ah pa) (hpa : inI pa) (hah : inI ah) (harm : arm = true → 0 ≤ ah) (S : ByteArray) (hS : S.size ≤ 9007199254740992) {po : Option Addr} {pn pc : Nat} {pb : List UInt8} (hT : T + pn < 1099511627776) (hp : Has w po pn pc pb) (hpo : ∀ a, po = some a ∧ 0 < pn → ¬ OD d B fs a.block) :
    Calls Tryz.prog 18 #[.pointer (some ⟨d, 0, none⟩), .string S, .slice po pn pc] w (DoneQ m (T + 1 + pn) w d B fs pa (putR (fs.map pl) off arm ah pa S pb)) := by
  obtain ⟨w3, hw3, B1, B2, B3, hb3, hs3⟩ := three_bx w (.pointer (some ⟨d, 0, none⟩)) (.string S) (.slice po pn pc) 24 9 29
  have hD3 := h.below hb3
  have HRf := hid (refuses_ok hD3 S hS)
  have hp3 := hp.below hb3
  have hnew : ∀ g, w.heap.size ≤ g → ¬ OD d B fs g := fun g hg e => by have := (h.lt g e).2; omega
  unfold putR
  by_cases hc : rfC off S = 0
  · have hS32 := rfC_len hc
    simp only [if_pos hc]
    rw [hc] at HRf
    have HRf : Hid (Calls Tryz.prog 37 #[.pointer (some ⟨d, 0, none⟩), .string S] w3 fun e w' => e = .returned .nilIface ∧ w' = w3) := HRf
    have hpl : pb.length = pn := hp.1
    have nd : ∀ g, w.heap.size ≤ g → ¬ g = d := fun g hg e => hnew g hg (.inl e)
    have HA : Hid (∀ w4, w4 = w3.drew.alloc (.cells #[.func (.func 40) #[] #[.pointer (some ⟨w.heap.size + 1 + 1, 0, none⟩), .pointer (some ⟨w.heap.size, 0, none⟩), .pointer (some ⟨w.heap.size + 1, 0, none⟩)]] 1) →
        Calls Tryz.prog 38 #[.pointer (some ⟨d, 0, none⟩), .int .i64 1, .func (.func 57) #[] #[.pointer (some ⟨w3.heap.size, 0, none⟩)]] w4 fun e w' => ∃ v, e = .returned v ∧ DoneQ m (T + 1 + pn) w d B fs pa (doneP (if actN arm ah pa 1 = 1 then setA (fs.map pl) ⟨S.data.toList, pb, pb.length⟩ else fs.map pl) off arm ah) (.returned v) w' ∧ Kx (OD d B fs) w4 w') := hid fun w4 hw4 => by
      have hb34 : Below w3.heap.size w3 w4 := by rw [hw4]; exact (Below.refl _ w3).drew.trans (by have := below_al w3.drew (.cells #[.func (.func 40) #[] #[.pointer (some ⟨w.heap.size + 1 + 1, 0, none⟩), .pointer (some ⟨w.heap.size, 0, none⟩), .pointer (some ⟨w.heap.size + 1, 0, none⟩)]] 1); exact this)
      have B4 : Bx w4 w3.heap.size (.func (.func 40) #[] #[.pointer (some ⟨w.heap.size + 1 + 1, 0, none⟩), .pointer (some ⟨w.heap.size, 0, none⟩), .pointer (some ⟨w.heap.size + 1, 0, none⟩)]) 1 := by rw [hw4]; exact new_block_at _ _ rfl
      have hD4 := hD3.below hb34
      have hC := clo_whole (m := m) (T := T) (T' := T + 1 + pn) (d := d) (B := B) (fs := fs) (off := off) (pa := pa) (P1 := setA (fs.map pl) ⟨S.data.toList, pb, pb.length⟩) B4 (nd _ (by omega)) (enters_of Tryz.func40 (by kernel_rfl) rfl) (by omega) (fun W arm' ah' hk hD =>
        cput_ok hD S hS32 hT ((bx_below B3 hb34).kx hk (nd _ (by omega))) ((bx_below B1 hb34).kx hk (nd _ (Nat.le_refl _))) ((bx_below B2 hb34).kx hk (nd _ (by omega))) (hnew _ (by omega)) (hnew _ (Nat.le_refl _)) (hnew _ (by omega)) ((hp3.below hb34).kxA hk fun a e e2 => hpo a e (.inl e2)) hpo)
      refine (act_ok hD4 1 (by omega) hpa hah harm (enters_of Tryz.func57 (by kernel_rfl) rfl) hC).mono ?_
      rintro e X ⟨rfl, fs', h1, h2, h3⟩
      exact ⟨_, rfl, DoneQ.of (hb3.trans (hb34.mono hb3.size)) h1 h2 h3, h3.kx⟩
    have HB := hid hb3
    have HS : Hid (∀ Z, Kx (OD d B fs) w3 Z → (fun Z : World => Z.cell? ⟨w.heap.size, 0, none⟩ = some (.pointer (some ⟨d, 0, none⟩)) ∧ w.heap.size < Z.heap.size) Z) := fun Z hZ => ⟨(B1.kx hZ (hnew _ (Nat.le_refl _))).cell, (B1.kx hZ (hnew _ (Nat.le_refl _))).lt⟩
    have HS0 := hid (HS.out w3.drew (.below (Below.refl _ w3).drew))
    have k1 := B1.cell
    have k2 := B2.cell
    have k3 := B3.cell
    have l1 := B1.lt
    have l2 := B2.lt
    have l3 := B3.lt
    have HW := hid hw3
    obtain ⟨R, hR⟩ : ∃ R, R = doneP (if actN arm ah pa 1 = 1 then setA (fs.map pl) ⟨S.data.toList, pb, pb.length⟩ else fs.map pl) off arm ah := ⟨_, rfl⟩
    rw [← hR] at HA ⊢
    clear h hp hpo hD3 hp3 hnew B1 B2 B3 hb3 hs3 hw3 hc hpl hpa hah harm hR nd
    go_enter Tryz.func18, Tryz.ntmps18
    go_wp2_with fail
    rw [← HW.out]
    refine HRf.out.mono ?_
    rintro e w1 ⟨rfl, rfl⟩
    clear HRf HW
    go_wp2_with fail
    refine region_L 99 (fun Z : World => Z.cell? ⟨w.heap.size, 0, none⟩ = some (.pointer (some ⟨d, 0, none⟩)) ∧ w.heap.size < Z.heap.size) (by kernel_rfl) HS0.out (fun hHeld => ?_)
    refine anyT 0 hHeld ?_
    refine anyT 1 hHeld ?_
    clear hHeld
    (try simp only [Act.put, List.setIfInBounds_toArray, List.set_cons_zero, List.set_cons_succ])
    refine anyO 2 (fun K hK => ?_)
    go_simp
    refine (wholly_ok _ _ _).mono ?_
    rintro e w4 ⟨rfl, hw4⟩
    have HA4 := hid (HA.out w4 hw4)
    have hk4 : Kx (OD d B fs) w1 w4 := by
      rw [hw4]
      exact .below ((Below.refl _ w1).drew.trans (below_al w1.drew _))
    have HS4 := hid (HS.out w4 hk4)
    have HK4 := hid hk4
    clear hw4 hk4 HA
    go_simp
    refine hK.out _ _ HS4.out ?_
    clear hK K
    (try simp only [Act.put, List.setIfInBounds_toArray, List.set_cons_zero, List.set_cons_succ])
    refine anyO 3 (fun K hK => ?_)
    go_simp
    refine HA4.out.mono ?_
    rintro e X ⟨v, rfl, hv, hkx⟩
    have HX := hid hv
    have HSX := hid (HS.out X (HK4.out.trans hkx))
    clear hv hkx
    go_simp
    refine hK.out _ _ HSX.out ?_
    clear hK K
    (try simp only [Act.put, List.setIfInBounds_toArray, List.set_cons_zero, List.set_cons_succ])
    have hHeld := HSX.out
    refine anyT 4 hHeld ?_
    refine ⟨by kernel_rfl, ?_⟩
    clear hHeld
    (try simp only [Act.put, List.setIfInBounds_toArray, List.set_cons_zero, List.set_cons_succ])
    go_wp2_with fail
    go_ret
    exact HX.out
  · simp only [if_neg hc]
    obtain ⟨c, hcc⟩ : ∃ c, c = rfC off S := ⟨_, rfl⟩
    rw [← hcc] at HRf hc ⊢
    have HX : Hid (DoneQ m (T + 1 + pn) w d B fs pa (refP (fs.map pl) off arm ah c) (.returned (evV c)) w3) := hid (.ref h (by omega) hb3 c)
    have e : evV c = .iface 51 (.int .i64 c) := if_neg hc
    rw [e] at HRf HX
    have k1 := B1.cell
    have k2 := B2.cell
    have k3 := B3.cell
    have l1 := B1.lt
    have l2 := B2.lt
    have l3 := B3.lt
    have HW := hid hw3
    clear h hp hpo hD3 hp3 hnew B1 B2 B3 hb3 hs3 hw3 hc hcc hpa hah harm e
    go_enter Tryz.func18, Tryz.ntmps18
    go_wp2_with fail
    rw [← HW.out]
    refine HRf.out.mono ?_
    rintro e w1 ⟨rfl, rfl⟩
    clear HRf HW
    go_wp2_with fail
    go_ret
    exact HX.out
end
end Go.Proofs.YtmddcdaodlnnhaaGreatDoor
