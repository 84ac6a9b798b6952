/-
  Sync and Remove of package disk. Conditions: those that each theorem names.
-/
import Derived.Test.YtmddcdaodlnnhaaGreatDoorVDKQ
namespace Go.Proofs.YtmddcdaodlnnhaaGreatDoor
open Go.RowKit Go.Maps
set_option linter.unusedVariables false
def fiP (off : Bool) (S : ByteArray) (P : List Pf) : Int := if rfC off S = 0 then (if (fnd P S.data.toList).isSome then 0 else 81) else rfC off S
theorem fiC_P (off : Bool) (S : ByteArray) (fs : List Fx) : fiC off S fs = fiP off S (fs.map pl) := by
  unfold fiC fiP
  rw [map_fnd nm_pl, Option.isSome_map]
def synR (P : List Pf) (off arm : Bool) (ah pa : Int) (S : ByteArray) : Res :=
  if fiP off S P = 0 then doneP (if actN arm ah pa 1 = 1 then setA P ⟨S.data.toList, (oldP P S.data.toList).b, (oldP P S.data.toList).b.length⟩ else P) off arm ah else refP P off arm ah (fiP off S P)
def remR (P : List Pf) (off arm : Bool) (ah pa : Int) (S : ByteArray) : Res :=
  if fiP off S P = 0 then doneP (if actN arm ah pa 1 = 1 then del P S.data.toList else P) off arm ah else refP P off arm ah (fiP off S P)
theorem fiC_some {off : Bool} {S : ByteArray} {fs : List Fx} (h : fiC off S fs = 0) : rfC off S = 0 ∧ ∃ f, fnd fs S.data.toList = some f ∧ fiV off S fs = fptr f := by
  unfold fiC at h
  by_cases hc : rfC off S = 0
  · rw [if_pos hc] at h
    cases hf : fnd fs S.data.toList with
    | none => rw [hf] at h; simp at h
    | some f =>
      refine ⟨hc, f, rfl, ?_⟩
      unfold fiV lookV
      rw [if_pos hc, hf]
  · rw [if_neg hc] at h
    exact absurd h hc
theorem fiV_ptr (off : Bool) (S : ByteArray) (fs : List Fx) : ∃ p, fiV off S fs = .pointer p := by
  unfold fiV lookV
  split
  · split
    · exact ⟨_, rfl⟩
    · exact ⟨_, rfl⟩
  · exact ⟨_, rfl⟩
section
variable {m T T' : Nat} {w w' W X Y : World} {d B : Nat} {fs : List Fx} {off arm : Bool} {ah pa : Int}
theorem DoneQ.base {w3 : World} {R : Res} {e : Ending} (h : DoneQ m T w3 d B fs pa R e X) (hb : Below w.heap.size w w3) : DoneQ m T w d B fs pa R e X := by
  obtain ⟨h1, fs', h2, h3, h4⟩ := h
  exact ⟨h1, fs', h2, h3, (Stp.below hb).trans h4⟩
theorem whole_act {w4 : World} (hD : Dk m T w4 d B fs off arm ah pa) (hpa : inI pa) (hah : inI ah) (harm : arm = true → 0 ≤ ah) (hT : T ≤ T') {g Gn : Nat} {gp : Array Value} {P1 : List Pf} (hB : Bx w4 g (.func (.func Gn) #[] gp) 1) (hg : ¬ g = d) (hen : ∀ xs w, (callFunc Gn xs).run Tryz.prog w = .ok (.enter Gn xs) w)
    (hI : ∀ (W : World) (arm : Bool) (ah : Int), Kx (fun g => g = d) w4 W → Dk m T W d B fs off arm ah pa → Calls Tryz.prog Gn gp W fun e W' => e = .returned (.tuple #[]) ∧ ∃ fs', fs'.map pl = P1 ∧ Dk m T' W' d B fs' off arm ah pa ∧ Stp (OD d B fs) W (OD d B fs') W') :
    Calls Tryz.prog 38 #[.pointer (some ⟨d, 0, none⟩), .int .i64 1, .func (.func 57) #[] #[.pointer (some ⟨g, 0, none⟩)]] w4 fun e w' => ∃ v, e = .returned v ∧ DoneQ m T' w4 d B fs pa (doneP (if actN arm ah pa 1 = 1 then P1 else fs.map pl) off arm ah) (.returned v) w' ∧ Kx (OD d B fs) w4 w' := by
  have hC := clo_whole (P1 := P1) hB hg hen hT hI
  refine (act_ok hD 1 (by omega) hpa hah harm (enters_of Tryz.func57 (by kernel_rfl) rfl) hC).mono ?_
  rintro e X ⟨rfl, fs', h1, h2, h3⟩
  exact ⟨_, rfl, DoneQ.of (Below.refl _ _) h1 h2 h3, h3.kx⟩
theorem two_bx (w : World) (v1 v2 : Value) (t1 t2 : TypeId) : ∃ w3, w3 = (w.alloc (.cells #[v1] t1)).alloc (.cells #[v2] t2) ∧ Bx w3 w.heap.size v1 t1 ∧ Bx w3 (w.heap.size + 1) v2 t2 ∧ Below w.heap.size w w3 ∧ w3.heap.size = w.heap.size + 2 := by
  have b1 := below_al w (.cells #[v1] t1)
  have b2 := below_al (w.alloc (.cells #[v1] t1)) (.cells #[v2] t2)
  have s1 : (w.alloc (.cells #[v1] t1)).heap.size = w.heap.size + 1 := by simp
  have k1 : Bx (w.alloc (.cells #[v1] t1)) w.heap.size v1 t1 := new_block_at w _ rfl
  have k2 : Bx ((w.alloc (.cells #[v1] t1)).alloc (.cells #[v2] t2)) (w.heap.size + 1) v2 t2 := new_block_at _ _ (by rw [s1])
  exact ⟨_, rfl, bx_below k1 b2, k2, b1.trans (b2.mono (by omega)), by simp⟩
/-- A box. -/
theorem one_bx (w : World) (v : Value) (t : TypeId) : ∃ w1, w1 = w.alloc (.cells #[v] t) ∧ Bx w1 w.heap.size v t ∧ Below w.heap.size w w1 ∧ w1.heap.size = w.heap.size + 1 :=
  ⟨_, rfl, new_block_at w _ rfl, below_al w _, by simp⟩
set_option maxRecDepth 100000 in
set_option maxHeartbeats 2000000 in
theorem dksync_ok (h : Dk m T w d B fs off arm ah pa) (hpa : inI pa) (hah : inI ah) (harm : arm = true → 0 ≤ ah) (S : ByteArray) (hS : S.size ≤ 9007199254740992) :
    Calls Tryz.prog 22 #[.pointer (some ⟨d, 0, none⟩), .string S] w (DoneQ m T w d B fs pa (synR (fs.map pl) off arm ah pa S)) := by
  have HFi := hid (dkfind_ok h S hS)
  have hnew : ∀ g, w.heap.size ≤ g → ¬ OD d B fs g := fun g hg e => by have := (h.lt g e).2; omega
  unfold synR
  rw [← fiC_P]
  by_cases hc : fiC off S fs = 0
  · obtain ⟨hc0, f, hf, hfv⟩ := fiC_some hc
    simp only [if_pos hc]
    rw [hc, hfv] at HFi
    have HFi : Hid (Calls Tryz.prog 36 #[.pointer (some ⟨d, 0, none⟩), .string S] w fun e w' => e = .returned (.tuple #[.pointer (some ⟨f.p, 0, none⟩), .nilIface]) ∧ w' = w) := HFi
    obtain ⟨w1, hw1, B1, hb1, hs1⟩ := one_bx w (.pointer (some ⟨f.p, 0, none⟩)) 68
    have hD1 := h.below hb1
    have HA : Hid (∀ w4, w4 = w1.alloc (.cells #[.func (.func 44) #[] #[.pointer (some ⟨w.heap.size, 0, none⟩)]] 1) →
        Calls Tryz.prog 38 #[.pointer (some ⟨d, 0, none⟩), .int .i64 1, .func (.func 57) #[] #[.pointer (some ⟨w1.heap.size, 0, none⟩)]] w4 fun e w' => ∃ v, e = .returned v ∧ DoneQ m T w d B fs pa (doneP (if actN arm ah pa 1 = 1 then setA (fs.map pl) ⟨S.data.toList, (oldP (fs.map pl) S.data.toList).b, (oldP (fs.map pl) S.data.toList).b.length⟩ else fs.map pl) off arm ah) (.returned v) w') := hid fun w4 hw4 => by
      have hb4 : Below w1.heap.size w1 w4 := by rw [hw4]; exact below_al _ _
      have B4 : Bx w4 w1.heap.size (.func (.func 44) #[] #[.pointer (some ⟨w.heap.size, 0, none⟩)]) 1 := by rw [hw4]; exact new_block_at _ _ rfl
      have nd : ∀ g, w.heap.size ≤ g → ¬ g = d := fun g hg e => hnew g hg (.inl e)
      refine (whole_act (hD1.below hb4) hpa hah harm (Nat.le_refl T) B4 (nd _ (by omega)) (enters_of Tryz.func44 (by kernel_rfl) rfl) (fun W arm' ah' hk hD =>
        csync_ok hD hf ((bx_below B1 hb4).kx hk (nd _ (Nat.le_refl _))) (hnew _ (Nat.le_refl _)))).mono ?_
      rintro e X ⟨v, rfl, hq, _⟩
      exact ⟨v, rfl, hq.base (hb1.trans (hb4.mono (by omega)))⟩
    obtain ⟨R, hR⟩ : ∃ R, R = doneP (if actN arm ah pa 1 = 1 then setA (fs.map pl) ⟨S.data.toList, (oldP (fs.map pl) S.data.toList).b, (oldP (fs.map pl) S.data.toList).b.length⟩ else fs.map pl) off arm ah := ⟨_, rfl⟩
    rw [← hR] at HA ⊢
    have HW := hid hw1
    have k1 := B1.cell
    have l1 := B1.lt
    clear h hnew hc hc0 hf hfv hw1 B1 hb1 hs1 hD1 hpa hah harm hR
    go_enter Tryz.func22, Tryz.ntmps22
    go_wp2_with (first
      | (go_at_call 36; refine HFi.out.mono ?_; rintro e wf ⟨rfl, rfl⟩)
      | (go_at_call 39; rw [← HW.out]; refine (wholly_ok _ _ _).mono ?_; rintro e w4 ⟨rfl, hw4⟩; have HA4 := hid (HA.out w4 hw4); clear HA hw4)
      | (go_at_call 38; refine HA4.out.mono ?_; rintro e X ⟨v, rfl, hv⟩; have HX := hid hv; clear hv HA4))
    go_ret
    exact HX.out
  · simp only [if_neg hc]
    obtain ⟨c, hcc⟩ : ∃ c, c = fiC off S fs := ⟨_, rfl⟩
    obtain ⟨p, hp⟩ := fiV_ptr off S fs
    rw [← hcc] at HFi hc ⊢
    rw [hp] at HFi
    obtain ⟨w1, hw1, B1, hb1, hs1⟩ := one_bx w (.pointer p) 68
    have HX : Hid (DoneQ m T w d B fs pa (refP (fs.map pl) off arm ah c) (.returned (evV c)) w1) := hid (.ref h (Nat.le_refl _) hb1 c)
    have e : evV c = .iface 51 (.int .i64 c) := if_neg hc
    rw [e] at HFi HX
    have HW := hid hw1
    clear h hnew hc hcc hp hw1 B1 hb1 hs1 hpa hah harm e
    go_enter Tryz.func22, Tryz.ntmps22
    go_wp2_with (first
      | (go_at_call 36; refine HFi.out.mono ?_; rintro e wf ⟨rfl, rfl⟩))
    rw [← HW.out]
    go_ret
    exact HX.out
set_option maxRecDepth 100000 in
set_option maxHeartbeats 2000000 in
theorem dkremove_ok (h : Dk m T w d B fs off arm ah pa) (hpa : inI pa) (hah : inI ah) (harm : arm = true → 0 ≤ ah) (S : ByteArray) (hS : S.size ≤ 9007199254740992) :
    Calls Tryz.prog 25 #[.pointer (some ⟨d, 0, none⟩), .string S] w (DoneQ m T w d B fs pa (remR (fs.map pl) off arm ah pa S)) := by
  obtain ⟨w3, hw3, B1, B2, hb3, hs3⟩ := two_bx w (.pointer (some ⟨d, 0, none⟩)) (.string S) 24 9
  have hD3 := h.below hb3
  have HFi := hid (dkfind_ok hD3 S hS)
  have hnew : ∀ g, w.heap.size ≤ g → ¬ OD d B fs g := fun g hg e => by have := (h.lt g e).2; omega
  have nd : ∀ g, w.heap.size ≤ g → ¬ g = d := fun g hg e => hnew g hg (.inl e)
  unfold remR
  rw [← fiC_P]
  by_cases hc : fiC off S fs = 0
  · obtain ⟨hc0, f, hf, hfv⟩ := fiC_some hc
    have hS32 := rfC_len hc0
    simp only [if_pos hc]
    rw [hc, hfv] at HFi
    have HFi : Hid (Calls Tryz.prog 36 #[.pointer (some ⟨d, 0, none⟩), .string S] w3 fun e w' => e = .returned (.tuple #[.pointer (some ⟨f.p, 0, none⟩), .nilIface]) ∧ w' = w3) := HFi
    have HA : Hid (∀ w4, w4 = w3.drew.alloc (.cells #[.func (.func 46) #[] #[.pointer (some ⟨w.heap.size, 0, none⟩), .pointer (some ⟨w.heap.size + 1, 0, none⟩)]] 1) →
        Calls Tryz.prog 38 #[.pointer (some ⟨d, 0, none⟩), .int .i64 1, .func (.func 57) #[] #[.pointer (some ⟨w3.heap.size, 0, none⟩)]] w4 fun e w' => ∃ v, e = .returned v ∧ DoneQ m T w d B fs pa (doneP (if actN arm ah pa 1 = 1 then del (fs.map pl) S.data.toList else fs.map pl) off arm ah) (.returned v) w' ∧ Kx (OD d B fs) w4 w') := hid fun w4 hw4 => by
      have hb4 : Below w3.heap.size w3 w4 := by rw [hw4]; exact (Below.refl _ w3).drew.trans (below_al w3.drew _)
      have B4 : Bx w4 w3.heap.size (.func (.func 46) #[] #[.pointer (some ⟨w.heap.size, 0, none⟩), .pointer (some ⟨w.heap.size + 1, 0, none⟩)]) 1 := by rw [hw4]; exact new_block_at _ _ rfl
      refine (whole_act (hD3.below hb4) hpa hah harm (Nat.le_refl T) B4 (nd _ (by omega)) (enters_of Tryz.func46 (by kernel_rfl) rfl) (fun W arm' ah' hk hD =>
        cremove_ok hD S hS32 ((bx_below B1 hb4).kx hk (nd _ (Nat.le_refl _))) ((bx_below B2 hb4).kx hk (nd _ (by omega))))).mono ?_
      rintro e X ⟨v, rfl, hq, hk⟩
      exact ⟨v, rfl, hq.base (hb3.trans (hb4.mono (by omega))), hk⟩
    obtain ⟨R, hR⟩ : ∃ R, R = doneP (if actN arm ah pa 1 = 1 then del (fs.map pl) S.data.toList else fs.map pl) off arm ah := ⟨_, rfl⟩
    rw [← hR] at HA ⊢
    have HS : Hid (∀ Z, Kx (OD d B fs) w3 Z → (fun Z : World => Z.cell? ⟨w.heap.size, 0, none⟩ = some (.pointer (some ⟨d, 0, none⟩)) ∧ w.heap.size < Z.heap.size) Z) := fun Z hZ => ⟨(B1.kx hZ (hnew _ (Nat.le_refl _))).cell, (B1.kx hZ (hnew _ (Nat.le_refl _))).lt⟩
    have HS0 := hid (HS.out w3.drew (.below (Below.refl _ w3).drew))
    have HW := hid hw3
    have k1 := B1.cell
    have l1 := B1.lt
    have k2 := B2.cell
    have l2 := B2.lt
    clear h hnew hc hc0 hf hfv hw3 B1 B2 hb3 hs3 hD3 hpa hah harm hR nd
    go_enter Tryz.func25, Tryz.ntmps25
    go_wp2_with fail
    rw [← HW.out]
    refine HFi.out.mono ?_
    rintro e w1 ⟨rfl, rfl⟩
    clear HFi HW
    go_wp2_with fail
    refine region_L 99 (fun Z : World => Z.cell? ⟨w.heap.size, 0, none⟩ = some (.pointer (some ⟨d, 0, none⟩)) ∧ w.heap.size < Z.heap.size) (by kernel_rfl) HS0.out (fun hHeld => ?_)
    refine anyT 0 hHeld ?_
    refine anyT 1 hHeld ?_
    clear hHeld
    (try simp only [Act.put, List.setIfInBounds_toArray, List.set_cons_zero, List.set_cons_succ])
    refine anyO 2 (fun K hK => ?_)
    go_simp
    refine (wholly_ok _ _ _).mono ?_
    rintro e w4 ⟨rfl, hw4⟩
    have HA4 := hid (HA.out w4 hw4)
    have hk4 : Kx (OD d B fs) w1 w4 := by
      rw [hw4]
      exact .below ((Below.refl _ w1).drew.trans (below_al w1.drew _))
    have HS4 := hid (HS.out w4 hk4)
    have HK4 := hid hk4
    clear hw4 hk4 HA
    go_simp
    refine hK.out _ _ HS4.out ?_
    clear hK K
    (try simp only [Act.put, List.setIfInBounds_toArray, List.set_cons_zero, List.set_cons_succ])
    refine anyO 3 (fun K hK => ?_)
    go_simp
    refine HA4.out.mono ?_
    rintro e X ⟨v, rfl, hv, hkx⟩
    have HX := hid hv
    have HSX := hid (HS.out X (HK4.out.trans hkx))
    clear hv hkx
    go_simp
    refine hK.out _ _ HSX.out ?_
    clear hK K
    (try simp only [Act.put, List.setIfInBounds_toArray, List.set_cons_zero, List.set_cons_succ])
    have hHeld := HSX.out
    refine anyT 4 hHeld ?_
    refine ⟨by kernel_rfl, ?_⟩
    clear hHeld
    (try simp only [Act.put, List.setIfInBounds_toArray, List.set_cons_zero, List.set_cons_succ])
    go_wp2_with fail
    go_ret
    exact HX.out
  · simp only [if_neg hc]
    obtain ⟨c, hcc⟩ : ∃ c, c = fiC off S fs := ⟨_, rfl⟩
    obtain ⟨p, hp⟩ := fiV_ptr off S fs
    rw [← hcc] at HFi hc ⊢
    rw [hp] at HFi
    have HX : Hid (DoneQ m T w d B fs pa (refP (fs.map pl) off arm ah c) (.returned (evV c)) w3) := hid (.ref h (Nat.le_refl _) hb3 c)
    have e : evV c = .iface 51 (.int .i64 c) := if_neg hc
    rw [e] at HFi HX
    have HW := hid hw3
    have k1 := B1.cell
    have l1 := B1.lt
    have k2 := B2.cell
    have l2 := B2.lt
    clear h hnew nd hc hcc hp hw3 B1 B2 hb3 hs3 hD3 hpa hah harm e
    go_enter Tryz.func25, Tryz.ntmps25
    go_wp2_with fail
    rw [← HW.out]
    refine HFi.out.mono ?_
    rintro e w1 ⟨rfl, rfl⟩
    clear HFi HW
    go_wp2_with fail
    go_ret
    exact HX.out
end
end Go.Proofs.YtmddcdaodlnnhaaGreatDoor
