/-
  What is done by Put of package disk. Conditions: those that each theorem names.
  Append and Put of package disk. Conditions: those that each theorem names.
-/
import Derived.Test.YtmddcdaodlnnhaaGreatDoorVDKJToDKK
namespace Go.Proofs.YtmddcdaodlnnhaaGreatDoor
open Go.RowKit Go.Maps
set_option linter.unusedVariables false
section
variable {m T T' : Nat} {w w' W X Y : World} {d B : Nat} {fs : List Fx} {off arm : Bool} {ah pa : Int}
set_option maxRecDepth 100000 in
set_option maxHeartbeats 2000000 in
theorem cput_ok (h : Dk m T W d B fs off arm ah pa) (S : ByteArray) (hS : S.size ≤ 32) {po : Option Addr} {pn pc : Nat} {pb : List UInt8} (hT : T + pn < 1099511627776) {b1 b2 b3 : Nat} (B1 : Bx W b1 (.slice po pn pc) 29) (B2 : Bx W b2 (.pointer (some ⟨d, 0, none⟩)) 24) (B3 : Bx W b3 (.string S) 9)
    (n1 : ¬ OD d B fs b1) (n2 : ¬ OD d B fs b2) (n3 : ¬ OD d B fs b3) (hp : Has W po pn pc pb) (hpo : ∀ a, po = some a ∧ 0 < pn → ¬ OD d B fs a.block) :
    Calls Tryz.prog 40 #[.pointer (some ⟨b1, 0, none⟩), .pointer (some ⟨b2, 0, none⟩), .pointer (some ⟨b3, 0, none⟩)] W fun e W' => e = .returned (.tuple #[]) ∧
      ∃ fs', fs'.map pl = setA (fs.map pl) ⟨S.data.toList, pb, pb.length⟩ ∧ Dk m (T + 1 + pn) W' d B fs' off arm ah pa ∧ Stp (OD d B fs) W (OD d B fs') W' := by
  obtain ⟨V, hV⟩ : ∃ V, V = W.drew := ⟨_, rfl⟩
  have hbV : Below W.heap.size W V := by rw [hV]; exact (Below.refl _ W).drew
  have hDV := h.below hbV
  have B1V : Bx V b1 (.slice po pn pc) 29 := (hbV.block _ B1.lt).trans B1
  have B2V : Bx V b2 (.pointer (some ⟨d, 0, none⟩)) 24 := (hbV.block _ B2.lt).trans B2
  have B3V : Bx V b3 (.string S) 9 := (hbV.block _ B3.lt).trans B3
  have HSx : Hid (∀ Z : World, Kx (OD d B fs) V Z → (fun Z : World => Z.cell? ⟨b1, 0, none⟩ = some (.slice po pn pc) ∧ Z.cell? ⟨b2, 0, none⟩ = some (.pointer (some ⟨d, 0, none⟩)) ∧ Z.cell? ⟨b3, 0, none⟩ = some (.string S) ∧ b1 < Z.heap.size ∧ b2 < Z.heap.size ∧ b3 < Z.heap.size) Z) := fun Z hZ =>
    ⟨(B1V.kx hZ n1).cell, (B2V.kx hZ n2).cell, (B3V.kx hZ n3).cell, (B1V.kx hZ n1).lt, (B2V.kx hZ n2).lt, (B3V.kx hZ n3).lt⟩
  have HM := hid (made_ok hDV S hS (by omega))
  have hmW : m ≤ V.heap.size := Nat.le_trans hDV.md (Nat.le_of_lt (node_lt hDV.blk))
  have HNx : Hid (∀ X f fs1, MadeR fs S.data.toList f fs1 → Dk m (T + 1) X d B fs1 off arm ah pa → Stp (OD d B fs) V (OD d B fs1) X → Has X po pn pc pb ∧ Kx (OD d B fs) V X ∧
      ∀ Y o' c', Y.ownsRow X.heap.size 5 1 (.slice o' pn c') pn (pb.map bv) → Below X.heap.size X Y → Kx (OD d B fs) V Y ∧ Y.heap[f.p]? = some (.cells #[.slice f.o f.k f.c, .int .i64 (f.s : Int)] 71) ∧
        ∃ fs', fs'.map pl = setA (fs.map pl) ⟨S.data.toList, pb, pb.length⟩ ∧ Dk m (T + 1 + pn) ((Y.setCell ⟨f.p, 0, none⟩ (.slice o' pn c')).setCell ⟨f.p, 1, none⟩ (.int .i64 (pn : Int))) d B fs' off arm ah pa ∧ Stp (OD d B fs) W (OD d B fs') ((Y.setCell ⟨f.p, 0, none⟩ (.slice o' pn c')).setCell ⟨f.p, 1, none⟩ (.int .i64 (pn : Int)))) := fun X f fs1 hR hD hSt => by
    refine ⟨(hp.below hbV).kxA hSt.kx hpo, hSt.kx, fun Y o' c' hr hb => ?_⟩
    have hDY := hD.below hb
    have hok := hDY.ok f hR.1
    refine ⟨hSt.kx.trans (.below hb), hok.blk, ?_⟩
    have hmX : m ≤ X.heap.size := Nat.le_trans hmW hSt.kx.size
    have hr' : Y.ownsRow m 5 1 (.slice o' pn c') pn (pb.map bv) := by
      obtain ⟨k1, k2 | ⟨g, cap, cur, k2, k3, k4⟩⟩ := hr
      · exact ⟨k1, .inl k2⟩
      · exact ⟨k1, .inr ⟨g, cap, cur, k2, Nat.le_trans hmX k3, k4⟩⟩
    have hD2 := hD.ok f hR.1
    have h1 := set_in hok.blk 0 (.slice o' pn c')
    have h2 := set_in h1 1 (.int .i64 (pn : Int))
    have hkY : Kx (fun g => g = f.p) Y ((Y.setCell ⟨f.p, 0, none⟩ (.slice o' pn c')).setCell ⟨f.p, 1, none⟩ (.int .i64 (pn : Int))) := (Kx.set (P := fun g => g = f.p) (g := f.p) rfl _).trans (Kx.set (P := fun g => g = f.p) (g := f.p) rfl _)
    obtain ⟨f', e1, e2, e3, e4, e5, hF1, hF2⟩ := hD.stored hR.1 (X := Y) (.below hb) hr' (fun g e => .inr (own_lt hr g e).1) (Nat.le_refl pn) (T' := T + 1 + pn) (by omega) (by omega) h2 hkY
    refine ⟨put fs1 f', ?_, hF1, (Stp.below hbV).trans (hSt.trans hF2)⟩
    rw [made_set hR e1, map_setA nm_pl]
    congr 1
    unfold pl
    have hpl : pb.length = pn := hp.1
    rw [e1, e2, e3, hR.2.1, hpl]
  have HCl := hid (fun (X : World) (hX : Has X po pn pc pb) => cloneR_ok po pn pc pb X hX (by omega))
  clear h B1 B2 B3 n1 n2 n3 hp hpo hbV hDV B1V B2V B3V hmW
  have HS0 := hid (HSx.out V (Kx.refl _ _))
  go_enter Tryz.func40, Tryz.ntmps40
  go_wp2_with fail
  refine region_L 9 (fun Z : World => Z.cell? ⟨b1, 0, none⟩ = some (.slice po pn pc) ∧ Z.cell? ⟨b2, 0, none⟩ = some (.pointer (some ⟨d, 0, none⟩)) ∧ Z.cell? ⟨b3, 0, none⟩ = some (.string S) ∧ b1 < Z.heap.size ∧ b2 < Z.heap.size ∧ b3 < Z.heap.size) (by kernel_rfl) (by rw [← hV]; exact HS0.out) (fun hHeld => ?_)
  rw [← hV] at hHeld ⊢
  clear hV
  refine anyT 0 hHeld ?_
  refine anyT 1 hHeld ?_
  refine anyT 3 hHeld ?_
  refine anyT 5 hHeld ?_
  refine anyT 6 hHeld ?_
  (try simp only [Act.put, List.setIfInBounds_toArray, List.set_cons_zero, List.set_cons_succ])
  clear hHeld
  refine anyO 2 (fun K hK => ?_)
  go_simp
  refine HM.out.mono ?_
  rintro e X ⟨f, fs1, rfl, hR, hD, hSt⟩
  obtain ⟨q1, q2, q3⟩ := HNx.out X f fs1 hR hD hSt
  have HQ := hid (And.intro q2 q3)
  have HC := hid (HCl.out X q1)
  clear hR hD hSt q1 q2 q3 HNx HCl HM
  go_simp
  refine hK.out _ _ (HSx.out X HQ.out.1) ?_
  clear hK K
  (try simp only [Act.put, List.setIfInBounds_toArray, List.set_cons_zero, List.set_cons_succ])
  refine anyO 4 (fun K hK => ?_)
  go_simp
  refine HC.out.mono ?_
  rintro e Y ⟨o', c', rfl, hr, hb⟩
  obtain ⟨q2, q3, q4⟩ := HQ.out.2 Y o' c' hr hb
  obtain ⟨⟨c0, c1⟩, g0, g1⟩ := two_cells q3
  have flt := node_lt q3
  have HF := hid q4
  have HY := hid q2
  clear hr hb q2 q3 q4 HQ HC
  go_simp
  refine hK.out _ _ (HSx.out Y HY.out) ?_
  clear hK K
  (try simp only [Act.put, List.setIfInBounds_toArray, List.set_cons_zero, List.set_cons_succ])
  have HHe := hid (HSx.out Y HY.out)
  clear HSx HY
  refine anyO 7 (fun K hK => ?_)
  go_simp
  refine hK.out _ _ HHe.out ?_
  clear hK K
  (try simp only [Act.put, List.setIfInBounds_toArray, List.set_cons_zero, List.set_cons_succ])
  refine anyO 8 (fun K hK => ?_)
  go_simp
  refine hK.out _ _ HHe.out ?_
  clear hK K
  (try simp only [Act.put, List.setIfInBounds_toArray, List.set_cons_zero, List.set_cons_succ])
  refine anyZ (fun K hK => ?_)
  go_simp
  refine hK.out _ _ ?_
  clear hK K
  go_wp2_with fail
  exact bodyPost_end (v := .tuple #[]) (by simp [results, Tryz.results40, go_sem]) rfl ⟨rfl, HF.out⟩
end
end Go.Proofs.YtmddcdaodlnnhaaGreatDoor
namespace Go.Proofs.YtmddcdaodlnnhaaGreatDoor
open Go.RowKit Go.Maps
set_option linter.unusedVariables false
/-- What an act tells, and what there is behind it. -/
structure Res where
  c : Int
  P : List Pf
  off : Bool
  arm : Bool
  ah : Int
def refP (P : List Pf) (off arm : Bool) (ah c : Int) : Res := ⟨c, P, off, arm, ah⟩
def doneP (P : List Pf) (off arm : Bool) (ah : Int) : Res := ⟨if actC arm ah then 80 else 0, P, off || actC arm ah, arm && !actC arm ah, if arm && !actC arm ah then ah - 1 else ah⟩
def appR (P : List Pf) (off arm : Bool) (ah pa : Int) (S : ByteArray) (q : List UInt8) : Res :=
  if rfC off S = 0 then doneP (setA P ⟨S.data.toList, (oldP P S.data.toList).b ++ q.take (actN arm ah pa q.length), (oldP P S.data.toList).s⟩) off arm ah else refP P off arm ah (rfC off S)
def putR (P : List Pf) (off arm : Bool) (ah pa : Int) (S : ByteArray) (q : List UInt8) : Res :=
  if rfC off S = 0 then doneP (if actN arm ah pa 1 = 1 then setA P ⟨S.data.toList, q, q.length⟩ else P) off arm ah else refP P off arm ah (rfC off S)
theorem nmS_len {S : ByteArray} (h : nmS S = true) : S.size ≤ 32 := by
  unfold nmS at h
  split at h
  · cases h
  · simp only [Bool.and_eq_true, decide_eq_true_eq] at h
    exact h.1.1
theorem rfC_len {off : Bool} {S : ByteArray} (h : rfC off S = 0) : S.size ≤ 32 := by
  unfold rfC at h
  cases off
  · simp only [Bool.false_eq_true, if_false] at h
    refine nmS_len ?_
    by_cases h2 : nmS S = true
    · exact h2
    · rw [if_neg h2] at h; cases h
  · simp at h
theorem bx_below {w w' : World} {b : Nat} {v : Value} {t : TypeId} (h : Bx w b v t) (hb : Below w.heap.size w w') : Bx w' b v t := (hb.block _ h.lt).trans h
/-- Three boxes, one after the other. -/
theorem three_bx (w : World) (v1 v2 v3 : Value) (t1 t2 t3 : TypeId) : ∃ w3, w3 = ((w.alloc (.cells #[v1] t1)).alloc (.cells #[v2] t2)).alloc (.cells #[v3] t3) ∧ Bx w3 w.heap.size v1 t1 ∧ Bx w3 (w.heap.size + 1) v2 t2 ∧ Bx w3 (w.heap.size + 1 + 1) v3 t3 ∧ Below w.heap.size w w3 ∧ w3.heap.size = w.heap.size + 3 := by
  have b1 := below_al w (.cells #[v1] t1)
  have b2 := below_al (w.alloc (.cells #[v1] t1)) (.cells #[v2] t2)
  have b3 := below_al ((w.alloc (.cells #[v1] t1)).alloc (.cells #[v2] t2)) (.cells #[v3] t3)
  have s1 : (w.alloc (.cells #[v1] t1)).heap.size = w.heap.size + 1 := by simp
  have s2 : ((w.alloc (.cells #[v1] t1)).alloc (.cells #[v2] t2)).heap.size = w.heap.size + 2 := by simp
  have k1 : Bx (w.alloc (.cells #[v1] t1)) w.heap.size v1 t1 := new_block_at w _ rfl
  have k2 : Bx ((w.alloc (.cells #[v1] t1)).alloc (.cells #[v2] t2)) (w.heap.size + 1) v2 t2 := new_block_at _ _ (by rw [s1])
  have k3 : Bx (((w.alloc (.cells #[v1] t1)).alloc (.cells #[v2] t2)).alloc (.cells #[v3] t3)) (w.heap.size + 1 + 1) v3 t3 := new_block_at _ _ (by rw [s2])
  exact ⟨_, rfl, bx_below (bx_below k1 b2) b3, bx_below k2 b3, k3, b1.trans ((b2.mono (by omega)).trans (b3.mono (by omega))), by simp⟩
/-- What is so behind an act. -/
def DoneQ (m T : Nat) (w : World) (d B : Nat) (fs : List Fx) (pa : Int) (R : Res) (e : Ending) (w' : World) : Prop :=
  e = .returned (evV R.c) ∧ ∃ fs', fs'.map pl = R.P ∧ Dk m T w' d B fs' R.off R.arm R.ah pa ∧ Stp (OD d B fs) w (OD d B fs') w'
theorem DoneQ.ref {m T T' : Nat} {w w' : World} {d B : Nat} {fs : List Fx} {off arm : Bool} {ah pa : Int} (h : Dk m T w d B fs off arm ah pa) (hT : T ≤ T') (hb : Below w.heap.size w w') (c : Int) : DoneQ m T' w d B fs pa (refP (fs.map pl) off arm ah c) (.returned (evV c)) w' :=
  ⟨rfl, fs, rfl, (h.below hb).mono hT, .below hb⟩
/-- What act answers, as that. -/
theorem DoneQ.of {m T : Nat} {w w1 X : World} {d B : Nat} {fs fs' : List Fx} {off arm : Bool} {ah pa : Int} {P : List Pf} (hb : Below w.heap.size w w1) (h1 : fs'.map pl = P) (h2 : Dk m T X d B fs' (off || actC arm ah) (arm && !actC arm ah) (if arm && !actC arm ah then ah - 1 else ah) pa) (h3 : Stp (OD d B fs) w1 (OD d B fs') X) :
    DoneQ m T w d B fs pa (doneP P off arm ah) (.returned (evV (if actC arm ah then 80 else 0))) X :=
  ⟨rfl, fs', h1, h2, (Stp.below hb).trans h3⟩
section
variable {m T T' : Nat} {w w' W X Y : World} {d B : Nat} {fs : List Fx} {off arm : Bool} {ah pa : Int}
set_option maxRecDepth 100000 in
set_option maxHeartbeats 2000000 in
theorem dkapp_ok (h : Dk m T w d B fs off arm ah pa) (hpa : inI pa) (hah : inI ah) (harm : arm = true → 0 ≤ ah) (S : ByteArray) (hS : S.size ≤ 9007199254740992) {po : Option Addr} {pn pc : Nat} {pb : List UInt8} (hT : T + pn < 1099511627776) (hp : Has w po pn pc pb) (hpo : ∀ a, po = some a ∧ 0 < pn → ¬ OD d B fs a.block) :
    Calls Tryz.prog 21 #[.pointer (some ⟨d, 0, none⟩), .string S, .slice po pn pc] w (DoneQ m (T + 1 + pn) w d B fs pa (appR (fs.map pl) off arm ah pa S pb)) := by
  obtain ⟨w3, hw3, B1, B2, B3, hb3, hs3⟩ := three_bx w (.pointer (some ⟨d, 0, none⟩)) (.string S) (.slice po pn pc) 24 9 29
  have hD3 := h.below hb3
  have HRf := hid (refuses_ok hD3 S hS)
  have hp3 := hp.below hb3
  have hnew : ∀ g, w.heap.size ≤ g → ¬ OD d B fs g := fun g hg e => by have := (h.lt g e).2; omega
  unfold appR
  by_cases hc : rfC off S = 0
  · have hS32 := rfC_len hc
    simp only [if_pos hc]
    rw [hc] at HRf
    have HRf : Hid (Calls Tryz.prog 37 #[.pointer (some ⟨d, 0, none⟩), .string S] w3 fun e w' => e = .returned .nilIface ∧ w' = w3) := HRf
    have hpl : pb.length = pn := hp.1
    have hCl : ClO m T (T + 1 + pn) d B fs off pa 43 #[.pointer (some ⟨w.heap.size, 0, none⟩), .pointer (some ⟨w.heap.size + 1, 0, none⟩), .pointer (some ⟨w.heap.size + 1 + 1, 0, none⟩)] w3 pn
        (fun n fs' => fs'.map pl = setA (fs.map pl) ⟨S.data.toList, (oldP (fs.map pl) S.data.toList).b ++ pb.take n, (oldP (fs.map pl) S.data.toList).s⟩) := fun W arm' ah' n hn hk hD => by
      have nd : ∀ g, w.heap.size ≤ g → ¬ g = d := fun g hg e => hnew g hg (.inl e)
      exact capp_ok hD S hS32 hT (B1.kx hk (nd _ (Nat.le_refl _))) (B2.kx hk (nd _ (by omega))) (B3.kx hk (nd _ (by omega))) (hnew _ (by omega)) (hp3.kxA hk fun a e e2 => hpo a e (.inl e2)) hpo n hn
    have HA := hid (act_ok hD3 pn (by omega) hpa hah harm (enters_of Tryz.func43 (by kernel_rfl) rfl) hCl)
    have HB := hid hb3
    have k1 := B1.cell
    have k2 := B2.cell
    have k3 := B3.cell
    have l1 := B1.lt
    have l2 := B2.lt
    have l3 := B3.lt
    have HW := hid hw3
    obtain ⟨R, hR⟩ : ∃ R, R = doneP (setA (fs.map pl) ⟨S.data.toList, (oldP (fs.map pl) S.data.toList).b ++ pb.take (actN arm ah pa pb.length), (oldP (fs.map pl) S.data.toList).s⟩) off arm ah := ⟨_, rfl⟩
    rw [← hR]
    rw [hpl] at hR
    have HRR := hid hR
    clear h hp hpo hD3 hp3 hnew hCl B1 B2 B3 hb3 hs3 hw3 hc hpl hpa hah harm hR
    go_enter Tryz.func21, Tryz.ntmps21
    go_wp2_with fail
    rw [← HW.out]
    refine HRf.out.mono ?_
    rintro e w1 ⟨rfl, rfl⟩
    clear HRf HW
    go_wp2_with fail
    refine HA.out.mono ?_
    rintro e X ⟨rfl, fs', h1, h2, h3⟩
    have HX : Hid (DoneQ m (T + 1 + pn) w d B fs pa R (.returned (evV (if actC arm ah then 80 else 0))) X) := hid (by rw [HRR.out]; exact DoneQ.of HB.out h1 h2 h3)
    obtain ⟨v, hv⟩ : ∃ v, v = evV (if actC arm ah then 80 else 0) := ⟨_, rfl⟩
    rw [← hv] at HX ⊢
    clear h1 h2 h3 HA hv
    go_wp2_with fail
    go_ret
    exact HX.out
  · simp only [if_neg hc]
    obtain ⟨c, hcc⟩ : ∃ c, c = rfC off S := ⟨_, rfl⟩
    rw [← hcc] at HRf hc ⊢
    have HX : Hid (DoneQ m (T + 1 + pn) w d B fs pa (refP (fs.map pl) off arm ah c) (.returned (evV c)) w3) := hid (.ref h (by omega) hb3 c)
    have e : evV c = .iface 51 (.int .i64 c) := if_neg hc
    rw [e] at HRf HX
    have k1 := B1.cell
    have k2 := B2.cell
    have k3 := B3.cell
    have l1 := B1.lt
    have l2 := B2.lt
    have l3 := B3.lt
    have HW := hid hw3
    clear h hp hpo hD3 hp3 hnew B1 B2 B3 hb3 hs3 hw3 hc hcc hpa hah harm e
    go_enter Tryz.func21, Tryz.ntmps21
    go_wp2_with fail
    rw [← HW.out]
    refine HRf.out.mono ?_
    rintro e w1 ⟨rfl, rfl⟩
    clear HRf HW
    go_wp2_with fail
    go_ret
    exact HX.out
end
end Go.Proofs.YtmddcdaodlnnhaaGreatDoor
