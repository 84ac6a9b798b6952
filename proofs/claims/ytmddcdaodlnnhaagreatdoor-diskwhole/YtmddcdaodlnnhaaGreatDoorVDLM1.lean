/-
  The document's Do: Sync. Conditions: those that each theorem names.
-/
import Derived.Test.YtmddcdaodlnnhaaGreatDoorVDLJToDLK
namespace Go.Proofs.YtmddcdaodlnnhaaGreatDoor
open Go.RowKit Go.Maps
set_option linter.unusedVariables false
section
variable {m T T' b : Nat} {f : Gx} {w w' W X Y Z : World} {x : Nat} {v : Value} {l : List Gx} {off arm : Bool} {ac ah pa : Int}

set_option maxRecDepth 100000 in
set_option maxHeartbeats 16000000 in
theorem rdo_sync (h : Xd m T w x v l off (acO arm ah) pa) (hpa : inI pa) (hah : inI ah) (harm : arm = true → 0 ≤ ah) {po : Option Addr} {pn pc : Nat} {pb : List UInt8} (hT : T < 1099511627776) (S : ByteArray) (hS : S.size ≤ 9007199254740992) (hp : Has w po pn pc pb) (hpo : ∀ a, po = some a ∧ 0 < pn → ¬ OX x v l a.block) (n : Int) :
    Calls Tryz.prog 29 #[.pointer (some ⟨x, 0, none⟩), .int .i64 1, .string S, .slice po pn pc, .int .i64 n] w (DoneX m (T + 1) w x v l pa (synR (l.map pg) off arm ah pa S)) := by
  have HMy : Hid (Calls Tryz.prog 48 #[.pointer (some ⟨x, 0, none⟩), .string S, .bool true] w fun e w' => e = .returned (.int .i64 (fiP off S (l.map pg))) ∧ Below w.heap.size w w') := hid (rdmay_ok h (by omega) S hS true)
  unfold synR
  by_cases hc : fiP off S (l.map pg) = 0
  · obtain ⟨hc0, f, hf⟩ := fiP_zero hc
    have hS32 := rfC_len hc0
    simp only [if_pos hc]
    rw [hc] at HMy
    have hold := oldP_someG hf
    have hfm := (fnd_some hf).1
    have HFd := hid hf
    have hfn : f.n = S.data.toList := (fnd_some hf).2
    have hfo : f ∈ l ∨ (f.o = none ∧ f.k = 0 ∧ f.c = 0 ∧ f.b = [] ∧ f.s = 0 ∧ f.n.length ≤ 32) := .inl hfm
    obtain ⟨so, cp, rfl, hsrc⟩ := h.row.src
    have HFind : Hid (∀ Z, Below w.heap.size w Z → Calls Tryz.prog 49 #[.pointer (some ⟨x, 0, none⟩), .string S] Z fun e w' => Below Z.heap.size Z w' ∧ ∃ k, ∃ h : k < l.length, l[k] = f ∧ e = .returned (.int .i64 (k : Int))) := hid fun Z hZ => (rdfind_ok (h.below hZ) (by omega) S).mono fun e w' he => by
      obtain ⟨hb, ⟨k, hk, _, h2, rfl⟩ | ⟨h2, _⟩⟩ := he
      · rw [hf] at h2
        exact ⟨hb, k, hk, (Option.some.inj h2).symm, rfl⟩
      · rw [hf] at h2; cases h2
    have HSrc := hid hsrc
    have hbl : f.b.length = f.k := h.row.blen hfm
    have HX := hid h
    have HF := hid (And.intro hfo (And.intro hfn hold))
    have HA := hid (And.intro harm (acO_inI (arm := arm) hah))
    have HPw := hid (And.intro hp hpo)
    obtain ⟨R, hR⟩ : ∃ R, R = doneP (if actN arm ah pa 1 = 1 then setA (l.map pg) ⟨S.data.toList, (oldP (l.map pg) S.data.toList).b, (oldP (l.map pg) S.data.toList).b.length⟩ else l.map pg) off arm ah := ⟨_, rfl⟩
    have HR := hid hR
    rw [← hR]
    clear hR
    clear h hc hc0 hsrc hf hfm hfn hfo hold harm hah hp hpo
    go_enter Tryz.func29, Tryz.ntmps29
    go_wp2_with (go_at_call 48; refine HMy.out.mono ?_; rintro e w1 ⟨rfl, hb1⟩; have HB1 := hid hb1; clear hb1)
    obtain ⟨w2, hw2⟩ : ∃ w2, w2 = w1.alloc (.cells #[.string S, .slice none 0 0, .int .i64 0] 40) := ⟨_, rfl⟩
    rw [← hw2]
    have hb12 : Below w1.heap.size w1 w2 := by rw [hw2]; exact below_al _ _
    have hb02 : Below w.heap.size w w2 := HB1.out.trans (hb12.mono HB1.out.size)
    refine (HFind.out w2 hb02).mono ?_
    rintro e w3 ⟨hb23, k, hk, hkf, rfl⟩
    have q2 : w2.heap[w1.heap.size]? = some (.cells #[.string S, .slice none 0 0, .int .i64 0] 40) := by rw [hw2]; exact new_block_at _ _ rfl
    have q3 := (hb23.block _ (node_lt q2)).trans q2
    have hb03 : Below w.heap.size w w3 := hb02.trans (hb23.mono hb02.size)
    have hSn : (⟨f.n.toArray⟩ : ByteArray) = S := by rw [HF.out.2.1]
    have hX3 := HX.out.below hb03
    obtain ⟨⟨c0, c1, c2, c3⟩, f0, f1, f2, f3⟩ := four_cells hX3.blk
    have xlt := node_lt hX3.blk
    obtain ⟨g, rfl, hgl, p0, p1, p2⟩ := (HSrc.out.below hb03).cell k hk
    rw [hkf] at p0 p1 p2
    rw [hSn] at p0
    obtain ⟨b0, d0⟩ := cell_in q3 0 _ rfl
    obtain ⟨b1, d1⟩ := cell_in q3 1 _ rfl
    obtain ⟨b2, d2⟩ := cell_in q3 2 _ rfl
    have blt := node_lt q3
    have hkI : (k : Int) < (l.length : Int) := by omega
    have a0 : decide ((0 : Int) ≤ (k : Int)) = true := by simp
    obtain ⟨w4, hw4⟩ : ∃ w4, w4 = ((w3.setCell ⟨w1.heap.size, 0, none⟩ (.string S)).setCell ⟨w1.heap.size, 1, none⟩ (.slice f.o f.k f.c)).setCell ⟨w1.heap.size, 2, none⟩ (.int .i64 (f.s : Int)) := ⟨_, rfl⟩
    have q4 : FBx w4 w1.heap.size f := by unfold FBx; rw [hw4, set_in (set_in (set_in q3 0 _) 1 _) 2 _, hSn]; rfl
    have hk34 : Kx (fun g => g = w1.heap.size) w3 w4 := by rw [hw4]; exact ((Kx.set (P := fun g => g = w1.heap.size) (g := w1.heap.size) rfl _).trans (Kx.set (P := fun g => g = w1.heap.size) (g := w1.heap.size) rfl _)).trans (Kx.set (P := fun g => g = w1.heap.size) (g := w1.heap.size) rfl _)
    have hk04 : Kx (fun g => w.heap.size ≤ g) w w4 := (Kx.below hb03).trans (hk34.wide fun g e => by have := HB1.out.size; omega)
    have HW4 := hid hw4
    have HX4 := hid (HX.out.kx hk04 fun g hg e => by have := (HX.out.lt g hg).2; omega)
    have HAct := hid (rdact_ok HX4.out HA.out.2)
    rw [acO_cut HA.out.1] at HAct
    have HQ4 := hid (And.intro q4 (And.intro hk04 HB1.out.size))
    have HB4 : Hid (Below w.heap.size w w4) := hid (hk04.to (Nat.le_refl _) fun g e => e)
    clear hw2 hb12 hb02 hb23 q2 q3 hb03 hX3 q4 hk04 HFind HMy hkf hw4 hk34 HSrc
    go_wp2_with fail
    rw [← HW4.out]
    clear HW4 c0 c1 c2 c3 f0 f1 f2 f3 p0 p1 p2 b0 b1 b2 d0 d1 d2
    refine HAct.out.mono ?_
    rintro e Y ⟨rfl, hY, hS5⟩
    have HP := hid (Pre.of HX.out HQ4.out.2.1 hY hS5 HQ4.out.1 HQ4.out.2.2 HF.out.1)
    obtain ⟨⟨e0, e1, e2⟩, y0, y1, y2, ylt⟩ := HP.out.bx.cells
    rw [hSn] at e0
    have hkT := HP.out.kT
    have hfh := Has.of_owned HP.out.row
    obtain ⟨⟨u0, u1, u2, u3⟩, w0', w1', w2', w3'⟩ := four_cells hY.blk
    have ult := node_lt hY.blk
    have hpY : Has Y po pn pc pb := HPw.out.1.kxA HP.out.st.kx HPw.out.2
    have hplen : pb.length = pn := HPw.out.1.1
    cases hcut : actC arm ah
    · rw [hcut] at HP
      rw [hcut] at hY
      have HRc : Hid (∀ (v' : Value) (l' : List Gx) (X : World), l'.map pg = R.P → Xd m (T + 1) X x v' l' (off || actC arm ah) (xac (acO arm ah)) pa → Stp (OX x (.slice (some ⟨g, 0, none⟩) l.length cp) l) w (OX x v' l') X → DoneX m (T + 1) w x (.slice (some ⟨g, 0, none⟩) l.length cp) l pa R (.returned (.int .i64 0)) X) := hid fun v' l' X h1 h2 h3 => by
        have e : R = doneP R.P off arm ah := by rw [HR.out]; rfl
        rw [e]
        exact DoneX.of HA.out.1 h1 h2 h3 0 (by rw [hcut]; rfl)
      rw [hcut] at HRc
      have HAN : Hid (actN arm ah pa 1 = 1) := hid (by unfold actN; rw [hcut]; rfl)
      obtain ⟨Z, hZ⟩ : ∃ Z, Z = Y.setCell ⟨w1.heap.size, 2, none⟩ (.int .i64 (f.k : Int)) := ⟨_, rfl⟩
      obtain ⟨g1, g2⟩ := HP.out.sync hT Z hZ
      rw [HF.out.2.1] at g2
      obtain ⟨⟨z0, z1, z2⟩, _, _, _, zl⟩ := g1.cells
      rw [hSn] at z0
      have HSet := hid g2
      have HZ := hid hZ
      clear g1 g2 hZ
      have HRP : Hid (R.P = setA (l.map pg) ⟨S.data.toList, f.b, f.b.length⟩) := hid (by rw [HR.out]; unfold doneP; dsimp only; rw [if_pos HAN.out, HF.out.2.2])
      clear hY hS5 HP hfh HAct HX HX4 HQ4 HB4 HB1 HPw u0 u1 u2 u3 w0' w1' w2' w3' ult hpY HR HA
      go_wp2_with (first
        | (go_at_call 52; rw [← HZ.out]; refine HSet.out.mono ?_; rintro e X ⟨rfl, v', l', h1, h2, h3⟩; have HXf := hid (HRc.out v' l' X (by rw [HRP.out]; exact h1) h2 h3); clear h1 h2 h3 HSet HZ))
      go_ret
      exact HXf.out
    · rw [hcut] at HP
      rw [hcut] at hY
      have HRc : Hid (∀ (v' : Value) (l' : List Gx) (X : World), l'.map pg = R.P → Xd m (T + 1) X x v' l' (off || actC arm ah) (xac (acO arm ah)) pa → Stp (OX x (.slice (some ⟨g, 0, none⟩) l.length cp) l) w (OX x v' l') X → DoneX m (T + 1) w x (.slice (some ⟨g, 0, none⟩) l.length cp) l pa R (.returned (.int .i64 80)) X) := hid fun v' l' X h1 h2 h3 => by
        have e : R = doneP R.P off arm ah := by rw [HR.out]; rfl
        rw [e]
        exact DoneX.of HA.out.1 h1 h2 h3 80 (by rw [hcut]; rfl)
      rw [hcut] at HRc
      have m1 := Int.emod_nonneg pa (show (2 : Int) ≠ 0 by omega)
      have m2 := Int.emod_lt_of_pos pa (show (0 : Int) < 2 by omega)
      have HAN0 : Hid (actN arm ah pa 1 = (pa % 2).toNat) := hid (by unfold actN; rw [hcut]; rfl)
      have HMd : Hid (∀ W : World, Calls Tryz.prog 47 #[.int .i64 pa, .int .i64 2] W fun e w' => e = .returned (.int .i64 (pa % 2)) ∧ w' = W) := hid fun W => rdmod_ok pa 2 W hpa (by omega) (by omega)
      by_cases hodd : pa % 2 = 1
      · have HAN : Hid (actN arm ah pa 1 = 1) := hid (by rw [HAN0.out, hodd]; rfl)
        rw [hodd] at HMd
        clear m1 m2 hodd HAN0
        obtain ⟨Z, hZ⟩ : ∃ Z, Z = Y.setCell ⟨w1.heap.size, 2, none⟩ (.int .i64 (f.k : Int)) := ⟨_, rfl⟩
        obtain ⟨g1, g2⟩ := HP.out.sync hT Z hZ
        rw [HF.out.2.1] at g2
        obtain ⟨⟨z0, z1, z2⟩, _, _, _, zl⟩ := g1.cells
        rw [hSn] at z0
        have HSet := hid g2
        have HZ := hid hZ
        clear g1 g2 hZ
        have HRP : Hid (R.P = setA (l.map pg) ⟨S.data.toList, f.b, f.b.length⟩) := hid (by rw [HR.out]; unfold doneP; dsimp only; rw [if_pos HAN.out, HF.out.2.2])
        clear hY hS5 HP hfh HAct HX HX4 HQ4 HB4 HB1 HPw u0 u1 u2 u3 w0' w1' w2' w3' ult hpY HR HA
        go_wp2_with (first
          | (go_at_call 52; rw [← HZ.out]; refine HSet.out.mono ?_; rintro e X ⟨rfl, v', l', h1, h2, h3⟩; have HXf := hid (HRc.out v' l' X (by rw [HRP.out]; exact h1) h2 h3); clear h1 h2 h3 HSet HZ)
          | (go_at_call 47; refine (HMd.out _).mono ?_; rintro e Ym ⟨rfl, rfl⟩))
        go_ret
        exact HXf.out
      · have hev : pa % 2 = 0 := by omega
        have HAN : Hid (actN arm ah pa 1 = 0) := hid (by rw [HAN0.out, hev]; rfl)
        rw [hev] at HMd
        have HRP : Hid (R.P = l.map pg) := hid (by rw [HR.out]; unfold doneP; dsimp only; rw [if_neg (by rw [HAN.out]; decide)])
        have HXf : Hid (DoneX m (T + 1) w x (.slice (some ⟨g, 0, none⟩) l.length cp) l pa R (.returned (.int .i64 80)) Y) := hid (HRc.out _ l Y HRP.out.symm (HP.out.xd.mono (by omega)) HP.out.st)
        clear m1 m2 hev HAN0 HAN HRP hY hS5 HP hfh HAct HX HX4 HQ4 HB4 HB1 HPw u0 u1 u2 u3 w0' w1' w2' w3' ult hpY HRc
        go_wp2_with (first
          | (go_at_call 47; refine (HMd.out _).mono ?_; rintro e Ym ⟨rfl, rfl⟩))
        go_ret
        exact HXf.out
  · simp only [if_neg hc]
    obtain ⟨c, hcc⟩ : ∃ c, c = fiP off S (l.map pg) := ⟨_, rfl⟩
    rw [← hcc] at HMy hc ⊢
    have a0 : (c == 0) = false := by simpa using hc
    have HXb : Hid (∀ X, Below w.heap.size w X → DoneX m (T + 1) w x v l pa (refP (l.map pg) off arm ah c) (.returned (.int .i64 c)) X) := hid fun X hX => DoneX.ref h (by omega) hX c
    obtain ⟨R, hR⟩ : ∃ R, R = refP (l.map pg) off arm ah c := ⟨_, rfl⟩
    rw [← hR] at HXb ⊢
    clear h hc hcc hR hp hpo
    go_enter Tryz.func29, Tryz.ntmps29
    go_wp2_with (go_at_call 48; refine HMy.out.mono ?_; rintro e w1 ⟨rfl, hb1⟩; have HB1 := hid hb1; clear hb1)
    go_ret
    exact HXb.out _ HB1.out
end
end Go.Proofs.YtmddcdaodlnnhaaGreatDoor
