/-
  DiskApart: an act leaves the files of other names as they are. Conditions: those that each theorem names.
  From an argument that is a slice of bytes to the bytes that it holds. Conditions: those that each theorem names.
  Rows of bytes in memory: what it is that a slice of slices holds given rows; from an argument to its rows; 'append' onto memory of the call's own, nil too. Conditions: those that each theorem names.
-/
import Derived.Test.YtmddcdaodlnnhaaGreatDoorVDLT0ToDLQ
import Derived.Test.YtmddcdaodlnnhaaGreatDoorVPlainToMem
import Derived.ProofKit
import Derived.OpenShut
import Derived.Test.YtmddcdaodlnnhaaGreatDoorVRLToCopied
import Derived.Deep.Slices
namespace Go.Proofs.YtmddcdaodlnnhaaGreatDoor
open Go.RowKit Go.Maps
set_option linter.unusedVariables false
/-- While the acts are played. -/
def AP (m : Nat) (w0 : World) (d x j : Nat) (wr : World) : Prop := Below m w0 wr ∧ ∃ B fs v l s, Tw0 m (j * 2097152) wr d x B fs v l s
theorem onl_pg (ls : List Gx) (x : Nm) : (onl ls x).map pg = match fnd (ls.map pg) x with
  | some f => [f]
  | none => [] := by
  unfold onl
  rw [map_fnd nm_pg]
  cases fnd ls x <;> rfl
theorem Tw0.bel {m T : Nat} {w w' : World} {d x B : Nat} {fs fs' : List Fx} {v v' : Value} {l l' : List Gx} {s : Sp} (h : Tw0 m T w d x B fs v l s) (hS : Stp (O2 d x B fs v l) w (O2 d x B fs' v' l') w') : Below m w w' :=
  ⟨hS.kx.os, hS.kx.tape, hS.kx.output, hS.kx.size, fun g hg => hS.kx.block g (by have h1 := (h.lt _ (.inl (.inl rfl))); omega) fun e => by have := (h.lt g e).1; omega⟩
set_option maxRecDepth 100000 in
set_option maxHeartbeats 16000000 in
theorem apart_any {w : World} {a : Option Addr} {n cap : Nat} {xs : List Ax} (hE : ErrIs w) (hA : RowA w.heap.size w a n xs) (S : ByteArray) :
    Calls Tryz.prog 6 #[.slice a n cap, .string S] w fun e w' => e = .returned (.bool true) ∧ Below w.heap.size w w' := by
  have HE := hid hE
  have HA := hid hA
  have HEn : Hid (0 < w.heap.size) := hE.lt
  have hnl : (n : Int) ≤ 9223372036854775807 := by have := hA.le; unfold maxLen at this; omega
  have HS := hid (small_ok w hE)
  clear hE hA
  go_enter Tryz.func6, Tryz.ntmps6
  go_wp2_with fail
  refine HS.out.mono ?_
  rintro e w1 ⟨rfl, hb1⟩
  have HN := hid (dknew_ok w.heap.size w1 hb1.size)
  have HB1 := hid hb1
  clear hb1 HS
  go_wp2_with fail
  refine HN.out.mono ?_
  rintro e w2 ⟨d, B, rfl, h2, hd2, hB2, hb2⟩
  have hs2 : w.heap.size ≤ w2.heap.size := Nat.le_trans HB1.out.size hb2.size
  have HX := hid (rdnew_ok w.heap.size w2 hs2)
  have HD := hid (And.intro h2 (And.intro hd2 (And.intro hB2 (And.intro (HB1.out.trans (hb2.mono HB1.out.size)) hs2))))
  clear hs2 h2 hd2 hB2 hb2 HN HB1
  go_wp2_with fail
  refine HX.out.mono ?_
  rintro e w3 ⟨rfl, h3, hb3⟩
  obtain ⟨h2, hd2, hB2, hb2, hs2⟩ := HD.out
  obtain ⟨x, hx⟩ : ∃ x, x = w2.heap.size := ⟨_, rfl⟩
  rw [← hx] at h3
  have HP0 : Hid (AP w.heap.size w d x 0 w3) := hid ⟨hb2.trans (hb3.mono hs2), B, [], _, [], ⟨[], false, false, 0, 0⟩, ⟨rfl, rfl, h2.below hb3, h3, fun g hg e => (by
    have := (h2.lt g hg).2
    rcases e with rfl | e | ⟨_, e, _⟩
    · omega
    · cases e
    · cases e), fun e => (by cases e), (by unfold inI; simp), (by unfold inI; simp)⟩⟩
  have HX2 := hid hx
  clear h2 hd2 hB2 hb2 hs2 h3 hb3 hx HX HD
  go_wp2_with fail
  rw [← HX2.out]
  clear HX2
  go_loopw [8] (fun i wr => ∃ j : Nat, i = .int .i64 (j : Int) ∧ j ≤ n ∧ j ≤ 200 ∧ Hid (AP w.heap.size w d x j wr)) (fun i _ => n - (intOf i).toNat)
  case atStart => exact ⟨0, rfl, Nat.zero_le _, Nat.zero_le _, HP0⟩
  case round =>
    obtain ⟨j, rfl, hj, hj2, HR⟩ := hrel
    clear HP0
    by_cases hjn : j < n ∧ j < 200
    · obtain ⟨hjn, hj200⟩ := hjn
      have hjI : (j : Int) < (n : Int) := by omega
      have hjJ : (j : Int) < 200 := by omega
      obtain ⟨hbel, B, fs, v, l, s, hT⟩ := HR.out
      have HF := hid (dkfiles_ok hT.dk (by omega))
      have HH := hid (And.intro hbel hT)
      clear hbel hT
      go_wp2_with fail
      refine HF.out.mono ?_
      rintro e w4 ⟨vl, ls, rfl, hG, hpg, hb4⟩
      obtain ⟨so, cp, rfl, hC, hle, _⟩ := hG.c
      have HO := hid (only_ok hle hC S)
      have HG := hid (And.intro hG (And.intro hpg hb4))
      clear hG hpg hb4 hC HF
      go_wp2_with fail
      refine HO.out.mono ?_
      rintro e w5 ⟨o1, k1, c1, rfl, hR1, hb5⟩
      obtain ⟨hG, hpg, hb4⟩ := HG.out
      obtain ⟨hbel, hT⟩ := HH.out
      have hb45 := hb4.trans (hb5.mono hb4.size)
      have hT5 := hT.below hb45
      have hm5 : w.heap.size ≤ wr.heap.size := hbel.size
      have hbel5 := hbel.trans (hb45.mono hm5)
      have hA5 := HA.out.below hbel5
      have hjx : j < xs.length := by rw [HA.out.ln]; exact hjn
      have hAc := lact_any (HE.out.below hbel5 HEn.out) HEn.out hT5 xs[j] (hA5.ok _ (List.getElem_mem hjx)) (by omega)
      have HG5 := hid (And.intro (hG.below hb5) hpg)
      have HLt := hid (fun g e => (hT.lt g e))
      have HT5 := hid (And.intro hT5 hbel5)
      obtain ⟨g, off, ha, hg, hcs⟩ := HA.out.at' (by omega)
      have hcs0 := hcs j hjx
      obtain ⟨xx, hxx⟩ : ∃ xx, xx = xs[j] := ⟨_, rfl⟩
      rw [← hxx] at hcs0 hAc
      have hcell : ∀ X, Below w.heap.size w X → ∀ k, X.cell? ⟨g, k, none⟩ = w.cell? ⟨g, k, none⟩ := fun X hX k => World.cell?_of_block (w := w) (a := ⟨g, k, none⟩) (hX.block g hg)
      have HCs : Hid (∀ X, Below w.heap.size w X → X.cell? ⟨g, off + j * 6, none⟩ = some (.int .i64 xx.K) ∧ X.cell? ⟨g, off + j * 6 + 1, none⟩ = some (.string xx.S) ∧ X.cell? ⟨g, off + j * 6 + 2, none⟩ = some (.slice xx.bo xx.b.length xx.bc) ∧ X.cell? ⟨g, off + j * 6 + 3, none⟩ = some (.int .i64 xx.N) ∧ X.cell? ⟨g, off + j * 6 + 4, none⟩ = some (.int .i64 xx.M) ∧ X.cell? ⟨g, off + j * 6 + 5, none⟩ = some (.slice xx.lo xx.ln xx.lc)) := hid fun X hX => by
        simp only [hcell X hX]
        exact hcs0
      have HAc := hid hAc
      have HR1 := hid (And.intro hR1 hle)
      obtain ⟨q0, q1, q2, q3, q4, q5⟩ := HCs.out w5 hbel5
      subst ha
      clear hG hpg hb4 hbel hT hb45 hT5 hm5 hbel5 hA5 hAc hcs hcs0 hcell hR1 hb5 HO HG HH hle hxx hjx hg
      go_wp2_with fail
      refine HAc.out.mono ?_
      rintro e w6 ⟨rfl, fs', v', l', hT6, hS6⟩
      have HF := hid (dkfiles_ok hT6.dk (by omega))
      have HT6 := hid (And.intro hT6 hS6)
      clear hT6 hS6 HAc q0 q1 q2 q3 q4 q5
      go_wp2_with fail
      refine HF.out.mono ?_
      rintro e w7 ⟨vl, ls2, rfl, hG, hpg, hb7⟩
      obtain ⟨so2, cp2, rfl, hC, hle, _⟩ := hG.c
      have HO := hid (only_ok hle hC S)
      have HG := hid (And.intro hG (And.intro hpg hb7))
      clear hG hpg hb7 hC HF hle
      go_wp2_with fail
      refine HO.out.mono ?_
      rintro e w8 ⟨o2, k2, c2, rfl, hR2, hb8⟩
      obtain ⟨hG2, hpg2, hb7⟩ := HG.out
      obtain ⟨hT6, hS6⟩ := HT6.out
      obtain ⟨hT5, hbel5⟩ := HT5.out
      obtain ⟨hG1, hpg1⟩ := HG5.out
      have hb78 := hb7.trans (hb8.mono hb7.size)
      have hbel6 : Below w.heap.size w w6 := hbel5.trans (hT5.bel hS6)
      have hbel8 := hbel6.trans (hb78.mono hbel6.size)
      have hC1 : RowC w8 so ls.length ls := by
        have h1 := (hG1.kx hS6.kx (fun g e e2 => by have h3 := (HLt.out g e2).2; have h4 := (hG1.lt g e).1; omega)).below hb78
        obtain ⟨s3, c3, e3, h3, _⟩ := h1.c
        cases e3
        exact h3
      have hC2 : RowC w8 so2 ls2.length ls2 := by
        obtain ⟨s3, c3, e3, h3, _⟩ := (hG2.below hb8).c
        cases e3
        exact h3
      have HC1 := hid (HR1.out.1 w8 hC1)
      have HC2 := hid (hR2 w8 hC2)
      have HT8 : Hid (AP w.heap.size w d x (j + 1) w8) := hid ⟨hbel8, B, fs', v', l', _, (hT6.below hb78).mono (by omega)⟩
      have hP : ls.map pg = s.P := hpg1.trans hT5.pd
      have hP2 : ls2.map pg = (actS s xx).P := hpg2.trans hT6.pd
      have HPg : Hid (xx.K ≠ 6 → xx.S ≠ S → (onl ls S.data.toList).map pg = (onl ls2 S.data.toList).map pg) := hid fun h6 hS => by
        rw [onl_pg, onl_pg, hP, hP2, act_apart s xx _ h6 (fun e => hS (ByteArray.ext (Array.toList_inj.1 e)))]
      obtain ⟨q0, q1, q2, q3, q4, q5⟩ := HCs.out w8 hbel8
      have HB8 := hid hbel8
      clear hG2 hpg2 hb7 hT6 hS6 hT5 hbel5 hG1 hpg1 hb78 hbel6 hbel8 hC1 hC2 hP hP2 HT6 HT5 HG5 HG HR1 hR2 hb8 HLt HO
      have HSm := hid (fun h6 hS => same_ok (cap := c1) (cap2 := c2) HC1.out HC2.out (HPg.out h6 hS))
      have HEnd : Hid (∀ X, Below w8.heap.size w8 X → AP w.heap.size w d x (j + 1) X) := hid fun X hX => by
        obtain ⟨h1, B, fs, v, l, s, h2⟩ := HT8.out
        exact ⟨h1.trans (hX.mono h1.size), B, fs, v, l, s, h2.below hX⟩
      clear HC1 HC2 HT8 HPg HCs
      obtain ⟨K, SS, bo, bc, bb, N, M, lo, ln, lc, ks⟩ := xx
      dsimp only at q0 q1 q2 q3 q4 q5 HSm
      by_cases h6 : K = 6
      · subst h6
        clear HSm
        go_wp2_with fail
        exact ⟨⟨j + 1, by go_num, by omega, by omega, HEnd.out _ (Below.refl _ _)⟩, by simp [intOf]; omega⟩
      · by_cases hS : SS = S
        · subst hS
          clear HSm
          go_wp2_with fail
          exact ⟨⟨j + 1, by go_num, by omega, by omega, HEnd.out _ (Below.refl _ _)⟩, by simp [intOf]; omega⟩
        · have HSm2 := hid (HSm.out h6 hS)
          have a1 : (SS.toList == S.toList) = false := by
            rw [Go.ByteArray.toList_eq, Go.ByteArray.toList_eq]
            refine beq_eq_false_iff_ne.2 fun e => hS ?_
            apply ByteArray.ext
            exact Array.toList_inj.1 e
          clear HSm
          go_wp2_with fail
          refine HSm2.out.mono ?_
          rintro e w9 ⟨rfl, hb9⟩
          have HE9 := hid (HEnd.out w9 hb9)
          clear hb9 HSm2
          go_wp2_with fail
          exact ⟨⟨j + 1, by go_num, by omega, by omega, HE9.out⟩, by simp [intOf]; omega⟩
    · have HBel := hid HR.out.1
      clear HR
      by_cases hjn1 : j < n
      · have hj200 : ¬ (j : Int) < 200 := by omega
        have hjI : (j : Int) < (n : Int) := by omega
        have hkd : decide ((j : Int) < 200) = false := by simpa using hj200
        go_wp2_with fail
        go_ret
        exact ⟨rfl, HBel.out⟩
      · have hjI : ¬ (j : Int) < (n : Int) := by omega
        have hkd : decide ((j : Int) < (n : Int)) = false := by simpa using hjI
        have hkd2 : decide (j < n) = false := by simpa using hjn1
        go_wp2_with fail
        go_ret
        exact ⟨rfl, HBel.out⟩
end Go.Proofs.YtmddcdaodlnnhaaGreatDoor
namespace Go.Proofs.YtmddcdaodlnnhaaGreatDoor
open Go.ChangeShapes Go.WideShapes Go.ChangeAt Go.RowKit
set_option linter.unusedVariables false

theorem Tryz.own : ownKnob Tryz.prog.godebug = none := by kernel_rfl
theorem Tryz.laidOut : laidOutB Tryz.prog = true := by kernel_rfl
theorem Tryz.cells5 : Tryz.prog.cellsOf 5 = 1 := by kernel_rfl

theorem block_lt {w : World} {a : Addr} {v : Value} (h : w.cell? a = some v) : a.block < w.heap.size := by
  rcases Nat.lt_or_ge a.block w.heap.size with h1 | h1
  · exact h1
  · simp [World.cell?, Array.getElem?_eq_none h1] at h

theorem has_arg {H : Type} {enc : TypeId × Value → H} {W : World} {a : Option Addr} {len cap : Nat} {d : DataW H} {ps : List MemPlace}
    {fuel : Nat} (hf : DataW.trod enc Tryz.prog W 0 (fun _ => true) true fuel 29 (Value.slice a len cap).cells.toList = some (d, ps)) : ∃ l, Has W a len cap l := by
  rcases open_ints Tryz.underlying29 Tryz.underlying5 Tryz.cells5 hf with ⟨hcs, _⟩ | ⟨x, l, c, zs, hcs, _, hl, hm, hz, _, hcell, hwz⟩
  · simp [Value.cells] at hcs
    obtain ⟨rfl, rfl, rfl⟩ := hcs
    exact ⟨[], rfl, Nat.le_refl _, by unfold maxLen; omega, fun _ => rfl, fun h => absurd h (by omega)⟩
  · simp [Value.cells] at hcs
    obtain ⟨rfl, rfl, rfl⟩ := hcs
    have hz' : zs.length = cap := by simpa using hz
    refine ⟨(zs.take len).map fun z => UInt8.ofNat z.toNat, by simp; omega, hl, hm, fun e => (by cases e), fun h0 => ?_⟩
    obtain ⟨b, off, spot⟩ := x
    have hc0 := hcell 0 (by omega)
    have hspot : spot = none := by simpa [Addr.add] using World.cell?_spot hc0
    subst hspot
    refine ⟨b, off, rfl, ?_, fun i hi => ?_⟩
    · have := block_lt hc0
      simpa [Addr.add] using this
    · simp at hi
      have hi' : i < zs.length := by omega
      have hc := hcell i (by omega)
      rw [Addr.add_lit] at hc
      rw [hc]
      have hb := bounds_u8 (hwz (zs[i]) (List.getElem_mem hi'))
      simp [bv, hi']
      omega
end Go.Proofs.YtmddcdaodlnnhaaGreatDoor
namespace Go.Proofs.YtmddcdaodlnnhaaGreatDoor
open Go.ChangeShapes Go.WideShapes Go.ChangeAt Go.RowKit
set_option linter.unusedVariables false

/-- The slice holds these rows of bytes. -/
def HasRows (w : World) (a : Option Addr) (len cap : Nat) (ls : List (List UInt8)) : Prop :=
  ls.length = len ∧ len ≤ cap ∧ cap ≤ maxLen ∧ (0 < len → ∃ b off, a = some ⟨b, off, none⟩ ∧ b < w.heap.size ∧
    ∀ i (h : i < ls.length), ∃ ao n c, w.cell? ⟨b, off + i, none⟩ = some (.slice ao n c) ∧ Has w ao n c ls[i])
theorem HasRows.below {w w' : World} {a : Option Addr} {len cap : Nat} {ls : List (List UInt8)} (h : HasRows w a len cap ls) (hb : Below w.heap.size w w') : HasRows w' a len cap ls := by
  obtain ⟨h1, h2, h3, h5⟩ := h
  refine ⟨h1, h2, h3, fun h0 => ?_⟩
  obtain ⟨b, off, ha, hlt, hc⟩ := h5 h0
  have := hb.size
  refine ⟨b, off, ha, by omega, fun i hi => ?_⟩
  obtain ⟨ao, n, c, h1, h2⟩ := hc i hi
  exact ⟨ao, n, c, (hb.cell (p := ⟨b, off + i, none⟩) hlt).trans h1, h2.below hb⟩

theorem Tryz.cellsB : Tryz.prog.cellsOf 29 = 1 := by kernel_rfl
theorem has_cell {H : Type} {enc : TypeId × Value → H} {W : World} {v : Value} {d : DataW H} {ps : List MemPlace}
    {fuel : Nat} (hf : DataW.trod enc Tryz.prog W 0 (fun _ => true) true fuel 29 [v] = some (d, ps)) : ∃ a len cap l, v = .slice a len cap ∧ Has W a len cap l := by
  have hs : ∃ a len cap, v = .slice a len cap := by
    rcases open_ints Tryz.underlying29 Tryz.underlying5 Tryz.cells5 hf with ⟨hcs, _⟩ | ⟨x, l, c, zs, hcs, _⟩
    · simp at hcs; exact ⟨_, _, _, hcs⟩
    · simp at hcs; exact ⟨_, _, _, hcs⟩
  obtain ⟨a, len, cap, rfl⟩ := hs
  obtain ⟨l, hl⟩ := has_arg (a := a) (len := len) (cap := cap) hf
  exact ⟨a, len, cap, l, rfl, hl⟩

theorem rows_arg {H : Type} {enc : TypeId × Value → H} {W : World} {a : Option Addr} {len cap : Nat} {d : DataW H} {ps : List MemPlace}
    {fuel : Nat} (hf : DataW.trod enc Tryz.prog W 0 (fun _ => true) true fuel 41 (Value.slice a len cap).cells.toList = some (d, ps)) : ∃ ls, HasRows W a len cap ls := by
  rcases Deep.open_slice1 Tryz.underlying41 Tryz.cellsB hf with ⟨hcs, _⟩ | ⟨x, l, c, m, n, V, D, Pl, hcs, _, hl, hm, hmm, _, hV⟩
  · simp [Value.cells] at hcs
    obtain ⟨rfl, rfl, rfl⟩ := hcs
    exact ⟨[], rfl, Nat.le_refl _, by unfold maxLen; omega, fun h => absurd h (by omega)⟩
  · simp [Value.cells] at hcs
    obtain ⟨rfl, rfl, rfl⟩ := hcs
    simp at hmm
    subst hmm
    have hall : ∀ i, i < m → ∃ r : List UInt8, ∃ ao k c, W.cell? (x.add i) = some (.slice ao k c) ∧ Has W ao k c r := by
      intro i hi
      obtain ⟨h1, h2⟩ := hV i hi
      obtain ⟨ao, k, c, r, e, hr⟩ := has_cell h2
      rw [e] at h1
      exact ⟨r, ao, k, c, h1, hr⟩
    obtain ⟨F, hF⟩ := Deep.choose_lt (α := List UInt8) hall
    refine ⟨(List.range len).map F, by simp, hl, hm, fun h0 => ?_⟩
    obtain ⟨b, off, spot⟩ := x
    obtain ⟨ao, k, c, hc0, _⟩ := hF 0 (by omega)
    have hspot : spot = none := by simpa [Addr.add] using World.cell?_spot hc0
    subst hspot
    refine ⟨b, off, rfl, ?_, fun i hi => ?_⟩
    · have := block_lt hc0
      simpa [Addr.add] using this
    · simp at hi
      obtain ⟨ao, k, c, h1, h2⟩ := hF i (by omega)
      rw [Addr.add_lit] at h1
      exact ⟨ao, k, c, h1, by simpa using h2⟩

/-- 'b = append(b, bytes...)', b nil or the call's own, at least one byte. -/
theorem wpList_grow {w : World} {ops : Array Oper} {rest : List Oper} {o : Oper} {a : Act} {Q : Exit → Act → World → Prop} (hgd : o.guard = none) (s x : Operand)
    (ho : o.op = .call { callee := .builtin .append, args := #[s, x], argTypes := #[29, 29] })
    (base : Nat) (v : Value) (n : Nat) (xs : List Value) (hs : a.eval s = v) (hown : w.ownsRow base 5 1 v n xs)
    (ao : Option Addr) (m c : Nat) (l : List UInt8) (hx : a.eval x = .slice ao m c) (hl : Has w ao m c l) (hpos : 0 < m) (hb : n + m ≤ 140737488355328) (hbase : base ≤ w.heap.size)
    (h : ∀ g cap w', base ≤ g → w'.ownsRow base 5 1 (.slice (some ⟨g, 0, none⟩) (n + m) cap) (n + m) (xs ++ l.map bv) → w.grownBy w' v.ownBlock → wpList Tryz.prog ops Q rest (a.put o.dst (.slice (some ⟨g, 0, none⟩) (n + m) cap)) w') :
    wpList Tryz.prog ops Q (o :: rest) a w := by
  obtain ⟨i0, hi, hz0, hz1, hz2⟩ := info_parts Tryz.info5
  obtain ⟨ad, rfl, hat⟩ := hl.cells (by rw [List.length_map, hl.1]; exact hpos)
  have hsz : (l.map bv).length = m * 1 := by simpa using hl.1
  refine wpList_append_own w hgd s x 29 ho base 5 i0 (.int .u8 0) 1 1 Tryz.underlying29 hi hz0 hz1 hz2 rfl (by decide) v n xs hs hown ad m c (l.map bv) hx hsz hat (bv_oneCell l) (by unfold maxLen; omega) (by omega) hbase ?_
  intro v' w' hown' hgr hnil
  have hsh : ∃ g cap, v' = .slice (some ⟨g, 0, none⟩) (n + m) cap := by
    obtain ⟨_, hx | ⟨g, cap, cur, e, _⟩⟩ := hown'
    · omega
    · exact ⟨g, cap, e⟩
  obtain ⟨g, cap, rfl⟩ := hsh
  exact h g cap w' (hown'.lt g rfl).1 hown' hgr

/-- What is owned, nil or not, holds its bytes. -/
theorem owned_block {w : World} {base n cap : Nat} {a : Option Addr} {xs : List Value} (h : w.ownsRow base 5 1 (.slice a n cap) n xs) : ∀ k, (Value.slice a n cap).ownBlock = some k → base ≤ k := fun k hk => (h.lt k hk).1
end Go.Proofs.YtmddcdaodlnnhaaGreatDoor
