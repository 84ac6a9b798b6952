/-
  Start of package disk. Conditions: those that each theorem names.
-/
import Derived.Test.YtmddcdaodlnnhaaGreatDoorVDKZ
namespace Go.Proofs.YtmddcdaodlnnhaaGreatDoor
open Go.RowKit Go.Maps
set_option linter.unusedVariables false
section
variable {m T T' : Nat} {w w' W X Y : World} {d B : Nat} {fs : List Fx} {off arm : Bool} {ah pa : Int}
set_option maxRecDepth 100000 in
set_option maxHeartbeats 4000000 in
theorem dkstart_ok (h : Dk m T w d B fs off arm ah pa) (hT : T < 1099511627776) {ko : Option Addr} {kn kc : Nat} {ks : List Int} (hks : IntsAt w ko kn kc ks) (hko : ∀ a, ko = some a ∧ 0 < kn → ¬ OD d B fs a.block) :
    Calls Tryz.prog 15 #[.pointer (some ⟨d, 0, none⟩), .slice ko kn kc] w fun e w' => e = .returned (.tuple #[]) ∧ ∃ fs', fs'.map pl = startL (fs.map pl) ks ∧ Dk m T w' d B fs' false false ah pa ∧ Stp (OD d B fs) w (OD d B fs') w' := by
  have HN := hid (names_ok h (by omega))
  have HD := hid h
  have hlt := node_lt h.blk
  have hfew := h.few
  have hnew : ∀ g, w.heap.size ≤ g → ¬ OD d B fs g := fun g hg e => by have := (h.lt g e).2; omega
  obtain ⟨N, hN⟩ : ∃ N, N = fs.length := ⟨_, rfl⟩
  clear h
  go_enter Tryz.func15, Tryz.ntmps15
  go_wp2_with fail
  refine HN.out.mono ?_
  rintro e w2 ⟨v, rfl, hrow, hbw⟩
  have hrow' : w2.ownsRow w.heap.size 9 1 v (fs.map Fx.n).length ((fs.map Fx.n).map encStr) := by rw [List.length_map, List.map_map]; exact hrow
  obtain ⟨so, cp, rfl, hso, hcp, hcs⟩ := names_at hrow'
  rw [List.length_map, ← hN] at hcp
  have hln : (fs.map Fx.n).length = N := by rw [List.length_map, hN]
  simp only [List.length_map, ← hN]
  have HCe : Hid (0 < N → ∃ g, so = some ⟨g, 0, none⟩ ∧ ¬ OD d B fs g ∧ g < w2.heap.size ∧ ∀ i (h : i < fs.length), w2.cell? ⟨g, i, none⟩ = some (.string ⟨fs[i].n.toArray⟩)) := hid fun h0 => by
    obtain ⟨g, a1, a2, a3, _, a5⟩ := hcs (by rw [hln]; exact h0)
    exact ⟨g, a1, hnew g a2, a3, fun i hi => by have := a5 i (by simpa using hi); simpa using this⟩
  have hD2 := HD.out.below hbw
  have HKs : Hid (IntsAt w2 ko kn kc ks) := hid (hks.below hbw)
  have HKo := hid hko
  have HL0 : Hid (SI m T w2 d B fs off arm ah pa ks 0 w2) := ⟨fs, (mixL_zero _ _).symm, hD2, Stp.refl _ _⟩
  have HNl := hid hN
  have HB2 := hid hbw
  have hNT : N < 1099511627776 := by omega
  have HkI : Hid (∀ x ∈ ks, inI x) := hid hks.2.2.1
  have HkL := hid hks.1
  clear HN hrow hrow' hbw hN hcs hfew hln hks hko hnew hD2
  go_wp2_with fail
  go_loopw [11] (fun i wr => ∃ j : Nat, j ≤ N ∧ i = .int .i64 (j : Int) ∧ Hid (SI m T w2 d B fs off arm ah pa ks j wr)) (fun i _ => N - (intOf i).toNat)
  case atStart => exact ⟨0, Nat.zero_le _, rfl, HL0⟩
  case round =>
    obtain ⟨j, hj, rfl, HR⟩ := hrel
    clear HL0
    by_cases hjn : j < N
    · have hjI : (j : Int) < (N : Int) := by omega
      have hjs : j < fs.length := by rw [← HNl.out]; exact hjn
      obtain ⟨fs', e1, hD, hS⟩ := HR.out
      obtain ⟨g, rfl, hg0, hgl, hcs⟩ := HCe.out (by omega)
      have hcell := (World.cell?_of_block (w := w2) (a := ⟨g, j, none⟩) (hS.kx.block g hgl hg0)).trans (hcs j hjs)
      have hgr := Nat.lt_of_lt_of_le hgl hS.kx.size
      obtain ⟨cm, _⟩ := (five_cells hD.blk).1
      have dlt := node_lt hD.blk
      have hjP : j < (fs.map pl).length := by rw [List.length_map]; exact hjs
      have hjF : j < fs'.length := by have := congrArg List.length e1; rw [List.length_map, mixL_len _ _ _ (by omega), List.length_map] at this; omega
      have hpf : pl fs'[j] = pl fs[j] := by
        have h1 : (fs'.map pl)[j]'(by rw [List.length_map]; exact hjF) = (mixL (fs.map pl) ks j)[j]'(by rw [mixL_len _ _ _ (by omega)]; exact hjP) := by simp only [e1]
        rw [mixL_at _ _ _ hjP] at h1
        simpa using h1
      obtain ⟨f, hfj⟩ : ∃ f, f = fs'[j] := ⟨_, rfl⟩
      rw [← hfj] at hpf
      have hfm : f ∈ fs' := by rw [hfj]; exact List.getElem_mem hjF
      have hfn : f.n = fs[j].n := congrArg Pf.n hpf
      have hok := hD.ok f hfm
      have hbd := hD.bd f hfm
      obtain ⟨sn, hsn⟩ : ∃ sn : ByteArray, sn = ⟨fs[j].n.toArray⟩ := ⟨_, rfl⟩
      have hsl : sn.data.toList = f.n := by rw [hsn, hfn]
      have hss : sn.size ≤ 32 := by
        have e1 : sn.size = sn.data.toList.length := by rw [Array.length_toList]; rfl
        rw [e1, hsl]; exact hok.nl
      have hlk := hD.mp.look (x := sn) (by unfold maxLen; omega)
      unfold lookV at hlk
      rw [hsl, show fnd fs' f.n = some f from fnd_mem hD.mp.1 hfm] at hlk
      replace hlk : (Instr.lookup 57 (.map (some B)) (.string sn) false).run Tryz.prog wr = .ok (.pointer (some ⟨f.p, 0, none⟩)) wr := hlk
      rw [← hsn] at hcell
      obtain ⟨⟨c0, c1⟩, g0, g1⟩ := two_cells hok.blk
      have flt := node_lt hok.blk
      have hbl : f.b.length = f.k := hok.len
      have hkb := stK_le (f := pl f) ks[j]? (by show f.s ≤ f.b.length; rw [hbl]; exact hok.sk)
      obtain ⟨k, hk⟩ : ∃ k, k = stK (pl f) ks[j]? := ⟨_, rfl⟩
      rw [← hk] at hkb
      have hk1 : f.s ≤ k := hkb.1
      have hk2 : k ≤ f.k := by rw [← hbl]; exact hkb.2
      have HCut : Hid (∀ q, (q = 0 ∨ q = 1) → Calls Tryz.prog 35 #[.pointer (some ⟨f.p, 0, none⟩), .int .i64 (k : Int)] (wr.drewN q) fun e X => e = .returned (.tuple #[]) ∧ (X.cell? ⟨f.p, 1, none⟩).isSome = true ∧ X.frozen? ⟨f.p, 1, none⟩ = false ∧ f.p < X.heap.size ∧ SI m T w2 d B fs off arm ah pa ks (j + 1) (X.setCell ⟨f.p, 1, none⟩ (.int .i64 (k : Int)))) := hid fun q hq => by
        have hbq : Below wr.heap.size wr (wr.drewN q) := below_drewN (Below.refl _ _) q
        refine (dkcut_ok (hD.below hbq) hfm k hk2 hT).mono ?_
        rintro e X ⟨rfl, f1, q1, q2, q3, q4, q5, q6, q7, q8⟩
        obtain ⟨⟨x0, x1⟩, y0, y1⟩ := two_cells q8
        exact ⟨rfl, by rw [x1]; rfl, y1, node_lt q8, SI.next hjs e1 hD hS hfm hpf hk q1 q2 q4 q5 q6 ((Stp.below hbq).trans q7) q8⟩
      have hnk := HkL.out
      have hKr := HKs.out.kxA hS.kx HKo.out
      by_cases hjk : j < kn
      · have hjK : (j : Int) < (kn : Int) := by omega
        have hjl : j < ks.length := by rw [hnk]; exact hjk
        have hkx : ks[j]? = some ks[j] := List.getElem?_eq_getElem hjl
        obtain ⟨kg, koff, rfl, hkg, hkcs⟩ := hKr.2.2.2.2 (by omega)
        have kcell := hkcs j hjl
        have hxI := HkI.out ks[j] (List.getElem_mem hjl)
        obtain ⟨x, hx⟩ : ∃ x, x = ks[j] := ⟨_, rfl⟩
        rw [← hx] at kcell hxI hkx
        rw [hkx] at hk
        obtain ⟨r, hr⟩ : ∃ r : Nat, r = (x % ((f.k : Int) - (f.s : Int) + 1)).toNat := ⟨_, rfl⟩
        have m1 := Int.emod_nonneg x (show ((f.k : Int) - (f.s : Int) + 1) ≠ 0 by omega)
        have m2 := Int.emod_lt_of_pos x (show (0 : Int) < (f.k : Int) - (f.s : Int) + 1 by omega)
        have hxr : x % ((f.k : Int) - (f.s : Int) + 1) = (r : Int) := by omega
        have hkr : k = f.s + r := by
          rw [hk, hr]
          unfold stK
          simp only
          show f.s + (x % (((f.b.length - f.s : Nat) : Int) + 1)).toNat = _
          rw [hbl]
          congr 3
          omega
        have HMd : Hid (∀ W : World, Calls Tryz.prog 34 #[.int .i64 x, .int .i64 ((f.k : Int) - (f.s : Int) + 1)] W fun e w' => e = .returned (.int .i64 (r : Int)) ∧ w' = W) := hid fun W => by
          have := modulo_ok x ((f.k : Int) - (f.s : Int) + 1) W hxI (by omega) (by omega)
          rwa [hxr] at this
        have v1 : IntKind.i64.wrap ((f.k : Int) - (f.s : Int)) = (f.k : Int) - (f.s : Int) := by rw [IntKind.wrap_i64]; omega
        have v2 : IntKind.i64.wrap ((f.k : Int) - (f.s : Int) + 1) = (f.k : Int) - (f.s : Int) + 1 := by rw [IntKind.wrap_i64]; omega
        have v3 : IntKind.i64.wrap ((f.s : Int) + (r : Int)) = (k : Int) := by rw [IntKind.wrap_i64]; omega
        obtain ⟨V, hV⟩ : ∃ V, V = wr.drew := ⟨_, rfl⟩
        have HS0 : Hid ((fun Z : World => Z.cell? ⟨f.p, 0, none⟩ = some (.slice f.o f.k f.c) ∧ Z.cell? ⟨f.p, 1, none⟩ = some (.int .i64 (f.s : Int)) ∧ Z.cell? ⟨kg, koff + j, none⟩ = some (.int .i64 x) ∧ f.p < Z.heap.size ∧ kg < Z.heap.size) V) := hid (by rw [hV]; exact ⟨c0, c1, kcell, flt, hkg⟩)
        have HCu : Hid (Calls Tryz.prog 35 #[.pointer (some ⟨f.p, 0, none⟩), .int .i64 (k : Int)] V fun e X => e = .returned (.tuple #[]) ∧ (X.cell? ⟨f.p, 1, none⟩).isSome = true ∧ X.frozen? ⟨f.p, 1, none⟩ = false ∧ f.p < X.heap.size ∧ SI m T w2 d B fs off arm ah pa ks (j + 1) (X.setCell ⟨f.p, 1, none⟩ (.int .i64 (k : Int)))) := hid (by rw [hV]; exact HCut.out 1 (.inr rfl))
        clear e1 hD hS hcs hpf hfm hfn hok hbd hsl hss hsn hbl hkb hk hk1 hk2 HCut hKr hkx hkcs hxI hr m1 m2 hxr hkr hx hfj hjP hjF HR
        obtain ⟨fn, fp, fo, fk, fc, fb, fs0⟩ := f
        dsimp only at *
        go_wp2_with fail
        refine region_L 99 (fun Z : World => Z.cell? ⟨fp, 0, none⟩ = some (.slice fo fk fc) ∧ Z.cell? ⟨fp, 1, none⟩ = some (.int .i64 (fs0 : Int)) ∧ Z.cell? ⟨kg, koff + j, none⟩ = some (.int .i64 x) ∧ fp < Z.heap.size ∧ kg < Z.heap.size) (by kernel_rfl) (by rw [← hV]; exact HS0.out) (fun hHeld => ?_)
        rw [← hV] at hHeld ⊢
        clear hV cm hlk hcell c0 c1 kcell
        refine anyT 0 hHeld ?_
        refine anyT 1 hHeld ?_
        refine anyT 2 hHeld ?_
        refine anyT 3 hHeld ?_
        refine anyT 4 hHeld ?_
        refine anyT 5 hHeld ?_
        refine anyT 6 hHeld ?_
        refine anyT 7 hHeld ?_
        refine anyT 8 hHeld ?_
        refine anyT 9 hHeld ?_
        refine anyT 10 hHeld ?_
        refine anyT 11 hHeld ?_
        refine anyT 12 hHeld ?_
        refine anyT 13 hHeld ?_
        refine anyT 14 hHeld ?_
        refine anyT 15 hHeld ?_
        (try simp only [Act.put, List.setIfInBounds_toArray, List.set_cons_zero, List.set_cons_succ])
        clear hHeld
        refine anyO 16 (fun K hK => ?_)
        go_simp
        refine (HMd.out _).mono ?_
        rintro e Z ⟨rfl, rfl⟩
        clear HMd
        go_simp
        refine hK.out _ _ HS0.out ?_
        clear hK K
        (try simp only [Act.put, List.setIfInBounds_toArray, List.set_cons_zero, List.set_cons_succ])
        have hHeld := HS0.out
        refine anyT 17 hHeld ?_
        refine anyT 18 hHeld ?_
        refine ⟨by kernel_rfl, ?_⟩
        clear hHeld HS0
        (try simp only [Act.put, List.setIfInBounds_toArray, List.set_cons_zero, List.set_cons_succ])
        go_wp2_with (first
          | (go_at_call 35; refine HCu.out.mono ?_; rintro e X ⟨rfl, q1, q2, q3, q4⟩; obtain ⟨ov, q1⟩ := Option.isSome_iff_exists.1 q1; have HX := hid q4; clear q4 HCu))
        exact ⟨⟨j + 1, by omega, by go_num, HX.out⟩, by simp [intOf]; omega⟩
      · have hjK : ¬ (j : Int) < (kn : Int) := by omega
        have hjd : decide ((j : Int) < (kn : Int)) = false := by simpa using hjK
        have hjd2 : decide (j < kn) = false := by simpa using hjk
        have hkx : ks[j]? = none := List.getElem?_eq_none (by omega)
        rw [hkx] at hk
        have hkr : k = f.s := by rw [hk]; unfold stK; simp only; rfl
        have HCu : Hid (Calls Tryz.prog 35 #[.pointer (some ⟨f.p, 0, none⟩), .int .i64 (f.s : Int)] wr fun e X => e = .returned (.tuple #[]) ∧ (X.cell? ⟨f.p, 1, none⟩).isSome = true ∧ X.frozen? ⟨f.p, 1, none⟩ = false ∧ f.p < X.heap.size ∧ SI m T w2 d B fs off arm ah pa ks (j + 1) (X.setCell ⟨f.p, 1, none⟩ (.int .i64 (f.s : Int)))) := hid (by have := HCut.out 0 (.inl rfl); rw [hkr] at this; exact this)
        clear e1 hD hS hcs hpf hfm hfn hok hbd hsl hss hsn hbl hkb hk hk1 hk2 HCut hKr hkx hkr hfj hjP hjF HR hjk
        obtain ⟨fn, fp, fo, fk, fc, fb, fs0⟩ := f
        dsimp only at *
        go_wp2_with (first
          | (go_at_call 35; refine HCu.out.mono ?_; rintro e X ⟨rfl, q1, q2, q3, q4⟩; obtain ⟨ov, q1⟩ := Option.isSome_iff_exists.1 q1; have HX := hid q4; clear q4 HCu))
        exact ⟨⟨j + 1, by omega, by go_num, HX.out⟩, by simp [intOf]; omega⟩
    · obtain rfl : j = N := by omega
      have hjI : ¬ (j : Int) < (j : Int) := by omega
      obtain ⟨fs', e1, hD, hS⟩ := HR.out
      rw [HNl.out, show fs.length = (fs.map pl).length by rw [List.length_map], mixL_all] at e1
      obtain ⟨⟨c0, c1, c2, c3, c4⟩, f0, f1, f2, f3, f4⟩ := five_cells hD.blk
      have hlr := node_lt hD.blk
      obtain ⟨k1, k2⟩ := hD.flags (off' := false) (arm' := false) (ah' := ah) (pa' := pa) ((Kx.set (P := fun g => g = d) (g := d) rfl (.bool false)).trans (Kx.set (P := fun g => g = d) (g := d) rfl (.bool false))) (set_in (set_in hD.blk 1 (.bool false)) 2 (.bool false))
      have HF := hid (And.intro e1 (And.intro k1 ((Stp.below HB2.out).trans (hS.trans k2))))
      clear e1 hD hS k1 k2 HR HCe HKs HKo HB2
      go_wp2_with fail
      exact bodyPost_end (v := .tuple #[]) (by simp [results, Tryz.results15, go_sem]) rfl ⟨rfl, fs', HF.out.1, HF.out.2.1, HF.out.2.2⟩
end
end Go.Proofs.YtmddcdaodlnnhaaGreatDoor
