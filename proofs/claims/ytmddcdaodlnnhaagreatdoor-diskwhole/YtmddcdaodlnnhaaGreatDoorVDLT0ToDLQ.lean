/-
  A row of acts, as an argument; the laws' own choice of one file of a row. Conditions: those that each theorem names.
  DLT1
  The laws' small case comes out right. Condition: package errors' own variable holds the handle of the type error.
-/
import Derived.Test.YtmddcdaodlnnhaaGreatDoorVDLP7ToDLS
import Derived.Test.YtmddcdaodlnnhaaGreatDoorVDLNToDLO0
import Derived.Lib.SlBytesConst
namespace Go.Proofs.YtmddcdaodlnnhaaGreatDoor
open Go.RowKit Go.Maps
set_option linter.unusedVariables false
structure RowA (m : Nat) (w : World) (a : Option Addr) (len : Nat) (xs : List Ax) : Prop where
  ln : xs.length = len
  le : len ≤ maxLen
  at' : 0 < len → ∃ g off, a = some ⟨g, off, none⟩ ∧ g < m ∧ ∀ j (h : j < xs.length), w.cell? ⟨g, off + j * 6, none⟩ = some (.int .i64 xs[j].K) ∧ w.cell? ⟨g, off + j * 6 + 1, none⟩ = some (.string xs[j].S) ∧ w.cell? ⟨g, off + j * 6 + 2, none⟩ = some (.slice xs[j].bo xs[j].b.length xs[j].bc) ∧ w.cell? ⟨g, off + j * 6 + 3, none⟩ = some (.int .i64 xs[j].N) ∧ w.cell? ⟨g, off + j * 6 + 4, none⟩ = some (.int .i64 xs[j].M) ∧ w.cell? ⟨g, off + j * 6 + 5, none⟩ = some (.slice xs[j].lo xs[j].ln xs[j].lc)
  ok : ∀ x ∈ xs, x.Ok m w
theorem RowA.below {m : Nat} {w w' : World} {a : Option Addr} {len : Nat} {xs : List Ax} (h : RowA m w a len xs) (hb : Below m w w') : RowA m w' a len xs := by
  refine ⟨h.ln, h.le, fun h0 => ?_, fun x hx => (h.ok x hx).below hb⟩
  obtain ⟨g, off, h1, h2, h3⟩ := h.at' h0
  refine ⟨g, off, h1, h2, fun j hj => ?_⟩
  have hc : ∀ k, w'.cell? ⟨g, k, none⟩ = w.cell? ⟨g, k, none⟩ := fun k => World.cell?_of_block (w := w) (a := ⟨g, k, none⟩) (hb.block g h2)
  simp only [hc]
  exact h3 j hj
/-- The one file of a name, as a row. -/
def onl (ls : List Gx) (x : Nm) : List Gx := match fnd ls x with
  | some f => [f]
  | none => []
theorem slice_F {g off n cp k : Nat} (hk : k < n) (hn : n ≤ cp) : ∀ W : World, (Instr.slice 33 (.slice (some ⟨g, off, none⟩) n cp) (some (.int .i64 (k : Int))) (some (.int .i64 ((k : Int) + 1))) none).run Tryz.prog W = .ok (.slice (some ⟨g, off + k * 3, none⟩) 1 (cp - k)) W := by
  obtain ⟨iT, hiT, hzT0, hzT1, hzT2⟩ := info_parts Tryz.infoFile
  intro W
  have k3 : ¬ (cp : Int) < (k : Int) + 1 := by omega
  have k4 : ¬ (k : Int) + 1 < 0 := by omega
  have k5 : ¬ (k : Int) + 1 < (k : Int) := by omega
  have k6 : ¬ (k : Int) < 0 := by omega
  have k7 : ¬ cp = k := by omega
  have k8 : ((k : Int) + 1).toNat = k + 1 := by omega
  simp [Instr.slice, run_underlying Tryz.underlying33, Instr.sliceBounds, Instr.sliceBound, asIntOf, sizeOf, typeInfo, hiT, hzT1, k3, k4, k7, k8, Addr.add_lit]
theorem wpList_slice_F {w : World} {ops : Array Oper} {rest : List Oper} {o : Oper} {a : Act} {Q : Exit → Act → World → Prop} (hgd : o.guard = none) (s x y : Operand)
    (ho : o.op = .slice 33 s (some x) (some y) none) {so : Option Addr} {n cp k : Nat} {u v : Value} (hs : a.eval s = .slice so n cp) (hx : a.eval x = .int .i64 (k : Int)) (hy : a.eval y = u)
    (hr : (Instr.slice 33 (.slice so n cp) (some (.int .i64 (k : Int))) (some u) none).run Tryz.prog w = .ok v w) (h : wpList Tryz.prog ops Q rest (a.put o.dst v) w) : wpList Tryz.prog ops Q (o :: rest) a w := by
  refine wpList_plain hgd fun K hK => ?_
  unfold Oper.wp execOp
  simp only [ho, Sem.run_bind, Sem.run_pure, Result.andThen_ok, Option.map_some, Option.map_none, hs, hx, hy, run_sliceAt_slice (h := Tryz.elemF), hr]
  exact hK _ _ h
end Go.Proofs.YtmddcdaodlnnhaaGreatDoor
namespace Go.Proofs.YtmddcdaodlnnhaaGreatDoor
open Go.RowKit Go.Maps
set_option maxRecDepth 100000 in
set_option maxHeartbeats 4000000 in
theorem only_ok {w : World} {a : Option Addr} {n cap : Nat} {ls : List Gx} (hcp : n ≤ cap) (h : RowC w a n ls) (S : ByteArray) :
    Calls Tryz.prog 20 #[.slice a n cap, .string S] w fun e w' => ∃ o k c, e = .returned (.slice o k c) ∧ (∀ X, RowC X a n ls → RowC X o k (onl ls S.data.toList)) ∧ Below w.heap.size w w' := by
  have H := hid h
  have hnI : (n : Int) ≤ 9223372036854775807 := by have := h.le; unfold maxLen at this; omega
  have hln := h.ln
  clear h
  go_enter Tryz.func20, Tryz.ntmps20
  go_wp2_with fail
  go_loopw [5] (fun i wr => ∃ k : Nat, i = .int .i64 (k : Int) ∧ k ≤ n ∧ Hid (Below w.heap.size w wr ∧ ∀ j (hj : j < ls.length), j < k → nm ls[j] ≠ S.data.toList)) (fun i _ => n - (intOf i).toNat)
  case atStart => exact ⟨0, rfl, Nat.zero_le _, Below.refl _ _, fun j _ hj => absurd hj (by omega)⟩
  case round =>
    obtain ⟨k, rfl, hk, HB⟩ := hrel
    by_cases hkn : k < n
    · have hkI : (k : Int) < (n : Int) := by omega
      have r1 := H.out.below HB.out.1
      have hk1 : k < ls.length := by rw [hln]; exact hkn
      obtain ⟨g1, o1, rfl, hg1, hc1⟩ := r1.at' (by omega)
      obtain ⟨p0, p1, p2⟩ := hc1 k hk1
      obtain ⟨sn, hsn⟩ : ∃ sn : ByteArray, sn = ⟨ls[k].n.toArray⟩ := ⟨_, rfl⟩
      rw [← hsn] at p0
      by_cases hx : sn = S
      · have hnm : nm ls[k] = S.data.toList := by rw [← hx, hsn]; rfl
        have HO : Hid (∀ X, RowC X (some ⟨g1, o1, none⟩) n ls → RowC X (some ⟨g1, o1 + k * 3, none⟩) 1 (onl ls S.data.toList)) := hid (by
          intro X hX
          have e : fnd ls S.data.toList = some ls[k] := fnd_first hk1 HB.out.2 hnm
          unfold onl
          rw [e]
          obtain ⟨g2, o2, e2, hg2, hc2⟩ := hX.at' (by omega)
          cases e2
          refine ⟨rfl, by unfold maxLen; omega, fun _ => ⟨g1, _, rfl, hg2, fun j hj => ?_⟩, fun s hs => ?_⟩
          · obtain rfl : j = 0 := by simpa using hj
            rw [Nat.zero_mul, Nat.add_zero]
            exact hc2 k hk1
          · obtain rfl : s = ls[k] := by simpa using hs
            exact hX.has _ (List.getElem_mem hk1))
        have HSl := hid (fun W => slice_F (g := g1) (off := o1) hkn hcp W)
        rw [hx] at p0
        have HB2 := hid HB.out.1
        clear hc1 r1 p1 p2 hg1 hnm hsn hx HB
        go_wp2_with fail
        go_ret
        exact ⟨_, _, _, rfl, HO.out, HB2.out⟩
      · have a1 : (sn.toList == S.toList) = false := by
          rw [Go.ByteArray.toList_eq, Go.ByteArray.toList_eq]
          refine beq_eq_false_iff_ne.2 fun e => hx ?_
          apply ByteArray.ext
          exact Array.toList_inj.1 e
        have hnx : nm ls[k] ≠ S.data.toList := fun e => hx (by rw [hsn, show ls[k].n = S.data.toList from e])
        have HN : Hid (∀ j (hj : j < ls.length), j < k + 1 → nm ls[j] ≠ S.data.toList) := hid fun j hj h => by
          rcases Nat.lt_or_eq_of_le (Nat.le_of_lt_succ h) with h | rfl
          · exact HB.out.2 j hj h
          · exact hnx
        clear hsn hnx r1 hc1 p1 p2
        go_wp2_with fail
        exact ⟨⟨k + 1, by go_num, by omega, HB.out.1, HN.out⟩, by simp [intOf]; omega⟩
    · have hkI : ¬ (k : Int) < (n : Int) := by omega
      have hkd : decide ((k : Int) < (n : Int)) = false := by simpa using hkI
      have hkd2 : decide (k < n) = false := by simpa using hkn
      have HR : Hid ((∀ X, RowC X a n ls → RowC X none 0 (onl ls S.data.toList)) ∧ Below w.heap.size w wr) := hid ⟨fun X _ => by
        have e : fnd ls S.data.toList = none := fnd_no (fun t ht => by
          obtain ⟨j, hj, rfl⟩ := List.getElem_of_mem ht
          exact HB.out.2 j hj (by omega))
        unfold onl
        rw [e]
        exact ⟨rfl, Nat.zero_le _, fun h => absurd h (by omega), by simp⟩, HB.out.1⟩
      go_wp2_with fail
      go_ret
      exact ⟨none, 0, ⟨0, rfl⟩, HR.out.1, HR.out.2⟩
end Go.Proofs.YtmddcdaodlnnhaaGreatDoor
namespace Go.Proofs.YtmddcdaodlnnhaaGreatDoor
open Go.RowKit Go.Maps
set_option linter.unusedVariables false
def aS : ByteArray := ⟨#[97]⟩
theorem sm1 : appR [] false false 0 0 aS [120, 121] = ⟨0, [⟨[97], [120, 121], 0⟩], false, false, 0⟩ := by kernel_rfl
theorem sm2 : synR [⟨[97], [120, 121], 0⟩] false false 0 0 aS = ⟨0, [⟨[97], [120, 121], 2⟩], false, false, 0⟩ := by kernel_rfl
theorem sm3 : appR [⟨[97], [120, 121], 2⟩] false false 0 0 aS [122, 119] = ⟨0, [⟨[97], [120, 121, 122, 119], 2⟩], false, false, 0⟩ := by kernel_rfl
theorem sm4 : startL [⟨[97], [120, 121, 122, 119], 2⟩] [1] = [⟨[97], [120, 121, 122], 3⟩] := by kernel_rfl
theorem sm5 : fiP false aS [⟨[97], [120, 121, 122], 3⟩] = 0 ∧ readB false aS [⟨[97], [120, 121, 122], 3⟩] = [120, 121, 122] := ⟨by kernel_rfl, by kernel_rfl⟩
theorem sm6 : appR [⟨[97], [120, 121, 122], 3⟩] false true 0 3 aS [49, 50, 51, 52, 53] = ⟨80, [⟨[97], [120, 121, 122, 49, 50, 51], 3⟩], true, false, 0⟩ := by kernel_rfl
/-- A row of bytes, newly built, with the mark of a constant's bytes. -/
theorem has_mk (w : World) (l : List UInt8) (n : Nat) (hn : l.length = n) (hm : n ≤ maxLen) : Has (w.alloc (.cells (l.map bv).toArray 5 (n, n + 1))) (some ⟨w.heap.size, 0, none⟩) n n l := by
  subst hn
  refine ⟨rfl, Nat.le_refl _, hm, fun e => (by cases e), fun h0 => ⟨w.heap.size, 0, rfl, by simp, fun i hi => ?_⟩⟩
  have h := new_block_at w (.cells (l.map bv).toArray 5 (l.length, l.length + 1)) rfl
  unfold World.cell?
  simp only [Nat.zero_add, h]
  simp [hi]
theorem Dk.bel {m T : Nat} {w w' : World} {d B : Nat} {fs fs' : List Fx} {off arm : Bool} {ah pa : Int} (h : Dk m T w d B fs off arm ah pa) (hS : Stp (OD d B fs) w (OD d B fs') w') : Below m w w' := hS.kx.to (Nat.le_trans h.md (Nat.le_of_lt (node_lt h.blk))) fun g hg => (h.lt g hg).1
set_option maxRecDepth 100000 in
set_option maxHeartbeats 16000000 in
theorem small_ok (w : World) (hE : ErrIs w) : Calls Tryz.prog 7 #[] w fun e w' => e = .returned (.bool true) ∧ Below w.heap.size w w' := by
  have HN := hid (dknew_ok w.heap.size w (Nat.le_refl _))
  have hS : aS.size ≤ 9007199254740992 := by decide
  have h00 : inI 0 := by unfold inI; omega
  have hEl := hE.lt
  have kc := fun (w : World) (C : Array Value) (n c : Nat) => Lib.run_convert_bytes_const (P := Tryz.prog) w 29 5 C n c Tryz.underlying29 Tryz.underlying5
  go_enter Tryz.func7, Tryz.ntmps7
  go_wp2_with fail
  refine HN.out.mono ?_
  rintro e w1 ⟨d, B, rfl, h1, _, _, b1⟩
  obtain ⟨w2, hw2⟩ : ∃ w2, w2 = w1.alloc (.cells #[.int .u8 120, .int .u8 121] 5 (2, 3)) := ⟨_, rfl⟩
  have hb2 : Below w1.heap.size w1 w2 := by rw [hw2]; exact below_al _ _
  have h2 := h1.below hb2
  have hp2 : Has w2 (some ⟨w1.heap.size, 0, none⟩) 2 2 [120, 121] := by rw [hw2]; exact has_mk w1 [120, 121] 2 rfl (by unfold maxLen; omega)
  have HA1 := hid (dkapp_ok h2 h00 h00 (fun e => by cases e) aS hS (by omega) hp2 (fun a e e2 => by obtain ⟨e, _⟩ := e; cases e; have := (h1.lt _ e2).2; simp at this))
  have HW2 := hid hw2
  clear hw2 HN
  go_wp2_with fail
  rw [← HW2.out]
  refine HA1.out.mono ?_
  rw [show ([] : List Fx).map pl = [] from rfl, sm1]
  rintro e w3 ⟨rfl, f3, p3, h3, s3⟩
  have bel3 : Below w.heap.size w w3 := (b1.trans (hb2.mono b1.size)).trans (h2.bel s3)
  dsimp only at p3 h3
  have HS2 := hid (dksync_ok h3 h00 h00 (fun e => by cases e) aS hS)
  rw [p3, sm2] at HS2
  have e0 : evV 0 = .nilIface := rfl
  rw [e0]
  clear HA1 HW2 hp2 hb2 h2 s3 h1 b1
  go_wp2_with fail
  refine HS2.out.mono ?_
  rintro e w4 ⟨rfl, f4, p4, h4, s4⟩
  have bel4 : Below w.heap.size w w4 := bel3.trans (h3.bel s4)
  dsimp only at p4 h4
  clear HS2 h3 bel3 s4 p3
  obtain ⟨w5, hw5⟩ : ∃ w5, w5 = w4.alloc (.cells #[.int .u8 122, .int .u8 119] 5 (2, 3)) := ⟨_, rfl⟩
  have hb5 : Below w4.heap.size w4 w5 := by rw [hw5]; exact below_al _ _
  have h5 := h4.below hb5
  have hp5 : Has w5 (some ⟨w4.heap.size, 0, none⟩) 2 2 [122, 119] := by rw [hw5]; exact has_mk w4 [122, 119] 2 rfl (by unfold maxLen; omega)
  have HA6 := hid (dkapp_ok h5 h00 h00 (fun e => by cases e) aS hS (by omega) hp5 (fun a e e2 => by obtain ⟨e, _⟩ := e; cases e; have := (h4.lt _ e2).2; simp at this))
  rw [p4, sm3] at HA6
  have HW5 := hid hw5
  have HH := hid h5
  have bel5 := bel4.trans (hb5.mono bel4.size)
  rw [e0]
  clear hw5 h4 bel4 hp5 hb5 p4 h5
  go_wp2_with fail
  rw [← HW5.out]
  refine HA6.out.mono ?_
  rintro e w6 ⟨rfl, f6, p6, h6, s6⟩
  have bel6 := bel5.trans (HH.out.bel s6)
  dsimp only at p6 h6
  clear HA6 HW5 HH bel5 s6
  rw [e0]
  obtain ⟨w7, hw7⟩ : ∃ w7, w7 = w6.alloc (.cells #[.int .i64 1] 3) := ⟨_, rfl⟩
  have hb7 : Below w6.heap.size w6 w7 := by rw [hw7]; exact below_al _ _
  have h7 := h6.below hb7
  have hk7 : IntsAt w7 (some ⟨w6.heap.size, 0, none⟩) 1 1 [1] := ⟨rfl, Nat.le_refl _, by unfold inI; simp, (fun e => by cases e), fun _ => ⟨_, _, rfl, by rw [hw7]; simp, fun i hi => by
    obtain rfl : i = 0 := by simpa using hi
    exact And.left (cell_in (by rw [hw7]; exact new_block_at w6 _ rfl) 0 _ rfl)⟩⟩
  have HT8 := hid (dkstart_ok h7 (by omega) hk7 (fun a e e2 => by obtain ⟨e, _⟩ := e; cases e; have := (h6.lt _ e2).2; simp at this))
  rw [p6, sm4] at HT8
  have bel7 := bel6.trans (hb7.mono bel6.size)
  have HW7 := hid hw7
  have HH := hid h7
  clear hw7 h6 bel6 hk7 hb7 p6 h7
  go_wp2_with fail
  rw [← HW7.out]
  refine HT8.out.mono ?_
  rintro e w8 ⟨rfl, f8, p8, h8, s8⟩
  have bel8 := bel7.trans (HH.out.bel s8)
  have HR9 := hid (dkread_ok h8 (by omega) aS hS)
  rw [p8, sm5.1, sm5.2] at HR9
  clear HT8 HW7 HH bel7 s8
  go_wp2_with fail
  refine HR9.out.mono ?_
  rintro e w9 ⟨o, n, c, rfl, hrow, hb9⟩
  have h9 := h8.below hb9
  have bel9 := bel8.trans (hb9.mono bel8.size)
  rw [e0]
  have HM10 := hid (arm_ok h9 0 3)
  have hno : ∀ a, o = some a ∧ 0 < n → ¬ OD d B f8 a.block := fun a e e2 => by
    obtain ⟨e, _⟩ := e
    subst e
    have := (h8.lt _ e2).2
    rcases hrow.2 with ⟨e3, _⟩ | ⟨g, cap, cur, e3, hg, _⟩
    · cases e3
    · cases e3
      dsimp only at this
      omega
  have HD := hid (And.intro (Has.of_owned hrow) (And.intro h9 (And.intro bel9 hno)))
  clear HR9 hrow h8 bel8 hb9 h9 bel9 hno
  go_wp2_with fail
  refine HM10.out.mono ?_
  rintro e w10 ⟨rfl, h10, s10⟩
  obtain ⟨hrow, h9, bel9, hno⟩ := HD.out
  have bel10 := bel9.trans (h9.bel s10)
  have hr10 := hrow.kxA s10.kx hno
  obtain ⟨w11, hw11⟩ : ∃ w11, w11 = w10.alloc (.cells #[.int .u8 49, .int .u8 50, .int .u8 51, .int .u8 52, .int .u8 53] 5 (5, 6)) := ⟨_, rfl⟩
  have hb11 : Below w10.heap.size w10 w11 := by rw [hw11]; exact below_al _ _
  have h11 := h10.below hb11
  have hp11 : Has w11 (some ⟨w10.heap.size, 0, none⟩) 5 5 [49, 50, 51, 52, 53] := by rw [hw11]; exact has_mk w10 [49, 50, 51, 52, 53] 5 rfl (by unfold maxLen; omega)
  have hr11 := hr10.below hb11
  have HA12 := hid (dkapp_ok h11 (by unfold inI; omega) (by unfold inI; omega) (fun _ => by omega) aS hS (by omega) hp11 (fun a e e2 => by obtain ⟨e, _⟩ := e; cases e; have := (h10.lt _ e2).2; simp at this))
  rw [p8, show decide ((0 : Int) ≤ 0) = true from rfl, sm6] at HA12
  have bel11 := bel10.trans (hb11.mono bel10.size)
  have HW11 := hid hw11
  have HH := hid (And.intro h11 (And.intro hr11 (And.intro bel11 hno)))
  clear HM10 HD hrow h9 bel9 hno h10 s10 bel10 hr10 hb11 h11 hp11 hr11 bel11 hw11
  go_wp2_with fail
  rw [← HW11.out]
  refine HA12.out.mono ?_
  rintro e w12 ⟨rfl, f12, p12, h12, s12⟩
  obtain ⟨h11, hr11, bel11, hno⟩ := HH.out
  have bel12 := bel11.trans (h11.bel s12)
  have hr12 := hr11.kxA s12.kx hno
  have HDn := hid (down_ok h12)
  have HCd := hid (code_ev 80 w12 (hE.below bel12 hE.lt))
  have HB12 := hid bel12
  have HR12 := hid hr12
  clear HA12 HW11 HH h11 hr11 bel11 hno h12 s12 bel12 hr12
  dsimp only
  go_wp2_with fail
  refine HDn.out.mono ?_
  rintro e w13 ⟨rfl, rfl⟩
  have cv : (convert 29 9 (.slice o n c)).run Tryz.prog w13 = .ok (.string ⟨#[120, 121, 122]⟩) w13 := HR12.out.conv
  go_wp2_with fail
  refine HCd.out.mono ?_
  rintro e w14 ⟨rfl, hb14⟩
  have HF := hid (HB12.out.trans (hb14.mono HB12.out.size))
  clear HB12 hb14
  go_wp2_with fail
  go_ret
  exact ⟨rfl, HF.out⟩
end Go.Proofs.YtmddcdaodlnnhaaGreatDoor
