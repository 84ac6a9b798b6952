/-
  act, the laws' own: an act on both tables. Conditions: those that each theorem names.
-/
import Derived.Test.YtjhclpionimjbaaDoorZTl
import Derived.Test.YtjhclpionimjbaaDoorZXg
import Derived.Test.YtjhclpionimjbaaDoorLent
namespace Go.Proofs.YtjhclpionimjbaaDoor
open Go.RowKit Go.Maps
set_option linter.unusedVariables false
theorem rise_key {a b : List Sx} (h : a.map key = b.map key) (hr : Rise a) : Rise b := by
  have e : b.map Sx.i = a.map Sx.i := by
    have := congrArg (List.map fun k : Int × Int × Int × List UInt8 => k.1) h
    simpa [List.map_map, Function.comp_def, key] using this.symm
  have h1 : (a.map Sx.i).Pairwise (· < ·) := by rw [List.pairwise_map]; exact hr
  rw [← e, List.pairwise_map] at h1
  exact h1
/-- Both tables say the same. -/
structure PX (m tb B xb : Nat) (E : Int) (W : World) : Prop where
  st : ∃ v l l2 ck, Tb W tb B l ck ∧ Xt W m xb v l2 ck ∧ l.map key = l2.map key ∧ ∃ E', IU l ck E' ∧ E' ≤ E
theorem Tb.nt {w : World} {tb B : Nat} {l : List Sx} {ck : Int} (h : Tb w tb B l ck) : ∀ g, g < w.heap.size → own2 tb B g → NoT w g := by
  rintro g _ (rfl | rfl)
  · exact NoT.cells h.blk (by decide)
  · obtain ⟨_, es, k, h1, _⟩ := h.m
    intro c e
    rw [h1] at e
    cases e
theorem Tb.ge {w : World} {tb B : Nat} {l : List Sx} {ck : Int} (h : Tb w tb B l ck) {m : Nat} (h1 : m ≤ tb) (h2 : m ≤ B) : ∀ g, own2 tb B g → m ≤ g := by
  rintro g (rfl | rfl)
  · exact h1
  · exact h2
/-- Two steps: the real table's, and the document's. -/
theorem two_step {w w2 w3 : World} {m tb B xb : Nat} {v : Value} {l l2 l' : List Sx} {ck ck' : Int} (hT : Tb w tb B l ck) (hX : Xt w m xb v l2 ck) (hT2 : Tb w2 tb B l' ck') (hk2 : Kx (own2 tb B) w w2) (hX2 : Xt w2 m xb v l2 ck) (hk3 : Kx (ownX xb v) w2 w3) : Tb w3 tb B l' ck' := by
  have ha := apart_tx hX2 hT2
  exact hT2.kx hk3 hX2.nor (fun e => ha _ e (.inl rfl)) (fun e => ha _ e (.inr rfl))
theorem Xt.other {w w2 : World} {m tb B xb : Nat} {v : Value} {l l2 : List Sx} {ck c2 : Int} (hX : Xt w m xb v l2 ck) (hT : Tb w tb B l c2) (hk : Kx (own2 tb B) w w2) : Xt w2 m xb v l2 ck :=
  hX.kx hk hT.nt (apart_tx hX hT)
theorem Tb.owned {wa w4 : World} {m tb B g c : Nat} {l : List Sx} {ck : Int} (h : Tb wa tb B l ck) (hO : OwnK (some ⟨g, 0, none⟩) wa w4) (hf : Fr m wa (some ⟨g, 0, none⟩) c) (hr : ∀ s ∈ l, 0 < s.n → ∀ off sp, s.o ≠ some ⟨g, off, sp⟩) : Tb w4 tb B l ck := by
  have hB : w4.heap[B]? = wa.heap[B]? := by
    obtain ⟨_, es, q, hB, _⟩ := h.m
    exact (hO.notT hf hB (fun cur e => by rw [hB] at e; cases e)).trans hB.symm
  refine ⟨hO.notT hf h.blk (NoT.cells h.blk (by decide)), h.m.same hB, h.few, fun s hs => ?_, h.ckI⟩
  have ho := h.ok s hs
  refine ⟨ho.id1, ho.id2, ho.la, ho.us, ?_, ho.fr.imp (fun e => e) (fun e => hO.fr e), ho.sh⟩
  obtain ⟨h1, h2, h3, h4, h5⟩ := ho.has
  refine ⟨h1, h2, h3, h4, fun h0 => ?_⟩
  obtain ⟨g', off, ha, hlt, hc⟩ := h5 h0
  have hne : g' ≠ g := fun e => hr s hs h0 off none (by rw [ha, e])
  exact ⟨g', off, ha, Nat.lt_of_lt_of_le hlt hO.size, fun i hi => (World.cell?_of_block (w := wa) (hO.blk g' hlt (fun e => hne (by cases e; rfl)))).trans (hc i hi)⟩
def BS (b0 : Nat) (a b : Int) (r : Value) (X : World) : Prop := X.cell? ⟨b0, 1, none⟩ = some (.int .i64 a) ∧ X.cell? ⟨b0, 2, none⟩ = some (.int .i64 b) ∧ X.cell? ⟨b0, 3, none⟩ = some r ∧ b0 < X.heap.size
theorem BS.below {b0 : Nat} {a b : Int} {r : Value} {X Y : World} (h : BS b0 a b r X) (hb : Below X.heap.size X Y) : BS b0 a b r Y :=
  ⟨(hb.cell (p := ⟨b0, 1, none⟩) h.2.2.2).trans h.1, (hb.cell (p := ⟨b0, 2, none⟩) h.2.2.2).trans h.2.1, (hb.cell (p := ⟨b0, 3, none⟩) h.2.2.2).trans h.2.2.1, Nat.lt_of_lt_of_le h.2.2.2 hb.size⟩
theorem BS.kx {b0 : Nat} {a b : Int} {r : Value} {X Y : World} {L : Nat → Prop} (h : BS b0 a b r X) (hk : Kx L X Y) (hn : ¬ L b0) : BS b0 a b r Y :=
  ⟨(World.cell?_of_block (w := X) (hk.block b0 h.2.2.2 hn)).trans h.1, (World.cell?_of_block (w := X) (hk.block b0 h.2.2.2 hn)).trans h.2.1, (World.cell?_of_block (w := X) (hk.block b0 h.2.2.2 hn)).trans h.2.2.1, Nat.lt_of_lt_of_le h.2.2.2 hk.size⟩
def AcR (m tb B xb : Nat) (E : Int) (w : World) (e : Ending) (w' : World) : Prop := e = .returned (.bool true) ∧ Below m w w' ∧ PX m tb B xb (E + 1) w'
set_option maxRecDepth 100000 in
set_option maxHeartbeats 16000000 in
theorem act_ok {w : World} {m tb B xb : Nat} {v : Value} {l l2 : List Sx} {ck E : Int} (hE : ErrIs w) (hEm : 0 < m) (hT : Tb w tb B l ck) (hX : Xt w m xb v l2 ck) (he : l.map key = l2.map key) (hU : IU l ck E) (hE2 : E < 18446744073709550000) (htm : m ≤ tb) (hBm : m ≤ B) (s : Sx) (h1 : inI s.i) (h2 : inI s.l) (h3 : inI s.u) (hb : Has w s.o s.n s.c s.b) (hlow : 0 < s.n → ∀ g off sp, s.o = some ⟨g, off, sp⟩ → g < m) (hn : s.n ≤ 140737488355327) :
    Calls Tryd.prog 13 #[.pointer (some ⟨tb, 0, none⟩), .pointer (some ⟨xb, 0, none⟩), sxv s] w (AcR m tb B xb E w) := by
  obtain ⟨w1, hw1⟩ : ∃ w1, w1 = w.alloc (.cells #[.int .i64 s.i, .int .i64 s.l, .int .i64 s.u, .slice s.o s.n s.c] 42) := ⟨_, rfl⟩
  have hb1 : Below w.heap.size w w1 := by rw [hw1]; exact below_al w _
  have hT1 := hT.below hb1
  have hX1 := hX.below hb1
  have hms := hX.ms
  have HOx : Hid (¬ ownX xb v w.heap.size) := fun e => by
    rcases e with e | e
    · have := node_lt hX.blk
      omega
    · have := (row_not hX.row.own _ e).2.2
      omega
  have HM := hid (And.intro hX.ms (And.intro htm hBm))
  have HO := hid (open_ok hT1 s.l h2)
  have HA := hid (ask_ok hT1 s.l s.u h2 h3)
  have HE1 := hid (hE.below hb1 hE.lt)
  have HB1 : Hid (Below m w w1) := hb1.mono hms
  have HT1 := hid hT1
  have HX1 := hid hX1
  have HKU := hid (And.intro he (And.intro hU hE2))
  have HCe := hid (fun (c : Int) (X : World) (hk : Below m w1 X) => code_errno c X (HE1.out.below hk hEm))
  have HH1 := hid (hb.below hb1)
  have HLow := hid (And.intro hlow hn)
  have HI := hid (And.intro h2 h3)
  have hq : w1.heap[w.heap.size]? = some (.cells #[.int .i64 s.i, .int .i64 s.l, .int .i64 s.u, .slice s.o s.n s.c] 42) := by rw [hw1]; exact new_block_at w _ rfl
  have HQ : Hid (∀ X, Kx (own2 tb B) w1 X → X.heap[w.heap.size]? = some (.cells #[.int .i64 s.i, .int .i64 s.l, .int .i64 s.u, .slice s.o s.n s.c] 42)) := fun X hk => (hk.block _ (node_lt hq) (fun e => by
    rcases e with e | e
    · have := hT1.blk
      rw [← e, hq] at this
      cases this
    · obtain ⟨_, es, q, hB, _⟩ := hT1.m
      rw [← e, hq] at hB
      cases hB)).trans hq
  have HW := hid hw1
  rw [hw1] at HO HA
  clear hE hT hX he hU hE2 htm hBm hb hlow hb1 hT1 hX1 hq hw1 h1 h2 h3 hms
  by_cases d0 : s.i = 0
  · generalize hsi : s.i = si at *
    subst d0
    go_enter Tryd.func13, Tryd.ntmps13
    go_wp2_with fail
    refine HO.out.mono ?_
    rintro e w2 ⟨l', ck', d, er, rfl, hR, hT2, hk2⟩
    rw [← HW.out] at hk2
    have hX2 := HX1.out.other HT1.out hk2
    have HXo := hid (openx_ok hX2 (rise_key HKU.out.1 HT1.out.m.1) s.l HI.out.1)
    have q2 := HQ.out w2 hk2
    have s1 := (cell_in q2 1 _ rfl).1
    have H2 := hid (And.intro hR (And.intro hT2 (And.intro hk2 hX2)))
    clear hR hT2 hk2 hX2 q2 HO HA HH1 HLow HQ HW
    go_wp2_with fail
    refine HXo.out.mono ?_
    rintro e w3 ⟨l2', ck2, d2, er2, v', rfl, hR2, hX3, hk3⟩
    obtain ⟨hR, hT2, hk2, hX2⟩ := H2.out
    obtain ⟨e1, e2, e3, e4⟩ := open_key HKU.out.1 HKU.out.2.1 HT1.out.m.1 hR hR2
    subst e1 e2 e3
    have hT3 := two_step HT1.out HX1.out hT2 hk2 hX2 (hk3.wide (fun g e => .inl e))
    have hbl : Below m w1 w3 := (hk2.to HX1.out.ms (HT1.out.ge HM.out.2.1 HM.out.2.2)).trans (hk3.to hX2.ms (fun g e => by rw [e]; exact hX2.le))
    obtain ⟨E', hU', hE'⟩ := HKU.out.2.1.open HKU.out.2.2 hR
    have HP : Hid (∀ X, Below w3.heap.size w3 X → Below m w X ∧ PX m tb B xb (E + 1) X) := fun X hX => ⟨HB1.out.trans (hbl.trans (hX.mono hX3.ms)), ⟨v', l', l2', ck', hT3.below hX, hX3.below hX, e4, E', hU', hE'⟩⟩
    have HBl := hid hbl
    have her := open_er hR
    clear hR hR2 hT2 hk2 hX2 hX3 hk3 hT3 hbl hU' hE' e4 H2 HXo s1
    rcases her with rfl | rfl
    · have hc : cdE .nilIface = 0 := rfl
      have HCn := hid (code_nil w3)
      go_wp2_with fail
      refine HCn.out.mono ?_
      rintro e w4 ⟨rfl, rfl⟩
      have HF := hid (HP.out _ (Below.refl _ _))
      clear HP HCn HCe HBl
      go_wp2_with fail
      go_ret
      exact ⟨rfl, HF.out.1, HF.out.2⟩
    · have hc : cdE (errv 1) = 1 := rfl
      have HC1 := hid (HCe.out 1 w3 HBl.out)
      go_wp2_with fail
      unfold errv
      go_wp2_with fail
      refine HC1.out.mono ?_
      rintro e w4 ⟨rfl, hb4⟩
      have HF := hid (HP.out _ hb4)
      clear HP HC1 HCe HBl hb4
      go_wp2_with fail
      go_ret
      exact ⟨rfl, HF.out.1, HF.out.2⟩
  · by_cases d1 : s.i = 1
    · have HAx := hid (fun X (hX : Xt X m xb v l2 ck) => askx_ok hX s.l s.u)
      obtain ⟨ek, eb⟩ := ask_key HKU.out.1 s.l s.u
      rw [← ek, ← eb] at HAx
      generalize hsi : s.i = si at *
      subst d1
      go_enter Tryd.func13, Tryd.ntmps13
      go_wp2_with fail
      refine HA.out.mono ?_
      rintro e w2 ⟨o2, n2, c2, rfl, hh, hf2, hb2⟩
      rw [← HW.out] at hb2 hf2
      have q2 := HQ.out w2 (.below hb2)
      have s1 := (cell_in q2 1 _ rfl).1
      have s2 := (cell_in q2 2 _ rfl).1
      have HAx2 := hid (HAx.out w2 (HX1.out.below hb2))
      have H2 := hid (And.intro hh (And.intro hf2 hb2))
      clear q2 hh hf2 hb2 HO HA HH1 HLow HQ HW HAx HCe ek eb
      generalize askK l s.l s.u = K0 at *
      generalize askB l s.l s.u = B0 at *
      go_wp2_with fail
      refine HAx2.out.mono ?_
      rintro e w3 ⟨o3, n3, c3, rfl, hh3, hf3, hb3⟩
      obtain ⟨hh, hf2, hb2⟩ := H2.out
      have hhb := hh.below hb3
      have v1 := hhb.conv
      have v2 := hh3.conv
      have hf23 := hf2.below hb3
      have hb13 : Below w1.heap.size w1 w3 := hb2.trans (hb3.mono hb2.size)
      have hn2 := hhb.2.1
      obtain ⟨wa, hwa⟩ : ∃ wa, wa = w3.alloc (.cells #[.slice o2 n2 c2] 40) := ⟨_, rfl⟩
      have hba : Below w3.heap.size w3 wa := by rw [hwa]; exact below_al w3 _
      have hga : wa.heap[w3.heap.size]? = some (.cells #[.slice o2 n2 c2] 40) := by rw [hwa]; exact new_block_at w3 _ rfl
      have HCall := hid (one_owned (hf23.below hba) hn2 (cell_in hga 0 _ rfl).1 (NoT.cells hga (by decide)))
      have hb1a : Below w1.heap.size w1 wa := hb13.trans (hba.mono hb13.size)
      have HP : Hid (∀ X, OwnK o2 wa X → Below m w X ∧ PX m tb B xb (E + 1) X) := fun X hO => by
        have hbX : Below w1.heap.size w1 X := hb1a.trans (hO.below (hf23.below hba) hb1a.size)
        exact ⟨HB1.out.trans (hbX.mono HX1.out.ms), ⟨v, l, l2, ck, HT1.out.below hbX, HX1.out.below hbX, HKU.out.1, E, HKU.out.2.1, by omega⟩⟩
      have HWa := hid hwa
      clear hh hf2 hb2 hhb hf23 hb13 hn2 hba hga hb1a hwa hh3 hf3 hb3 H2 HAx2 s1 s2
      generalize bs B0 = T at *
      go_wp2_with fail
      rw [← HWa.out]
      refine HCall.out.mono ?_
      rintro e w4 ⟨rfl, hO⟩
      have HF := hid (HP.out _ hO)
      clear hO HP HCall HWa v1 v2
      go_wp2_with fail
      go_ret
      exact ⟨rfl, HF.out.1, HF.out.2⟩
    · have a0 : (s.i == 0) = false := by simpa using d0
      have a1 : (s.i == 1) = false := by simpa using d1
      have hln : s.b.length = s.n := HH1.out.1
      have HLe := hid (lent_any s.o s.n s.c s.b w1 HH1.out HLow.out.2)
      have q1 := HQ.out w1 (Kx.refl _ _)
      have HQ1 := hid (show BS w.heap.size s.l s.u (.slice s.o s.n s.c) w1 from ⟨(cell_in q1 1 _ rfl).1, (cell_in q1 2 _ rfl).1, (cell_in q1 3 _ rfl).1, node_lt q1⟩)
      have HLn := hid hln
      rw [HW.out] at HLe
      clear HO HA q1 hln
      generalize hsi : s.i = si at *
      go_enter Tryd.func13, Tryd.ntmps13
      go_wp2_with fail
      refine HLe.out.mono ?_
      rintro e w2 ⟨rfl, hL2, hb2⟩
      rw [← HW.out] at hL2 hb2 ⊢
      have hg2 : w1.heap.size < w2.heap.size := hL2.lt
      have hT2 := HT1.out.below hb2
      have hhL : Has w2 (some ⟨w1.heap.size, 0, none⟩) s.n (s.n + 1) s.b := by
        have := hL2.has (by have h1 := HLow.out.2; have h2 := HLn.out; unfold maxLen; omega)
        rw [HLn.out] at this
        exact this
      have HN := hid (note_ok hT2 s.l s.u HI.out.1 HI.out.2 _ _ _ s.b hhL (by have := HLow.out.2; omega))
      obtain ⟨z1, z2, z3, z4⟩ := HQ1.out.below hb2
      have H2 := hid (And.intro hL2 (And.intro hb2 (And.intro hg2 hT2)))
      clear hL2 hb2 hg2 hT2 hhL HLe
      go_wp2_with fail
      refine HN.out.mono ?_
      rintro e w3 ⟨l', ck', er, rfl, hR, hT3, hk3, hfr3⟩
      obtain ⟨hL2, hb2, hg2, hT2⟩ := H2.out
      have hk13 : Kx (own2 tb B) w1 w3 := (Kx.below hb2).trans hk3
      have q3 := HQ.out w3 hk13
      have c3 := (cell_in q3 3 _ rfl).1
      have hgn : ¬ own2 tb B w1.heap.size := fun e => by
        have h1 := node_lt HT1.out.blk
        have h2 := HT1.out.m.lt
        rcases e with e | e <;> omega
      have hL3 : LentIs w3 w1.heap.size s.b := (hk3.block _ hg2 hgn).trans hL2
      have hh3 : Has w3 s.o s.n s.c s.b := HH1.out.kx hk13 HT1.out.nob
      have HKp : Hid (Calls Tryd.prog 28 #[.slice (some ⟨w1.heap.size, 0, none⟩) s.n (s.n + 1), .slice s.o s.n s.c] w3 fun e w' => e = .returned (.bool true) ∧ w' = w3) := by
        have := kept_any w1.heap.size s.o s.c s.b w3 hL3 (by rw [HLn.out]; exact hh3) (by have h1 := HLow.out.2; have h2 := HLn.out; omega)
        rw [HLn.out] at this
        exact this
      obtain ⟨wa, hwa⟩ : ∃ wa, wa = w3.alloc (.cells #[.slice (some ⟨w1.heap.size, 0, none⟩) s.n (s.n + 1)] 40) := ⟨_, rfl⟩
      have hba : Below w3.heap.size w3 wa := by rw [hwa]; exact below_al w3 _
      have hga : wa.heap[w3.heap.size]? = some (.cells #[.slice (some ⟨w1.heap.size, 0, none⟩) s.n (s.n + 1)] 40) := by rw [hwa]; exact new_block_at w3 _ rfl
      have hfL : Fr w1.heap.size wa (some ⟨w1.heap.size, 0, none⟩) (s.n + 1) := .inr ⟨_, _, rfl, Nat.le_refl _, (hba.block _ (hL3.lt)).trans hL3, by simp [HLn.out], by have h1 := HLow.out.2; unfold maxLen; omega⟩
      have HCall := hid (one_owned hfL (by omega) (cell_in hga 0 _ rfl).1 (NoT.cells hga (by decide)))
      have hTa := hT3.below hba
      have HP : Hid (∀ X, OwnK (some ⟨w1.heap.size, 0, none⟩) wa X → Tb X tb B l' ck' ∧ Xt X m xb v l2 ck ∧ Below m w1 X ∧ Has X s.o s.n s.c s.b ∧ BS w.heap.size s.l s.u (.slice s.o s.n s.c) X) := fun X hO => by
        have hk1X : Kx (own2 tb B) w1 X := by
          refine ⟨hO.os.trans (hba.os.trans hk13.os), hO.tape.trans (hba.tape.trans hk13.tape), hO.output.trans (hba.output.trans hk13.output), Nat.le_trans hk13.size (Nat.le_trans hba.size hO.size), fun k hk hnk => ?_⟩
          refine (hO.blk k (Nat.lt_of_lt_of_le hk (Nat.le_trans hk13.size hba.size)) (fun e => by cases e; omega)).trans ?_
          exact (hba.block k (Nat.lt_of_lt_of_le hk hk13.size)).trans (hk13.block k hk hnk)
        have q4 := HQ.out X hk1X
        refine ⟨hTa.owned hO hfL (fun t ht h0 off sp e => ?_), HX1.out.other HT1.out hk1X, hk1X.to HX1.out.ms (HT1.out.ge HM.out.2.1 HM.out.2.2), HH1.out.kx hk1X HT1.out.nob, ⟨(cell_in q4 1 _ rfl).1, (cell_in q4 2 _ rfl).1, (cell_in q4 3 _ rfl).1, node_lt q4⟩⟩
        rcases hfr3 t ht with hm | hm
        · obtain ⟨_, _, _, _, h5⟩ := (HT1.out.ok t hm).has
          obtain ⟨g', off', ha, hlt, _⟩ := h5 h0
          rw [e] at ha
          cases ha
          omega
        · rcases hm with ⟨e2, _⟩ | ⟨g', cur, e2, hge, _⟩
          · rw [e] at e2; cases e2
          · rw [e] at e2; cases e2; omega
      have HWa := hid hwa
      have HR := hid hR
      clear hL2 hb2 hg2 hT2 hk13 q3 hgn hL3 hh3 hwa hba hga hfL hTa hT3 hk3 hfr3 H2 HN z1 z2 z3 z4 hR
      go_wp2_with fail
      refine HKp.out.mono ?_
      rintro e w3' ⟨rfl, rfl⟩
      go_wp2_with fail
      rw [← HWa.out]
      refine HCall.out.mono ?_
      rintro e w4 ⟨rfl, hO⟩
      obtain ⟨hT4, hX4, hb4, hh4, hq4⟩ := HP.out _ hO
      have hbd : Below w4.heap.size w4 w4.drew := (Below.refl _ w4).drew
      have HTd := hid (hT4.below hbd)
      have HXd := hid (hX4.below hbd)
      have HBd : Hid (Below m w1 w4.drew) := hb4.drew
      have HHd := hid (hh4.below hbd)
      have HSd : Hid (BS w.heap.size s.l s.u (.slice s.o s.n s.c) w4.drew) := hq4.below hbd
      clear hO hT4 hX4 hb4 hh4 hq4 hbd HP HCall HWa c3 HKp HQ HQ1 HH1
      go_wp2_with fail
      refine region_L 99 (fun X : World => X.cell? ⟨w.heap.size, 1, none⟩ = some (.int .i64 s.l) ∧ X.cell? ⟨w.heap.size, 2, none⟩ = some (.int .i64 s.u) ∧ X.cell? ⟨w.heap.size, 3, none⟩ = some (.slice s.o s.n s.c) ∧ w.heap.size < X.heap.size) (by kernel_rfl) HSd.out (fun hHeld => ?_)
      generalize w4.drew = W at *
      refine anyT 0 hHeld ?_
      refine anyT 1 hHeld ?_
      refine anyT 2 hHeld ?_
      refine anyT 3 hHeld ?_
      refine anyT 4 hHeld ?_
      refine anyT 5 hHeld ?_
      refine anyT 7 hHeld ?_
      refine anyT 8 hHeld ?_
      refine anyT 9 hHeld ?_
      refine anyT 10 hHeld ?_
      refine anyT 11 hHeld ?_
      refine anyT 12 hHeld ?_
      refine anyT 13 hHeld ?_
      (try simp only [Act.put, List.setIfInBounds_toArray, List.set_cons_zero, List.set_cons_succ])
      clear hHeld
      have HCo : Hid (Calls Tryd.prog 11 #[er] W fun e w' => e = .returned (.int .i64 (cdE er)) ∧ Below W.heap.size W w') := by
        rcases note_er HR.out with rfl | ⟨c, _, rfl⟩
        · exact (code_nil W).mono (fun e w' h => by obtain ⟨h1, rfl⟩ := h; exact ⟨h1, Below.refl _ _⟩)
        · exact HCe.out c W HBd.out
      refine anyO 6 (fun K hK => ?_)
      go_simp
      refine HCo.out.mono ?_
      rintro e w5 ⟨rfl, hb5⟩
      have HS5 := hid (HSd.out.below hb5)
      have HT5 := hid (HTd.out.below hb5)
      have HX5 := hid (HXd.out.below hb5)
      have HB5 := hid (HBd.out.trans (hb5.mono HXd.out.ms))
      have HNx := hid (notex_ok HX5.out (rise_key HKU.out.1 HT1.out.m.1) s.l s.u HI.out.1 HI.out.2 s.o s.n s.c s.b (HHd.out.below hb5) HLow.out.1 (by have := HLow.out.2; omega))
      have hHeld := HS5.out
      clear hb5 HCo HSd HTd HXd HBd HHd
      go_simp
      refine hK.out _ _ hHeld ?_
      clear hK K hHeld
      (try simp only [Act.put, List.setIfInBounds_toArray, List.set_cons_zero, List.set_cons_succ])
      refine anyO 14 (fun K hK => ?_)
      go_simp
      refine HNx.out.mono ?_
      rintro e w6 ⟨l2', ck2, er2, rfl, hR2, hX6, hk6⟩
      obtain ⟨e1, e2, e3⟩ := note_key HKU.out.1 HR.out hR2
      subst e1 e2
      have ha6 := apart_tx HX5.out HT5.out
      have hT6 := HT5.out.kx hk6 HX5.out.nor (fun e => ha6 _ e (.inl rfl)) (fun e => ha6 _ e (.inr rfl))
      obtain ⟨E', hU', hE'⟩ := HKU.out.2.1.note HKU.out.2.2 HR.out
      have hb56 : Below m w5 w6 := hk6.to HX5.out.ms HX5.out.ge
      have HF : Hid (Below m w w6 ∧ PX m tb B xb (E + 1) w6) := hid ⟨HB1.out.trans (HB5.out.trans hb56), ⟨v, l', l2', ck', hT6, hX6, e3, E', hU', hE'⟩⟩
      have hHeld := HS5.out.kx hk6 HOx.out
      unfold BS at hHeld
      clear hR2 hX6 hk6 ha6 hT6 hU' hE' hb56 e3 HNx HS5 HT5 HX5 HB5 HR
      generalize cdE er = cd at *
      go_simp
      refine hK.out _ _ hHeld ?_
      clear hK K
      (try simp only [Act.put, List.setIfInBounds_toArray, List.set_cons_zero, List.set_cons_succ])
      refine anyT 15 hHeld ?_
      refine anyT 16 hHeld ?_
      refine anyT 17 hHeld ?_
      refine ⟨by kernel_rfl, ?_⟩
      clear hHeld
      go_wp2_with fail
      go_ret
      exact ⟨rfl, HF.out.1, HF.out.2⟩
end Go.Proofs.YtjhclpionimjbaaDoor
