/-
  SessionOnce: of each Id and number Note succeeds at most once, and what is done is answered as it was noted. Conditions: those that each theorem names.
-/
import Derived.Test.YtjhclpionimjbaaDoorZDo
import Derived.Test.YtjhclpionimjbaaDoorZL
import Derived.Test.YtjhclpionimjbaaDoorZMi
namespace Go.Proofs.YtjhclpionimjbaaDoor
open Go.RowKit Go.Maps
set_option linter.unusedVariables false
/-- What the two maps say of a table. -/
def Says (l : List Sx) (f : Int → Int) (g : Int → List UInt8) : Prop := ∀ s ∈ l, f s.i = s.l ∧ g s.i = s.b
theorem says_open {l l' : List Sx} {ck x ck' d : Int} {f : Int → Int} {g : Int → List UInt8} (h : Says l f g) (ho : OpenR l ck x l' ck' d .nilIface) : Says l' (setF f x 0) (setF g x []) := by
  rcases ho with ⟨e, _⟩ | ⟨_, _, hf, _, l1, hd, s, h1, h2, _, h4, rfl⟩
  · cases e
  · intro t ht
    unfold setF
    rcases mem_ins.1 ht with rfl | ht
    · rw [if_pos h1, if_pos h1]
      exact ⟨h2.symm, h4.symm⟩
    · have := fnd_none hf t (drop_sub hd t ht)
      rw [if_neg this, if_neg this]
      exact h t (drop_sub hd t ht)
theorem says_note {l l' : List Sx} {ck x q ck' : Int} {b : List UInt8} {f : Int → Int} {g : Int → List UInt8} (h : Says l f g) (ho : NoteR l ck x q b l' ck' .nilIface) : f x < q ∧ Says l' (setF f x q) (setF g x b) := by
  rcases ho with ⟨e, _⟩ | ⟨e, _⟩ | ⟨_, ha, _, _, s, h1, h2, _, h4, rfl⟩
  · cases e
  · cases e
  · obtain ⟨s0, hs0, hlt⟩ := ask_new ha
    obtain ⟨hm, hi⟩ := fnd_some hs0
    refine ⟨by rw [← hi, (h s0 hm).1]; exact hlt, fun t ht => ?_⟩
    unfold setF
    rcases mem_put ht with rfl | ⟨ht, hne⟩
    · rw [if_pos h1, if_pos h1]
      exact ⟨h2.symm, h4.symm⟩
    · rw [if_neg (fun e => hne (e.trans h1.symm)), if_neg (fun e => hne (e.trans h1.symm))]
      exact h t ht
theorem says_ask {l : List Sx} {x q : Int} {f : Int → Int} {g : Int → List UInt8} (h : Says l f g) : (askK l x q = 1 ∧ f x < q) ∨ (askK l x q = 2 ∧ f x = q ∧ g x = askB l x q) ∨ (askK l x q = 3 ∨ askK l x q = 4) := by
  unfold askK askB
  cases hf : fnd l x with
  | none => exact .inr (.inr (.inr rfl))
  | some s =>
    obtain ⟨hm, hi⟩ := fnd_some hf
    obtain ⟨h1, h2⟩ := h s hm
    rw [hi] at h1 h2
    simp only
    by_cases c1 : s.l < q
    · rw [if_pos c1]; exact .inl ⟨rfl, by omega⟩
    · rw [if_neg c1, if_neg c1]
      by_cases c2 : q = s.l ∧ q ≠ 0
      · rw [if_pos c2, if_pos c2]; exact .inr (.inl ⟨rfl, by omega, h2⟩)
      · rw [if_neg c2]; exact .inr (.inr (.inl rfl))
/-- While the acts are gone through. -/
structure On (w : World) (tb B b5 b6 j : Nat) (wr : World) : Prop where
  st : ∃ l ck n5 n6 f g, Tb wr tb B l ck ∧ MI wr b5 n5 f ∧ MT wr b6 n6 g ∧ Says l f g ∧ n5 ≤ j ∧ n6 ≤ j
  bel : Below w.heap.size w wr
theorem On.keep {w wr wn : World} {tb B b5 b6 j n5 n6 : Nat} {l l' : List Sx} {ck ck' : Int} {f : Int → Int} {g : Int → List UInt8} (h : Tb wr tb B l ck) (h5 : MI wr b5 n5 f) (h6 : MT wr b6 n6 g) (hn5 : n5 ≤ j) (hn6 : n6 ≤ j) (hbel : Below w.heap.size w wr) (hb : w.heap.size ≤ tb ∧ w.heap.size ≤ B) (x5 : ¬ own2 tb B b5) (x6 : ¬ own2 tb B b6)
    (hT : Tb wn tb B l' ck') (hk : Kx (own2 tb B) wr wn) (hs : Says l' f g) : On w tb B b5 b6 (j + 1) wn :=
  ⟨⟨l', ck', n5, n6, f, g, hT, h5.same (hk.block _ h5.lt x5), h6.same (hk.block _ h6.lt x6), hs, by omega, by omega⟩, hbel.trans (hk.to hbel.size (fun g e => by rcases e with rfl | rfl; exact hb.1; exact hb.2))⟩
theorem On.set {w wr wn w5 w6 : World} {tb B b5 b6 j n5 n6 : Nat} {l' : List Sx} {ck' : Int} {f' : Int → Int} {g' : Int → List UInt8} (hn5 : n5 ≤ j) (hn6 : n6 ≤ j) (hbel : Below w.heap.size w wr) (hb : w.heap.size ≤ tb ∧ w.heap.size ≤ B) (y5 : w.heap.size ≤ b5) (y6 : w.heap.size ≤ b6) (x5 : ¬ own2 tb B b5) (x6 : ¬ own2 tb B b6) (x56 : b5 ≠ b6)
    (hT : Tb wn tb B l' ck') (hk : Kx (own2 tb B) wr wn) (hs : Says l' f' g') (m5 : MI w5 b5 (n5 + 1) f') (g5 : wn.grownBy w5 (some b5)) (m6 : MT w6 b6 (n6 + 1) g') (g6 : w5.grownBy w6 (some b6)) (o5 : ∃ es k, wn.heap[b5]? = some (.map es k)) (o6 : ∃ es k, wn.heap[b6]? = some (.map es k)) : On w tb B b5 b6 (j + 1) w6 := by
  have k5 : Kx (fun g => g = b5) wn w5 := .grown g5 (fun g e => by cases e; rfl)
  have k6 : Kx (fun g => g = b6) w5 w6 := .grown g6 (fun g e => by cases e; rfl)
  have z5 : NoR wn b5 := by obtain ⟨es, k, h⟩ := o5; exact .inl (NoB.map h)
  have z6 : NoR w5 b6 := by
    obtain ⟨es, k, h⟩ := o6
    exact .inl (NoB.map ((k5.block b6 (node_lt h) (fun e => x56 e.symm)).trans h))
  have T5 := hT.kx k5 (fun g _ e => by rw [e]; exact z5) (fun e => x5 (.inl e.symm)) (fun e => x5 (.inr e.symm))
  have T6 := T5.kx k6 (fun g _ e => by rw [e]; exact z6) (fun e => x6 (.inl e.symm)) (fun e => x6 (.inr e.symm))
  refine ⟨⟨l', ck', n5 + 1, n6 + 1, f', g', T6, m5.same (k6.block _ m5.lt x56), m6, hs, by omega, by omega⟩, ?_⟩
  have b1 := hbel.trans (hk.to hbel.size (fun g e => by rcases e with rfl | rfl; exact hb.1; exact hb.2))
  have b2 := b1.trans (k5.to b1.size (fun g e => by rw [e]; exact y5))
  exact b2.trans (k6.to b2.size (fun g e => by rw [e]; exact y6))
set_option maxRecDepth 100000 in
set_option maxHeartbeats 8000000 in
theorem once_any {w : World} {a : Option Addr} {n cap : Nat} {xs : List Sx} (hE : ErrIs w) (hA : RowA w a n cap xs) (hz : ∀ s ∈ xs, s.n ≤ 140737488355328) :
    Calls Tryd.prog 4 #[.slice a n cap] w fun e w' => e = .returned (.bool true) ∧ Below w.heap.size w w' := by
  have HE := hid hE
  have HA := hid hA
  have HZ := hid hz
  have hnl : (n : Int) ≤ 9223372036854775807 := by have := hA.le; unfold maxLen at this; omega
  clear hE hA hz
  go_enter Tryd.func4, Tryd.ntmps4
  go_wp2_with fail
  refine (small_ok w HE.out).mono ?_
  rintro e w1 ⟨rfl, hb1⟩
  have HB1 := hid hb1
  clear hb1
  go_wp2_with fail
  refine (new_ok w1).mono ?_
  rintro e w2 ⟨tb, B, rfl, hT, ht, hB, hb2⟩
  have hlt1 := HB1.out.size
  have hb12 := HB1.out.trans (hb2.mono HB1.out.size)
  obtain ⟨w3, hw3⟩ : ∃ w3, w3 = w2.alloc (.map #[] 0) := ⟨_, rfl⟩
  obtain ⟨w4, hw4⟩ : ∃ w4, w4 = w3.alloc (.map #[] 0) := ⟨_, rfl⟩
  have hs3 : w3.heap.size = w2.heap.size + 1 := by rw [hw3]; simp
  have hb3 : Below w2.heap.size w2 w3 := by rw [hw3]; exact below_al w2 _
  have hb4 : Below w3.heap.size w3 w4 := by rw [hw4]; exact below_al w3 _
  have hm3 : MI w3 w2.heap.size 0 (fun _ => 0) := by rw [hw3]; exact MI.made w2
  have hm4 : MT w4 (w2.heap.size + 1) 0 (fun _ => []) := by rw [hw4, ← hs3]; exact MT.made w3
  have HOn : Hid (On w tb B w2.heap.size (w2.heap.size + 1) 0 w4) := ⟨⟨[], 0, 0, 0, _, _, (hT.below hb3).below hb4, hm3.same (hb4.block _ (by omega)), hm4, fun s hs => (by cases hs), Nat.le_refl _, Nat.le_refl _⟩, hb12.trans ((hb3.trans (hb4.mono hb3.size)).mono hb12.size)⟩
  have HY := hid (And.intro (show w.heap.size ≤ tb ∧ w.heap.size ≤ B by omega) (And.intro (show w.heap.size ≤ w2.heap.size from hb12.size) (show tb < w2.heap.size ∧ B < w2.heap.size from ⟨node_lt hT.blk, hT.m.lt⟩)))
  have hmk := mkmapI w2
  have hmk2 := mkmapT w3
  rw [hs3, hw3] at hmk2
  have HW : Hid (w4 = (w2.alloc (.map #[] 0)).alloc (.map #[] 0)) := by rw [hw4, hw3]; exact rfl
  clear hw3 hw4 hs3 hb3 hb4 hm3 hm4 hT ht hB hb2 hb12 hlt1 HB1
  go_wp2_with fail
  rw [← HW.out]
  clear HW hmk hmk2
  go_loopw [7] (fun i wr => ∃ j : Nat, i = .int .i64 (j : Int) ∧ j ≤ n ∧ j ≤ 200 ∧ Hid (On w tb B w2.heap.size (w2.heap.size + 1) j wr)) (fun i _ => n - (intOf i).toNat)
  case atStart => exact ⟨0, rfl, Nat.zero_le _, Nat.zero_le _, HOn⟩
  case round =>
    obtain ⟨j, rfl, hj, hj2, HR⟩ := hrel
    clear HOn
    by_cases hjn : j < n
    · have hjI : (j : Int) < (n : Int) := by omega
      by_cases hj200 : j < 200
      · have hjJ : (j : Int) < 200 := by omega
        have hRA := HA.out.below HR.out.bel
        have hjx : j < xs.length := by rw [HA.out.ln]; exact hjn
        obtain ⟨g, off, rfl, hg, hcs⟩ := hRA.at' (by omega)
        obtain ⟨c0, c1, c2, c3⟩ := hcs j hjx
        have HOk := hid (hRA.ok _ (List.getElem_mem hjx))
        have HSz := hid (HZ.out _ (List.getElem_mem hjx))
        generalize xs[j] = s at *
        obtain ⟨si, sl, su, so, sn, sc, sb⟩ := s
        dsimp only at c0 c1 c2 c3 HOk HSz
        clear hRA hcs
        obtain ⟨⟨l, ck, n5, n6, f, gg, hT, h5, h6, hS, hn5, hn6⟩, hbel⟩ := HR.out
        obtain ⟨wa, hwa⟩ : ∃ wa, wa = wr.alloc (.cells #[.int .i64 si, .int .i64 sl, .int .i64 su, .slice so sn sc] 42) := ⟨_, rfl⟩
        have hba : Below wr.heap.size wr wa := by rw [hwa]; exact below_al wr _
        have hTa := hT.below hba
        obtain ⟨hby, hb2, htl, hBl⟩ := HY.out
        have x5 : ¬ own2 tb B w2.heap.size := by rintro (e | e) <;> omega
        have x6 : ¬ own2 tb B (w2.heap.size + 1) := by rintro (e | e) <;> omega
        have H5 := hid (h5.same (hba.block _ h5.lt))
        have H6 := hid (h6.same (hba.block _ h6.lt))
        have HTa := hid hTa
        have HP := hid (And.intro hS (And.intro hn5 (And.intro hn6 (And.intro (hbel.trans (hba.mono hbel.size)) (And.intro hby (And.intro hb2 (And.intro x5 x6)))))))
        have HWa := hid hwa
        have hl6 := h6.lt
        have HCp : Hid (∀ X, Kx (fun g => own2 tb B g ∨ g = w2.heap.size ∨ g = w2.heap.size + 1) wa X → X.cell? ⟨wr.heap.size, 1, none⟩ = some (.int .i64 sl) ∧ X.cell? ⟨wr.heap.size, 2, none⟩ = some (.int .i64 su) ∧ X.cell? ⟨wr.heap.size, 3, none⟩ = some (.slice so sn sc) ∧ wr.heap.size < X.heap.size) := fun X hX => by
          have q : wa.heap[wr.heap.size]? = some (.cells #[.int .i64 si, .int .i64 sl, .int .i64 su, .slice so sn sc] 42) := by rw [hwa]; exact new_block_at wr _ rfl
          have q2 := (hX.block _ (node_lt q) (by rintro ((e | e) | e | e) <;> omega)).trans q
          exact ⟨(cell_in q2 1 _ rfl).1, (cell_in q2 2 _ rfl).1, (cell_in q2 3 _ rfl).1, node_lt q2⟩
        have hl0 := Nat.lt_of_lt_of_le (Nat.lt_succ_self _) (Nat.le_of_lt hl6)
        obtain ⟨i0, i1, i2, hhs⟩ := HOk.out
        have HHs := hid (hhs.below hba)
        clear hT h5 h6 hS hn5 hn6 hbel hba hTa hby hb2 htl hBl x5 x6 hhs hwa HR HOk
        have HKeep : Hid (∀ (wn : World) (l' : List Sx) (ck' : Int), Tb wn tb B l' ck' → Kx (own2 tb B) wa wn → Says l' f gg → On w tb B w2.heap.size (w2.heap.size + 1) (j + 1) wn) := fun wn l' ck' k1 k2 k3 => On.keep HTa.out H5.out H6.out HP.out.2.1 HP.out.2.2.1 HP.out.2.2.2.1 HP.out.2.2.2.2.1 HP.out.2.2.2.2.2.2.1 HP.out.2.2.2.2.2.2.2 k1 k2 k3
        by_cases d0 : si = 0
        · subst d0
          have HO := hid (open_ok HTa.out sl i1)
          rw [HWa.out] at HO
          go_wp2_with fail
          refine HO.out.mono ?_
          rintro e wn ⟨l', ck', d, er, rfl, hR, hTn, hk⟩
          rw [← HWa.out] at hk
          have hk' := hk.size
          rcases open_er hR with rfl | rfl
          · have m5 := H5.out.same (hk.block _ H5.out.lt HP.out.2.2.2.2.2.2.1)
            have m6 := H6.out.same (hk.block _ H6.out.lt HP.out.2.2.2.2.2.2.2)
            obtain ⟨w5, hu5, p5, g5⟩ := m5.put (x := sl) (v := 0) (by have := HP.out.2.1; unfold maxLen; omega) i1 (by unfold inI; omega)
            obtain ⟨w6, hu6, p6, g6⟩ := (m6.same (g5.block _ m6.lt (by simp))).put (x := sl) (v := []) (by have := HP.out.2.2.1; unfold maxLen; omega) i1 (by simp)
            have o5 : ∃ es k, wn.heap[w2.heap.size]? = some (.map es k) := by obtain ⟨_, ⟨es, k, h, _⟩, _⟩ := m5; exact ⟨es, k, h⟩
            have o6 : ∃ es k, wn.heap[w2.heap.size + 1]? = some (.map es k) := by obtain ⟨_, ⟨es, k, h, _⟩, _⟩ := m6; exact ⟨es, k, h⟩
            have HF : Hid (On w tb B w2.heap.size (w2.heap.size + 1) (j + 1) w6) := On.set HP.out.2.1 HP.out.2.2.1 HP.out.2.2.2.1 HP.out.2.2.2.2.1 HP.out.2.2.2.2.2.1 (by have := HP.out.2.2.2.2.2.1; omega) HP.out.2.2.2.2.2.2.1 HP.out.2.2.2.2.2.2.2 (by omega) hTn hk (says_open HP.out.1 hR) p5 g5 p6 g6 o5 o6
            have kn : Kx (fun g => own2 tb B g ∨ g = w2.heap.size ∨ g = w2.heap.size + 1) wa wn := hk.wide (fun g e => .inl e)
            obtain ⟨e1, e2, e3, e4⟩ := HCp.out wn kn
            obtain ⟨q1, q2, q3, q4⟩ := HCp.out w5 (kn.trans (.grown g5 (fun g e => by cases e; exact .inr (.inl rfl))))
            replace hu6 : (Instr.mapUpdate 46 (.map (some (w2.heap.size + 1))) (.int .i64 sl) (.string ⟨#[]⟩)).run Tryd.prog w5 = .ok () w6 := hu6
            clear m5 m6 p5 g5 p6 g6 o5 o6 kn hR hTn hk hk' HO HKeep HCp
            go_wp2_with fail
            exact ⟨⟨j + 1, by go_num, by omega, by omega, HF⟩, by simp [intOf]; omega⟩
          · have HF := hid (HKeep.out wn l' ck' hTn hk (by rcases hR with ⟨_, _, e, _⟩ | ⟨e, _⟩; rw [e]; exact HP.out.1; cases e))
            clear hR hTn hk hk' HO
            unfold errv
            go_wp2_with fail
            exact ⟨⟨j + 1, by go_num, by omega, by omega, HF⟩, by simp [intOf]; omega⟩
        · by_cases d1 : si = 1
          · subst d1
            have HAs := hid (ask_ok HTa.out sl su i1 i2)
            have hsay := says_ask (x := sl) (q := su) HP.out.1
            rw [HWa.out] at HAs
            generalize askK l sl su = K0 at *
            generalize askB l sl su = T0 at *
            go_wp2_with fail
            refine HAs.out.mono ?_
            rintro e wn ⟨o', n', c', rfl, hh, _, hbn⟩
            rw [← HWa.out] at hbn
            have HF := hid (HKeep.out wn l ck (HTa.out.below hbn) (.below hbn) HP.out.1)
            obtain ⟨e1, e2, e3, e4⟩ := HCp.out wn (.below hbn)
            have lk5 := (H5.out.same (hbn.block _ H5.out.lt)).look i1
            have lk6 := (H6.out.same (hbn.block _ H6.out.lt)).look i1
            have hcv := hh.conv
            clear hh hbn HAs HKeep HCp
            rcases hsay with ⟨rfl, hlt⟩ | ⟨rfl, hq, ht⟩ | hk34
            · have a1 : decide (su ≤ f sl) = false := by simp; omega
              have a2 : ¬ su ≤ f sl := by omega
              go_wp2_with fail
              exact ⟨⟨j + 1, by go_num, by omega, by omega, HF⟩, by simp [intOf]; omega⟩
            · rw [hq] at lk5
              rw [ht] at lk6
              clear hq ht
              go_wp2_with fail
              trace_state
              exact ⟨⟨j + 1, by go_num, by omega, by omega, HF⟩, by simp [intOf]; omega⟩
            · rcases hk34 with rfl | rfl
              · go_wp2_with fail
                exact ⟨⟨j + 1, by go_num, by omega, by omega, HF⟩, by simp [intOf]; omega⟩
              · go_wp2_with fail
                exact ⟨⟨j + 1, by go_num, by omega, by omega, HF⟩, by simp [intOf]; omega⟩
          · have a0 : (si == 0) = false := by simpa using d0
            have a1 : (si == 1) = false := by simpa using d1
            have HN := hid (note_ok HTa.out sl su i1 i2 so sn sc sb HHs.out HSz.out)
            rw [HWa.out] at HN
            go_wp2_with fail
            refine HN.out.mono ?_
            rintro e wn ⟨l', ck', er, rfl, hR, hTn, hk⟩
            rw [← HWa.out] at hk
            have hk' := hk.size
            rcases note_er hR with rfl | ⟨c, _, rfl⟩
            · have m5 := H5.out.same (hk.block _ H5.out.lt HP.out.2.2.2.2.2.2.1)
              have m6 := H6.out.same (hk.block _ H6.out.lt HP.out.2.2.2.2.2.2.2)
              obtain ⟨hlt, hsay⟩ := says_note HP.out.1 hR
              have lk5 := m5.look i1
              obtain ⟨w5, hu5, p5, g5⟩ := m5.put (x := sl) (v := su) (by have := HP.out.2.1; unfold maxLen; omega) i1 i2
              obtain ⟨w6, hu6, p6, g6⟩ := (m6.same (g5.block _ m6.lt (by simp))).put (x := sl) (v := sb) (by have := HP.out.2.2.1; unfold maxLen; omega) i1 (by rw [HHs.out.1]; have := HSz.out; unfold maxLen; omega)
              have o5 : ∃ es k, wn.heap[w2.heap.size]? = some (.map es k) := by obtain ⟨_, ⟨es, k, h, _⟩, _⟩ := m5; exact ⟨es, k, h⟩
              have o6 : ∃ es k, wn.heap[w2.heap.size + 1]? = some (.map es k) := by obtain ⟨_, ⟨es, k, h, _⟩, _⟩ := m6; exact ⟨es, k, h⟩
              have HF : Hid (On w tb B w2.heap.size (w2.heap.size + 1) (j + 1) w6) := On.set HP.out.2.1 HP.out.2.2.1 HP.out.2.2.2.1 HP.out.2.2.2.2.1 HP.out.2.2.2.2.2.1 (by have := HP.out.2.2.2.2.2.1; omega) HP.out.2.2.2.2.2.2.1 HP.out.2.2.2.2.2.2.2 (by omega) hTn hk hsay p5 g5 p6 g6 o5 o6
              have kn : Kx (fun g => own2 tb B g ∨ g = w2.heap.size ∨ g = w2.heap.size + 1) wa wn := hk.wide (fun g e => .inl e)
              obtain ⟨e1, e2, e3, e4⟩ := HCp.out wn kn
              obtain ⟨q1, q2, q3, q4⟩ := HCp.out w5 (kn.trans (.grown g5 (fun g e => by cases e; exact .inr (.inl rfl))))
              have hcv : (convert 40 9 (.slice so sn sc)).run Tryd.prog w5 = .ok (.string (bs sb)) w5 := by
                have h1 := HHs.out.kx hk HTa.out.nob
                exact (h1.kx (L := fun g => g = w2.heap.size) (.grown g5 (fun g e => by cases e; rfl)) (fun g _ e => by rw [e]; obtain ⟨es, k, h⟩ := o5; exact NoB.map h)).conv
              have a2 : decide (su ≤ f sl) = false := by simp; omega
              have a3 : ¬ su ≤ f sl := by omega
              clear m5 m6 p5 g5 p6 g6 o5 o6 kn hR hTn hk hk' HN HKeep HCp hsay hlt
              go_wp2_with fail
              exact ⟨⟨j + 1, by go_num, by omega, by omega, HF⟩, by simp [intOf]; omega⟩
            · have HF := hid (HKeep.out wn l' ck' hTn hk (by
                rcases hR with ⟨_, _, e, _⟩ | ⟨_, _, _, e, _⟩ | ⟨e, _⟩
                · rw [e]; exact HP.out.1
                · rw [e]; exact HP.out.1
                · cases e))
              clear hR hTn hk hk' HN HKeep HCp
              unfold errv
              go_wp2_with fail
              exact ⟨⟨j + 1, by go_num, by omega, by omega, HF⟩, by simp [intOf]; omega⟩
      · obtain rfl : j = 200 := by omega
        obtain ⟨⟨l, ck, n5, n6, f, gg, hT, h5, h6, hS, hn5, hn6⟩, hbel⟩ := HR.out
        have HLs := hid (list_ok hT)
        have HBl := hid hbel
        have HFw := hid hT.few
        clear hT h5 h6 hS hn5 hn6 hbel HR
        go_wp2_with fail
        refine HLs.out.mono ?_
        rintro e wn ⟨v, ls, rfl, hrow, hkey, hbn⟩
        have hlen : ls.length ≤ 8 := by
          have := congrArg List.length hkey
          simp only [List.length_map] at this
          rw [this]; exact HFw.out
        obtain ⟨so, cp, rfl⟩ := row_slice hrow.own
        have HBn := hid (HBl.out.trans (hbn.mono HBl.out.size))
        clear hrow hkey hbn HLs
        obtain ⟨m, hm⟩ : ∃ m, m = ls.length := ⟨_, rfl⟩
        rw [← hm] at hlen ⊢
        clear hm
        have hmI : (m : Int) ≤ 8 := by omega
        have a8 : decide ((m : Int) ≤ 8) = true := by simpa using hmI
        have a9 : decide (m ≤ 8) = true := by simpa using hlen
        go_wp2_with fail
        go_ret
        exact ⟨rfl, HBn.out⟩
    · obtain rfl : n = j := by omega
      obtain ⟨⟨l, ck, n5, n6, f, gg, hT, h5, h6, hS, hn5, hn6⟩, hbel⟩ := HR.out
      have HLs := hid (list_ok hT)
      have HBl := hid hbel
      have HFw := hid hT.few
      clear hT h5 h6 hS hn5 hn6 hbel HR
      go_wp2_with fail
      refine HLs.out.mono ?_
      rintro e wn ⟨v, ls, rfl, hrow, hkey, hbn⟩
      have hlen : ls.length ≤ 8 := by
        have := congrArg List.length hkey
        simp only [List.length_map] at this
        rw [this]; exact HFw.out
      obtain ⟨so, cp, rfl⟩ := row_slice hrow.own
      have HBn := hid (HBl.out.trans (hbn.mono HBl.out.size))
      clear hrow hkey hbn HLs
      obtain ⟨m, hm⟩ : ∃ m, m = ls.length := ⟨_, rfl⟩
      rw [← hm] at hlen ⊢
      clear hm
      have hmI : (m : Int) ≤ 8 := by omega
      have a8 : decide ((m : Int) ≤ 8) = true := by simpa using hmI
      have a9 : decide (m ≤ 8) = true := by simpa using hlen
      go_wp2_with fail
      go_ret
      exact ⟨rfl, HBn.out⟩
end Go.Proofs.YtjhclpionimjbaaDoor
