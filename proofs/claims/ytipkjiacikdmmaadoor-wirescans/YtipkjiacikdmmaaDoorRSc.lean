/-
  What the document's own Scan answers for any bytes that memory holds; an append of any bytes onto memory of the call's own. Conditions: those that each theorem names.
-/
import Derived.Test.YtipkjiacikdmmaaDoorROpT
import Derived.Test.YtipkjiacikdmmaaDoorScan
import Derived.Test.YtipkjiacikdmmaaDoorRowsMem
import Derived.Laws.AppendOwnNone
namespace Go.Proofs.YtipkjiacikdmmaaDoor
open Go.RowKit
set_option linter.unusedVariables false
theorem wpList_any {w : World} {ops : Array Oper} {rest : List Oper} {o : Oper} {a : Act} {Q : Exit → Act → World → Prop} (hgd : o.guard = none) (s x : Operand)
    (ho : o.op = .call { callee := .builtin .append, args := #[s, x], argTypes := #[22, 22] })
    (base : Nat) (v : Value) (n : Nat) (xs : List Value) (hs : a.eval s = v) (hown : w.ownsRow base 5 1 v n xs)
    (ao : Option Addr) (m c : Nat) (l : List UInt8) (hx : a.eval x = .slice ao m c) (hl : Has w ao m c l) (hb : n + m ≤ 140737488355328) (hbase : base ≤ w.heap.size)
    (h : ∀ v' w', w'.ownsRow base 5 1 v' (n + m) (xs ++ l.map bv) → w.grownBy w' v.ownBlock → wpList Tryd.prog ops Q rest (a.put o.dst v') w') :
    wpList Tryd.prog ops Q (o :: rest) a w := by
  obtain ⟨i0, hi, hz0, hz1, hz2⟩ := info_parts Tryd.info5
  cases ao with
  | none =>
    obtain ⟨h1, h2, h3, h4, h5⟩ := hl
    have hc0 : c = 0 := h4 rfl
    obtain rfl : m = 0 := by omega
    subst hc0
    have hl0 : l = [] := List.eq_nil_of_length_eq_zero h1
    subst hl0
    refine wpList_append_own_none hgd s x 22 ho base 5 i0 1 Tryd.underlying22 hi v n xs hs hown hx ?_
    have h9 := h v w (by simpa using hown) ⟨rfl, rfl, rfl, Nat.le_refl _, fun _ _ _ => rfl⟩
    exact h9
  | some ad =>
    have hsz : (l.map bv).length = m * 1 := by simpa using hl.1
    have hat : ∀ j x, (l.map bv)[j]? = some x → w.cell? (ad.add j) = some x := by
      rcases Nat.eq_zero_or_pos m with h0 | h0
      · intro j x hj
        have : l = [] := List.eq_nil_of_length_eq_zero (by have := hl.1; omega)
        subst this
        simp at hj
      · obtain ⟨ad', e, hat⟩ := hl.cells (by rw [List.length_map, hl.1]; exact h0)
        cases e
        exact hat
    refine wpList_append_own w hgd s x 22 ho base 5 i0 (.int .u8 0) 1 1 Tryd.underlying22 hi hz0 hz1 hz2 rfl (by decide) v n xs hs hown ad m c (l.map bv) hx hsz hat (bv_oneCell l) (by unfold maxLen; omega) (by omega) hbase ?_
    intro v' w' hown' hgr hnil
    exact h v' w' hown' hgr
/-- These slices hold these rows. -/
structure Prt (w : World) (vs : List Value) (ps : List (List UInt8)) : Prop where
  len : vs.length = ps.length
  row : ∀ i (h : i < ps.length), ∃ ao n c, vs[i]? = some (.slice ao n c) ∧ Has w ao n c ps[i] ∧ T5 w ao
theorem has_move {w w' : World} {a : Option Addr} {n c : Nat} {l : List UInt8} (h : Has w a n c l) (ht : T5 w a) (hb : ∀ (g : Nat) (cur : Array Value), w.heap[g]? = some (.cells cur 5 (0, 0)) → w'.heap[g]? = w.heap[g]?) (hz : w.heap.size ≤ w'.heap.size) : Has w' a n c l ∧ T5 w' a := by
  rcases ht with rfl | ⟨g, cur, rfl, hg⟩
  · refine ⟨⟨h.1, h.2.1, h.2.2.1, h.2.2.2.1, fun h0 => ?_⟩, .inl rfl⟩
    obtain ⟨b, off, e, _⟩ := h.2.2.2.2 h0
    cases e
  · have hs := hb g cur hg
    refine ⟨?_, .inr ⟨g, cur, rfl, hs.trans hg⟩⟩
    obtain ⟨h1, h2, h3, h4, h5⟩ := h
    refine ⟨h1, h2, h3, h4, fun h0 => ?_⟩
    obtain ⟨b, off, ha, hlt, hc⟩ := h5 h0
    simp only [Option.some.injEq, Addr.mk.injEq] at ha
    obtain ⟨rfl, rfl, _⟩ := ha
    refine ⟨g, 0, rfl, by omega, fun i hi => ?_⟩
    rw [← hc i hi]
    simp only [World.cell?, hs]
theorem Prt.move {w w' : World} {vs : List Value} {ps : List (List UInt8)} (h : Prt w vs ps) (hb : ∀ (g : Nat) (cur : Array Value), w.heap[g]? = some (.cells cur 5 (0, 0)) → w'.heap[g]? = w.heap[g]?) (hz : w.heap.size ≤ w'.heap.size) : Prt w' vs ps :=
  ⟨h.len, fun i hi => by
    obtain ⟨ao, n, c, h1, h2, h3⟩ := h.row i hi
    obtain ⟨k1, k2⟩ := has_move h2 h3 hb hz
    exact ⟨ao, n, c, h1, k1, k2⟩⟩
theorem blk_lt {w : World} {g : Nat} {o : Obj} (h : w.heap[g]? = some o) : g < w.heap.size := by
  rcases Nat.lt_or_ge g w.heap.size with h1 | h1
  · exact h1
  · rw [Array.getElem?_eq_none h1] at h; cases h
theorem Prt.below {w w' : World} {vs : List Value} {ps : List (List UInt8)} (h : Prt w vs ps) (hb : Below w.heap.size w w') : Prt w' vs ps := h.move (fun g cur hg => hb.block g (blk_lt hg)) hb.size
theorem Prt.snoc {w : World} {vs : List Value} {ps : List (List UInt8)} (h : Prt w vs ps) {ao : Option Addr} {n c : Nat} {p : List UInt8} (hp : Has w ao n c p) (ht : T5 w ao) : Prt w (vs ++ [.slice ao n c]) (ps ++ [p]) := by
  have hl := h.len
  refine ⟨by simp [hl], fun i hi => ?_⟩
  by_cases hi2 : i < ps.length
  · rw [List.getElem?_append_left (by omega), List.getElem_append_left hi2]
    exact h.row i hi2
  · have e : i = ps.length := by simp at hi; omega
    subst e
    refine ⟨ao, n, c, by rw [List.getElem?_append_right (by omega)]; simp [hl], ?_, ht⟩
    have : (ps ++ [p])[ps.length]'hi = p := by simp
    rw [this]
    exact hp
theorem ropen_t5 (a : Option Addr) (len cap : Nat) (l : List UInt8) (w : World) (h : Has w a len cap l) (hlm : len ≤ 140737488355328) :
    Calls Tryd.prog 25 #[.slice a len cap] w fun e w' => ∃ (b : Option Addr) (n c : Nat), e = .returned (.tuple #[.slice b n c, .int .i64 ((opn l).2.1 : Int), .int .i64 ((opn l).2.2 : Int)]) ∧ Hid (Has w' b n c (opn l).1) ∧ Hid (T5 w' b) ∧ Hid (Below w.heap.size w w') := ropen_uniT a len cap l w h hlm
set_option maxRecDepth 100000 in
set_option maxHeartbeats 2000000 in
theorem rscan_some (b off len cap : Nat) (l : List UInt8) (w : World) (h : Has w (some ⟨b, off, none⟩) len cap l) (hlm : len ≤ 1073741824) :
    Calls Tryd.prog 27 #[.slice (some ⟨b, off, none⟩) len cap] w fun e w' => ∃ (v : Value) (vs : List Value), e = .returned (.tuple #[v, .int .i64 ((scanN len l).2.1 : Int), .int .i64 ((scanN len l).2.2 : Int)]) ∧
      Hid (w'.ownsRow w.heap.size 22 1 v (scanN len l).1.length vs) ∧ Hid (Prt w' vs (scanN len l).1) ∧ Hid (Below w.heap.size w w') := by
  obtain ⟨iB, hiB, hzB0, hzB1, hzB2⟩ := info_parts Tryd.infoB
  have HH : Hid (Has w (some ⟨b, off, none⟩) len cap l) := h
  have HL : Hid (l.length = len) := h.1
  have hlc := h.2.1
  have hcm : cap ≤ maxLen := h.2.2.1
  unfold maxLen at hcm
  clear h
  have hlm' : (len : Int) ≤ 1073741824 := by omega
  go_enter Tryd.func27, Tryd.ntmps27
  go_wp2_with fail
  go_loopw [5, 6] (fun v i wr => ∃ (d f : Nat) (vs : List Value) (ps : List (List UInt8)), d ≤ len ∧ i = .int .i64 (d : Int) ∧ len - d ≤ f ∧ 8 * ps.length ≤ d ∧
      Hid (scanN len l = (ps ++ (scanN f (l.drop d)).1, d + (scanN f (l.drop d)).2.1, (scanN f (l.drop d)).2.2)) ∧ Hid (wr.ownsRow w.heap.size 22 1 v ps.length vs) ∧ Hid (Prt wr vs ps) ∧ Hid (Below w.heap.size w wr)) (fun _ i _ => len - (intOf i).toNat)
  case atStart => exact ⟨0, len, [], [], Nat.zero_le _, rfl, by omega, by simp, (by show scanN len l = _; simp), World.ownsRow_nil _ _ _ _, ⟨rfl, fun i h1 => (by simp at h1)⟩, Below.refl _ _⟩
  case round =>
    obtain ⟨d, f, vs, ps, hd, rfl, hf, hps, HS, HO, HP, HB⟩ := hrel
    by_cases hdl : d < len
    · have hdl' : (d : Int) < (len : Int) := by omega
      have hcd : ¬ cap = d := by omega
      have hc := (HH.out.below HB.out).cut d len (by omega) (Nat.le_refl _) (a := some ⟨b, off + d, none⟩) (fun _ => rfl) (by simp)
      rw [List.take_of_length_le (by rw [List.length_drop, HL.out]; omega)] at hc
      have hop := ropen_t5 _ _ _ _ wr hc (by omega)
      obtain ⟨f', hf'⟩ : ∃ f', f = f' + 1 := ⟨f - 1, by omega⟩
      have hne : l.drop d ≠ [] := by intro e; have := congrArg List.length e; rw [List.length_drop, HL.out] at this; simp at this; omega
      have HF : Hid (scanN f (l.drop d) = if (opn (l.drop d)).2.2 = 0 then ((opn (l.drop d)).1 :: (scanN f' ((l.drop d).drop (opn (l.drop d)).2.1)).1, (opn (l.drop d)).2.1 + (scanN f' ((l.drop d).drop (opn (l.drop d)).2.1)).2.1, (scanN f' ((l.drop d).drop (opn (l.drop d)).2.1)).2.2) else ([], 0, (opn (l.drop d)).2.2)) := by
        show scanN f (l.drop d) = _
        rw [hf', scanN, if_neg hne]
      have hld : (l.drop d).length = len - d := by rw [List.length_drop, HL.out]
      have hff : len ≤ d + 1 + f' := by omega
      have hbd := opn_bd (l.drop d)
      have HDD : Hid (∀ u, (l.drop d).drop u = l.drop (d + u)) := fun u => by rw [List.drop_drop]
      rw [hld] at hbd
      obtain ⟨op, hop'⟩ : ∃ op, op = opn (l.drop d) := ⟨_, rfl⟩
      rw [← hop'] at hop HF hbd
      obtain ⟨p, u, c⟩ := op
      simp only at hop HF hbd
      have HOp : Hid (Calls _ _ _ _ _) := hop
      have HBd : Hid (c = 0 → 8 ≤ u ∧ u ≤ len - d ∧ p.length + 8 = u) := hbd
      clear hc hne hf' hop hop' hbd hld
      by_cases hc0 : c = 0
      · subst hc0
        obtain ⟨q1, q2, q3⟩ := HBd.out rfl
        have HF2 : Hid (scanN len l = ((ps ++ [p]) ++ (scanN f' (l.drop (d + u))).1, (d + u) + (scanN f' (l.drop (d + u))).2.1, (scanN f' (l.drop (d + u))).2.2)) := by
          show scanN len l = _
          rw [HS.out, HF.out, if_pos rfl, HDD.out]
          simp [Nat.add_assoc]
        clear HS HF HBd HDD
        go_wp2_with fail
        refine HOp.out.mono ?_
        rintro e w1 ⟨bo, nn, cc, rfl, hH, hT, hB1⟩
        have HO1 : Hid (w1.ownsRow w.heap.size 22 1 _ ps.length vs) := HO.out.kept_below hB1.out
        have HP1 : Hid (Prt w1 vs ps) := HP.out.below hB1.out
        have HW1 : Hid (Below w.heap.size w w1) := HB.out.trans (hB1.out.mono HB.out.size)
        clear HO HP HB hB1 HOp
        go_wp2_with (first
          | (at_builtin; refine wpList_append_own _ rfl (.tmp 27) (.tmp 29) 37 rfl w.heap.size 22 iB (.slice none 0 0) 1 24 Tryd.underlying37 hiB hzB0 hzB1 hzB2 rfl (by decide) _ _ _ rfl (HO1.out.alloc _) ⟨w1.heap.size, 0, none⟩ 1 1 [.slice bo nn cc] rfl rfl (one_new _ _ _) (one_okS _ _ _) (by unfold maxLen; omega) (by omega) (by have := HW1.out.size; simp; omega) ?_; intro v2 w2 hown2 hgr2 hnil2))
        have hbA : ∀ (g : Nat) (cur : Array Value), w1.heap[g]? = some (.cells cur 5 (0, 0)) → w2.heap[g]? = w1.heap[g]? := fun x cur hx => (hgr2.block x (by have := blk_lt hx; simp; omega) (own_block_ne HO1.out hx)).trans (Below.heap_alloc _ _ _ (blk_lt hx))
        have hzA : w1.heap.size ≤ w2.heap.size := by have := hgr2.size; simp at this; omega
        obtain ⟨k1, k2⟩ := has_move hH.out hT.out hbA hzA
        have HP2 : Hid (Prt w2 (vs ++ [.slice bo nn cc]) (ps ++ [p])) := (HP1.out.move hbA hzA).snoc k1 k2
        have HB2 : Hid (Below w.heap.size w w2) := (HW1.out.alloc HW1.out.size _).grown hgr2 (by have := HW1.out.size; simp; omega) (fun k e => (HO1.out.lt k e).1)
        clear hgr2 hnil2 hbA k1 k2
        go_roundw
        case rel =>
          refine ⟨d + u, f', vs ++ [.slice bo nn cc], ps ++ [p], by omega, by go_num, by omega, by simp; omega, HF2, ?_, HP2, HB2⟩
          show w2.ownsRow w.heap.size 22 1 v2 (ps ++ [p]).length _
          simpa using hown2
        case measure => simp [intOf]; omega
      · have z1 : ((c : Int) != 0) = true := by rw [bne_iff_ne]; omega
        have HSe : Hid (scanN len l = (ps, d, c)) := by
          show _ = _
          rw [HS.out, HF.out, if_neg hc0]
          simp
        clear HS HF HBd HDD hc0
        go_wp2_with fail
        refine HOp.out.mono ?_
        rintro e w1 ⟨bo, nn, cc, rfl, hH, hT, hB1⟩
        go_wp2
        go_ret3
        rw [HSe.out]
        exact ⟨_, vs, rfl, HO.out.kept_below hB1.out, HP.out.below hB1.out, HB.out.trans (hB1.out.mono HB.out.size)⟩
    · have hdd : d = len := by omega
      have HSe : Hid (scanN len l = (ps, d, 0)) := by
        show _ = _
        rw [HS.out, List.drop_of_length_le (by rw [HL.out]; omega), scanN_nil]
        simp
      go_wp2
      go_ret3
      rw [HSe.out]
      exact ⟨_, vs, rfl, HO, HP, HB⟩
set_option maxRecDepth 100000 in
theorem rscan_none (a : Option Addr) (cap : Nat) (w : World) :
    Calls Tryd.prog 27 #[.slice a 0 cap] w fun e w' => e = .returned (.tuple #[.slice none 0 0, .int .i64 0, .int .i64 0]) ∧ w' = w := by
  go_enter Tryd.func27, Tryd.ntmps27
  go_wp2
  refine wp_loop_rounds 1 ?_
  rw [rounds_succ]
  go_wp2
  go_ret3
  exact ⟨rfl, rfl⟩
theorem rscan_any (a : Option Addr) (len cap : Nat) (l : List UInt8) (w : World) (h : Has w a len cap l) (hlm : len ≤ 1073741824) :
    Calls Tryd.prog 27 #[.slice a len cap] w fun e w' => ∃ (v : Value) (vs : List Value), e = .returned (.tuple #[v, .int .i64 ((scanN len l).2.1 : Int), .int .i64 ((scanN len l).2.2 : Int)]) ∧
      Hid (w'.ownsRow w.heap.size 22 1 v (scanN len l).1.length vs) ∧ Hid (Prt w' vs (scanN len l).1) ∧ Hid (Below w.heap.size w w') := by
  rcases Nat.eq_zero_or_pos len with h0 | h0
  · subst h0
    refine (rscan_none a cap w).mono fun e w' ⟨he, hw⟩ => ?_
    subst hw
    exact ⟨_, [], he, World.ownsRow_nil _ _ _ _, ⟨rfl, fun i h1 => (by simp [scanN] at h1)⟩, Below.refl _ _⟩
  · obtain ⟨b, off, rfl, _⟩ := h.2.2.2.2 h0
    exact rscan_some b off len cap l w h hlm
end Go.Proofs.YtipkjiacikdmmaaDoor
