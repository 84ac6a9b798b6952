/-
  What wire.Scan answers for any bytes that memory holds: the frames with which they begin, each in new memory of its own. Conditions: the table of the sum lies in its place; the slice holds the bytes, at most 2^30.
-/
import Derived.Test.YtipkjiacikdmmaaDoorOpen
namespace Go.Proofs.YtipkjiacikdmmaaDoor
open Go.RowKit
set_option linter.unusedVariables false

/-- The frames with which bytes begin: what they hold, how long they are, the error's number. -/
def scanN : Nat → List UInt8 → List (List UInt8) × Nat × Nat
  | 0, _ => ([], 0, 0)
  | f + 1, l => if l = [] then ([], 0, 0) else if (opn l).2.2 = 0 then ((opn l).1 :: (scanN f (l.drop (opn l).2.1)).1, (opn l).2.1 + (scanN f (l.drop (opn l).2.1)).2.1, (scanN f (l.drop (opn l).2.1)).2.2) else ([], 0, (opn l).2.2)
theorem scanN_nil (f : Nat) : scanN f [] = ([], 0, 0) := by cases f <;> simp [scanN]

theorem opn_bd (l : List UInt8) (h : (opn l).2.2 = 0) : 8 ≤ (opn l).2.1 ∧ (opn l).2.1 ≤ l.length ∧ (opn l).1.length + 8 = (opn l).2.1 := by
  unfold opn at h ⊢
  by_cases c1 : l.length < 4
  · rw [if_pos c1] at h; simp at h
  · rw [if_neg c1] at h ⊢
    by_cases c2 : 1048576 < valFrom 0 (l.take 4)
    · rw [if_pos c2] at h; simp at h
    · rw [if_neg c2] at h ⊢
      by_cases c3 : l.length < valFrom 0 (l.take 4) + 8
      · rw [if_pos c3] at h; simp at h
      · rw [if_neg c3] at h ⊢
        by_cases c4 : valFrom 0 ((l.drop (4 + valFrom 0 (l.take 4))).take 4) ≠ crc (l.take (4 + valFrom 0 (l.take 4)))
        · rw [if_pos c4] at h; simp at h
        · rw [if_neg c4]
          refine ⟨by simp, by simp; omega, by simp; omega⟩

/-- Slices of rows, each at the head of a block of its own. -/
def svs : List Nat → List (List UInt8) → List Value
  | g :: gs, p :: ps => .slice (some ⟨g, 0, none⟩) p.length p.length :: svs gs ps
  | _, _ => []
theorem svs_append : ∀ (gs : List Nat) (ps : List (List UInt8)) (g : Nat) (p : List UInt8), gs.length = ps.length → svs (gs ++ [g]) (ps ++ [p]) = svs gs ps ++ [.slice (some ⟨g, 0, none⟩) p.length p.length]
  | [], [], g, p, _ => rfl
  | [], _ :: _, g, p, h => by simp at h
  | _ :: _, [], g, p, h => by simp at h
  | a :: gs, b :: ps, g, p, h => by simp only [List.cons_append, svs]; rw [svs_append gs ps g p (by simpa using h)]
theorem svs_length : ∀ (gs : List Nat) (ps : List (List UInt8)), gs.length = ps.length → (svs gs ps).length = ps.length
  | [], [], _ => rfl
  | [], _ :: _, h => by simp at h
  | _ :: _, [], h => by simp at h
  | a :: gs, b :: ps, h => by simp only [svs, List.length_cons]; rw [svs_length gs ps (by simpa using h)]
theorem svs_get : ∀ (gs : List Nat) (ps : List (List UInt8)) (i : Nat) (h1 : i < gs.length) (h2 : i < ps.length), (svs gs ps)[i]? = some (.slice (some ⟨gs[i], 0, none⟩) ps[i].length ps[i].length)
  | [], _, i, h1, _ => by simp at h1
  | _ :: _, [], i, _, h2 => by simp at h2
  | a :: gs, b :: ps, 0, _, _ => by simp [svs]
  | a :: gs, b :: ps, i + 1, h1, h2 => by
    simp only [svs, List.getElem?_cons_succ, List.getElem_cons_succ]
    exact svs_get gs ps i (by simpa using h1) (by simpa using h2)

/-- Each row fills a block of its own, the later ones behind the earlier. -/
structure OwnParts (w : World) (base : Nat) (gs : List Nat) (ps : List (List UInt8)) : Prop where
  len : gs.length = ps.length
  block : ∀ i (h1 : i < gs.length) (h2 : i < ps.length), w.heap[gs[i]]? = some (.cells (ps[i].map bv).toArray 5 (0, 0))
  above : ∀ g ∈ gs, base ≤ g
  sorted : ∀ i j (h1 : i < gs.length) (h2 : j < gs.length), i < j → gs[i] < gs[j]
theorem OwnParts.lt {w : World} {base : Nat} {gs : List Nat} {ps : List (List UInt8)} (h : OwnParts w base gs ps) : ∀ g ∈ gs, g < w.heap.size := by
  intro g hg
  obtain ⟨i, hi, rfl⟩ := List.mem_iff_getElem.1 hg
  have := h.block i hi (by rw [← h.len]; exact hi)
  rcases Nat.lt_or_ge gs[i] w.heap.size with h1 | h1
  · exact h1
  · rw [Array.getElem?_eq_none h1] at this; cases this
theorem OwnParts.kept {w w' : World} {base : Nat} {gs : List Nat} {ps : List (List UInt8)} (h : OwnParts w base gs ps) (hb : ∀ g ∈ gs, w'.heap[g]? = w.heap[g]?) : OwnParts w' base gs ps :=
  ⟨h.len, fun i h1 h2 => (hb _ (List.getElem_mem h1)).trans (h.block i h1 h2), h.above, h.sorted⟩
theorem OwnParts.snoc {w : World} {base : Nat} {gs : List Nat} {ps : List (List UInt8)} (h : OwnParts w base gs ps) (g : Nat) (p : List UInt8) (hg : w.heap[g]? = some (.cells (p.map bv).toArray 5 (0, 0))) (hb : base ≤ g) (hgt : ∀ x ∈ gs, x < g) : OwnParts w base (gs ++ [g]) (ps ++ [p]) := by
  have hl := h.len
  refine ⟨by simp [hl], fun i h1 h2 => ?_, fun x hx => ?_, fun i j h1 h2 hij => ?_⟩
  · by_cases hi : i < gs.length
    · rw [List.getElem_append_left hi, List.getElem_append_left (by omega)]
      exact h.block i hi (by omega)
    · have e1 : i = gs.length := by simp at h1; omega
      subst e1
      have e2 : (ps ++ [p])[gs.length]'h2 = p := by simp [hl]
      have e3 : (gs ++ [g])[gs.length]'h1 = g := by simp
      rw [e2, e3]
      exact hg
  · rcases List.mem_append.1 hx with hx | hx
    · exact h.above x hx
    · simp at hx; omega
  · by_cases hj : j < gs.length
    · rw [List.getElem_append_left hj, List.getElem_append_left (by omega)]
      exact h.sorted i j (by omega) hj hij
    · have e1 : j = gs.length := by simp at h2; omega
      subst e1
      have e3 : (gs ++ [g])[gs.length]'h2 = g := by simp
      rw [e3, List.getElem_append_left hij]
      exact hgt _ (List.getElem_mem hij)

theorem Tryd.infoB : (Tryd.prog.info? 22).map (fun i => (i.zero, i.size, i.bytes)) = some (some (.slice none 0 0), 1, 24) := by kernel_rfl
theorem one_okS (a : Option Addr) (n c : Nat) : ∀ u ∈ [Value.slice a n c], u.oneCell' = true := by
  intro u hu; simp at hu; subst hu; rfl
theorem own_block_ne {w : World} {base : Nat} {v : Value} {n : Nat} {xs : List Value} {g : Nat} {C : Array Value} {fz : Nat × Nat} (h : w.ownsRow base 22 1 v n xs) (hg : w.heap[g]? = some (.cells C 5 fz)) : some g ≠ v.ownBlock := by
  obtain ⟨_, ⟨rfl, _⟩ | ⟨g', c, cur, rfl, _, hh, _⟩⟩ := h
  · simp [Value.ownBlock]
  · simp only [Value.ownBlock, ne_eq, Option.some.injEq]
    rintro rfl
    rw [hg] at hh
    simp at hh

theorem _root_.Go.World.ownsRow.kept_below {w w' : World} {base : Nat} {e : TypeId} {size : Nat} {v : Value} {n : Nat} {xs : List Value} (h : w.ownsRow base e size v n xs) (hb : Below w.heap.size w w') : w'.ownsRow base e size v n xs :=
  h.kept (row := none) ⟨hb.os, hb.tape, hb.output, hb.size, fun j hj _ => hb.block j hj⟩ (by cases hq : v.ownBlock <;> simp)

set_option maxRecDepth 100000 in
set_option maxHeartbeats 2000000 in
theorem scan_some (b off len cap : Nat) (l : List UInt8) (w : World) (h : Has w (some ⟨b, off, none⟩) len cap l) (hT : TabIs w) (hlm : len ≤ 1073741824) :
    Calls Tryd.prog 26 #[.slice (some ⟨b, off, none⟩) len cap] w fun e w' => ∃ (v : Value) (gs : List Nat) (ev : Value), e = .returned (.tuple #[v, .int .i64 ((scanN len l).2.1 : Int), ev]) ∧
      Hid (ev = errV (scanN len l).2.2) ∧ Hid (w'.ownsRow w.heap.size 22 1 v (scanN len l).1.length (svs gs (scanN len l).1)) ∧ Hid (OwnParts w' w.heap.size gs (scanN len l).1) ∧ Hid (Below w.heap.size w w') := by
  obtain ⟨iB, hiB, hzB0, hzB1, hzB2⟩ := info_parts Tryd.infoB
  have HH : Hid (Has w (some ⟨b, off, none⟩) len cap l) := h
  have HL : Hid (l.length = len) := h.1
  have hlc := h.2.1
  have hcm : cap ≤ maxLen := h.2.2.1
  unfold maxLen at hcm
  have HT : Hid (TabIs w) := hT
  clear h hT
  have hlm' : (len : Int) ≤ 1073741824 := by omega
  go_enter Tryd.func26, Tryd.ntmps26
  go_wp2_with fail
  go_loopw [5, 6] (fun v i wr => ∃ (d f : Nat) (gs : List Nat) (ps : List (List UInt8)), d ≤ len ∧ i = .int .i64 (d : Int) ∧ len - d ≤ f ∧ 8 * ps.length ≤ d ∧
      Hid (scanN len l = (ps ++ (scanN f (l.drop d)).1, d + (scanN f (l.drop d)).2.1, (scanN f (l.drop d)).2.2)) ∧ Hid (wr.ownsRow w.heap.size 22 1 v ps.length (svs gs ps)) ∧ Hid (OwnParts wr w.heap.size gs ps) ∧ Hid (Below w.heap.size w wr)) (fun _ i _ => len - (intOf i).toNat)
  case atStart => exact ⟨0, len, [], [], Nat.zero_le _, rfl, by omega, by simp, (by show scanN len l = _; simp), World.ownsRow_nil _ _ _ _, ⟨rfl, fun i h1 => (by simp at h1), fun g hg => (by simp at hg), fun i j h1 => (by simp at h1)⟩, Below.refl _ _⟩
  case round =>
    obtain ⟨d, f, gs, ps, hd, rfl, hf, hps, HS, HO, HP, HB⟩ := hrel
    by_cases hdl : d < len
    · have hdl' : (d : Int) < (len : Int) := by omega
      have hcd : ¬ cap = d := by omega
      have hc := (HH.out.below HB.out).cut d len (by omega) (Nat.le_refl _) (a := some ⟨b, off + d, none⟩) (fun _ => rfl) (by simp)
      rw [List.take_of_length_le (by rw [List.length_drop, HL.out]; omega)] at hc
      have hop := open_any _ _ _ _ wr hc (HT.out.below HB.out HT.out.lt) (by omega)
      obtain ⟨f', hf'⟩ : ∃ f', f = f' + 1 := ⟨f - 1, by omega⟩
      have hne : l.drop d ≠ [] := by intro e; have := congrArg List.length e; rw [List.length_drop, HL.out] at this; simp at this; omega
      have HF : Hid (scanN f (l.drop d) = if (opn (l.drop d)).2.2 = 0 then ((opn (l.drop d)).1 :: (scanN f' ((l.drop d).drop (opn (l.drop d)).2.1)).1, (opn (l.drop d)).2.1 + (scanN f' ((l.drop d).drop (opn (l.drop d)).2.1)).2.1, (scanN f' ((l.drop d).drop (opn (l.drop d)).2.1)).2.2) else ([], 0, (opn (l.drop d)).2.2)) := by
        show scanN f (l.drop d) = _
        rw [hf', scanN, if_neg hne]
      have hld : (l.drop d).length = len - d := by rw [List.length_drop, HL.out]
      have hff : len ≤ d + 1 + f' := by omega
      clear hc hne hf'
      go_wp2_with fail
      refine hop.mono ?_
      rintro e w1 ⟨hopl, hb1⟩
      have HB1 : Hid (Below wr.heap.size wr w1) := hb1
      clear hop hb1
      rcases hopl with ⟨c, hc, hc0, rfl⟩ | ⟨g, n, u, hu, h0, rfl, hg, hown⟩
      · have HC : Hid (opn (l.drop d) = ([], 0, c)) := hc
        have HC0 : Hid (c ≠ 0) := hc0
        clear hc hc0
        go_wp2
        go_ret3
        have e : scanN len l = (ps, d, c) := by
          rw [HS.out, HF.out, HC.out, if_neg HC0.out]
          simp
        rw [e]
        exact ⟨_, gs, _, rfl, (by show _ = errV c; simp [errV, HC0.out]), HO.out.kept_below HB1.out, HP.out.kept (fun x hx => HB1.out.block x (HP.out.lt x hx)), HB.out.trans (HB1.out.mono HB.out.size)⟩
      · have hbd := opn_bd (l.drop d) h0
        rw [hu, hld] at hbd
        have hn : (opn (l.drop d)).1.length = n := by have := hown.1; simpa using this
        have HF2 : Hid (scanN len l = ((ps ++ [(opn (l.drop d)).1]) ++ (scanN f' (l.drop (d + u))).1, (d + u) + (scanN f' (l.drop (d + u))).2.1, (scanN f' (l.drop (d + u))).2.2)) := by
          show scanN len l = _
          rw [HS.out, HF.out, if_pos h0, hu, List.drop_drop]
          simp [Nat.add_assoc]
        have HG : Hid (w1.heap[g]? = some (.cells ((opn (l.drop d)).1.map bv).toArray 5 (0, 0))) := block_of_owns hown
        have HO1 : Hid (w1.ownsRow w.heap.size 22 1 _ ps.length (svs gs ps)) := HO.out.kept_below HB1.out
        have HP1 : Hid (OwnParts w1 w.heap.size gs ps) := HP.out.kept (fun x hx => HB1.out.block x (HP.out.lt x hx))
        have HGt : Hid (∀ x ∈ gs, x < g) := fun x hx => Nat.lt_of_lt_of_le (HP.out.lt x hx) hg
        have HGb : Hid (w.heap.size ≤ g) := Nat.le_trans HB.out.size hg
        have HW1 : Hid (Below w.heap.size w w1) := HB.out.trans (HB1.out.mono HB.out.size)
        obtain ⟨p, hp⟩ : ∃ p, (opn (l.drop d)).1 = p := ⟨_, rfl⟩
        rw [hp] at HF2 HG hbd hn
        subst hn
        clear h0 hu hown hp hg HB HB1 HO HP HF HS
        go_wp2_with (first
          | (at_builtin; refine wpList_append_own _ rfl (.tmp 27) (.tmp 29) 37 rfl w.heap.size 22 iB (.slice none 0 0) 1 24 Tryd.underlying37 hiB hzB0 hzB1 hzB2 rfl (by decide) _ _ _ rfl (HO1.out.alloc _) ⟨w1.heap.size, 0, none⟩ 1 1 [.slice (some ⟨g, 0, none⟩) p.length p.length] rfl rfl (one_new _ _ _) (one_okS _ _ _) (by unfold maxLen; omega) (by omega) (by have := HW1.out.size; simp; omega) ?_; intro v2 w2 hown2 hgr2 hnil2))
        have hbA : ∀ x, x < w1.heap.size → some x ≠ (u5).ownBlock → w2.heap[x]? = w1.heap[x]? := fun x hx hne => (hgr2.block x (by simp; omega) hne).trans (Below.heap_alloc _ _ _ hx)
        have hgl : g < w1.heap.size := by
          rcases Nat.lt_or_ge g w1.heap.size with h1 | h1
          · exact h1
          · have := HG.out; rw [Array.getElem?_eq_none h1] at this; cases this
        have HG2 : Hid (w2.heap[g]? = some (.cells (p.map bv).toArray 5 (0, 0))) := (hbA g hgl (own_block_ne HO1.out HG.out)).trans HG.out
        have HP2 : Hid (OwnParts w2 w.heap.size gs ps) := HP1.out.kept (fun x hx => hbA x (HP1.out.lt x hx) (by
          obtain ⟨i, hi, rfl⟩ := List.mem_iff_getElem.1 hx
          exact own_block_ne HO1.out (HP1.out.block i hi (by rw [← HP1.out.len]; exact hi))))
        have HB2 : Hid (Below w.heap.size w w2) := (HW1.out.alloc HW1.out.size _).grown hgr2 (by have := HW1.out.size; simp; omega) (fun k e => (HO1.out.lt k e).1)
        clear hgr2 hnil2 hbA
        go_roundw
        case rel =>
          refine ⟨d + u, f', gs ++ [g], ps ++ [p], by omega, by go_num, by omega, by simp; omega, HF2, ?_, HP2.out.snoc g p HG2.out HGb.out HGt.out, HB2⟩
          rw [svs_append gs ps g p HP2.out.len]
          show w2.ownsRow w.heap.size 22 1 v2 (ps ++ [p]).length _
          simpa using hown2
        case measure => simp [intOf]; omega
    · have hdd : d = len := by omega
      go_wp2
      go_ret3
      have e : scanN len l = (ps, d, 0) := by
        rw [HS.out, List.drop_of_length_le (by rw [HL.out]; omega), scanN_nil]
        simp
      rw [e]
      exact ⟨_, gs, _, rfl, rfl, HO, HP, HB⟩

set_option maxRecDepth 100000 in
theorem scan_none (a : Option Addr) (cap : Nat) (w : World) :
    Calls Tryd.prog 26 #[.slice a 0 cap] w fun e w' => e = .returned (.tuple #[.slice none 0 0, .int .i64 0, .nilIface]) ∧ w' = w := by
  go_enter Tryd.func26, Tryd.ntmps26
  go_wp2
  refine wp_loop_rounds 1 ?_
  rw [rounds_succ]
  go_wp2
  go_ret3
  exact ⟨rfl, rfl⟩
theorem scan_any (a : Option Addr) (len cap : Nat) (l : List UInt8) (w : World) (h : Has w a len cap l) (hT : TabIs w) (hlm : len ≤ 1073741824) :
    Calls Tryd.prog 26 #[.slice a len cap] w fun e w' => ∃ (v : Value) (gs : List Nat) (ev : Value), e = .returned (.tuple #[v, .int .i64 ((scanN len l).2.1 : Int), ev]) ∧
      Hid (ev = errV (scanN len l).2.2) ∧ Hid (w'.ownsRow w.heap.size 22 1 v (scanN len l).1.length (svs gs (scanN len l).1)) ∧ Hid (OwnParts w' w.heap.size gs (scanN len l).1) ∧ Hid (Below w.heap.size w w') := by
  rcases Nat.eq_zero_or_pos len with h0 | h0
  · subst h0
    refine (scan_none a cap w).mono fun e w' ⟨he, hw⟩ => ?_
    subst hw
    exact ⟨_, [], _, he, rfl, World.ownsRow_nil _ _ _ _, ⟨rfl, fun i h1 => (by simp at h1), fun g hg => (by simp at hg), fun i j h1 => (by simp at h1)⟩, Below.refl _ _⟩
  · obtain ⟨b, off, rfl, _⟩ := h.2.2.2.2 h0
    exact scan_some b off len cap l w h hT hlm
end Go.Proofs.YtipkjiacikdmmaaDoor
