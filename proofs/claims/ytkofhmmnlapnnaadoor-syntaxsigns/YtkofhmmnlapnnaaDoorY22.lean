/-
  muntinlaw04.SyntaxSigns: the walk, for any signs, if the source is read as one rule whose body is the tree that the statement makes, but for places. Conditions: those that each theorem names.
-/
import Derived.Test.YtkofhmmnlapnnaaDoorY21
import Derived.Laws.Concat
import Derived.Deep.DeepCutAuto
import Derived.Deep.RegionWith
namespace Go.Proofs.YtkofhmmnlapnnaaDoor
open Go.RowKit
set_option linter.unusedVariables false
theorem own1 {w W : World} {g cap : Nat} {x : Rl} (h : RoR w.heap.size (.slice (some ⟨g, 0, none⟩) 1 cap) [x] W) : ∃ kd T C so sl sc p, NdIs W (fun g => w.heap.size ≤ g) x.2.1 (n8 kd T C (.slice so sl sc) p) ∧ g < W.heap.size ∧ (W.cell? ⟨g, 1, none⟩ = some (.int .i64 (kd : Int)) ∧ W.cell? ⟨g, 2, none⟩ = some (.string T) ∧ W.cell? ⟨g, 3, none⟩ = some (.int .u64 (wd C 0 : Nat)) ∧ W.cell? ⟨g, 4, none⟩ = some (.int .u64 (wd C 1 : Nat)) ∧ W.cell? ⟨g, 5, none⟩ = some (.int .u64 (wd C 2 : Nat)) ∧ W.cell? ⟨g, 6, none⟩ = some (.int .u64 (wd C 3 : Nat)) ∧ W.cell? ⟨g, 7, none⟩ = some (.slice so sl sc) ∧ W.cell? ⟨g, 8, none⟩ = some (.int .i64 (p : Int))) := by
  have hgl : g < W.heap.size := by obtain ⟨xs, h1, _⟩ := h; exact (h1.lt g rfl).2
  obtain ⟨c, h1, h2⟩ := h.get 0 (by simp)
  obtain ⟨cs, rfl, h3⟩ := h1
  obtain ⟨kd, T, C, so, sl, sc, rfl⟩ := h3.shape
  exact ⟨kd, T, C, so, sl, sc, _, h3, hgl, h2 1 _ rfl, h2 2 _ rfl, h2 3 _ rfl, h2 4 _ rfl, h2 5 _ rfl, h2 6 _ rfl, h2 7 _ rfl, h2 8 _ rfl⟩
/-- What stands once the source is read. -/
def Sg (w : World) (x : Rl) (G g cap : Nat) (W : World) : Prop := Below w.heap.size w W ∧ RoR w.heap.size (.slice (some ⟨g, 0, none⟩) 1 cap) [x] W ∧ W.heap[G]? = some (.cells #[.slice (some ⟨g, 0, none⟩) 1 cap] 25)
theorem sg_new {w w2 : World} {x : Rl} {g cap : Nat} (hb : Below w.heap.size w w2) (hr : RoR w.heap.size (.slice (some ⟨g, 0, none⟩) 1 cap) [x] w2) : Sg w x w2.heap.size g cap (w2.alloc (.cells #[.slice (some ⟨g, 0, none⟩) 1 cap] 25)) :=
  ⟨hb.alloc hb.size _, hr.below ((Below.refl _ _).alloc (Nat.le_refl _) _), new_block_at _ _ rfl⟩
theorem sg_old {w w2 : World} {x : Rl} {K D g cap : Nat} (hb : Below w.heap.size w w2) (hr : RoR D (.slice (some ⟨g, 0, none⟩) 1 cap) [x] w2) (hD : K < D) (hK : w.heap.size ≤ K) (hk : w2.heap[K]? = some (.cells #[.slice none 0 0] 25)) : Sg w x K g cap (w2.setCell ⟨K, 0, none⟩ (.slice (some ⟨g, 0, none⟩) 1 cap)) := by
  refine ⟨Below.setNew hb hK, (hr.grown (G.setR (G.refl w2 K)) (by omega)).low (by omega), ?_⟩
  simp only [World.setCell, Array.getElem?_modify, if_true]
  rw [hk]
  simp
theorem NdIs.one {w : World} {P : Nat → Prop} {n : Nd} {kd s : Nat} {a0 a1 a2 a3 a4 a5 a6 a7 : Value} (h : NdIs w P n [a0, a1, a2, a3, a4, a5, a6, a7]) (hs : w.heap[s]? = some (.cells #[a0, a1, a2, a3, a4, a5, a6, a7] 41)) (hp : P s) : NdIs w P (.mk kd { data := #[] } 0 [n] 0) (n8 kd { data := #[] } 0 (.slice (some ⟨s, 0, none⟩) 1 1) 0) := by
  rw [NdIs]
  refine ⟨_, rfl, .inr ⟨rfl, s, 1, _, rfl, hp, hs, by unfold maxLen; omega, ?_⟩⟩
  rw [NdsIs]
  exact ⟨_, [], rfl, h, by rw [NdsIs]; trivial⟩
theorem keep_sg {WN W W' : World} {G g N cap kd C p sl sc kd2 sl2 sc2 : Nat} {T T2 : ByteArray} {so so2 : Option Addr} (hG : G < WN.heap.size) (hg : g < WN.heap.size) (hN : N < WN.heap.size) (hb : Below W.heap.size W W') (h : Hid (Below WN.heap.size WN W) ∧ W.cell? ⟨G, 0, none⟩ = some (.slice (some ⟨g, 0, none⟩) 1 cap) ∧ W.cell? ⟨g, 1, none⟩ = some (.int .i64 (kd : Int)) ∧ W.cell? ⟨g, 2, none⟩ = some (.string T) ∧ W.cell? ⟨g, 3, none⟩ = some (.int .u64 (wd C 0 : Nat)) ∧ W.cell? ⟨g, 4, none⟩ = some (.int .u64 (wd C 1 : Nat)) ∧ W.cell? ⟨g, 5, none⟩ = some (.int .u64 (wd C 2 : Nat)) ∧ W.cell? ⟨g, 6, none⟩ = some (.int .u64 (wd C 3 : Nat)) ∧ W.cell? ⟨g, 7, none⟩ = some (.slice so sl sc) ∧ W.cell? ⟨g, 8, none⟩ = some (.int .i64 (p : Int)) ∧ W.cell? ⟨N, 0, none⟩ = some (.int .i64 (kd2 : Int)) ∧ W.cell? ⟨N, 1, none⟩ = some (.string T2) ∧ W.cell? ⟨N, 2, none⟩ = some (.int .u64 0) ∧ W.cell? ⟨N, 3, none⟩ = some (.int .u64 0) ∧ W.cell? ⟨N, 4, none⟩ = some (.int .u64 0) ∧ W.cell? ⟨N, 5, none⟩ = some (.int .u64 0) ∧ W.cell? ⟨N, 6, none⟩ = some (.slice so2 sl2 sc2) ∧ W.cell? ⟨N, 7, none⟩ = some (.int .i64 0)) : Hid (Below WN.heap.size WN W') ∧ W'.cell? ⟨G, 0, none⟩ = some (.slice (some ⟨g, 0, none⟩) 1 cap) ∧ W'.cell? ⟨g, 1, none⟩ = some (.int .i64 (kd : Int)) ∧ W'.cell? ⟨g, 2, none⟩ = some (.string T) ∧ W'.cell? ⟨g, 3, none⟩ = some (.int .u64 (wd C 0 : Nat)) ∧ W'.cell? ⟨g, 4, none⟩ = some (.int .u64 (wd C 1 : Nat)) ∧ W'.cell? ⟨g, 5, none⟩ = some (.int .u64 (wd C 2 : Nat)) ∧ W'.cell? ⟨g, 6, none⟩ = some (.int .u64 (wd C 3 : Nat)) ∧ W'.cell? ⟨g, 7, none⟩ = some (.slice so sl sc) ∧ W'.cell? ⟨g, 8, none⟩ = some (.int .i64 (p : Int)) ∧ W'.cell? ⟨N, 0, none⟩ = some (.int .i64 (kd2 : Int)) ∧ W'.cell? ⟨N, 1, none⟩ = some (.string T2) ∧ W'.cell? ⟨N, 2, none⟩ = some (.int .u64 0) ∧ W'.cell? ⟨N, 3, none⟩ = some (.int .u64 0) ∧ W'.cell? ⟨N, 4, none⟩ = some (.int .u64 0) ∧ W'.cell? ⟨N, 5, none⟩ = some (.int .u64 0) ∧ W'.cell? ⟨N, 6, none⟩ = some (.slice so2 sl2 sc2) ∧ W'.cell? ⟨N, 7, none⟩ = some (.int .i64 0) := by
  obtain ⟨h0, h1, x0, x1, x2, x3, x4, x5, x6, x7, y0, y1, y2, y3, y4, y5, y6, y7⟩ := h
  have hs := h0.out.size
  have e : ∀ j i, j < WN.heap.size → W'.cell? ⟨j, i, none⟩ = W.cell? ⟨j, i, none⟩ := fun j i hj => hb.cell (p := ⟨j, i, none⟩) (show j < _ by omega)
  exact ⟨hid (h0.out.trans (hb.mono hs)), (e _ _ hG).trans h1, (e _ _ hg).trans x0, (e _ _ hg).trans x1, (e _ _ hg).trans x2, (e _ _ hg).trans x3, (e _ _ hg).trans x4, (e _ _ hg).trans x5, (e _ _ hg).trans x6, (e _ _ hg).trans x7, (e _ _ hN).trans y0, (e _ _ hN).trans y1, (e _ _ hN).trans y2, (e _ _ hN).trans y3, (e _ _ hN).trans y4, (e _ _ hN).trans y5, (e _ _ hN).trans y6, (e _ _ hN).trans y7⟩
set_option maxRecDepth 100000 in
set_option maxHeartbeats 16000000 in
theorem signs_walk (a b : Int) (A0 A B : Nat) (U V : ByteArray) (w : World) (h : ErrIs w) (ha : bits .and .i64 a 3 = (A0 : Int)) (hb : bits .and .i64 b 3 = (B : Int)) (hr : Int.tmod (A0 : Int) 3 = (A : Int)) (hA : A < 3) (hB : B < 4)
    (hU : (#[.string { data := #[] }, .string { data := #[38] }, .string { data := #[33] }] : Array Value)[A]? = some (.string U)) (hV : (#[.string { data := #[] }, .string { data := #[63] }, .string { data := #[42] }, .string { data := #[43] }] : Array Value)[B]? = some (.string V)) (hUs : U.size ≤ 1) (hVs : V.size ≤ 1) (x : Rl) (hx : Sm x.2.1 (sgN A B))
    (HPar : Hid (∀ W : World, Below w.heap.size w W → Calls Tryd.prog 8 #[.string ({ data := #[114, 32, 60, 45, 32] } ++ U ++ { data := #[98] } ++ V)] W fun e w' => ∃ g cap, e = .returned (.tuple #[.agg #[.slice (some ⟨g, 0, none⟩) 1 cap], .nilIface]) ∧ Hid (Below w.heap.size w w' ∧ RoR w.heap.size (.slice (some ⟨g, 0, none⟩) 1 cap) [x] w' ∧ RoR W.heap.size (.slice (some ⟨g, 0, none⟩) 1 cap) [x] w' ∧ Below W.heap.size W w'))) : Calls Tryd.prog 6 #[.int .i64 a, .int .i64 b] w fun e w' => e = .returned (.bool true) ∧ Below w.heap.size w w' := by
  have HSm := hid (ysmall_ok w h)
  have hAI : (A : Int) < 3 := by omega
  have hBI : (B : Int) < 4 := by omega
  have HX := hid hx
  have ad1 : ∀ w : World, (Op.stringOp .add { data := #[114, 32, 60, 45, 32] } U).run Tryd.prog w = .ok (.string ({ data := #[114, 32, 60, 45, 32] } ++ U)) w := fun w => run_string_add_sum w _ _ (by show 5 + U.size ≤ _; omega)
  have ad2 : ∀ w : World, (Op.stringOp .add ({ data := #[114, 32, 60, 45, 32] } ++ U) { data := #[98] }).run Tryd.prog w = .ok (.string ({ data := #[114, 32, 60, 45, 32] } ++ U ++ { data := #[98] })) w := fun w => run_string_add_sum w _ _ (by rw [ByteArray.size_append]; show 5 + U.size + 1 ≤ _; omega)
  have ad3 : ∀ w : World, (Op.stringOp .add ({ data := #[114, 32, 60, 45, 32] } ++ U ++ { data := #[98] }) V).run Tryd.prog w = .ok (.string ({ data := #[114, 32, 60, 45, 32] } ++ U ++ { data := #[98] } ++ V)) w := fun w => run_string_add_sum w _ _ (by rw [ByteArray.size_append, ByteArray.size_append]; show 5 + U.size + 1 + V.size ≤ _; omega)
  have hU2 : ∀ h : A < ([.string { data := #[] }, .string { data := #[38] }, .string { data := #[33] }] : List Value).length, ([.string { data := #[] }, .string { data := #[38] }, .string { data := #[33] }] : List Value)[A] = .string U := fun h => by
    have := hU
    simp only [List.getElem?_toArray] at this
    rw [List.getElem?_eq_getElem h] at this
    exact Option.some.inj this
  have hV2 : ∀ h : B < ([.string { data := #[] }, .string { data := #[63] }, .string { data := #[42] }, .string { data := #[43] }] : List Value).length, ([.string { data := #[] }, .string { data := #[63] }, .string { data := #[42] }, .string { data := #[43] }] : List Value)[B] = .string V := fun h => by
    have := hV
    simp only [List.getElem?_toArray] at this
    rw [List.getElem?_eq_getElem h] at this
    exact Option.some.inj this
  clear hU hV hx
  clear h
  go_enter Tryd.func6, Tryd.ntmps6
  go_wp2_with fail
  refine HSm.out.mono ?_
  rintro e w1 ⟨rfl, HB1⟩
  have HS1 : Hid (w.heap.size ≤ w1.heap.size) := HB1.out.size
  clear HSm
  go_wp2_with fail
  go_cut [8, 9] (fun s8 s9 wx => ∃ G g cap, s8 = .pointer (some ⟨G, 0, none⟩) ∧ s9 = .nilIface ∧ Hid (Sg w x G g cap wx))
  case first =>
    go_region_with (first | (go_at_call 8; refine (HPar.out _ (by repeat (first | exact HB1.out | refine Below.drew ?_ | refine Below.alloc ?_ (by have := HB1.out.size; simp <;> omega) _))).mono ?_; rintro e w2 ⟨g, cap, rfl, HR⟩; first | (have hk2 : w2.heap[w1.heap.size + 1 + 1]? = some (.cells #[.slice none 0 0] 25) := (HR.out.2.2.2.block _ (by simp <;> omega)).trans (new_block_at _ _ (by simp; done)); obtain ⟨e0, y0⟩ := one_cell hk2; have hl2 := node_lt hk2; have HK := hid hk2; clear hk2) | (have hk2 : w2.heap[w1.heap.size + 1]? = some (.cells #[.slice none 0 0] 25) := (HR.out.2.2.2.block _ (by simp <;> omega)).trans ((Below.heap_alloc _ _ _ (by simp; done)).trans (new_block_at _ _ (by simp; done))); obtain ⟨e0, y0⟩ := one_cell hk2; have hl2 := node_lt hk2; have HK := hid hk2; clear hk2) | (have hk2 : w2.heap[w1.heap.size]? = some (.cells #[.slice none 0 0] 25) := (HR.out.2.2.2.block _ (by simp <;> omega)).trans ((Below.heap_alloc _ _ _ (by simp <;> omega)).trans ((Below.heap_alloc _ _ _ (by simp <;> omega)).trans (new_block_at _ _ rfl))); obtain ⟨e0, y0⟩ := one_cell hk2; have hl2 := node_lt hk2; have HK := hid hk2; clear hk2) | skip))
    all_goals (try (go_wp2_with fail))
    all_goals (go_meet; case rel => first | exact ⟨_, _, _, rfl, rfl, hid (sg_new HR.out.1 HR.out.2.1)⟩ | exact ⟨_, _, _, rfl, rfl, hid (sg_old HR.out.1 HR.out.2.2.1 (by simp <;> omega) (by have := HS1.out; omega) HK.out)⟩)
  case rest =>
    obtain ⟨G, g, cap, rfl, rfl, HF⟩ := hcut
    clear HPar HB1 HS1 hU2 hV2 ad1 ad2 ad3
    have hk := HF.out.2.2
    obtain ⟨e0, y0⟩ := one_cell hk
    have hGl := node_lt hk
    clear hk
    obtain ⟨kd, T, C, so, sl, sc, p, hN0, hgl, x1, x2, x3, x4, x5, x6, x7, x8⟩ := own1 HF.out.2.1
    have HN := hid hN0
    clear hN0
    obtain ⟨KA, hKA⟩ : ∃ KA, KA = 10 + A := ⟨_, rfl⟩
    obtain ⟨KB, hKB⟩ : ∃ KB, KB = 7 + B := ⟨_, rfl⟩
    by_cases hA0 : A = 0 <;> by_cases hB0 : B = 0
    · have HTr : Hid (Sm x.2.1 (.mk 5 { data := #[98] } 0 [] 0)) := by
        have := HX.out
        unfold sgN at this
        simp only [if_pos hA0, if_pos hB0] at this
        exact this
      have t1 : decide ((0 : Int) < (B : Int)) = false := by simp; omega
      have t2 : decide ((0 : Int) < (A : Int)) = false := by simp; omega
      subst hB0
      subst hA0
      clear HX hKA hKB
      go_upto_region 10 with fail
      obtain ⟨WN, hWN⟩ : ∃ WN, WN = wc.alloc (.cells #[.int .i64 5, .string { data := #[98] }, .int .u64 0, .int .u64 0, .int .u64 0, .int .u64 0, .slice none 0 0, .int .i64 0] 41) := ⟨_, rfl⟩
      have B0 : Hid (WN.heap[wc.heap.size]? = some (.cells #[.int .i64 5, .string { data := #[98] }, .int .u64 0, .int .u64 0, .int .u64 0, .int .u64 0, .slice none 0 0, .int .i64 0] 41)) := by show _ = _; rw [hWN]; exact new_block_at _ _ (by first | rfl | (simp; done))
      have HBc : Hid (Below wc.heap.size wc WN) := by show Below _ _ _; rw [hWN]; exact ((Below.refl _ wc).alloc (by simp <;> omega) _)
      have HBN : Hid (Below w.heap.size w WN) := HF.out.1.trans (HBc.out.mono HF.out.1.size)
      have HWc : Hid (w.heap.size ≤ wc.heap.size) := HF.out.1.size
      rw [← hWN]
      clear hWN
      have HC : Hid (∀ W : World, Below WN.heap.size WN W → Calls Tryd.prog 12 #[.agg #[.int .i64 (kd : Int), .string T, .int .u64 (wd C 0 : Nat), .int .u64 (wd C 1 : Nat), .int .u64 (wd C 2 : Nat), .int .u64 (wd C 3 : Nat), .slice so sl sc, .int .i64 (p : Int)], .agg #[.int .i64 (5 : Int), .string { data := #[98] }, .int .u64 0, .int .u64 0, .int .u64 0, .int .u64 0, .slice none 0 0, .int .i64 0], .bool false] W fun e w' => e = .returned (.bool true) ∧ Below W.heap.size W w') := fun W hW => by
        have hm : NdIs WN (fun g => w.heap.size ≤ g) (.mk 5 { data := #[98] } 0 [] 0) (n8 5 { data := #[98] } 0 (.slice none 0 0) 0) := by
          have hq := (show NdIs WN (fun g => w.heap.size ≤ g) (.mk 5 { data := #[98] } 0 [] 0) [.int .i64 5, .string { data := #[98] }, .int .u64 0, .int .u64 0, .int .u64 0, .int .u64 0, .slice none 0 0, .int .i64 0] by rw [NdIs]; exact ⟨_, by simp [wd_zero], .inl ⟨rfl, rfl⟩⟩)
          simpa [n8, wd_zero] using hq
        have hz := zsame_all _ x.2.1 (.mk 5 { data := #[98] } 0 [] 0) _ _ _ _ W (Nat.lt_succ_self _) HTr.out ((HN.out.below HBc.out).below hW) (hm.below hW)
        simpa [n8, wd_zero] using hz
      have ce : ∀ j i, j < wc.heap.size → WN.cell? ⟨j, i, none⟩ = wc.cell? ⟨j, i, none⟩ := fun j i hj => HBc.out.cell (p := ⟨j, i, none⟩) hj
      have E0 := (ce G 0 hGl).trans e0
      have X1 := (ce g 1 hgl).trans x1
      have X2 := (ce g 2 hgl).trans x2
      have X3 := (ce g 3 hgl).trans x3
      have X4 := (ce g 4 hgl).trans x4
      have X5 := (ce g 5 hgl).trans x5
      have X6 := (ce g 6 hgl).trans x6
      have X7 := (ce g 7 hgl).trans x7
      have X8 := (ce g 8 hgl).trans x8
      obtain ⟨⟨m0, m1, m2, m3, m4, m5, m6, m7⟩, _⟩ := eight_cells B0.out
      have hNl := node_lt B0.out
      have hGl' : G < WN.heap.size := Nat.lt_of_lt_of_le hGl HBc.out.size
      have hgl' : g < WN.heap.size := Nat.lt_of_lt_of_le hgl HBc.out.size
      clear ce e0 x1 x2 x3 x4 x5 x6 x7 x8 HTr
      have S1 : (fun W => Hid (Below WN.heap.size WN W) ∧ W.cell? ⟨G, 0, none⟩ = some (.slice (some ⟨g, 0, none⟩) 1 cap) ∧ W.cell? ⟨g, 1, none⟩ = some (.int .i64 (kd : Int)) ∧ W.cell? ⟨g, 2, none⟩ = some (.string T) ∧ W.cell? ⟨g, 3, none⟩ = some (.int .u64 (wd C 0 : Nat)) ∧ W.cell? ⟨g, 4, none⟩ = some (.int .u64 (wd C 1 : Nat)) ∧ W.cell? ⟨g, 5, none⟩ = some (.int .u64 (wd C 2 : Nat)) ∧ W.cell? ⟨g, 6, none⟩ = some (.int .u64 (wd C 3 : Nat)) ∧ W.cell? ⟨g, 7, none⟩ = some (.slice so sl sc) ∧ W.cell? ⟨g, 8, none⟩ = some (.int .i64 (p : Int)) ∧ W.cell? ⟨wc.heap.size, 0, none⟩ = some (.int .i64 5) ∧ W.cell? ⟨wc.heap.size, 1, none⟩ = some (.string { data := #[98] }) ∧ W.cell? ⟨wc.heap.size, 2, none⟩ = some (.int .u64 0) ∧ W.cell? ⟨wc.heap.size, 3, none⟩ = some (.int .u64 0) ∧ W.cell? ⟨wc.heap.size, 4, none⟩ = some (.int .u64 0) ∧ W.cell? ⟨wc.heap.size, 5, none⟩ = some (.int .u64 0) ∧ W.cell? ⟨wc.heap.size, 6, none⟩ = some (.slice none 0 0) ∧ W.cell? ⟨wc.heap.size, 7, none⟩ = some (.int .i64 0)) WN.drew := keep_sg hGl' hgl' hNl (Below.refl _ WN).drew ⟨hid (Below.refl _ _), E0, X1, X2, X3, X4, X5, X6, X7, X8, m0, m1, m2, m3, m4, m5, m6, m7⟩
      go_wp2_with fail
      go_region_held3 (fun W => Hid (Below WN.heap.size WN W) ∧ W.cell? ⟨G, 0, none⟩ = some (.slice (some ⟨g, 0, none⟩) 1 cap) ∧ W.cell? ⟨g, 1, none⟩ = some (.int .i64 (kd : Int)) ∧ W.cell? ⟨g, 2, none⟩ = some (.string T) ∧ W.cell? ⟨g, 3, none⟩ = some (.int .u64 (wd C 0 : Nat)) ∧ W.cell? ⟨g, 4, none⟩ = some (.int .u64 (wd C 1 : Nat)) ∧ W.cell? ⟨g, 5, none⟩ = some (.int .u64 (wd C 2 : Nat)) ∧ W.cell? ⟨g, 6, none⟩ = some (.int .u64 (wd C 3 : Nat)) ∧ W.cell? ⟨g, 7, none⟩ = some (.slice so sl sc) ∧ W.cell? ⟨g, 8, none⟩ = some (.int .i64 (p : Int)) ∧ W.cell? ⟨wc.heap.size, 0, none⟩ = some (.int .i64 5) ∧ W.cell? ⟨wc.heap.size, 1, none⟩ = some (.string { data := #[98] }) ∧ W.cell? ⟨wc.heap.size, 2, none⟩ = some (.int .u64 0) ∧ W.cell? ⟨wc.heap.size, 3, none⟩ = some (.int .u64 0) ∧ W.cell? ⟨wc.heap.size, 4, none⟩ = some (.int .u64 0) ∧ W.cell? ⟨wc.heap.size, 5, none⟩ = some (.int .u64 0) ∧ W.cell? ⟨wc.heap.size, 6, none⟩ = some (.slice none 0 0) ∧ W.cell? ⟨wc.heap.size, 7, none⟩ = some (.int .i64 0)) (first | assumption | exact keep_sg hGl' hgl' hNl (by assumption) (by assumption)) (first | (go_at_call 12; refine (HC.out _ ?hh).mono ?_; (case hh => exact S1.1.out); rintro e wq ⟨rfl, hbq⟩))
      have HBq : Hid (Below w.heap.size w wq) := HBN.out.trans ((Below.trans (Below.refl _ WN).drew hbq).mono HBN.out.size)
      clear hbq S1 E0 X1 X2 X3 X4 X5 X6 X7 X8 m0 m1 m2 m3 m4 m5 m6 m7
      go_wp2_with fail
      go_ret
      exact ⟨rfl, HBq.out⟩
    · have HTr : Hid (Sm x.2.1 (.mk KB { data := #[] } 0 [.mk 5 { data := #[98] } 0 [] 0] 0)) := by
        have := HX.out
        unfold sgN at this
        simp only [if_pos hA0, if_neg hB0, ← hKB] at this
        exact this
      have t1 : decide ((0 : Int) < (B : Int)) = true := by simp; omega
      have k1 : (8 : Int) + (B : Int) - 1 = (KB : Int) := by omega
      have k1' : (8 : Int) + (B : Int) = (KB : Int) + 1 := by omega
      have t2 : decide ((0 : Int) < (A : Int)) = false := by simp; omega
      have hB1 : 0 < B := by omega
      subst hA0
      clear HX hKA hKB
      go_upto_region 10 with fail
      obtain ⟨WN, hWN⟩ : ∃ WN, WN = (wc.alloc (.cells #[.int .i64 (KB : Int), .string { data := #[] }, .int .u64 0, .int .u64 0, .int .u64 0, .int .u64 0, .slice (some ⟨wc.heap.size + 1, 0, none⟩) 1 1, .int .i64 0] 41)).alloc (.cells #[.int .i64 5, .string { data := #[98] }, .int .u64 0, .int .u64 0, .int .u64 0, .int .u64 0, .slice none 0 0, .int .i64 0] 41) := ⟨_, rfl⟩
      have B0 : Hid (WN.heap[wc.heap.size]? = some (.cells #[.int .i64 (KB : Int), .string { data := #[] }, .int .u64 0, .int .u64 0, .int .u64 0, .int .u64 0, .slice (some ⟨wc.heap.size + 1, 0, none⟩) 1 1, .int .i64 0] 41)) := by show _ = _; rw [hWN]; exact (Below.heap_alloc _ _ _ (by simp <;> omega)).trans (new_block_at _ _ (by first | rfl | (simp; done)))
      have B1 : Hid (WN.heap[wc.heap.size + 1]? = some (.cells #[.int .i64 5, .string { data := #[98] }, .int .u64 0, .int .u64 0, .int .u64 0, .int .u64 0, .slice none 0 0, .int .i64 0] 41)) := by show _ = _; rw [hWN]; exact new_block_at _ _ (by first | rfl | (simp; done))
      have HBc : Hid (Below wc.heap.size wc WN) := by show Below _ _ _; rw [hWN]; exact (((Below.refl _ wc).alloc (by simp <;> omega) _).alloc (by simp <;> omega) _)
      have HBN : Hid (Below w.heap.size w WN) := HF.out.1.trans (HBc.out.mono HF.out.1.size)
      have HWc : Hid (w.heap.size ≤ wc.heap.size) := HF.out.1.size
      rw [← hWN]
      clear hWN
      have HC : Hid (∀ W : World, Below WN.heap.size WN W → Calls Tryd.prog 12 #[.agg #[.int .i64 (kd : Int), .string T, .int .u64 (wd C 0 : Nat), .int .u64 (wd C 1 : Nat), .int .u64 (wd C 2 : Nat), .int .u64 (wd C 3 : Nat), .slice so sl sc, .int .i64 (p : Int)], .agg #[.int .i64 (KB : Nat), .string { data := #[] }, .int .u64 0, .int .u64 0, .int .u64 0, .int .u64 0, .slice (some ⟨wc.heap.size + 1, 0, none⟩) 1 1, .int .i64 0], .bool false] W fun e w' => e = .returned (.bool true) ∧ Below W.heap.size W w') := fun W hW => by
        have hm : NdIs WN (fun g => w.heap.size ≤ g) (.mk KB { data := #[] } 0 [.mk 5 { data := #[98] } 0 [] 0] 0) (n8 KB { data := #[] } 0 (.slice (some ⟨wc.heap.size + 1, 0, none⟩) 1 1) 0) := by
          have hq := NdIs.one (kd := KB) (show NdIs WN (fun g => w.heap.size ≤ g) (.mk 5 { data := #[98] } 0 [] 0) [.int .i64 5, .string { data := #[98] }, .int .u64 0, .int .u64 0, .int .u64 0, .int .u64 0, .slice none 0 0, .int .i64 0] by rw [NdIs]; exact ⟨_, by simp [wd_zero], .inl ⟨rfl, rfl⟩⟩) B1.out (by have := HWc.out; omega)
          simpa [n8, wd_zero] using hq
        have hz := zsame_all _ x.2.1 (.mk KB { data := #[] } 0 [.mk 5 { data := #[98] } 0 [] 0] 0) _ _ _ _ W (Nat.lt_succ_self _) HTr.out ((HN.out.below HBc.out).below hW) (hm.below hW)
        simpa [n8, wd_zero] using hz
      have ce : ∀ j i, j < wc.heap.size → WN.cell? ⟨j, i, none⟩ = wc.cell? ⟨j, i, none⟩ := fun j i hj => HBc.out.cell (p := ⟨j, i, none⟩) hj
      have E0 := (ce G 0 hGl).trans e0
      have X1 := (ce g 1 hgl).trans x1
      have X2 := (ce g 2 hgl).trans x2
      have X3 := (ce g 3 hgl).trans x3
      have X4 := (ce g 4 hgl).trans x4
      have X5 := (ce g 5 hgl).trans x5
      have X6 := (ce g 6 hgl).trans x6
      have X7 := (ce g 7 hgl).trans x7
      have X8 := (ce g 8 hgl).trans x8
      obtain ⟨⟨m0, m1, m2, m3, m4, m5, m6, m7⟩, _⟩ := eight_cells B0.out
      have hNl := node_lt B0.out
      have hGl' : G < WN.heap.size := Nat.lt_of_lt_of_le hGl HBc.out.size
      have hgl' : g < WN.heap.size := Nat.lt_of_lt_of_le hgl HBc.out.size
      clear ce e0 x1 x2 x3 x4 x5 x6 x7 x8 HTr
      have S1 : (fun W => Hid (Below WN.heap.size WN W) ∧ W.cell? ⟨G, 0, none⟩ = some (.slice (some ⟨g, 0, none⟩) 1 cap) ∧ W.cell? ⟨g, 1, none⟩ = some (.int .i64 (kd : Int)) ∧ W.cell? ⟨g, 2, none⟩ = some (.string T) ∧ W.cell? ⟨g, 3, none⟩ = some (.int .u64 (wd C 0 : Nat)) ∧ W.cell? ⟨g, 4, none⟩ = some (.int .u64 (wd C 1 : Nat)) ∧ W.cell? ⟨g, 5, none⟩ = some (.int .u64 (wd C 2 : Nat)) ∧ W.cell? ⟨g, 6, none⟩ = some (.int .u64 (wd C 3 : Nat)) ∧ W.cell? ⟨g, 7, none⟩ = some (.slice so sl sc) ∧ W.cell? ⟨g, 8, none⟩ = some (.int .i64 (p : Int)) ∧ W.cell? ⟨wc.heap.size, 0, none⟩ = some (.int .i64 (KB : Int)) ∧ W.cell? ⟨wc.heap.size, 1, none⟩ = some (.string { data := #[] }) ∧ W.cell? ⟨wc.heap.size, 2, none⟩ = some (.int .u64 0) ∧ W.cell? ⟨wc.heap.size, 3, none⟩ = some (.int .u64 0) ∧ W.cell? ⟨wc.heap.size, 4, none⟩ = some (.int .u64 0) ∧ W.cell? ⟨wc.heap.size, 5, none⟩ = some (.int .u64 0) ∧ W.cell? ⟨wc.heap.size, 6, none⟩ = some (.slice (some ⟨wc.heap.size + 1, 0, none⟩) 1 1) ∧ W.cell? ⟨wc.heap.size, 7, none⟩ = some (.int .i64 0)) WN.drew := keep_sg hGl' hgl' hNl (Below.refl _ WN).drew ⟨hid (Below.refl _ _), E0, X1, X2, X3, X4, X5, X6, X7, X8, m0, m1, m2, m3, m4, m5, m6, m7⟩
      go_wp2_with fail
      go_region_held3 (fun W => Hid (Below WN.heap.size WN W) ∧ W.cell? ⟨G, 0, none⟩ = some (.slice (some ⟨g, 0, none⟩) 1 cap) ∧ W.cell? ⟨g, 1, none⟩ = some (.int .i64 (kd : Int)) ∧ W.cell? ⟨g, 2, none⟩ = some (.string T) ∧ W.cell? ⟨g, 3, none⟩ = some (.int .u64 (wd C 0 : Nat)) ∧ W.cell? ⟨g, 4, none⟩ = some (.int .u64 (wd C 1 : Nat)) ∧ W.cell? ⟨g, 5, none⟩ = some (.int .u64 (wd C 2 : Nat)) ∧ W.cell? ⟨g, 6, none⟩ = some (.int .u64 (wd C 3 : Nat)) ∧ W.cell? ⟨g, 7, none⟩ = some (.slice so sl sc) ∧ W.cell? ⟨g, 8, none⟩ = some (.int .i64 (p : Int)) ∧ W.cell? ⟨wc.heap.size, 0, none⟩ = some (.int .i64 (KB : Int)) ∧ W.cell? ⟨wc.heap.size, 1, none⟩ = some (.string { data := #[] }) ∧ W.cell? ⟨wc.heap.size, 2, none⟩ = some (.int .u64 0) ∧ W.cell? ⟨wc.heap.size, 3, none⟩ = some (.int .u64 0) ∧ W.cell? ⟨wc.heap.size, 4, none⟩ = some (.int .u64 0) ∧ W.cell? ⟨wc.heap.size, 5, none⟩ = some (.int .u64 0) ∧ W.cell? ⟨wc.heap.size, 6, none⟩ = some (.slice (some ⟨wc.heap.size + 1, 0, none⟩) 1 1) ∧ W.cell? ⟨wc.heap.size, 7, none⟩ = some (.int .i64 0)) (first | assumption | exact keep_sg hGl' hgl' hNl (by assumption) (by assumption)) (first | (go_at_call 12; refine (HC.out _ ?hh).mono ?_; (case hh => exact S1.1.out); rintro e wq ⟨rfl, hbq⟩))
      have HBq : Hid (Below w.heap.size w wq) := HBN.out.trans ((Below.trans (Below.refl _ WN).drew hbq).mono HBN.out.size)
      clear hbq S1 E0 X1 X2 X3 X4 X5 X6 X7 X8 m0 m1 m2 m3 m4 m5 m6 m7
      go_wp2_with fail
      go_ret
      exact ⟨rfl, HBq.out⟩
    · have HTr : Hid (Sm x.2.1 (.mk KA { data := #[] } 0 [.mk 5 { data := #[98] } 0 [] 0] 0)) := by
        have := HX.out
        unfold sgN at this
        simp only [if_neg hA0, if_pos hB0, ← hKA] at this
        exact this
      have t1 : decide ((0 : Int) < (B : Int)) = false := by simp; omega
      have t2 : decide ((0 : Int) < (A : Int)) = true := by simp; omega
      have k2 : (11 : Int) + (A : Int) - 1 = (KA : Int) := by omega
      have k2' : (11 : Int) + (A : Int) = (KA : Int) + 1 := by omega
      subst hB0
      have hA1 : 0 < A := by omega
      clear HX hKA hKB
      go_upto_region 10 with fail
      obtain ⟨WN, hWN⟩ : ∃ WN, WN = (wc.alloc (.cells #[.int .i64 (KA : Int), .string { data := #[] }, .int .u64 0, .int .u64 0, .int .u64 0, .int .u64 0, .slice (some ⟨wc.heap.size + 1, 0, none⟩) 1 1, .int .i64 0] 41)).alloc (.cells #[.int .i64 5, .string { data := #[98] }, .int .u64 0, .int .u64 0, .int .u64 0, .int .u64 0, .slice none 0 0, .int .i64 0] 41) := ⟨_, rfl⟩
      have B0 : Hid (WN.heap[wc.heap.size]? = some (.cells #[.int .i64 (KA : Int), .string { data := #[] }, .int .u64 0, .int .u64 0, .int .u64 0, .int .u64 0, .slice (some ⟨wc.heap.size + 1, 0, none⟩) 1 1, .int .i64 0] 41)) := by show _ = _; rw [hWN]; exact (Below.heap_alloc _ _ _ (by simp <;> omega)).trans (new_block_at _ _ (by first | rfl | (simp; done)))
      have B1 : Hid (WN.heap[wc.heap.size + 1]? = some (.cells #[.int .i64 5, .string { data := #[98] }, .int .u64 0, .int .u64 0, .int .u64 0, .int .u64 0, .slice none 0 0, .int .i64 0] 41)) := by show _ = _; rw [hWN]; exact new_block_at _ _ (by first | rfl | (simp; done))
      have HBc : Hid (Below wc.heap.size wc WN) := by show Below _ _ _; rw [hWN]; exact (((Below.refl _ wc).alloc (by simp <;> omega) _).alloc (by simp <;> omega) _)
      have HBN : Hid (Below w.heap.size w WN) := HF.out.1.trans (HBc.out.mono HF.out.1.size)
      have HWc : Hid (w.heap.size ≤ wc.heap.size) := HF.out.1.size
      rw [← hWN]
      clear hWN
      have HC : Hid (∀ W : World, Below WN.heap.size WN W → Calls Tryd.prog 12 #[.agg #[.int .i64 (kd : Int), .string T, .int .u64 (wd C 0 : Nat), .int .u64 (wd C 1 : Nat), .int .u64 (wd C 2 : Nat), .int .u64 (wd C 3 : Nat), .slice so sl sc, .int .i64 (p : Int)], .agg #[.int .i64 (KA : Nat), .string { data := #[] }, .int .u64 0, .int .u64 0, .int .u64 0, .int .u64 0, .slice (some ⟨wc.heap.size + 1, 0, none⟩) 1 1, .int .i64 0], .bool false] W fun e w' => e = .returned (.bool true) ∧ Below W.heap.size W w') := fun W hW => by
        have hm : NdIs WN (fun g => w.heap.size ≤ g) (.mk KA { data := #[] } 0 [.mk 5 { data := #[98] } 0 [] 0] 0) (n8 KA { data := #[] } 0 (.slice (some ⟨wc.heap.size + 1, 0, none⟩) 1 1) 0) := by
          have hq := NdIs.one (kd := KA) (show NdIs WN (fun g => w.heap.size ≤ g) (.mk 5 { data := #[98] } 0 [] 0) [.int .i64 5, .string { data := #[98] }, .int .u64 0, .int .u64 0, .int .u64 0, .int .u64 0, .slice none 0 0, .int .i64 0] by rw [NdIs]; exact ⟨_, by simp [wd_zero], .inl ⟨rfl, rfl⟩⟩) B1.out (by have := HWc.out; omega)
          simpa [n8, wd_zero] using hq
        have hz := zsame_all _ x.2.1 (.mk KA { data := #[] } 0 [.mk 5 { data := #[98] } 0 [] 0] 0) _ _ _ _ W (Nat.lt_succ_self _) HTr.out ((HN.out.below HBc.out).below hW) (hm.below hW)
        simpa [n8, wd_zero] using hz
      have ce : ∀ j i, j < wc.heap.size → WN.cell? ⟨j, i, none⟩ = wc.cell? ⟨j, i, none⟩ := fun j i hj => HBc.out.cell (p := ⟨j, i, none⟩) hj
      have E0 := (ce G 0 hGl).trans e0
      have X1 := (ce g 1 hgl).trans x1
      have X2 := (ce g 2 hgl).trans x2
      have X3 := (ce g 3 hgl).trans x3
      have X4 := (ce g 4 hgl).trans x4
      have X5 := (ce g 5 hgl).trans x5
      have X6 := (ce g 6 hgl).trans x6
      have X7 := (ce g 7 hgl).trans x7
      have X8 := (ce g 8 hgl).trans x8
      obtain ⟨⟨m0, m1, m2, m3, m4, m5, m6, m7⟩, _⟩ := eight_cells B0.out
      have hNl := node_lt B0.out
      have hGl' : G < WN.heap.size := Nat.lt_of_lt_of_le hGl HBc.out.size
      have hgl' : g < WN.heap.size := Nat.lt_of_lt_of_le hgl HBc.out.size
      clear ce e0 x1 x2 x3 x4 x5 x6 x7 x8 HTr
      have S1 : (fun W => Hid (Below WN.heap.size WN W) ∧ W.cell? ⟨G, 0, none⟩ = some (.slice (some ⟨g, 0, none⟩) 1 cap) ∧ W.cell? ⟨g, 1, none⟩ = some (.int .i64 (kd : Int)) ∧ W.cell? ⟨g, 2, none⟩ = some (.string T) ∧ W.cell? ⟨g, 3, none⟩ = some (.int .u64 (wd C 0 : Nat)) ∧ W.cell? ⟨g, 4, none⟩ = some (.int .u64 (wd C 1 : Nat)) ∧ W.cell? ⟨g, 5, none⟩ = some (.int .u64 (wd C 2 : Nat)) ∧ W.cell? ⟨g, 6, none⟩ = some (.int .u64 (wd C 3 : Nat)) ∧ W.cell? ⟨g, 7, none⟩ = some (.slice so sl sc) ∧ W.cell? ⟨g, 8, none⟩ = some (.int .i64 (p : Int)) ∧ W.cell? ⟨wc.heap.size, 0, none⟩ = some (.int .i64 (KA : Int)) ∧ W.cell? ⟨wc.heap.size, 1, none⟩ = some (.string { data := #[] }) ∧ W.cell? ⟨wc.heap.size, 2, none⟩ = some (.int .u64 0) ∧ W.cell? ⟨wc.heap.size, 3, none⟩ = some (.int .u64 0) ∧ W.cell? ⟨wc.heap.size, 4, none⟩ = some (.int .u64 0) ∧ W.cell? ⟨wc.heap.size, 5, none⟩ = some (.int .u64 0) ∧ W.cell? ⟨wc.heap.size, 6, none⟩ = some (.slice (some ⟨wc.heap.size + 1, 0, none⟩) 1 1) ∧ W.cell? ⟨wc.heap.size, 7, none⟩ = some (.int .i64 0)) WN.drew := keep_sg hGl' hgl' hNl (Below.refl _ WN).drew ⟨hid (Below.refl _ _), E0, X1, X2, X3, X4, X5, X6, X7, X8, m0, m1, m2, m3, m4, m5, m6, m7⟩
      go_wp2_with fail
      go_region_held3 (fun W => Hid (Below WN.heap.size WN W) ∧ W.cell? ⟨G, 0, none⟩ = some (.slice (some ⟨g, 0, none⟩) 1 cap) ∧ W.cell? ⟨g, 1, none⟩ = some (.int .i64 (kd : Int)) ∧ W.cell? ⟨g, 2, none⟩ = some (.string T) ∧ W.cell? ⟨g, 3, none⟩ = some (.int .u64 (wd C 0 : Nat)) ∧ W.cell? ⟨g, 4, none⟩ = some (.int .u64 (wd C 1 : Nat)) ∧ W.cell? ⟨g, 5, none⟩ = some (.int .u64 (wd C 2 : Nat)) ∧ W.cell? ⟨g, 6, none⟩ = some (.int .u64 (wd C 3 : Nat)) ∧ W.cell? ⟨g, 7, none⟩ = some (.slice so sl sc) ∧ W.cell? ⟨g, 8, none⟩ = some (.int .i64 (p : Int)) ∧ W.cell? ⟨wc.heap.size, 0, none⟩ = some (.int .i64 (KA : Int)) ∧ W.cell? ⟨wc.heap.size, 1, none⟩ = some (.string { data := #[] }) ∧ W.cell? ⟨wc.heap.size, 2, none⟩ = some (.int .u64 0) ∧ W.cell? ⟨wc.heap.size, 3, none⟩ = some (.int .u64 0) ∧ W.cell? ⟨wc.heap.size, 4, none⟩ = some (.int .u64 0) ∧ W.cell? ⟨wc.heap.size, 5, none⟩ = some (.int .u64 0) ∧ W.cell? ⟨wc.heap.size, 6, none⟩ = some (.slice (some ⟨wc.heap.size + 1, 0, none⟩) 1 1) ∧ W.cell? ⟨wc.heap.size, 7, none⟩ = some (.int .i64 0)) (first | assumption | exact keep_sg hGl' hgl' hNl (by assumption) (by assumption)) (first | (go_at_call 12; refine (HC.out _ ?hh).mono ?_; (case hh => exact S1.1.out); rintro e wq ⟨rfl, hbq⟩))
      have HBq : Hid (Below w.heap.size w wq) := HBN.out.trans ((Below.trans (Below.refl _ WN).drew hbq).mono HBN.out.size)
      clear hbq S1 E0 X1 X2 X3 X4 X5 X6 X7 X8 m0 m1 m2 m3 m4 m5 m6 m7
      go_wp2_with fail
      go_ret
      exact ⟨rfl, HBq.out⟩
    · have HTr : Hid (Sm x.2.1 (.mk KA { data := #[] } 0 [.mk KB { data := #[] } 0 [.mk 5 { data := #[98] } 0 [] 0] 0] 0)) := by
        have := HX.out
        unfold sgN at this
        simp only [if_neg hA0, if_neg hB0, ← hKA, ← hKB] at this
        exact this
      have t1 : decide ((0 : Int) < (B : Int)) = true := by simp; omega
      have k1 : (8 : Int) + (B : Int) - 1 = (KB : Int) := by omega
      have k1' : (8 : Int) + (B : Int) = (KB : Int) + 1 := by omega
      have t2 : decide ((0 : Int) < (A : Int)) = true := by simp; omega
      have k2 : (11 : Int) + (A : Int) - 1 = (KA : Int) := by omega
      have k2' : (11 : Int) + (A : Int) = (KA : Int) + 1 := by omega
      have hB1 : 0 < B := by omega
      have hA1 : 0 < A := by omega
      clear HX hKA hKB
      go_upto_region 10 with fail
      obtain ⟨WN, hWN⟩ : ∃ WN, WN = ((wc.alloc (.cells #[.int .i64 (KA : Int), .string { data := #[] }, .int .u64 0, .int .u64 0, .int .u64 0, .int .u64 0, .slice (some ⟨wc.heap.size + 1 + 1, 0, none⟩) 1 1, .int .i64 0] 41)).alloc (.cells #[.int .i64 5, .string { data := #[98] }, .int .u64 0, .int .u64 0, .int .u64 0, .int .u64 0, .slice none 0 0, .int .i64 0] 41)).alloc (.cells #[.int .i64 (KB : Int), .string { data := #[] }, .int .u64 0, .int .u64 0, .int .u64 0, .int .u64 0, .slice (some ⟨wc.heap.size + 1, 0, none⟩) 1 1, .int .i64 0] 41) := ⟨_, rfl⟩
      have B0 : Hid (WN.heap[wc.heap.size]? = some (.cells #[.int .i64 (KA : Int), .string { data := #[] }, .int .u64 0, .int .u64 0, .int .u64 0, .int .u64 0, .slice (some ⟨wc.heap.size + 1 + 1, 0, none⟩) 1 1, .int .i64 0] 41)) := by show _ = _; rw [hWN]; exact (Below.heap_alloc _ _ _ (by simp <;> omega)).trans ((Below.heap_alloc _ _ _ (by simp <;> omega)).trans (new_block_at _ _ (by first | rfl | (simp; done))))
      have B1 : Hid (WN.heap[wc.heap.size + 1]? = some (.cells #[.int .i64 5, .string { data := #[98] }, .int .u64 0, .int .u64 0, .int .u64 0, .int .u64 0, .slice none 0 0, .int .i64 0] 41)) := by show _ = _; rw [hWN]; exact (Below.heap_alloc _ _ _ (by simp <;> omega)).trans (new_block_at _ _ (by first | rfl | (simp; done)))
      have B2 : Hid (WN.heap[wc.heap.size + 1 + 1]? = some (.cells #[.int .i64 (KB : Int), .string { data := #[] }, .int .u64 0, .int .u64 0, .int .u64 0, .int .u64 0, .slice (some ⟨wc.heap.size + 1, 0, none⟩) 1 1, .int .i64 0] 41)) := by show _ = _; rw [hWN]; exact new_block_at _ _ (by first | rfl | (simp; done))
      have HBc : Hid (Below wc.heap.size wc WN) := by show Below _ _ _; rw [hWN]; exact ((((Below.refl _ wc).alloc (by simp <;> omega) _).alloc (by simp <;> omega) _).alloc (by simp <;> omega) _)
      have HBN : Hid (Below w.heap.size w WN) := HF.out.1.trans (HBc.out.mono HF.out.1.size)
      have HWc : Hid (w.heap.size ≤ wc.heap.size) := HF.out.1.size
      rw [← hWN]
      clear hWN
      have HC : Hid (∀ W : World, Below WN.heap.size WN W → Calls Tryd.prog 12 #[.agg #[.int .i64 (kd : Int), .string T, .int .u64 (wd C 0 : Nat), .int .u64 (wd C 1 : Nat), .int .u64 (wd C 2 : Nat), .int .u64 (wd C 3 : Nat), .slice so sl sc, .int .i64 (p : Int)], .agg #[.int .i64 (KA : Nat), .string { data := #[] }, .int .u64 0, .int .u64 0, .int .u64 0, .int .u64 0, .slice (some ⟨wc.heap.size + 1 + 1, 0, none⟩) 1 1, .int .i64 0], .bool false] W fun e w' => e = .returned (.bool true) ∧ Below W.heap.size W w') := fun W hW => by
        have hm : NdIs WN (fun g => w.heap.size ≤ g) (.mk KA { data := #[] } 0 [.mk KB { data := #[] } 0 [.mk 5 { data := #[98] } 0 [] 0] 0] 0) (n8 KA { data := #[] } 0 (.slice (some ⟨wc.heap.size + 1 + 1, 0, none⟩) 1 1) 0) := by
          have hq := NdIs.one (kd := KA) (by have hq := NdIs.one (kd := KB) (show NdIs WN (fun g => w.heap.size ≤ g) (.mk 5 { data := #[98] } 0 [] 0) [.int .i64 5, .string { data := #[98] }, .int .u64 0, .int .u64 0, .int .u64 0, .int .u64 0, .slice none 0 0, .int .i64 0] by rw [NdIs]; exact ⟨_, by simp [wd_zero], .inl ⟨rfl, rfl⟩⟩) B1.out (by have := HWc.out; omega); simpa [n8, wd_zero] using hq) B2.out (by have := HWc.out; omega)
          simpa [n8, wd_zero] using hq
        have hz := zsame_all _ x.2.1 (.mk KA { data := #[] } 0 [.mk KB { data := #[] } 0 [.mk 5 { data := #[98] } 0 [] 0] 0] 0) _ _ _ _ W (Nat.lt_succ_self _) HTr.out ((HN.out.below HBc.out).below hW) (hm.below hW)
        simpa [n8, wd_zero] using hz
      have ce : ∀ j i, j < wc.heap.size → WN.cell? ⟨j, i, none⟩ = wc.cell? ⟨j, i, none⟩ := fun j i hj => HBc.out.cell (p := ⟨j, i, none⟩) hj
      have E0 := (ce G 0 hGl).trans e0
      have X1 := (ce g 1 hgl).trans x1
      have X2 := (ce g 2 hgl).trans x2
      have X3 := (ce g 3 hgl).trans x3
      have X4 := (ce g 4 hgl).trans x4
      have X5 := (ce g 5 hgl).trans x5
      have X6 := (ce g 6 hgl).trans x6
      have X7 := (ce g 7 hgl).trans x7
      have X8 := (ce g 8 hgl).trans x8
      obtain ⟨⟨m0, m1, m2, m3, m4, m5, m6, m7⟩, _⟩ := eight_cells B0.out
      have hNl := node_lt B0.out
      have hGl' : G < WN.heap.size := Nat.lt_of_lt_of_le hGl HBc.out.size
      have hgl' : g < WN.heap.size := Nat.lt_of_lt_of_le hgl HBc.out.size
      clear ce e0 x1 x2 x3 x4 x5 x6 x7 x8 HTr
      have S1 : (fun W => Hid (Below WN.heap.size WN W) ∧ W.cell? ⟨G, 0, none⟩ = some (.slice (some ⟨g, 0, none⟩) 1 cap) ∧ W.cell? ⟨g, 1, none⟩ = some (.int .i64 (kd : Int)) ∧ W.cell? ⟨g, 2, none⟩ = some (.string T) ∧ W.cell? ⟨g, 3, none⟩ = some (.int .u64 (wd C 0 : Nat)) ∧ W.cell? ⟨g, 4, none⟩ = some (.int .u64 (wd C 1 : Nat)) ∧ W.cell? ⟨g, 5, none⟩ = some (.int .u64 (wd C 2 : Nat)) ∧ W.cell? ⟨g, 6, none⟩ = some (.int .u64 (wd C 3 : Nat)) ∧ W.cell? ⟨g, 7, none⟩ = some (.slice so sl sc) ∧ W.cell? ⟨g, 8, none⟩ = some (.int .i64 (p : Int)) ∧ W.cell? ⟨wc.heap.size, 0, none⟩ = some (.int .i64 (KA : Int)) ∧ W.cell? ⟨wc.heap.size, 1, none⟩ = some (.string { data := #[] }) ∧ W.cell? ⟨wc.heap.size, 2, none⟩ = some (.int .u64 0) ∧ W.cell? ⟨wc.heap.size, 3, none⟩ = some (.int .u64 0) ∧ W.cell? ⟨wc.heap.size, 4, none⟩ = some (.int .u64 0) ∧ W.cell? ⟨wc.heap.size, 5, none⟩ = some (.int .u64 0) ∧ W.cell? ⟨wc.heap.size, 6, none⟩ = some (.slice (some ⟨wc.heap.size + 1 + 1, 0, none⟩) 1 1) ∧ W.cell? ⟨wc.heap.size, 7, none⟩ = some (.int .i64 0)) WN.drew := keep_sg hGl' hgl' hNl (Below.refl _ WN).drew ⟨hid (Below.refl _ _), E0, X1, X2, X3, X4, X5, X6, X7, X8, m0, m1, m2, m3, m4, m5, m6, m7⟩
      go_wp2_with fail
      go_region_held3 (fun W => Hid (Below WN.heap.size WN W) ∧ W.cell? ⟨G, 0, none⟩ = some (.slice (some ⟨g, 0, none⟩) 1 cap) ∧ W.cell? ⟨g, 1, none⟩ = some (.int .i64 (kd : Int)) ∧ W.cell? ⟨g, 2, none⟩ = some (.string T) ∧ W.cell? ⟨g, 3, none⟩ = some (.int .u64 (wd C 0 : Nat)) ∧ W.cell? ⟨g, 4, none⟩ = some (.int .u64 (wd C 1 : Nat)) ∧ W.cell? ⟨g, 5, none⟩ = some (.int .u64 (wd C 2 : Nat)) ∧ W.cell? ⟨g, 6, none⟩ = some (.int .u64 (wd C 3 : Nat)) ∧ W.cell? ⟨g, 7, none⟩ = some (.slice so sl sc) ∧ W.cell? ⟨g, 8, none⟩ = some (.int .i64 (p : Int)) ∧ W.cell? ⟨wc.heap.size, 0, none⟩ = some (.int .i64 (KA : Int)) ∧ W.cell? ⟨wc.heap.size, 1, none⟩ = some (.string { data := #[] }) ∧ W.cell? ⟨wc.heap.size, 2, none⟩ = some (.int .u64 0) ∧ W.cell? ⟨wc.heap.size, 3, none⟩ = some (.int .u64 0) ∧ W.cell? ⟨wc.heap.size, 4, none⟩ = some (.int .u64 0) ∧ W.cell? ⟨wc.heap.size, 5, none⟩ = some (.int .u64 0) ∧ W.cell? ⟨wc.heap.size, 6, none⟩ = some (.slice (some ⟨wc.heap.size + 1 + 1, 0, none⟩) 1 1) ∧ W.cell? ⟨wc.heap.size, 7, none⟩ = some (.int .i64 0)) (first | assumption | exact keep_sg hGl' hgl' hNl (by assumption) (by assumption)) (first | (go_at_call 12; refine (HC.out _ ?hh).mono ?_; (case hh => exact S1.1.out); rintro e wq ⟨rfl, hbq⟩))
      have HBq : Hid (Below w.heap.size w wq) := HBN.out.trans ((Below.trans (Below.refl _ WN).drew hbq).mono HBN.out.size)
      clear hbq S1 E0 X1 X2 X3 X4 X5 X6 X7 X8 m0 m1 m2 m3 m4 m5 m6 m7
      go_wp2_with fail
      go_ret
      exact ⟨rfl, HBq.out⟩
end Go.Proofs.YtkofhmmnlapnnaaDoor
