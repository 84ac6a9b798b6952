/-
  What some short sources are read as, reckoned. Nothing of the program stands here.
  The cells of rules in memory; the statements' own small case comes out right. Conditions: those that each theorem names.
  The document's SameNode, at two trees that are one but for places. Conditions: those that each theorem names.
-/
import Derived.Test.YtikfnaffiehpaaaGreatDoorVY5
import Derived.ChangeKeysEq
import Derived.Laws.StructEq
namespace Go.Proofs.YtikfnaffiehpaaaGreatDoor
open Go.RowKit
set_option linter.unusedVariables false
/-- The small case. -/
@[reducible] def smT : ByteArray := { data := #[97, 32, 60, 45, 32, 39, 120, 39, 32, 98, 42, 32, 98, 32, 60, 45, 32, 91, 48, 45, 57, 93] }
theorem par_small : parS smT = .inr [({ data := #[97] }, .mk 6 { data := #[] } 0 [.mk 2 { data := #[120] } 0 [] 5, .mk 9 { data := #[] } 0 [.mk 5 { data := #[98] } 0 [] 9] 9] 5, 0), ({ data := #[98] }, .mk 3 { data := #[] } 287948901175001088 [] 17, 12)] := by kernel_rfl
def nst (n : Nat) : ByteArray := nb ([97, 32, 60, 45, 32] ++ (List.replicate n 40 ++ ([39, 120, 39] ++ List.replicate n 41)))
def Nd.kd : Nd → Nat
  | .mk k _ _ _ _ => k
def nstB (n : Nat) : Bool := match parS (nst n) with
  | .inr [x] => decide (n ≤ 24) && (x.2.1.kd == 2 && x.2.1.at' == 5 + n)
  | .inl c => decide (24 < n) && (c.1 == 2 && c.2 == 29)
  | _ => false
theorem nst_all : ∀ n, n < 32 → nstB n = true := by decide +kernel
end Go.Proofs.YtikfnaffiehpaaaGreatDoor
namespace Go.Proofs.YtikfnaffiehpaaaGreatDoor
open Go.RowKit
set_option linter.unusedVariables false
theorem RsIs.get {w : World} {P : Nat → Prop} : ∀ (l : List Rl) (vs : List Value) (k : Nat) (hk : k < l.length), RsIs w P l vs → ∃ c, RlIs w P l[k] c ∧ ∀ j u, c[j]? = some u → vs[k * 10 + j]? = some u
  | [], vs, k, hk, _ => by simp at hk
  | x :: r, vs, 0, hk, h => by
    rw [RsIs] at h
    obtain ⟨c, rest, rfl, h1, h2⟩ := h
    refine ⟨c, h1, fun j u hj => ?_⟩
    have hl : j < c.length := by
      rcases Nat.lt_or_ge j c.length with h | h
      · exact h
      · rw [List.getElem?_eq_none h] at hj; cases hj
    rw [show 0 * 10 + j = j by omega, List.getElem?_append_left hl]
    exact hj
  | x :: r, vs, k + 1, hk, h => by
    rw [RsIs] at h
    obtain ⟨c, rest, rfl, h1, h2⟩ := h
    have hc := h1.len
    obtain ⟨d, h3, h4⟩ := RsIs.get r rest k (by simp at hk; omega) h2
    refine ⟨d, h3, fun j u hj => ?_⟩
    rw [List.getElem?_append_right (by omega), show (k + 1) * 10 + j - c.length = k * 10 + j by omega]
    exact h4 j u hj
/-- The cells of the rule at k. -/
theorem RoR.get {B g n cap : Nat} {rs : List Rl} {W : World} (h : RoR B (.slice (some ⟨g, 0, none⟩) n cap) rs W) (k : Nat) (hk : k < rs.length) :
    ∃ c, RlIs W (fun g => B ≤ g) rs[k] c ∧ ∀ j u, c[j]? = some u → W.cell? ⟨g, k * 10 + j, none⟩ = some u := by
  obtain ⟨xs, h1, h2⟩ := h
  obtain ⟨c, h3, h4⟩ := RsIs.get rs xs k hk h2
  have hc := h3.len
  have hn : n = rs.length := by
    obtain ⟨_, ⟨hq, _⟩ | ⟨g', cap', cur, hq, _⟩⟩ := h1
    · cases hq
    · injection hq
  subst hn
  refine ⟨c, h3, fun j u hj => ?_⟩
  have hl : j < c.length := by
    rcases Nat.lt_or_ge j c.length with h | h
    · exact h
    · rw [List.getElem?_eq_none h] at hj; cases hj
  rw [h1.cellAt _ (by omega)]
  exact h4 j u hj
theorem RlIs.is {W : World} {P : Nat → Prop} {N T : ByteArray} {kd C p q : Nat} {subs : List Nd} {c : List Value} (h : RlIs W P (N, .mk kd T C subs p, q) c) : ∃ sv, c = .string N :: (n8 kd T C sv p ++ [.int .i64 (q : Int)]) := by
  obtain ⟨cs, rfl, h2⟩ := h
  rw [NdIs] at h2
  obtain ⟨sv, rfl, _⟩ := h2
  exact ⟨sv, rfl⟩
end Go.Proofs.YtikfnaffiehpaaaGreatDoor
namespace Go.Proofs.YtikfnaffiehpaaaGreatDoor
open Go.RowKit
set_option linter.unusedVariables false
theorem Tryz.cellsOf25 : Tryz.prog.cellsOf 25 = 1 := by kernel_rfl
theorem Tryz.info25 : (Tryz.prog.info? 25).map (fun i => (i.zero, i.size, i.bytes)) = some (some (.int .u64 0), 1, 8) := by kernel_rfl
theorem eq_words (n : Nat) (w : World) (a b c d a' b' c' d' : Int) :
    (Op.equalIn (n + 2) 27 (.agg #[.int .u64 a, .int .u64 b, .int .u64 c, .int .u64 d]) (.agg #[.int .u64 a', .int .u64 b', .int .u64 c', .int .u64 d'])).run Tryz.prog w = .ok (a == a' && (b == b' && (c == c' && d == d'))) w := by
  obtain ⟨i, hi⟩ : ∃ i, Tryz.prog.info? 25 = some i := by
    cases h : Tryz.prog.info? 25 with
    | none => have := Tryz.info25; rw [h] at this; cases this
    | some i => exact ⟨i, rfl⟩
  have hu : Tryz.prog.underlying 27 = some (.array 4 25) := by kernel_rfl
  rw [run_equalIn_array w (n + 1) _ _ hu hi, Tryz.cellsOf25]
  have p : ∀ (x y z t : Value) (w : World), (part 25 #[x, y, z, t] 0).run Tryz.prog w = .ok x w := fun _ _ _ _ _ => by kernel_rfl
  have p1 : ∀ (x y z t : Value) (w : World), (part 25 #[x, y, z, t] 1).run Tryz.prog w = .ok y w := fun _ _ _ _ _ => by kernel_rfl
  have p2 : ∀ (x y z t : Value) (w : World), (part 25 #[x, y, z, t] 2).run Tryz.prog w = .ok z w := fun _ _ _ _ _ => by kernel_rfl
  have p3 : ∀ (x y z t : Value) (w : World), (part 25 #[x, y, z, t] 3).run Tryz.prog w = .ok t w := fun _ _ _ _ _ => by kernel_rfl
  have e : ∀ (x y : Int) (w : World), (Op.equalIn (n + 1) 25 (.int .u64 x) (.int .u64 y)).run Tryz.prog w = .ok (x == y) w := fun x y w => run_equalIn_int w n 25 .u64 .u64 x y Tryz.underlying25
  rw [show List.range 4 = [0, 1, 2, 3] from rfl]
  simp only [Op.eqItems, Sem.run_bind, Nat.mul_one, p, e, Result.andThen_ok]
  cases h1 : a == a' <;> cases h2 : b == b' <;> cases h3 : c == c' <;> cases h4 : d == d' <;> simp [Result.andThen, p1, p2, p3, e, h2, h3, h4, -beq_iff_eq, -beq_eq_false_iff_ne]
mutual
/-- Two trees that are one but for places; no row of them is too long. -/
def Sm : Nd → Nd → Prop
  | .mk kd T C s _, .mk kd' T' C' s' _ => kd' = kd ∧ T' = T ∧ C' = C ∧ SmL s s' ∧ s.length ≤ 1000000
def SmL : List Nd → List Nd → Prop
  | [], [] => True
  | a :: r, b :: q => Sm a b ∧ SmL r q
  | _, _ => False
end
theorem SmL.len : ∀ {s t : List Nd}, SmL s t → t.length = s.length
  | [], [], _ => rfl
  | [], _ :: _, h => by simp [SmL] at h
  | _ :: _, [], h => by simp [SmL] at h
  | a :: r, b :: q, h => by
    rw [SmL] at h
    simp [SmL.len h.2]
theorem SmL.get : ∀ {s t : List Nd} (h : SmL s t) (j : Nat) (hj : j < s.length) (hj' : j < t.length), Sm s[j] t[j]
  | [], [], _, j, hj, _ => by simp at hj
  | [], _ :: _, h, _, _, _ => by simp [SmL] at h
  | _ :: _, [], h, _, _, _ => by simp [SmL] at h
  | a :: r, b :: q, h, 0, _, _ => by rw [SmL] at h; exact h.1
  | a :: r, b :: q, h, j + 1, hj, hj' => by
    rw [SmL] at h
    exact SmL.get h.2 j (by simp at hj; omega) (by simp at hj'; omega)
theorem NdsIs.get {w : World} {P : Nat → Prop} : ∀ (l : List Nd) (vs : List Value) (k : Nat) (hk : k < l.length), NdsIs w P l vs → ∃ c, NdIs w P l[k] c ∧ ∀ j u, c[j]? = some u → vs[k * 8 + j]? = some u
  | [], vs, k, hk, _ => by simp at hk
  | x :: r, vs, 0, hk, h => by
    rw [NdsIs] at h
    obtain ⟨c, rest, rfl, h1, h2⟩ := h
    refine ⟨c, h1, fun j u hj => ?_⟩
    have hl : j < c.length := by
      rcases Nat.lt_or_ge j c.length with h | h
      · exact h
      · rw [List.getElem?_eq_none h] at hj; cases hj
    rw [show 0 * 8 + j = j by omega, List.getElem?_append_left hl]
    exact hj
  | x :: r, vs, k + 1, hk, h => by
    rw [NdsIs] at h
    obtain ⟨c, rest, rfl, h1, h2⟩ := h
    have hc := h1.len
    obtain ⟨d, h3, h4⟩ := NdsIs.get r rest k (by simp at hk; omega) h2
    refine ⟨d, h3, fun j u hj => ?_⟩
    rw [List.getElem?_append_right (by omega), show (k + 1) * 8 + j - c.length = k * 8 + j by omega]
    exact h4 j u hj
/-- The cells of a node at o in block g. -/
def Cn (w : World) (g o : Nat) (kd : Nat) (T : ByteArray) (C : Nat) (sv : Value) (p : Nat) : Prop := w.cell? ⟨g, o, none⟩ = some (.int .i64 (kd : Int)) ∧ w.cell? ⟨g, o + 1, none⟩ = some (.string T) ∧ w.cell? ⟨g, o + 2, none⟩ = some (.int .u64 (wd C 0 : Nat)) ∧ w.cell? ⟨g, o + 3, none⟩ = some (.int .u64 (wd C 1 : Nat)) ∧ w.cell? ⟨g, o + 4, none⟩ = some (.int .u64 (wd C 2 : Nat)) ∧ w.cell? ⟨g, o + 5, none⟩ = some (.int .u64 (wd C 3 : Nat)) ∧ w.cell? ⟨g, o + 6, none⟩ = some sv ∧ w.cell? ⟨g, o + 7, none⟩ = some (.int .i64 (p : Int))
theorem nds_at {w : World} {P : Nat → Prop} {g : Nat} {cur : Array Value} {l : List Nd} (hg : w.heap[g]? = some (.cells cur 30)) (h : NdsIs w P l cur.toList) (k : Nat) (hk : k < l.length) :
    ∃ kd T C so sl sc p, NdIs w P l[k] (n8 kd T C (.slice so sl sc) p) ∧ Cn w g (k * 8) kd T C (.slice so sl sc) p := by
  obtain ⟨c, h1, h2⟩ := NdsIs.get l _ k hk h
  obtain ⟨kd, T, C, so, sl, sc, rfl⟩ := h1.shape
  have e : ∀ j u, (n8 kd T C (.slice so sl sc) l[k].at')[j]? = some u → w.cell? ⟨g, k * 8 + j, none⟩ = some u := fun j u hj => by
    have := h2 j u hj
    rw [Array.getElem?_toList] at this
    simp [World.cell?, hg, this]
  exact ⟨kd, T, C, so, sl, sc, _, h1, e 0 _ rfl, e 1 _ rfl, e 2 _ rfl, e 3 _ rfl, e 4 _ rfl, e 5 _ rfl, e 6 _ rfl, e 7 _ rfl⟩
set_option maxRecDepth 100000 in
set_option maxHeartbeats 8000000 in
theorem zsame_leaf (kd : Nat) (T : ByteArray) (C p p' : Nat) (w : World) :
    Calls Tryz.prog 19 #[.agg (n8 kd T C (.slice none 0 0) p).toArray, .agg (n8 kd T C (.slice none 0 0) p').toArray, .bool false] w fun e w' => e = .returned (.bool true) ∧ Below w.heap.size w w' := by
  have e3 : ∀ w : World, (Op.equalIn 10000 27 (.agg #[.int .u64 (wd C 0 : Nat), .int .u64 (wd C 1 : Nat), .int .u64 (wd C 2 : Nat), .int .u64 (wd C 3 : Nat)]) (.agg #[.int .u64 (wd C 0 : Nat), .int .u64 (wd C 1 : Nat), .int .u64 (wd C 2 : Nat), .int .u64 (wd C 3 : Nat)])).run Tryz.prog w = .ok true w := fun w => by simpa using eq_words 9998 w (wd C 0 : Nat) (wd C 1 : Nat) (wd C 2 : Nat) (wd C 3 : Nat) (wd C 0 : Nat) (wd C 1 : Nat) (wd C 2 : Nat) (wd C 3 : Nat)
  dsimp only [n8]
  go_enter Tryz.func19, Tryz.ntmps19
  go_wp2_with fail
  refine wp_loop_rounds 1 ?_
  rw [rounds_succ]
  go_wp2_with fail
  go_ret
  exact ⟨rfl, ((Below.refl _ _).alloc (Nat.le_refl _) _).alloc (by simp) _⟩
theorem Cn.below {w W : World} {B g o kd C p : Nat} {T : ByteArray} {sv : Value} (h : Cn w g o kd T C sv p) (hb : Below B w W) (hg : g < B) : Cn W g o kd T C sv p := by
  obtain ⟨h0, h1, h2, h3, h4, h5, h6, h7⟩ := h
  have e : ∀ j, W.cell? ⟨g, j, none⟩ = w.cell? ⟨g, j, none⟩ := fun j => hb.cell (p := ⟨g, j, none⟩) hg
  exact ⟨(e _).trans h0, (e _).trans h1, (e _).trans h2, (e _).trans h3, (e _).trans h4, (e _).trans h5, (e _).trans h6, (e _).trans h7⟩
/-- Two nodes are laid in new memory. -/
@[reducible] def wSN (w : World) (a b : List Value) : World := (w.alloc (.cells a.toArray 30)).alloc (.cells b.toArray 30)
theorem wSN_below (w : World) (a b : List Value) : Below w.heap.size w (wSN w a b) := ((Below.refl _ _).alloc (Nat.le_refl _) _).alloc (by simp) _
/-- What stays while two nodes are held against each other. -/
def SN (w : World) (g n cap g' cap' : Nat) (W : World) : Prop := Below w.heap.size w W ∧ W.cell? ⟨w.heap.size, 6, none⟩ = some (.slice (some ⟨g, 0, none⟩) n cap) ∧ W.cell? ⟨w.heap.size + 1, 6, none⟩ = some (.slice (some ⟨g', 0, none⟩) n cap') ∧ w.heap.size + 2 ≤ W.heap.size
theorem SN.below {w W W' : World} {g n cap g' cap' : Nat} (h : SN w g n cap g' cap' W) (hb : Below W.heap.size W W') : SN w g n cap g' cap' W' := by
  obtain ⟨h1, h2, h3, h4⟩ := h
  exact ⟨h1.trans (hb.mono h1.size), (hb.cell (p := ⟨w.heap.size, 6, none⟩) (show w.heap.size < _ by omega)).trans h2, (hb.cell (p := ⟨w.heap.size + 1, 6, none⟩) (show w.heap.size + 1 < _ by omega)).trans h3, Nat.le_trans h4 hb.size⟩
theorem SN.start (w : World) (kd : Nat) (T : ByteArray) (C p p' g cap g' cap' n : Nat) : SN w g n cap g' cap' (wSN w (n8 kd T C (.slice (some ⟨g, 0, none⟩) n cap) p) (n8 kd T C (.slice (some ⟨g', 0, none⟩) n cap') p')) :=
  ⟨wSN_below _ _ _, (eight_cells ((Below.heap_alloc _ _ _ (by simp)).trans (new_block_at w _ rfl))).1.2.2.2.2.2.2.1, (eight_cells (new_block_at _ _ (by simp))).1.2.2.2.2.2.2.1, by simp⟩
theorem keep_sn {w W W' : World} {g n cap g' cap' j : Nat} {kd1 C1 sl1 sc1 p1 kd2 C2 sl2 sc2 p2 : Nat} {T1 T2 : ByteArray} {so1 so2 : Option Addr} (hg : g < w.heap.size) (hg' : g' < w.heap.size) (hb : Below W.heap.size W W') (h : Hid (SN w g n cap g' cap' W) ∧ W.cell? ⟨w.heap.size, 6, none⟩ = some (.slice (some ⟨g, 0, none⟩) n cap) ∧ W.cell? ⟨w.heap.size + 1, 6, none⟩ = some (.slice (some ⟨g', 0, none⟩) n cap') ∧ W.cell? ⟨g, j * 8, none⟩ = some (.int .i64 (kd1 : Int)) ∧ W.cell? ⟨g, j * 8 + 1, none⟩ = some (.string T1) ∧ W.cell? ⟨g, j * 8 + 2, none⟩ = some (.int .u64 (wd C1 0 : Nat)) ∧ W.cell? ⟨g, j * 8 + 3, none⟩ = some (.int .u64 (wd C1 1 : Nat)) ∧ W.cell? ⟨g, j * 8 + 4, none⟩ = some (.int .u64 (wd C1 2 : Nat)) ∧ W.cell? ⟨g, j * 8 + 5, none⟩ = some (.int .u64 (wd C1 3 : Nat)) ∧ W.cell? ⟨g, j * 8 + 6, none⟩ = some (.slice so1 sl1 sc1) ∧ W.cell? ⟨g, j * 8 + 7, none⟩ = some (.int .i64 (p1 : Int)) ∧ W.cell? ⟨g', j * 8, none⟩ = some (.int .i64 (kd2 : Int)) ∧ W.cell? ⟨g', j * 8 + 1, none⟩ = some (.string T2) ∧ W.cell? ⟨g', j * 8 + 2, none⟩ = some (.int .u64 (wd C2 0 : Nat)) ∧ W.cell? ⟨g', j * 8 + 3, none⟩ = some (.int .u64 (wd C2 1 : Nat)) ∧ W.cell? ⟨g', j * 8 + 4, none⟩ = some (.int .u64 (wd C2 2 : Nat)) ∧ W.cell? ⟨g', j * 8 + 5, none⟩ = some (.int .u64 (wd C2 3 : Nat)) ∧ W.cell? ⟨g', j * 8 + 6, none⟩ = some (.slice so2 sl2 sc2) ∧ W.cell? ⟨g', j * 8 + 7, none⟩ = some (.int .i64 (p2 : Int))) :
    Hid (SN w g n cap g' cap' W') ∧ W'.cell? ⟨w.heap.size, 6, none⟩ = some (.slice (some ⟨g, 0, none⟩) n cap) ∧ W'.cell? ⟨w.heap.size + 1, 6, none⟩ = some (.slice (some ⟨g', 0, none⟩) n cap') ∧ W'.cell? ⟨g, j * 8, none⟩ = some (.int .i64 (kd1 : Int)) ∧ W'.cell? ⟨g, j * 8 + 1, none⟩ = some (.string T1) ∧ W'.cell? ⟨g, j * 8 + 2, none⟩ = some (.int .u64 (wd C1 0 : Nat)) ∧ W'.cell? ⟨g, j * 8 + 3, none⟩ = some (.int .u64 (wd C1 1 : Nat)) ∧ W'.cell? ⟨g, j * 8 + 4, none⟩ = some (.int .u64 (wd C1 2 : Nat)) ∧ W'.cell? ⟨g, j * 8 + 5, none⟩ = some (.int .u64 (wd C1 3 : Nat)) ∧ W'.cell? ⟨g, j * 8 + 6, none⟩ = some (.slice so1 sl1 sc1) ∧ W'.cell? ⟨g, j * 8 + 7, none⟩ = some (.int .i64 (p1 : Int)) ∧ W'.cell? ⟨g', j * 8, none⟩ = some (.int .i64 (kd2 : Int)) ∧ W'.cell? ⟨g', j * 8 + 1, none⟩ = some (.string T2) ∧ W'.cell? ⟨g', j * 8 + 2, none⟩ = some (.int .u64 (wd C2 0 : Nat)) ∧ W'.cell? ⟨g', j * 8 + 3, none⟩ = some (.int .u64 (wd C2 1 : Nat)) ∧ W'.cell? ⟨g', j * 8 + 4, none⟩ = some (.int .u64 (wd C2 2 : Nat)) ∧ W'.cell? ⟨g', j * 8 + 5, none⟩ = some (.int .u64 (wd C2 3 : Nat)) ∧ W'.cell? ⟨g', j * 8 + 6, none⟩ = some (.slice so2 sl2 sc2) ∧ W'.cell? ⟨g', j * 8 + 7, none⟩ = some (.int .i64 (p2 : Int)) := by
  obtain ⟨h0, h1, h2, x0, x1, x2, x3, x4, x5, x6, x7, y0, y1, y2, y3, y4, y5, y6, y7⟩ := h
  have hs := h0.out.2.2.2
  have eg : ∀ i, W'.cell? ⟨g, i, none⟩ = W.cell? ⟨g, i, none⟩ := fun i => hb.cell (p := ⟨g, i, none⟩) (show g < _ by omega)
  have eg' : ∀ i, W'.cell? ⟨g', i, none⟩ = W.cell? ⟨g', i, none⟩ := fun i => hb.cell (p := ⟨g', i, none⟩) (show g' < _ by omega)
  have h3 := h0.out.below hb
  exact ⟨hid h3, h3.2.1, h3.2.2.1, (eg _).trans x0, (eg _).trans x1, (eg _).trans x2, (eg _).trans x3, (eg _).trans x4, (eg _).trans x5, (eg _).trans x6, (eg _).trans x7, (eg' _).trans y0, (eg' _).trans y1, (eg' _).trans y2, (eg' _).trans y3, (eg' _).trans y4, (eg' _).trans y5, (eg' _).trans y6, (eg' _).trans y7⟩
set_option maxRecDepth 100000 in
set_option maxHeartbeats 8000000 in
theorem zsame_row (kd : Nat) (T : ByteArray) (C p p' g cap g' cap' n : Nat) (w : World) (hn : n ≤ 1000000) (hg : g < w.heap.size) (hg' : g' < w.heap.size)
    (HC : Hid (∀ j, j < n → ∃ kd1 T1 C1 so1 sl1 sc1 p1 kd2 T2 C2 so2 sl2 sc2 p2, Cn w g (j * 8) kd1 T1 C1 (.slice so1 sl1 sc1) p1 ∧ Cn w g' (j * 8) kd2 T2 C2 (.slice so2 sl2 sc2) p2 ∧
      ∀ W : World, Below w.heap.size w W → Calls Tryz.prog 19 #[.agg (n8 kd1 T1 C1 (.slice so1 sl1 sc1) p1).toArray, .agg (n8 kd2 T2 C2 (.slice so2 sl2 sc2) p2).toArray, .bool false] W fun e w' => e = .returned (.bool true) ∧ Below W.heap.size W w')) :
    Calls Tryz.prog 19 #[.agg (n8 kd T C (.slice (some ⟨g, 0, none⟩) n cap) p).toArray, .agg (n8 kd T C (.slice (some ⟨g', 0, none⟩) n cap') p').toArray, .bool false] w fun e w' => e = .returned (.bool true) ∧ Below w.heap.size w w' := by
  have e3 : ∀ w : World, (Op.equalIn 10000 27 (.agg #[.int .u64 (wd C 0 : Nat), .int .u64 (wd C 1 : Nat), .int .u64 (wd C 2 : Nat), .int .u64 (wd C 3 : Nat)]) (.agg #[.int .u64 (wd C 0 : Nat), .int .u64 (wd C 1 : Nat), .int .u64 (wd C 2 : Nat), .int .u64 (wd C 3 : Nat)])).run Tryz.prog w = .ok true w := fun w => by simpa using eq_words 9998 w (wd C 0 : Nat) (wd C 1 : Nat) (wd C 2 : Nat) (wd C 3 : Nat) (wd C 0 : Nat) (wd C 1 : Nat) (wd C 2 : Nat) (wd C 3 : Nat)
  have HB0 := hid (SN.start w kd T C p p' g cap g' cap' n)
  dsimp only [n8] at HB0 ⊢
  go_enter Tryz.func19, Tryz.ntmps19
  go_wp2_with fail
  go_loopw [7] (fun i wr => ∃ j : Nat, i = .int .i64 (j : Int) ∧ j ≤ n ∧ Hid (SN w g n cap g' cap' wr)) (fun i _ => n - (intOf i).toNat)
  case atStart => exact ⟨0, rfl, by omega, HB0⟩
  case round =>
    obtain ⟨j, rfl, hj, HW⟩ := hrel
    obtain ⟨_, b1, b2, _⟩ := HW.out
    clear HB0
    by_cases hjn : j < n
    · have hjI : (j : Int) < (n : Int) := by omega
      obtain ⟨kd1, T1, C1, so1, sl1, sc1, p1, kd2, T2, C2, so2, sl2, sc2, p2, z1, z2, hc⟩ := HC.out j hjn
      have HK := hid hc
      have z1 := z1.below HW.out.1 hg
      have z2 := z2.below HW.out.1 hg'
      obtain ⟨x0, x1, x2, x3, x4, x5, x6, x7⟩ := z1
      obtain ⟨y0, y1, y2, y3, y4, y5, y6, y7⟩ := z2
      clear hc
      dsimp only [n8] at HK
      have S1 : (fun W => Hid (SN w g n cap g' cap' W) ∧ W.cell? ⟨w.heap.size, 6, none⟩ = some (.slice (some ⟨g, 0, none⟩) n cap) ∧ W.cell? ⟨w.heap.size + 1, 6, none⟩ = some (.slice (some ⟨g', 0, none⟩) n cap') ∧ W.cell? ⟨g, j * 8, none⟩ = some (.int .i64 (kd1 : Int)) ∧ W.cell? ⟨g, j * 8 + 1, none⟩ = some (.string T1) ∧ W.cell? ⟨g, j * 8 + 2, none⟩ = some (.int .u64 (wd C1 0 : Nat)) ∧ W.cell? ⟨g, j * 8 + 3, none⟩ = some (.int .u64 (wd C1 1 : Nat)) ∧ W.cell? ⟨g, j * 8 + 4, none⟩ = some (.int .u64 (wd C1 2 : Nat)) ∧ W.cell? ⟨g, j * 8 + 5, none⟩ = some (.int .u64 (wd C1 3 : Nat)) ∧ W.cell? ⟨g, j * 8 + 6, none⟩ = some (.slice so1 sl1 sc1) ∧ W.cell? ⟨g, j * 8 + 7, none⟩ = some (.int .i64 (p1 : Int)) ∧ W.cell? ⟨g', j * 8, none⟩ = some (.int .i64 (kd2 : Int)) ∧ W.cell? ⟨g', j * 8 + 1, none⟩ = some (.string T2) ∧ W.cell? ⟨g', j * 8 + 2, none⟩ = some (.int .u64 (wd C2 0 : Nat)) ∧ W.cell? ⟨g', j * 8 + 3, none⟩ = some (.int .u64 (wd C2 1 : Nat)) ∧ W.cell? ⟨g', j * 8 + 4, none⟩ = some (.int .u64 (wd C2 2 : Nat)) ∧ W.cell? ⟨g', j * 8 + 5, none⟩ = some (.int .u64 (wd C2 3 : Nat)) ∧ W.cell? ⟨g', j * 8 + 6, none⟩ = some (.slice so2 sl2 sc2) ∧ W.cell? ⟨g', j * 8 + 7, none⟩ = some (.int .i64 (p2 : Int))) wr.drew := keep_sn hg hg' (Below.refl _ wr).drew ⟨HW, b1, b2, x0, x1, x2, x3, x4, x5, x6, x7, y0, y1, y2, y3, y4, y5, y6, y7⟩
      go_wp2_with fail
      go_region_held3 (fun W => Hid (SN w g n cap g' cap' W) ∧ W.cell? ⟨w.heap.size, 6, none⟩ = some (.slice (some ⟨g, 0, none⟩) n cap) ∧ W.cell? ⟨w.heap.size + 1, 6, none⟩ = some (.slice (some ⟨g', 0, none⟩) n cap') ∧ W.cell? ⟨g, j * 8, none⟩ = some (.int .i64 (kd1 : Int)) ∧ W.cell? ⟨g, j * 8 + 1, none⟩ = some (.string T1) ∧ W.cell? ⟨g, j * 8 + 2, none⟩ = some (.int .u64 (wd C1 0 : Nat)) ∧ W.cell? ⟨g, j * 8 + 3, none⟩ = some (.int .u64 (wd C1 1 : Nat)) ∧ W.cell? ⟨g, j * 8 + 4, none⟩ = some (.int .u64 (wd C1 2 : Nat)) ∧ W.cell? ⟨g, j * 8 + 5, none⟩ = some (.int .u64 (wd C1 3 : Nat)) ∧ W.cell? ⟨g, j * 8 + 6, none⟩ = some (.slice so1 sl1 sc1) ∧ W.cell? ⟨g, j * 8 + 7, none⟩ = some (.int .i64 (p1 : Int)) ∧ W.cell? ⟨g', j * 8, none⟩ = some (.int .i64 (kd2 : Int)) ∧ W.cell? ⟨g', j * 8 + 1, none⟩ = some (.string T2) ∧ W.cell? ⟨g', j * 8 + 2, none⟩ = some (.int .u64 (wd C2 0 : Nat)) ∧ W.cell? ⟨g', j * 8 + 3, none⟩ = some (.int .u64 (wd C2 1 : Nat)) ∧ W.cell? ⟨g', j * 8 + 4, none⟩ = some (.int .u64 (wd C2 2 : Nat)) ∧ W.cell? ⟨g', j * 8 + 5, none⟩ = some (.int .u64 (wd C2 3 : Nat)) ∧ W.cell? ⟨g', j * 8 + 6, none⟩ = some (.slice so2 sl2 sc2) ∧ W.cell? ⟨g', j * 8 + 7, none⟩ = some (.int .i64 (p2 : Int))) (first | assumption | exact keep_sn hg hg' (by assumption) (by assumption)) (first | (go_at_call 19; refine (HK.out _ ?hh).mono ?_; (case hh => exact S1.1.out.1); rintro e wq ⟨rfl, hbq⟩))
      have S3 : (fun W => Hid (SN w g n cap g' cap' W) ∧ W.cell? ⟨w.heap.size, 6, none⟩ = some (.slice (some ⟨g, 0, none⟩) n cap) ∧ W.cell? ⟨w.heap.size + 1, 6, none⟩ = some (.slice (some ⟨g', 0, none⟩) n cap') ∧ W.cell? ⟨g, j * 8, none⟩ = some (.int .i64 (kd1 : Int)) ∧ W.cell? ⟨g, j * 8 + 1, none⟩ = some (.string T1) ∧ W.cell? ⟨g, j * 8 + 2, none⟩ = some (.int .u64 (wd C1 0 : Nat)) ∧ W.cell? ⟨g, j * 8 + 3, none⟩ = some (.int .u64 (wd C1 1 : Nat)) ∧ W.cell? ⟨g, j * 8 + 4, none⟩ = some (.int .u64 (wd C1 2 : Nat)) ∧ W.cell? ⟨g, j * 8 + 5, none⟩ = some (.int .u64 (wd C1 3 : Nat)) ∧ W.cell? ⟨g, j * 8 + 6, none⟩ = some (.slice so1 sl1 sc1) ∧ W.cell? ⟨g, j * 8 + 7, none⟩ = some (.int .i64 (p1 : Int)) ∧ W.cell? ⟨g', j * 8, none⟩ = some (.int .i64 (kd2 : Int)) ∧ W.cell? ⟨g', j * 8 + 1, none⟩ = some (.string T2) ∧ W.cell? ⟨g', j * 8 + 2, none⟩ = some (.int .u64 (wd C2 0 : Nat)) ∧ W.cell? ⟨g', j * 8 + 3, none⟩ = some (.int .u64 (wd C2 1 : Nat)) ∧ W.cell? ⟨g', j * 8 + 4, none⟩ = some (.int .u64 (wd C2 2 : Nat)) ∧ W.cell? ⟨g', j * 8 + 5, none⟩ = some (.int .u64 (wd C2 3 : Nat)) ∧ W.cell? ⟨g', j * 8 + 6, none⟩ = some (.slice so2 sl2 sc2) ∧ W.cell? ⟨g', j * 8 + 7, none⟩ = some (.int .i64 (p2 : Int))) wq := by assumption
      have HW3 : Hid (SN w g n cap g' cap' wq) := S3.1
      clear S3 S1 hbq x0 x1 x2 x3 x4 x5 x6 x7 y0 y1 y2 y3 y4 y5 y6 y7 b1 b2 HW HK
      go_wp2_with fail
      go_roundw
      case rel => exact ⟨j + 1, by go_num, by omega, HW3⟩
      case measure => simp [intOf]; omega
    · have hjI : decide ((j : Int) < (n : Int)) = false := by simp; omega
      have HB : Hid (Below w.heap.size w wr) := HW.out.1
      clear HW
      go_wp2_with fail
      go_ret
      exact ⟨rfl, HB.out⟩
theorem node_block {w : World} {P : Nat → Prop} {kd : Nat} {T : ByteArray} {C p : Nat} {s : List Nd} {cs : List Value} (h : NdIs w P (.mk kd T C s p) cs) (hs : s.isEmpty = false) : ∃ g cap cur, cs = n8 kd T C (.slice (some ⟨g, 0, none⟩) s.length cap) p ∧ w.heap[g]? = some (.cells cur 30) ∧ NdsIs w P s cur.toList := by
  rw [NdIs] at h
  obtain ⟨sv, rfl, ⟨h1, _⟩ | ⟨_, g, cap, cur, rfl, _, h3, _, h4⟩⟩ := h
  · rw [hs] at h1; cases h1
  · exact ⟨g, cap, cur, by rw [ndLen_eq], h3, h4⟩
/-- SameNode answers true at two trees that are one but for places. -/
theorem zsame_all : ∀ (N : Nat) (n m : Nd) (cs ds : List Value) (P Q : Nat → Prop) (w : World), SizeOf.sizeOf n < N → Sm n m → NdIs w P n cs → NdIs w Q m ds →
    Calls Tryz.prog 19 #[.agg cs.toArray, .agg ds.toArray, .bool false] w fun e w' => e = .returned (.bool true) ∧ Below w.heap.size w w'
  | 0, n, _, _, _, _, _, _, h, _, _, _ => by omega
  | N + 1, .mk kd T C s p, .mk kd' T' C' s' p', cs, ds, P, Q, w, hN, hS, h1, h2 => by
    rw [Sm] at hS
    obtain ⟨rfl, rfl, rfl, hL, hl⟩ := hS
    have hle := hL.len
    cases hs : s.isEmpty with
    | true =>
      have hs0 : s = [] := by simpa using hs
      subst hs0
      have hs' : s' = [] := List.eq_nil_of_length_eq_zero (by simpa using hle)
      subst hs'
      rw [NdIs] at h1 h2
      obtain ⟨sv, rfl, ⟨_, rfl⟩ | ⟨hh, _⟩⟩ := h1
      · obtain ⟨sv', rfl, ⟨_, rfl⟩ | ⟨hh, _⟩⟩ := h2
        · exact zsame_leaf kd' T' C' p p' w
        · cases hh
      · cases hh
    | false =>
      have hs' : s'.isEmpty = false := by
        cases s with
        | nil => cases hs
        | cons a r => cases s' with
          | nil => simp at hle
          | cons b q => rfl
      obtain ⟨g, cap, cur, rfl, hg, hn⟩ := node_block h1 hs
      obtain ⟨g', cap', cur', rfl, hg', hn'⟩ := node_block h2 hs'
      rw [hle]
      refine zsame_row kd' T' C' p p' g cap g' cap' s.length w hl (node_lt hg) (node_lt hg') (fun j hj => ?_)
      have hj' : j < s'.length := by omega
      obtain ⟨kd1, T1, C1, so1, sl1, sc1, p1, a1, b1⟩ := nds_at hg hn j hj
      obtain ⟨kd2, T2, C2, so2, sl2, sc2, p2, a2, b2⟩ := nds_at hg' hn' j hj'
      refine ⟨kd1, T1, C1, so1, sl1, sc1, p1, kd2, T2, C2, so2, sl2, sc2, p2, b1, b2, fun W hW => ?_⟩
      have hsz : SizeOf.sizeOf s[j] < N := by
        have h3 := List.sizeOf_lt_of_mem (List.getElem_mem hj)
        simp only [Nd.mk.sizeOf_spec] at hN
        omega
      exact zsame_all N s[j] s'[j] _ _ P Q W hsz (hL.get j hj hj') (a1.below hW) (a2.below hW)
end Go.Proofs.YtikfnaffiehpaaaGreatDoor
