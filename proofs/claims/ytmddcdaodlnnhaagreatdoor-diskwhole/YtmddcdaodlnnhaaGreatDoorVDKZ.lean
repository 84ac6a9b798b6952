/-
  Start of package disk: what comes of a row of files. Conditions: those that each theorem names.
-/
import Derived.Test.YtmddcdaodlnnhaaGreatDoorVDKVToDKY
namespace Go.Proofs.YtmddcdaodlnnhaaGreatDoor
open Go.RowKit Go.Maps
set_option linter.unusedVariables false
/-- How many are kept of a file. -/
def stK (f : Pf) (kp : Option Int) : Nat := f.s + (match kp with | some x => (x % (((f.b.length - f.s : Nat) : Int) + 1)).toNat | none => 0)
def stF (f : Pf) (kp : Option Int) : Pf := ⟨f.n, f.b.take (stK f kp), stK f kp⟩
def startL (P : List Pf) (ks : List Int) : List Pf := P.mapIdx fun i f => stF f ks[i]?
theorem startL_len (P : List Pf) (ks : List Int) : (startL P ks).length = P.length := by simp [startL]
theorem startL_at (P : List Pf) (ks : List Int) (i : Nat) (h : i < P.length) : (startL P ks)[i]'(by rw [startL_len]; exact h) = stF P[i] ks[i]? := by simp [startL]
def mixL (P : List Pf) (ks : List Int) (j : Nat) : List Pf := (startL P ks).take j ++ P.drop j
theorem mixL_len (P : List Pf) (ks : List Int) (j : Nat) (hj : j ≤ P.length) : (mixL P ks j).length = P.length := by
  unfold mixL
  rw [List.length_append, List.length_take, List.length_drop, startL_len]
  omega
theorem mixL_zero (P : List Pf) (ks : List Int) : mixL P ks 0 = P := by simp [mixL]
theorem mixL_all (P : List Pf) (ks : List Int) : mixL P ks P.length = startL P ks := by
  unfold mixL
  rw [List.drop_length, List.append_nil, List.take_of_length_le (by rw [startL_len]; exact Nat.le_refl _)]
theorem mixL_at (P : List Pf) (ks : List Int) (j : Nat) (hj : j < P.length) : (mixL P ks j)[j]'(by rw [mixL_len P ks j (by omega)]; exact hj) = P[j] := by
  unfold mixL
  rw [List.getElem_append_right (by rw [List.length_take, startL_len]; omega), List.getElem_drop]
  congr 1
  rw [List.length_take, startL_len]
  omega
theorem mixL_succ (P : List Pf) (ks : List Int) (j : Nat) (hj : j < P.length) : mixL P ks (j + 1) = (mixL P ks j).set j (stF P[j] ks[j]?) := by
  have hl : j < (startL P ks).length := by rw [startL_len]; exact hj
  unfold mixL
  rw [List.take_succ_eq_append_getElem hl, startL_at P ks j hj, List.set_append_right _ _ (by rw [List.length_take]; omega)]
  have : j - ((startL P ks).take j).length = 0 := by rw [List.length_take]; omega
  rw [this, List.append_assoc, List.drop_eq_getElem_cons hj]
  rfl
theorem stF_n (f : Pf) (kp : Option Int) : (stF f kp).n = f.n := rfl
theorem mixL_ids (P : List Pf) (ks : List Int) (j : Nat) : (mixL P ks j).map nm = P.map nm := by
  have h1 : (startL P ks).map nm = P.map nm := by
    refine List.ext_getElem (by simp [startL_len]) fun i h1 h2 => ?_
    have hi : i < P.length := by simpa using h2
    rw [List.getElem_map, List.getElem_map, startL_at P ks i hi]
    rfl
  unfold mixL
  rw [List.map_append, List.map_take, List.map_drop, h1, List.take_append_drop]
theorem stK_le {f : Pf} (kp : Option Int) (h : f.s ≤ f.b.length) : f.s ≤ stK f kp ∧ stK f kp ≤ f.b.length := by
  unfold stK
  cases kp with
  | none => simp only; omega
  | some x =>
    simp only
    have h1 := Int.emod_nonneg x (show (((f.b.length - f.s : Nat) : Int) + 1) ≠ 0 by omega)
    have h2 := Int.emod_lt_of_pos x (show (0 : Int) < ((f.b.length - f.s : Nat) : Int) + 1 by omega)
    omega
/-- A row of numbers that is there to be read. -/
def IntsAt (w : World) (a : Option Addr) (n c : Nat) (ks : List Int) : Prop := ks.length = n ∧ n ≤ c ∧ (∀ x ∈ ks, inI x) ∧ (a = none → c = 0) ∧
  (0 < n → ∃ g off, a = some ⟨g, off, none⟩ ∧ g < w.heap.size ∧ ∀ i (h : i < ks.length), w.cell? ⟨g, off + i, none⟩ = some (.int .i64 ks[i]))
theorem IntsAt.kxA {W W' : World} {L : Nat → Prop} {o : Option Addr} {n c : Nat} {b : List Int} (h : IntsAt W o n c b) (hk : Kx L W W') (hL : ∀ a, o = some a ∧ 0 < n → ¬ L a.block) : IntsAt W' o n c b := by
  obtain ⟨h1, h2, h3, h4, h5⟩ := h
  refine ⟨h1, h2, h3, h4, fun h0 => ?_⟩
  obtain ⟨g, off, ha, hlt, hc⟩ := h5 h0
  exact ⟨g, off, ha, Nat.lt_of_lt_of_le hlt hk.size, fun i hi => (World.cell?_of_block (w := W) (hk.block g hlt (hL _ ⟨ha, h0⟩))).trans (hc i hi)⟩
theorem IntsAt.below {W W' : World} {o : Option Addr} {n c : Nat} {b : List Int} (h : IntsAt W o n c b) (hb : Below W.heap.size W W') : IntsAt W' o n c b := by
  obtain ⟨h1, h2, h3, h4, h5⟩ := h
  refine ⟨h1, h2, h3, h4, fun h0 => ?_⟩
  obtain ⟨g, off, ha, hlt, hc⟩ := h5 h0
  exact ⟨g, off, ha, Nat.lt_of_lt_of_le hlt hb.size, fun i hi => (hb.cell (p := ⟨g, off + i, none⟩) hlt).trans (hc i hi)⟩
theorem put_put {α : Type} [Nmd α] (l : List α) {s t : α} (e : nm t = nm s) : put (put l s) t = put l t := by
  unfold put
  rw [List.map_map]
  refine List.map_congr_left fun a _ => ?_
  simp only [Function.comp]
  by_cases h : nm a = nm s
  · rw [if_pos h, e, if_pos rfl, if_pos h]
  · rw [if_neg h]
section
variable {m T T' : Nat} {w w' W X Y : World} {d B : Nat} {fs : List Fx} {off arm : Bool} {ah pa : Int}
/-- Files so far. -/
def SI (m T : Nat) (w2 : World) (d B : Nat) (fs : List Fx) (off arm : Bool) (ah pa : Int) (ks : List Int) (j : Nat) (wr : World) : Prop := ∃ fs' : List Fx, fs'.map pl = mixL (fs.map pl) ks j ∧ Dk m T wr d B fs' off arm ah pa ∧ Stp (OD d B fs) w2 (OD d B fs') wr
/-- What is done to one. -/
theorem SI.next {w2 wr : World} {ks : List Int} {j : Nat} (hj : j < fs.length) {fs' : List Fx} (e1 : fs'.map pl = mixL (fs.map pl) ks j) (hD : Dk m T wr d B fs' off arm ah pa) (hS : Stp (OD d B fs) w2 (OD d B fs') wr) {f : Fx} (hf : f ∈ fs') (hpf : pl f = pl fs[j])
    {k : Nat} (hk : k = stK (pl f) ks[j]?) {X : World} {f1 : Fx} (hn : f1.n = f.n) (hb : f1.b = f.b.take k) (hp : f1.p = f.p) (hkk : f1.k = k) (hDX : Dk m T X d B (put fs' f1) off arm ah pa) (hSX : Stp (OD d B fs') wr (OD d B (put fs' f1)) X) (hX : X.heap[f.p]? = some (.cells #[fsl f1, .int .i64 (f1.s : Int)] 71)) :
    SI m T w2 d B fs off arm ah pa ks (j + 1) (X.setCell ⟨f.p, 1, none⟩ (.int .i64 (k : Int))) := by
  have hm1 : f1 ∈ put fs' f1 := put_mem hf hn.symm
  have hok1 := hDX.ok f1 hm1
  have hbd1 := hDX.bd f1 hm1
  have hset := set_in hX 1 (.int .i64 (k : Int))
  rw [← hp] at hset
  have hrow := hok1.row
  rw [hkk] at hrow
  obtain ⟨f2, a1, a2, a3, a4, a5, hF1, hF2⟩ := hDX.stored hm1 (X := X) (Kx.refl _ _) (o' := f1.o) (k' := k) (c' := f1.c) (s' := k) (b' := f1.b) hrow (fun g e => .inl (by rw [show fsl f1 = .slice f1.o k f1.c by unfold fsl; rw [hkk]]; exact e)) (Nat.le_refl _) (T' := T) (Nat.le_refl _) (by rw [← hkk]; exact hbd1)
    (Y := X.setCell ⟨f1.p, 1, none⟩ (.int .i64 (k : Int))) (by rw [hset]; unfold fsl; rw [hkk]; rfl) (Kx.set (P := fun g => g = f1.p) (g := f1.p) rfl _)
  rw [hp] at hF1 hF2
  refine ⟨put (put fs' f1) f2, ?_, hF1, hS.trans (hSX.trans hF2)⟩
  rw [put_put fs' (show nm f2 = nm f1 from a1), map_put nm_pl, e1]
  have hjP : j < (fs.map pl).length := by rw [List.length_map]; exact hj
  have hjM : j < (mixL (fs.map pl) ks j).length := by rw [mixL_len _ _ _ (by omega)]; exact hjP
  have hRM : Rise (mixL (fs.map pl) ks j) := by rw [← e1]; exact rise_ids (by rw [List.map_map]; rfl) hD.mp.1
  have hat : (mixL (fs.map pl) ks j)[j] = pl f := by rw [mixL_at _ _ _ hjP, hpf]; simp
  rw [put_at hRM hjM (s := pl f2) (by rw [hat]; show f.n = f2.n; rw [a1, hn]), mixL_succ _ _ _ hjP]
  congr 1
  have : (fs.map pl)[j] = pl f := by rw [hpf]; simp
  rw [this]
  unfold pl stF
  rw [a1, a2, a3, hn, hb]
  simp only
  rw [show k = stK ⟨f.n, f.b, f.s⟩ ks[j]? from hk]
end
end Go.Proofs.YtmddcdaodlnnhaaGreatDoor
