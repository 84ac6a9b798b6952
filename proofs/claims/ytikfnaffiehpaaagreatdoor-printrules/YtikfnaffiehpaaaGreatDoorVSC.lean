/-
  What printer.Expr answers. Conditions: those that each theorem names.
-/
import Derived.Test.YtikfnaffiehpaaaGreatDoorVSB
namespace Go.Proofs.YtikfnaffiehpaaaGreatDoor
open Go.RowKit Go.Shelf
set_option linter.unusedVariables false
mutual
theorem RtIs.mono {w : World} {B B' : Nat} (hB : B ≤ B') : ∀ (t : RT) (cs : List Value), RtIs w B t cs → RtIs w B' t cs
  | .mk k T a b c d s p, cs, ht => by
    rw [RtIs] at ht ⊢
    obtain ⟨so, cap, rfl, ht⟩ := ht
    refine ⟨so, cap, rfl, ?_⟩
    rcases ht with h1 | ⟨h1, g, o, h2, h3, h4, h5⟩
    · exact .inl h1
    · exact .inr ⟨h1, g, o, h2, by omega, h4, RtsIs.mono hB s g o h5⟩
theorem RtsIs.mono {w : World} {B B' : Nat} (hB : B ≤ B') : ∀ (s : List RT) (g o : Nat), RtsIs w B g o s → RtsIs w B' g o s
  | [], g, o, _ => by rw [RtsIs]; trivial
  | t :: r, g, o, ht => by
    rw [RtsIs] at ht ⊢
    obtain ⟨⟨cs, h1, h2⟩, h3⟩ := ht
    exact ⟨⟨cs, RtIs.mono hB t cs h1, h2⟩, RtsIs.mono hB r g _ h3⟩
end
/-- The name under which an expression stands alone. -/
@[reducible] def bA : ByteArray := { data := #[97] }
theorem nm_A : ∀ x, x < 1 → nmS bA = true := by decide +kernel
/-- The world in which Expr calls Print. -/
@[reducible] def wX (w : World) (k : Int) (T : ByteArray) (a b c d : Int) (so : Option Addr) (n cap : Nat) (p : Int) : World := (w.alloc (.cells #[.int .i64 k, .string T, .int .u64 a, .int .u64 b, .int .u64 c, .int .u64 d, .slice so n cap, .int .i64 p] 30)).alloc (.cells #[.string { data := #[97] }, .int .i64 k, .string T, .int .u64 a, .int .u64 b, .int .u64 c, .int .u64 d, .slice so n cap, .int .i64 p, .int .i64 0] 50)
theorem wX_below (w : World) (k : Int) (T : ByteArray) (a b c d : Int) (so : Option Addr) (n cap : Nat) (p : Int) : Below w.heap.size w (wX w k T a b c d so n cap p) := ((Below.refl _ _).alloc (Nat.le_refl _) _).alloc (by simp) _
theorem wX_is {w : World} {k : Int} {T : ByteArray} {a b c d : Int} {so : Option Addr} {n cap : Nat} {p : Int} {t : RT} (ht : RtIs w w.heap.size t (r8 k T a b c d so n cap p)) : RgIs (wX w k T a b c d so n cap p) (wX w k T a b c d so n cap p).heap.size (some ⟨w.heap.size + 1, 0, none⟩) 1 [(bA, t, 0)] := by
  have hb := wX_below w k T a b c d so n cap p
  refine ⟨rfl, by unfold maxLen; omega, fun j hj => ⟨w.heap.size + 1, 0, rfl, by simp, ?_⟩⟩
  obtain rfl : j = 0 := by simpa using hj
  obtain ⟨⟨c0, c1, c2, c3, c4, c5, c6, c7, c8, c9⟩, _⟩ := ten_cells (w := wX w k T a b c d so n cap p) (g := w.heap.size + 1) (new_block_at _ _ (by simp))
  exact ⟨k, T, a, b, c, d, so, n, cap, p, (ht.below hb).mono hb.size _ _, c0, c1, c2, c3, c4, c5, c6, c7, c8, c9⟩
theorem rgz_one {t : RT} (hz : RtZ t) : RgZ [(bA, t, 0)] := fun x hx => by
  obtain rfl : x = (bA, t, 0) := by simpa using hx
  exact ⟨by show 1 ≤ _; omega, hz⟩
theorem okG_one (t : RT) : okG [(bA, t, 0)] = okT t := by
  unfold okG
  rw [List.all_cons, List.all_nil, Bool.and_true]
  show (true && (true && (nmS bA && okT t))) = okT t
  rw [nm_A 0 (by decide)]
  rfl
set_option maxRecDepth 100000 in
set_option maxHeartbeats 8000000 in
theorem nexpr_err (k : Int) (T : ByteArray) (a b c d p : Int) (so : Option Addr) (n cap : Nat) (w : World) (c0 : Int)
    (HP : Hid (Calls Tryz.prog 11 #[.agg #[.slice (some ⟨w.heap.size + 1, 0, none⟩) 1 1]] (wX w k T a b c d so n cap p) fun e w' => e = .returned (.tuple #[.string { data := #[] }, .iface 39 (.int .i64 c0)]) ∧ Below (wX w k T a b c d so n cap p).heap.size (wX w k T a b c d so n cap p) w')) :
    Calls Tryz.prog 15 #[.agg (r8 k T a b c d so n cap p).toArray] w fun e w' => e = .returned (.string { data := #[] }) ∧ Below w.heap.size w w' := by
  have HB := hid (wX_below w k T a b c d so n cap p)
  dsimp only [r8]
  go_enter Tryz.func15, Tryz.ntmps15
  go_wp2_with fail
  refine HP.out.mono ?_
  rintro e w1 ⟨rfl, hb1⟩
  have HB1 : Hid (Below w.heap.size w w1) := HB.out.trans (hb1.mono HB.out.size)
  clear HP hb1 HB
  go_wp2_with fail
  go_ret
  exact ⟨rfl, HB1.out⟩
set_option maxRecDepth 100000 in
set_option maxHeartbeats 8000000 in
theorem nexpr_txt (k : Int) (T : ByteArray) (a b c d p : Int) (so : Option Addr) (n cap : Nat) (w : World) (X L : ByteArray) (hL : L.size = X.size + 6) (hX : X.size ≤ 8192) (HX : Hid (L.extract 5 (X.size + 5) = X))
    (HP : Hid (Calls Tryz.prog 11 #[.agg #[.slice (some ⟨w.heap.size + 1, 0, none⟩) 1 1]] (wX w k T a b c d so n cap p) fun e w' => e = .returned (.tuple #[.string L, .nilIface]) ∧ Below (wX w k T a b c d so n cap p).heap.size (wX w k T a b c d so n cap p) w')) :
    Calls Tryz.prog 15 #[.agg (r8 k T a b c d so n cap p).toArray] w fun e w' => e = .returned (.string X) ∧ Below w.heap.size w w' := by
  have HB := hid (wX_below w k T a b c d so n cap p)
  dsimp only [r8]
  go_enter Tryz.func15, Tryz.ntmps15
  go_wp2_with fail
  refine HP.out.mono ?_
  rintro e w1 ⟨rfl, hb1⟩
  have HB1 : Hid (Below w.heap.size w w1) := HB.out.trans (hb1.mono HB.out.size)
  have hsl : (Instr.slice 9 (.string L) (some (.int .i64 5)) (some (.int .i64 ((X.size : Int) + 6 - 1))) none).run Tryz.prog w1 = .ok (.string X) w1 := by
    rw [run_slice_string w1 9 L .i64 .i64 5 ((X.size : Int) + 6 - 1) Tryz.underlying9 (by omega) (by omega) (by rw [hL]; omega)]
    rw [show ((X.size : Int) + 6 - 1).toNat = X.size + 5 by omega]
    exact congrArg (fun q => Result.ok (Value.string q) w1) HX.out
  clear HP hb1 HB
  go_wp2_with fail
  go_ret
  exact ⟨rfl, HB1.out⟩
/-- An expression's text, or none. -/
def exS (nd : Nd) : ByteArray := if 8192 < sz (pR qT cT [(bA, nd, 0)]) ∨ 24 < dR [(bA, nd, 0)] then { data := #[] } else cat (pN qT cT nd)
theorem cat_one (nd : Nd) : cat (pR qT cT [(bA, nd, 0)]) = { data := ([97, 32, 60, 45, 32] ++ ((cat (pN qT cT nd)).data.toList ++ [10])).toArray } := by
  rw [pR, pR, cat, cat, cat_app, cat, cat]
  apply ByteArray.ext
  apply Array.ext'
  simp [bA, bAr, bNl]
theorem cat_cut (nd : Nd) : (cat (pR qT cT [(bA, nd, 0)])).size = (cat (pN qT cT nd)).size + 6 ∧ (cat (pR qT cT [(bA, nd, 0)])).extract 5 ((cat (pN qT cT nd)).size + 5) = cat (pN qT cT nd) := by
  obtain ⟨X, hX⟩ : ∃ X, X = cat (pN qT cT nd) := ⟨_, rfl⟩
  rw [cat_one, ← hX]
  have hl : X.data.toList.length = X.size := by rw [Array.length_toList]; rfl
  refine ⟨?_, ?_⟩
  · show ([97, 32, 60, 45, 32] ++ (X.data.toList ++ [10])).toArray.size = _
    simp
  · rw [ByteArray.extract_mk]
    apply ByteArray.ext
    apply Array.ext'
    show List.take (X.size + 5 - 5) (List.drop 5 ([97, 32, 60, 45, 32] ++ (X.data.toList ++ [10]))) = X.data.toList
    rw [show X.size + 5 - 5 = X.data.toList.length by omega]
    simp
/-- printer.Expr at a tree that may be printed. -/
theorem nexpr_ok (k : Int) (T : ByteArray) (a b c d p : Int) (so : Option Addr) (n cap : Nat) (t : RT) (nd : Nd) (w : World) (hT : TabIs w) (ht : RtIs w w.heap.size t (r8 k T a b c d so n cap p)) (hz : RtZ t) (hq : Tq t nd) (hv : Vk nd) (hw : Wf Nmq nd) :
    Calls Tryz.prog 15 #[.agg (r8 k T a b c d so n cap p).toArray] w fun e w' => e = .returned (.string (exS nd)) ∧ Below w.heap.size w w' := by
  have hb := wX_below w k T a b c d so n cap p
  have hqr : TqR [(bA, t, 0)] [(bA, nd, 0)] := by rw [TqR]; exact ⟨rfl, hq, by rw [TqR]; trivial⟩
  have hx : ∀ x ∈ [((bA, nd, 0) : Rl)], Ruk Nmq x := fun x hx => by
    obtain rfl : x = (bA, nd, 0) := by simpa using hx
    exact ⟨nm_A 0 (by decide), hv, hw⟩
  have HP := nprint_ok (some ⟨w.heap.size + 1, 0, none⟩) 1 1 [(bA, t, 0)] [(bA, nd, 0)] _ (wX w k T a b c d so n cap p) (rgz_one hz) (wX_is ht) (Nat.le_refl _) (by rw [okG_one]; exact (okT_of t nd hq hv hw).1) hqr hx (hT.below hb hT.lt)
  unfold exS
  rcases Nat.lt_or_ge 8192 (sz (pR qT cT [(bA, nd, 0)])) with hlong | hshort
  · rw [ansT_long hlong] at HP
    rw [if_pos (.inl hlong)]
    exact nexpr_err k T a b c d p so n cap w 2 HP
  rcases Nat.lt_or_ge 24 (dR [(bA, nd, 0)]) with hdeep | hflat
  · rw [ansT_deep hshort hdeep] at HP
    rw [if_pos (.inr hdeep)]
    exact nexpr_err k T a b c d p so n cap w 20 HP
  rw [ansT_ok hshort hflat] at HP
  rw [if_neg (by omega)]
  have hc := cat_cut nd
  have hs : (cat (pR qT cT [(bA, nd, 0)])).size ≤ 8192 := by rw [cat_size]; exact hshort
  exact nexpr_txt k T a b c d p so n cap w _ _ hc.1 (by omega) hc.2 HP
/-- printer.Expr at a tree that may not be printed. -/
theorem nexpr_bad (k : Int) (T : ByteArray) (a b c d p : Int) (so : Option Addr) (n cap : Nat) (t : RT) (w : World) (ht : RtIs w w.heap.size t (r8 k T a b c d so n cap p)) (hz : RtZ t) (hk : okT t = false) :
    Calls Tryz.prog 15 #[.agg (r8 k T a b c d so n cap p).toArray] w fun e w' => e = .returned (.string { data := #[] }) ∧ Below w.heap.size w w' :=
  nexpr_err k T a b c d p so n cap w 20 (nprint_bad (some ⟨w.heap.size + 1, 0, none⟩) 1 1 [(bA, t, 0)] _ (wX w k T a b c d so n cap p) (rgz_one hz) (wX_is ht) (Nat.le_refl _) (by rw [okG_one]; exact hk))
end Go.Proofs.YtikfnaffiehpaaaGreatDoor
