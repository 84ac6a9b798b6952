/-
  Maps of numbers to numbers, and to texts. Conditions: those that each theorem names.
-/
import Derived.Test.YtjhclpionimjbaaDoorZT
import Derived.Maps.StringElems
namespace Go.Proofs.YtjhclpionimjbaaDoor
open Go.RowKit Go.Maps
set_option linter.unusedVariables false
/-- Block B is a map that answers f x for x; 0, where there is none. -/
def MI (W : World) (B n : Nat) (f : Int → Int) : Prop := ∃ D : DataW Unit, W.ownsMap Tryd.prog 3 (plainElem Tryd.prog 3) B n D ∧ ∀ x, inI x → D.atKey (.int .i64 x) (.lit (.int .i64 0)) = .lit (.int .i64 (f x))
/-- .. texts; the empty one, where there is none. -/
def MT (W : World) (B n : Nat) (f : Int → List UInt8) : Prop := ∃ D : DataW Unit, W.ownsMap Tryd.prog 3 (plainElem Tryd.prog 9) B n D ∧ ∀ x, inI x → D.atKey (.int .i64 x) (.lit (.string [])) = .lit (.string (f x))
def setF {α : Type} (f : Int → α) (x : Int) (v : α) : Int → α := fun y => if y = x then v else f y
theorem MI.made (w : World) : MI (w.alloc (.map #[] 0)) w.heap.size 0 (fun _ => 0) := ⟨.map [], World.ownsMap_made w _ _ _, fun x _ => rfl⟩
theorem MT.made (w : World) : MT (w.alloc (.map #[] 0)) w.heap.size 0 (fun _ => []) := ⟨.map [], World.ownsMap_made w _ _ _, fun x _ => rfl⟩
theorem MI.same {W W' : World} {B n : Nat} {f : Int → Int} (h : MI W B n f) (hb : W'.heap[B]? = W.heap[B]?) : MI W' B n f := by
  obtain ⟨D, ⟨es, ck, h1, h2⟩, h3⟩ := h
  exact ⟨D, ⟨es, ck, hb.trans h1, h2⟩, h3⟩
theorem MT.same {W W' : World} {B n : Nat} {f : Int → List UInt8} (h : MT W B n f) (hb : W'.heap[B]? = W.heap[B]?) : MT W' B n f := by
  obtain ⟨D, ⟨es, ck, h1, h2⟩, h3⟩ := h
  exact ⟨D, ⟨es, ck, hb.trans h1, h2⟩, h3⟩
theorem MI.lt {W : World} {B n : Nat} {f : Int → Int} (h : MI W B n f) : B < W.heap.size := by
  obtain ⟨D, h1, _⟩ := h
  exact h1.lt
theorem MT.lt {W : World} {B n : Nat} {f : Int → List UInt8} (h : MT W B n f) : B < W.heap.size := by
  obtain ⟨D, h1, _⟩ := h
  exact h1.lt
theorem MI.look {W : World} {B n : Nat} {f : Int → Int} (h : MI W B n f) {x : Int} (hx : inI x) : (Instr.lookup 45 (.map (some B)) (.int .i64 x) false).run Tryd.prog W = .ok (.int .i64 (f x)) W := by
  obtain ⟨D, h1, h2⟩ := h
  obtain ⟨c, hrun, hat, _⟩ := h1.lookup_int kInt Tryd.underlying45 Tryd.underlying3 (by kernel_rfl) (key_int hx)
  rw [h2 x hx] at hat
  cases hat
  exact hrun
theorem MT.look {W : World} {B n : Nat} {f : Int → List UInt8} (h : MT W B n f) {x : Int} (hx : inI x) : (Instr.lookup 46 (.map (some B)) (.int .i64 x) false).run Tryd.prog W = .ok (.string (bs (f x))) W := by
  obtain ⟨D, h1, h2⟩ := h
  have hz : (zeroValue 9).run Tryd.prog W = .ok (.string ⟨#[]⟩) W := by kernel_rfl
  obtain ⟨v, ps, hrun, hv⟩ := h1.lookup kInt Tryd.underlying46 hz (zd := .lit (.string [])) (zp := []) (plainElem_string Tryd.underlying9 (s := ⟨#[]⟩) (Nat.zero_le _)) (key_int hx)
  rw [h2 x hx] at hv
  obtain ⟨c, rfl, hc⟩ : ∃ c : ByteArray, v = .string c ∧ c.data.toList = f x := by
    obtain ⟨c, rfl, hc, _⟩ := plainElem_string_inv Tryd.underlying9 hv
    have hc' : c.data.toList = f x ∧ ps = [] := by simpa using hc.symm
    exact ⟨c, rfl, hc'.1⟩
  rw [hrun, ← hc]
  rfl
theorem MI.put {W : World} {B n : Nat} {f : Int → Int} (h : MI W B n f) (hn : n < maxLen) {x v : Int} (hx : inI x) (hv : inI v) : ∃ W', (Instr.mapUpdate 45 (.map (some B)) (.int .i64 x) (.int .i64 v)).run Tryd.prog W = .ok () W' ∧ MI W' B (n + 1) (setF f x v) ∧ W.grownBy W' (some B) := by
  obtain ⟨D, h1, h2⟩ := h
  obtain ⟨W', h3, h4, h5⟩ := h1.update kInt Tryd.underlying45 hn (key_int hx) (plainElem_int Tryd.underlying3 (inI_wf hv))
  refine ⟨W', h3, ⟨_, h4, fun y hy => ?_⟩, h5⟩
  unfold setF
  by_cases e : y = x
  · subst e
    rw [if_pos rfl, Maps.atKey_put_same h1.isMap (show WideAt.IsKeyLit (.int .i64 y) from trivial)]
  · rw [if_neg e, Maps.atKey_put_other (fun h => e (by cases h; rfl)), h2 y hy]
theorem MT.put {W : World} {B n : Nat} {f : Int → List UInt8} (h : MT W B n f) (hn : n < maxLen) {x : Int} {v : List UInt8} (hx : inI x) (hv : v.length ≤ maxLen) : ∃ W', (Instr.mapUpdate 46 (.map (some B)) (.int .i64 x) (.string (bs v))).run Tryd.prog W = .ok () W' ∧ MT W' B (n + 1) (setF f x v) ∧ W.grownBy W' (some B) := by
  obtain ⟨D, h1, h2⟩ := h
  obtain ⟨W', h3, h4, h5⟩ := h1.update kInt Tryd.underlying46 hn (key_int hx) (plainElem_string Tryd.underlying9 (s := bs v) (by simpa [bs, ByteArray.size] using hv))
  refine ⟨W', h3, ⟨_, h4, fun y hy => ?_⟩, h5⟩
  unfold setF
  by_cases e : y = x
  · subst e
    rw [if_pos rfl, Maps.atKey_put_same h1.isMap (show WideAt.IsKeyLit (.int .i64 y) from trivial)]
    rfl
  · rw [if_neg e, Maps.atKey_put_other (fun h => e (by cases h; rfl)), h2 y hy]
theorem mkmapI (w : World) : (Instr.makeMap 45 none).run Tryd.prog w = .ok (.map (some w.heap.size)) (w.alloc (.map #[] 0)) := by kernel_rfl
theorem mkmapT (w : World) : (Instr.makeMap 46 none).run Tryd.prog w = .ok (.map (some w.heap.size)) (w.alloc (.map #[] 0)) := by kernel_rfl
end Go.Proofs.YtjhclpionimjbaaDoor
