/-
  Sessions in a map: rows of a table, by their numbers. Conditions: those that each theorem names.
-/
import Derived.Test.YtjhclpionimjbaaDoorMem
import Derived.Test.YtjhclpionimjbaaDoorRL
import Derived.Maps.OwnSet
import Derived.Maps.Ext
import Derived.Maps.RangeWalk
import Derived.Maps.AppendAt
namespace Go.Proofs.YtjhclpionimjbaaDoor
open Go.RowKit Go.Maps
set_option linter.unusedVariables false
/-- A session as it lies: its number, its last command's, when it was used, where its reply lies; and the reply's bytes. -/
structure Sx where
  i : Int
  l : Int
  u : Int
  o : Option Addr
  n : Nat
  c : Nat
  b : List UInt8
/-- .. as a value. -/
@[reducible] def sxv (s : Sx) : Value := .agg #[.int .i64 s.i, .int .i64 s.l, .int .i64 s.u, .slice s.o s.n s.c]
def sx0 : Sx := ⟨0, 0, 0, none, 0, 0, []⟩
/-- A value that is a session's reads as itself. -/
def Rs : Value → Option (DataW Value × List MemPlace)
  | .agg cs => match cs.toList with
    | [.int .i64 a, .int .i64 b, .int .i64 c, .slice o n m] => some (.held (.agg #[.int .i64 a, .int .i64 b, .int .i64 c, .slice o n m]), [])
    | _ => none
  | _ => none
theorem Rs_mk (s : Sx) : Rs (sxv s) = some (.held (sxv s), []) := rfl
theorem Rs_inv {v : Value} {y : DataW Value × List MemPlace} (h : Rs v = some y) : ∃ s : Sx, v = sxv s ∧ y = (.held v, []) := by
  unfold Rs at h
  split at h
  · rename_i cs
    split at h
    · rename_i a b c o n m hc
      obtain ⟨l⟩ := cs
      simp only at hc
      subst hc
      cases h
      exact ⟨⟨a, b, c, o, n, m, []⟩, rfl, rfl⟩
    · cases h
  · cases h
/-- A map's reading: sessions that rise. -/
def dOf (l : List Sx) : DataW Value := .map (l.map fun s => (Lit.int .i64 s.i, DataW.held (sxv s)))
def fnd (l : List Sx) (x : Int) : Option Sx := l.find? fun s => s.i == x
def Rise (l : List Sx) : Prop := l.Pairwise fun a b => a.i < b.i
def inI (x : Int) : Prop := -9223372036854775808 ≤ x ∧ x ≤ 9223372036854775807
theorem inI_wf {x : Int} (h : inI x) : (Lit.int .i64 x).wf = true := by
  unfold inI at h
  simp [Lit.wf, IntKind.min, IntKind.max, IntKind.signed, IntKind.bits]
  omega
theorem int_same (a b : Int) : (Lit.int .i64 a).sameKey (.int .i64 b) = (a == b) := by
  by_cases e : a = b
  · subst e
    rw [WideAt.sameKey_self (show WideAt.IsKeyLit (.int .i64 a) from trivial)]
    simp
  · rw [Maps.sameKey_ne (fun h => e (by cases h; rfl))]
    simp [e]
theorem fnd_has (x : Int) : ∀ l : List Sx, Maps.has (dOf l) (.int .i64 x) = (fnd l x).isSome
  | [] => rfl
  | s :: r => by
    have ih := fnd_has x r
    unfold dOf fnd at *
    rw [Maps.has_eq] at *
    rw [List.map_cons, List.any_cons, int_same, List.find?_cons, ih]
    cases s.i == x <;> simp
theorem fnd_at (x : Int) (z : DataW Value) : ∀ l : List Sx, (dOf l).atKey (.int .i64 x) z = match fnd l x with | some s => .held (sxv s) | none => z
  | [] => rfl
  | s :: r => by
    have ih := fnd_at x z r
    unfold dOf fnd at *
    unfold DataW.atKey at *
    simp only at *
    rw [List.map_cons, List.find?_cons, int_same, List.find?_cons]
    cases h : s.i == x
    · exact ih
    · rfl
theorem has_odd (l : List Sx) (k : Lit) (h : ∀ x, k ≠ .int .i64 x) : Maps.has (dOf l) k = false := by
  unfold dOf
  rw [Maps.has_eq, List.any_eq_false]
  intro p hp
  obtain ⟨s, _, rfl⟩ := List.mem_map.1 hp
  simp [Maps.sameKey_ne (fun e => h _ e.symm)]
theorem dOf_canon {l : List Sx} (h : Rise l) : Maps.Canon (dOf l) := by
  refine ⟨_, rfl, ?_, ?_⟩
  · refine List.pairwise_map.2 (h.imp fun {a b} hab => ?_)
    simp [Lit.before, hab]
  · intro p hp
    obtain ⟨s, _, rfl⟩ := List.mem_map.1 hp
    trivial
theorem dOf_size (l : List Sx) : Maps.size (dOf l) = l.length := by simp [dOf, Maps.size]
theorem dOf_ext {D : DataW Value} {l : List Sx} (hc : Maps.Canon D) (hr : Rise l) (hh : ∀ x, Maps.has D (.int .i64 x) = (fnd l x).isSome) (ho : ∀ k, (∀ x, k ≠ .int .i64 x) → Maps.has D k = false)
    (ha : ∀ x s, fnd l x = some s → ∀ z, D.atKey (.int .i64 x) z = .held (sxv s)) : D = dOf l := by
  refine Maps.ext hc (dOf_canon hr) (fun k => ?_) (fun k z hk => ?_)
  · by_cases hi : ∃ x, k = .int .i64 x
    · obtain ⟨x, rfl⟩ := hi
      rw [hh, fnd_has]
    · have hi' : ∀ x, k ≠ .int .i64 x := fun x e => hi ⟨x, e⟩
      rw [ho k hi', has_odd l k hi']
  · by_cases hi : ∃ x, k = .int .i64 x
    · obtain ⟨x, rfl⟩ := hi
      rw [hh] at hk
      obtain ⟨s, hs⟩ := Option.isSome_iff_exists.1 hk
      rw [ha x s hs, fnd_at, hs]
    · have hi' : ∀ x, k ≠ .int .i64 x := fun x e => hi ⟨x, e⟩
      rw [ho k hi'] at hk
      cases hk
theorem kInt : Keyed Tryd.prog 3 := int_keyed Tryd.underlying3
theorem key_int {x : Int} (h : inI x) : keyOf Tryd.prog 3 (.int .i64 x) = some (.int .i64 x) := keyOf_int_mk Tryd.underlying3 (inI_wf h)
theorem szero (w : World) : (zeroValue 59).run Tryd.prog w = .ok (sxv sx0) w := by kernel_rfl
theorem own_tight {w : World} {b n : Nat} {D : DataW Value} (h : w.ownsMap Tryd.prog 3 Rs b n D) : w.ownsMap Tryd.prog 3 Rs b (Maps.size D) D := by
  obtain ⟨es, ck, h1, h2, h3, h4⟩ := h
  refine ⟨es, ck, h1, h2, ?_, h4⟩
  rw [h4]
  exact Nat.le_of_eq (length_read (P := Tryd.prog) (k := 3) (R0 := Rs) es).symm
/-- Block B is a map of these sessions. -/
def TM (W : World) (B : Nat) (l : List Sx) : Prop := Rise l ∧ W.ownsMap Tryd.prog 3 Rs B l.length (dOf l)
theorem TM.made (w : World) : TM (w.alloc (.map #[] 0)) w.heap.size [] := ⟨List.Pairwise.nil, World.ownsMap_made w _ _ _⟩
theorem TM.same {W W' : World} {B : Nat} {l : List Sx} (h : TM W B l) (hb : W'.heap[B]? = W.heap[B]?) : TM W' B l := by
  obtain ⟨h0, es, ck, h1, h2⟩ := h
  exact ⟨h0, es, ck, hb.trans h1, h2⟩
theorem TM.lt {W : World} {B : Nat} {l : List Sx} (h : TM W B l) : B < W.heap.size := h.2.lt
theorem TM.look_ok {W : World} {B : Nat} {l : List Sx} {x : Int} (h : TM W B l) (hx : inI x) : (Instr.lookup 61 (.map (some B)) (.int .i64 x) true).run Tryd.prog W = .ok (.tuple #[sxv ((fnd l x).getD sx0), .bool (fnd l x).isSome]) W := by
  obtain ⟨v, ps, hrun, hv⟩ := h.2.look_ok kInt Tryd.underlying61 (szero W) (Rs_mk sx0) (key_int hx)
  obtain ⟨s, rfl, hy⟩ := Rs_inv hv
  have hv : DataW.held (sxv s) = (dOf l).atKey (.int .i64 x) (.held (sxv sx0)) := (congrArg Prod.fst hy).symm
  rw [hrun, fnd_has]
  rw [fnd_at] at hv
  cases hf : fnd l x with
  | none => rw [hf] at hv; rw [DataW.held.inj hv]; simp only [Option.getD_none, Option.isSome_none]
  | some t => rw [hf] at hv; rw [DataW.held.inj hv]; simp only [Option.getD_some, Option.isSome_some]
theorem TM.look {W : World} {B : Nat} {l : List Sx} {x : Int} (h : TM W B l) (hx : inI x) : (Instr.lookup 61 (.map (some B)) (.int .i64 x) false).run Tryd.prog W = .ok (sxv ((fnd l x).getD sx0)) W := by
  obtain ⟨v, ps, hrun, hv⟩ := h.2.lookup kInt Tryd.underlying61 (szero W) (Rs_mk sx0) (key_int hx)
  obtain ⟨s, rfl, hy⟩ := Rs_inv hv
  have hv : DataW.held (sxv s) = (dOf l).atKey (.int .i64 x) (.held (sxv sx0)) := (congrArg Prod.fst hy).symm
  rw [hrun]
  rw [fnd_at] at hv
  cases hf : fnd l x with
  | none => rw [hf] at hv; rw [DataW.held.inj hv]; simp only [Option.getD_none]
  | some t => rw [hf] at hv; rw [DataW.held.inj hv]; simp only [Option.getD_some]
theorem TM.len {W : World} {B : Nat} {l : List Sx} (h : TM W B l) (ty : TypeId) : (Builtin.len_ #[61] ty #[.map (some B)]).run Tryd.prog W = .ok (.int .i64 l.length) W := by
  rw [h.2.len Tryd.underlying61 ty, dOf_size]
theorem lit_odd {k : Lit} {x : Int} (h : ∀ x, k ≠ .int .i64 x) : k ≠ .int .i64 x := h x
theorem TM.upd {W : World} {B : Nat} {l l' : List Sx} {s : Sx} (h : TM W B l) (hx : inI s.i) (hn : l.length < maxLen) (hr : Rise l') (hf : ∀ x, fnd l' x = if x = s.i then some s else fnd l x) :
    ∃ W', (Instr.mapUpdate 61 (.map (some B)) (.int .i64 s.i) (sxv s)).run Tryd.prog W = .ok () W' ∧ TM W' B l' ∧ W.grownBy W' (some B) := by
  obtain ⟨W', h3, h4, h5⟩ := h.2.update kInt Tryd.underlying61 hn (key_int hx) (Rs_mk s)
  refine ⟨W', h3, ⟨hr, ?_⟩, h5⟩
  have hm := h.2.isMap
  have e : (dOf l).put (.int .i64 s.i) (.held (sxv s)) = dOf l' := by
    refine dOf_ext (h4.canon kInt) hr (fun x => ?_) (fun k hk => ?_) (fun x t ht z => ?_)
    · rw [hf x]
      by_cases e : x = s.i
      · subst e
        rw [Maps.has_put_same hm (show WideAt.IsKeyLit (.int .i64 s.i) from trivial), if_pos rfl]
        rfl
      · rw [Maps.has_put_other (fun h => e (by cases h; rfl)), fnd_has, if_neg e]
    · rw [Maps.has_put_other (hk _), has_odd l k hk]
    · rw [hf x] at ht
      by_cases e : x = s.i
      · subst e
        rw [if_pos rfl] at ht
        cases ht
        rw [Maps.atKey_put_same hm (show WideAt.IsKeyLit (.int .i64 s.i) from trivial)]
      · rw [if_neg e] at ht
        rw [Maps.atKey_put_other (fun h => e (by cases h; rfl)), fnd_at, ht]
  rw [e] at h4
  have := own_tight h4
  rwa [dOf_size] at this
theorem TM.drop {W : World} {B : Nat} {l l' : List Sx} {x : Int} (h : TM W B l) (hx : inI x) (hr : Rise l') (hf : ∀ y, fnd l' y = if y = x then none else fnd l y) (ty : TypeId) :
    ∃ W', (Builtin.delete_ #[61, 3] ty #[.map (some B), .int .i64 x]).run Tryd.prog W = .ok (.tuple #[]) W' ∧ TM W' B l' ∧ W.grownBy W' (some B) := by
  obtain ⟨W', h3, h4, h5⟩ := h.2.drop kInt Tryd.underlying61 (key_int hx) ty
  refine ⟨W', h3, ⟨hr, ?_⟩, h5.grown⟩
  have e : (dOf l).del (.int .i64 x) = dOf l' := by
    refine dOf_ext (h4.canon kInt) hr (fun y => ?_) (fun k hk => ?_) (fun y t ht z => ?_)
    · rw [hf y]
      by_cases e : y = x
      · subst e
        rw [Maps.has_del_same, if_pos rfl]
        rfl
      · rw [Maps.has_del_other (fun h => e (by cases h; rfl)), fnd_has, if_neg e]
    · rw [Maps.has_del_other (hk _), has_odd l k hk]
    · rw [hf y] at ht
      by_cases e : y = x
      · subst e
        rw [if_pos rfl] at ht
        cases ht
      · rw [if_neg e] at ht
        rw [Maps.atKey_del_other (fun h => e (by cases h; rfl)), fnd_at, ht]
  rw [e] at h4
  have := own_tight h4
  rwa [dOf_size] at this
end Go.Proofs.YtjhclpionimjbaaDoor
