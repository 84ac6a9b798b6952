/-
  Files in a map: pointers by their names. Conditions: those that each theorem names.
  What strings.Clone and bytes.Clone answer. Conditions: those that each theorem names.
-/
import Derived.Test.YtmddcdaodlnnhaaGreatDoorVDKA
import Derived.Maps.RangeWalk
import Derived.StringKeys
import Derived.Test.YtmddcdaodlnnhaaGreatDoorVFB
import Derived.Shelf.Lay
import Derived.Shelf.Strconv.Clone
import Derived.Shelf.Bytes.SlClone
import Derived.Ground.SlbCloneProg
namespace Go.Proofs.YtmddcdaodlnnhaaGreatDoor
open Go.RowKit Go.Maps
set_option linter.unusedVariables false
/-- A file as it lies: its name, its block; where its bytes lie, how many, their room; the bytes; how many are sure. -/
structure Fx where
  n : Nm
  p : Nat
  o : Option Addr
  k : Nat
  c : Nat
  b : List UInt8
  s : Nat
instance : Nmd Fx := ⟨Fx.n⟩
theorem nm_fx (f : Fx) : nm f = f.n := rfl
@[reducible] def fptr (f : Fx) : Value := .pointer (some ⟨f.p, 0, none⟩)
@[reducible] def fsl (f : Fx) : Value := .slice f.o f.k f.c
/-- A value that is a pointer reads as itself. -/
def Rp : Value → Option (DataW Value × List MemPlace)
  | .pointer p => some (.held (.pointer p), [])
  | _ => none
theorem Rp_mk (p : Option Addr) : Rp (.pointer p) = some (.held (.pointer p), []) := rfl
theorem Rp_inv {v : Value} {y : DataW Value × List MemPlace} (h : Rp v = some y) : ∃ p, v = .pointer p ∧ y = (.held v, []) := by
  unfold Rp at h
  split at h
  · cases h
    exact ⟨_, rfl, rfl⟩
  · cases h
/-- A map's reading. -/
def dOf (l : List Fx) : DataW Value := .map (l.map fun f => (Lit.string f.n, DataW.held (fptr f)))
theorem str_same (a b : Nm) : (Lit.string a).sameKey (.string b) = (a == b) := rfl
theorem fnd_has (x : Nm) : ∀ l : List Fx, Maps.has (dOf l) (.string x) = (fnd l x).isSome
  | [] => rfl
  | s :: r => by
    have ih := fnd_has x r
    unfold dOf at *
    rw [Maps.has_eq] at *
    rw [List.map_cons, List.any_cons, str_same, fnd_cons, ih, nm_fx]
    by_cases h : s.n = x <;> simp [h]
theorem fnd_at (x : Nm) (z : DataW Value) : ∀ l : List Fx, (dOf l).atKey (.string x) z = match fnd l x with | some s => .held (fptr s) | none => z
  | [] => rfl
  | s :: r => by
    have ih := fnd_at x z r
    unfold dOf at *
    unfold DataW.atKey at *
    simp only at *
    rw [List.map_cons, List.find?_cons, str_same, fnd_cons, nm_fx]
    by_cases h : s.n = x
    · rw [if_pos h]; simp [h]
    · rw [if_neg h]
      have : (s.n == x) = false := by simp [h]
      rw [this]
      exact ih
theorem has_odd (l : List Fx) (k : Lit) (h : ∀ x, k ≠ .string x) : Maps.has (dOf l) k = false := by
  unfold dOf
  rw [Maps.has_eq, List.any_eq_false]
  intro p hp
  obtain ⟨s, _, rfl⟩ := List.mem_map.1 hp
  simp [Maps.sameKey_ne (fun e => h _ e.symm)]
theorem dOf_canon {l : List Fx} (h : Rise l) : Maps.Canon (dOf l) := by
  refine ⟨_, rfl, ?_, ?_⟩
  · exact List.pairwise_map.2 (h.imp fun {a b} hab => hab)
  · intro p hp
    obtain ⟨s, _, rfl⟩ := List.mem_map.1 hp
    trivial
theorem dOf_size (l : List Fx) : Maps.size (dOf l) = l.length := by simp [dOf, Maps.size]
theorem dOf_ext {D : DataW Value} {l : List Fx} (hc : Maps.Canon D) (hr : Rise l) (hh : ∀ x, Maps.has D (.string x) = (fnd l x).isSome) (ho : ∀ k, (∀ x, k ≠ .string x) → Maps.has D k = false)
    (ha : ∀ x s, fnd l x = some s → ∀ z, D.atKey (.string x) z = .held (fptr s)) : D = dOf l := by
  refine Maps.ext hc (dOf_canon hr) (fun k => ?_) (fun k z hk => ?_)
  · by_cases hi : ∃ x, k = .string x
    · obtain ⟨x, rfl⟩ := hi
      rw [hh, fnd_has]
    · have hi' : ∀ x, k ≠ .string x := fun x e => hi ⟨x, e⟩
      rw [ho k hi', has_odd l k hi']
  · by_cases hi : ∃ x, k = .string x
    · obtain ⟨x, rfl⟩ := hi
      rw [hh] at hk
      obtain ⟨s, hs⟩ := Option.isSome_iff_exists.1 hk
      rw [ha x s hs, fnd_at, hs]
    · have hi' : ∀ x, k ≠ .string x := fun x e => hi ⟨x, e⟩
      rw [ho k hi'] at hk
      cases hk
theorem kStr : Keyed Tryz.prog 9 := string_keyed Tryz.underlying9
theorem key_str {x : ByteArray} (h : x.size ≤ maxLen) : keyOf Tryz.prog 9 (.string x) = some (.string x.data.toList) := Go.WideMaps.keyOf_string_mk Tryz.underlying9 h
theorem szero (w : World) : (zeroValue 68).run Tryz.prog w = .ok (.pointer none) w := by kernel_rfl
theorem own_tight {w : World} {b n : Nat} {D : DataW Value} (h : w.ownsMap Tryz.prog 9 Rp b n D) : w.ownsMap Tryz.prog 9 Rp b (Maps.size D) D := by
  obtain ⟨es, ck, h1, h2, h3, h4⟩ := h
  refine ⟨es, ck, h1, h2, ?_, h4⟩
  rw [h4]
  exact Nat.le_of_eq (length_read (P := Tryz.prog) (k := 9) (R0 := Rp) es).symm
/-- Block B is a map of these files. -/
def TM (W : World) (B : Nat) (l : List Fx) : Prop := Rise l ∧ W.ownsMap Tryz.prog 9 Rp B l.length (dOf l)
theorem TM.made (w : World) : TM (w.alloc (.map #[] 0)) w.heap.size [] := ⟨List.Pairwise.nil, World.ownsMap_made w _ _ _⟩
theorem TM.same {W W' : World} {B : Nat} {l : List Fx} (h : TM W B l) (hb : W'.heap[B]? = W.heap[B]?) : TM W' B l := by
  obtain ⟨h0, es, ck, h1, h2⟩ := h
  exact ⟨h0, es, ck, hb.trans h1, h2⟩
theorem TM.lt {W : World} {B : Nat} {l : List Fx} (h : TM W B l) : B < W.heap.size := h.2.lt
theorem TM.ids {W : World} {B : Nat} {l l' : List Fx} (h : TM W B l) (e : l'.map (fun f => (f.n, f.p)) = l.map (fun f => (f.n, f.p))) : TM W B l' := by
  have e2 : dOf l' = dOf l := by
    unfold dOf
    have : ∀ l : List Fx, (l.map fun f => (Lit.string f.n, DataW.held (fptr f))) = (l.map (fun f => (f.n, f.p))).map fun q => (Lit.string q.1, DataW.held (Value.pointer (some ⟨q.2, 0, none⟩))) := fun l => by rw [List.map_map]; rfl
    rw [this l', this l, e]
  have e3 : l'.length = l.length := by have := congrArg List.length e; simpa using this
  refine ⟨rise_ids ?_ h.1, by rw [e2, e3]; exact h.2⟩
  have := congrArg (List.map Prod.fst) e
  rw [List.map_map, List.map_map] at this
  exact this.symm
/-- What a lookup gives. -/
def lookV (l : List Fx) (x : Nm) : Value := match fnd l x with | some f => fptr f | none => .pointer none
theorem TM.look_ok {W : World} {B : Nat} {l : List Fx} {x : ByteArray} (h : TM W B l) (hx : x.size ≤ maxLen) : (Instr.lookup 57 (.map (some B)) (.string x) true).run Tryz.prog W = .ok (.tuple #[lookV l x.data.toList, .bool (fnd l x.data.toList).isSome]) W := by
  obtain ⟨v, ps, hrun, hv⟩ := h.2.look_ok kStr Tryz.underlying57 (szero W) (Rp_mk none) (key_str hx)
  obtain ⟨s, rfl, hy⟩ := Rp_inv hv
  have hv : DataW.held (Value.pointer s) = (dOf l).atKey (.string x.data.toList) (.held (.pointer none)) := (congrArg Prod.fst hy).symm
  rw [hrun, fnd_has]
  rw [fnd_at] at hv
  unfold lookV
  cases hf : fnd l x.data.toList with
  | none => rw [hf] at hv; rw [DataW.held.inj hv]
  | some t => rw [hf] at hv; rw [DataW.held.inj hv]
theorem TM.look {W : World} {B : Nat} {l : List Fx} {x : ByteArray} (h : TM W B l) (hx : x.size ≤ maxLen) : (Instr.lookup 57 (.map (some B)) (.string x) false).run Tryz.prog W = .ok (lookV l x.data.toList) W := by
  obtain ⟨v, ps, hrun, hv⟩ := h.2.lookup kStr Tryz.underlying57 (szero W) (Rp_mk none) (key_str hx)
  obtain ⟨s, rfl, hy⟩ := Rp_inv hv
  have hv : DataW.held (Value.pointer s) = (dOf l).atKey (.string x.data.toList) (.held (.pointer none)) := (congrArg Prod.fst hy).symm
  rw [hrun]
  rw [fnd_at] at hv
  unfold lookV
  cases hf : fnd l x.data.toList with
  | none => rw [hf] at hv; rw [DataW.held.inj hv]
  | some t => rw [hf] at hv; rw [DataW.held.inj hv]
theorem TM.upd {W : World} {B : Nat} {l l' : List Fx} {s : Fx} {x : ByteArray} (h : TM W B l) (hx : x.size ≤ maxLen) (hsx : s.n = x.data.toList) (hn : l.length < maxLen) (hr : Rise l') (hf : ∀ x, fnd l' x = if x = s.n then some s else fnd l x) :
    ∃ W', (Instr.mapUpdate 57 (.map (some B)) (.string x) (fptr s)).run Tryz.prog W = .ok () W' ∧ TM W' B l' ∧ W.grownBy W' (some B) := by
  obtain ⟨W', h3, h4, h5⟩ := h.2.update kStr Tryz.underlying57 hn (key_str hx) (Rp_mk (some ⟨s.p, 0, none⟩))
  refine ⟨W', h3, ⟨hr, ?_⟩, h5⟩
  have hm := h.2.isMap
  rw [← hsx] at h4
  have e : (dOf l).put (.string s.n) (.held (fptr s)) = dOf l' := by
    refine dOf_ext (h4.canon kStr) hr (fun x => ?_) (fun k hk => ?_) (fun x t ht z => ?_)
    · rw [hf x]
      by_cases e : x = s.n
      · subst e
        rw [Maps.has_put_same hm (show WideAt.IsKeyLit (.string s.n) from trivial), if_pos rfl]
        rfl
      · rw [Maps.has_put_other (fun h => e (by cases h; rfl)), fnd_has, if_neg e]
    · rw [Maps.has_put_other (hk _), has_odd l k hk]
    · rw [hf x] at ht
      by_cases e : x = s.n
      · subst e
        rw [if_pos rfl] at ht
        cases ht
        rw [Maps.atKey_put_same hm (show WideAt.IsKeyLit (.string s.n) from trivial)]
      · rw [if_neg e] at ht
        rw [Maps.atKey_put_other (fun h => e (by cases h; rfl)), fnd_at, ht]
  rw [e] at h4
  have := own_tight h4
  rwa [dOf_size] at this
theorem TM.drop {W : World} {B : Nat} {l l' : List Fx} {x : ByteArray} (h : TM W B l) (hx : x.size ≤ maxLen) (hr : Rise l') (hf : ∀ y, fnd l' y = if y = x.data.toList then none else fnd l y) (ty : TypeId) :
    ∃ W', (Builtin.delete_ #[57, 9] ty #[.map (some B), .string x]).run Tryz.prog W = .ok (.tuple #[]) W' ∧ TM W' B l' ∧ W.grownBy W' (some B) := by
  obtain ⟨W', h3, h4, h5⟩ := h.2.drop kStr Tryz.underlying57 (key_str hx) ty
  refine ⟨W', h3, ⟨hr, ?_⟩, h5.grown⟩
  have e : (dOf l).del (.string x.data.toList) = dOf l' := by
    refine dOf_ext (h4.canon kStr) hr (fun y => ?_) (fun k hk => ?_) (fun y t ht z => ?_)
    · rw [hf y]
      by_cases e : y = x.data.toList
      · rw [e, Maps.has_del_same, if_pos rfl]
        rfl
      · rw [Maps.has_del_other (fun h => e (by cases h; rfl)), fnd_has, if_neg e]
    · rw [Maps.has_del_other (hk _), has_odd l k hk]
    · rw [hf y] at ht
      by_cases e : y = x.data.toList
      · rw [if_pos e] at ht
        cases ht
      · rw [if_neg e] at ht
        rw [Maps.atKey_del_other (fun h => e (by cases h; rfl)), fnd_at, ht]
  rw [e] at h4
  have := own_tight h4
  rwa [dOf_size] at this
end Go.Proofs.YtmddcdaodlnnhaaGreatDoor
namespace Go.Proofs
open Go.Shelf
shelf_lay LaysM.n316 Nm 316 at Tryz as Tryz.laysM316
shelf_lay SlLaysK.n4 Slk 4 at Tryz as Tryz.laysK4
end Go.Proofs
namespace Go.Proofs.YtmddcdaodlnnhaaGreatDoor
open Go.RowKit Go.Maps
set_option linter.unusedVariables false
theorem slclone_any (T : ByteArray) (w : World) (hS : T.size ≤ 281474976710656) :
    Calls Tryz.prog 55 #[.string T] w fun e w' => e = .returned (.string T) ∧ Below w.heap.size w w' := Any.stringslite_Clone Tryz.laysM316 T w hS
set_option maxRecDepth 100000 in
set_option maxHeartbeats 4000000 in
theorem clone_any (T : ByteArray) (w : World) (hS : T.size ≤ 281474976710656) :
    Calls Tryz.prog 32 #[.string T] w fun e w' => e = .returned (.string T) ∧ Below w.heap.size w w' := by
  go_enter Tryz.func32, Tryz.ntmps32
  go_wp2_with fail
  refine (slclone_any T _ hS).mono ?_
  rintro e w1 ⟨rfl, hb⟩
  have HB : Hid (Below w.heap.size w w1) := hb
  clear hb
  go_wp2_with fail
  go_ret
  exact ⟨rfl, HB.out⟩
theorem bv_u8 (b : List UInt8) : (b.map fun x => (x.toNat : Int)).map (Value.int .u8) = b.map bv := by
  rw [List.map_map]
  rfl
theorem clone_ok (o : Option Addr) (n c : Nat) (b : List UInt8) (w : World) (h : Has w o n c b) (hn : n ≤ 140737488355328) :
    Calls Tryz.prog 33 #[.slice o n c] w fun e w' => ∃ o' c', e = .returned (.slice o' n c') ∧ Has w' o' n c' b ∧ Fr w.heap.size w' o' c' ∧ (o = none → o' = none) ∧ Below w.heap.size w w' := by
  cases o with
  | none =>
    obtain ⟨h1, h2, h3, h4, h5⟩ := h
    obtain rfl : c = 0 := h4 rfl
    obtain rfl : n = 0 := by omega
    refine (Any.bytes_Clone_nil Tryz.laysK4 0 0 w).mono ?_
    rintro e w' ⟨rfl, rfl⟩
    exact ⟨none, 0, rfl, ⟨h1, h2, h3, h4, h5⟩, .inl ⟨rfl, rfl⟩, fun _ => rfl, Below.refl _ _⟩
  | some a =>
    refine (Any.bytes_Clone_at Tryz.laysK4 a n c (b.map fun x => (x.toNat : Int)) w (by simp [h.1]) hn (fun i hi => ?_)).mono ?_
    · obtain ⟨h1, h2, h3, h4, h5⟩ := h
      obtain ⟨g, off, ha, hlt, hc⟩ := h5 (by omega)
      cases ha
      rw [Addr.add_lit, hc i (by omega)]
      simp [bv, List.getD, List.getElem?_eq_getElem (show i < b.length by omega)]
    · rintro e w' ⟨v', rfl, hrow, hne, hb⟩
      rw [bv_u8] at hrow
      have hrow : w'.ownsRow w.heap.size 5 1 v' n (b.map bv) := hrow
      have hrow' := hrow
      obtain ⟨hl, h1 | h1⟩ := hrow'
      · exact absurd h1.1 hne
      · obtain ⟨g, cap, cur, rfl, k1, k2, k3, k4, k5, k6⟩ := h1
        exact ⟨_, cap, rfl, Has.of_row hrow, .inr ⟨g, cur, rfl, k1, k2, by simpa using k5, k4⟩, fun e => (by cases e), hb⟩
/-- .. as a row of its own. -/
theorem cloneR_ok (o : Option Addr) (n c : Nat) (b : List UInt8) (w : World) (h : Has w o n c b) (hn : n ≤ 140737488355327) :
    Calls Tryz.prog 33 #[.slice o n c] w fun e w' => ∃ o' c', e = .returned (.slice o' n c') ∧ w'.ownsRow w.heap.size 5 1 (.slice o' n c') n (b.map bv) ∧ Below w.heap.size w w' := by
  cases o with
  | none =>
    obtain ⟨h1, h2, h3, h4, h5⟩ := h
    obtain rfl : c = 0 := h4 rfl
    obtain rfl : n = 0 := by omega
    refine (Any.bytes_Clone_nil Tryz.laysK4 0 0 w).mono ?_
    rintro e w' ⟨rfl, rfl⟩
    exact ⟨none, 0, rfl, ⟨by simpa using h1, .inl ⟨rfl, rfl⟩⟩, Below.refl _ _⟩
  | some a =>
    refine (Any.bytes_Clone_at Tryz.laysK4 a n c (b.map fun x => (x.toNat : Int)) w (by simp [h.1]) (by omega) (fun i hi => ?_)).mono ?_
    · obtain ⟨h1, h2, h3, h4, h5⟩ := h
      obtain ⟨g, off, ha, hlt, hc⟩ := h5 (by omega)
      cases ha
      rw [Addr.add_lit, hc i (by omega)]
      simp [bv, List.getD, List.getElem?_eq_getElem (show i < b.length by omega)]
    · rintro e w' ⟨v', rfl, hrow, hne, hb⟩
      rw [bv_u8] at hrow
      have hrow : w'.ownsRow w.heap.size 5 1 v' n (b.map bv) := hrow
      obtain ⟨a', c', rfl⟩ := own_any_shape hrow
      exact ⟨a', c', rfl, hrow, hb⟩
end Go.Proofs.YtmddcdaodlnnhaaGreatDoor
