/-
  Frames: what stays from world to world, by which blocks may turn; rows of bytes in blocks of their own. Conditions: those that each theorem names.
-/
import Derived.Test.YtmddcdaodlnnhaaGreatDoorVPlainToMem
import Derived.Test.YtmddcdaodlnnhaaGreatDoorVRLToCopied
import Derived.Maps.AppendAt
namespace Go.Proofs.YtmddcdaodlnnhaaGreatDoor
open Go.RowKit
set_option linter.unusedVariables false
theorem hid {p : Prop} (h : p) : Hid p := h
theorem node_lt {w : World} {g : Nat} {o : Obj} (h : w.heap[g]? = some o) : g < w.heap.size := (Array.getElem?_eq_some_iff.1 h).1
theorem new_block_at (w : World) (o : Obj) {n : Nat} (hn : n = w.heap.size) : (w.alloc o).heap[n]? = some o := by
  subst hn
  exact (MapKept.heap_alloc w _).1
theorem below_al (w : World) (o : Obj) : Below w.heap.size w (w.alloc o) := (Below.refl _ w).alloc (Nat.le_refl _) o
theorem cell_in {w : World} {g : Nat} {cur : Array Value} {t : TypeId} (h : w.heap[g]? = some (.cells cur t)) (j : Nat) (v : Value) (hj : cur[j]? = some v) : w.cell? ⟨g, j, none⟩ = some v ∧ w.frozen? ⟨g, j, none⟩ = false := by
  constructor
  · simp [World.cell?, h, hj]
  · simp [World.frozen?, h]
theorem set_in {w : World} {g : Nat} {cur : Array Value} {t : TypeId} (h : w.heap[g]? = some (.cells cur t)) (j : Nat) (v : Value) : (w.setCell ⟨g, j, none⟩ v).heap[g]? = some (.cells (cur.setIfInBounds j v) t) := by
  obtain ⟨hlt, hk⟩ := Array.getElem?_eq_some_iff.1 h
  show (w.heap.modify g _)[g]? = _
  rw [Array.getElem?_eq_getElem (by rw [Array.size_modify]; exact hlt), Array.getElem_modify_self, hk]
  rfl
/-- From W to W' only blocks of which L holds, and new ones, have turned. -/
structure Kx (L : Nat → Prop) (W W' : World) : Prop where
  os : W'.os = W.os
  tape : W'.tape = W.tape
  output : W'.output = W.output
  size : W.heap.size ≤ W'.heap.size
  block : ∀ g, g < W.heap.size → ¬ L g → W'.heap[g]? = W.heap[g]?
theorem Kx.refl (P : Nat → Prop) (W : World) : Kx P W W := ⟨rfl, rfl, rfl, Nat.le_refl _, fun _ _ _ => rfl⟩
theorem Kx.trans {P : Nat → Prop} {a b c : World} (h : Kx P a b) (k : Kx P b c) : Kx P a c :=
  ⟨k.os.trans h.os, k.tape.trans h.tape, k.output.trans h.output, Nat.le_trans h.size k.size, fun g hg hp => (k.block g (Nat.lt_of_lt_of_le hg h.size) hp).trans (h.block g hg hp)⟩
theorem Kx.below {P : Nat → Prop} {W W' : World} (h : Below W.heap.size W W') : Kx P W W' := ⟨h.os, h.tape, h.output, h.size, fun g hg _ => h.block g hg⟩
theorem Kx.grown {P : Nat → Prop} {W W' : World} {r : Option Nat} (h : W.grownBy W' r) (hr : ∀ g, r = some g → P g) : Kx P W W' := ⟨h.os, h.tape, h.output, h.size, fun g hg hp => h.block g hg (fun e => hp (hr g e.symm))⟩
theorem Kx.set {P : Nat → Prop} {W : World} {g j : Nat} (h : P g) (v : Value) : Kx P W (W.setCell ⟨g, j, none⟩ v) := ⟨rfl, rfl, rfl, by simp [World.setCell], fun k hk hp => Below.heap_setCell _ _ _ _ (fun e => hp (by cases e; exact h))⟩
theorem Kx.wide {P P' : Nat → Prop} {W W' : World} (h : Kx P W W') (hp : ∀ g, P g → P' g) : Kx P' W W' := ⟨h.os, h.tape, h.output, h.size, fun g hg h' => h.block g hg fun e => h' (hp g e)⟩
theorem Kx.to {P : Nat → Prop} {W W' : World} {n : Nat} (h : Kx P W W') (hn : n ≤ W.heap.size) (hp : ∀ g, P g → n ≤ g) : Below n W W' := ⟨h.os, h.tape, h.output, h.size, fun g hg => h.block g (Nat.lt_of_lt_of_le hg hn) fun e => by have := hp g e; omega⟩
/-- A block that holds no bytes. -/
def NoB (W : World) (g : Nat) : Prop := ∀ i z, W.cell? ⟨g, i, none⟩ ≠ some (.int .u8 z)
theorem Has.kx {W W' : World} {L : Nat → Prop} {o : Option Addr} {n c : Nat} {b : List UInt8} (h : Has W o n c b) (hk : Kx L W W') (hL : ∀ g, g < W.heap.size → L g → NoB W g) : Has W' o n c b := by
  obtain ⟨h1, h2, h3, h4, h5⟩ := h
  refine ⟨h1, h2, h3, h4, fun h0 => ?_⟩
  obtain ⟨g, off, ha, hlt, hc⟩ := h5 h0
  have hn : ¬ L g := fun hl => hL g hlt hl _ _ (hc 0 (by omega))
  exact ⟨g, off, ha, Nat.lt_of_lt_of_le hlt hk.size, fun i hi => (World.cell?_of_block (w := W) (hk.block g hlt hn)).trans (hc i hi)⟩
/-- A row of bytes that lies in a block of its own, from block m on; or none. -/
def Fr (m : Nat) (w : World) (o : Option Addr) (c : Nat) : Prop := (o = none ∧ c = 0) ∨ ∃ g cur, o = some ⟨g, 0, none⟩ ∧ m ≤ g ∧ w.heap[g]? = some (.cells cur 5 (0, 0)) ∧ cur.size = c ∧ c ≤ maxLen
theorem Fr.kx {m : Nat} {w w' : World} {o : Option Addr} {c : Nat} {L : Nat → Prop} (h : Fr m w o c) (hk : Kx L w w') (hL : ∀ g, m ≤ g → ¬ L g) : Fr m w' o c := by
  rcases h with h | ⟨g, cur, h1, h2, h3, h4, h5⟩
  · exact .inl h
  · exact .inr ⟨g, cur, h1, h2, (hk.block g (node_lt h3) (hL g h2)).trans h3, h4, h5⟩
theorem Fr.below {m : Nat} {w w' : World} {o : Option Addr} {c : Nat} (h : Fr m w o c) (hb : Below w.heap.size w w') : Fr m w' o c := h.kx (L := fun _ => False) (.below hb) (fun _ _ e => e)
theorem Fr.mono {m k : Nat} {w : World} {o : Option Addr} {c : Nat} (h : Fr m w o c) (hk : k ≤ m) : Fr k w o c := by
  rcases h with h | ⟨g, cur, h1, h2, h3⟩
  · exact .inl h
  · exact .inr ⟨g, cur, h1, Nat.le_trans hk h2, h3⟩
/-- A block that is no block of bytes. -/
def NoT (W : World) (g : Nat) : Prop := ∀ cur, W.heap[g]? ≠ some (.cells cur 5 (0, 0))
def NoR (W : World) (g : Nat) : Prop := NoB W g ∨ NoT W g
theorem NoT.cells {W : World} {g : Nat} {cur : Array Value} {t : TypeId} {mk : Nat × Nat} (h : W.heap[g]? = some (.cells cur t mk)) (ht : t ≠ 5) : NoT W g := by
  intro c e
  rw [h] at e
  cases e
  exact ht rfl
theorem Has.kxF {W W' : World} {L : Nat → Prop} {m : Nat} {o : Option Addr} {n c : Nat} {b : List UInt8} (h : Has W o n c b) (hf : Fr m W o c) (hk : Kx L W W') (hL : ∀ g, g < W.heap.size → L g → NoR W g) : Has W' o n c b ∧ (n = 0 ∨ Fr m W' o c) := by
  obtain ⟨h1, h2, h3, h4, h5⟩ := h
  rcases Nat.eq_zero_or_pos n with h0 | h0
  · exact ⟨⟨h1, h2, h3, h4, fun hn => absurd h0 (by omega)⟩, .inl h0⟩
  · obtain ⟨g, off, ha, hlt, hc⟩ := h5 h0
    have hn : ¬ L g := fun hl => by
      rcases hL g hlt hl with hb | ht
      · exact hb _ _ (hc 0 (by omega))
      · rcases hf with ⟨e, _⟩ | ⟨g2, cur, e1, e2, e3, _⟩
        · rw [ha] at e; cases e
        · rw [ha] at e1; cases e1; exact ht _ e3
    refine ⟨⟨h1, h2, h3, h4, fun _ => ⟨g, off, ha, Nat.lt_of_lt_of_le hlt hk.size, fun i hi => (World.cell?_of_block (w := W) (hk.block g hlt hn)).trans (hc i hi)⟩⟩, .inr ?_⟩
    rcases hf with e | ⟨g2, cur, e1, e2, e3, e4⟩
    · exact .inl e
    · rw [ha] at e1; cases e1
      exact .inr ⟨g, cur, ha, e2, (hk.block g hlt hn).trans e3, e4⟩
theorem NoB.cells {W : World} {g : Nat} {cur : Array Value} {t : TypeId} (h : W.heap[g]? = some (.cells cur t)) (hc : ∀ v ∈ cur.toList, ∀ z, v ≠ .int .u8 z) : NoB W g := by
  intro i z e
  simp only [World.cell?, h] at e
  simp at e
  have := List.mem_of_getElem? (l := cur.toList) (by simpa using e)
  exact hc _ this z rfl
theorem NoB.map {W : World} {g : Nat} {es : Array MapEntry} {k : Nat} (h : W.heap[g]? = some (.map es k)) : NoB W g := by
  intro i z e
  simp [World.cell?, h] at e
/-- append at the operation, where its run is known. -/
theorem wpList_app_run {w : World} {ops : Array Oper} {rest : List Oper} {o : Oper} {a : Act} {Q : Exit → Act → World → Prop} (hgd : o.guard = none) (s x : Operand) (t : TypeId)
    (ho : o.op = .call { callee := .builtin .append, args := #[s, x], argTypes := #[t, t] }) {v u v' : Value} {w' : World} (hs : a.eval s = v) (hx : a.eval x = u)
    (hr : (Builtin.append_ #[t, t] o.type #[v, u]).run Tryz.prog w = .ok v' w') (h : wpList Tryz.prog ops Q rest (a.put o.dst v') w') : wpList Tryz.prog ops Q (o :: rest) a w := by
  refine wpList_plain hgd fun K hK => ?_
  unfold Oper.wp execOp
  simp only [ho, resolve, invoke, builtin, Sem.run_bind, Sem.run_pure, Result.andThen_ok, List.map_toArray, List.map_cons, List.map_nil, hs, hx, hr]
  exact hK _ _ h
theorem step_app_run {w : World} {ops : Array Oper} {o : Oper} {a : Act} {K : Act → World → Prop} {Q : Exit → Act → World → Prop} {E : Prop} (hgd : o.guard = none) (s x : Operand) (t : TypeId)
    (ho : o.op = .call { callee := .builtin .append, args := #[s, x], argTypes := #[t, t] }) {v u v' : Value} {w' : World} (hs : a.eval s = v) (hx : a.eval x = u)
    (hr : (Builtin.append_ #[t, t] o.type #[v, u]).run Tryz.prog w = .ok v' w') (h : K (a.put o.dst v') w') : if Region.wanted o (yielded ops a.tmps) = true then Oper.wp Tryz.prog o a w K Q else E := by
  have hw : Region.wanted o (yielded ops a.tmps) = true := by simp [Region.wanted, hgd]
  rw [if_pos hw]
  unfold Oper.wp execOp
  simp only [ho, resolve, invoke, builtin, Sem.run_bind, Sem.run_pure, Result.andThen_ok, List.map_toArray, List.map_cons, List.map_nil, hs, hx, hr]
  exact h
/-- What may be appended. -/
def Src (w : World) (so : Option Addr) (m : Nat) (news : List Value) : Prop := (so = none ∧ m = 0) ∨ ∃ ad, so = some ad ∧ ∀ j u, news[j]? = some u → w.cell? (ad.add j) = some u
/-- append of any row onto a row of one's own, nil too. -/
theorem app_any {w : World} {base n : Nat} {e t : TypeId} {i : TypeInfo} {z v : Value} {size bytes : Nat} {xs : List Value} (ht : Tryz.prog.underlying t = some (.slice e)) (hi : Tryz.prog.info? e = some i) (hz : i.zero = some z)
    (hsize : i.size = size) (hby : i.bytes = bytes) (hzs : z.cells.size = size) (hsz : 0 < size) (hown : w.ownsRow base e size v n xs) {so : Option Addr} {m : Nat} (c : Nat) {news : List Value} (hl : news.length = m * size) (hs : Src w so m news) (h1 : ∀ u ∈ news, u.oneCell' = true)
    (h63 : n + m ≤ maxLen) (hbytes : (n + m) * bytes ≤ 140737488355328) (hbase : base ≤ w.heap.size) (ty : TypeId) (hc : so = none → c = 0) :
    ∃ v' w', (Builtin.append_ #[t, t] ty #[v, .slice so m c]).run Tryz.prog w = .ok v' w' ∧ w'.ownsRow base e size v' (n + m) (xs ++ news) ∧ w.grownBy w' v.ownBlock ∧ (v'.ownBlock = v.ownBlock ∨ v'.ownBlock = some w.heap.size) := by
  rcases hs with ⟨rfl, rfl⟩ | ⟨ad, rfl, hnews⟩
  · have hnil : news = [] := List.eq_nil_of_length_eq_zero (by simpa using hl)
    subst hnil
    refine ⟨v, w, ?_, by simpa using hown, ⟨rfl, rfl, rfl, Nat.le_refl _, fun _ _ _ => rfl⟩, .inl rfl⟩
    rcases hown.2 with ⟨rfl, h0⟩ | ⟨g', cap', cur, rfl, hbg, hg, hnc, hcm, hcs, htake⟩
    · simp [Builtin.append_, run_underlying ht, sizeOf, typeInfo, hi, Builtin.lenOf, Builtin.firstCells]
    · simp [Builtin.append_, run_underlying ht, sizeOf, typeInfo, hi, Builtin.lenOf, hnc, Builtin.firstCells, storeCells]
  · obtain ⟨v', w', hr, h2, h3, _, h4⟩ := run_append_own_at (P := Tryz.prog) w base t ty e i z size bytes ht hi hz hsize hby hzs hsz v n xs hown ad m c news hl hnews h1 h63 hbytes hbase
    exact ⟨v', w', hr, h2, h3, h4⟩
/-- What is owned, nil or not, holds its bytes. -/
theorem Has.of_owned {w : World} {base n cap : Nat} {a : Option Addr} {l : List UInt8} (h : w.ownsRow base 5 1 (.slice a n cap) n (l.map bv)) : Has w a n cap l := by
  have h0 := h
  obtain ⟨hl, h | h⟩ := h
  · obtain ⟨e, rfl⟩ := h
    simp at e hl
    obtain ⟨rfl, rfl⟩ := e
    subst hl
    exact ⟨rfl, Nat.le_refl _, by unfold maxLen; omega, fun _ => rfl, fun h => absurd h (by omega)⟩
  · obtain ⟨g', cap', cur, e, hb, hh, hn, hm, hs, ht⟩ := h
    simp at e
    obtain ⟨rfl, rfl⟩ := e
    exact Has.of_row h0
theorem own_any_shape {w : World} {base e size n : Nat} {v : Value} {xs : List Value} (h : w.ownsRow base e size v n xs) : ∃ a c, v = .slice a n c := by
  obtain ⟨_, ⟨h1, h2⟩ | ⟨g, cap, cur, e, _⟩⟩ := h
  · exact ⟨none, 0, by rw [h1, h2]⟩
  · exact ⟨_, cap, e⟩
theorem own_keep {w w' : World} {base e size n : Nat} {v : Value} {xs : List Value} (h : w.ownsRow base e size v n xs) (hb : Below w.heap.size w w') : w'.ownsRow base e size v n xs :=
  h.kept (row := none) ⟨hb.os, hb.tape, hb.output, hb.size, fun j hj _ => hb.block j hj⟩ (by cases hq : v.ownBlock <;> simp)
theorem own_kx {w w' : World} {base e size n : Nat} {v : Value} {xs : List Value} {P : Nat → Prop} (h : w.ownsRow base e size v n xs) (hk : Kx P w w') (hp : ∀ g, v.ownBlock = some g → ¬ P g) : w'.ownsRow base e size v n xs := by
  obtain ⟨h0, h1 | ⟨g, cap, cur, rfl, hb, hh, hr⟩⟩ := h
  · exact ⟨h0, .inl h1⟩
  · exact ⟨h0, .inr ⟨g, cap, cur, rfl, hb, (hk.block g (node_lt hh) (hp g rfl)).trans hh, hr⟩⟩
theorem Has.src {W : World} {o : Option Addr} {n c : Nat} {b : List UInt8} (h : Has W o n c b) : Src W o n (b.map bv) ∧ (o = none → c = 0) ∧ (b.map bv).length = n * 1 := by
  refine ⟨?_, h.2.2.2.1, by simpa using h.1⟩
  cases o with
  | none =>
    obtain ⟨h1, h2, h3, h4, h5⟩ := h
    obtain rfl := h4 rfl
    exact .inl ⟨rfl, by omega⟩
  | some ad =>
    refine .inr ⟨ad, rfl, fun j u hj => ?_⟩
    have h0 : 0 < (b.map bv).length := by have := (List.getElem?_eq_some_iff.1 hj).1; omega
    obtain ⟨ad', e', hc⟩ := h.cells h0
    cases e'
    exact hc j u hj
/-- What is held may be less ahead of it. -/
theorem anyL_mono {P : Program} {md : Region.Mode} {ops : Array Oper} {Q : Exit → Act → World → Prop} {S S' : World → Prop} {z : Nat} (h : ∀ w, S' w → S w) : ∀ (n : Nat) (l : Array Bool) (a : Act) (w : World), anyL P md ops Q S' z n l a w → anyL P md ops Q S z n l a w
  | 0, _, _, _, k => k
  | n + 1, _, _, _, k => ⟨k.1, fun i hi => wpOp_mono (fun a' w' j => ⟨fun e => h _ (j.1 e), anyL_mono h n _ a' w' j.2⟩) (k.2 i hi)⟩
end Go.Proofs.YtmddcdaodlnnhaaGreatDoor
