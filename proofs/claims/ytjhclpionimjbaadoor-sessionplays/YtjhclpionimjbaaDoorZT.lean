/-
  A table of sessions in memory, and what is done with rows of sessions. Conditions: those that each theorem names.
-/
import Derived.Test.YtjhclpionimjbaaDoorZM
import Derived.Test.YtjhclpionimjbaaDoorZCode
namespace Go.Proofs.YtjhclpionimjbaaDoor
open Go.RowKit Go.Maps
set_option linter.unusedVariables false
theorem hid {p : Prop} (h : p) : Hid p := h
theorem node_lt {w : World} {g : Nat} {o : Obj} (h : w.heap[g]? = some o) : g < w.heap.size := (Array.getElem?_eq_some_iff.1 h).1
theorem new_block_at (w : World) (o : Obj) {n : Nat} (hn : n = w.heap.size) : (w.alloc o).heap[n]? = some o := by
  subst hn
  exact (MapKept.heap_alloc w _).1
theorem below_al (w : World) (o : Obj) : Below w.heap.size w (w.alloc o) := (Below.refl _ w).alloc (Nat.le_refl _) o
theorem cell_in {w : World} {g : Nat} {cur : Array Value} {t : TypeId} (h : w.heap[g]? = some (.cells cur t)) (j : Nat) (v : Value) (hj : cur[j]? = some v) : w.cell? ⟨g, j, none⟩ = some v ∧ w.frozen? ⟨g, j, none⟩ = false := by
  constructor
  · simp [World.cell?, h, hj]
  · simp [World.frozen?, h]
theorem set_in {w : World} {g : Nat} {cur : Array Value} {t : TypeId} (h : w.heap[g]? = some (.cells cur t)) (j : Nat) (v : Value) : (w.setCell ⟨g, j, none⟩ v).heap[g]? = some (.cells (cur.setIfInBounds j v) t) := by
  obtain ⟨hlt, hk⟩ := Array.getElem?_eq_some_iff.1 h
  show (w.heap.modify g _)[g]? = _
  rw [Array.getElem?_eq_getElem (by rw [Array.size_modify]; exact hlt), Array.getElem_modify_self, hk]
  rfl
/-- From W to W' only blocks of which L holds, and new ones, have turned. -/
structure Kx (L : Nat → Prop) (W W' : World) : Prop where
  os : W'.os = W.os
  tape : W'.tape = W.tape
  output : W'.output = W.output
  size : W.heap.size ≤ W'.heap.size
  block : ∀ g, g < W.heap.size → ¬ L g → W'.heap[g]? = W.heap[g]?
theorem Kx.refl (P : Nat → Prop) (W : World) : Kx P W W := ⟨rfl, rfl, rfl, Nat.le_refl _, fun _ _ _ => rfl⟩
theorem Kx.trans {P : Nat → Prop} {a b c : World} (h : Kx P a b) (k : Kx P b c) : Kx P a c :=
  ⟨k.os.trans h.os, k.tape.trans h.tape, k.output.trans h.output, Nat.le_trans h.size k.size, fun g hg hp => (k.block g (Nat.lt_of_lt_of_le hg h.size) hp).trans (h.block g hg hp)⟩
theorem Kx.below {P : Nat → Prop} {W W' : World} (h : Below W.heap.size W W') : Kx P W W' := ⟨h.os, h.tape, h.output, h.size, fun g hg _ => h.block g hg⟩
theorem Kx.grown {P : Nat → Prop} {W W' : World} {r : Option Nat} (h : W.grownBy W' r) (hr : ∀ g, r = some g → P g) : Kx P W W' := ⟨h.os, h.tape, h.output, h.size, fun g hg hp => h.block g hg (fun e => hp (hr g e.symm))⟩
theorem Kx.set {P : Nat → Prop} {W : World} {g j : Nat} (h : P g) (v : Value) : Kx P W (W.setCell ⟨g, j, none⟩ v) := ⟨rfl, rfl, rfl, by simp [World.setCell], fun k hk hp => Below.heap_setCell _ _ _ _ (fun e => hp (by cases e; exact h))⟩
theorem Kx.wide {P P' : Nat → Prop} {W W' : World} (h : Kx P W W') (hp : ∀ g, P g → P' g) : Kx P' W W' := ⟨h.os, h.tape, h.output, h.size, fun g hg h' => h.block g hg fun e => h' (hp g e)⟩
theorem Kx.to {P : Nat → Prop} {W W' : World} {n : Nat} (h : Kx P W W') (hn : n ≤ W.heap.size) (hp : ∀ g, P g → n ≤ g) : Below n W W' := ⟨h.os, h.tape, h.output, h.size, fun g hg => h.block g (Nat.lt_of_lt_of_le hg hn) fun e => by have := hp g e; omega⟩
/-- A block that holds no bytes. -/
def NoB (W : World) (g : Nat) : Prop := ∀ i z, W.cell? ⟨g, i, none⟩ ≠ some (.int .u8 z)
theorem Has.kx {W W' : World} {L : Nat → Prop} {o : Option Addr} {n c : Nat} {b : List UInt8} (h : Has W o n c b) (hk : Kx L W W') (hL : ∀ g, g < W.heap.size → L g → NoB W g) : Has W' o n c b := by
  obtain ⟨h1, h2, h3, h4, h5⟩ := h
  refine ⟨h1, h2, h3, h4, fun h0 => ?_⟩
  obtain ⟨g, off, ha, hlt, hc⟩ := h5 h0
  have hn : ¬ L g := fun hl => hL g hlt hl _ _ (hc 0 (by omega))
  exact ⟨g, off, ha, Nat.lt_of_lt_of_le hlt hk.size, fun i hi => (World.cell?_of_block (w := W) (hk.block g hlt hn)).trans (hc i hi)⟩
/-- A row of bytes that lies in a block of its own, from block m on; or none. -/
def Fr (m : Nat) (w : World) (o : Option Addr) (c : Nat) : Prop := (o = none ∧ c = 0) ∨ ∃ g cur, o = some ⟨g, 0, none⟩ ∧ m ≤ g ∧ w.heap[g]? = some (.cells cur 5 (0, 0)) ∧ cur.size = c ∧ c ≤ maxLen
theorem Fr.kx {m : Nat} {w w' : World} {o : Option Addr} {c : Nat} {L : Nat → Prop} (h : Fr m w o c) (hk : Kx L w w') (hL : ∀ g, m ≤ g → ¬ L g) : Fr m w' o c := by
  rcases h with h | ⟨g, cur, h1, h2, h3, h4, h5⟩
  · exact .inl h
  · exact .inr ⟨g, cur, h1, h2, (hk.block g (node_lt h3) (hL g h2)).trans h3, h4, h5⟩
theorem Fr.below {m : Nat} {w w' : World} {o : Option Addr} {c : Nat} (h : Fr m w o c) (hb : Below w.heap.size w w') : Fr m w' o c := h.kx (L := fun _ => False) (.below hb) (fun _ _ e => e)
theorem Fr.mono {m k : Nat} {w : World} {o : Option Addr} {c : Nat} (h : Fr m w o c) (hk : k ≤ m) : Fr k w o c := by
  rcases h with h | ⟨g, cur, h1, h2, h3⟩
  · exact .inl h
  · exact .inr ⟨g, cur, h1, Nat.le_trans hk h2, h3⟩
/-- A block that is no block of bytes. -/
def NoT (W : World) (g : Nat) : Prop := ∀ cur, W.heap[g]? ≠ some (.cells cur 5 (0, 0))
def NoR (W : World) (g : Nat) : Prop := NoB W g ∨ NoT W g
theorem NoT.cells {W : World} {g : Nat} {cur : Array Value} {t : TypeId} {mk : Nat × Nat} (h : W.heap[g]? = some (.cells cur t mk)) (ht : t ≠ 5) : NoT W g := by
  intro c e
  rw [h] at e
  cases e
  exact ht rfl
theorem Has.kxF {W W' : World} {L : Nat → Prop} {m : Nat} {o : Option Addr} {n c : Nat} {b : List UInt8} (h : Has W o n c b) (hf : Fr m W o c) (hk : Kx L W W') (hL : ∀ g, g < W.heap.size → L g → NoR W g) : Has W' o n c b ∧ (n = 0 ∨ Fr m W' o c) := by
  obtain ⟨h1, h2, h3, h4, h5⟩ := h
  rcases Nat.eq_zero_or_pos n with h0 | h0
  · exact ⟨⟨h1, h2, h3, h4, fun hn => absurd h0 (by omega)⟩, .inl h0⟩
  · obtain ⟨g, off, ha, hlt, hc⟩ := h5 h0
    have hn : ¬ L g := fun hl => by
      rcases hL g hlt hl with hb | ht
      · exact hb _ _ (hc 0 (by omega))
      · rcases hf with ⟨e, _⟩ | ⟨g2, cur, e1, e2, e3, _⟩
        · rw [ha] at e; cases e
        · rw [ha] at e1; cases e1; exact ht _ e3
    refine ⟨⟨h1, h2, h3, h4, fun _ => ⟨g, off, ha, Nat.lt_of_lt_of_le hlt hk.size, fun i hi => (World.cell?_of_block (w := W) (hk.block g hlt hn)).trans (hc i hi)⟩⟩, .inr ?_⟩
    rcases hf with e | ⟨g2, cur, e1, e2, e3, e4⟩
    · exact .inl e
    · rw [ha] at e1; cases e1
      exact .inr ⟨g, cur, ha, e2, (hk.block g hlt hn).trans e3, e4⟩
/-- A session whose reply lies there. -/
structure SxOk (W : World) (s : Sx) : Prop where
  id1 : 1 ≤ s.i
  id2 : inI s.i
  la : inI s.l
  us : inI s.u
  has : Has W s.o s.n s.c s.b
  fr : s.n = 0 ∨ Fr 0 W s.o s.c
  sh : s.n ≤ 16384
/-- A table: its block, its map's block, its sessions, its clock. -/
structure Tb (w : World) (tb B : Nat) (l : List Sx) (ck : Int) : Prop where
  blk : w.heap[tb]? = some (.cells #[.map (some B), .int .i64 ck] 63)
  m : TM w B l
  few : l.length ≤ 8
  ok : ∀ s ∈ l, SxOk w s
  ckI : inI ck
def own2 (tb B : Nat) : Nat → Prop := fun g => g = tb ∨ g = B
theorem NoB.cells {W : World} {g : Nat} {cur : Array Value} {t : TypeId} (h : W.heap[g]? = some (.cells cur t)) (hc : ∀ v ∈ cur.toList, ∀ z, v ≠ .int .u8 z) : NoB W g := by
  intro i z e
  simp only [World.cell?, h] at e
  simp at e
  have := List.mem_of_getElem? (l := cur.toList) (by simpa using e)
  exact hc _ this z rfl
theorem NoB.map {W : World} {g : Nat} {es : Array MapEntry} {k : Nat} (h : W.heap[g]? = some (.map es k)) : NoB W g := by
  intro i z e
  simp [World.cell?, h] at e
theorem Tb.nob {w : World} {tb B : Nat} {l : List Sx} {ck : Int} (h : Tb w tb B l ck) : ∀ g, g < w.heap.size → own2 tb B g → NoB w g := by
  rintro g _ (rfl | rfl)
  · exact NoB.cells h.blk (by simp)
  · obtain ⟨_, es, k, h1, _⟩ := h.m
    exact NoB.map h1
theorem Tb.nor {w : World} {tb B : Nat} {l : List Sx} {ck : Int} (h : Tb w tb B l ck) : ∀ g, g < w.heap.size → own2 tb B g → NoR w g := fun g a b => .inl (h.nob g a b)
theorem SxOk.kx {W W' : World} {L : Nat → Prop} {s : Sx} (h : SxOk W s) (hk : Kx L W W') (hL : ∀ g, g < W.heap.size → L g → NoR W g) : SxOk W' s := by
  rcases h.fr with h0 | hf
  · obtain ⟨h1, h2, h3, h4, h5⟩ := h.has
    exact ⟨h.id1, h.id2, h.la, h.us, ⟨h1, h2, h3, h4, fun hn => absurd h0 (by omega)⟩, .inl h0, h.sh⟩
  · obtain ⟨h1, h2⟩ := h.has.kxF hf hk hL
    exact ⟨h.id1, h.id2, h.la, h.us, h1, h2, h.sh⟩
theorem Tb.kx {w w' : World} {tb B : Nat} {l : List Sx} {ck : Int} {L : Nat → Prop} (h : Tb w tb B l ck) (hk : Kx L w w') (hL : ∀ g, g < w.heap.size → L g → NoR w g) (h1 : ¬ L tb) (h2 : ¬ L B) : Tb w' tb B l ck :=
  ⟨(hk.block tb (node_lt h.blk) h1).trans h.blk, h.m.same (hk.block B h.m.lt h2), h.few, fun s hs => (h.ok s hs).kx hk hL, h.ckI⟩
theorem Tb.below {w w' : World} {tb B : Nat} {l : List Sx} {ck : Int} (h : Tb w tb B l ck) (hb : Below w.heap.size w w') : Tb w' tb B l ck :=
  h.kx (L := fun _ => False) (.below hb) (fun _ _ e => e.elim) (fun e => e) (fun e => e)
theorem Tb.ne {w : World} {tb B : Nat} {l : List Sx} {ck : Int} (h : Tb w tb B l ck) : B ≠ tb := by
  intro e
  subst e
  obtain ⟨_, es, k, h1, _⟩ := h.m
  have := h.blk
  rw [h1] at this
  cases this
/-! ### rows of sessions -/
def ins : List Sx → Sx → List Sx
  | [], s => [s]
  | t :: r, s => if t.i < s.i then t :: ins r s else s :: t :: r
def del (l : List Sx) (x : Int) : List Sx := l.filter fun t => t.i != x
def put (l : List Sx) (s : Sx) : List Sx := l.map fun t => if t.i = s.i then s else t
theorem mem_ins {s t : Sx} : ∀ {l : List Sx}, t ∈ ins l s ↔ t = s ∨ t ∈ l
  | [] => by simp [ins]
  | a :: r => by
    unfold ins
    split
    · rw [List.mem_cons, mem_ins (l := r), List.mem_cons]
      constructor
      · rintro (h | h | h) <;> simp [h]
      · rintro (h | h | h) <;> simp [h]
    · rw [List.mem_cons]
theorem len_ins (s : Sx) : ∀ l : List Sx, (ins l s).length = l.length + 1
  | [] => rfl
  | a :: r => by
    unfold ins
    split
    · simp [len_ins s r]
    · simp
theorem fnd_cons (t : Sx) (r : List Sx) (x : Int) : fnd (t :: r) x = if t.i = x then some t else fnd r x := by
  unfold fnd
  rw [List.find?_cons]
  by_cases h : t.i = x
  · simp [h]
  · have : (t.i == x) = false := by simp [h]
    simp [h, this]
theorem fnd_ins (s : Sx) (x : Int) : ∀ l : List Sx, (∀ t ∈ l, t.i ≠ s.i) → fnd (ins l s) x = if x = s.i then some s else fnd l x
  | [], _ => by
    unfold ins
    rw [fnd_cons]
    by_cases h : x = s.i
    · simp [h]
    · simp [h, Ne.symm h]
  | t :: r, hn => by
    have hts := hn t (by simp)
    unfold ins
    split
    · rw [fnd_cons, fnd_ins s x r (fun t ht => hn t (by simp [ht])), fnd_cons]
      by_cases h : t.i = x
      · have : x ≠ s.i := fun e => hts (h.trans e)
        simp [h, this]
      · simp [h]
    · rw [fnd_cons]
      by_cases h : x = s.i
      · simp [h]
      · simp [h, Ne.symm h]
theorem rise_ins {s : Sx} : ∀ {l : List Sx}, Rise l → (∀ t ∈ l, t.i ≠ s.i) → Rise (ins l s)
  | [], _, _ => List.pairwise_singleton _ _
  | t :: r, hr, hn => by
    obtain ⟨h1, h2⟩ := List.pairwise_cons.1 hr
    have hts := hn t (by simp)
    unfold ins
    split
    · rename_i hlt
      refine List.pairwise_cons.2 ⟨fun a ha => ?_, rise_ins h2 (fun t ht => hn t (by simp [ht]))⟩
      rcases mem_ins.1 ha with rfl | ha
      · exact hlt
      · exact h1 a ha
    · rename_i hlt
      refine List.pairwise_cons.2 ⟨fun a ha => ?_, hr⟩
      rcases List.mem_cons.1 ha with rfl | ha
      · omega
      · have := h1 a ha
        omega
theorem fnd_some {l : List Sx} {x : Int} {s : Sx} (h : fnd l x = some s) : s ∈ l ∧ s.i = x := by
  unfold fnd at h
  exact ⟨List.mem_of_find?_eq_some h, by simpa using List.find?_some h⟩
theorem fnd_none {l : List Sx} {x : Int} (h : fnd l x = none) : ∀ t ∈ l, t.i ≠ x := by
  intro t ht e
  have := List.find?_eq_none.1 h t ht
  simp [e] at this
theorem rise_mem {l : List Sx} (hr : Rise l) {s t : Sx} (hs : s ∈ l) (ht : t ∈ l) (e : s.i = t.i) : s = t := by
  induction l with
  | nil => cases hs
  | cons a r ih =>
    obtain ⟨h1, h2⟩ := List.pairwise_cons.1 hr
    rcases List.mem_cons.1 hs with e1 | hs'
    · rcases List.mem_cons.1 ht with e2 | ht'
      · rw [e1, e2]
      · have := h1 t ht'; rw [e1] at e; omega
    · rcases List.mem_cons.1 ht with e2 | ht'
      · have := h1 s hs'; rw [e2] at e; omega
      · exact ih h2 hs' ht'
theorem fnd_mem {l : List Sx} (hr : Rise l) {s : Sx} (hs : s ∈ l) : fnd l s.i = some s := by
  cases h : fnd l s.i with
  | none => exact absurd rfl (fnd_none h s hs)
  | some t =>
    obtain ⟨h1, h2⟩ := fnd_some h
    rw [rise_mem hr h1 hs h2]
theorem fnd_del (x y : Int) : ∀ l : List Sx, fnd (del l x) y = if y = x then none else fnd l y
  | [] => by simp [del, fnd]
  | t :: r => by
    have ih := fnd_del x y r
    unfold del at *
    rw [List.filter_cons]
    by_cases h : t.i = x
    · have h' : (t.i != x) = false := by simp [h]
      rw [h']
      simp only [Bool.false_eq_true, if_false]
      rw [ih, fnd_cons]
      by_cases e : y = x
      · simp [e]
      · simp [e, show t.i ≠ y from fun e2 => e (e2.symm.trans h)]
    · have h' : (t.i != x) = true := by simp [h]
      rw [h']
      simp only [if_true]
      rw [fnd_cons, ih, fnd_cons]
      by_cases e : t.i = y
      · simp [e, show y ≠ x from fun e2 => h (e.trans e2)]
      · simp [e]
theorem rise_del {l : List Sx} (h : Rise l) (x : Int) : Rise (del l x) := h.filter _
theorem mem_del {l : List Sx} {x : Int} {t : Sx} : t ∈ del l x ↔ t ∈ l ∧ t.i ≠ x := by simp [del]
theorem len_del {l : List Sx} (hr : Rise l) {s : Sx} (hs : s ∈ l) : (del l s.i).length + 1 = l.length := by
  induction l with
  | nil => cases hs
  | cons a r ih =>
    obtain ⟨h1, h2⟩ := List.pairwise_cons.1 hr
    rcases List.mem_cons.1 hs with rfl | hs
    · have : del r s.i = r := by
        unfold del
        rw [List.filter_eq_self]
        intro t ht
        have := h1 t ht
        simp; omega
      have h' : del (s :: r) s.i = del r s.i := by simp [del]
      rw [h', this]
      rfl
    · have := h1 s hs
      have h' : del (a :: r) s.i = a :: del r s.i := by simp [del, show a.i ≠ s.i by omega]
      rw [h', List.length_cons, ih h2 hs, List.length_cons]
theorem fnd_put (s : Sx) (x : Int) : ∀ l : List Sx, (∃ t ∈ l, t.i = s.i) → fnd (put l s) x = if x = s.i then some s else fnd l x
  | [], h => by obtain ⟨t, ht, _⟩ := h; cases ht
  | t :: r, h => by
    have e0 : put (t :: r) s = (if t.i = s.i then s else t) :: put r s := rfl
    rw [e0, fnd_cons, fnd_cons]
    by_cases h1 : t.i = s.i
    · rw [if_pos h1]
      by_cases h2 : x = s.i
      · simp [h2]
      · rw [if_neg (Ne.symm h2), if_neg h2, if_neg (fun e => h2 (e.symm.trans h1))]
        by_cases h3 : ∃ t ∈ r, t.i = s.i
        · rw [fnd_put s x r h3, if_neg h2]
        · have : put r s = r := by
            unfold put
            have : ∀ a ∈ r, (if a.i = s.i then s else a) = id a := fun a ha => if_neg fun e => h3 ⟨a, ha, e⟩
            rw [List.map_congr_left this, List.map_id]
          rw [this]
    · rw [if_neg h1]
      have h3 : ∃ t ∈ r, t.i = s.i := by
        obtain ⟨a, ha, e⟩ := h
        rcases List.mem_cons.1 ha with rfl | ha
        · exact absurd e h1
        · exact ⟨a, ha, e⟩
      rw [fnd_put s x r h3]
      by_cases h2 : t.i = x
      · rw [if_pos h2, if_neg (fun e => h1 (h2.trans e)), if_pos h2]
      · simp [h2]
theorem put_ids (l : List Sx) (s : Sx) : (put l s).map Sx.i = l.map Sx.i := by
  unfold put
  rw [List.map_map]
  refine List.map_congr_left fun t _ => ?_
  simp only [Function.comp]
  split
  · rename_i h; exact h.symm
  · rfl
theorem rise_put {l : List Sx} (h : Rise l) (s : Sx) : Rise (put l s) := by
  have e : ∀ m : List Sx, Rise m ↔ (m.map Sx.i).Pairwise (· < ·) := fun m => by rw [List.pairwise_map]; rfl
  rw [e, put_ids, ← e]
  exact h
theorem mem_put {l : List Sx} {s t : Sx} (h : t ∈ put l s) : t = s ∨ (t ∈ l ∧ t.i ≠ s.i) := by
  obtain ⟨a, ha, e⟩ := List.mem_map.1 h
  by_cases h1 : a.i = s.i
  · rw [if_pos h1] at e; exact .inl e.symm
  · rw [if_neg h1] at e; subst e; exact .inr ⟨ha, h1⟩
theorem len_put (l : List Sx) (s : Sx) : (put l s).length = l.length := by simp [put]
end Go.Proofs.YtjhclpionimjbaaDoor
