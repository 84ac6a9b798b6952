/-
  What the document's Do does to a file, step by step. Conditions: those that each theorem names.
  The document's Do: what is known when it begins. Conditions: those that each theorem names.
-/
import Derived.Test.YtmddcdaodlnnhaaGreatDoorVDLI
namespace Go.Proofs.YtmddcdaodlnnhaaGreatDoor
open Go.RowKit Go.Maps
set_option linter.unusedVariables false
/-- How many acts ahead: below 0, never. -/
def acO (arm : Bool) (ah : Int) : Int := if arm then ah else -1
theorem acO_cut {arm : Bool} {ah : Int} (h : arm = true → 0 ≤ ah) : decide (acO arm ah = 0) = actC arm ah := by
  unfold acO actC
  cases arm
  · rfl
  · simp
theorem acO_next {arm : Bool} {ah : Int} (h : arm = true → 0 ≤ ah) : xac (acO arm ah) = acO (arm && !actC arm ah) (if arm && !actC arm ah then ah - 1 else ah) := by
  unfold acO xac actC
  cases arm
  · rfl
  · have := h rfl
    by_cases h0 : ah = 0
    · subst h0; rfl
    · simp [h0]
      rw [if_neg (by omega), if_pos (by omega)]
theorem acO_inI {arm : Bool} {ah : Int} (h : inI ah) : inI (acO arm ah) := by
  unfold acO
  unfold inI at *
  cases arm <;> simp <;> omega
/-- What is so behind the document's act. -/
def DoneX (m T : Nat) (w : World) (x : Nat) (v : Value) (l : List Gx) (pa : Int) (R : Res) (e : Ending) (w' : World) : Prop :=
  e = .returned (.int .i64 R.c) ∧ ∃ v' l', l'.map pg = R.P ∧ Xd m T w' x v' l' R.off (acO R.arm R.ah) pa ∧ Stp (OX x v l) w (OX x v' l') w'
section
variable {m T T' b : Nat} {f : Gx} {w w' W X Y Z : World} {x : Nat} {v : Value} {l : List Gx} {off : Bool} {ac pa : Int}
theorem set_after (hS : Stp (OX x v l) w (OX x v l) Y) (h : Xd m T Y x v l off ac pa) (hlt : ∀ g, OX x v l g → g < w.heap.size) (hT : T < 1099511627776) (hk : Kx (fun g => w.heap.size ≤ g) Y Z) (s : Gx)
    (hr : Z.ownsRow m 5 1 (.slice s.o s.k s.c) s.k (s.b.map bv)) (ho : ∀ g, (gsl s).ownBlock = some g → OX x v l g ∨ w.heap.size ≤ g) (hs : s.s ≤ s.k) (hT' : T + 1 ≤ T') (hsk : s.k ≤ T') (hnl : s.n.length ≤ 32) :
    Calls Tryz.prog 52 #[.pointer (some ⟨x, 0, none⟩), .agg #[.string ⟨s.n.toArray⟩, .slice s.o s.k s.c, .int .i64 (s.s : Int)]] Z fun e w' => e = .returned (.tuple #[]) ∧ ∃ v' l', l'.map pg = setA (l.map pg) (pg s) ∧ Xd m T' w' x v' l' off ac pa ∧ Stp (OX x v l) w (OX x v' l') w' := by
  have hXZ := h.kx hk fun g hg e => by have := hlt g hg; omega
  refine (rdset_ok hXZ (n0 := w.heap.size) (Nat.le_trans hS.kx.size hk.size) (Below.refl _ _) hT s hr ho hs hT' hsk hnl).mono ?_
  rintro e w' ⟨rfl, v', l', h1, h2, h3⟩
  refine ⟨rfl, v', l', h1, h2, ⟨⟨?_, ?_, ?_, ?_, ?_⟩, h3.own⟩⟩
  · exact h3.kx.os.trans (hk.os.trans hS.kx.os)
  · exact h3.kx.tape.trans (hk.tape.trans hS.kx.tape)
  · exact h3.kx.output.trans (hk.output.trans hS.kx.output)
  · exact Nat.le_trans hS.kx.size (Nat.le_trans hk.size h3.kx.size)
  · intro g hg hn
    have g1 := hS.kx.size
    have g2 := hk.size
    exact (h3.kx.block g (by omega) hn).trans ((hk.block g (by omega) (by omega)).trans (hS.kx.block g hg hn))
/-- The box of a file. -/
def FBx (W : World) (b : Nat) (f : Gx) : Prop := W.heap[b]? = some (.cells #[.string ⟨f.n.toArray⟩, .slice f.o f.k f.c, .int .i64 (f.s : Int)] 40)
theorem FBx.cells {W : World} {b : Nat} {f : Gx} (h : FBx W b f) : (W.cell? ⟨b, 0, none⟩ = some (.string ⟨f.n.toArray⟩) ∧ W.cell? ⟨b, 1, none⟩ = some (.slice f.o f.k f.c) ∧ W.cell? ⟨b, 2, none⟩ = some (.int .i64 (f.s : Int))) ∧ W.frozen? ⟨b, 0, none⟩ = false ∧ W.frozen? ⟨b, 1, none⟩ = false ∧ W.frozen? ⟨b, 2, none⟩ = false ∧ b < W.heap.size :=
  ⟨⟨(cell_in h 0 _ rfl).1, (cell_in h 1 _ rfl).1, (cell_in h 2 _ rfl).1⟩, (cell_in h 0 _ rfl).2, (cell_in h 1 _ rfl).2, (cell_in h 2 _ rfl).2, node_lt h⟩
theorem FBx.kx {W W' : World} {b : Nat} {f : Gx} {L : Nat → Prop} (h : FBx W b f) (hk : Kx L W W') (hL : ¬ L b) : FBx W' b f := (hk.block b (node_lt h) hL).trans h
/-- What is known ahead of what is done. -/
structure Pre (m T : Nat) (w Y : World) (x : Nat) (v : Value) (l : List Gx) (off : Bool) (ac pa : Int) (b : Nat) (f : Gx) : Prop where
  st : Stp (OX x v l) w (OX x v l) Y
  xd : Xd m T Y x v l off ac pa
  lt : ∀ g, OX x v l g → g < w.heap.size
  mw : m ≤ w.heap.size
  bx : FBx Y b f
  bw : w.heap.size ≤ b
  row : Y.ownsRow m 5 1 (.slice f.o f.k f.c) f.k (f.b.map bv)
  own : ∀ g, (gsl f).ownBlock = some g → OX x v l g
  sk : f.s ≤ f.k
  kT : f.k ≤ T
  nl : f.n.length ≤ 32
theorem Pre.app (P : Pre m T w Y x v l off ac pa b f) {n : Nat} (hT : T + n < 1099511627776) {po : Option Addr} {pc : Nat} {q : List UInt8} (hp : Has Y po n pc q) :
    ∃ o1 c1 w7 o2 c2 w8, (Builtin.append_ #[29, 29] 29 #[.slice (some ⟨Y.heap.size, 0, none⟩) 0 0, .slice f.o f.k f.c]).run Tryz.prog (Y.alloc (.cells #[] 5)) = .ok (.slice o1 f.k c1) w7 ∧ (Builtin.append_ #[29, 29] 29 #[.slice o1 f.k c1, .slice po n pc]).run Tryz.prog w7 = .ok (.slice o2 (f.k + n) c2) w8 ∧ FBx w7 b f ∧ FBx w8 b f ∧
      ∀ Z, Z = w8.setCell ⟨b, 1, none⟩ (.slice o2 (f.k + n) c2) → FBx Z b ⟨f.n, o2, f.k + n, c2, f.b ++ q, f.s⟩ ∧ Calls Tryz.prog 52 #[.pointer (some ⟨x, 0, none⟩), .agg #[.string ⟨f.n.toArray⟩, .slice o2 (f.k + n) c2, .int .i64 (f.s : Int)]] Z fun e w' => e = .returned (.tuple #[]) ∧ ∃ v' l', l'.map pg = setA (l.map pg) ⟨f.n, f.b ++ q, f.s⟩ ∧ Xd m (T + 1 + n) w' x v' l' off ac pa ∧ Stp (OX x v l) w (OX x v' l') w' := by
  obtain ⟨w6, hw6⟩ : ∃ w6, w6 = Y.alloc (.cells #[] 5) := ⟨_, rfl⟩
  have hb6 : Below Y.heap.size Y w6 := by rw [hw6]; exact below_al _ _
  have q6 : w6.heap[Y.heap.size]? = some (.cells #[] 5) := by rw [hw6]; exact new_block_at _ _ rfl
  have hYw := P.st.kx.size
  have hfT := P.kT
  obtain ⟨o1, c1, w7, r1, r2, r3⟩ := app_empty q6 (base := Y.heap.size) (Nat.le_refl _) ((Has.of_owned P.row).below hb6) (by omega)
  have hb7 : Below Y.heap.size Y w7 := hb6.trans r3
  obtain ⟨i0, hi, hz0, hz1, hz2⟩ := info_parts Tryz.info5
  obtain ⟨s1, s2, s3⟩ := (hp.below hb7).src
  obtain ⟨v8, w8, hr8, ho8, hg8, hat⟩ := app_any Tryz.underlying29 hi hz0 hz1 hz2 rfl (by decide) r2 pc s3 s1 (bv_oneCell _) (by unfold maxLen; omega) (by omega) hb7.size 29 s2
  rw [← List.map_append] at ho8
  obtain ⟨o2, c2, rfl⟩ := own_any_shape ho8
  have hb8 : Below Y.heap.size Y w8 := hb7.trans ((Below.refl _ w7).grown hg8 hb7.size fun k e => (own_lt r2 k e).1)
  have x7 := (P.bx).kx (L := fun _ => False) (.below hb7) (fun e => e)
  have x8 := (P.bx).kx (L := fun _ => False) (.below hb8) (fun e => e)
  refine ⟨o1, c1, w7, o2, c2, w8, by rw [← hw6]; exact r1, hr8, x7, x8, fun Z hZ => ?_⟩
  have hkZ : Kx (fun g => g = b) w8 Z := by rw [hZ]; exact Kx.set (P := fun g => g = b) (g := b) rfl _
  have hrZ : Z.ownsRow m 5 1 (.slice o2 (f.k + n) c2) (f.k + n) ((f.b ++ q).map bv) := by
    refine own_mono (own_kx ho8 hkZ fun g e e2 => ?_) (Nat.le_trans P.mw hYw)
    have := (own_lt ho8 g e).1
    have := node_lt P.bx
    omega
  refine ⟨by unfold FBx; rw [hZ, set_in x8 1 _]; rfl, ?_⟩
  exact set_after P.st P.xd P.lt (by omega) ((Kx.below hb8).trans (hkZ.wide fun g e => by have := P.bw; omega)) ⟨f.n, o2, f.k + n, c2, f.b ++ q, f.s⟩ hrZ (fun g e => .inr (by have := (own_lt ho8 g e).1; omega)) (Nat.le_trans P.sk (Nat.le_add_right _ _)) (by omega) (by show f.k + n ≤ _; omega) P.nl
theorem Pre.sync (P : Pre m T w Y x v l off ac pa b f) (hT : T < 1099511627776) :
    ∀ Z, Z = Y.setCell ⟨b, 2, none⟩ (.int .i64 (f.k : Int)) → FBx Z b ⟨f.n, f.o, f.k, f.c, f.b, f.k⟩ ∧ Calls Tryz.prog 52 #[.pointer (some ⟨x, 0, none⟩), .agg #[.string ⟨f.n.toArray⟩, .slice f.o f.k f.c, .int .i64 (f.k : Int)]] Z fun e w' => e = .returned (.tuple #[]) ∧ ∃ v' l', l'.map pg = setA (l.map pg) ⟨f.n, f.b, f.b.length⟩ ∧ Xd m (T + 1) w' x v' l' off ac pa ∧ Stp (OX x v l) w (OX x v' l') w' := fun Z hZ => by
  have hkZ : Kx (fun g => g = b) Y Z := by rw [hZ]; exact Kx.set (P := fun g => g = b) (g := b) rfl _
  have hbl : f.b.length = f.k := by have := P.row.1; simpa using this
  have hbX : ¬ OX x v l b := fun e => by have := P.lt b e; have := P.bw; omega
  refine ⟨by unfold FBx; rw [hZ, set_in P.bx 2 _]; rfl, ?_⟩
  rw [hbl]
  have hfT := P.kT
  exact set_after P.st P.xd P.lt hT (hkZ.wide fun g e => by have := P.bw; omega) ⟨f.n, f.o, f.k, f.c, f.b, f.k⟩ (own_kx P.row hkZ fun g e e2 => hbX (e2 ▸ P.own g e)) (fun g e => .inl (P.own g e)) (Nat.le_refl _) (Nat.le_refl _) (by show f.k ≤ _; omega) P.nl
theorem Pre.put (P : Pre m T w Y x v l off ac pa b f) {n : Nat} (hT : T + n < 1099511627776) {po : Option Addr} {pc : Nat} {q : List UInt8} (hp : Has Y po n pc q) :
    ∃ o2 c2 w8, (Builtin.append_ #[29, 29] 29 #[.slice (some ⟨Y.heap.size, 0, none⟩) 0 0, .slice po n pc]).run Tryz.prog (Y.alloc (.cells #[] 5)) = .ok (.slice o2 n c2) w8 ∧ FBx w8 b f ∧
      ∀ Z, Z = (w8.setCell ⟨b, 1, none⟩ (.slice o2 n c2)).setCell ⟨b, 2, none⟩ (.int .i64 (n : Int)) → FBx Z b ⟨f.n, o2, n, c2, q, n⟩ ∧ Calls Tryz.prog 52 #[.pointer (some ⟨x, 0, none⟩), .agg #[.string ⟨f.n.toArray⟩, .slice o2 n c2, .int .i64 (n : Int)]] Z fun e w' => e = .returned (.tuple #[]) ∧ ∃ v' l', l'.map pg = setA (l.map pg) ⟨f.n, q, q.length⟩ ∧ Xd m (T + 1 + n) w' x v' l' off ac pa ∧ Stp (OX x v l) w (OX x v' l') w' := by
  obtain ⟨w6, hw6⟩ : ∃ w6, w6 = Y.alloc (.cells #[] 5) := ⟨_, rfl⟩
  have hb6 : Below Y.heap.size Y w6 := by rw [hw6]; exact below_al _ _
  have q6 : w6.heap[Y.heap.size]? = some (.cells #[] 5) := by rw [hw6]; exact new_block_at _ _ rfl
  have hYw := P.st.kx.size
  obtain ⟨o2, c2, w8, r1, r2, r3⟩ := app_empty q6 (base := Y.heap.size) (Nat.le_refl _) (hp.below hb6) (by omega)
  have hb8 : Below Y.heap.size Y w8 := hb6.trans r3
  have x8 := (P.bx).kx (L := fun _ => False) (.below hb8) (fun e => e)
  have hql : q.length = n := hp.1
  refine ⟨o2, c2, w8, by rw [← hw6]; exact r1, x8, fun Z hZ => ?_⟩
  have hkZ : Kx (fun g => g = b) w8 Z := by rw [hZ]; exact (Kx.set (P := fun g => g = b) (g := b) rfl _).trans (Kx.set (P := fun g => g = b) (g := b) rfl _)
  have hrZ : Z.ownsRow m 5 1 (.slice o2 n c2) n (q.map bv) := by
    refine own_mono (own_kx r2 hkZ fun g e e2 => ?_) (Nat.le_trans P.mw hYw)
    have := (own_lt r2 g e).1
    have := node_lt P.bx
    omega
  refine ⟨by unfold FBx; rw [hZ, set_in (set_in x8 1 _) 2 _]; rfl, ?_⟩
  rw [hql]
  exact set_after P.st P.xd P.lt (by omega) ((Kx.below hb8).trans (hkZ.wide fun g e => by have := P.bw; omega)) ⟨f.n, o2, n, c2, q, n⟩ hrZ (fun g e => .inr (by have := (own_lt r2 g e).1; omega)) (Nat.le_refl _) (by omega) (by show n ≤ _; omega) P.nl
theorem Pre.cut (P : Pre m T w Y x v l off ac pa b f) (hT : T < 1099511627776) {n : Nat} (hn : n ≤ f.k) :
    ∃ o2 c2 w8, (Builtin.append_ #[29, 29] 29 #[.slice (some ⟨Y.heap.size, 0, none⟩) 0 0, .slice f.o n f.c]).run Tryz.prog (Y.alloc (.cells #[] 5)) = .ok (.slice o2 n c2) w8 ∧ FBx w8 b f ∧
      ∀ Z, Z = (w8.setCell ⟨b, 1, none⟩ (.slice o2 n c2)).setCell ⟨b, 2, none⟩ (.int .i64 ((min f.s n : Nat) : Int)) → FBx Z b ⟨f.n, o2, n, c2, f.b.take n, min f.s n⟩ ∧ Calls Tryz.prog 52 #[.pointer (some ⟨x, 0, none⟩), .agg #[.string ⟨f.n.toArray⟩, .slice o2 n c2, .int .i64 ((min f.s n : Nat) : Int)]] Z fun e w' => e = .returned (.tuple #[]) ∧ ∃ v' l', l'.map pg = setA (l.map pg) ⟨f.n, f.b.take n, min f.s n⟩ ∧ Xd m (T + 1) w' x v' l' off ac pa ∧ Stp (OX x v l) w (OX x v' l') w' := by
  obtain ⟨w6, hw6⟩ : ∃ w6, w6 = Y.alloc (.cells #[] 5) := ⟨_, rfl⟩
  have hb6 : Below Y.heap.size Y w6 := by rw [hw6]; exact below_al _ _
  have q6 : w6.heap[Y.heap.size]? = some (.cells #[] 5) := by rw [hw6]; exact new_block_at _ _ rfl
  have hYw := P.st.kx.size
  have hfT := P.kT
  obtain ⟨o2, c2, w8, r1, r2, r3⟩ := app_empty q6 (base := Y.heap.size) (Nat.le_refl _) (((Has.of_owned P.row).below hb6).pre n hn) (by omega)
  have hb8 : Below Y.heap.size Y w8 := hb6.trans r3
  have x8 := (P.bx).kx (L := fun _ => False) (.below hb8) (fun e => e)
  refine ⟨o2, c2, w8, by rw [← hw6]; exact r1, x8, fun Z hZ => ?_⟩
  have hkZ : Kx (fun g => g = b) w8 Z := by rw [hZ]; exact (Kx.set (P := fun g => g = b) (g := b) rfl _).trans (Kx.set (P := fun g => g = b) (g := b) rfl _)
  have hrZ : Z.ownsRow m 5 1 (.slice o2 n c2) n ((f.b.take n).map bv) := by
    refine own_mono (own_kx r2 hkZ fun g e e2 => ?_) (Nat.le_trans P.mw hYw)
    have := (own_lt r2 g e).1
    have := node_lt P.bx
    omega
  refine ⟨by unfold FBx; rw [hZ, set_in (set_in x8 1 _) 2 _]; rfl, ?_⟩
  exact set_after P.st P.xd P.lt (by omega) ((Kx.below hb8).trans (hkZ.wide fun g e => by have := P.bw; omega)) ⟨f.n, o2, n, c2, f.b.take n, min f.s n⟩ hrZ (fun g e => .inr (by have := (own_lt r2 g e).1; omega)) (Nat.min_le_right _ _) (by omega) (by show n ≤ _; omega) P.nl
end
end Go.Proofs.YtmddcdaodlnnhaaGreatDoor
namespace Go.Proofs.YtmddcdaodlnnhaaGreatDoor
open Go.RowKit Go.Maps
set_option linter.unusedVariables false
section
variable {m T T' b : Nat} {f : Gx} {w w' W X Y Z : World} {x : Nat} {v : Value} {l : List Gx} {off arm : Bool} {ac ah pa : Int}
theorem Pre.of {w4 : World} (h : Xd m T w x v l off ac pa) (hk : Kx (fun g => w.heap.size ≤ g) w w4) {off' : Bool} {ac' : Int} (h5 : Xd m T Y x v l off' ac' pa) (hS : Stp (OX x v l) w4 (OX x v l) Y) (hB : FBx w4 b f) (hb : w.heap.size ≤ b) (hf : f ∈ l ∨ (f.o = none ∧ f.k = 0 ∧ f.c = 0 ∧ f.b = [] ∧ f.s = 0 ∧ f.n.length ≤ 32)) : Pre m T w Y x v l off' ac' pa b f := by
  have hlt : ∀ g, OX x v l g → g < w.heap.size := fun g hg => (h.lt g hg).2
  have hbX : ¬ OX x v l b := fun e => by have := hlt b e; omega
  have hmw : m ≤ w.heap.size := Nat.le_trans h.mx (Nat.le_of_lt (node_lt h.blk))
  have hst : Stp (OX x v l) w (OX x v l) Y := by
    refine ⟨⟨hS.kx.os.trans hk.os, hS.kx.tape.trans hk.tape, hS.kx.output.trans hk.output, Nat.le_trans hk.size hS.kx.size, fun g hg hn => ?_⟩, fun g hg => .inl hg⟩
    exact (hS.kx.block g (Nat.lt_of_lt_of_le hg hk.size) hn).trans (hk.block g hg (by omega))
  rcases hf with hf | ⟨h1, h2, h3, h4, h5', h6⟩
  · exact ⟨hst, h5, hlt, hmw, hB.kx hS.kx hbX, hb, (h5.row.rep f hf).1, fun g hg => .inr (.inr ⟨f, hf, hg⟩), (h5.row.rep f hf).2, (h5.bd f hf).1, (h5.bd f hf).2⟩
  · obtain ⟨fn, fo, fk, fc, fb, fs0⟩ := f
    dsimp only at h1 h2 h3 h4 h5' h6
    subst h1 h2 h3 h4 h5'
    exact ⟨hst, h5, hlt, hmw, hB.kx hS.kx hbX, hb, ⟨rfl, .inl ⟨rfl, rfl⟩⟩, fun g hg => (by cases hg), Nat.le_refl _, Nat.zero_le _, h6⟩
theorem DoneX.ref {ah : Int} (h : Xd m T w x v l off (acO arm ah) pa) (hT : T ≤ T') (hb : Below w.heap.size w X) (c : Int) : DoneX m T' w x v l pa (refP (l.map pg) off arm ah c) (.returned (.int .i64 c)) X :=
  ⟨rfl, v, l, rfl, (h.below hb).mono hT, .below hb⟩
theorem DoneX.of {P : List Pf} {v' : Value} {l' : List Gx} (harm : arm = true → 0 ≤ ah) (h1 : l'.map pg = P) (h2 : Xd m T' X x v' l' (off || actC arm ah) (xac (acO arm ah)) pa) (h3 : Stp (OX x v l) w (OX x v' l') X) (c : Int) (hc : c = if actC arm ah then 80 else 0) : DoneX m T' w x v l pa (doneP P off arm ah) (.returned (.int .i64 c)) X := by
  refine ⟨by rw [hc]; rfl, v', l', h1, ?_, h3⟩
  rw [acO_next harm] at h2
  exact h2
theorem fiP_zero {off : Bool} {S : ByteArray} {l : List Gx} (h : fiP off S (l.map pg) = 0) : rfC off S = 0 ∧ ∃ f, fnd l S.data.toList = some f := by
  unfold fiP at h
  by_cases hr : rfC off S = 0
  · rw [if_pos hr, map_fnd nm_pg, Option.isSome_map] at h
    cases hf : fnd l S.data.toList with
    | none => rw [hf] at h; simp at h
    | some f => exact ⟨hr, f, rfl⟩
  · rw [if_neg hr] at h; exact absurd h hr
theorem oldP_someG {l : List Gx} {x : Nm} {f : Gx} (h : fnd l x = some f) : oldP (l.map pg) x = ⟨x, f.b, f.s⟩ := by
  unfold oldP
  rw [map_fnd nm_pg, h]
  show pg f = _
  unfold pg
  rw [show f.n = x from (fnd_some h).2]
theorem oldP_noneG {l : List Gx} {x : Nm} (h : fnd l x = none) : oldP (l.map pg) x = ⟨x, [], 0⟩ := by
  unfold oldP
  rw [map_fnd nm_pg, h]
  rfl
end
end Go.Proofs.YtmddcdaodlnnhaaGreatDoor
