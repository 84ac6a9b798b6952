/-
  A disk in memory; what changes from world to world. Conditions: those that each theorem names.
-/
import Derived.Test.YtmddcdaodlnnhaaGreatDoorVDKMToDKC
import Derived.Test.YtmddcdaodlnnhaaGreatDoorVDKN
import Derived.Test.YtmddcdaodlnnhaaGreatDoorVZAsToZCode
namespace Go.Proofs.YtmddcdaodlnnhaaGreatDoor
open Go.RowKit Go.Maps
set_option linter.unusedVariables false
theorem own_lt {w : World} {base e size n : Nat} {v : Value} {xs : List Value} (h : w.ownsRow base e size v n xs) (g : Nat) (hg : v.ownBlock = some g) : base ≤ g ∧ g < w.heap.size ∧ ∃ cur, w.heap[g]? = some (.cells cur e (0, 0)) := by
  obtain ⟨_, ⟨h1, h2⟩ | ⟨g', cap, cur, rfl, hb, hh, _⟩⟩ := h
  · rw [h1] at hg; cases hg
  · cases hg
    exact ⟨hb, node_lt hh, cur, hh⟩
/-- Only the blocks of O, and new ones, have turned; what is owned now was owned, or is new. -/
structure Stp (O : Nat → Prop) (W : World) (O' : Nat → Prop) (W' : World) : Prop where
  kx : Kx O W W'
  own : ∀ g, O' g → O g ∨ W.heap.size ≤ g
theorem Stp.refl (O : Nat → Prop) (W : World) : Stp O W O W := ⟨Kx.refl _ _, fun _ h => .inl h⟩
theorem Stp.trans {O O1 O2 : Nat → Prop} {W W1 W2 : World} (h : Stp O W O1 W1) (k : Stp O1 W1 O2 W2) : Stp O W O2 W2 := by
  refine ⟨⟨k.kx.os.trans h.kx.os, k.kx.tape.trans h.kx.tape, k.kx.output.trans h.kx.output, Nat.le_trans h.kx.size k.kx.size, fun g hg hp => ?_⟩, fun g hg => ?_⟩
  · refine (k.kx.block g (Nat.lt_of_lt_of_le hg h.kx.size) fun e => ?_).trans (h.kx.block g hg hp)
    rcases h.own g e with e | e
    · exact hp e
    · omega
  · rcases k.own g hg with e | e
    · exact h.own g e
    · have := h.kx.size
      exact .inr (by omega)
theorem Stp.below {O : Nat → Prop} {W W' : World} (h : Below W.heap.size W W') : Stp O W O W' := ⟨.below h, fun _ h => .inl h⟩
theorem Stp.sub {O O' : Nat → Prop} {W W' : World} {n : Nat} (h : Stp O W O' W') (hO : ∀ g, O g → n ≤ g) (hn : n ≤ W.heap.size) : Below n W W' := h.kx.to hn hO
/-- The blocks of a file. -/
def OF (f : Fx) : Nat → Prop := fun g => g = f.p ∨ (fsl f).ownBlock = some g
/-- The blocks of a disk. -/
def OD (d B : Nat) (fs : List Fx) : Nat → Prop := fun g => g = d ∨ g = B ∨ ∃ f ∈ fs, OF f g
def Apt (a b : Fx) : Prop := ∀ g, OF a g → ¬ OF b g
theorem Apt.symm (a b : Fx) (h : Apt a b) : Apt b a := fun g hb ha => h g ha hb
structure FxOk (m : Nat) (w : World) (f : Fx) : Prop where
  blk : w.heap[f.p]? = some (.cells #[.slice f.o f.k f.c, .int .i64 (f.s : Int)] 71)
  mp : m ≤ f.p
  row : w.ownsRow m 5 1 (.slice f.o f.k f.c) f.k (f.b.map bv)
  sk : f.s ≤ f.k
  nl : f.n.length ≤ 32
theorem FxOk.len {m : Nat} {w : World} {f : Fx} (h : FxOk m w f) : f.b.length = f.k := by have := h.row.1; simpa using this
theorem FxOk.lt {m : Nat} {w : World} {f : Fx} (h : FxOk m w f) (g : Nat) (hg : OF f g) : m ≤ g ∧ g < w.heap.size := by
  rcases hg with rfl | hg
  · exact ⟨h.mp, node_lt h.blk⟩
  · obtain ⟨h1, h2, _⟩ := own_lt h.row g hg
    exact ⟨h1, h2⟩
theorem FxOk.kx {m : Nat} {w w' : World} {f : Fx} {L : Nat → Prop} (h : FxOk m w f) (hk : Kx L w w') (hL : ∀ g, OF f g → ¬ L g) : FxOk m w' f :=
  ⟨(hk.block _ (node_lt h.blk) (hL _ (.inl rfl))).trans h.blk, h.mp, own_kx h.row hk fun g e => hL g (.inr e), h.sk, h.nl⟩
theorem FxOk.ne {m : Nat} {w : World} {f : Fx} (h : FxOk m w f) {g : Nat} (hg : (fsl f).ownBlock = some g) : g ≠ f.p := by
  rintro rfl
  obtain ⟨_, _, cur, hc⟩ := own_lt h.row _ hg
  rw [h.blk] at hc
  cases hc
/-- A disk: its block, its map's block, its files; is it off, is it armed, how many acts ahead, the part. -/
structure Dk (m T : Nat) (w : World) (d B : Nat) (fs : List Fx) (off arm : Bool) (ah pa : Int) : Prop where
  blk : w.heap[d]? = some (.cells #[.map (some B), .bool off, .bool arm, .int .i64 ah, .int .i64 pa] 59)
  mp : TM w B fs
  md : m ≤ d
  mB : m ≤ B
  ok : ∀ f ∈ fs, FxOk m w f
  ap : fs.Pairwise Apt
  bd : ∀ f ∈ fs, f.k ≤ T
  few : fs.length ≤ T
section
variable {m T : Nat} {w w' : World} {d B : Nat} {fs : List Fx} {off arm : Bool} {ah pa : Int}
theorem Dk.lt (h : Dk m T w d B fs off arm ah pa) (g : Nat) (hg : OD d B fs g) : m ≤ g ∧ g < w.heap.size := by
  rcases hg with rfl | rfl | ⟨f, hf, hg⟩
  · exact ⟨h.md, node_lt h.blk⟩
  · exact ⟨h.mB, h.mp.lt⟩
  · exact (h.ok f hf).lt g hg
theorem Dk.kx {L : Nat → Prop} (h : Dk m T w d B fs off arm ah pa) (hk : Kx L w w') (hL : ∀ g, OD d B fs g → ¬ L g) : Dk m T w' d B fs off arm ah pa :=
  ⟨(hk.block _ (node_lt h.blk) (hL _ (.inl rfl))).trans h.blk, h.mp.same (hk.block _ h.mp.lt (hL _ (.inr (.inl rfl)))), h.md, h.mB, fun f hf => (h.ok f hf).kx hk fun g hg => hL g (.inr (.inr ⟨f, hf, hg⟩)), h.ap, h.bd, h.few⟩
theorem Dk.below (h : Dk m T w d B fs off arm ah pa) (hb : Below w.heap.size w w') : Dk m T w' d B fs off arm ah pa := h.kx (L := fun _ => False) (.below hb) fun _ _ e => e
theorem Dk.mono {T' : Nat} (h : Dk m T w d B fs off arm ah pa) (hT : T ≤ T') : Dk m T' w d B fs off arm ah pa :=
  ⟨h.blk, h.mp, h.md, h.mB, h.ok, h.ap, fun f hf => Nat.le_trans (h.bd f hf) hT, Nat.le_trans h.few hT⟩
theorem Dk.mapblk (h : Dk m T w d B fs off arm ah pa) : ∃ es k, w.heap[B]? = some (.map es k) := by
  obtain ⟨_, es, k, h1, _⟩ := h.mp
  exact ⟨es, k, h1⟩
theorem Dk.ne_dB (h : Dk m T w d B fs off arm ah pa) : B ≠ d := by
  rintro rfl
  obtain ⟨es, k, h1⟩ := h.mapblk
  rw [h.blk] at h1
  cases h1
theorem Dk.nd (h : Dk m T w d B fs off arm ah pa) {f : Fx} (hf : f ∈ fs) : ¬ OF f d := by
  rintro (e | e)
  · have := (h.ok f hf).blk
    rw [← e, h.blk] at this
    cases this
  · obtain ⟨_, _, cur, hc⟩ := own_lt (h.ok f hf).row _ e
    rw [h.blk] at hc
    cases hc
theorem Dk.nB (h : Dk m T w d B fs off arm ah pa) {f : Fx} (hf : f ∈ fs) : ¬ OF f B := by
  obtain ⟨es, k, h1⟩ := h.mapblk
  rintro (e | e)
  · have := (h.ok f hf).blk
    rw [← e, h1] at this
    cases this
  · obtain ⟨_, _, cur, hc⟩ := own_lt (h.ok f hf).row _ e
    rw [h1] at hc
    cases hc
/-- A file turned in its place. -/
theorem Dk.turn (h : Dk m T w d B fs off arm ah pa) {f f' : Fx} (hf : f ∈ fs) (hn : f'.n = f.n) (hp : f'.p = f.p) (hk : Kx (OF f) w w') (h' : FxOk m w' f') (ho : ∀ g, (fsl f').ownBlock = some g → (fsl f).ownBlock = some g ∨ w.heap.size ≤ g) {T' : Nat} (hT : T ≤ T') (hfk : f'.k ≤ T') :
    Dk m T' w' d B (put fs f') off arm ah pa ∧ Stp (OD d B fs) w (OD d B (put fs f')) w' := by
  have hO : ∀ g, OF f' g → OF f g ∨ w.heap.size ≤ g := by
    rintro g (e | e)
    · exact .inl (.inl (e.trans hp))
    · rcases ho g e with e | e
      · exact .inl (.inr e)
      · exact .inr e
  have hother : ∀ t ∈ fs, nm t ≠ nm f' → Apt t f := fun t ht hne => by
    have hne : nm t ≠ nm f := fun e => hne (e.trans hn.symm)
    by_cases e : t = f
    · exact absurd (by rw [e]) hne
    · rcases List.pairwise_iff_getElem.1 h.ap with hap
      obtain ⟨i, hi, rfl⟩ := List.getElem_of_mem ht
      obtain ⟨j, hj, rfl⟩ := List.getElem_of_mem hf
      rcases Nat.lt_trichotomy i j with l | l | l
      · exact hap i j hi hj l
      · subst l; exact absurd rfl e
      · exact (hap j i hj hi l).symm
  have hids : (put fs f').map (fun f => (f.n, f.p)) = fs.map (fun f => (f.n, f.p)) := by
    unfold put
    rw [List.map_map]
    refine List.map_congr_left fun t ht => ?_
    simp only [Function.comp]
    split
    · rename_i e
      have e2 : t = f := rise_mem h.mp.1 ht hf (e.trans hn)
      rw [e2, hn, hp]
    · rfl
  refine ⟨⟨(hk.block _ (node_lt h.blk) (h.nd hf)).trans h.blk, (h.mp.same (hk.block _ h.mp.lt (h.nB hf))).ids hids, h.md, h.mB, fun t ht => ?_, ?_, fun t ht => ?_, by rw [len_put]; exact Nat.le_trans h.few hT⟩, hk.wide (fun g e => .inr (.inr ⟨f, hf, e⟩)), fun g hg => ?_⟩
  · rcases mem_put ht with rfl | ⟨ht, hne⟩
    · exact h'
    · exact (h.ok t ht).kx hk fun g e => hother t ht hne g e
  · refine pw_put Apt.symm h.ap h.mp.1 fun t ht hne g e e' => ?_
    rcases hO g e' with e' | e'
    · exact hother t ht hne g e e'
    · have := ((h.ok t ht).lt g e).2
      omega
  · rcases mem_put ht with rfl | ⟨ht, hne⟩
    · exact hfk
    · exact Nat.le_trans (h.bd t ht) hT
  · rcases hg with rfl | rfl | ⟨t, ht, e⟩
    · exact .inl (.inl rfl)
    · exact .inl (.inr (.inl rfl))
    · rcases mem_put ht with rfl | ⟨ht, hne⟩
      · rcases hO g e with e | e
        · exact .inl (.inr (.inr ⟨f, hf, e⟩))
        · exact .inr e
      · exact .inl (.inr (.inr ⟨t, ht, e⟩))
/-- A new file. -/
theorem Dk.add (h : Dk m T w d B fs off arm ah pa) {f : Fx} (hn : fnd fs f.n = none) (hk : Kx (fun g => g = B) w w') (hm : TM w' B (ins fs f)) (h' : FxOk m w' f) (ho : ∀ g, OF f g → w.heap.size ≤ g) {T' : Nat} (hT : T + 1 ≤ T') (hfk : f.k ≤ T') :
    Dk m T' w' d B (ins fs f) off arm ah pa ∧ Stp (OD d B fs) w (OD d B (ins fs f)) w' := by
  have hnn := fnd_none hn
  refine ⟨⟨(hk.block _ (node_lt h.blk) (fun e => h.ne_dB e.symm)).trans h.blk, hm, h.md, h.mB, fun t ht => ?_, ?_, fun t ht => ?_, by rw [len_ins]; have := h.few; omega⟩, hk.wide (fun g e => .inr (.inl e)), fun g hg => ?_⟩
  · rcases mem_ins.1 ht with rfl | ht
    · exact h'
    · exact (h.ok t ht).kx hk fun g e e2 => h.nB ht (e2 ▸ e)
  · have hA : ∀ t ∈ fs, Apt t f := fun t ht g e e' => by
      have h1 := ho g e'
      have h2 := ((h.ok t ht).lt g e).2
      omega
    exact pw_ins h.ap (fun t ht => ⟨fun _ => hA t ht, fun _ => (hA t ht).symm⟩) h.mp.1 hnn
  · rcases mem_ins.1 ht with rfl | ht
    · exact hfk
    · have := h.bd t ht
      omega
  · rcases hg with rfl | rfl | ⟨t, ht, e⟩
    · exact .inl (.inl rfl)
    · exact .inl (.inr (.inl rfl))
    · rcases mem_ins.1 ht with rfl | ht
      · exact .inr (ho g e)
      · exact .inl (.inr (.inr ⟨t, ht, e⟩))
/-- A file less. -/
theorem Dk.less (h : Dk m T w d B fs off arm ah pa) {x : Nm} (hk : Kx (fun g => g = B) w w') (hm : TM w' B (del fs x)) :
    Dk m T w' d B (del fs x) off arm ah pa ∧ Stp (OD d B fs) w (OD d B (del fs x)) w' := by
  refine ⟨⟨(hk.block _ (node_lt h.blk) (fun e => h.ne_dB e.symm)).trans h.blk, hm, h.md, h.mB, fun t ht => ?_, h.ap.filter _, fun t ht => h.bd t (mem_del.1 ht).1, Nat.le_trans (len_del_le _ _) h.few⟩, hk.wide (fun g e => .inr (.inl e)), fun g hg => ?_⟩
  · exact (h.ok t (mem_del.1 ht).1).kx hk fun g e e2 => h.nB (mem_del.1 ht).1 (e2 ▸ e)
  · rcases hg with rfl | rfl | ⟨t, ht, e⟩
    · exact .inl (.inl rfl)
    · exact .inl (.inr (.inl rfl))
    · exact .inl (.inr (.inr ⟨t, (mem_del.1 ht).1, e⟩))
/-- The disk's own cells turned. -/
theorem Dk.flags (h : Dk m T w d B fs off arm ah pa) {off' arm' : Bool} {ah' pa' : Int} (hk : Kx (fun g => g = d) w w') (hb : w'.heap[d]? = some (.cells #[.map (some B), .bool off', .bool arm', .int .i64 ah', .int .i64 pa'] 59)) :
    Dk m T w' d B fs off' arm' ah' pa' ∧ Stp (OD d B fs) w (OD d B fs) w' := by
  refine ⟨⟨hb, h.mp.same (hk.block _ h.mp.lt h.ne_dB), h.md, h.mB, fun t ht => ?_, h.ap, h.bd, h.few⟩, hk.wide (fun g e => .inl e), fun g hg => .inl hg⟩
  exact (h.ok t ht).kx hk fun g e e2 => h.nd ht (e2 ▸ e)
theorem Dk.at (h : Dk m T w d B fs off arm ah pa) {x : Nm} {f : Fx} (hf : fnd fs x = some f) : f ∈ fs ∧ f.n = x ∧ FxOk m w f ∧ f.k ≤ T := by
  obtain ⟨h1, h2⟩ := fnd_some hf
  exact ⟨h1, h2, h.ok f h1, h.bd f h1⟩
end
end Go.Proofs.YtmddcdaodlnnhaaGreatDoor
