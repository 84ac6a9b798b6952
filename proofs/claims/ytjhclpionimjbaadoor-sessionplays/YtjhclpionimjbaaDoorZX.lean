/-
  The document's table in memory; slices of its row, and what is appended to a row. Conditions: those that each theorem names.
-/
import Derived.Test.YtjhclpionimjbaaDoorZAg
namespace Go.Proofs.YtjhclpionimjbaaDoor
open Go.RowKit Go.Maps
set_option linter.unusedVariables false
/-- append at the operation, where its run is known. -/
theorem wpList_app_run {w : World} {ops : Array Oper} {rest : List Oper} {o : Oper} {a : Act} {Q : Exit → Act → World → Prop} (hgd : o.guard = none) (s x : Operand) (t : TypeId)
    (ho : o.op = .call { callee := .builtin .append, args := #[s, x], argTypes := #[t, t] }) {v u v' : Value} {w' : World} (hs : a.eval s = v) (hx : a.eval x = u)
    (hr : (Builtin.append_ #[t, t] o.type #[v, u]).run Tryd.prog w = .ok v' w') (h : wpList Tryd.prog ops Q rest (a.put o.dst v') w') : wpList Tryd.prog ops Q (o :: rest) a w := by
  refine wpList_plain hgd fun K hK => ?_
  unfold Oper.wp execOp
  simp only [ho, resolve, invoke, builtin, Sem.run_bind, Sem.run_pure, Result.andThen_ok, List.map_toArray, List.map_cons, List.map_nil, hs, hx, hr]
  exact hK _ _ h
theorem step_app_run {w : World} {ops : Array Oper} {o : Oper} {a : Act} {K : Act → World → Prop} {Q : Exit → Act → World → Prop} {E : Prop} (hgd : o.guard = none) (s x : Operand) (t : TypeId)
    (ho : o.op = .call { callee := .builtin .append, args := #[s, x], argTypes := #[t, t] }) {v u v' : Value} {w' : World} (hs : a.eval s = v) (hx : a.eval x = u)
    (hr : (Builtin.append_ #[t, t] o.type #[v, u]).run Tryd.prog w = .ok v' w') (h : K (a.put o.dst v') w') : if Region.wanted o (yielded ops a.tmps) = true then Oper.wp Tryd.prog o a w K Q else E := by
  have hw : Region.wanted o (yielded ops a.tmps) = true := by simp [Region.wanted, hgd]
  rw [if_pos hw]
  unfold Oper.wp execOp
  simp only [ho, resolve, invoke, builtin, Sem.run_bind, Sem.run_pure, Result.andThen_ok, List.map_toArray, List.map_cons, List.map_nil, hs, hx, hr]
  exact h
/-- What may be appended. -/
def Src (w : World) (so : Option Addr) (m : Nat) (news : List Value) : Prop := (so = none ∧ m = 0) ∨ ∃ ad, so = some ad ∧ ∀ j u, news[j]? = some u → w.cell? (ad.add j) = some u
/-- append of any row onto a row of one's own, nil too. -/
theorem app_any {w : World} {base n : Nat} {e t : TypeId} {i : TypeInfo} {z v : Value} {size bytes : Nat} {xs : List Value} (ht : Tryd.prog.underlying t = some (.slice e)) (hi : Tryd.prog.info? e = some i) (hz : i.zero = some z)
    (hsize : i.size = size) (hby : i.bytes = bytes) (hzs : z.cells.size = size) (hsz : 0 < size) (hown : w.ownsRow base e size v n xs) {so : Option Addr} {m : Nat} (c : Nat) {news : List Value} (hl : news.length = m * size) (hs : Src w so m news) (h1 : ∀ u ∈ news, u.oneCell' = true)
    (h63 : n + m ≤ maxLen) (hbytes : (n + m) * bytes ≤ 140737488355328) (hbase : base ≤ w.heap.size) (ty : TypeId) (hc : so = none → c = 0) :
    ∃ v' w', (Builtin.append_ #[t, t] ty #[v, .slice so m c]).run Tryd.prog w = .ok v' w' ∧ w'.ownsRow base e size v' (n + m) (xs ++ news) ∧ w.grownBy w' v.ownBlock ∧ (v'.ownBlock = v.ownBlock ∨ v'.ownBlock = some w.heap.size) := by
  rcases hs with ⟨rfl, rfl⟩ | ⟨ad, rfl, hnews⟩
  · have hnil : news = [] := List.eq_nil_of_length_eq_zero (by simpa using hl)
    subst hnil
    refine ⟨v, w, ?_, by simpa using hown, ⟨rfl, rfl, rfl, Nat.le_refl _, fun _ _ _ => rfl⟩, .inl rfl⟩
    rcases hown.2 with ⟨rfl, h0⟩ | ⟨g', cap', cur, rfl, hbg, hg, hnc, hcm, hcs, htake⟩
    · simp [Builtin.append_, run_underlying ht, sizeOf, typeInfo, hi, Builtin.lenOf, Builtin.firstCells]
    · simp [Builtin.append_, run_underlying ht, sizeOf, typeInfo, hi, Builtin.lenOf, hnc, Builtin.firstCells, storeCells]
  · obtain ⟨v', w', hr, h2, h3, _, h4⟩ := run_append_own_at (P := Tryd.prog) w base t ty e i z size bytes ht hi hz hsize hby hzs hsz v n xs hown ad m c news hl hnews h1 h63 hbytes hbase
    exact ⟨v', w', hr, h2, h3, h4⟩
/-- The document's table: its block, its row, its sessions, its clock. -/
structure Xt (w : World) (m xb : Nat) (v : Value) (l : List Sx) (ck : Int) : Prop where
  blk : w.heap[xb]? = some (.cells #[v, .int .i64 ck] 38)
  row : RowS w m v l
  le : m ≤ xb
  ms : m ≤ w.heap.size
  few : l.length ≤ 8
  idI : ∀ s ∈ l, inI s.i ∧ inI s.l ∧ inI s.u
  ckI : inI ck
/-- Which blocks a table of the document may write. -/
def ownX (xb : Nat) (v : Value) : Nat → Prop := fun g => g = xb ∨ v.ownBlock = some g
theorem Xt.nt {w : World} {m xb : Nat} {v : Value} {l : List Sx} {ck : Int} (h : Xt w m xb v l ck) : ∀ g, g < w.heap.size → ownX xb v g → NoT w g := by
  rintro g _ (rfl | e)
  · exact NoT.cells h.blk (by decide)
  · exact (row_not h.row.own g e).1
theorem Xt.nor {w : World} {m xb : Nat} {v : Value} {l : List Sx} {ck : Int} (h : Xt w m xb v l ck) : ∀ g, g < w.heap.size → ownX xb v g → NoR w g := fun g a b => .inr (h.nt g a b)
theorem Xt.ge {w : World} {m xb : Nat} {v : Value} {l : List Sx} {ck : Int} (h : Xt w m xb v l ck) : ∀ g, ownX xb v g → m ≤ g := by
  rintro g (rfl | e)
  · exact h.le
  · exact (row_not h.row.own g e).2.1
theorem Xt.kx {w w' : World} {m xb : Nat} {v : Value} {l : List Sx} {ck : Int} {L : Nat → Prop} (h : Xt w m xb v l ck) (hk : Kx L w w') (hL : ∀ g, g < w.heap.size → L g → NoT w g) (hx : ∀ g, ownX xb v g → ¬ L g) : Xt w' m xb v l ck :=
  ⟨(hk.block xb (node_lt h.blk) (hx xb (.inl rfl))).trans h.blk, h.row.kx hk hL (fun g e => hx g (.inr e)), h.le, Nat.le_trans h.ms hk.size, h.few, h.idI, h.ckI⟩
theorem Xt.below {w w' : World} {m xb : Nat} {v : Value} {l : List Sx} {ck : Int} (h : Xt w m xb v l ck) (hb : Below w.heap.size w w') : Xt w' m xb v l ck := h.kx (L := fun _ => False) (.below hb) (fun _ _ e => e.elim) (fun _ _ e => e)
theorem row_blk {w : World} {m : Nat} {v : Value} {l : List Sx} (h : RowS w m v l) {g : Nat} (hg : v.ownBlock = some g) : ∃ cur, w.heap[g]? = some (.cells cur 59 (0, 0)) := by
  obtain ⟨_, h | ⟨g', cap, cur, rfl, _, h2, _⟩⟩ := h.own
  · rw [h.1] at hg; cases hg
  · cases hg; exact ⟨cur, h2⟩
/-- The two tables lie apart. -/
theorem apart_tx {w : World} {m xb tb B : Nat} {v : Value} {l k : List Sx} {ck c2 : Int} (h : Xt w m xb v l ck) (ht : Tb w tb B k c2) : ∀ g, ownX xb v g → ¬ own2 tb B g := by
  obtain ⟨_, es, q, hB, _⟩ := ht.m
  rintro g hx hT
  rcases hx with rfl | e
  · rcases hT with rfl | rfl
    · have := h.blk; rw [ht.blk] at this; cases this
    · have := h.blk; rw [hB] at this; cases this
  · obtain ⟨cur, hg⟩ := row_blk h.row e
    rcases hT with rfl | rfl
    · rw [ht.blk] at hg; cases hg
    · rw [hB] at hg; cases hg
theorem slice_lo {so : Option Addr} {n cp k : Nat} (hk : k ≤ n) (hn : n ≤ cp) (hso : so = none → cp = 0) : ∃ so' , (∀ W : World, (Instr.slice 22 (.slice so n cp) (some (.int .i64 (k : Int))) none none).run Tryd.prog W = .ok (.slice so' (n - k) (cp - k)) W) ∧ (so = none → so' = none) ∧ (∀ g, so = some ⟨g, 0, none⟩ → k < n → so' = some ⟨g, k * 4, none⟩) ∧ (so' = none → cp - k = 0) := by
  obtain ⟨iT, hiT, hzT0, hzT1, hzT2⟩ := info_parts Tryd.infoSess
  have k3 : ¬ (n : Int) < (k : Int) := by omega
  have k4 : ¬ (k : Int) < 0 := by omega
  have k5 : ¬ (cp : Int) < (n : Int) := by omega
  cases so with
  | none =>
    have hc : cp = 0 := hso rfl
    have hk0 : k = 0 := by omega
    have hn0 : n = 0 := by omega
    subst hc hk0 hn0
    exact ⟨none, fun W => by simp [Instr.slice, run_underlying Tryd.underlying22, Instr.sliceBounds, Instr.sliceBound, asIntOf, sizeOf, typeInfo, hiT], fun _ => rfl, fun g e => (by cases e), fun _ => rfl⟩
  | some a =>
    by_cases hc : cp = k
    · refine ⟨some a, fun W => ?_, fun e => (by cases e), fun g e hlt => (by omega), fun e => (by cases e)⟩
      subst hc
      have hnk : n = cp := by omega
      subst hnk
      simp [Instr.slice, run_underlying Tryd.underlying22, Instr.sliceBounds, Instr.sliceBound, asIntOf, sizeOf, typeInfo, hiT]
    · refine ⟨some (a.add (k * 4)), fun W => ?_, fun e => (by cases e), fun g e hlt => (by cases e; rw [Addr.add_lit, Nat.zero_add]), fun e => (by cases e)⟩
      simp [Instr.slice, run_underlying Tryd.underlying22, Instr.sliceBounds, Instr.sliceBound, asIntOf, sizeOf, typeInfo, hiT, hzT1, hc]
      first | done | omega
theorem slice_hi {so : Option Addr} {n cp k : Nat} (hk : k ≤ n) (hn : n ≤ cp) (hso : so = none → cp = 0) : ∀ W : World, (Instr.slice 22 (.slice so n cp) none (some (.int .i64 (k : Int))) none).run Tryd.prog W = .ok (.slice so k cp) W := by
  obtain ⟨iT, hiT, hzT0, hzT1, hzT2⟩ := info_parts Tryd.infoSess
  have k3 : ¬ (cp : Int) < (k : Int) := by omega
  have k4 : ¬ (k : Int) < 0 := by omega
  cases so with
  | none =>
    have hc : cp = 0 := hso rfl
    have hk0 : k = 0 := by omega
    have hn0 : n = 0 := by omega
    subst hc hk0 hn0
    intro W
    simp [Instr.slice, run_underlying Tryd.underlying22, Instr.sliceBounds, Instr.sliceBound, asIntOf, sizeOf, typeInfo, hiT]
  | some a =>
    intro W
    have k6 : k ≤ cp := by omega
    obtain ⟨g, off, sp⟩ := a
    have k7 : (⟨g, off, sp⟩ : Addr).add 0 = ⟨g, off, sp⟩ := by simp [Addr.add]
    by_cases hc : cp = 0 <;> simp [Instr.slice, run_underlying Tryd.underlying22, Instr.sliceBounds, Instr.sliceBound, asIntOf, sizeOf, typeInfo, hiT, k6, k7, hc]
    omega
end Go.Proofs.YtjhclpionimjbaaDoor
