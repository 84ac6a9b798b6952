/-
  Two tokens held against each other as wholes: equal just if they are one. Conditions: their classes are below 2^256.
-/
import Derived.Test.YtbdhgfblkgkekaaDoorX19
import Derived.ChangeKeysEq
import Derived.Laws.StructEq
namespace Go.Proofs.YtbdhgfblkgkekaaDoor
open Go.RowKit
set_option linter.unusedVariables false
theorem Tryd.cellsOf34 : Tryd.prog.cellsOf 34 = 1 := by kernel_rfl
theorem Tryd.info34 : (Tryd.prog.info? 34).map (fun i => (i.zero, i.size, i.bytes)) = some (some (.int .u64 0), 1, 8) := by kernel_rfl
theorem eq_words (n : Nat) (w : World) (a b c d a' b' c' d' : Int) :
    (Op.equalIn (n + 2) 36 (.agg #[.int .u64 a, .int .u64 b, .int .u64 c, .int .u64 d]) (.agg #[.int .u64 a', .int .u64 b', .int .u64 c', .int .u64 d'])).run Tryd.prog w = .ok (a == a' && (b == b' && (c == c' && d == d'))) w := by
  obtain ⟨i, hi⟩ : ∃ i, Tryd.prog.info? 34 = some i := by
    cases h : Tryd.prog.info? 34 with
    | none => have := Tryd.info34; rw [h] at this; cases this
    | some i => exact ⟨i, rfl⟩
  have hu : Tryd.prog.underlying 36 = some (.array 4 34) := by kernel_rfl
  rw [run_equalIn_array w (n + 1) _ _ hu hi, Tryd.cellsOf34]
  have p : ∀ (x y z t : Value) (w : World), (part 34 #[x, y, z, t] 0).run Tryd.prog w = .ok x w := fun _ _ _ _ _ => by kernel_rfl
  have p1 : ∀ (x y z t : Value) (w : World), (part 34 #[x, y, z, t] 1).run Tryd.prog w = .ok y w := fun _ _ _ _ _ => by kernel_rfl
  have p2 : ∀ (x y z t : Value) (w : World), (part 34 #[x, y, z, t] 2).run Tryd.prog w = .ok z w := fun _ _ _ _ _ => by kernel_rfl
  have p3 : ∀ (x y z t : Value) (w : World), (part 34 #[x, y, z, t] 3).run Tryd.prog w = .ok t w := fun _ _ _ _ _ => by kernel_rfl
  have e : ∀ (x y : Int) (w : World), (Op.equalIn (n + 1) 34 (.int .u64 x) (.int .u64 y)).run Tryd.prog w = .ok (x == y) w := fun x y w => run_equalIn_int w n 34 .u64 .u64 x y Tryd.underlying34
  rw [show List.range 4 = [0, 1, 2, 3] from rfl]
  simp only [Op.eqItems, Sem.run_bind, Nat.mul_one, p, e, Result.andThen_ok]
  cases h1 : a == a' <;> cases h2 : b == b' <;> cases h3 : c == c' <;> cases h4 : d == d' <;> simp [Result.andThen, p1, p2, p3, e, h2, h3, h4, -beq_iff_eq, -beq_eq_false_iff_ne]
theorem eq_cls (n C D : Nat) (hC : C < 2 ^ 256) (hD : D < 2 ^ 256) (w : World) :
    (Op.equalIn (n + 2) 36 (.agg #[.int .u64 (wd C 0 : Nat), .int .u64 (wd C 1 : Nat), .int .u64 (wd C 2 : Nat), .int .u64 (wd C 3 : Nat)]) (.agg #[.int .u64 (wd D 0 : Nat), .int .u64 (wd D 1 : Nat), .int .u64 (wd D 2 : Nat), .int .u64 (wd D 3 : Nat)])).run Tryd.prog w = .ok (decide (C = D)) w := by
  rw [eq_words]
  congr 1
  by_cases h : C = D
  · subst h; simp
  · rw [decide_eq_false h]
    cases h0 : ((wd C 0 : Nat) : Int) == (wd D 0 : Nat) <;> cases h1 : ((wd C 1 : Nat) : Int) == (wd D 1 : Nat) <;> cases h2 : ((wd C 2 : Nat) : Int) == (wd D 2 : Nat) <;> cases h3 : ((wd C 3 : Nat) : Int) == (wd D 3 : Nat) <;> try rfl
    simp at h0 h1 h2 h3
    exact absurd (class_ext C D hC hD (by omega) (by omega) (by omega) (by omega)) h
theorem Tryd.structTok : Tryd.prog.underlying 38 = some (.struct (Tryd.prog.fieldsOf 38)) := by kernel_rfl
theorem Tryd.plainTok : Tryd.prog.stoodInHeld 38 = false := by kernel_rfl
theorem Tryd.fieldsTok : (Tryd.prog.fieldsOf 38).toList.map (fun f => (f.name, f.type, f.offset)) = [("Kind", 3, 0), ("Text", 9, 1), ("Class", 36, 2), ("At", 3, 6)] := by kernel_rfl
theorem fields4 {l : List Field} {a b c d : String × TypeId × Nat} (h : l.map (fun f => (f.name, f.type, f.offset)) = [a, b, c, d]) :
    ∃ f g i j, l = [f, g, i, j] ∧ (f.name, f.type, f.offset) = a ∧ (g.name, g.type, g.offset) = b ∧ (i.name, i.type, i.offset) = c ∧ (j.name, j.type, j.offset) = d := by
  match l, h with
  | [f, g, i, j], h =>
    simp only [List.map_cons, List.map_nil, List.cons.injEq, and_true] at h
    exact ⟨f, g, i, j, rfl, h.1, h.2.1, h.2.2.1, h.2.2.2⟩
set_option maxRecDepth 100000 in
theorem eq_tok (a b : Tok) (ha : a.2.2.1 < 2 ^ 256) (hb : b.2.2.1 < 2 ^ 256) (w : World) :
    (Op.equalIn 10000 38 (tkv a) (tkv b)).run Tryd.prog w = .ok (decide (a = b)) w := by
  obtain ⟨k, T, C, p⟩ := a
  obtain ⟨k', T', C', p'⟩ := b
  obtain ⟨f, g, i, j, hl, h1, h2, h3, h4⟩ := fields4 Tryd.fieldsTok
  unfold tkv
  rw [run_equalIn_struct w 9999 _ _ _ Tryd.structTok Tryd.plainTok, hl]
  simp only [Prod.mk.injEq] at h1 h2 h3 h4
  have q1 : ∀ (x y z t u v s : Value) (w : World), (part 3 #[x, y, z, t, u, v, s] 0).run Tryd.prog w = .ok x w := fun _ _ _ _ _ _ _ _ => by kernel_rfl
  have q2 : ∀ (x y z t u v s : Value) (w : World), (part 9 #[x, y, z, t, u, v, s] 1).run Tryd.prog w = .ok y w := fun _ _ _ _ _ _ _ _ => by kernel_rfl
  have q3 : ∀ (x y z t u v s : Value) (w : World), (part 36 #[x, y, z, t, u, v, s] 2).run Tryd.prog w = .ok (.agg #[z, t, u, v]) w := fun _ _ _ _ _ _ _ _ => by kernel_rfl
  have q4 : ∀ (x y z t u v s : Value) (w : World), (part 3 #[x, y, z, t, u, v, s] 6).run Tryd.prog w = .ok s w := fun _ _ _ _ _ _ _ _ => by kernel_rfl
  have e1 : ∀ (x y : Int) (w : World), (Op.equalIn 9999 3 (.int .i64 x) (.int .i64 y)).run Tryd.prog w = .ok (x == y) w := fun x y w => run_equalIn_int w 9998 3 .i64 .i64 x y Tryd.underlying3
  have e2 : ∀ (x y : ByteArray) (w : World), (Op.equalIn 9999 9 (.string x) (.string y)).run Tryd.prog w = .ok (x.toList == y.toList) w := fun x y w => run_equalIn_string w 9998 9 x y Tryd.underlying9
  have e3 : ∀ w : World, (Op.equalIn 9999 36 (.agg #[.int .u64 (wd C 0 : Nat), .int .u64 (wd C 1 : Nat), .int .u64 (wd C 2 : Nat), .int .u64 (wd C 3 : Nat)]) (.agg #[.int .u64 (wd C' 0 : Nat), .int .u64 (wd C' 1 : Nat), .int .u64 (wd C' 2 : Nat), .int .u64 (wd C' 3 : Nat)])).run Tryd.prog w = .ok (decide (C = C')) w := eq_cls 9997 C C' ha hb
  have k1 : ("Kind" : String) ≠ "_" := by decide
  have k2 : ("Text" : String) ≠ "_" := by decide
  have k3 : ("Class" : String) ≠ "_" := by decide
  have k4 : ("At" : String) ≠ "_" := by decide
  simp only [Op.eqFields, h1.1, h1.2.1, h1.2.2, h2.1, h2.2.1, h2.2.2, h3.1, h3.2.1, h3.2.2, h4.1, h4.2.1, h4.2.2, if_pos k1, if_pos k2, if_pos k3, if_pos k4, Sem.run_bind, q1, e1, Result.andThen_ok]
  by_cases g1 : k = k'
  · subst g1
    by_cases g2 : T = T'
    · subst g2
      by_cases g3 : C = C'
      · subst g3
        by_cases g4 : p = p'
        · subst g4; simp [q2, q3, q4, e1, e2, e3]
        · have g5 : ¬ ((p : Int) = (p' : Int)) := by omega
          simp [q2, q3, q4, e1, e2, e3, g4, g5]
      · simp [q2, q3, e2, e3, g3]
    · have g6 := str_ne g2
      rw [beq_eq_false_iff_ne] at g6
      simp [q2, e2, g2, g6]
  · have g5 : ¬ ((k : Int) = (k' : Int)) := by omega
    simp [g1, g5]
end Go.Proofs.YtbdhgfblkgkekaaDoor
