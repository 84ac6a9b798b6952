/-
  The sign of a byte, and what class.appendSign does. Conditions: those that each theorem names.
-/
import Derived.Test.YtcdkgcacmlolnaaDoorKRuns
namespace Go.Proofs.YtcdkgcacmlolnaaDoor
open Go.RowKit
set_option linter.unusedVariables false
def mark (b : Nat) : Bool := b == 91 || b == 93 || b == 92 || b == 45 || b == 94
def hexd (n : Nat) : Nat := if n < 10 then 48 + n else 87 + n
/-- The sign of a byte. -/
def sgn (b : Nat) : List Nat := if b = 10 then [92, 110] else if b = 13 then [92, 114] else if b = 9 then [92, 116] else if mark b then [92, b] else if 32 ≤ b ∧ b ≤ 126 then [b] else [92, 120, hexd (b / 16), hexd (b % 16)]
/-- Bytes in memory. -/
def nv (l : List Nat) : List Value := l.map fun (x : Nat) => Value.int .u8 (x : Int)
theorem nv_append (a b : List Nat) : nv (a ++ b) = nv a ++ nv b := List.map_append
theorem nv_length (a : List Nat) : (nv a).length = a.length := List.length_map ..
theorem nv_ok (l : List Nat) : ∀ u ∈ nv l, u.oneCell' = true := by
  intro u hu
  obtain ⟨x, _, rfl⟩ := List.mem_map.1 hu
  rfl
theorem nv_new (w : World) (l : List Nat) (t : TypeId) : ∀ j x, (nv l)[j]? = some x → (w.alloc (.cells (nv l).toArray t)).cell? ((⟨w.heap.size, 0, none⟩ : Addr).add j) = some x := by
  intro j x hj
  rw [Addr.add_lit, Nat.zero_add]
  simp only [World.cell?]
  show (match (w.heap.push (Obj.cells (nv l).toArray t))[w.heap.size]? with | some (.cells c _ _) => _ | _ => _) = _
  simp [hj]
/-- Whatever holds no bytes stays. -/
def NB (w w' : World) : Prop := w.heap.size ≤ w'.heap.size ∧ ∀ j, j < w.heap.size → (∀ cur, w.heap[j]? ≠ some (.cells cur 5 (0, 0))) → w'.heap[j]? = w.heap[j]?
theorem NB.trans {a b c : World} (h : NB a b) (k : NB b c) : NB a c :=
  ⟨Nat.le_trans h.1 k.1, fun j hj hn => (k.2 j (Nat.lt_of_lt_of_le hj h.1) (fun cur => by rw [h.2 j hj hn]; exact hn cur)).trans (h.2 j hj hn)⟩
theorem NB.refl (w : World) : NB w w := ⟨Nat.le_refl _, fun _ _ _ => rfl⟩
theorem NB.below {w w' : World} (h : Below w.heap.size w w') : NB w w' := ⟨h.size, fun j hj _ => h.block j hj⟩
theorem NB.alloc (w : World) (o : Obj) : NB w (w.alloc o) := .below ((Below.refl _ _).alloc (Nat.le_refl _) _)
theorem NB.grown {w w' : World} {base n : Nat} {v : Value} {xs : List Value} (ho : w.ownsRow base 5 1 v n xs) (hg : w.grownBy w' v.ownBlock) : NB w w' :=
  ⟨hg.size, fun j hj hn => hg.block j hj (fun e => by
    obtain ⟨_, ho | ⟨g, cap, cur, rfl, _, hh, _⟩⟩ := ho
    · rw [ho.1] at e; simp [Value.ownBlock] at e
    · simp [Value.ownBlock] at e
      subst e
      exact hn cur hh)⟩
theorem Tryd.infoByte : (Tryd.prog.info? 5).map (fun i => (i.zero, i.size, i.bytes)) = some (some (.int .u8 0), 1, 1) := by kernel_rfl
/-- What an append of bytes to a row of one's own leaves. -/
def App (base : Nat) (w : World) (n : Nat) (xs : List Value) (l : List Nat) (v' : Value) (w' : World) : Prop :=
  w'.ownsRow base 5 1 v' (n + l.length) (xs ++ nv l) ∧ Below base w w' ∧ NB w w'
set_option maxRecDepth 100000 in
set_option maxHeartbeats 1000000 in
theorem mark_any (b : Nat) (w : World) (hb : b < 256) :
    Calls Tryd.prog 44 #[.int .u8 (b : Int)] w fun e w' => e = .returned (.bool (mark b)) ∧ w' = w := by
  have h : ∀ n : Nat, ((b : Int) == (n : Int)) = (b == n) := fun n => by
    by_cases e : b = n
    · subst e; simp
    · rw [beq_false_of_ne e]; simp; omega
  have h1 : ((b : Int) == 91) = (b == 91) := h 91
  have h2 : ((b : Int) == 93) = (b == 93) := h 93
  have h3 : ((b : Int) == 92) = (b == 92) := h 92
  have h4 : ((b : Int) == 45) = (b == 45) := h 45
  have h5 : ((b : Int) == 94) = (b == 94) := h 94
  clear h
  unfold mark
  cases k1 : b == 91 <;> rw [k1] at h1 <;> cases k2 : b == 93 <;> rw [k2] at h2 <;> cases k3 : b == 92 <;> rw [k3] at h3 <;> cases k4 : b == 45 <;> rw [k4] at h4 <;> cases k5 : b == 94 <;> rw [k5] at h5
  all_goals
    go_enter Tryd.func44, Tryd.ntmps44
    go_wp2_with fail
    go_ret
    exact ⟨rfl, rfl⟩
set_option maxRecDepth 100000 in
set_option maxHeartbeats 1000000 in
theorem print_any (b : Nat) (w : World) (hb : b < 256) :
    Calls Tryd.prog 45 #[.int .u8 (b : Int)] w fun e w' => e = .returned (.bool (decide (32 ≤ b) && decide (b ≤ 126))) ∧ w' = w := by
  by_cases h1 : 32 ≤ b
  · have a1 : decide (32 ≤ (b : Int)) = true := by simp; omega
    by_cases h2 : b ≤ 126
    · have a2 : decide ((b : Int) ≤ 126) = true := by simp; omega
      rw [decide_eq_true h1, decide_eq_true h2]
      clear h1 h2
      go_enter Tryd.func45, Tryd.ntmps45
      go_wp2_with fail
      go_ret
      exact ⟨rfl, rfl⟩
    · have a2 : decide ((b : Int) ≤ 126) = false := by simp; omega
      rw [decide_eq_true h1, decide_eq_false h2]
      clear h1 h2
      go_enter Tryd.func45, Tryd.ntmps45
      go_wp2_with fail
      go_ret
      exact ⟨rfl, rfl⟩
  · have a1 : decide (32 ≤ (b : Int)) = false := by simp; omega
    rw [decide_eq_false h1]
    clear h1
    go_enter Tryd.func45, Tryd.ntmps45
    go_wp2_with fail
    go_ret
    exact ⟨rfl, rfl⟩
end Go.Proofs.YtcdkgcacmlolnaaDoor
