/-
  What the functions over and joined of package syntax make in memory. Conditions: those that each theorem names.
-/
import Derived.Test.YtkofhmmnlapnnaaGreatDoorY3
namespace Go.Proofs.YtkofhmmnlapnnaaGreatDoor
open Go.RowKit
set_option linter.unusedVariables false
set_option maxRecDepth 100000 in
set_option maxHeartbeats 4000000 in
theorem yover_any (kd p B : Nat) (n : Nd) (c : List Value) (w : World) (hn : NdIs w (fun g => B ≤ g) n c) (hB : B ≤ w.heap.size) :
    Calls Tryz.prog 85 #[.int .i64 (kd : Int), .agg c.toArray, .int .i64 (p : Int)] w fun e w' => ∃ cs : List Value, e = .returned (.agg cs.toArray) ∧ Hid (NdIs w' (fun g => B ≤ g) (.mk kd { data := #[] } 0 [n] p) cs) ∧ Hid (Below w.heap.size w w') := by
  have HN : Hid (NdIs w (fun g => B ≤ g) n c) := hn
  obtain ⟨kd', T, C, subs, p'⟩ := n
  rw [NdIs] at hn
  obtain ⟨sv, rfl, _⟩ := hn
  dsimp only [n8]
  go_enter Tryz.func85, Tryz.ntmps85
  go_wp2_with fail
  (try simp only [Exit.inBlock, Exit.then])
  refine bodyPost_ret (v := .agg #[.int .i64 (kd : Int), .string { data := #[] }, .int .u64 0, .int .u64 0, .int .u64 0, .int .u64 0, .slice (some ⟨w.heap.size + 1 + 1, 0, none⟩) 1 1, .int .i64 (p : Int)]) (by simp [results, Tryz.results85, go_sem]) rfl ?_
  have h3 : ∀ a b c : Obj, Below w.heap.size w (((w.alloc a).alloc b).alloc c) := fun a b c => (((Below.refl _ _).alloc (Nat.le_refl _) _).alloc (by simp) _).alloc (by simp <;> omega) _
  refine ⟨n8 kd { data := #[] } 0 (.slice (some ⟨w.heap.size + 1 + 1, 0, none⟩) 1 1) p, by simp [wd_zero], hid ?_, hid (h3 _ _ _)⟩
  rw [NdIs]
  refine ⟨_, rfl, .inr ⟨rfl, w.heap.size + 1 + 1, 1, (n8 kd' T C sv p').toArray, rfl, by omega, new_block_at _ _ (by simp), by unfold maxLen; omega, ?_⟩⟩
  rw [NdsIs]
  exact ⟨n8 kd' T C sv p', [], by simp, HN.out.below (h3 _ _ _), by rw [NdsIs]; trivial⟩
theorem NdIs.weak {w : World} {P Q : Nat → Prop} {n : Nd} {c : List Value} (h : NdIs w P n c) (hpq : ∀ g, P g → Q g) : NdIs w Q n c := NdIs.kept (fun g cur hp _ => ⟨rfl, hpq g hp⟩) n c h
theorem NdsIs.weak {w : World} {P Q : Nat → Prop} {l : List Nd} {c : List Value} (h : NdsIs w P l c) (hpq : ∀ g, P g → Q g) : NdsIs w Q l c := NdsIs.kept (fun g cur hp _ => ⟨rfl, hpq g hp⟩) l c h
/-- A tree's place. -/
def Nd.at' : Nd → Nat
  | .mk _ _ _ _ p => p
def joinN (kd : Nat) (l : List Nd) : Nd := match l with
  | [n] => n
  | n :: r => .mk kd { data := #[] } 0 (n :: r) n.at'
  | [] => .mk kd { data := #[] } 0 [] 0
set_option maxRecDepth 100000 in
set_option maxHeartbeats 4000000 in
theorem yjoined_any (kd B g cap : Nat) (n : Nd) (r : List Nd) (xs : List Value) (w : World) (ho : w.ownsRow B 46 8 (.slice (some ⟨g, 0, none⟩) (r.length + 1) cap) (r.length + 1) xs) (hn : NdsIs w (fun g => B ≤ g) (n :: r) xs) (hB : B ≤ w.heap.size) (hr : r.length ≤ 100000) :
    Calls Tryz.prog 73 #[.int .i64 (kd : Int), .slice (some ⟨g, 0, none⟩) (r.length + 1) cap] w fun e w' => ∃ cs : List Value, e = .returned (.agg cs.toArray) ∧ Hid (NdIs w' (fun g => B ≤ g) (joinN kd (n :: r)) cs) ∧ Hid (Below w.heap.size w w') := by
  have HO : Hid (w.ownsRow B 46 8 (.slice (some ⟨g, 0, none⟩) (r.length + 1) cap) (r.length + 1) xs) := ho
  have HN : Hid (NdsIs w (fun g => B ≤ g) (n :: r) xs) := hn
  have hg := ho.lt g rfl
  rw [NdsIs] at hn
  obtain ⟨c, rest, rfl, h1, h2⟩ := hn
  have H1 : Hid (NdIs w (fun g => B ≤ g) n c) := h1
  have hc8 := h1.len
  obtain ⟨kd', T, C, subs, p'⟩ := n
  rw [NdIs] at h1
  obtain ⟨sv, rfl, hsv⟩ := h1
  obtain ⟨so, sl, sc, rfl⟩ : ∃ so sl sc, sv = .slice so sl sc := by
    rcases hsv with ⟨_, h⟩ | ⟨_, g1, c1, _, h, _⟩
    · exact ⟨_, _, _, h⟩
    · exact ⟨_, _, _, h⟩
  clear hsv
  have e : ∀ j u, (n8 kd' T C (.slice so sl sc) p')[j]? = some u → w.cell? ⟨g, j, none⟩ = some u := fun j u hj => by
    have hjl : j < (n8 kd' T C (.slice so sl sc) p').length := by
      rcases Nat.lt_or_ge j (n8 kd' T C (.slice so sl sc) p').length with h | h
      · exact h
      · rw [List.getElem?_eq_none h] at hj; cases hj
    have hjl2 : j < 8 := hjl
    rw [HO.out.cellAt j (by omega), List.getElem?_append_left hjl]
    exact hj
  have e0 := e 0 _ rfl
  have e1 := e 1 _ rfl
  have e2 := e 2 _ rfl
  have e3 := e 3 _ rfl
  have e4 := e 4 _ rfl
  have e5 := e 5 _ rfl
  have e6 := e 6 _ rfl
  have e7 := e 7 _ rfl
  clear e h2 ho
  obtain ⟨m, hm⟩ : ∃ m, m = r.length := ⟨_, rfl⟩
  have HM : Hid (m = r.length) := hm
  rw [← hm] at HO hr ⊢
  clear hm
  by_cases hm0 : m = 0
  · have hr0 : r = [] := List.eq_nil_of_length_eq_zero (by rw [← HM.out]; exact hm0)
    have HJ : Hid (joinN kd (.mk kd' T C subs p' :: r) = .mk kd' T C subs p') := by show _ = _; rw [hr0]; rfl
    clear hr0
    subst hm0
    go_enter Tryz.func73, Tryz.ntmps73
    go_wp2_with fail
    (try simp only [Exit.inBlock, Exit.then])
    refine bodyPost_ret (v := .agg (n8 kd' T C (.slice so sl sc) p').toArray) (by simp [results, Tryz.results73, go_sem]) rfl ?_
    have hb : ∀ o : Obj, Below w.heap.size w (w.alloc o) := fun o => (Below.refl _ _).alloc (Nat.le_refl _) _
    exact ⟨_, rfl, hid (by rw [HJ.out]; exact H1.out.below (hb _)), hid (hb _)⟩
  · have t1 : ((m : Int) + 1 == 1) = false := by simp; omega
    have HJ : Hid (joinN kd (.mk kd' T C subs p' :: r) = .mk kd { data := #[] } 0 (.mk kd' T C subs p' :: r) p') := by
      show _ = _
      cases r with
      | nil => exact absurd HM.out hm0
      | cons a b => rfl
    go_enter Tryz.func73, Tryz.ntmps73
    go_wp2_with fail
    (try simp only [Exit.inBlock, Exit.then])
    refine bodyPost_ret (v := .agg #[.int .i64 (kd : Int), .string { data := #[] }, .int .u64 0, .int .u64 0, .int .u64 0, .int .u64 0, .slice (some ⟨g, 0, none⟩) (m + 1) cap, .int .i64 (p' : Int)]) (by simp [results, Tryz.results73, go_sem]) rfl ?_
    have hb : ∀ o : Obj, Below w.heap.size w (w.alloc o) := fun o => (Below.refl _ _).alloc (Nat.le_refl _) _
    refine ⟨n8 kd { data := #[] } 0 (.slice (some ⟨g, 0, none⟩) (m + 1) cap) p', by simp [wd_zero], hid ?_, hid (hb _)⟩
    rw [HJ.out, NdIs]
    obtain ⟨_, ⟨hq, _⟩ | ⟨g', cap', cur, hq, _, hh, _, hc, _, ht⟩⟩ := HO.out
    · cases hq
    · cases hq
      refine ⟨_, rfl, .inr ⟨rfl, g, cap, cur, by rw [ndLen_eq, HM.out]; rfl, hg.1, (Below.heap_alloc w _ g hg.2).trans hh, hc, ?_⟩⟩
      have hx : NdsIs w (fun g => B ≤ g) (.mk kd' T C subs p' :: r) cur.toList := by
        rw [← List.take_append_drop ((m + 1) * 8) cur.toList, ht]
        exact NdsIs.more _ _ _ HN.out
      exact NdsIs.kept (fun g2 cur2 hp hg2 => ⟨(hb _).block g2 (by
        rcases Nat.lt_or_ge g2 w.heap.size with h | h
        · exact h
        · rw [Array.getElem?_eq_none h] at hg2; cases hg2), hp⟩) _ _ hx
end Go.Proofs.YtkofhmmnlapnnaaGreatDoor
