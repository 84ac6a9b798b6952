/-
  What Owned of the statements' own package does: rows that lie in blocks of their own may be written over, one without the other changing: it answers true, and writes into those blocks alone. Conditions: those that each theorem names.
-/
import Derived.Test.YtmddcdaodlnnhaaGreatDoorVPlainToMem
import Derived.Deep.QuietTactic
import Derived.BigQuiet
namespace Go.Proofs.YtmddcdaodlnnhaaGreatDoor
open Go.RowKit
set_option linter.unusedVariables false

/-- A row: the block that it fills (none: nil), its length, its capacity. -/
def rv (r : Option Nat × Nat × Nat) : Value := .slice (r.1.map fun g => (⟨g, 0, none⟩ : Addr)) r.2.1 r.2.2
def fv (i : Nat) : Value := .int .u8 (((i : Int) + 1) % 256)
def OB (w : World) (g c : Nat) : Prop := ∃ cur, w.heap[g]? = some (.cells cur 5 (0, 0)) ∧ cur.size = c
def Fill (w : World) (g c : Nat) (v : Value) (k : Nat) : Prop := ∃ cur, w.heap[g]? = some (.cells cur 5 (0, 0)) ∧ cur.size = c ∧ ∀ t, t < k → cur[t]? = some v
theorem Fill.ob {w : World} {g c k : Nat} {v : Value} (h : Fill w g c v k) : OB w g c := let ⟨cur, h1, h2, _⟩ := h; ⟨cur, h1, h2⟩
theorem OB.fill {w : World} {g c : Nat} (h : OB w g c) (v : Value) : Fill w g c v 0 := let ⟨cur, h1, h2⟩ := h; ⟨cur, h1, h2, fun t ht => absurd ht (by omega)⟩

structure Inv (w0 w : World) (rs : List (Option Nat × Nat × Nat)) (i : Nat) : Prop where
  os : w.os = w0.os
  tape : w.tape = w0.tape
  output : w.output = w0.output
  size : w0.heap.size ≤ w.heap.size
  blk : ∀ k, k < w0.heap.size → (∀ j (h : j < rs.length), rs[j].1 ≠ some k) → w.heap[k]? = w0.heap[k]?
  done : ∀ j (h : j < rs.length) g, j < i → rs[j].1 = some g → Fill w g rs[j].2.2 (fv j) rs[j].2.2
  todo : ∀ j (h : j < rs.length) g, i ≤ j → rs[j].1 = some g → OB w g rs[j].2.2
structure Rows4 (w : World) (b off : Nat) (rs : List (Option Nat × Nat × Nat)) : Prop where
  cell : ∀ j (h : j < rs.length), w.cell? ⟨b, off + j, none⟩ = some (rv rs[j])
  ob : ∀ j (h : j < rs.length) g, rs[j].1 = some g → OB w g rs[j].2.2
  fits : ∀ j (h : j < rs.length), rs[j].2.1 ≤ rs[j].2.2 ∧ rs[j].2.2 ≤ 9223372036854775807 ∧ (rs[j].1 = none → rs[j].2.2 = 0)
  apart : ∀ i j (h1 : i < rs.length) (h2 : j < rs.length) g, i ≠ j → rs[i].1 = some g → rs[j].1 ≠ some g
  off : ∀ j (h : j < rs.length), rs[j].1 ≠ some b
theorem Inv.start {w : World} {b off : Nat} {rs : List (Option Nat × Nat × Nat)} (h : Rows4 w b off rs) : Inv w w rs 0 :=
  ⟨rfl, rfl, rfl, Nat.le_refl _, fun _ _ _ => rfl, fun j hj g h0 => absurd h0 (by omega), fun j hj g _ e => h.ob j hj g e⟩
theorem Inv.drewN {w0 w : World} {rs : List (Option Nat × Nat × Nat)} {i : Nat} (h : Inv w0 w rs i) (q : Nat) : Inv w0 (w.drewN q) rs i :=
  ⟨h.os, h.tape, h.output, h.size, h.blk, h.done, h.todo⟩
theorem Inv.next {w0 w : World} {rs : List (Option Nat × Nat × Nat)} {i : Nat} (h : Inv w0 w rs i) (hi : i < rs.length) (hf : ∀ g, rs[i].1 = some g → Fill w g rs[i].2.2 (fv i) rs[i].2.2) : Inv w0 w rs (i + 1) := by
  refine ⟨h.os, h.tape, h.output, h.size, h.blk, fun j hj g hlt e => ?_, fun j hj g hle e => h.todo j hj g (by omega) e⟩
  rcases Nat.lt_or_ge j i with h1 | h1
  · exact h.done j hj g h1 e
  · obtain rfl : j = i := by omega
    exact hf g e
theorem Inv.store {w0 w : World} {b off : Nat} {rs : List (Option Nat × Nat × Nat)} {i g k : Nat} (hr : Rows4 w0 b off rs) (h : Inv w0 w rs i) (hi : i < rs.length) (hg : rs[i].1 = some g) (hf : Fill w g rs[i].2.2 (fv i) k) (hk : k < rs[i].2.2) :
    Inv w0 (w.setCell ⟨g, k, none⟩ (fv i)) rs i ∧ Fill (w.setCell ⟨g, k, none⟩ (fv i)) g rs[i].2.2 (fv i) (k + 1) := by
  obtain ⟨cur, h1, h2, h3⟩ := hf
  have hs := heap_setCell_same w g k cur 5 (fv i) h1
  have ho : ∀ x, x ≠ g → (w.setCell ⟨g, k, none⟩ (fv i)).heap[x]? = w.heap[x]? := fun x hx => Below.heap_setCell _ _ _ _ hx
  have hfill : Fill (w.setCell ⟨g, k, none⟩ (fv i)) g rs[i].2.2 (fv i) (k + 1) := by
    refine ⟨_, hs, by simpa using h2, fun t ht => ?_⟩
    rw [Array.getElem?_setIfInBounds]
    by_cases e : k = t
    · subst e
      simp [h2, hk]
    · simp [e, h3 t (by omega)]
  refine ⟨⟨h.os, h.tape, h.output, by simpa [World.setCell] using h.size, fun x hx hne => ?_, fun j hj g' hlt e => ?_, fun j hj g' hle e => ?_⟩, hfill⟩
  · rw [ho x (fun e => hne i hi (by rw [hg, e]))]
    exact h.blk x hx hne
  · have hgg : g' ≠ g := fun e2 => hr.apart j i hj hi g' (by omega) e (by rw [hg, e2])
    obtain ⟨c', a1, a2, a3⟩ := h.done j hj g' hlt e
    exact ⟨c', (ho g' hgg).trans a1, a2, a3⟩
  · by_cases e3 : g' = g
    · subst e3
      have : j = i := by
        rcases Nat.lt_trichotomy j i with q | q | q
        · exact absurd hg (hr.apart j i hj hi g' (by omega) e)
        · exact q
        · exact absurd hg (hr.apart j i hj hi g' (by omega) e)
      subst this
      exact hfill.ob
    · obtain ⟨c', a1, a2⟩ := h.todo j hj g' hle e
      exact ⟨c', (ho g' e3).trans a1, a2⟩
theorem Inv.cell {w0 w : World} {b off : Nat} {rs : List (Option Nat × Nat × Nat)} {i : Nat} (hr : Rows4 w0 b off rs) (h : Inv w0 w rs i) (j : Nat) (hj : j < rs.length) : w.cell? ⟨b, off + j, none⟩ = some (rv rs[j]) := by
  have h0 := hr.cell j hj
  have hb : b < w0.heap.size := by
    rcases Nat.lt_or_ge b w0.heap.size with h1 | h1
    · exact h1
    · simp [World.cell?, Array.getElem?_eq_none h1] at h0
  have := h.blk b hb hr.off
  rw [← h0]
  exact World.cell?_of_block (w := w0) this

theorem Fill.at {w : World} {g c k : Nat} {v : Value} (h : Fill w g c v k) (t : Nat) (ht : t < c) : ∃ u, w.cell? ⟨g, t, none⟩ = some u := by
  obtain ⟨cur, h1, h2, _⟩ := h
  exact ⟨cur[t]'(by omega), by simp [World.cell?, h1, show t < cur.size by omega]⟩
theorem Fill.free {w : World} {g c k : Nat} {v : Value} (h : Fill w g c v k) (t : Nat) : w.frozen? ⟨g, t, none⟩ = false := by
  obtain ⟨cur, h1, h2, _⟩ := h
  simp [World.frozen?, h1]
theorem Fill.val {w : World} {g c k : Nat} {v : Value} (h : Fill w g c v k) (t : Nat) (ht : t < k) : w.cell? ⟨g, t, none⟩ = some v := by
  obtain ⟨cur, h1, h2, h3⟩ := h
  simp [World.cell?, h1, h3 t ht]
theorem val_bool5 {a b : Bool} (h : a = b) : Value.bool a = .bool b := by rw [h]

set_option maxRecDepth 100000 in
set_option maxHeartbeats 4000000 in
theorem owned_any (b off cap n : Nat) (rs : List (Option Nat × Nat × Nat)) (w : World) (hr : Rows4 w b off rs) (hl : rs.length = n) (hn : n ≤ 1073741824) :
    Calls Tryz.prog 13 #[.slice (some ⟨b, off, none⟩) n cap] w fun e w' => e = .returned (.bool true) ∧ Inv w w' rs n := by
  have HR : Hid (Rows4 w b off rs) := hr
  have HL : Hid (rs.length = n) := hl
  clear hr hl
  have hn' : (n : Int) ≤ 1073741824 := by omega
  go_enter Tryz.func13, Tryz.ntmps13
  go_wp2_with fail
  go_loopw [3] (fun i wr => ∃ j : Nat, j ≤ n ∧ i = .int .i64 (j : Int) ∧ Hid (Inv w wr rs j)) (fun i _ => n - (intOf i).toNat)
  case atStart => exact ⟨0, Nat.zero_le _, rfl, Inv.start HR.out⟩
  case round =>
    obtain ⟨j, hj, rfl, HI⟩ := hrel
    by_cases hjn : j < n
    · have hjn' : (j : Int) < (n : Int) := by omega
      have hjr : j < rs.length := by rw [HL.out]; exact hjn
      have hcell := HI.out.cell HR.out j hjr
      have hfit := HR.out.fits j hjr
      have HF0 : Hid (∀ q g, rs[j].1 = some g → Fill (wr.drewN q) g rs[j].2.2 (fv j) 0) := fun q g e => OB.fill ((HI.out.drewN q).todo j hjr g (Nat.le_refl _) e) _
      have HST : Hid (∀ w2 g k, Inv w w2 rs j → rs[j].1 = some g → Fill w2 g rs[j].2.2 (fv j) k → k < rs[j].2.2 → Inv w (w2.setCell ⟨g, k, none⟩ (fv j)) rs j ∧ Fill (w2.setCell ⟨g, k, none⟩ (fv j)) g rs[j].2.2 (fv j) (k + 1)) := fun w2 g k h1 h2 h3 h4 => Inv.store HR.out h1 hjr h2 h3 h4
      have HNX : Hid (∀ w2, Inv w w2 rs j → (∀ g, rs[j].1 = some g → Fill w2 g rs[j].2.2 (fv j) rs[j].2.2) → Inv w w2 rs (j + 1)) := fun w2 h1 h2 => h1.next hjr h2
      obtain ⟨o, l, c, hrj⟩ : ∃ o l c, rs[j] = (o, l, c) := ⟨_, _, _, rfl⟩
      rw [hrj] at hcell hfit HF0 HST HNX
      simp only at hfit HF0 HST HNX
      unfold rv at hcell
      simp only at hcell
      clear hrj
      obtain ⟨hf1, hf2, hf3⟩ := hfit
      cases o with
      | none =>
        have hc0 : c = 0 := hf3 rfl
        have hl0 : l = 0 := by omega
        subst hc0
        subst hl0
        simp only [Option.map_none] at hcell
        clear hf3 HST HF0
        go_wp2_with fail
        go_quiet (fail)
        go_wp2_with fail
        refine wp_loop_rounds 1 ?_
        rw [rounds_succ]
        go_wp2
        go_roundw
        case rel => exact ⟨j + 1, by omega, by go_num, HNX.out _ (HI.out.drewN _) (fun g e => by cases e)⟩
        case measure => simp [intOf]; omega
      | some g =>
        simp only [Option.map_some] at hcell
        clear hf3
        have hcc : (c : Int) ≤ 9223372036854775807 := by omega
        go_wp2_with fail
        go_quiet (fail)
        go_wp2_with fail
        go_loopw [5] (fun k w2 => ∃ t : Nat, t ≤ c ∧ k = .int .i64 (t : Int) ∧ Hid (Inv w w2 rs j) ∧ Hid (Fill w2 g c (fv j) t)) (fun k _ => c - (intOf k).toNat)
        case atStart => exact ⟨0, Nat.zero_le _, rfl, HI.out.drewN _, HF0.out _ g rfl⟩
        case round =>
          obtain ⟨t, ht, rfl, HI2, HF2⟩ := hrel
          by_cases htc : t < c
          · have htc' : (t : Int) < (c : Int) := by omega
            obtain ⟨u, hu⟩ := HF2.out.at t htc
            have hfr := HF2.out.free t
            have HS2 := HST.out _ g t HI2.out rfl HF2.out htc
            have HS3 : Hid _ := HS2
            clear HS2 hcell
            go_wp2
            go_roundw
            case rel => exact ⟨t + 1, by omega, by go_num, HS3.out.1, HS3.out.2⟩
            case measure => simp [intOf]; omega
          · obtain rfl : c = t := by omega
            clear hcell
            go_wp2
            go_roundw
            case rel => exact ⟨j + 1, by omega, by go_num, HNX.out _ HI2.out (fun g2 e => by cases e; exact HF2.out)⟩
            case measure => simp [intOf]; omega
    · obtain rfl : n = j := by omega
      go_wp2_with fail
      go_loopw [6] (fun i w2 => ∃ j : Nat, j ≤ n ∧ i = .int .i64 (j : Int) ∧ Hid (Inv w w2 rs n)) (fun i _ => n - (intOf i).toNat)
      case atStart => exact ⟨0, Nat.zero_le _, rfl, HI⟩
      case round =>
        obtain ⟨j, hj2, rfl, HI2⟩ := hrel
        by_cases hjn2 : j < n
        · have hjn' : (j : Int) < (n : Int) := by omega
          have hjr : j < rs.length := by rw [HL.out]; exact hjn2
          have hcell := HI2.out.cell HR.out j hjr
          have hfit := HR.out.fits j hjr
          have HD : Hid (∀ q g, rs[j].1 = some g → Fill (wr.drewN q) g rs[j].2.2 (fv j) rs[j].2.2) := fun q g e => (HI2.out.drewN q).done j hjr g hjn2 e
          obtain ⟨o, l, c, hrj⟩ : ∃ o l c, rs[j] = (o, l, c) := ⟨_, _, _, rfl⟩
          rw [hrj] at hcell hfit HD
          simp only at hfit HD
          unfold rv at hcell
          simp only at hcell
          clear hrj
          obtain ⟨hf1, hf2, hf3⟩ := hfit
          cases o with
          | none =>
            have hc0 : c = 0 := hf3 rfl
            have hl0 : l = 0 := by omega
            subst hc0
            subst hl0
            simp only [Option.map_none] at hcell
            clear hf3 HD
            go_wp2_with fail
            go_quiet (fail)
            go_wp2_with fail
            refine wp_loop_rounds 1 ?_
            rw [rounds_succ]
            go_wp2
            go_roundw
            case rel => exact ⟨j + 1, by omega, by go_num, HI2.out.drewN _⟩
            case measure => simp [intOf]; omega
          | some g =>
            simp only [Option.map_some] at hcell
            clear hf3
            have hcc : (c : Int) ≤ 9223372036854775807 := by omega
            go_wp2_with fail
            go_quiet (fail)
            go_wp2_with fail
            go_loop [8] (fun k => ∃ t : Nat, t ≤ c ∧ k = .int .i64 (t : Int)) (fun k => c - (intOf k).toNat)
            case atStart => exact ⟨0, Nat.zero_le _, rfl⟩
            case round =>
              obtain ⟨t, ht, rfl⟩ := hrel
              by_cases htc : t < c
              · have htc' : (t : Int) < (c : Int) := by omega
                have hv := (HD.out 0 g rfl).val t htc
                unfold fv at hv
                have hv2 : wr.cell? ⟨g, t, none⟩ = some (.int .u8 (((j : Int) + 1) % 256)) := by simpa using hv
                clear hv hcell
                go_wp2
                go_round
                case rel => exact ⟨t + 1, by omega, by go_num⟩
                case measure => simp [intOf]; omega
              · clear hcell
                go_wp2
                go_roundw
                case rel => exact ⟨j + 1, by omega, by go_num, HI2.out.drewN _⟩
                case measure => simp [intOf]; omega
        · go_wp2
          go_ret
          exact ⟨rfl, HI2.out⟩
end Go.Proofs.YtmddcdaodlnnhaaGreatDoor
