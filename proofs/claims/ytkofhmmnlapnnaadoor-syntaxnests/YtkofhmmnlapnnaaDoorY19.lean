/-
  muntinlaw04.SyntaxNests answers true, whatever its argument. Conditions: those that each theorem names.
-/
import Derived.Test.YtkofhmmnlapnnaaDoorY18
import Derived.Laws.BitsLemmas
import Derived.Laws.Bits128
import Derived.Laws.Strings
namespace Go.Proofs.YtkofhmmnlapnnaaDoor
open Go.RowKit
set_option linter.unusedVariables false
theorem i64_and31 (n : Int) : bits .and .i64 n 31 = n % 32 := by
  have h127 : (BitVec.ofInt 64 31).toNat = 2 ^ 5 - 1 := by decide
  have key : (BitVec.ofInt 64 n &&& BitVec.ofInt 64 31).toNat = (n % ((2 ^ 64 : Nat) : Int)).toNat % 2 ^ 5 := by
    rw [BitVec.toNat_and, BitVec.toNat_ofInt, h127, Nat.and_two_pow_sub_one_eq_mod]
  show IntKind.i64.wrap ((BitVec.ofInt 64 n &&& BitVec.ofInt 64 31).toNat : Nat) = n % 32
  rw [key, IntKind.wrap_i64]
  omega
theorem nbY_append (a b : List Nat) : nb (a ++ b) = nb a ++ nb b := by
  apply ByteArray.ext
  simp [nb]
def nA (j : Nat) : ByteArray := nb ([97, 32, 60, 45, 32] ++ List.replicate j 40)
def nB (n j : Nat) : ByteArray := nb ([97, 32, 60, 45, 32] ++ (List.replicate n 40 ++ ([39, 120, 39] ++ List.replicate j 41)))
theorem nA_zero : nA 0 = { data := #[97, 32, 60, 45, 32] } := by kernel_rfl
theorem nA_succ (j : Nat) : nA j ++ { data := #[40] } = nA (j + 1) := by
  unfold nA
  rw [List.replicate_succ', ← List.append_assoc, nbY_append (_ ++ _) [40]]
  rfl
theorem nB_zero (n : Nat) : nA n ++ { data := #[39, 120, 39] } = nB n 0 := by
  unfold nA nB
  rw [show ([97, 32, 60, 45, 32] ++ (List.replicate n 40 ++ ([39, 120, 39] ++ List.replicate 0 41)) : List Nat) = ([97, 32, 60, 45, 32] ++ List.replicate n 40) ++ [39, 120, 39] by simp, nbY_append (_ ++ _) [39, 120, 39]]
  rfl
theorem nB_succ (n j : Nat) : nB n j ++ { data := #[41] } = nB n (j + 1) := by
  unfold nB
  rw [List.replicate_succ', show ([97, 32, 60, 45, 32] ++ (List.replicate n 40 ++ ([39, 120, 39] ++ (List.replicate j 41 ++ [41]))) : List Nat) = ([97, 32, 60, 45, 32] ++ (List.replicate n 40 ++ ([39, 120, 39] ++ List.replicate j 41))) ++ [41] by simp, nbY_append (_ ++ _) [41]]
  rfl
theorem nA_size (j : Nat) : (nA j).size = 5 + j := by unfold nA; rw [nb_size]; simp; omega
theorem nB_size (n j : Nat) : (nB n j).size = 8 + n + j := by unfold nB; rw [nb_size]; simp; omega
theorem nst_le (n : Nat) (h : n ≤ 24) : ∃ N T C subs q, parS (nst n) = .inr [(N, .mk 2 T C subs (5 + n), q)] := by
  have hb := nst_all n (by omega)
  unfold nstB at hb
  split at hb
  · rename_i x hx
    obtain ⟨N, ⟨kd, T, C, subs, p⟩, q⟩ := x
    simp [Nd.kd, Nd.at'] at hb
    exact ⟨N, T, C, subs, q, by rw [hx, hb.2.1, hb.2.2]⟩
  · simp at hb; omega
  · cases hb
theorem nst_gt (n : Nat) (h : 24 < n) (h2 : n < 32) : parS (nst n) = .inl (2, 29) := by
  have hb := nst_all n h2
  unfold nstB at hb
  split at hb
  · simp at hb; omega
  · rename_i c hx
    simp at hb
    rw [hx]
    obtain ⟨c1, c2⟩ := c
    simp at hb
    rw [hb.2.1, hb.2.2]
  · cases hb
theorem add_str {a b c : ByteArray} (h : a ++ b = c) (hl : a.size + b.size ≤ 100000) (w : World) : (Op.stringOp .add a b).run Tryd.prog w = .ok (.string c) w := by
  rw [← h]
  exact run_string_add_sum w a b (by omega)
set_option maxRecDepth 100000 in
set_option maxHeartbeats 8000000 in
theorem ynests_any (a : Int) (w : World) (h : ErrIs w) : Calls Tryd.prog 5 #[.int .i64 a] w fun e w' => e = .returned (.bool true) ∧ Below w.heap.size w w' := by
  have HSm := hid (ysmall_ok w h)
  obtain ⟨n, hn⟩ : ∃ n : Nat, n = (a % 32).toNat := ⟨_, rfl⟩
  have hbits : bits .and .i64 a 31 = (n : Int) := by rw [i64_and31]; omega
  have hn32 : n < 32 := by omega
  have HE : Hid (ErrIs w) := h
  have HS : Hid (nB n n = nst n) := rfl
  obtain ⟨X, hX⟩ : ∃ X, X = parS (nst n) := ⟨_, rfl⟩
  have HX : Hid (X = parS (nst n)) := hX
  have HPar : Hid (∀ w : World, ErrIs w → Calls Tryd.prog 8 #[.string (nB n n)] w fun e w' => AnsD X w e w') := fun w h => by rw [hX]; exact yparse_any (nst n) w h (by rw [← HS.out, nB_size]; omega)
  clear hn h hX
  go_enter Tryd.func5, Tryd.ntmps5
  go_wp2_with fail
  refine HSm.out.mono ?_
  rintro e w1 ⟨rfl, HB1⟩
  clear HSm
  go_wp2_with fail
  go_loop [5, 6] (fun s i => ∃ j : Nat, j ≤ n ∧ i = .int .i64 (j : Int) ∧ s = .string (nA j)) (fun _ i => n - (intOf i).toNat)
  case atStart => exact ⟨0, Nat.zero_le _, rfl, by rw [nA_zero]⟩
  case round =>
    obtain ⟨j, hj, rfl, rfl⟩ := hrel
    by_cases hjn : j < n
    · have a0 : decide ((j : Int) < (n : Int)) = true := by simp; omega
      have hadd := add_str (nA_succ j) (by rw [nA_size]; show _ + 1 ≤ _; omega)
      have hjI : (j : Int) + 1 < 9223372036854775807 := by omega
      go_wp2_with fail
      go_round
      case rel => exact ⟨j + 1, by omega, by simp, rfl⟩
      case measure => simp [intOf]; omega
    · have hjn' : j = n := by omega
      subst hjn'
      clear hjn hj
      have hadd := add_str (nB_zero j) (by rw [nA_size]; show _ + 3 ≤ _; omega)
      go_wp2_with fail
      go_loop [5, 7] (fun s i => ∃ k : Nat, k ≤ j ∧ i = .int .i64 (k : Int) ∧ s = .string (nB j k)) (fun _ i => j - (intOf i).toNat)
      case atStart => exact ⟨0, Nat.zero_le _, rfl, rfl⟩
      case round =>
        obtain ⟨k, hk, rfl, rfl⟩ := hrel
        clear hadd
        by_cases hkn : k < j
        · have a0 : decide ((k : Int) < (j : Int)) = true := by simp; omega
          have hadd := add_str (nB_succ j k) (by rw [nB_size]; show _ + 1 ≤ _; omega)
          have hjI : (k : Int) + 1 < 9223372036854775807 := by omega
          go_wp2_with fail
          go_round
          case rel => exact ⟨k + 1, by omega, by simp, rfl⟩
          case measure => simp [intOf]; omega
        · have hkn' : k = j := by omega
          subst hkn'
          clear hkn hk
          go_wp2_with fail
          refine (HPar.out _ (HE.out.below HB1.out HE.out.lt)).mono ?_
          rintro e w2 hA
          rcases Nat.lt_or_ge 24 k with h24 | h24
          · rw [HX.out.trans (nst_gt k h24 hn32)] at hA
            obtain ⟨f, rfl, HP⟩ := hA
            have HB2 : Hid (Below w.heap.size w w2) := HB1.out.trans (HP.out.2.2.mono HB1.out.size)
            have HF2 : Hid (Flt w2 f (2, 29)) := HP.out.2.1
            have HC := hid (code_fault f 2 29 (w2.alloc Zg) (HE.out.below (HB2.out.alloc HB2.out.size _) HE.out.lt) ((Below.heap_alloc w2 Zg f HF2.out.lt).trans HF2.out))
            have t24 : decide ((24 : Int) < (k : Int)) = true := by simp; omega
            clear HP HPar HS
            unfold flv
            go_wp2_with fail
            refine HC.out.mono ?_
            rintro e w3 ⟨rfl, hb3⟩
            have HB3 : Hid (Below w.heap.size w w3) := (HB2.out.alloc HB2.out.size Zg).trans (hb3.mono (by have := HB2.out.size; simp; omega))
            have HF3 : Hid (Flt w3 f (2, 29)) := (hb3.block f (by have := HF2.out.lt; simp; omega)).trans ((Below.heap_alloc w2 Zg f HF2.out.lt).trans HF2.out)
            have HK3 : Hid (w3.heap[w2.heap.size]? = some Zg) := (hb3.block _ (by simp)).trans (new_block_at w2 _ rfl)
            have HC3 := hid (at_fault f 2 29 w3 (HE.out.below HB3.out HE.out.lt) HF3.out)
            clear hb3 HC HB2 HF2
            go_wp2_with fail
            refine HC3.out.mono ?_
            rintro e w4 ⟨rfl, hb4⟩
            have HB4 : Hid (Below w.heap.size w w4) := HB3.out.trans (hb4.mono HB3.out.size)
            have k0 : w4.cell? ⟨w2.heap.size, 0, none⟩ = some (.slice none 0 0) := (one_cell ((hb4.block _ (node_lt HK3.out)).trans HK3.out)).1
            clear hb4 HC3 HB3 HF3 HK3
            go_wp2_with fail
            go_ret
            exact ⟨rfl, HB4.out⟩
          · obtain ⟨N, T, C, subs, q, hp⟩ := nst_le k h24
            rw [HX.out.trans hp] at hA
            clear hp
            obtain ⟨g, cap, rfl, HR, HB2⟩ := hA
            have hl2 : ∀ a : Rl, [a].length = 1 := fun _ => rfl
            rw [hl2] at HR ⊢
            have HB3 := hid (fun o : Obj => (HB1.out.trans (HB2.out.mono HB1.out.size)).alloc (Nat.le_trans HB1.out.size HB2.out.size) o)
            obtain ⟨c, h1, h2⟩ := HR.out.get 0 (by simp)
            obtain ⟨sv, rfl⟩ := h1.is
            have d0 : w2.cell? ⟨g, 1, none⟩ = some (.int .i64 2) := h2 1 _ rfl
            have d1 : w2.cell? ⟨g, 8, none⟩ = some (.int .i64 ((5 + k : Nat) : Int)) := h2 8 _ rfl
            rw [show (((5 + k : Nat)) : Int) = 5 + (k : Int) by omega] at d1
            have hgl : g < w2.heap.size := by obtain ⟨xs, h1, _⟩ := HR.out; exact (h1.lt g rfl).2
            have t24 : decide ((24 : Int) < (k : Int)) = false := by simp; omega
            clear h1 h2 HR HB2 HB1 hl2 HPar HS
            go_wp2_with fail
            go_ret
            exact ⟨rfl, HB3.out _⟩
end Go.Proofs.YtkofhmmnlapnnaaDoor
