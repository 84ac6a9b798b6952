/-
  What New, Down, Arm, refuses, find, modulo of package disk answer. Conditions: those that each theorem names.
  The sorted names of a map of files. Conditions: those that each theorem names.
-/
import Derived.Test.YtmddcdaodlnnhaaGreatDoorVDKD
import Derived.Shelf.SlIter.Nil
import Derived.Shelf.SortM.Plain
import Derived.Shelf.SortM.SortNone
import Derived.Ground.GgzProg
import Derived.Ground.SlgmProg
namespace Go.Proofs.YtmddcdaodlnnhaaGreatDoor
open Go.RowKit Go.Maps
set_option linter.unusedVariables false
def inI (x : Int) : Prop := -9223372036854775808 ≤ x ∧ x ≤ 9223372036854775807
theorem mkmapF (w : World) : (Instr.makeMap 57 none).run Tryz.prog w = .ok (.map (some w.heap.size)) (w.alloc (.map #[] 0)) := by kernel_rfl
theorem dknew_ok (m : Nat) (w : World) (hm : m ≤ w.heap.size) : Calls Tryz.prog 8 #[] w fun e w' => ∃ d B, e = .returned (.pointer (some ⟨d, 0, none⟩)) ∧ Dk m 0 w' d B [] false false 0 0 ∧ w.heap.size ≤ d ∧ w.heap.size ≤ B ∧ Below w.heap.size w w' := by
  obtain ⟨w1, hw1⟩ : ∃ w1, w1 = w.alloc (.map #[] 0) := ⟨_, rfl⟩
  have hb1 : Below w.heap.size w w1 := by rw [hw1]; exact below_al w _
  have hm1 : TM w1 w.heap.size [] := by rw [hw1]; exact TM.made w
  have hs1 : w1.heap.size = w.heap.size + 1 := by rw [hw1]; simp
  obtain ⟨w2, hw2⟩ : ∃ w2, w2 = w1.alloc (.cells #[.map (some w.heap.size), .bool false, .bool false, .int .i64 0, .int .i64 0] 59) := ⟨_, rfl⟩
  have hb2 : Below w1.heap.size w1 w2 := by rw [hw2]; exact below_al w1 _
  have hT : Dk m 0 w2 (w.heap.size + 1) w.heap.size [] false false 0 0 := ⟨by rw [hw2, ← hs1]; exact new_block_at w1 _ rfl, hm1.same (hb2.block _ hm1.lt), by omega, hm, by simp, by simp, by simp, by simp⟩
  have HT := hid (And.intro hT (hb1.trans (hb2.mono hb1.size)))
  have HW : Hid (w2 = (w.alloc (.map #[] 0)).alloc (.cells #[.map (some w.heap.size), .bool false, .bool false, .int .i64 0, .int .i64 0] 59)) := by rw [hw2, hw1]; exact rfl
  clear hb1 hm1 hs1 hb2 hT hw1 hw2
  go_enter Tryz.func8, Tryz.ntmps8
  have hmk := mkmapF
  go_wp2_with fail
  go_ret
  rw [← HW.out]
  exact ⟨_, _, rfl, HT.out.1, by omega, Nat.le_refl _, HT.out.2⟩
theorem five_cells {w : World} {d B : Nat} {off arm : Bool} {ah pa : Int} (h : w.heap[d]? = some (.cells #[.map (some B), .bool off, .bool arm, .int .i64 ah, .int .i64 pa] 59)) :
    (w.cell? ⟨d, 0, none⟩ = some (.map (some B)) ∧ w.cell? ⟨d, 1, none⟩ = some (.bool off) ∧ w.cell? ⟨d, 2, none⟩ = some (.bool arm) ∧ w.cell? ⟨d, 3, none⟩ = some (.int .i64 ah) ∧ w.cell? ⟨d, 4, none⟩ = some (.int .i64 pa)) ∧
    (w.frozen? ⟨d, 0, none⟩ = false ∧ w.frozen? ⟨d, 1, none⟩ = false ∧ w.frozen? ⟨d, 2, none⟩ = false ∧ w.frozen? ⟨d, 3, none⟩ = false ∧ w.frozen? ⟨d, 4, none⟩ = false) :=
  ⟨⟨(cell_in h 0 _ rfl).1, (cell_in h 1 _ rfl).1, (cell_in h 2 _ rfl).1, (cell_in h 3 _ rfl).1, (cell_in h 4 _ rfl).1⟩, (cell_in h 0 _ rfl).2, (cell_in h 1 _ rfl).2, (cell_in h 2 _ rfl).2, (cell_in h 3 _ rfl).2, (cell_in h 4 _ rfl).2⟩
section
variable {m T : Nat} {w w' : World} {d B : Nat} {fs : List Fx} {off arm : Bool} {ah pa : Int}
theorem down_ok (h : Dk m T w d B fs off arm ah pa) : Calls Tryz.prog 14 #[.pointer (some ⟨d, 0, none⟩)] w fun e w' => e = .returned (.bool off) ∧ w' = w := by
  obtain ⟨c1, f1⟩ := cell_in h.blk 1 _ rfl
  have hlt := node_lt h.blk
  clear h
  go_enter Tryz.func14, Tryz.ntmps14
  go_wp2_with fail
  go_ret
  exact ⟨rfl, rfl⟩
set_option maxRecDepth 100000 in
set_option maxHeartbeats 2000000 in
theorem modulo_ok (n k : Int) (w : World) (hn : inI n) (hk : 0 < k) (hk2 : k ≤ 2305843009213693952) : Calls Tryz.prog 34 #[.int .i64 n, .int .i64 k] w fun e w' => e = .returned (.int .i64 (n % k)) ∧ w' = w := by
  unfold inI at hn
  have a0 : ¬ (k = 0) := by omega
  have t1 := Int.tmod_lt_of_pos n hk
  have t2 : -k < n.tmod k := by
    have := Int.lt_tmod_of_pos n hk
    omega
  have e2 : IntKind.i64.wrap (n.tmod k + k) = n.tmod k + k := by rw [IntKind.wrap_i64]; omega
  have H3 : Hid ((n.tmod k + k).tmod k = n % k) := by
    show _ = _
    rw [Int.tmod_eq_emod_of_nonneg (by omega), Int.add_emod_right]
    have h2 : n.tmod k = n - k * n.tdiv k := by have h1 := Int.tmod_add_mul_tdiv n k; omega
    rw [h2, Int.sub_mul_emod_self_left]
  clear t1 t2 hn hk2
  go_enter Tryz.func34, Tryz.ntmps34
  go_wp2_with fail
  go_ret
  refine ⟨?_, rfl⟩
  show Ending.returned (Value.int .i64 ((n.tmod k + k).tmod k)) = _
  rw [H3.out]
set_option maxRecDepth 100000 in
set_option maxHeartbeats 2000000 in
theorem rdmod_ok (n k : Int) (w : World) (hn : inI n) (hk : 0 < k) (hk2 : k ≤ 2305843009213693952) : Calls Tryz.prog 47 #[.int .i64 n, .int .i64 k] w fun e w' => e = .returned (.int .i64 (n % k)) ∧ w' = w := by
  unfold inI at hn
  have a0 : ¬ (k = 0) := by omega
  have t1 := Int.tmod_lt_of_pos n hk
  have t2 : -k < n.tmod k := by
    have := Int.lt_tmod_of_pos n hk
    omega
  have h2 : n.tmod k = n - k * n.tdiv k := by have h1 := Int.tmod_add_mul_tdiv n k; omega
  have h3 : (n.tmod k) % k = n % k := by rw [h2, Int.sub_mul_emod_self_left]
  by_cases hs : n.tmod k < 0
  · have e2 : IntKind.i64.wrap (n.tmod k + k) = n.tmod k + k := by rw [IntKind.wrap_i64]; omega
    have H3 : Hid (n.tmod k + k = n % k) := by
      show _ = _
      rw [← h3]
      have : (n.tmod k + k) % k = n.tmod k + k := Int.emod_eq_of_lt (by omega) (by omega)
      rw [Int.add_emod_right] at this
      exact this.symm
    have a1 : decide (n.tmod k < 0) = true := by simp; omega
    clear t1 t2 hn hk2 h2 h3
    go_enter Tryz.func47, Tryz.ntmps47
    go_wp2_with fail
    go_ret
    refine ⟨?_, rfl⟩
    show Ending.returned (Value.int .i64 (n.tmod k + k)) = _
    rw [H3.out]
  · have H3 : Hid (n.tmod k = n % k) := by
      show _ = _
      rw [← h3]
      exact (Int.emod_eq_of_lt (by omega) (by omega)).symm
    have a1 : decide (n.tmod k < 0) = false := by simp; omega
    clear t1 t2 hn hk2 h2 h3
    go_enter Tryz.func47, Tryz.ntmps47
    go_wp2_with fail
    go_ret
    refine ⟨?_, rfl⟩
    show Ending.returned (Value.int .i64 (n.tmod k)) = _
    rw [H3.out]
/-- What refuses tells. -/
def rfC (off : Bool) (S : ByteArray) : Int := if off then 80 else if nmS S then 0 else 1
def evV (c : Int) : Value := if c = 0 then .nilIface else .iface 51 (.int .i64 c)
set_option maxRecDepth 100000 in
theorem refuses_ok (h : Dk m T w d B fs off arm ah pa) (S : ByteArray) (hS : S.size ≤ 9007199254740992) : Calls Tryz.prog 37 #[.pointer (some ⟨d, 0, none⟩), .string S] w fun e w' => e = .returned (evV (rfC off S)) ∧ w' = w := by
  obtain ⟨c1, f1⟩ := cell_in h.blk 1 _ rfl
  have hlt := node_lt h.blk
  have HN := hid (xName_any S · hS)
  unfold rfC
  clear h
  cases off
  · cases hn : nmS S
    · rw [hn] at HN
      clear hn
      go_enter Tryz.func37, Tryz.ntmps37
      go_wp2_with (go_at_call 56; refine (HN.out _).mono ?_; rintro e w1 ⟨rfl, rfl⟩)
      go_ret
      exact ⟨by simp [evV], rfl⟩
    · rw [hn] at HN
      clear hn
      go_enter Tryz.func37, Tryz.ntmps37
      go_wp2_with (go_at_call 56; refine (HN.out _).mono ?_; rintro e w1 ⟨rfl, rfl⟩)
      go_ret
      exact ⟨by simp [evV], rfl⟩
  · go_enter Tryz.func37, Tryz.ntmps37
    go_wp2_with fail
    go_ret
    exact ⟨by simp [evV], rfl⟩
/-- What find tells. -/
def fiC (off : Bool) (S : ByteArray) (fs : List Fx) : Int := if rfC off S = 0 then (if (fnd fs S.data.toList).isSome then 0 else 81) else rfC off S
def fiV (off : Bool) (S : ByteArray) (fs : List Fx) : Value := if rfC off S = 0 then lookV fs S.data.toList else .pointer none
set_option maxRecDepth 100000 in
set_option maxHeartbeats 1000000 in
theorem dkfind_ok (h : Dk m T w d B fs off arm ah pa) (S : ByteArray) (hS : S.size ≤ 9007199254740992) : Calls Tryz.prog 36 #[.pointer (some ⟨d, 0, none⟩), .string S] w fun e w' => e = .returned (.tuple #[fiV off S fs, evV (fiC off S fs)]) ∧ w' = w := by
  obtain ⟨c0, f0⟩ := cell_in h.blk 0 _ rfl
  have hlt := node_lt h.blk
  have hlk := h.mp.look_ok (x := S) (by unfold maxLen; omega)
  have HN := hid (refuses_ok h S hS)
  unfold fiC fiV
  clear h
  by_cases hc : rfC off S = 0
  · rw [hc] at HN ⊢
    simp only [if_true]
    unfold lookV at hlk ⊢
    have HN' : Hid (Calls Tryz.prog 37 #[.pointer (some ⟨d, 0, none⟩), .string S] w fun e w' => e = .returned .nilIface ∧ w' = w) := HN
    clear HN hc
    cases hf : fnd fs S.data.toList with
    | none =>
      rw [hf] at hlk
      clear hf
      dsimp only [Option.isSome_none] at hlk
      go_enter Tryz.func36, Tryz.ntmps36
      go_wp2_with (go_at_call 37; refine HN'.out.mono ?_; rintro e w1 ⟨rfl, rfl⟩)
      go_ret2
      exact ⟨by simp [evV], rfl⟩
    | some f =>
      rw [hf] at hlk
      clear hf
      obtain ⟨fn, fp, fo, fk, fc, fb, fs0⟩ := f
      dsimp only [Option.isSome_some, fptr] at hlk ⊢
      go_enter Tryz.func36, Tryz.ntmps36
      go_wp2_with (go_at_call 37; refine HN'.out.mono ?_; rintro e w1 ⟨rfl, rfl⟩)
      go_ret2
      exact ⟨by simp [evV], rfl⟩
  · simp only [if_neg hc]
    obtain ⟨c, hcc⟩ : ∃ c, c = rfC off S := ⟨_, rfl⟩
    rw [← hcc] at HN hc ⊢
    have e : evV c = .iface 51 (.int .i64 c) := if_neg hc
    rw [e] at HN ⊢
    clear hcc e hlk
    go_enter Tryz.func36, Tryz.ntmps36
    go_wp2_with (go_at_call 37; refine HN.out.mono ?_; rintro e w1 ⟨rfl, rfl⟩)
    go_ret2
    exact ⟨rfl, rfl⟩
set_option maxRecDepth 100000 in
theorem arm_ok (h : Dk m T w d B fs off arm ah pa) (a p : Int) : Calls Tryz.prog 17 #[.pointer (some ⟨d, 0, none⟩), .int .i64 a, .int .i64 p] w fun e w' => e = .returned (.tuple #[]) ∧ Dk m T w' d B fs off (decide (0 ≤ a)) a p ∧ Stp (OD d B fs) w (OD d B fs) w' := by
  have hlt := node_lt h.blk
  obtain ⟨⟨c0, c1, c2, c3, c4⟩, f0, f1, f2, f3, f4⟩ := five_cells h.blk
  have h1 := set_in h.blk 2 (.bool (decide (0 ≤ a)))
  have h2 := set_in h1 3 (.int .i64 a)
  have h3 := set_in h2 4 (.int .i64 p)
  have HD := hid (h.flags (off' := off) (arm' := decide (0 ≤ a)) (ah' := a) (pa' := p) ((Kx.set (P := fun g => g = d) (g := d) rfl _).trans ((Kx.set (P := fun g => g = d) (g := d) rfl _).trans (Kx.set (P := fun g => g = d) (g := d) rfl _))) h3)
  clear h h1 h2 h3
  by_cases ha : 0 ≤ a
  · have a0 : decide (0 ≤ a) = true := by simp; omega
    rw [a0] at HD ⊢
    clear ha
    go_enter Tryz.func17, Tryz.ntmps17
    go_wp2_with fail
    exact bodyPost_end (v := .tuple #[]) (by simp [results, Tryz.results17, go_sem]) rfl ⟨rfl, HD.out⟩
  · have a0 : decide (0 ≤ a) = false := by simp; omega
    rw [a0] at HD ⊢
    clear ha
    go_enter Tryz.func17, Tryz.ntmps17
    go_wp2_with fail
    exact bodyPost_end (v := .tuple #[]) (by simp [results, Tryz.results17, go_sem]) rfl ⟨rfl, HD.out⟩
end
end Go.Proofs.YtmddcdaodlnnhaaGreatDoor
namespace Go.Proofs
open Go.RowKit Go.Maps Go.Sort Go.Shelf
shelf_lay_g SlLaysZ.n7 Ggz 7 at Tryz 54 as Tryz.keysA
shelf_lay_g SlLaysZ.n6 Ggz 6 at Tryz 53 as Tryz.sortedA
shelf_lay_g SlLaysM.n6 Slgm 6 at Tryz 64 as Tryz.sortA
theorem Tryz.sortsA (m : Nat) : AnyZ.SortsIn Tryz.prog Tryz.sortedA_ren Fence.wide m :=
  ⟨fun blk off cap ss W hH hblk hsz => callsIn_wide.2 (AnyM.slices_Sort_string Tryz.sortA blk off cap ss W hH hblk hsz),
   fun p cap W => callsIn_wide.2 (AnyM.slices_Sort_string_none Tryz.sortA p cap W)⟩
end Go.Proofs
namespace Go.Proofs.YtmddcdaodlnnhaaGreatDoor
open Go.RowKit Go.Maps Go.Sort Go.Shelf
set_option linter.unusedVariables false
theorem keys_ok (mb : Option Nat) (W : World) : Calls Tryz.prog 54 #[.map mb] W fun e w' => e = .returned (.func (.func 65) #[] #[.pointer (some ⟨W.heap.size, 0, none⟩)]) ∧ w' = W.alloc (.cells #[.map mb] 57) :=
  (callsIn_wide (n := 5)).1 (AnyZ.keys_in Tryz.keysA Fence.wide 5 trivial rfl mb W)
theorem strKeys_dOf (l : List Fx) : strKeys (dOf l) = l.map Fx.n := by
  simp only [strKeys, dOf, List.map_map]
  exact List.map_congr_left fun s _ => rfl
theorem rise_sorted {l : List Fx} (h : Rise l) : (l.map Fx.n).mergeSort (fun x y => decide (x ≤ y)) = l.map Fx.n := by
  refine List.mergeSort_of_pairwise ?_
  rw [List.pairwise_map]
  refine h.imp fun {a b} hab => ?_
  have : a.n < b.n := by
    have := before_lt a.n b.n
    rw [show bytesBefore a.n b.n = true from hab] at this
    simpa using this.symm
  simpa using List.le_of_lt this
theorem perm_sorted {ss l : List Nm} (h : ss.Perm l) : ss.mergeSort (fun x y => decide (x ≤ y)) = l.mergeSort (fun x y => decide (x ≤ y)) := by
  have ht : ∀ a b c : Nm, decide (a ≤ b) = true → decide (b ≤ c) = true → decide (a ≤ c) = true := fun a b c h1 h2 => by
    simp only [decide_eq_true_eq] at *
    exact List.le_trans h1 h2
  have hl : ∀ a b : Nm, (decide (a ≤ b) || decide (b ≤ a)) = true := fun a b => by
    simp only [Bool.or_eq_true, decide_eq_true_eq]
    exact List.le_total a b
  refine List.Perm.eq_of_pairwise (le := fun x y => x ≤ y) (fun a b _ _ h1 h2 => List.le_antisymm h1 h2) ?_ ?_ ?_
  · exact (List.pairwise_mergeSort ht hl ss).imp (fun h => by simpa using h)
  · exact (List.pairwise_mergeSort ht hl l).imp (fun h => by simpa using h)
  · exact ((List.mergeSort_perm ss _).trans h).trans (List.mergeSort_perm l _).symm
set_option maxHeartbeats 1000000 in
theorem sorted_ok {w : World} {B : Nat} {l : List Fx} (h : TM w B l) (hf : l.length ≤ 1099511627776) : Calls Tryz.prog 53 #[.func (.func 65) #[] #[.pointer (some ⟨w.heap.size, 0, none⟩)]] (w.alloc (.cells #[.map (some B)] 57)) fun e w' =>
    ∃ v, e = .returned v ∧ w'.ownsRow (w.alloc (.cells #[.map (some B)] 57)).heap.size 9 1 v l.length ((l.map Fx.n).map encStr) ∧ Below (w.alloc (.cells #[.map (some B)] 57)).heap.size (w.alloc (.cells #[.map (some B)] 57)) w' := by
  have hbl := h.lt
  have hseq : SeqGives Fence.wide 2 Tryz.prog 65 #[.pointer (some ⟨w.heap.size, 0, none⟩)] encStr (fun ss => ss.Perm (strKeys (dOf l))) (Maps.size (dOf l)) (w.alloc (.cells #[.map (some B)] 57)) :=
    AnyZ.keys_gives (ρ := Tryz.keysA_ren) { Tryz.keysA with } Fence.wide _ trivial rfl (by omega) w.heap.size B l.length (dOf l) _ (by simp) (by simp) (by
      obtain ⟨es, clock, hb, Ft, hs, hD⟩ := h.2
      exact ⟨es, clock, (Below.heap_alloc _ _ B hbl).trans hb, Ft, hs, hD⟩)
  have cS := AnyZ.sorted_in Tryz.sortedA Fence.wide 5 trivial trivial trivial trivial rfl (by omega) (Tryz.sortsA _) (enters_of Tryz.func64 (by kernel_rfl) rfl) 65 #[.pointer (some ⟨w.heap.size, 0, none⟩)] trivial (enters_of Tryz.func65 (by kernel_rfl) rfl) _ _ (by rw [dOf_size]; unfold maxLen; omega) (by rw [dOf_size]; omega) _ hseq
  change CallsIn _ _ Tryz.prog 53 _ _ _ at cS
  refine ((callsIn_wide (n := 5)).1 cS).mono ?_
  rintro e w' ⟨v, ss, rfl, hS, hrow, hnil, hb⟩
  have e1 : ss.mergeSort (fun x y => decide (x ≤ y)) = l.map Fx.n := by rw [perm_sorted hS, strKeys_dOf, rise_sorted h.1]
  have e2 : ss.length = l.length := by rw [hS.length_eq, strKeys_dOf, List.length_map]
  rw [e1, e2] at hrow
  exact ⟨v, rfl, hrow, hb⟩
set_option maxRecDepth 100000 in
set_option maxHeartbeats 1000000 in
theorem names_ok {m T : Nat} {w : World} {d B : Nat} {fs : List Fx} {off arm : Bool} {ah pa : Int} (h : Dk m T w d B fs off arm ah pa) (hT : T ≤ 1099511627776) : Calls Tryz.prog 31 #[.pointer (some ⟨d, 0, none⟩)] w fun e w' =>
    ∃ v, e = .returned v ∧ w'.ownsRow w.heap.size 9 1 v fs.length (fs.map fun f => encStr f.n) ∧ Below w.heap.size w w' := by
  have hlt := node_lt h.blk
  obtain ⟨c0, f0⟩ := cell_in h.blk 0 _ rfl
  have hf := h.few
  have HS := hid (sorted_ok h.mp (by omega))
  have HK := hid (keys_ok (some B))
  clear h hf
  go_enter Tryz.func31, Tryz.ntmps31
  go_wp2_with (first
    | (go_at_call 54; refine (HK.out _).mono ?_; rintro e w1 ⟨rfl, rfl⟩)
    | (go_at_call 53; refine HS.out.mono ?_; rintro e w2 ⟨v, rfl, hrow, hb⟩; have HR := hid (And.intro hrow hb); clear hrow hb))
  go_ret
  obtain ⟨h1, h2⟩ := HR.out
  refine ⟨v, rfl, ?_, (below_al w _).trans (h2.mono (by simp))⟩
  have := ownsRow_base_a h1 (base' := w.heap.size) (by simp)
  rwa [List.map_map] at this
end Go.Proofs.YtmddcdaodlnnhaaGreatDoor
