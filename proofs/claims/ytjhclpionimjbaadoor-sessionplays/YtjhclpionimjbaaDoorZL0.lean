/-
  The sorted keys of a map of sessions. Conditions: those that each theorem names.
-/
import Derived.Test.YtjhclpionimjbaaDoorZY
import Derived.Shelf.SlIterI.Nil
import Derived.Shelf.SortM.Plain
import Derived.Shelf.SortM.SortNone
import Derived.Ground.GgzProg
import Derived.Ground.SlgmProg
namespace Go.Proofs
open Go.RowKit Go.Maps Go.Sort Go.Shelf
shelf_lay_g SlLaysZI.n7 Ggz 7 at Tryd 34 as Tryd.keysA
shelf_lay_g SlLaysZI.n6 Ggz 6 at Tryd 33 as Tryd.sortedA
shelf_lay_g SlLaysM.n5 Slgm 5 at Tryd 36 as Tryd.sortA
theorem Tryd.sortsA (m : Nat) : AnyZI.SortsIn Tryd.prog Tryd.sortedA_ren Fence.wide m :=
  ⟨fun blk off cap ss W hH hblk hsz => callsIn_wide.2 (AnyM.slices_Sort_int Tryd.sortA blk off cap ss W hH hblk hsz),
   fun p cap W => callsIn_wide.2 (AnyM.slices_Sort_int_none Tryd.sortA p cap W)⟩
end Go.Proofs
namespace Go.Proofs.YtjhclpionimjbaaDoor
open Go.RowKit Go.Maps Go.Sort Go.Shelf
set_option linter.unusedVariables false
theorem keys_ok (mb : Option Nat) (W : World) : Calls Tryd.prog 34 #[.map mb] W fun e w' => e = .returned (.func (.func 46) #[] #[.pointer (some ⟨W.heap.size, 0, none⟩)]) ∧ w' = W.alloc (.cells #[.map mb] 61) :=
  (callsIn_wide (n := 5)).1 (AnyZI.keys_in Tryd.keysA Fence.wide 5 trivial rfl mb W)
theorem intKeys_dOf (l : List Sx) : intKeys (dOf l) = l.map Sx.i := by
  simp only [intKeys, dOf, List.map_map]
  exact List.map_congr_left fun s _ => rfl
theorem rise_sorted {l : List Sx} (h : Rise l) : (l.map Sx.i).mergeSort (fun x y => decide (x ≤ y)) = l.map Sx.i := by
  refine List.mergeSort_of_pairwise ?_
  rw [List.pairwise_map]
  exact h.imp fun {a b} hab => by simp; omega
theorem perm_sorted {ss l : List Int} (h : ss.Perm l) : ss.mergeSort (fun x y => decide (x ≤ y)) = l.mergeSort (fun x y => decide (x ≤ y)) := by
  refine List.Perm.eq_of_pairwise (le := fun x y => x ≤ y) (fun a b _ _ h1 h2 => by omega) ?_ ?_ ?_
  · exact (List.pairwise_mergeSort (fun a b c h1 h2 => by simp at *; omega) (fun a b => by simp; omega) ss).imp (fun h => by simpa using h)
  · exact (List.pairwise_mergeSort (fun a b c h1 h2 => by simp at *; omega) (fun a b => by simp; omega) l).imp (fun h => by simpa using h)
  · exact ((List.mergeSort_perm ss _).trans h).trans (List.mergeSort_perm l _).symm
set_option maxHeartbeats 1000000 in
theorem sorted_ok {w : World} {B : Nat} {l : List Sx} (h : TM w B l) (hf : l.length ≤ 8) : Calls Tryd.prog 33 #[.func (.func 46) #[] #[.pointer (some ⟨w.heap.size, 0, none⟩)]] (w.alloc (.cells #[.map (some B)] 61)) fun e w' =>
    ∃ v, e = .returned v ∧ w'.ownsRow (w.alloc (.cells #[.map (some B)] 61)).heap.size 3 1 v l.length ((l.map Sx.i).map (Value.int .i64)) ∧ Below (w.alloc (.cells #[.map (some B)] 61)).heap.size (w.alloc (.cells #[.map (some B)] 61)) w' := by
  have hbl := h.lt
  have hseq : SeqGives Fence.wide 2 Tryd.prog 46 #[.pointer (some ⟨w.heap.size, 0, none⟩)] encZ (fun ss => ss.Perm (intKeys (dOf l))) (Maps.size (dOf l)) (w.alloc (.cells #[.map (some B)] 61)) :=
    AnyZI.keys_gives (ρ := Tryd.keysA_ren) { Tryd.keysA with } Fence.wide _ trivial rfl (by omega) w.heap.size B l.length (dOf l) _ (by simp) (by simp) (by
      obtain ⟨es, clock, hb, Ft, hs, hD⟩ := h.2
      exact ⟨es, clock, (Below.heap_alloc _ _ B hbl).trans hb, Ft, hs, hD⟩)
  have cS := AnyZI.sorted_in Tryd.sortedA Fence.wide 5 trivial trivial trivial trivial rfl (by omega) (Tryd.sortsA _) (enters_of Tryd.func36 (by kernel_rfl) rfl) 46 #[.pointer (some ⟨w.heap.size, 0, none⟩)] trivial (enters_of Tryd.func46 (by kernel_rfl) rfl) _ _ (by rw [dOf_size]; unfold maxLen; omega) (by rw [dOf_size]; omega) _ hseq
  change CallsIn _ _ Tryd.prog 33 _ _ _ at cS
  refine ((callsIn_wide (n := 5)).1 cS).mono ?_
  rintro e w' ⟨v, ss, rfl, hS, hrow, hnil, hb⟩
  have e1 : ss.mergeSort (fun x y => decide (x ≤ y)) = l.map Sx.i := by rw [perm_sorted hS, intKeys_dOf, rise_sorted h.1]
  have e2 : ss.length = l.length := by rw [hS.length_eq, intKeys_dOf, List.length_map]
  rw [e1, e2] at hrow
  exact ⟨v, rfl, hrow, hb⟩
end Go.Proofs.YtjhclpionimjbaaDoor
