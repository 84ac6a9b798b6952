/-
  What the document's own Tokens answers at any text. Conditions: those that each theorem names.
-/
import Derived.Test.YtbdhgfblkgkekaaDoorX24
import Derived.Test.YtbdhgfblkgkekaaDoorX16
namespace Go.Proofs.YtbdhgfblkgkekaaDoor
open Go.RowKit
set_option linter.unusedVariables false
def AnsQ (r : Tr) (w : World) (e : Ending) (w' : World) : Prop :=
  match r with
  | .inr l => ∃ v, e = .returned (.tuple #[v, .int .i64 0, .int .i64 0]) ∧ Hid (w'.ownsRow w.heap.size 38 7 v l.length (tvs l)) ∧ Hid (Below w.heap.size w w')
  | .inl c => e = .returned (.tuple #[.slice none 0 0, .int .i64 (c.2 : Int), .int .i64 (c.1 : Int)]) ∧ Below w.heap.size w w'
set_option maxRecDepth 100000 in
theorem qtokens_long (S : ByteArray) (w : World) (hS : 8192 < S.size) :
    Calls Tryd.prog 11 #[.string S] w fun e w' => e = .returned (.tuple #[.slice none 0 0, .int .i64 (-1), .int .i64 2]) ∧ w' = w := by
  have c0 : decide ((8192 : Int) < (S.size : Int)) = true := by simp; omega
  go_enter Tryd.func11, Tryd.ntmps11
  go_wp2_with fail
  go_ret3
  exact ⟨rfl, rfl⟩
theorem wrg_code {p : Nat} {b : Bool × (Nat × Nat)} (h : b.2.1 = 2 ∨ b.2.1 = 3 ∨ b.2.1 = 4) : (((wrg p b).1 : Nat) : Int) ≠ 0 := by
  unfold wrg
  split
  · simp only; omega
  · omega
set_option maxRecDepth 100000 in
set_option maxHeartbeats 8000000 in
theorem qtokens_any (S : ByteArray) (w : World) (hS : S.size ≤ 8192) :
    Calls Tryd.prog 11 #[.string S] w fun e w' => AnsQ (tkS S) w e w' := by
  obtain ⟨iT, hiT, hzT0, hzT1, hzT2⟩ := info_parts Tryd.infoTok
  obtain ⟨R, hR⟩ : ∃ R, R = tks S (sb S 0) [] := ⟨_, rfl⟩
  have HA : Hid (tkS S = tkE S R) := by show _ = _; rw [hR]; rfl
  have HR : Hid (tks S (sb S 0) [] = R) := hR.symm
  have hs0 := sb_ge (S := S) (n := 0) (Nat.zero_le _)
  have HK : Hid (∀ (k : Nat) (w : World), k ≤ S.size → Calls Tryd.prog 23 #[.string S, .int .i64 (k : Int)] w fun e w' => e = .returned (.int .i64 ((sb S k : Nat) : Int)) ∧ w' = w) := fun k w hk => qblanks_any S k w hk (by omega)
  have c0 : decide ((8192 : Int) < (S.size : Int)) = false := by simp; omega
  clear hR
  go_enter Tryd.func11, Tryd.ntmps11
  go_wp2_with fail
  refine (HK.out 0 _ (Nat.zero_le _)).mono ?_
  rintro e w1 ⟨rfl, hw1⟩
  rw [hw1]
  clear hw1
  go_wp2_with fail
  go_loopw [5, 6] (fun v a wr => ∃ (k : Nat) (acc : List Tok), a = .int .i64 (k : Int) ∧ k ≤ S.size ∧ acc.length ≤ k ∧ Hid (tks S k acc = R) ∧ Hid (Lt w v acc wr)) (fun _ a _ => S.size - (intOf a).toNat)
  case atStart => exact ⟨sb S 0, [], rfl, hs0.2, by simp, HR, hid ⟨hid (Below.refl _ _), hid (World.ownsRow_nil _ _ _ _)⟩⟩
  case round =>
    obtain ⟨k, acc, rfl, hks, hal, HM, HL⟩ := hrel
    clear HR c0
    cases hb : bt S k with
    | none =>
      have hge := bt_none hb
      have a0 : decide ((k : Int) < (S.size : Int)) = false := by simp; omega
      have HF : Hid (tkS S = .inr (acc ++ [(6, { data := #[] }, 0, S.size)])) := by
        show _ = _
        rw [HA.out, ← HM.out, tks_end hge]; rfl
      have hsz : w.heap.size ≤ wr.heap.size := HL.out.1.out.size
      clear hb HM
      go_wp2_with (first | (at_builtin; refine wpList_append_own _ rfl (.tmp 37) (.tmp 41) 23 rfl w.heap.size 38 iT (.agg #[.int .i64 0, .string { data := #[] }, .int .u64 0, .int .u64 0, .int .u64 0, .int .u64 0, .int .i64 0]) 7 64 Tryd.underlying23 hiT hzT0 hzT1 hzT2 rfl (by decide) _ _ _ rfl (HL.out.2.out.alloc _) ⟨wr.heap.size, 0, none⟩ 1 1 (tvs [(6, { data := #[] }, 0, S.size)]) rfl rfl (by simpa [tvs, wd_zero] using seven_new wr _ _ _ _ _ _ _ 38) (seven_ok _ _ _ _ _ _ _) (by unfold maxLen; omega) (by omega) (by simp; omega) ?_; intro v3 w3 hown3 hgr3 hnil3))
      go_ret3
      rw [HF.out]
      exact ⟨_, rfl, hid (by rw [tvs_append, List.length_append]; exact hown3), hid ((HL.out.1.out.alloc hsz _).grown hgr3 (by simp; omega) (fun y e => (HL.out.2.out.lt y e).1))⟩
    | some x =>
      have hlt := (bt_lt hb).1
      have a0 : decide ((k : Int) < (S.size : Int)) = true := by simp; omega
      have HT : Hid (∀ w : World, Calls Tryd.prog 24 #[.string S, .int .i64 (k : Int)] w fun e w' => e = .returned (q3r (tokAt S k x) k) ∧ Below w.heap.size w w') := fun w => qtoken_any S k x w hb (by omega)
      cases ht : tokAt S k x with
      | inl b =>
        have HF : Hid (tkS S = .inl (wrg k b)) := by
          show _ = _
          rw [HA.out, ← HM.out, tks_bad hb ht]; rfl
        have hwr := tokAt_wrong hb ht
        obtain ⟨c, hc⟩ : ∃ c, c = wrg k b := ⟨_, rfl⟩
        have hc0 : (((c.1 : Nat) : Int) != 0) = true := by rw [bne_iff_ne, hc]; exact wrg_code hwr.1
        rw [ht] at HT
        unfold q3r at HT
        simp only at HT
        rw [← hc] at HT HF
        clear hb ht HM hwr hc
        go_wp2_with fail
        refine (HT.out _).mono ?_
        rintro e w2 ⟨rfl, hb2⟩
        have HB2 : Hid (Below w.heap.size w w2) := HL.out.1.out.trans (hb2.mono HL.out.1.out.size)
        clear hb2 HL HT
        go_wp2_with fail
        go_ret3
        rw [HF.out]
        exact ⟨rfl, HB2.out.alloc HB2.out.size _⟩
      | inr r =>
        obtain ⟨t, n⟩ := r
        obtain ⟨q1, q2, q3, q4, q5, q6, q7⟩ := tokAt_ok hb ht
        have HM2 : Hid (tks S (sb S n) (acc ++ [t]) = R) := by show _ = _; rw [← HM.out, tks_on hb ht]
        have hsn := sb_ge (S := S) (n := n) q2
        rw [ht] at HT
        unfold q3r at HT
        simp only at HT
        clear hb ht HM
        go_wp2_with fail
        refine (HT.out _).mono ?_
        rintro e w2 ⟨rfl, hb2⟩
        have HL2 := hid (HL.out.keep hb2)
        clear hb2 HL HT
        obtain ⟨kd, T, C, p⟩ := t
        have q4' : p = k := q4
        rw [q4'] at HM2 ⊢
        clear q4 q4'
        dsimp only [tkv]
        have hsz : w.heap.size ≤ w2.heap.size := HL2.out.1.out.size
        go_wp2_with (first | (at_builtin; refine wpList_append_own _ rfl (.tmp 30) (.tmp 32) 23 rfl w.heap.size 38 iT (.agg #[.int .i64 0, .string { data := #[] }, .int .u64 0, .int .u64 0, .int .u64 0, .int .u64 0, .int .i64 0]) 7 64 Tryd.underlying23 hiT hzT0 hzT1 hzT2 rfl (by decide) _ _ _ rfl ((HL2.out.2.out.alloc _).alloc _) ⟨w2.heap.size + 1, 0, none⟩ 1 1 (tvs [(kd, T, C, k)]) rfl rfl (by have := seven_new (w2.alloc (.cells #[.int .i64 (kd : Int), .string T, .int .u64 (wd C 0 : Nat), .int .u64 (wd C 1 : Nat), .int .u64 (wd C 2 : Nat), .int .u64 (wd C 3 : Nat), .int .i64 (k : Int)] 38)); simpa [tvs] using this _ _ _ _ _ _ _ 38) (seven_ok _ _ _ _ _ _ _) (by unfold maxLen; omega) (by omega) (by simp; omega) ?_; intro v3 w3 hown3 hgr3 hnil3))
        have HL3 : Hid (Lt w v3 (acc ++ [(kd, T, C, k)]) w3) := by
          refine ⟨hid (((HL2.out.1.out.alloc hsz _).alloc (by simp; omega) _).grown hgr3 (by simp; omega) (fun y e => (HL2.out.2.out.lt y e).1)), hid ?_⟩
          rw [tvs_append, List.length_append]; exact hown3
        clear hown3 hgr3 hnil3 HL2
        have HKn := hid (HK.out n w3 q2)
        refine HKn.out.mono ?_
        rintro e w4 ⟨rfl, hw4⟩
        rw [hw4]
        clear hw4
        go_wp2_with fail
        go_roundw
        case rel => exact ⟨sb S n, acc ++ [(kd, T, C, k)], rfl, hsn.2, by simp; omega, HM2, HL3⟩
        case measure => simp [intOf]; omega
end Go.Proofs.YtbdhgfblkgkekaaDoor
