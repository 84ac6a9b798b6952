/-
  What lex.Tokens answers at any text that is no longer than a source may be. Conditions: those that each theorem names.
-/
import Derived.Test.YtkofhmmnlapnnaaGreatDoorX15
namespace Go.Proofs.YtkofhmmnlapnnaaGreatDoor
open Go.RowKit
set_option linter.unusedVariables false
def AnsT (r : Tr) (w : World) (e : Ending) (w' : World) : Prop :=
  match r with
  | .inr l => ∃ v, e = .returned (.tuple #[v, .nilIface]) ∧ Hid (w'.ownsRow w.heap.size 32 7 v l.length (tvs l)) ∧ Hid (Below w.heap.size w w')
  | .inl c => ∃ q, e = .returned (.tuple #[.slice none 0 0, flv q]) ∧ Hid (w.heap.size ≤ q ∧ Flt w' q c ∧ Below w.heap.size w w')
theorem Tryz.infoTok : (Tryz.prog.info? 32).map (fun i => (i.zero, i.size, i.bytes)) = some (some (.agg #[.int .i64 0, .string { data := #[] }, .int .u64 0, .int .u64 0, .int .u64 0, .int .u64 0, .int .i64 0]), 7, 64) := by kernel_rfl
theorem seven_new (w : World) (a b c d e f g : Value) (t : TypeId) : ∀ j x, [a, b, c, d, e, f, g][j]? = some x → (w.alloc (.cells #[a, b, c, d, e, f, g] t)).cell? ((⟨w.heap.size, 0, none⟩ : Addr).add j) = some x := by
  intro j x hj
  match j, hj with
  | 0, hj => simp at hj; subst hj; simp [Addr.add]
  | 1, hj => simp at hj; subst hj; simp [Addr.add]
  | 2, hj => simp at hj; subst hj; simp [Addr.add]
  | 3, hj => simp at hj; subst hj; simp [Addr.add]
  | 4, hj => simp at hj; subst hj; simp [Addr.add]
  | 5, hj => simp at hj; subst hj; simp [Addr.add]
  | 6, hj => simp at hj; subst hj; simp [Addr.add]
theorem seven_ok (a : Int) (T : ByteArray) (c0 c1 c2 c3 p : Int) : ∀ u ∈ [Value.int .i64 a, .string T, .int .u64 c0, .int .u64 c1, .int .u64 c2, .int .u64 c3, .int .i64 p], u.oneCell' = true := by
  intro u hu; simp at hu; rcases hu with rfl | rfl | rfl | rfl | rfl | rfl | rfl <;> rfl
/-- What stays while tokens are read. -/
def Lt (w : World) (v : Value) (l : List Tok) (w' : World) : Prop :=
  Hid (Below w.heap.size w w') ∧ Hid (w'.ownsRow w.heap.size 32 7 v l.length (tvs l))
theorem Lt.keep {w W w' : World} {v : Value} {l : List Tok} (h : Lt w v l W) (hb : Below W.heap.size W w') : Lt w v l w' :=
  ⟨hid (h.1.out.trans (hb.mono h.1.out.size)), hid (own_keep h.2.out hb)⟩
theorem CE.alloc {w : World} {g f p : Nat} {c : Nat × Nat} (h : CE w g f p c) (o : Obj) : CE (w.alloc o) g f p c := ⟨(Below.heap_alloc w o g h.lt).trans h.1, (Below.heap_alloc w o f h.2.lt).trans h.2⟩
set_option maxRecDepth 100000 in
set_option maxHeartbeats 8000000 in
theorem xtokens_any (S : ByteArray) (w : World) (h : ErrIs w) (hS : S.size ≤ 8192) :
    Calls Tryz.prog 12 #[.string S] w fun e w' => AnsT (tkS S) w e w' := by
  obtain ⟨iT, hiT, hzT0, hzT1, hzT2⟩ := info_parts Tryz.infoTok
  have HE : Hid (ErrIs w) := h
  have HEl : Hid (2 ≤ w.heap.size ∨ True) := .inr trivial
  obtain ⟨R, hR⟩ : ∃ R, R = tks S (sb S 0) [] := ⟨_, rfl⟩
  have HA : Hid (tkS S = tkE S R) := by show _ = _; rw [hR]; rfl
  have HR : Hid (tks S (sb S 0) [] = R) := hR.symm
  have hs0 := sb_ge (S := S) (n := 0) (Nat.zero_le _)
  have HK : Hid (∀ (k : Nat) (w : World), k ≤ S.size → Calls Tryz.prog 20 #[.string S, .int .i64 (k : Int)] w fun e w' => e = .returned (.int .i64 ((sb S k : Nat) : Int)) ∧ w' = w) := fun k w hk => xskip_any S k w hk (by omega)
  have c0 : decide ((8192 : Int) < (S.size : Int)) = false := by simp; omega
  clear hR h
  go_enter Tryz.func12, Tryz.ntmps12
  go_wp2_with fail
  refine (HK.out 0 _ (Nat.zero_le _)).mono ?_
  rintro e w1 ⟨rfl, hw1⟩
  rw [hw1]
  clear hw1
  go_wp2_with fail
  go_loopw [4, 5] (fun v a wr => ∃ (k : Nat) (acc : List Tok), a = .int .i64 (k : Int) ∧ k ≤ S.size ∧ acc.length ≤ k ∧ Hid (tks S k acc = R) ∧ Hid (Lt w v acc wr)) (fun _ a _ => S.size - (intOf a).toNat)
  case atStart => exact ⟨sb S 0, [], rfl, hs0.2, by simp, HR, hid ⟨hid (Below.refl _ _), hid (World.ownsRow_nil _ _ _ _)⟩⟩
  case round =>
    obtain ⟨k, acc, rfl, hks, hal, HM, HL⟩ := hrel
    clear HR c0
    cases hb : bt S k with
    | none =>
      have hge := bt_none hb
      have a0 : decide ((k : Int) < (S.size : Int)) = false := by simp; omega
      have HF : Hid (tkS S = .inr (acc ++ [(6, { data := #[] }, 0, S.size)])) := by
        show _ = _
        rw [HA.out, ← HM.out, tks_end hge]; rfl
      have hsz : w.heap.size ≤ wr.heap.size := HL.out.1.out.size
      clear hb HM
      go_wp2_with (first | (at_builtin; refine wpList_append_own _ rfl (.tmp 39) (.tmp 43) 24 rfl w.heap.size 32 iT (.agg #[.int .i64 0, .string { data := #[] }, .int .u64 0, .int .u64 0, .int .u64 0, .int .u64 0, .int .i64 0]) 7 64 Tryz.underlying24 hiT hzT0 hzT1 hzT2 rfl (by decide) _ _ _ rfl (HL.out.2.out.alloc _) ⟨wr.heap.size, 0, none⟩ 1 1 (tvs [(6, { data := #[] }, 0, S.size)]) rfl rfl (by simpa [tvs, wd_zero] using seven_new wr _ _ _ _ _ _ _ 32) (seven_ok _ _ _ _ _ _ _) (by unfold maxLen; omega) (by omega) (by simp; omega) ?_; intro v3 w3 hown3 hgr3 hnil3))
      (try simp only [Exit.inBlock, Exit.then])
      refine bodyPost_ret (v := .tuple #[v3, .nilIface]) (by simp [results, Tryz.results12, go_sem]) rfl ?_
      rw [HF.out]
      exact ⟨_, rfl, hid (by rw [tvs_append, List.length_append]; exact hown3), hid ((HL.out.1.out.alloc hsz _).grown hgr3 (by simp; omega) (fun y e => (HL.out.2.out.lt y e).1))⟩
    | some x =>
      have hlt := (bt_lt hb).1
      have a0 : decide ((k : Int) < (S.size : Int)) = true := by simp; omega
      have HT : Hid (∀ w : World, Calls Tryz.prog 21 #[.string S, .int .i64 (k : Int)] w fun e w' => AnsK (tokAt S k x) k w e w') := fun w => xtoken_any S k x w hb (by omega)
      cases ht : tokAt S k x with
      | inl b =>
        have HF : Hid (tkS S = .inl (wrg k b)) := by
          show _ = _
          rw [HA.out, ← HM.out, tks_bad hb ht]; rfl
        have hwr := tokAt_wrong hb ht
        rw [ht] at HT
        clear hb ht HM
        obtain ⟨cl, c⟩ := b
        cases cl with
        | false =>
          go_wp2_with fail
          refine (HT.out _).mono ?_
          rintro e w2 ⟨f, rfl, HP⟩
          have HB2 : Hid (Below w.heap.size w w2) := HL.out.1.out.trans (HP.out.2.2.mono HL.out.1.out.size)
          have hf0 : w.heap.size ≤ f := Nat.le_trans HL.out.1.out.size HP.out.1
          have HF2 : Hid (Flt w2 f c) := HP.out.2.1
          have HC := hid (fun o : Obj => told_fault f c (w2.alloc o) (HE.out.below ((HB2.out.alloc HB2.out.size _)) HE.out.lt) ((Below.heap_alloc w2 o f HF2.out.lt).trans HF2.out))
          clear HP HT HL
          unfold flv at HC ⊢
          go_wp2_with fail
          refine (HC.out _).mono ?_
          rintro e w3 ⟨rfl, hb3⟩
          have HB3 : Hid (Below w.heap.size w w3) := (HB2.out.alloc HB2.out.size _).trans (hb3.mono (by have := HB2.out.size; simp; omega))
          have HF3 : Hid (Flt w3 f c) := (hb3.block f (by have := HF2.out.lt; simp; omega)).trans ((Below.heap_alloc w2 _ f HF2.out.lt).trans HF2.out)
          clear hb3 HC
          go_wp2_with fail
          (try simp only [Exit.inBlock, Exit.then])
          refine bodyPost_ret (v := .tuple #[.slice none 0 0, .iface 64 (.pointer (some ⟨f, 0, none⟩))]) (by simp [results, Tryz.results12, go_sem]) rfl ?_
          rw [HF.out]
          exact ⟨f, rfl, hid ⟨hf0, HF3.out, HB3.out⟩⟩
        | true =>
          go_wp2_with fail
          refine (HT.out _).mono ?_
          rintro e w2 ⟨g, f, rfl, HP⟩
          have hg0 : w.heap.size ≤ g := Nat.le_trans HL.out.1.out.size HP.out.1
          have HB2 : Hid (Below w.heap.size w w2) := HL.out.1.out.trans (HP.out.2.2.2.mono HL.out.1.out.size)
          have HF2 : Hid (CE w2 g f k c) := HP.out.2.2.1
          have HC := hid (fun o : Obj => told_class g f k c (w2.alloc o) (HE.out.below ((HB2.out.alloc HB2.out.size _)) HE.out.lt) (HF2.out.alloc o) (by have := hwr.2; simp [wrg] at this; omega))
          clear HP HT HL
          go_wp2_with fail
          refine (HC.out _).mono ?_
          rintro e w3 ⟨q, rfl, HP3⟩
          have HB3 : Hid (Below w.heap.size w w3) := (HB2.out.alloc HB2.out.size _).trans (HP3.out.2.2.mono (by have := HB2.out.size; simp; omega))
          have hq0 : w.heap.size ≤ q := by have h1 := HP3.out.1; have h2 := HB2.out.size; simp at h1; omega
          have HF3 : Hid (Flt w3 q (c.1, k + c.2)) := HP3.out.2.1
          clear HP3 HC
          unfold flv
          go_wp2_with fail
          (try simp only [Exit.inBlock, Exit.then])
          refine bodyPost_ret (v := .tuple #[.slice none 0 0, .iface 64 (.pointer (some ⟨q, 0, none⟩))]) (by simp [results, Tryz.results12, go_sem]) rfl ?_
          rw [HF.out]
          exact ⟨q, rfl, hid ⟨hq0, HF3.out, HB3.out⟩⟩
      | inr r =>
        obtain ⟨t, n⟩ := r
        obtain ⟨q1, q2, q3, q4, q5, q6, q7⟩ := tokAt_ok hb ht
        have HM2 : Hid (tks S (sb S n) (acc ++ [t]) = R) := by show _ = _; rw [← HM.out, tks_on hb ht]
        have hsn := sb_ge (S := S) (n := n) q2
        rw [ht] at HT
        clear hb ht HM
        go_wp2_with fail
        refine (HT.out _).mono ?_
        rintro e w2 ⟨rfl, hb2⟩
        have HL2 := hid (HL.out.keep hb2)
        clear hb2 HL HT
        obtain ⟨kd, T, C, p⟩ := t
        have q4' : p = k := q4
        rw [q4'] at HM2 ⊢
        clear q4 q4'
        dsimp only [tkv]
        have hsz : w.heap.size ≤ w2.heap.size := HL2.out.1.out.size
        go_wp2_with (first | (at_builtin; refine wpList_append_own _ rfl (.tmp 32) (.tmp 34) 24 rfl w.heap.size 32 iT (.agg #[.int .i64 0, .string { data := #[] }, .int .u64 0, .int .u64 0, .int .u64 0, .int .u64 0, .int .i64 0]) 7 64 Tryz.underlying24 hiT hzT0 hzT1 hzT2 rfl (by decide) _ _ _ rfl ((HL2.out.2.out.alloc _).alloc _) ⟨w2.heap.size + 1, 0, none⟩ 1 1 (tvs [(kd, T, C, k)]) rfl rfl (by have := seven_new (w2.alloc (.cells #[.int .i64 (kd : Int), .string T, .int .u64 (wd C 0 : Nat), .int .u64 (wd C 1 : Nat), .int .u64 (wd C 2 : Nat), .int .u64 (wd C 3 : Nat), .int .i64 (k : Int)] 32)); simpa [tvs] using this _ _ _ _ _ _ _ 32) (seven_ok _ _ _ _ _ _ _) (by unfold maxLen; omega) (by omega) (by simp; omega) ?_; intro v3 w3 hown3 hgr3 hnil3))
        have HL3 : Hid (Lt w v3 (acc ++ [(kd, T, C, k)]) w3) := by
          refine ⟨hid (((HL2.out.1.out.alloc hsz _).alloc (by simp; omega) _).grown hgr3 (by simp; omega) (fun y e => (HL2.out.2.out.lt y e).1)), hid ?_⟩
          rw [tvs_append, List.length_append]; exact hown3
        clear hown3 hgr3 hnil3 HL2
        have HKn := hid (HK.out n w3 q2)
        refine HKn.out.mono ?_
        rintro e w4 ⟨rfl, hw4⟩
        rw [hw4]
        clear hw4
        go_wp2_with fail
        go_roundw
        case rel => exact ⟨sb S n, acc ++ [(kd, T, C, k)], rfl, hsn.2, by simp; omega, HM2, HL3⟩
        case measure => simp [intOf]; omega
end Go.Proofs.YtkofhmmnlapnnaaGreatDoor
