/-
  What the reader's methods repeated and part answer, if one answers as it should. Conditions: those that each theorem names.
-/
import Derived.Test.YtkofhmmnlapnnaaGreatDoorY8
namespace Go.Proofs.YtkofhmmnlapnnaaGreatDoor
open Go.RowKit
set_option linter.unusedVariables false
set_option maxRecDepth 100000 in
set_option maxHeartbeats 8000000 in
theorem yrepeated_any (R b : Nat) (v : Value) (L : List Tok) (ru ne : Nat) (inn : Nat → Pr) (hg : Good L) (ha : Adv L inn) (ho : MC 89 (oneS L inn) (fun _ => True) R b v L ru ne) :
    MC 86 (repS L inn) (fun _ => True) R b v L ru ne := by
  intro k B w h hk _ hB
  have hO := ho k (w.heap.size + 1) (w.alloc Zo) (h.alloc _) hk trivial (by simp)
  have HE : Hid (En w R b v L k ru ne (w.alloc Zo)) := En.start h
  unfold repS
  cases hs : oneS L inn k with
  | inl c =>
    rw [hs] at hO
    have HO := hid hO
    clear hO hs ho h
    show Calls _ _ _ _ (fun e w' => AnsP (.inl c) B R b v L ru ne w e w')
    go_enter Tryz.func86, Tryz.ntmps86
    go_wp2_with fail
    refine HO.out.mono ?_
    rintro e w1 hA
    have HA : Hid (AnsP (.inl c) B R b v L ru ne w e w1) := AnsP.up HE.out hA
    obtain ⟨f, rfl, _, _⟩ := hA
    go_wp2_with fail
    exact ⟨rfl, HA.out⟩
  | inr q =>
    obtain ⟨n, k'⟩ := q
    have hk' := (oneS_adv hg ha hk hs).2
    rw [hs] at hO
    have HO := hid hO
    have HS := ysign_g R b v L k' ru ne hk' hg
    unfold repE
    simp only
    obtain ⟨Z, hZ⟩ : ∃ Z, Z = sgT (gL L k') := ⟨_, rfl⟩
    rw [← hZ] at HS ⊢
    have HP := hid (fun w => yrep_any Z w)
    obtain ⟨r, hr⟩ : ∃ r, r = rpK Z := ⟨_, rfl⟩
    rw [← hr] at HP ⊢
    have hkl : (k' : Int) + 1 < 9223372036854775807 := by have := hg.len; omega
    clear hO hs ho h hZ hr
    by_cases hr0 : r = 0
    · subst hr0
      rw [if_pos rfl]
      go_enter Tryz.func86, Tryz.ntmps86
      go_wp2_with fail
      refine HO.out.mono ?_
      rintro e w1 ⟨cs, rfl, HN, HR, HG⟩
      have HE1 := hid (HE.out.grown HR.out HG.out)
      clear HR HG HO HE
      obtain ⟨kd, T, C, so, sl, sc, hcs⟩ := HN.out.shape
      obtain ⟨p, hp⟩ : ∃ p, p = n.at' := ⟨_, rfl⟩
      rw [← hp] at hcs
      subst hcs
      clear hp
      dsimp only [n8]
      have HE2 := hid (HE1.out.alloc (.cells #[.int .i64 (kd : Int), .string T, .int .u64 (wd C 0 : Nat), .int .u64 (wd C 1 : Nat), .int .u64 (wd C 2 : Nat), .int .u64 (wd C 3 : Nat), .slice so sl sc, .int .i64 (p : Int)] 46))
      have HN2 := hid (HN.out.below (((Below.refl _ w1).alloc (Nat.le_refl _) (.cells #[.int .i64 (kd : Int), .string T, .int .u64 (wd C 0 : Nat), .int .u64 (wd C 1 : Nat), .int .u64 (wd C 2 : Nat), .int .u64 (wd C 3 : Nat), .slice so sl sc, .int .i64 (p : Int)] 46))))
      have HK2 : Hid ((w1.alloc (.cells #[.int .i64 (kd : Int), .string T, .int .u64 (wd C 0 : Nat), .int .u64 (wd C 1 : Nat), .int .u64 (wd C 2 : Nat), .int .u64 (wd C 3 : Nat), .slice so sl sc, .int .i64 (p : Int)] 46)).heap[w1.heap.size]? = some (.cells #[.int .i64 (kd : Int), .string T, .int .u64 (wd C 0 : Nat), .int .u64 (wd C 1 : Nat), .int .u64 (wd C 2 : Nat), .int .u64 (wd C 3 : Nat), .slice so sl sc, .int .i64 (p : Int)] 46)) := new_block_at _ _ rfl
      have HS2 : Hid (w.heap.size < w1.heap.size) := HE1.out.size
      clear HE1 HN
      go_wp2_with fail
      refine (HS.out _ HE2.out.1).mono ?_
      rintro e w2 ⟨rfl, hb2⟩
      have HE3 := hid (HE2.out.below hb2)
      have HN3 := hid (HN2.out.below hb2)
      have HK3 := hid ((hb2.block _ (by simp)).trans HK2.out)
      have HL3 : Hid (w1.heap.size < w2.heap.size) := Nat.lt_of_lt_of_le (by simp) hb2.size
      clear hb2 HS HE2 HN2 HK2
      go_wp2_with fail
      refine (HP.out _).mono ?_
      rintro e w3 ⟨rfl, hw3⟩
      rw [hw3]
      clear hw3 HP
      obtain ⟨⟨m0, m1, m2, m3, m4, m5, m6, m7⟩, ⟨y0, y1, y2, y3, y4, y5, y6, y7⟩⟩ := eight_cells HK3.out
      obtain ⟨⟨k0, k1, k2, k3, k4, k5, k6, k7⟩, ⟨f0, f1, f2, f3, f4, f5, f6, f7⟩⟩ := HE3.out.cells
      have hS2 := HS2.out
      have hL3 := HL3.out
      have hQN : w.heap.size ≠ w1.heap.size := by omega
      go_wp2_with fail
      (try simp only [Exit.inBlock, Exit.then])
      obtain ⟨⟨c0, c1, c2, c3, c4, c5, c6, c7⟩, _⟩ := eight_cells (st8_block HE3.out.2.2.1 (kd : Int) T (wd C 0 : Nat) (wd C 1 : Nat) (wd C 2 : Nat) (wd C 3 : Nat) (.slice so sl sc) (p : Int))
      refine bodyPost_ret (v := .agg (n8 kd T C (.slice so sl sc) p).toArray) (by simp [results, Tryz.results86, go_sem, c0, c1, c2, c3, c4, c5, c6, c7]) rfl ?_
      exact HE3.out.fin HN3.out hB
    · rw [if_neg hr0]
      have t0 : ((r : Int) == 0) = false := by simp; omega
      go_enter Tryz.func86, Tryz.ntmps86
      go_wp2_with fail
      refine HO.out.mono ?_
      rintro e w1 ⟨cs, rfl, HN, HR, HG⟩
      have HE1 := hid (HE.out.grown HR.out HG.out)
      clear HR HG HO HE
      obtain ⟨kd, T, C, so, sl, sc, hcs⟩ := HN.out.shape
      obtain ⟨p, hp⟩ : ∃ p, p = n.at' := ⟨_, rfl⟩
      rw [← hp] at hcs
      subst hcs
      have HPn : Hid (n.at' = p) := hp.symm
      clear hp
      dsimp only [n8]
      have HE2 := hid (HE1.out.alloc (.cells #[.int .i64 (kd : Int), .string T, .int .u64 (wd C 0 : Nat), .int .u64 (wd C 1 : Nat), .int .u64 (wd C 2 : Nat), .int .u64 (wd C 3 : Nat), .slice so sl sc, .int .i64 (p : Int)] 46))
      have HN2 := hid (HN.out.below (((Below.refl _ w1).alloc (Nat.le_refl _) (.cells #[.int .i64 (kd : Int), .string T, .int .u64 (wd C 0 : Nat), .int .u64 (wd C 1 : Nat), .int .u64 (wd C 2 : Nat), .int .u64 (wd C 3 : Nat), .slice so sl sc, .int .i64 (p : Int)] 46))))
      have HK2 : Hid ((w1.alloc (.cells #[.int .i64 (kd : Int), .string T, .int .u64 (wd C 0 : Nat), .int .u64 (wd C 1 : Nat), .int .u64 (wd C 2 : Nat), .int .u64 (wd C 3 : Nat), .slice so sl sc, .int .i64 (p : Int)] 46)).heap[w1.heap.size]? = some (.cells #[.int .i64 (kd : Int), .string T, .int .u64 (wd C 0 : Nat), .int .u64 (wd C 1 : Nat), .int .u64 (wd C 2 : Nat), .int .u64 (wd C 3 : Nat), .slice so sl sc, .int .i64 (p : Int)] 46)) := new_block_at _ _ rfl
      have HS2 : Hid (w.heap.size < w1.heap.size) := HE1.out.size
      clear HE1 HN hr0
      go_wp2_with fail
      refine (HS.out _ HE2.out.1).mono ?_
      rintro e w2 ⟨rfl, hb2⟩
      have HE3 := hid (HE2.out.below hb2)
      have HN3 := hid (HN2.out.below hb2)
      have HK3 := hid ((hb2.block _ (by simp)).trans HK2.out)
      have HL3 : Hid (w1.heap.size < w2.heap.size) := Nat.lt_of_lt_of_le (by simp) hb2.size
      clear hb2 HS HE2 HN2 HK2
      go_wp2_with fail
      refine (HP.out _).mono ?_
      rintro e w3 ⟨rfl, hw3⟩
      rw [hw3]
      clear hw3 HP
      obtain ⟨⟨m0, m1, m2, m3, m4, m5, m6, m7⟩, ⟨y0, y1, y2, y3, y4, y5, y6, y7⟩⟩ := eight_cells HK3.out
      obtain ⟨r0, r1, r2, r3, q0, q1, q2, q3⟩ := HE3.out.1.cells
      have hRl := HE3.out.lt
      have hS2 := HS2.out
      have hL3 := HL3.out
      have hR2 := HE3.out.1.lt
      have hRN : R ≠ w1.heap.size := by omega
      have hQN : w.heap.size ≠ w1.heap.size := by omega
      have HE4 := hid HE3.out.next
      have HN4 := hid (NdIs.grown HN3.out (G.setR (u := .int .i64 ((k' : Int) + 1)) (j := 1) (G.refl w2 R)) HE3.out.1.1)
      clear HE3 HN3 HK3
      go_wp2_with fail
      refine (yover_any r p (w.heap.size + 1) n _ _ HN4.out (by have := HE4.out.size; omega)).mono ?_
      rintro e w5 ⟨cs, rfl, HN5, HB5⟩
      have HE5 := hid (HE4.out.below HB5.out)
      clear HN4 HE4 HB5
      obtain ⟨kd2, T2, C2, so2, sl2, sc2, hcs⟩ := HN5.out.shape
      rw [show (Nd.mk r { data := #[] } 0 [n] p).at' = p from rfl] at hcs
      subst hcs
      obtain ⟨p2, hp2⟩ : ∃ q, q = p := ⟨p, rfl⟩
      dsimp only [n8]
      obtain ⟨⟨k0, k1, k2, k3, k4, k5, k6, k7⟩, ⟨f0, f1, f2, f3, f4, f5, f6, f7⟩⟩ := HE5.out.cells
      clear m0 m1 m2 m3 m4 m5 m6 m7 y0 y1 y2 y3 y4 y5 y6 y7 r0 r1 r2 r3 q0 q1 q2 q3
      go_wp2_with fail
      rw [HPn.out]
      (try simp only [Exit.inBlock, Exit.then])
      obtain ⟨⟨c0, c1, c2, c3, c4, c5, c6, c7⟩, _⟩ := eight_cells (st8_block HE5.out.2.2.1 (kd2 : Int) T2 (wd C2 0 : Nat) (wd C2 1 : Nat) (wd C2 2 : Nat) (wd C2 3 : Nat) (.slice so2 sl2 sc2) (p : Int))
      refine bodyPost_ret (v := .agg (n8 kd2 T2 C2 (.slice so2 sl2 sc2) p).toArray) (by simp [results, Tryz.results86, go_sem, c0, c1, c2, c3, c4, c5, c6, c7]) rfl ?_
      exact HE5.out.fin HN5.out hB
theorem yrepeated_at {F : Nat} {sp : Nat → Pr} {R b : Nat} {v : Value} {L : List Tok} {ru ne : Nat} (ho : MC F sp (fun _ => True) R b v L ru ne) (k B : Nat) (hk : k < L.length) : Hid (∀ w : World, Rd w R b v L k ru ne → B ≤ w.heap.size → Calls Tryz.prog F #[.pointer (some ⟨R, 0, none⟩)] w fun e w' => AnsP (sp k) B R b v L ru ne w e w') :=
  fun w h hB => ho k B w h hk trivial hB
set_option maxRecDepth 100000 in
set_option maxHeartbeats 16000000 in
theorem ypart_all (R b : Nat) (v : Value) (L : List Tok) (ru ne : Nat) (inn : Nat → Pr) (hg : Good L) (ha : Adv L inn) (ho : MC 86 (repS L inn) (fun _ => True) R b v L ru ne) :
    MC 78 (partS L inn) (fun _ => True) R b v L ru ne := by
  intro k B w h hk _ hB
  have fd3 := Tryz.fld3
  have HT := ytoken_g R b v L k ru ne hk hg
  have HS := ysign_g R b v L k ru ne hk hg
  have HE : Hid (En w R b v L k ru ne (w.alloc Zo)) := En.start h
  have hkl : (k : Int) + 1 < 9223372036854775807 := by have := hg.len; omega
  unfold partS
  obtain ⟨Z, hZ⟩ : ∃ Z, Z = sgT (gL L k) := ⟨_, rfl⟩
  rw [← hZ] at HS ⊢
  obtain ⟨t, ht⟩ : ∃ t, t = gL L k := ⟨_, rfl⟩
  rw [← ht] at HT ⊢
  clear ht
  obtain ⟨tk, tT, tC, p⟩ := t
  by_cases hz12 : Z = { data := #[33] }
  · rw [if_pos hz12]
    have hk1 := hg.sg hk (hZ ▸ hz12)
    have HO := yrepeated_at ho (k + 1) (w.heap.size + 1) hk1
    subst hz12
    clear hZ ho h
    cases hs : repS L inn (k + 1) with
    | inl c =>
      rw [hs] at HO
      clear hs
      show Calls _ _ _ _ (fun e w' => AnsP (.inl c) B R b v L ru ne w e w')
      go_enter Tryz.func78, Tryz.ntmps78
      go_wp2_with fail
      refine (HT.out _ HE.out.1).mono ?_
      rintro e w1 ⟨rfl, hb1⟩
      have HE1 := hid (HE.out.below hb1)
      clear hb1 HE HT
      dsimp only [tkv]
      go_wp2_with fail
      refine (HS.out _ HE1.out.1).mono ?_
      rintro e w2 ⟨rfl, hb2⟩
      have HE2 := hid (HE1.out.below hb2)
      clear hb2 HE1 HS
      obtain ⟨r0, r1, r2, r3, q0, q1, q2, q3⟩ := HE2.out.1.cells
      have hR2 := HE2.out.1.lt
      have HE3 := hid HE2.out.next
      clear HE2
      go_wp2_with fail
      refine (HO.out _ HE3.out.1 (by have := HE3.out.size; omega)).mono ?_
      rintro e w3 hA
      have HA : Hid (AnsP (.inl c) B R b v L ru ne w e w3) := AnsP.up HE3.out hA
      obtain ⟨f, rfl, _, _⟩ := hA
      clear HE3 HO r0 r1 r2 r3 q0 q1 q2 q3
      go_wp2_with fail
      exact ⟨rfl, HA.out⟩
    | inr q =>
      obtain ⟨n, k'⟩ := q
      rw [hs] at HO
      clear hs
      show Calls _ _ _ _ (fun e w' => AnsP (.inr (.mk 12 { data := #[] } 0 [n] p, k')) B R b v L ru ne w e w')
      go_enter Tryz.func78, Tryz.ntmps78
      go_wp2_with fail
      refine (HT.out _ HE.out.1).mono ?_
      rintro e w1 ⟨rfl, hb1⟩
      have HE1 := hid (HE.out.below hb1)
      clear hb1 HE HT
      dsimp only [tkv]
      go_wp2_with fail
      refine (HS.out _ HE1.out.1).mono ?_
      rintro e w2 ⟨rfl, hb2⟩
      have HE2 := hid (HE1.out.below hb2)
      clear hb2 HE1 HS
      obtain ⟨r0, r1, r2, r3, q0, q1, q2, q3⟩ := HE2.out.1.cells
      have hR2 := HE2.out.1.lt
      have HE3 := hid HE2.out.next
      clear HE2
      go_wp2_with fail
      refine (HO.out _ HE3.out.1 (by have := HE3.out.size; omega)).mono ?_
      rintro e w3 ⟨cs, rfl, HN, HR, HG⟩
      have HE4 := hid (HE3.out.grown HR.out HG.out)
      clear HE3 HO HR HG r0 r1 r2 r3 q0 q1 q2 q3 hR2
      have HV := hid (yover_any 12 p (w.heap.size + 1) n _ _ HN.out (by have := HE4.out.size; omega))
      obtain ⟨kd, T, C, so, sl, sc, hcs⟩ := HN.out.shape
      obtain ⟨p', hp⟩ : ∃ p', p' = n.at' := ⟨_, rfl⟩
      rw [← hp] at hcs
      subst hcs
      clear hp
      dsimp only [n8] at HV ⊢
      go_wp2_with fail
      refine HV.out.mono ?_
      rintro e w5 ⟨cs, rfl, HN5, HB5⟩
      have HE5 := hid (HE4.out.below HB5.out)
      clear HV HN HE4 HB5
      obtain ⟨kd2, T2, C2, so2, sl2, sc2, hcs⟩ := HN5.out.shape
      rw [show (Nd.mk 12 { data := #[] } 0 [n] p).at' = p from rfl] at hcs
      subst hcs
      dsimp only [n8]
      obtain ⟨⟨k0, k1, k2, k3, k4, k5, k6, k7⟩, ⟨f0, f1, f2, f3, f4, f5, f6, f7⟩⟩ := HE5.out.cells
      go_wp2_with fail
      (try simp only [Exit.inBlock, Exit.then])
      obtain ⟨⟨c0, c1, c2, c3, c4, c5, c6, c7⟩, _⟩ := eight_cells (st8_block HE5.out.2.2.1 (kd2 : Int) T2 (wd C2 0 : Nat) (wd C2 1 : Nat) (wd C2 2 : Nat) (wd C2 3 : Nat) (.slice so2 sl2 sc2) (p : Int))
      refine bodyPost_ret (v := .agg (n8 kd2 T2 C2 (.slice so2 sl2 sc2) p).toArray) (by simp [results, Tryz.results78, go_sem, c0, c1, c2, c3, c4, c5, c6, c7]) rfl ?_
      exact HE5.out.fin HN5.out hB
  rw [if_neg hz12]
  have e1 : (Z.toList == [33]) = false := str_neL hz12
  by_cases hz11 : Z = { data := #[38] }
  · rw [if_pos hz11]
    have hk1 := hg.sg hk (hZ ▸ hz11)
    have HO := yrepeated_at ho (k + 1) (w.heap.size + 1) hk1
    subst hz11
    clear hz12 e1
    clear hZ ho h
    cases hs : repS L inn (k + 1) with
    | inl c =>
      rw [hs] at HO
      clear hs
      show Calls _ _ _ _ (fun e w' => AnsP (.inl c) B R b v L ru ne w e w')
      go_enter Tryz.func78, Tryz.ntmps78
      go_wp2_with fail
      refine (HT.out _ HE.out.1).mono ?_
      rintro e w1 ⟨rfl, hb1⟩
      have HE1 := hid (HE.out.below hb1)
      clear hb1 HE HT
      dsimp only [tkv]
      go_wp2_with fail
      refine (HS.out _ HE1.out.1).mono ?_
      rintro e w2 ⟨rfl, hb2⟩
      have HE2 := hid (HE1.out.below hb2)
      clear hb2 HE1 HS
      obtain ⟨r0, r1, r2, r3, q0, q1, q2, q3⟩ := HE2.out.1.cells
      have hR2 := HE2.out.1.lt
      have HE3 := hid HE2.out.next
      clear HE2
      go_wp2_with fail
      refine (HO.out _ HE3.out.1 (by have := HE3.out.size; omega)).mono ?_
      rintro e w3 hA
      have HA : Hid (AnsP (.inl c) B R b v L ru ne w e w3) := AnsP.up HE3.out hA
      obtain ⟨f, rfl, _, _⟩ := hA
      clear HE3 HO r0 r1 r2 r3 q0 q1 q2 q3
      go_wp2_with fail
      exact ⟨rfl, HA.out⟩
    | inr q =>
      obtain ⟨n, k'⟩ := q
      rw [hs] at HO
      clear hs
      show Calls _ _ _ _ (fun e w' => AnsP (.inr (.mk 11 { data := #[] } 0 [n] p, k')) B R b v L ru ne w e w')
      go_enter Tryz.func78, Tryz.ntmps78
      go_wp2_with fail
      refine (HT.out _ HE.out.1).mono ?_
      rintro e w1 ⟨rfl, hb1⟩
      have HE1 := hid (HE.out.below hb1)
      clear hb1 HE HT
      dsimp only [tkv]
      go_wp2_with fail
      refine (HS.out _ HE1.out.1).mono ?_
      rintro e w2 ⟨rfl, hb2⟩
      have HE2 := hid (HE1.out.below hb2)
      clear hb2 HE1 HS
      obtain ⟨r0, r1, r2, r3, q0, q1, q2, q3⟩ := HE2.out.1.cells
      have hR2 := HE2.out.1.lt
      have HE3 := hid HE2.out.next
      clear HE2
      go_wp2_with fail
      refine (HO.out _ HE3.out.1 (by have := HE3.out.size; omega)).mono ?_
      rintro e w3 ⟨cs, rfl, HN, HR, HG⟩
      have HE4 := hid (HE3.out.grown HR.out HG.out)
      clear HE3 HO HR HG r0 r1 r2 r3 q0 q1 q2 q3 hR2
      have HV := hid (yover_any 11 p (w.heap.size + 1) n _ _ HN.out (by have := HE4.out.size; omega))
      obtain ⟨kd, T, C, so, sl, sc, hcs⟩ := HN.out.shape
      obtain ⟨p', hp⟩ : ∃ p', p' = n.at' := ⟨_, rfl⟩
      rw [← hp] at hcs
      subst hcs
      clear hp
      dsimp only [n8] at HV ⊢
      go_wp2_with fail
      refine HV.out.mono ?_
      rintro e w5 ⟨cs, rfl, HN5, HB5⟩
      have HE5 := hid (HE4.out.below HB5.out)
      clear HV HN HE4 HB5
      obtain ⟨kd2, T2, C2, so2, sl2, sc2, hcs⟩ := HN5.out.shape
      rw [show (Nd.mk 11 { data := #[] } 0 [n] p).at' = p from rfl] at hcs
      subst hcs
      dsimp only [n8]
      obtain ⟨⟨k0, k1, k2, k3, k4, k5, k6, k7⟩, ⟨f0, f1, f2, f3, f4, f5, f6, f7⟩⟩ := HE5.out.cells
      go_wp2_with fail
      (try simp only [Exit.inBlock, Exit.then])
      obtain ⟨⟨c0, c1, c2, c3, c4, c5, c6, c7⟩, _⟩ := eight_cells (st8_block HE5.out.2.2.1 (kd2 : Int) T2 (wd C2 0 : Nat) (wd C2 1 : Nat) (wd C2 2 : Nat) (wd C2 3 : Nat) (.slice so2 sl2 sc2) (p : Int))
      refine bodyPost_ret (v := .agg (n8 kd2 T2 C2 (.slice so2 sl2 sc2) p).toArray) (by simp [results, Tryz.results78, go_sem, c0, c1, c2, c3, c4, c5, c6, c7]) rfl ?_
      exact HE5.out.fin HN5.out hB
  rw [if_neg hz11]
  have e2 : (Z.toList == [38]) = false := str_neL hz11
  have HO := yrepeated_at ho k (w.heap.size + 1) hk
  clear hZ ho h hz11 hz12
  cases hs : repS L inn k with
  | inl c =>
    rw [hs] at HO
    clear hs
    go_enter Tryz.func78, Tryz.ntmps78
    go_wp2_with fail
    refine (HT.out _ HE.out.1).mono ?_
    rintro e w1 ⟨rfl, hb1⟩
    have HE1 := hid (HE.out.below hb1)
    clear hb1 HE HT
    dsimp only [tkv]
    go_wp2_with fail
    refine (HS.out _ HE1.out.1).mono ?_
    rintro e w2 ⟨rfl, hb2⟩
    have HE2 := hid (HE1.out.below hb2)
    clear hb2 HE1 HS
    go_wp2_with fail
    refine (HO.out _ HE2.out.1 (by have := HE2.out.size; omega)).mono ?_
    rintro e w3 hA
    have HA : Hid (AnsP (.inl c) B R b v L ru ne w e w3) := AnsP.up HE2.out hA
    obtain ⟨f, rfl, _, _⟩ := hA
    clear HE2 HO
    go_wp2_with fail
    exact ⟨rfl, HA.out⟩
  | inr q =>
    obtain ⟨n, k'⟩ := q
    rw [hs] at HO
    clear hs
    go_enter Tryz.func78, Tryz.ntmps78
    go_wp2_with fail
    refine (HT.out _ HE.out.1).mono ?_
    rintro e w1 ⟨rfl, hb1⟩
    have HE1 := hid (HE.out.below hb1)
    clear hb1 HE HT
    dsimp only [tkv]
    go_wp2_with fail
    refine (HS.out _ HE1.out.1).mono ?_
    rintro e w2 ⟨rfl, hb2⟩
    have HE2 := hid (HE1.out.below hb2)
    clear hb2 HE1 HS
    go_wp2_with fail
    refine (HO.out _ HE2.out.1 (by have := HE2.out.size; omega)).mono ?_
    rintro e w3 ⟨cs, rfl, HN, HR, HG⟩
    have HE4 := hid (HE2.out.grown HR.out HG.out)
    clear HE2 HO HR HG
    obtain ⟨kd, T, C, so, sl, sc, hcs⟩ := HN.out.shape
    obtain ⟨p', hp⟩ : ∃ p', p' = n.at' := ⟨_, rfl⟩
    rw [← hp] at hcs
    subst hcs
    clear hp
    dsimp only [n8]
    obtain ⟨⟨k0, k1, k2, k3, k4, k5, k6, k7⟩, ⟨f0, f1, f2, f3, f4, f5, f6, f7⟩⟩ := HE4.out.cells
    go_wp2_with fail
    (try simp only [Exit.inBlock, Exit.then])
    obtain ⟨⟨c0, c1, c2, c3, c4, c5, c6, c7⟩, _⟩ := eight_cells (st8_block HE4.out.2.2.1 (kd : Int) T (wd C 0 : Nat) (wd C 1 : Nat) (wd C 2 : Nat) (wd C 3 : Nat) (.slice so sl sc) (p' : Int))
    refine bodyPost_ret (v := .agg (n8 kd T C (.slice so sl sc) p').toArray) (by simp [results, Tryz.results78, go_sem, c0, c1, c2, c3, c4, c5, c6, c7]) rfl ?_
    exact HE4.out.fin HN.out hB
end Go.Proofs.YtkofhmmnlapnnaaGreatDoor
