/-
  What the reader's method inner answers, if choice answers as it should; and so choice, whatever is open. Conditions: those that each theorem names.
-/
import Derived.Test.YtkofhmmnlapnnaaGreatDoorY11
namespace Go.Proofs.YtkofhmmnlapnnaaGreatDoor
open Go.RowKit
set_option linter.unusedVariables false
theorem Rd.setNest {w : World} {R b : Nat} {v : Value} {L : List Tok} {k ru ne : Nat} (h : Rd w R b v L k ru ne) : Rd (w.setCell ⟨R, 3, none⟩ (.int .i64 ((ne : Int) + 1))) R b v L k ru (ne + 1) := by
  have h2 := h.nest (ne + 1)
  rw [show (((ne + 1 : Nat) : Int)) = (ne : Int) + 1 by omega] at h2
  exact h2
theorem En.nestU {w W : World} {R b : Nat} {v : Value} {L : List Tok} {k ru ne : Nat} (h : En w R b v L k ru ne W) : En w R b v L k ru (ne + 1) (W.setCell ⟨R, 3, none⟩ (.int .i64 ((ne : Int) + 1))) :=
  ⟨h.1.setNest, G.setR h.2.1, (Below.heap_setCell _ _ _ _ (show w.heap.size ≠ R by have := h.lt; omega)).trans h.2.2.1, h.2.2.2.1, h.2.2.2.2⟩
theorem En.nestD {w W : World} {R b : Nat} {v : Value} {L : List Tok} {k ru ne : Nat} (h : En w R b v L k ru (ne + 1) W) : En w R b v L k ru ne (W.setCell ⟨R, 3, none⟩ (.int .i64 (ne : Int))) :=
  ⟨h.1.nest ne, G.setR h.2.1, (Below.heap_setCell _ _ _ _ (show w.heap.size ≠ R by have := h.lt; omega)).trans h.2.2.1, h.2.2.2.1, h.2.2.2.2⟩
theorem En.start' {w W : World} {R b : Nat} {v : Value} {L : List Tok} {k k0 ru ne ne0 : Nat} (h0 : Rd w R b v L k0 ru ne0) (h : Rd W R b v L k ru ne) (hg : w.grownBy W (some R)) (hs : W.heap.size = w.heap.size) : En w R b v L k ru ne (W.alloc Zo) :=
  ⟨h.alloc _, G.alloc hg, by rw [← hs]; exact new_block_at W _ rfl, h0.lt, fun g hg e => by have := (h0.2.lt _ e).2; omega⟩
set_option maxRecDepth 100000 in
set_option maxHeartbeats 8000000 in
theorem yinner_full (R b : Nat) (v : Value) (L : List Tok) (ru : Nat) (hg : Good L) :
    MC 93 (innS L 0) (fun k => sgT (gL L k) = { data := #[40] }) R b v L ru 24 := by
  intro k B w h hk _ hB
  rw [innS]
  have HF := yfault_g R b v L k ru 24 hk hg
  have HE : Hid (En w R b v L k ru 24 (w.alloc Zo)) := En.start h
  obtain ⟨r0, r1, r2, r3, q0, q1, q2, q3⟩ := HE.out.1.cells
  have r3' : (w.alloc Zo).cell? ⟨R, 3, none⟩ = some (.int .i64 24) := r3
  clear h r0 r1 r2 r3 q0 q1 q2 q3
  go_enter Tryz.func93, Tryz.ntmps93
  go_wp2_with fail
  refine (HF.out 2 _ HE.out.1).mono ?_
  rintro e w1 ⟨f, rfl, HP⟩
  have HA : Hid (AnsP (.inl (2, (gL L k).2.2.2)) B R b v L ru 24 w (.panicked [{ v := .iface 64 (.pointer (some ⟨f, 0, none⟩)), recovered := false }]) w1) := AnsP.up (B' := 0) (ne' := 24) HE.out ⟨f, rfl, hid ⟨HP.out.1, HP.out.2.1⟩, hid (G.below HP.out.2.2)⟩
  clear HP HE HF r3'
  go_wp2_with fail
  exact ⟨rfl, HA.out⟩
set_option maxRecDepth 100000 in
set_option maxHeartbeats 16000000 in
theorem yinner_any (R b : Nat) (v : Value) (L : List Tok) (ru ne d : Nat) (hg : Good L) (hne : ne < 24) (ho : MC 60 (chS L (innS L d)) (fun _ => True) R b v L ru (ne + 1)) :
    MC 93 (innS L (d + 1)) (fun k => sgT (gL L k) = { data := #[40] }) R b v L ru ne := by
  intro k B w h hk hs0 hB
  rw [innS]
  have hk1 := hg.sg hk hs0
  have hkl : (k : Int) + 1 < 9223372036854775807 := by have := hg.len; omega
  have t24 : ((ne : Int) == 24) = false := by simp; omega
  have HE2 : Hid (En w R b v L (k + 1) ru (ne + 1) (((w.setCell ⟨R, 1, none⟩ (.int .i64 ((k : Int) + 1))).setCell ⟨R, 3, none⟩ (.int .i64 ((ne : Int) + 1))).alloc Zo)) := En.start' h h.next1.setNest (G.setR (G.setR (G.refl w R))) (by simp)
  have HO := yrepeated_at ho (k + 1) (w.heap.size + 1) hk1
  have HG : Hid (Good L) := hg
  have HA0 := hid (innS_adv hg d)
  obtain ⟨r0, r1, r2, r3, q0, q1, q2, q3⟩ := h.cells
  have hRl := h.lt
  clear h ho hs0 hg
  cases hs : chS L (innS L d) (k + 1) with
  | inl c =>
    rw [hs] at HO
    clear hs
    show Calls _ _ _ _ (fun e w' => AnsP (.inl c) B R b v L ru ne w e w')
    go_enter Tryz.func93, Tryz.ntmps93
    go_wp2_with fail
    refine (HO.out _ HE2.out.1 (by have := HE2.out.size; omega)).mono ?_
    rintro e w3 hA
    have HA : Hid (AnsP (.inl c) B R b v L ru ne w e w3) := AnsP.up HE2.out hA
    obtain ⟨f, rfl, _, _⟩ := hA
    clear HE2 HO r0 r1 r2 r3 q0 q1 q2 q3
    go_wp2_with fail
    exact ⟨rfl, HA.out⟩
  | inr q =>
    obtain ⟨n, k'⟩ := q
    rw [hs] at HO
    have hk' := chS_adv HG.out HA0.out hk1 hs
    have HS := ysign_g R b v L k' ru (ne + 1) hk'.2 HG.out
    have HW := ywrong_g R b v L k' ru (ne + 1) hk'.2 HG.out
    have hkl2 : (k' : Int) + 1 < 9223372036854775807 := by have := HG.out.len; omega
    unfold innE
    simp only
    clear hs HA0
    by_cases hz : sgT (gL L k') = { data := #[41] }
    · rw [if_pos hz]
      rw [hz] at HS
      clear hz HW
      go_enter Tryz.func93, Tryz.ntmps93
      go_wp2_with fail
      refine (HO.out _ HE2.out.1 (by have := HE2.out.size; omega)).mono ?_
      rintro e w3 ⟨cs, rfl, HN, HR, HGr⟩
      have HE3 := hid (HE2.out.grown HR.out HGr.out)
      clear HE2 HO HR HGr r0 r1 r2 r3 q0 q1 q2 q3 hRl
      obtain ⟨kd, T, C, so, sl, sc, hcs⟩ := HN.out.shape
      obtain ⟨p, hp⟩ : ∃ p, p = n.at' := ⟨_, rfl⟩
      rw [← hp] at hcs
      subst hcs
      clear hp
      dsimp only [n8]
      have HE4 := hid (HE3.out.alloc (.cells #[.int .i64 (kd : Int), .string T, .int .u64 (wd C 0 : Nat), .int .u64 (wd C 1 : Nat), .int .u64 (wd C 2 : Nat), .int .u64 (wd C 3 : Nat), .slice so sl sc, .int .i64 (p : Int)] 46))
      have HN4 := hid (HN.out.below (((Below.refl _ w3).alloc (Nat.le_refl _) (.cells #[.int .i64 (kd : Int), .string T, .int .u64 (wd C 0 : Nat), .int .u64 (wd C 1 : Nat), .int .u64 (wd C 2 : Nat), .int .u64 (wd C 3 : Nat), .slice so sl sc, .int .i64 (p : Int)] 46))))
      have HK4 : Hid ((w3.alloc (.cells #[.int .i64 (kd : Int), .string T, .int .u64 (wd C 0 : Nat), .int .u64 (wd C 1 : Nat), .int .u64 (wd C 2 : Nat), .int .u64 (wd C 3 : Nat), .slice so sl sc, .int .i64 (p : Int)] 46)).heap[w3.heap.size]? = some (.cells #[.int .i64 (kd : Int), .string T, .int .u64 (wd C 0 : Nat), .int .u64 (wd C 1 : Nat), .int .u64 (wd C 2 : Nat), .int .u64 (wd C 3 : Nat), .slice so sl sc, .int .i64 (p : Int)] 46)) := new_block_at _ _ rfl
      have HS4 : Hid (w.heap.size < w3.heap.size) := HE3.out.size
      clear HE3 HN
      go_wp2_with fail
      refine (HS.out _ HE4.out.1).mono ?_
      rintro e w5 ⟨rfl, hb5⟩
      have HE5 := hid (HE4.out.below hb5)
      have HN5 := hid (HN4.out.below hb5)
      have HK5 := hid ((hb5.block _ (by simp)).trans HK4.out)
      have HL5 : Hid (w3.heap.size < w5.heap.size) := Nat.lt_of_lt_of_le (by simp) hb5.size
      clear hb5 HS HE4 HN4 HK4
      obtain ⟨⟨m0, m1, m2, m3, m4, m5, m6, m7⟩, ⟨y0, y1, y2, y3, y4, y5, y6, y7⟩⟩ := eight_cells HK5.out
      obtain ⟨⟨k0, k1, k2, k3, k4, k5, k6, k7⟩, ⟨f0, f1, f2, f3, f4, f5, f6, f7⟩⟩ := HE5.out.cells
      obtain ⟨r0, r1, r2, r3, q0, q1, q2, q3⟩ := HE5.out.1.cells
      have r3' : w5.cell? ⟨R, 3, none⟩ = some (.int .i64 ((ne : Int) + 1)) := by rw [r3]; simp
      clear r3
      have hRl := HE5.out.lt
      have hS4 := HS4.out
      have hL5 := HL5.out
      have hRN : R ≠ w3.heap.size := by omega
      have hRQ : R ≠ w.heap.size := by omega
      have hQN : w.heap.size ≠ w3.heap.size := by omega
      have HE7 := hid HE5.out.next.nestD
      have HN7 := hid (NdIs.grown HN5.out (G.setR (u := .int .i64 (ne : Int)) (j := 3) (G.setR (u := .int .i64 ((k' : Int) + 1)) (j := 1) (G.refl w5 R))) HE5.out.1.1)
      clear HE5 HN5 HK5 HS4 HL5
      go_wp2_with fail
      (try simp only [Exit.inBlock, Exit.then])
      obtain ⟨⟨c0, c1, c2, c3, c4, c5, c6, c7⟩, _⟩ := eight_cells (st8_block HE7.out.2.2.1 (kd : Int) T (wd C 0 : Nat) (wd C 1 : Nat) (wd C 2 : Nat) (wd C 3 : Nat) (.slice so sl sc) (p : Int))
      refine bodyPost_ret (v := .agg (n8 kd T C (.slice so sl sc) p).toArray) (by simp [results, Tryz.results93, go_sem, c0, c1, c2, c3, c4, c5, c6, c7]) rfl ?_
      exact HE7.out.fin HN7.out hB
    · rw [if_neg hz]
      obtain ⟨Z, hZ⟩ : ∃ Z, Z = sgT (gL L k') := ⟨_, rfl⟩
      rw [← hZ] at HS hz
      have z1 : (Z.toList == [41]) = false := str_neL hz
      clear hz hZ
      go_enter Tryz.func93, Tryz.ntmps93
      go_wp2_with fail
      refine (HO.out _ HE2.out.1 (by have := HE2.out.size; omega)).mono ?_
      rintro e w3 ⟨cs, rfl, HN, HR, HGr⟩
      have HE3 := hid (HE2.out.grown HR.out HGr.out)
      clear HE2 HO HR HGr r0 r1 r2 r3 q0 q1 q2 q3 hRl
      obtain ⟨kd, T, C, so, sl, sc, hcs⟩ := HN.out.shape
      obtain ⟨p, hp⟩ : ∃ p, p = n.at' := ⟨_, rfl⟩
      rw [← hp] at hcs
      subst hcs
      clear hp
      dsimp only [n8]
      have HE4 := hid (HE3.out.alloc (.cells #[.int .i64 (kd : Int), .string T, .int .u64 (wd C 0 : Nat), .int .u64 (wd C 1 : Nat), .int .u64 (wd C 2 : Nat), .int .u64 (wd C 3 : Nat), .slice so sl sc, .int .i64 (p : Int)] 46))
      clear HE3 HN
      go_wp2_with fail
      refine (HS.out _ HE4.out.1).mono ?_
      rintro e w5 ⟨rfl, hb5⟩
      have HE5 := hid (HE4.out.below hb5)
      clear hb5 HS HE4
      go_wp2_with fail
      refine (HW.out _ HE5.out.1).mono ?_
      rintro e w6 ⟨f, rfl, HP⟩
      have HA : Hid (AnsP (.inl (wrC (gL L k'), (gL L k').2.2.2)) B R b v L ru ne w (.panicked [{ v := .iface 64 (.pointer (some ⟨f, 0, none⟩)), recovered := false }]) w6) := AnsP.up (B' := 0) (ne' := ne) HE5.out ⟨f, rfl, hid ⟨HP.out.1, HP.out.2.1⟩, hid (G.below HP.out.2.2)⟩
      clear HP HE5 HW
      go_wp2_with fail
      exact ⟨rfl, HA.out⟩
theorem ychoice_of (R b : Nat) (v : Value) (L : List Tok) (ru ne : Nat) (inn : Nat → Pr) (hg : Good L) (ha : Adv L inn) (hi : MC 93 inn (fun k => sgT (gL L k) = { data := #[40] }) R b v L ru ne) :
    MC 60 (chS L inn) (fun _ => True) R b v L ru ne :=
  ychoice_any R b v L ru ne inn hg ha (yrow_any R b v L ru ne inn hg ha (ypart_all R b v L ru ne inn hg ha (yrepeated_any R b v L ru ne inn hg ha (yone_any R b v L ru ne inn hg hi))))
/-- What choice answers, with d more parentheses that may be opened. -/
theorem ychoice_all (R b : Nat) (v : Value) (L : List Tok) (ru : Nat) (hg : Good L) : ∀ (d ne : Nat), ne + d = 24 → MC 60 (chS L (innS L d)) (fun _ => True) R b v L ru ne
  | 0, ne, h => by
    have h' : ne = 24 := by omega
    subst h'
    exact ychoice_of R b v L ru 24 _ hg (innS_adv hg 0) (yinner_full R b v L ru hg)
  | d + 1, ne, h => ychoice_of R b v L ru ne _ hg (innS_adv hg (d + 1)) (yinner_any R b v L ru ne d hg (by omega) (ychoice_all R b v L ru hg d (ne + 1) (by omega)))
end Go.Proofs.YtkofhmmnlapnnaaGreatDoor
