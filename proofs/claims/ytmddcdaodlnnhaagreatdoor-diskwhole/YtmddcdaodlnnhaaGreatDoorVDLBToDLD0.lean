/-
  The document's disk in memory; its New, Arm, act, find. Conditions: those that each theorem names.
  The document's act, may, Read. Conditions: those that each theorem names.
  Two that may come up; bytes appended to an empty row. Conditions: those that each theorem names.
-/
import Derived.Test.YtmddcdaodlnnhaaGreatDoorVDLA
namespace Go.Proofs.YtmddcdaodlnnhaaGreatDoor
open Go.RowKit Go.Maps
set_option linter.unusedVariables false
/-- The document's disk: its block, its row, its files; is it off; how many acts ahead, the part. -/
structure Xd (m T : Nat) (w : World) (x : Nat) (v : Value) (l : List Gx) (off : Bool) (ac pa : Int) : Prop where
  blk : w.heap[x]? = some (.cells #[v, .bool off, .int .i64 ac, .int .i64 pa] 37)
  mx : m ≤ x
  row : RowG m w v l
  rise : Rise l
  few : l.length ≤ T
  bd : ∀ g ∈ l, g.k ≤ T ∧ g.n.length ≤ 32
def OX (x : Nat) (v : Value) (l : List Gx) : Nat → Prop := fun g => g = x ∨ OR v l g
section
variable {m T T' : Nat} {w w' W X Y : World} {x : Nat} {v : Value} {l : List Gx} {off : Bool} {ac pa : Int}
theorem Xd.lt (h : Xd m T w x v l off ac pa) (g : Nat) (hg : OX x v l g) : m ≤ g ∧ g < w.heap.size := by
  rcases hg with rfl | hg
  · exact ⟨h.mx, node_lt h.blk⟩
  · exact h.row.lt g hg
theorem Xd.kx {L : Nat → Prop} (h : Xd m T w x v l off ac pa) (hk : Kx L w w') (hL : ∀ g, OX x v l g → ¬ L g) : Xd m T w' x v l off ac pa :=
  ⟨(hk.block _ (node_lt h.blk) (hL _ (.inl rfl))).trans h.blk, h.mx, h.row.kx hk fun g hg => hL g (.inr hg), h.rise, h.few, h.bd⟩
theorem Xd.below (h : Xd m T w x v l off ac pa) (hb : Below w.heap.size w w') : Xd m T w' x v l off ac pa := h.kx (L := fun _ => False) (.below hb) fun _ _ e => e
theorem Xd.mono {T' : Nat} (h : Xd m T w x v l off ac pa) (hT : T ≤ T') : Xd m T' w x v l off ac pa :=
  ⟨h.blk, h.mx, h.row, h.rise, Nat.le_trans h.few hT, fun g hg => ⟨Nat.le_trans (h.bd g hg).1 hT, (h.bd g hg).2⟩⟩
theorem Xd.nx (h : Xd m T w x v l off ac pa) : ¬ OR v l x := by
  rintro (e | ⟨g, hg, e⟩)
  · obtain ⟨_, _, cur, hc⟩ := own_lt h.row.own _ e
    rw [h.blk] at hc
    cases hc
  · obtain ⟨_, _, cur, hc⟩ := own_lt (h.row.rep g hg).1 _ e
    rw [h.blk] at hc
    cases hc
/-- The disk's own cells turned. -/
theorem Xd.flags (h : Xd m T w x v l off ac pa) {off' : Bool} {ac' pa' : Int} (hk : Kx (fun g => g = x) w w') (hb : w'.heap[x]? = some (.cells #[v, .bool off', .int .i64 ac', .int .i64 pa'] 37)) :
    Xd m T w' x v l off' ac' pa' ∧ Stp (OX x v l) w (OX x v l) w' :=
  ⟨⟨hb, h.mx, h.row.kx hk fun g hg e => h.nx (e ▸ hg), h.rise, h.few, h.bd⟩, hk.wide (fun g e => .inl e), fun g hg => .inl hg⟩
theorem four_cells {w : World} {x : Nat} {a b c e : Value} {t : TypeId} (h : w.heap[x]? = some (.cells #[a, b, c, e] t)) :
    (w.cell? ⟨x, 0, none⟩ = some a ∧ w.cell? ⟨x, 1, none⟩ = some b ∧ w.cell? ⟨x, 2, none⟩ = some c ∧ w.cell? ⟨x, 3, none⟩ = some e) ∧
    (w.frozen? ⟨x, 0, none⟩ = false ∧ w.frozen? ⟨x, 1, none⟩ = false ∧ w.frozen? ⟨x, 2, none⟩ = false ∧ w.frozen? ⟨x, 3, none⟩ = false) :=
  ⟨⟨(cell_in h 0 _ rfl).1, (cell_in h 1 _ rfl).1, (cell_in h 2 _ rfl).1, (cell_in h 3 _ rfl).1⟩, (cell_in h 0 _ rfl).2, (cell_in h 1 _ rfl).2, (cell_in h 2 _ rfl).2, (cell_in h 3 _ rfl).2⟩
theorem rdnew_ok (m : Nat) (w : World) (hm : m ≤ w.heap.size) : Calls Tryz.prog 9 #[] w fun e w' => e = .returned (.pointer (some ⟨w.heap.size, 0, none⟩)) ∧ Xd m 0 w' w.heap.size (.slice none 0 0) [] false (-1) 0 ∧ Below w.heap.size w w' := by
  obtain ⟨w1, hw1⟩ : ∃ w1, w1 = w.alloc (.cells #[.slice none 0 0, .bool false, .int .i64 (-1), .int .i64 0] 37) := ⟨_, rfl⟩
  have hb1 : Below w.heap.size w w1 := by rw [hw1]; exact below_al w _
  have hT : Xd m 0 w1 w.heap.size (.slice none 0 0) [] false (-1) 0 := ⟨by rw [hw1]; exact new_block_at w _ rfl, hm, RowG.nil _ _, List.Pairwise.nil, Nat.le_refl _, by simp⟩
  have HT := hid (And.intro hT hb1)
  have HW := hid hw1
  clear hb1 hT hw1
  go_enter Tryz.func9, Tryz.ntmps9
  go_wp2_with fail
  go_ret
  rw [← HW.out]
  exact ⟨rfl, HT.out⟩
set_option maxRecDepth 100000 in
theorem rdarm_ok (h : Xd m T w x v l off ac pa) (a p : Int) : Calls Tryz.prog 26 #[.pointer (some ⟨x, 0, none⟩), .int .i64 a, .int .i64 p] w fun e w' => e = .returned (.tuple #[]) ∧ Xd m T w' x v l off (max a (-1)) p ∧ Stp (OX x v l) w (OX x v l) w' := by
  have hlt := node_lt h.blk
  obtain ⟨⟨c0, c1, c2, c3⟩, f0, f1, f2, f3⟩ := four_cells h.blk
  have h1 := set_in h.blk 2 (.int .i64 (max a (-1)))
  have h2 := set_in h1 3 (.int .i64 p)
  have HD := hid (h.flags (off' := off) (ac' := max a (-1)) (pa' := p) ((Kx.set (P := fun g => g = x) (g := x) rfl (.int .i64 (max a (-1)))).trans (Kx.set (P := fun g => g = x) (g := x) rfl (.int .i64 p))) h2)
  clear h h1 h2
  go_enter Tryz.func26, Tryz.ntmps26
  go_wp2_with fail
  exact bodyPost_end (v := .tuple #[]) (by simp [results, Tryz.results26, go_sem]) rfl ⟨rfl, HD.out⟩
/-- What find tells. -/
def FindR (w : World) (l : List Gx) (n : Nm) (e : Ending) (w' : World) : Prop :=
  Below w.heap.size w w' ∧ ((∃ k, ∃ h : k < l.length, l[k].n = n ∧ fnd l n = some l[k] ∧ e = .returned (.int .i64 (k : Int))) ∨ (fnd l n = none ∧ e = .returned (.int .i64 (-1))))
set_option maxRecDepth 100000 in
set_option maxHeartbeats 2000000 in
theorem rdfind_ok (h : Xd m T w x v l off ac pa) (hT : T < 1099511627776) (S : ByteArray) :
    Calls Tryz.prog 49 #[.pointer (some ⟨x, 0, none⟩), .string S] w (FindR w l S.data.toList) := by
  obtain ⟨so, cp, rfl, hc⟩ := h.row.src
  have c0 := (four_cells h.blk).1.1
  have hlt := node_lt h.blk
  have hfew := h.few
  have HC := hid hc
  have HC0 := hid (And.intro c0 hlt)
  clear h hc c0 hlt
  go_enter Tryz.func49, Tryz.ntmps49
  go_wp2_with fail
  go_loopw [5] (fun i wr => ∃ k : Nat, i = .int .i64 (k : Int) ∧ k ≤ l.length ∧ Hid (Below w.heap.size w wr ∧ ∀ j (hj : j < l.length), j < k → nm l[j] ≠ S.data.toList)) (fun i _ => l.length - (intOf i).toNat)
  case atStart => exact ⟨0, rfl, Nat.zero_le _, hid ⟨Below.refl _ _, fun j _ hj => absurd hj (by omega)⟩⟩
  case round =>
    obtain ⟨k, rfl, hk, HB⟩ := hrel
    have c0 := (HB.out.1.cell (p := ⟨x, 0, none⟩) HC0.out.2).trans HC0.out.1
    have hlt := Nat.lt_of_lt_of_le HC0.out.2 HB.out.1.size
    by_cases hkn : k < l.length
    · have hkI : (k : Int) < (l.length : Int) := by omega
      obtain ⟨g, rfl, hg, q0, _, _⟩ := (HC.out.below HB.out.1).cell k hkn
      obtain ⟨sn, hsn⟩ : ∃ sn : ByteArray, sn = ⟨l[k].n.toArray⟩ := ⟨_, rfl⟩
      rw [← hsn] at q0
      by_cases hx : sn = S
      · have hnx : nm l[k] = S.data.toList := by rw [← hx, hsn]; rfl
        have HR : Hid (FindR w l S.data.toList (.returned (.int .i64 (k : Int))) wr) := hid ⟨HB.out.1, .inl ⟨k, hkn, hnx, fnd_first hkn HB.out.2 hnx, rfl⟩⟩
        rw [hx] at q0
        clear hsn hx hnx
        go_wp2_with fail
        go_ret
        exact HR.out
      · have a1 : (sn.toList == S.toList) = false := by
          rw [Go.ByteArray.toList_eq, Go.ByteArray.toList_eq]
          refine beq_eq_false_iff_ne.2 fun e => hx ?_
          apply ByteArray.ext
          exact Array.toList_inj.1 e
        have hnx : nm l[k] ≠ S.data.toList := fun e => hx (by rw [hsn, show l[k].n = S.data.toList from e])
        have HN : Hid (∀ j (hj : j < l.length), j < k + 1 → nm l[j] ≠ S.data.toList) := hid fun j hj h => by
          rcases Nat.lt_or_eq_of_le (Nat.le_of_lt_succ h) with h | rfl
          · exact HB.out.2 j hj h
          · exact hnx
        clear hsn hnx
        go_wp2_with fail
        exact ⟨⟨k + 1, by go_num, by omega, HB.out.1, HN.out⟩, by simp [intOf]; omega⟩
    · have hkI : ¬ (k : Int) < (l.length : Int) := by omega
      have hkd : decide ((k : Int) < (l.length : Int)) = false := by simpa using hkI
      have hkd2 : decide (k < l.length) = false := by simpa using hkn
      have HR : Hid (FindR w l S.data.toList (.returned (.int .i64 (-1))) wr) := hid ⟨HB.out.1, .inr ⟨fnd_no (fun t ht => by
        obtain ⟨j, hj, rfl⟩ := List.getElem_of_mem ht
        exact HB.out.2 j hj (by omega)), rfl⟩⟩
      go_wp2_with fail
      go_ret
      exact HR.out
end
end Go.Proofs.YtmddcdaodlnnhaaGreatDoor
namespace Go.Proofs.YtmddcdaodlnnhaaGreatDoor
open Go.RowKit Go.Maps
set_option linter.unusedVariables false
def xac (ac : Int) : Int := if ac < 0 then ac else if 0 < ac then ac - 1 else -1
section
variable {m T T' : Nat} {w w' W X Y : World} {x : Nat} {v : Value} {l : List Gx} {off : Bool} {ac pa : Int}
set_option maxRecDepth 100000 in
theorem rdact_ok (h : Xd m T w x v l off ac pa) (hac : inI ac) : Calls Tryz.prog 50 #[.pointer (some ⟨x, 0, none⟩)] w fun e w' => e = .returned (.bool (decide (ac = 0))) ∧ Xd m T w' x v l (off || decide (ac = 0)) (xac ac) pa ∧ Stp (OX x v l) w (OX x v l) w' := by
  have hlt := node_lt h.blk
  obtain ⟨⟨c0, c1, c2, c3⟩, f0, f1, f2, f3⟩ := four_cells h.blk
  unfold inI at hac
  have HD := hid h
  rcases Int.lt_trichotomy ac 0 with hlt0 | rfl | hgt
  · have a0 : decide (ac < 0) = true := by simp; omega
    have e1 : decide (ac = 0) = false := by simp; omega
    have e2 : xac ac = ac := by unfold xac; rw [if_pos hlt0]
    rw [e1, e2, Bool.or_false]
    clear h hlt0 e1 e2 hac
    go_enter Tryz.func50, Tryz.ntmps50
    go_wp2_with fail
    go_ret
    exact ⟨rfl, HD.out, Stp.refl _ _⟩
  · have h1 := set_in h.blk 2 (.int .i64 (-1))
    have h2 := set_in h1 1 (.bool true)
    have HR := hid (h.flags (off' := true) (ac' := -1) (pa' := pa) ((Kx.set (P := fun g => g = x) (g := x) rfl (.int .i64 (-1))).trans (Kx.set (P := fun g => g = x) (g := x) rfl (.bool true))) h2)
    have e1 : decide ((0 : Int) = 0) = true := rfl
    have e2 : xac 0 = -1 := rfl
    rw [e1, e2, Bool.or_true]
    clear h h1 h2 e1 e2 hac
    go_enter Tryz.func50, Tryz.ntmps50
    go_wp2_with fail
    go_ret
    exact ⟨rfl, HR.out⟩
  · have a0 : decide (ac < 0) = false := by simp; omega
    have a1 : decide (0 < ac) = true := by simp; omega
    have e1 : decide (ac = 0) = false := by simp; omega
    have e2 : xac ac = ac - 1 := by unfold xac; rw [if_neg (by omega), if_pos hgt]
    have hw : IntKind.i64.wrap (ac - 1) = ac - 1 := by rw [IntKind.wrap_i64]; omega
    have h1 := set_in h.blk 2 (.int .i64 (ac - 1))
    have HR := hid (h.flags (off' := off) (ac' := ac - 1) (pa' := pa) (Kx.set (P := fun g => g = x) (g := x) rfl (.int .i64 (ac - 1))) h1)
    rw [e1, e2, Bool.or_false]
    clear h h1 e1 e2 hac hgt
    go_enter Tryz.func50, Tryz.ntmps50
    go_wp2_with fail
    go_ret
    exact ⟨rfl, HR.out⟩
/-- What may tells. -/
def mayC (off : Bool) (S : ByteArray) (P : List Pf) (th : Bool) : Int := if th then fiP off S P else rfC off S
theorem mayC_off (S : ByteArray) (P : List Pf) (th : Bool) : mayC true S P th = 80 := by cases th <;> rfl
theorem mayC_nm {S : ByteArray} (hn : nmS S = false) (P : List Pf) (th : Bool) : mayC false S P th = 1 := by cases th <;> simp [mayC, fiP, rfC, hn]
theorem mayC_ff {S : ByteArray} (hn : nmS S = true) (P : List Pf) : mayC false S P false = 0 := by simp [mayC, rfC, hn]
theorem mayC_tt {S : ByteArray} (hn : nmS S = true) (P : List Pf) : mayC false S P true = if (fnd P S.data.toList).isSome then 0 else 81 := by simp [mayC, fiP, rfC, hn]
set_option maxRecDepth 100000 in
set_option maxHeartbeats 1000000 in
theorem rdmay_ok (h : Xd m T w x v l off ac pa) (hT : T < 1099511627776) (S : ByteArray) (hS : S.size ≤ 9007199254740992) (th : Bool) :
    Calls Tryz.prog 48 #[.pointer (some ⟨x, 0, none⟩), .string S, .bool th] w fun e w' => e = .returned (.int .i64 (mayC off S (l.map pg) th)) ∧ Below w.heap.size w w' := by
  have hlt := node_lt h.blk
  obtain ⟨⟨c0, c1, c2, c3⟩, _⟩ := four_cells h.blk
  have HN := hid (fun W => qName_any S W hS)
  have HF := hid (rdfind_ok h hT S)
  have HP : Hid ((fnd (l.map pg) S.data.toList).isSome = (fnd l S.data.toList).isSome) := hid (by rw [map_fnd nm_pg, Option.isSome_map])
  clear h
  cases off
  · cases hn : nmS S
    · rw [hn] at HN
      rw [mayC_nm hn]
      clear hn HF HP
      go_enter Tryz.func48, Tryz.ntmps48
      go_wp2_with (go_at_call 62; refine (HN.out _).mono ?_; rintro e w1 ⟨rfl, rfl⟩)
      go_ret
      exact ⟨rfl, Below.refl _ _⟩
    · rw [hn] at HN
      cases th
      · rw [mayC_ff hn]
        clear hn HF HP
        go_enter Tryz.func48, Tryz.ntmps48
        go_wp2_with (go_at_call 62; refine (HN.out _).mono ?_; rintro e w1 ⟨rfl, rfl⟩)
        go_ret
        exact ⟨rfl, Below.refl _ _⟩
      · rw [mayC_tt hn, HP.out]
        have HR : Hid (Calls Tryz.prog 49 #[.pointer (some ⟨x, 0, none⟩), .string S] w fun e w' => Below w.heap.size w w' ∧ ∃ k : Int, e = .returned (.int .i64 k) ∧ decide (k < 0) = !(fnd l S.data.toList).isSome) := hid (HF.out.mono fun e w' he => by
          obtain ⟨hb, ⟨k, hk, _, h2, rfl⟩ | ⟨h2, rfl⟩⟩ := he
          · exact ⟨hb, _, rfl, by rw [h2]; simp⟩
          · exact ⟨hb, _, rfl, by rw [h2]; simp⟩)
        clear hn HF HP
        cases hf : (fnd l S.data.toList).isSome
        · rw [hf] at HR
          simp only [Bool.false_eq_true, if_false]
          go_enter Tryz.func48, Tryz.ntmps48
          go_wp2_with (first
            | (go_at_call 62; refine (HN.out _).mono ?_; rintro e w1 ⟨rfl, rfl⟩)
            | (go_at_call 49; refine HR.out.mono ?_; rintro e w1 ⟨hb, k, rfl, hk⟩; have HB := hid hb; replace hk : decide (k < 0) = true := hk; clear hb))
          go_ret
          exact ⟨rfl, HB.out⟩
        · rw [hf] at HR
          simp only [if_true]
          go_enter Tryz.func48, Tryz.ntmps48
          go_wp2_with (first
            | (go_at_call 62; refine (HN.out _).mono ?_; rintro e w1 ⟨rfl, rfl⟩)
            | (go_at_call 49; refine HR.out.mono ?_; rintro e w1 ⟨hb, k, rfl, hk⟩; have HB := hid hb; replace hk : decide (k < 0) = false := hk; clear hb))
          go_ret
          exact ⟨rfl, HB.out⟩
  · rw [mayC_off]
    clear HF HN HP
    go_enter Tryz.func48, Tryz.ntmps48
    go_wp2_with fail
    go_ret
    exact ⟨rfl, Below.refl _ _⟩
end
end Go.Proofs.YtmddcdaodlnnhaaGreatDoor
namespace Go.Proofs.YtmddcdaodlnnhaaGreatDoor
open Go.RowKit Go.Maps
set_option linter.unusedVariables false
section
variable {P : Program} {md : Region.Mode} {ops : Array Oper} {Q : Exit → Act → World → Prop} {S : World → Prop} {z : Nat}
theorem anyL_two {i j : Nat} {o o' : Oper} {n : Nat} {l : Array Bool} {a : Act} {w : World} (hr : Region.ready md ops l = [i, j]) (ho : ops[i]? = some o) (ho' : ops[j]? = some o')
    (h : ∀ K' : Act → World → Prop, Shut (∀ a w, S w → anyL P md ops Q S z n (l.setIfInBounds i true) a w → K' a w) → if Region.wanted o (yielded ops a.tmps) = true then Oper.wp P o a w K' Q else K' (a.put o.dst undef) w)
    (h' : ∀ K' : Act → World → Prop, Shut (∀ a w, S w → anyL P md ops Q S z n (l.setIfInBounds j true) a w → K' a w) → if Region.wanted o' (yielded ops a.tmps) = true then Oper.wp P o' a w K' Q else K' (a.put o'.dst undef) w) : anyL P md ops Q S z (n + 1) l a w := by
  refine ⟨(fun h0 => by rw [hr] at h0; cases h0), fun k hk => ?_⟩
  rw [hr, List.mem_cons, List.mem_singleton] at hk
  rcases hk with rfl | rfl
  · exact wpOp_step ho fun K' hK => h K' fun a w hS hW => hK a w ⟨fun _ => hS, hW⟩
  · exact wpOp_step ho' fun K' hK => h' K' fun a w hS hW => hK a w ⟨fun _ => hS, hW⟩
theorem anyD (i j : Nat) {o o' : Oper} {n : Nat} {l : Array Bool} {a : Act} {w : World}
    (h : ∀ K' : Act → World → Prop, Shut (∀ a w, S w → anyL P md ops Q S z n (l.setIfInBounds i true) a w → K' a w) → if Region.wanted o (yielded ops a.tmps) = true then Oper.wp P o a w K' Q else K' (a.put o.dst undef) w)
    (h' : ∀ K' : Act → World → Prop, Shut (∀ a w, S w → anyL P md ops Q S z n (l.setIfInBounds j true) a w → K' a w) → if Region.wanted o' (yielded ops a.tmps) = true then Oper.wp P o' a w K' Q else K' (a.put o'.dst undef) w)
    (hi : nthO ops.toList i = some o := by exact rfl) (hj : nthO ops.toList j = some o' := by exact rfl) (hr : Region.ready md ops l = [i, j] := by kernel_rfl) : anyL P md ops Q S z (n + 1) l a w := anyL_two hr (nthO_at hi) (nthO_at hj) h h'
end
/-- Bytes appended to an empty row. -/
theorem app_empty {Y : World} {g base n c : Nat} {o : Option Addr} {b : List UInt8} (hg : Y.heap[g]? = some (.cells #[] 5)) (hb : base ≤ g) (h : Has Y o n c b) (hn : n ≤ 1099511627776) :
    ∃ o' c' Y', (Builtin.append_ #[29, 29] 29 #[.slice (some ⟨g, 0, none⟩) 0 0, .slice o n c]).run Tryz.prog Y = .ok (.slice o' n c') Y' ∧ Y'.ownsRow base 5 1 (.slice o' n c') n (b.map bv) ∧ Below base Y Y' := by
  obtain ⟨i0, hi, hz0, hz1, hz2⟩ := info_parts Tryz.info5
  obtain ⟨s1, s2, s3⟩ := h.src
  have hown : Y.ownsRow base 5 1 (.slice (some ⟨g, 0, none⟩) 0 0) 0 [] := ⟨rfl, .inr ⟨g, 0, #[], rfl, hb, hg, Nat.le_refl _, by unfold maxLen; omega, rfl, rfl⟩⟩
  have hl := node_lt hg
  obtain ⟨v', Y', hr, ho, hgr, hat⟩ := app_any Tryz.underlying29 hi hz0 hz1 hz2 rfl (by decide) hown c s3 s1 (bv_oneCell _) (by unfold maxLen; omega) (by omega) (by omega) 29 s2
  rw [Nat.zero_add, List.nil_append] at ho
  obtain ⟨o', c', rfl⟩ := own_any_shape ho
  exact ⟨o', c', Y', hr, ho, (Below.refl base Y).grown hgr (by omega) fun k e => by cases e; exact hb⟩
end Go.Proofs.YtmddcdaodlnnhaaGreatDoor
