/-
  What the reader's method grammar answers; rules in memory. Conditions: those that each theorem names.
-/
import Derived.Test.YtggmoneicdkamaaGreatDoorVY13
namespace Go.Proofs.YtggmoneicdkamaaGreatDoor
open Go.RowKit
set_option linter.unusedVariables false
/-- These cells begin with those rules. -/
def RsIs (w : World) (P : Nat → Prop) : List Rl → List Value → Prop
  | [], _ => True
  | x :: r, vs => ∃ c rest, vs = c ++ rest ∧ RlIs w P x c ∧ RsIs w P r rest
theorem RlIs.len {w : World} {P : Nat → Prop} {x : Rl} {c : List Value} (h : RlIs w P x c) : c.length = 10 := by
  obtain ⟨cs, rfl, h2⟩ := h
  have := h2.len
  simp
  omega
theorem RlIs.kept {w w' : World} {P Q : Nat → Prop} (hk : ∀ g cur, P g → w.heap[g]? = some (.cells cur 58) → w'.heap[g]? = w.heap[g]? ∧ Q g) {x : Rl} {c : List Value} (h : RlIs w P x c) : RlIs w' Q x c := by
  obtain ⟨cs, h1, h2⟩ := h
  exact ⟨cs, h1, NdIs.kept hk _ _ h2⟩
theorem RsIs.kept {w w' : World} {P Q : Nat → Prop} (hk : ∀ g cur, P g → w.heap[g]? = some (.cells cur 58) → w'.heap[g]? = w.heap[g]? ∧ Q g) : ∀ (l : List Rl) (vs : List Value), RsIs w P l vs → RsIs w' Q l vs
  | [], vs, h => by rw [RsIs]; trivial
  | n :: r, vs, h => by
    rw [RsIs] at h ⊢
    obtain ⟨c, rest, h1, h2, h3⟩ := h
    exact ⟨c, rest, h1, RlIs.kept hk h2, RsIs.kept hk r rest h3⟩
theorem RsIs.append {w : World} {P : Nat → Prop} : ∀ (l : List Rl) (vs : List Value) (n : Rl) (c : List Value), RsIs w P l vs → vs.length = l.length * 10 → RlIs w P n c → RsIs w P (l ++ [n]) (vs ++ c)
  | [], vs, n, c, _, hl, hn => by
    have : vs = [] := List.eq_nil_of_length_eq_zero (by simpa using hl)
    subst this
    rw [List.nil_append, RsIs]
    exact ⟨c, [], by simp, hn, by rw [RsIs]; trivial⟩
  | m :: r, vs, n, c, h, hl, hn => by
    rw [RsIs] at h
    obtain ⟨d, rest, rfl, h2, h3⟩ := h
    have hd := h2.len
    rw [List.cons_append, RsIs]
    refine ⟨d, rest ++ c, by rw [List.append_assoc], h2, RsIs.append r rest n c h3 ?_ hn⟩
    simp at hl
    omega
theorem RlIs.shape {w : World} {P : Nat → Prop} {x : Rl} {c : List Value} (h : RlIs w P x c) : ∃ N kd T C so sl sc p q, c = [.string N, .int .i64 ((kd : Nat) : Int), .string T, .int .u64 (wd C 0 : Nat), .int .u64 (wd C 1 : Nat), .int .u64 (wd C 2 : Nat), .int .u64 (wd C 3 : Nat), .slice so sl sc, .int .i64 ((p : Nat) : Int), .int .i64 ((q : Nat) : Int)] := by
  obtain ⟨cs, rfl, h2⟩ := h
  obtain ⟨kd, T, C, so, sl, sc, rfl⟩ := h2.shape
  exact ⟨_, kd, T, C, so, sl, sc, _, _, rfl⟩
/-- Rules in a row of one's own. -/
def RoR (B : Nat) (pv : Value) (acc : List Rl) (W : World) : Prop :=
  ∃ xs, W.ownsRow B 60 10 pv acc.length xs ∧ RsIs W (fun g => B ≤ g) acc xs
theorem RoR.grown {B R : Nat} {pv : Value} {acc : List Rl} {W W' : World} (h : RoR B pv acc W) (hg : W.grownBy W' (some R)) (hR : R < B) : RoR B pv acc W' := by
  obtain ⟨xs, h1, h2⟩ := h
  refine ⟨xs, h1.kept hg (.inr (fun e => by have := (h1.lt _ e).1; omega)), RsIs.kept (fun g cur hp hq => ⟨hg.block g (node_lt hq) (fun e => ?_), hp⟩) _ _ h2⟩
  have e2 : g = R := Option.some.inj e
  have hp' : B ≤ g := hp
  omega
theorem RoR.below {B : Nat} {pv : Value} {acc : List Rl} {W W' : World} (h : RoR B pv acc W) (hb : Below W.heap.size W W') : RoR B pv acc W' := by
  obtain ⟨xs, h1, h2⟩ := h
  exact ⟨xs, own_keep h1 hb, RsIs.kept (fun g cur hp hq => ⟨hb.block g (node_lt hq), hp⟩) _ _ h2⟩
theorem own_type {w : World} {base e size n g : Nat} {v : Value} {xs : List Value} (h : w.ownsRow base e size v n xs) (hg : v.ownBlock = some g) : ∃ cur, w.heap[g]? = some (.cells cur e) := by
  obtain ⟨_, ⟨h1, h2⟩ | ⟨g', cap, cur, rfl, _, hh, _⟩⟩ := h
  · rw [h1] at hg; cases hg
  · have : g' = g := Option.some.inj hg
    subst this
    exact ⟨cur, hh⟩
theorem RoR.app {B D : Nat} {pv pv' : Value} {acc : List Rl} {xs c : List Value} {n : Rl} {W2 W3 W4 : World} (ho : W2.ownsRow B 60 10 pv acc.length xs) (ha : RsIs W2 (fun g => B ≤ g) acc xs) (hn : RlIs W2 (fun g => D ≤ g) n c) (hD : B ≤ D) (hb : Below W2.heap.size W2 W3)
    (hown : W4.ownsRow B 60 10 pv' (acc.length + 1) (xs ++ c)) (hgr : W3.grownBy W4 pv.ownBlock) : RoR B pv' (acc ++ [n]) W4 := by
  have key : ∀ (g : Nat) (cur : Array Value), W2.heap[g]? = some (Obj.cells cur 58) → W4.heap[g]? = W2.heap[g]? := fun g cur hq => by
    have hs := hb.size
    have hl := node_lt hq
    refine (hgr.block g (by omega) (fun e => ?_)).trans (hb.block g hl)
    obtain ⟨cur', h'⟩ := own_type ho e.symm
    rw [h'] at hq
    simp at hq
  refine ⟨xs ++ c, by simpa using hown, RsIs.append _ _ _ _ (RsIs.kept (fun g cur hp hq => ⟨key g cur hq, hp⟩) _ _ ha) ho.1 (RlIs.kept (fun g cur hp hq => ⟨key g cur hq, show B ≤ g by have hp' : D ≤ g := hp; omega⟩) hn)⟩
theorem RoR.one {B : Nat} {x : Rl} {a0 a1 a2 a3 a4 a5 a6 a7 a8 a9 : Value} {W : World} (h : RlIs W (fun g => B ≤ g) x [a0, a1, a2, a3, a4, a5, a6, a7, a8, a9]) (hB : B ≤ W.heap.size) : RoR B (.slice (some ⟨W.heap.size, 0, none⟩) 1 1) [x] (W.alloc (.cells #[a0, a1, a2, a3, a4, a5, a6, a7, a8, a9] 60)) := by
  refine ⟨[a0, a1, a2, a3, a4, a5, a6, a7, a8, a9], ⟨rfl, .inr ⟨W.heap.size, 1, _, rfl, hB, new_block_at _ _ rfl, Nat.le_refl _, by unfold maxLen; omega, rfl, rfl⟩⟩, ?_⟩
  rw [RsIs]
  exact ⟨[a0, a1, a2, a3, a4, a5, a6, a7, a8, a9], [], by simp, RlIs.kept (fun g cur hp hq => ⟨Below.heap_alloc W _ g (node_lt hq), hp⟩) h, by rw [RsIs]; trivial⟩
theorem Ek.rowed {O : Obj} {w W W' : World} {R b : Nat} {v : Value} {L : List Tok} {k ru ne : Nat} {row : Option Nat} (h : Ek O w R b v L k ru ne W) (hg : W.grownBy W' row) (hr : ∀ g, row = some g → w.heap.size < g) : Ek O w R b v L k ru ne W' := by
  have hR := h.lt
  have hs := h.size
  have hne : some R ≠ row := fun e => by have := hr R e.symm; omega
  have hnq : some w.heap.size ≠ row := fun e => by have := hr _ e.symm; omega
  have hvv : v.ownBlock = none ∨ v.ownBlock ≠ row := by
    cases hv : v.ownBlock with
    | none => exact .inl rfl
    | some g => exact .inr (fun e => h.2.2.2.2 g (by have := hr g e.symm; omega) hv)
  exact ⟨⟨(hg.block R (by omega) hne).trans h.1.1, h.1.2.kept hg hvv⟩, ⟨hg.os.trans h.2.1.os, hg.tape.trans h.2.1.tape, hg.output.trans h.2.1.output, Nat.le_trans h.2.1.size hg.size, fun j hj hne => (hg.block j (by omega) (fun e => by have := hr j e.symm; omega)).trans (h.2.1.block j hj hne)⟩, (hg.block _ hs hnq).trans h.2.2.1, hR, h.2.2.2.2⟩
theorem Tryz.infoRl : (Tryz.prog.info? 60).map (fun i => (i.zero, i.size, i.bytes)) = some (some (.agg #[.string { data := #[] }, .int .i64 0, .string { data := #[] }, .int .u64 0, .int .u64 0, .int .u64 0, .int .u64 0, .slice none 0 0, .int .i64 0, .int .i64 0]), 10, 112) := by kernel_rfl
theorem ten_new (w : World) (a b c d e f g h i k : Value) (t : TypeId) : ∀ j x, [a, b, c, d, e, f, g, h, i, k][j]? = some x → (w.alloc (.cells #[a, b, c, d, e, f, g, h, i, k] t)).cell? ((⟨w.heap.size, 0, none⟩ : Addr).add j) = some x := by
  intro j x hj
  match j, hj with
  | 0, hj => simp at hj; subst hj; simp [Addr.add]
  | 1, hj => simp at hj; subst hj; simp [Addr.add]
  | 2, hj => simp at hj; subst hj; simp [Addr.add]
  | 3, hj => simp at hj; subst hj; simp [Addr.add]
  | 4, hj => simp at hj; subst hj; simp [Addr.add]
  | 5, hj => simp at hj; subst hj; simp [Addr.add]
  | 6, hj => simp at hj; subst hj; simp [Addr.add]
  | 7, hj => simp at hj; subst hj; simp [Addr.add]
  | 8, hj => simp at hj; subst hj; simp [Addr.add]
  | 9, hj => simp at hj; subst hj; simp [Addr.add]
theorem ten_ok (N : ByteArray) (a : Int) (T : ByteArray) (c0 c1 c2 c3 : Int) (so : Option Addr) (sl sc : Nat) (p q : Int) : ∀ u ∈ [Value.string N, Value.int .i64 a, .string T, .int .u64 c0, .int .u64 c1, .int .u64 c2, .int .u64 c3, .slice so sl sc, .int .i64 p, .int .i64 q], u.oneCell' = true := by
  intro u hu; simp at hu; rcases hu with rfl | rfl | rfl | rfl | rfl | rfl | rfl | rfl | rfl | rfl <;> rfl
/-- The rules of the document, from k on. -/
def rlsS (L : List Tok) : Nat → Nat → List Rl → (Nat × Nat) ⊕ List Rl
  | 0, _, _ => .inl (0, 0)
  | f + 1, k, acc => if (gL L k).1 = 6 then .inr acc else (match ruS L acc.length k with
      | .inl e => .inl e
      | .inr (x, k') => rlsS L f k' (acc ++ [x]))
def graE (L : List Tok) (r : (Nat × Nat) ⊕ (Rl × Nat)) : (Nat × Nat) ⊕ List Rl := match r with
  | .inl e => .inl e
  | .inr (x, k') => rlsS L L.length k' [x]
/-- The grammar of tokens. -/
def graS (L : List Tok) : (Nat × Nat) ⊕ List Rl := graE L (ruS L 0 0)
def AnsG (r : (Nat × Nat) ⊕ List Rl) (B R : Nat) (w : World) (e : Ending) (w' : World) : Prop :=
  match r with
  | .inr rs => ∃ g cap, e = .returned (.agg #[.slice (some ⟨g, 0, none⟩) rs.length cap]) ∧ Hid (RoR B (.slice (some ⟨g, 0, none⟩) rs.length cap) rs w') ∧ Hid (w.grownBy w' (some R))
  | .inl c => ∃ f, e = .panicked [{ v := .iface 77 (.pointer (some ⟨f, 0, none⟩)), recovered := false }] ∧ Hid (w.heap.size ≤ f ∧ Flt w' f c) ∧ Hid (w.grownBy w' (some R))
@[reducible] def Zg : Obj := .cells #[.slice none 0 0] 24
theorem Ek.upG {O : Obj} {w W : World} {R b : Nat} {v : Value} {L : List Tok} {k ru ne : Nat} (h : Ek O w R b v L k ru ne W) {c : Nat × Nat} {B B' ru' : Nat} {e : Ending} {w' : World} (hA : AnsR (.inl c) B' R b v L ru' W e w') : AnsG (.inl c) B R w e w' := by
  obtain ⟨f, he, HF, HG⟩ := hA
  exact ⟨f, he, hid ⟨by have := HF.out.1; have := h.size; omega, HF.out.2⟩, hid (G.trans h.2.1 HG.out)⟩
theorem Ek.finG {w W : World} {B R b : Nat} {v : Value} {L : List Tok} {k ru ne g n cap : Nat} {rs : List Rl} (h : Ek Zg w R b v L k ru ne W) (hn : n = rs.length) (hr : RoR (w.heap.size + 1) (.slice (some ⟨g, 0, none⟩) n cap) rs W) (hB : B ≤ w.heap.size) :
    AnsG (.inr rs) B R w (.returned (.agg #[.slice (some ⟨g, 0, none⟩) n cap])) (W.setCell ⟨w.heap.size, 0, none⟩ (.slice (some ⟨g, 0, none⟩) n cap)) := by
  subst hn
  obtain ⟨xs, h1, h2⟩ := hr
  have hgr : W.grownBy (W.setCell ⟨w.heap.size, 0, none⟩ (.slice (some ⟨g, 0, none⟩) rs.length cap)) (some w.heap.size) := G.setR (G.refl W w.heap.size)
  refine ⟨g, cap, rfl, hid ⟨xs, ?_, RsIs.kept (fun g cur hp hq => ⟨hgr.block g (node_lt hq) (fun e => ?_), show B ≤ g by have hp' : w.heap.size + 1 ≤ g := hp; omega⟩) _ _ h2⟩, hid (G.setN h.2.1 (Nat.le_refl _))⟩
  · have h3 := h1.kept hgr (.inr (fun e => by have := (h1.lt _ e).1; omega))
    obtain ⟨a, ⟨hq, _⟩ | ⟨g', cap', cur, hq, hb, rest⟩⟩ := h3
    · cases hq
    · exact ⟨a, .inr ⟨g', cap', cur, hq, by omega, rest⟩⟩
  · have e2 : g = w.heap.size := Option.some.inj e
    have hp' : w.heap.size + 1 ≤ g := hp
    omega
theorem ruS_ne {L : List Tok} {ru k : Nat} {x : Rl × Nat} (h : ruS L ru k = .inr x) : ru ≠ 64 := by
  intro e
  unfold ruS at h
  rw [if_pos e] at h
  split at h <;> cases h
set_option maxRecDepth 100000 in
set_option maxHeartbeats 16000000 in
theorem ygrammar_any (R b B : Nat) (v : Value) (L : List Tok) (w : World) (hg : Good L) (h : Rd w R b v L 0 0 0) (hl0 : 0 < L.length) (hB : B ≤ w.heap.size) :
    Calls Tryz.prog 63 #[.pointer (some ⟨R, 0, none⟩)] w fun e w' => AnsG (graS L) B R w e w' := by
  obtain ⟨iT, hiT, hzT0, hzT1, hzT2⟩ := info_parts Tryz.infoRl
  have fd0 := Tryz.fld0
  have HE0 : Hid (Ek Zg w R b v L 0 0 0 (w.alloc Zg)) := Ek.start Zg h
  have HG : Hid (Good L) := hg
  have hll := hg.len
  have HO := hid (yrule_any R b v L 0 0 (w.heap.size + 1) (w.alloc Zg) hg (h.alloc _) hl0 (by omega) (by simp))
  unfold graS
  cases hs : ruS L 0 0 with
  | inl c =>
    rw [hs] at HO
    clear hg h hs
    show Calls _ _ _ _ (fun e w' => AnsG (.inl c) B R w e w')
    go_enter Tryz.func63, Tryz.ntmps63
    go_wp2_with fail
    refine HO.out.mono ?_
    rintro e w1 hA
    have HAP : Hid (AnsG (.inl c) B R w e w1) := HE0.out.upG hA
    obtain ⟨f, rfl, _, _⟩ := hA
    clear HO HE0
    go_wp2_with fail
    exact ⟨rfl, HAP.out⟩
  | inr x =>
    obtain ⟨x, k1⟩ := x
    have hk1 := ruS_adv hg hl0 hs
    rw [hs] at HO
    obtain ⟨RES, hR⟩ : ∃ RES, RES = rlsS L L.length k1 [x] := ⟨_, rfl⟩
    have HM0 : Hid (rlsS L L.length k1 [x] = RES) := hR.symm
    show Calls _ _ _ _ (fun e w' => AnsG (rlsS L L.length k1 [x]) B R w e w')
    rw [← hR]
    clear hR h hg hs
    go_enter Tryz.func63, Tryz.ntmps63
    go_wp2_with fail
    refine HO.out.mono ?_
    rintro e w1 ⟨cs, rfl, HN, HR, HGr⟩
    have HE1 := hid (HE0.out.grown HR.out HGr.out)
    clear HO HR HGr HE0
    obtain ⟨N, kd, T, C, so, sl, sc, p, q, hcs⟩ := HN.out.shape
    subst hcs
    have HRo1 := hid (RoR.one HN.out HE1.out.size)
    have HE2 := hid (HE1.out.alloc (.cells #[.string N, .int .i64 (kd : Int), .string T, .int .u64 (wd C 0 : Nat), .int .u64 (wd C 1 : Nat), .int .u64 (wd C 2 : Nat), .int .u64 (wd C 3 : Nat), .slice so sl sc, .int .i64 (p : Int), .int .i64 (q : Int)] 60))
    clear HN HE1
    go_wp2_with fail
    go_loopw [3] (fun a wr => ∃ (f j : Nat) (m : Rl) (r : List Rl), j < L.length ∧ L.length ≤ f + j ∧ r.length + 1 ≤ j ∧ r.length + 1 ≤ 64 ∧ Hid (rlsS L f j (m :: r) = RES) ∧ Hid (RoR (w.heap.size + 1) a (m :: r) wr) ∧ Hid (Ek Zg w R b v L j (r.length + 1) 0 wr)) (fun _ wr => L.length - rdAt R wr)
    case atStart => exact ⟨L.length, k1, x, [], hk1.2, by omega, by simp; omega, by simp, HM0, HRo1, HE2⟩
    case round =>
      obtain ⟨f, j, m, r, hj, hfj, haj, hr64, HMj, HRo, HE⟩ := hrel
      clear HM0 HE2 HRo1
      have HT := ytoken_g R b v L j (r.length + 1) 0 hj HG.out
      cases f with
      | zero => omega
      | succ f =>
      by_cases hz : (gL L j).1 = 6
      · have HF : Hid (RES = .inr (m :: r)) := by show _ = _; rw [← HMj.out, rlsS, if_pos hz]
        obtain ⟨t, ht⟩ : ∃ t, t = gL L j := ⟨_, rfl⟩
        rw [← ht] at HT hz
        clear ht HMj
        obtain ⟨tk, tN, tC, tq⟩ := t
        have hz' : tk = 6 := hz
        subst hz'
        clear hz
        obtain ⟨xs0, hx0, _⟩ := HRo.out
        rw [List.length_cons] at hx0
        obtain ⟨g, cap, hsl⟩ := own_shape hx0 (by omega)
        clear hx0
        subst hsl
        obtain ⟨M, hM⟩ : ∃ M, M = r.length + 1 := ⟨_, rfl⟩
        have HMm : Hid (M = r.length + 1) := hM
        rw [← hM] at haj hr64 HT HE HRo ⊢
        clear hM
        go_wp2_with fail
        refine (HT.out _ HE.out.1).mono ?_
        rintro e w2 ⟨rfl, hb2⟩
        have HE3 := hid (HE.out.below hb2)
        have HRo3 := hid (HRo.out.below hb2)
        clear hb2 HE HT HRo
        dsimp only [tkv]
        have hc0 : w2.cell? ⟨w.heap.size, 0, none⟩ = some (.slice none 0 0) := by have := HE3.out.2.2.1; simp [World.cell?, this]
        have hf0 : w2.frozen? ⟨w.heap.size, 0, none⟩ = false := by have := HE3.out.2.2.1; simp [World.frozen?, this]
        have hQl := HE3.out.size
        go_wp2_with fail
        (try simp only [Exit.inBlock, Exit.then])
        refine bodyPost_ret (v := .agg #[.slice (some ⟨g, 0, none⟩) M cap]) (by simp [results, Tryz.results63, go_sem, hc0]) rfl ?_
        rw [HF.out]
        exact HE3.out.finG HMm.out HRo3.out hB
      · have HC := hid (fun (W : World) (h : Rd W R b v L j (r.length + 1) 0) => yrule_any R b v L (r.length + 1) j W.heap.size W HG.out h hj hr64 (Nat.le_refl _))
        obtain ⟨t, ht⟩ : ∃ t, t = gL L j := ⟨_, rfl⟩
        have hz0 := hz
        rw [← ht] at HT hz
        clear ht
        obtain ⟨tk, tN, tC, tq⟩ := t
        have hz' : tk ≠ 6 := hz
        have t6 : ((tk : Int) != 6) = true := by rw [bne_iff_ne]; omega
        clear hz hz'
        cases hs : ruS L (r.length + 1) j with
        | inl c =>
          have HF : Hid (RES = .inl c) := by show _ = _; rw [← HMj.out, rlsS, if_neg hz0, List.length_cons, hs]
          rw [hs] at HC
          clear hs HMj hz0
          go_wp2_with fail
          refine (HT.out _ HE.out.1).mono ?_
          rintro e w2 ⟨rfl, hb2⟩
          have HE3 := hid (HE.out.below hb2)
          clear hb2 HE HT HRo
          dsimp only [tkv]
          go_wp2_with fail
          refine (HC.out _ HE3.out.1).mono ?_
          rintro e w4 hA
          have HAP : Hid (AnsG RES B R w e w4) := by show AnsG _ _ _ _ _ _; rw [HF.out]; exact HE3.out.upG hA
          obtain ⟨f', rfl, _, _⟩ := hA
          clear HE3 HC HF
          go_wp2_with fail
          exact ⟨rfl, HAP.out⟩
        | inr y =>
          obtain ⟨y, k'⟩ := y
          have hk' := ruS_adv HG.out hj hs
          have hr64' := ruS_ne hs
          have HM2 : Hid (rlsS L f k' ((m :: r) ++ [y]) = RES) := by show _ = _; rw [← HMj.out, rlsS, if_neg hz0, List.length_cons, hs]
          rw [hs] at HC
          clear hs HMj hz0
          have HJ : Hid (rdAt R wr = j) := rdAt_eq HE.out.1
          go_wp2_with fail
          refine (HT.out _ HE.out.1).mono ?_
          rintro e w2 ⟨rfl, hb2⟩
          have HE3 := hid (HE.out.below hb2)
          have HRo3 := hid (HRo.out.below hb2)
          clear hb2 HE HT HRo
          dsimp only [tkv]
          go_wp2_with fail
          refine (HC.out _ HE3.out.1).mono ?_
          rintro e w5 ⟨cs, rfl, HN, HR, HGr⟩
          have HE5 := hid (HE3.out.grown HR.out HGr.out)
          have HRo5 := hid (HRo3.out.grown HGr.out (by have := HE3.out.lt; omega))
          have HW1 : Hid (w.heap.size + 1 ≤ w2.heap.size) := HE3.out.size
          clear HE3 HRo3 HR HGr HC
          obtain ⟨N, kd, T, C, so, sl, sc, p, q, hcs⟩ := HN.out.shape
          subst hcs
          obtain ⟨xs, hx1, hx2⟩ := HRo5.out
          have HX1 := hid hx1
          have HX2 := hid hx2
          clear hx1 hx2 HRo5
          rw [List.length_cons] at HX1
          go_wp2_with (first | (at_builtin; refine wpList_append_own_at _ rfl (.tmp 11) (.tmp 14) 22 rfl (w.heap.size + 1) 60 iT (.agg #[.string { data := #[] }, .int .i64 0, .string { data := #[] }, .int .u64 0, .int .u64 0, .int .u64 0, .int .u64 0, .slice none 0 0, .int .i64 0, .int .i64 0]) 10 112 Tryz.underlying22 hiT hzT0 hzT1 hzT2 rfl (by decide) _ _ _ rfl (HX1.out.alloc _) ⟨w5.heap.size, 0, none⟩ 1 1 [.string N, .int .i64 (kd : Int), .string T, .int .u64 (wd C 0 : Nat), .int .u64 (wd C 1 : Nat), .int .u64 (wd C 2 : Nat), .int .u64 (wd C 3 : Nat), .slice so sl sc, .int .i64 (p : Int), .int .i64 (q : Int)] rfl rfl (ten_new w5 _ _ _ _ _ _ _ _ _ _ 60) (ten_ok _ _ _ _ _ _ _ _ _ _ _ _) (by unfold maxLen; omega) (by omega) (by have := HE5.out.size; simp; omega) ?_; intro v6 w6 hown6 hgr6 hnil6 hat6))
          have HRo6 : Hid (RoR (w.heap.size + 1) v6 ((m :: r) ++ [y]) w6) := RoR.app HX1.out HX2.out HN.out HW1.out ((Below.refl _ w5).alloc (Nat.le_refl _) _) hown6 hgr6
          have HE6 : Hid (Ek Zg w R b v L k' (r.length + 1 + 1) 0 w6) := (HE5.out.alloc _).rowed hgr6 (fun g e => by have := (HX1.out.lt g e).1; omega)
          have HJ6 : Hid (rdAt R w6 = k') := rdAt_eq HE6.out.1
          clear hown6 hgr6 hnil6 hat6 HX1 HX2 HN HE5 HW1
          go_wp2_with fail
          go_roundw
          case rel => exact ⟨f, k', m, r ++ [y], hk'.2, by omega, by simp; omega, by simp; omega, HM2, HRo6, by simpa using HE6⟩
          case measure => rw [HJ.out, HJ6.out]; omega
end Go.Proofs.YtggmoneicdkamaaGreatDoor
