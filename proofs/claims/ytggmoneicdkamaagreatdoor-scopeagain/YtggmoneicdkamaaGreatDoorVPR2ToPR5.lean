/-
  Grammars of which some rules stay, plain: what is right stays right; what the rules that stay may come to. Conditions: those that each theorem names.
  A grammar's rules that its start leads to: their names, what they use, what they may come to. Conditions: those that each theorem names.
  What scope.Prune answers at any grammar; that what stays is right. Conditions: those that each theorem names.
  All that stays of a grammar is led to by its start. Conditions: those that each theorem names.
-/
import Derived.Test.YtggmoneicdkamaaGreatDoorVPR0ToPR1
namespace Go.Proofs.YtggmoneicdkamaaGreatDoor
open Go.RowKit Go.Shelf
set_option linter.unusedVariables false
/-- The grammar is right, and its text is no longer than a source. -/
def PrG (rs : List Rr) : Prop := okG rs = true ∧ ∃ ns, TqR rs ns ∧ (∀ x ∈ ns, Ruk Nmq x) ∧ sz (pR qT cT ns) ≤ 8192 ∧ dR ns ≤ 24
theorem sz_pB (over : Nat) (sep : ByteArray) (hs : 1 ≤ sep.size) : ∀ q : List Nd, q.length ≤ sz (pB qT cT over sep q)
  | [] => Nat.zero_le _
  | n :: r => by
    have := sz_pB over sep hs r
    rw [pB, sz, sz_app, List.length_cons]
    omega
theorem sz_pS (over : Nat) (sep : ByteArray) (hs : 1 ≤ sep.size) : ∀ q : List Nd, q.length ≤ sz (pS qT cT over sep q) + 1
  | [] => Nat.zero_le _
  | n :: r => by
    have := sz_pB over sep hs r
    rw [pS, sz_app, List.length_cons]
    omega
theorem TqL.length' : ∀ {s : List RT} {q : List Nd}, TqL s q → q.length = s.length
  | [], [], _ => rfl
  | [], _ :: _, h => by simp [TqL] at h
  | _ :: _, [], h => by simp [TqL] at h
  | t :: r, n :: q, h => by
    rw [TqL] at h
    simp [h.2.length']
theorem okN_size {k : Int} {T : ByteArray} {a b c d : Int} {n : Nat} (h : okN k T a b c d n = true) : T.size ≤ 255 := by
  have he : T.toList.isEmpty = true → T.size ≤ 255 := fun e => by
    have : T.toList = [] := by simpa using e
    have := congrArg List.length this
    rw [ByteArray.toList_eq] at this
    have e2 : T.size = 0 := by simpa using this
    omega
  unfold okN at h
  by_cases h1 : k = 1 ∨ k = 4
  · rw [if_pos h1, Bool.and_eq_true] at h; exact he h.1
  rw [if_neg h1] at h
  by_cases h2 : k = 2
  · rw [if_pos h2, Bool.and_eq_true] at h; have := h.1; simp at this; omega
  rw [if_neg h2] at h
  by_cases h3 : k = 3
  · rw [if_pos h3, Bool.and_eq_true] at h; exact he h.1
  rw [if_neg h3] at h
  by_cases h5 : k = 5
  · rw [if_pos h5, Bool.and_eq_true] at h
    have hn := h.1
    unfold nmS at hn
    cases hb : bt T 0 with
    | none => rw [hb] at hn; cases hn
    | some x =>
      rw [hb] at hn
      simp only [Bool.and_eq_true, decide_eq_true_eq] at hn
      omega
  rw [if_neg h5] at h
  by_cases h6 : k = 6 ∨ k = 7
  · rw [if_pos h6, Bool.and_eq_true] at h; exact he h.1
  rw [if_neg h6] at h
  by_cases h8 : 8 ≤ k ∧ k ≤ 12
  · rw [if_pos h8, Bool.and_eq_true] at h; exact he h.1
  · rw [if_neg h8] at h; cases h
mutual
/-- A tree whose text is no longer than a source is small. -/
theorem rtb_of : ∀ (t : RT) (n : Nd), Tq t n → Vk n → okT t = true → sz (pN qT cT n) ≤ 8192 → RtB t
  | .mk k T a b c d s p, .mk kd T' C s' p', hq, hv, hok, hs => by
    rw [Tq] at hq
    obtain ⟨hk, hT, _, _, _, _, hl⟩ := hq
    rw [Vk] at hv
    rw [okT, Bool.and_eq_true] at hok
    have hsz := okN_size hok.1
    have hlen : s'.length = s.length := hl.length'
    have body : ∀ over sep, sz (pS qT cT over sep s') ≤ 8192 → RtsB s := fun over sep h => by
      cases s with
      | nil => rw [RtsB]; trivial
      | cons t r =>
        cases s' with
        | nil => simp [TqL] at hl
        | cons n q =>
          rw [TqL] at hl
          have hvl := hv.2
          rw [VkL] at hvl
          have hol := hok.2
          rw [okL, Bool.and_eq_true] at hol
          have e : sz (pS qT cT over sep (n :: q)) = sz (pP qT cT over n) + sz (pB qT cT over sep q) := by rw [pS, sz_app]; rfl
          have e2 := sz_pP over n
          rw [RtsB]
          exact ⟨rtb_of t n hl.1 hvl.1 hol.1 (by omega), rtbB r q over sep hl.2 hvl.2 hol.2 (by omega)⟩
    rw [RtB]
    rw [pN] at hs
    refine ⟨by omega, ?_⟩
    rw [rtLen_eq, ← hlen]
    rcases hv.1 with ⟨rfl, _, _, rfl⟩ | ⟨rfl, _, rfl⟩ | ⟨rfl, _, rfl⟩ | ⟨rfl, _, _, rfl⟩ | ⟨rfl, _, rfl⟩ | ⟨h67, _, _, h2⟩ | ⟨h8, h12, _, _, h1⟩
    · exact ⟨by simp, body 0 { data := #[] } (by rw [pS]; simp [sz])⟩
    · exact ⟨by simp, body 0 { data := #[] } (by rw [pS]; simp [sz])⟩
    · exact ⟨by simp, body 0 { data := #[] } (by rw [pS]; simp [sz])⟩
    · exact ⟨by simp, body 0 { data := #[] } (by rw [pS]; simp [sz])⟩
    · exact ⟨by simp, body 0 { data := #[] } (by rw [pS]; simp [sz])⟩
    · rcases h67 with rfl | rfl
      · simp only [Nat.reduceEqDiff, if_false, if_true] at hs
        have := sz_pS 6 bSp (by decide) s'
        exact ⟨by omega, body 6 bSp hs⟩
      · simp only [Nat.reduceEqDiff, if_false, if_true] at hs
        have := sz_pS 7 bSl (by decide) s'
        exact ⟨by omega, body 7 bSl hs⟩
    · refine ⟨by omega, ?_⟩
      rw [if_neg (by omega), if_neg (by omega), if_neg (by omega), if_neg (by omega), if_neg (by omega), if_neg (by omega), if_neg (by omega)] at hs
      by_cases h11 : kd = 11 ∨ kd = 12
      · rw [if_pos h11, sz] at hs
        exact body kd bE (by omega)
      · rw [if_neg h11, sz_app] at hs
        exact body kd bE (by omega)
theorem rtbB : ∀ (s : List RT) (q : List Nd) (over : Nat) (sep : ByteArray), TqL s q → VkL q → okL s = true → sz (pB qT cT over sep q) ≤ 8192 → RtsB s
  | [], _, _, _, _, _, _, _ => by rw [RtsB]; trivial
  | t :: r, [], _, _, h, _, _, _ => by simp [TqL] at h
  | t :: r, n :: q, over, sep, hl, hv, hok, hs => by
    rw [TqL] at hl
    rw [VkL] at hv
    rw [okL, Bool.and_eq_true] at hok
    have e : sz (pB qT cT over sep (n :: q)) = sep.size + (sz (pP qT cT over n) + sz (pB qT cT over sep q)) := by rw [pB, sz, sz_app]; rfl
    have e2 := sz_pP over n
    rw [RtsB]
    exact ⟨rtb_of t n hl.1 hv.1 hok.1 (by omega), rtbB r q over sep hl.2 hv.2 hok.2 (by omega)⟩
end
theorem sz_rule {x : Rl} : ∀ {ns : List Rl}, x ∈ ns → sz (pN qT cT x.2.1) ≤ sz (pR qT cT ns)
  | y :: r, h => by
    rw [pR, sz, sz, sz_app, sz]
    rcases List.mem_cons.1 h with rfl | h
    · omega
    · have := sz_rule h
      omega
theorem prg_rtb {rs : List Rr} (h : PrG rs) : ∀ x ∈ rs, x.1.size ≤ 281474976710656 ∧ RtB x.2.1 := fun x hx => by
  obtain ⟨hok, ns, hq, hn, hs, _⟩ := h
  obtain ⟨j, hj, rfl⟩ := List.getElem_of_mem hx
  have hj2 : j < ns.length := by rw [hq.len]; exact hj
  have h1 := hq.get j hj hj2
  have ho := ok_trees hok _ (List.getElem_mem hj)
  have hv := (hn _ (List.getElem_mem hj2)).2.1
  refine ⟨?_, rtb_of _ _ h1.2 hv ho.2 (Nat.le_trans (sz_rule (List.getElem_mem hj2)) hs)⟩
  have hnm := ho.1
  unfold nmS at hnm
  cases hb : bt rs[j].1 0 with
  | none => rw [hb] at hnm; cases hnm
  | some x =>
    rw [hb] at hnm
    simp only [Bool.and_eq_true, decide_eq_true_eq] at hnm
    omega
theorem prn_sub {rs : List Rr} : ∀ {L : List Int} (k : Nat), L.Pairwise (· < ·) → (∀ x ∈ L, ∃ m : Nat, m < rs.length ∧ x = (m : Int) ∧ k ≤ m) → (prn rs L).Sublist (rs.drop k)
  | [], k, _, _ => List.nil_sublist _
  | x :: r, k, hp, h => by
    obtain ⟨m, hm, rfl, hk⟩ := h x (by simp)
    rw [List.pairwise_cons] at hp
    have e : prn rs ((m : Int) :: r) = rs[m] :: prn rs r := by unfold prn; simp [hm]
    have h2 := prn_sub (L := r) (m + 1) hp.2 (fun y hy => by
      obtain ⟨q, hq, rfl, _⟩ := h y (by simp [hy])
      have := hp.1 _ hy
      exact ⟨q, hq, rfl, by omega⟩)
    have h3 : (rs.drop m).Sublist (rs.drop k) := by
      rw [show rs.drop m = (rs.drop k).drop (m - k) by rw [List.drop_drop]; congr 1; omega]
      exact List.drop_sublist _ _
    rw [e]
    refine List.Sublist.trans ?_ h3
    rw [List.drop_eq_getElem_cons hm]
    exact h2.cons_cons _
theorem tqR_sub : ∀ {ps rs : List Rr}, ps.Sublist rs → ∀ {ns : List Rl}, TqR rs ns → ∃ ns', TqR ps ns' ∧ ns'.Sublist ns
  | _, _, .slnil, ns, h => by
    cases ns with
    | nil => exact ⟨[], h, List.Sublist.refl _⟩
    | cons a r => simp [TqR] at h
  | _, _, .cons a hs, ns, h => by
    cases ns with
    | nil => simp [TqR] at h
    | cons y q =>
      rw [TqR] at h
      obtain ⟨ns', h1, h2⟩ := tqR_sub hs h.2.2
      exact ⟨ns', h1, h2.cons _⟩
  | _, _, .cons_cons a hs, ns, h => by
    cases ns with
    | nil => simp [TqR] at h
    | cons y q =>
      rw [TqR] at h
      obtain ⟨ns', h1, h2⟩ := tqR_sub hs h.2.2
      exact ⟨y :: ns', by rw [TqR]; exact ⟨h.1, h.2.1, h1⟩, h2.cons_cons _⟩
theorem szR_sub : ∀ {a b : List Rl}, a.Sublist b → sz (pR qT cT a) ≤ sz (pR qT cT b) ∧ dR a ≤ dR b
  | _, _, .slnil => ⟨Nat.le_refl _, Nat.le_refl _⟩
  | _, _, .cons x hs => by
    have h := szR_sub hs
    rw [pR, sz, sz, sz_app, sz, dR]
    omega
  | _, _, .cons_cons x hs => by
    have h := szR_sub hs
    rw [pR, pR, sz, sz, sz_app, sz, sz, sz, sz_app, sz, dR, dR]
    omega
theorem prg_sub {ps rs : List Rr} (h : PrG rs) (hs : ps.Sublist rs) (h1 : 1 ≤ ps.length) : PrG ps := by
  obtain ⟨hok, ns, hq, hn, hsz, hd⟩ := h
  obtain ⟨ns', k1, k2⟩ := tqR_sub hs hq
  have hz := szR_sub k2
  refine ⟨?_, ns', k1, fun x hx => hn x (k2.subset hx), by omega, by omega⟩
  have hl := okG_len hok
  have hl2 := hs.length_le
  unfold okG
  rw [Bool.and_eq_true, Bool.and_eq_true]
  refine ⟨by simpa using h1, by simp; omega, List.all_eq_true.2 fun x hx => ?_⟩
  unfold okG at hok
  rw [Bool.and_eq_true, Bool.and_eq_true] at hok
  exact List.all_eq_true.1 hok.2.2 x (hs.subset hx)
end Go.Proofs.YtggmoneicdkamaaGreatDoor
namespace Go.Proofs.YtggmoneicdkamaaGreatDoor
open Go.RowKit Go.Shelf
set_option linter.unusedVariables false
theorem mem_inN {s : ByteArray} : ∀ {l : List ByteArray}, inN s l = true → s ∈ l
  | [], h => by simp [inN] at h
  | a :: r, h => by
    rw [inN] at h
    by_cases e : a = s
    · simp [e]
    · rw [if_neg e] at h
      simp [mem_inN h]
theorem inN_iff {s : ByteArray} {l : List ByteArray} : inN s l = true ↔ s ∈ l := ⟨mem_inN, fun h => by
  induction l with
  | nil => simp at h
  | cons a r ih =>
    rw [inN]
    by_cases e : a = s
    · rw [if_pos e]
    · rw [if_neg e]
      rcases List.mem_cons.1 h with h | h
      · exact absurd h.symm e
      · exact ih h⟩
theorem dup_nodup : ∀ {rs : List Rr} {l : List ByteArray}, l.Nodup → dupG l rs = none → (l ++ nmL rs).Nodup
  | [], l, hl, _ => by simpa [nmL] using hl
  | x :: r, l, hl, h => by
    rw [dupG] at h
    by_cases hi : inN x.1 l = true
    · rw [if_pos hi] at h; cases h
    · rw [if_neg hi] at h
      have h1 : x.1 ∉ l := fun hm => hi (inN_iff.2 hm)
      have h2 : (l ++ [x.1]).Nodup := by
        rw [List.nodup_append]
        refine ⟨hl, by simp, fun a ha b hb e => ?_⟩
        obtain rfl : b = x.1 := by simpa using hb
        exact h1 (e ▸ ha)
      have := dup_nodup h2 h
      simpa [nmL] using this
theorem nodup_dup : ∀ {rs : List Rr} {l : List ByteArray}, (l ++ nmL rs).Nodup → dupG l rs = none
  | [], l, _ => by rw [dupG]
  | x :: r, l, h => by
    have e : l ++ nmL (x :: r) = (l ++ [x.1]) ++ nmL r := by simp [nmL]
    rw [e] at h
    have h1 : inN x.1 l = false := by
      cases hi : inN x.1 l with
      | false => rfl
      | true =>
        have h2 := (List.nodup_append.1 h).1
        exact absurd rfl ((List.nodup_append.1 h2).2.2 x.1 (mem_inN hi) x.1 (by simp))
    rw [dupG, h1]
    simp only [Bool.false_eq_true, if_false]
    exact nodup_dup h
theorem ck_nodup {rs : List Rr} (h : ckR rs = none) : (nmL rs).Nodup := by
  unfold ckR at h
  cases hd : dupL rs with
  | some p => rw [hd] at h; cases h
  | none =>
    have := dup_nodup (rs := rs) (l := []) List.nodup_nil hd
    simpa using this
theorem ck_lost' {rs : List Rr} (h : ckR rs = none) : lostR (nmL rs) (rfG rs) = none := by
  unfold ckR at h
  cases hd : dupL rs with
  | some p => rw [hd] at h; cases h
  | none =>
    rw [hd] at h
    simp only at h
    cases hl : lostR (nmL rs) (rfG rs) with
    | none => rfl
    | some p => rw [hl] at h; cases h
theorem lost_mem' {l : List ByteArray} : ∀ {q : List (ByteArray × Int)}, lostR l q = none → ∀ y ∈ q, inN y.1 l = true
  | [], _, y, hy => by simp at hy
  | x :: r, h, y, hy => by
    rw [lostR] at h
    by_cases hx : inN x.1 l = true
    · rw [if_pos hx] at h
      rcases List.mem_cons.1 hy with rfl | hy
      · exact hx
      · exact lost_mem' h y hy
    · rw [if_neg hx] at h; cases h
theorem mem_lost {l : List ByteArray} : ∀ {q : List (ByteArray × Int)}, (∀ y ∈ q, inN y.1 l = true) → lostR l q = none
  | [], _ => rfl
  | x :: r, h => by
    rw [lostR, if_pos (h x (by simp))]
    exact mem_lost fun y hy => h y (by simp [hy])
theorem rfG_iff : ∀ {rs : List Rr} {y : ByteArray × Int}, y ∈ rfG rs ↔ ∃ x ∈ rs, y ∈ rfT x.2.1
  | [], y => by simp [rfG]
  | a :: r, y => by
    rw [rfG, List.mem_append, rfG_iff]
    simp
theorem ck_of {rs : List Rr} (h1 : (nmL rs).Nodup) (h2 : ∀ x ∈ rs, ∀ y ∈ rfT x.2.1, inN y.1 (nmL rs) = true) : ckR rs = none := by
  have hd : dupL rs = none := nodup_dup (rs := rs) (l := []) (by simpa using h1)
  have hl : lostR (nmL rs) (rfG rs) = none := mem_lost fun y hy => by
    obtain ⟨x, hx, hy⟩ := rfG_iff.1 hy
    exact h2 x hx y hy
  unfold ckR
  rw [hd]
  simp only
  rw [hl]
theorem ixN_get {s : ByteArray} : ∀ (l : List ByteArray), inN s l = true → l[ixN s l]? = some s
  | [], h => by simp [inN] at h
  | a :: r, h => by
    rw [inN] at h
    rw [ixN]
    by_cases e : a = s
    · rw [if_pos e, e]; rfl
    · rw [if_neg e] at h ⊢
      rw [List.getElem?_cons_succ]
      exact ixN_get r h
/-- What stays of a grammar, and that it is closed. -/
structure Sty (rs ps : List Rr) : Prop where
  sub : ps.Sublist rs
  ref : ∀ x ∈ ps, ∀ y ∈ rfT x.2.1, inN y.1 (nmL ps) = true
theorem nmL_sub {ps rs : List Rr} (h : ps.Sublist rs) : (nmL ps).Sublist (nmL rs) := h.map _
theorem Sty.ck {rs ps : List Rr} (h : Sty rs ps) (hck : ckR rs = none) : ckR ps = none := ck_of ((nmL_sub h.sub).nodup (ck_nodup hck)) h.ref
/-- The rules that the start leads to are closed. -/
theorem sty_prn {rs : List Rr} {L : List Int} (hok : okG rs = true) (hck : ckR rs = none) (hL : LdIs (rs.map (usR (nmL rs))) 0 L) : Sty rs (prn rs L) ∧ (∀ x ∈ L, ∃ m : Nat, m < rs.length ∧ x = (m : Int)) ∧ 1 ≤ L.length := by
  have h1 := (okG_len hok).1
  have hlen : (nmL rs).length = rs.length := List.length_map _
  have hlt : ∀ {i : Nat}, Rch (rs.map (usR (nmL rs))) 0 i → i < rs.length := fun {i} hr => by
    induction hr with
    | refl => omega
    | @step b c _ hm ih =>
      rw [List.getD_eq_getElem?_getD, List.getElem?_map, List.getElem?_eq_getElem ih] at hm
      obtain ⟨m, hm1, hm2⟩ := us_mem (l := nmL rs) (y := rs[b]) (by omega) hm
      omega
  have hin : ∀ x ∈ L, ∃ m : Nat, m < rs.length ∧ x = (m : Int) := fun x hx => by
    obtain ⟨i, e, hr⟩ := (hL.2 x).1 hx
    exact ⟨i, hlt hr, e⟩
  have hsub : (prn rs L).Sublist rs := by
    have := prn_sub (rs := rs) 0 hL.1 (fun x hx => by obtain ⟨m, hm, e⟩ := hin x hx; exact ⟨m, hm, e, Nat.zero_le _⟩)
    simpa using this
  have h0 : (0 : Int) ∈ L := (hL.2 0).2 ⟨0, rfl, .refl⟩
  refine ⟨⟨hsub, fun x hx y hy => ?_⟩, hin, List.length_pos_of_mem h0⟩
  unfold prn at hx
  obtain ⟨v, hv, hg⟩ := List.mem_filterMap.1 hx
  obtain ⟨m, e, hr⟩ := (hL.2 v).1 hv
  subst e
  have hm := hlt hr
  rw [Int.toNat_natCast, List.getElem?_eq_getElem hm] at hg
  obtain rfl : rs[m] = x := Option.some.inj hg
  have hny := lost_mem' (ck_lost' hck) y (rfG_iff.2 ⟨rs[m], List.getElem_mem hm, hy⟩)
  obtain ⟨i, hi, ei⟩ : ∃ i : Nat, ∃ hi : i < rs.length, rs[i].1 = y.1 ∧ (i : Int) ∈ usR (nmL rs) rs[m] := by
    have hl := ixN_lt y.1 (nmL rs) hny
    have hl2 : ixN y.1 (nmL rs) < rs.length := by omega
    refine ⟨ixN y.1 (nmL rs), hl2, ?_, us_iff.2 ?_⟩
    · have h1 := ixN_get (nmL rs) hny
      unfold nmL at h1
      rw [List.getElem?_map] at h1
      change ((rs[ixN y.1 (nmL rs)]?).map (·.1)) = some y.1 at h1
      rw [List.getElem?_eq_getElem hl2] at h1
      exact Option.some.inj h1
    · unfold ixL
      refine List.mem_map.2 ⟨y, hy, ?_⟩
      unfold ixV
      rw [if_pos hny]
  have hri : Rch (rs.map (usR (nmL rs))) 0 i := hr.step (by
    rw [List.getD_eq_getElem?_getD, List.getElem?_map, List.getElem?_eq_getElem hm]
    exact ei.2)
  have hiL : (i : Int) ∈ L := (hL.2 _).2 ⟨i, rfl, hri⟩
  refine inN_iff.2 (List.mem_map.2 ⟨rs[i], List.mem_filterMap.2 ⟨(i : Int), hiL, ?_⟩, ei.1⟩)
  rw [Int.toNat_natCast, List.getElem?_eq_getElem hi]
end Go.Proofs.YtggmoneicdkamaaGreatDoor
namespace Go.Proofs.YtggmoneicdkamaaGreatDoor
open Go.RowKit Go.Shelf
set_option linter.unusedVariables false
theorem right_any2 (so : Option Addr) (n cap : Nat) (rs : List Rr) (B : Nat) (w : World) (hz : RgZ rs) (hu : RgU rs) (h : RgIs w B so n rs) (hB : B ≤ w.heap.size) (hT : TabIs w) :
    ∃ E, RtA rs E ∧ (E = .nilIface → PrG rs) ∧ ∀ W : World, Below w.heap.size w W → Calls Tryz.prog 44 #[.agg #[.slice so n cap]] W fun e w' => e = .returned E ∧ Below W.heap.size W w' := by
  cases hk : okG rs with
  | false =>
    refine ⟨_, .inl ⟨20, .inr rfl, rfl⟩, (fun h => by cases h), fun W hW => oright_of so n cap (.string { data := #[] }) _ W (hid fun W' hW' => ?_)⟩
    have hb : Below w.heap.size w W' := hW.trans (hW'.mono hW.size)
    exact nprint_bad so n cap rs B W' hz (h.below (hb.mono hB)) (Nat.le_trans hB hb.size) hk
  | true =>
    obtain ⟨ns, hq, hx, _, _⟩ := of_okG hk hu
    have hp : ∀ A E, ansT ns = .tuple #[A, E] → ∀ W : World, Below w.heap.size w W → Calls Tryz.prog 44 #[.agg #[.slice so n cap]] W fun e w' => e = .returned E ∧ Below W.heap.size W w' := fun A E he W hW => oright_of so n cap A E W (hid fun W' hW' => by
      have hb : Below w.heap.size w W' := hW.trans (hW'.mono hW.size)
      have := nprint_ok so n cap rs ns B W' hz (h.below (hb.mono hB)) (Nat.le_trans hB hb.size) hk hq hx (hT.below hb hT.lt)
      rw [he] at this
      exact this)
    rcases Nat.lt_or_ge 8192 (sz (pR qT cT ns)) with h1 | h1
    · exact ⟨_, .inl ⟨2, .inl rfl, rfl⟩, (fun h => by cases h), hp _ _ (ansT_long h1)⟩
    · rcases Nat.lt_or_ge 24 (dR ns) with h2 | h2
      · exact ⟨_, .inl ⟨20, .inr rfl, rfl⟩, (fun h => by cases h), hp _ _ (ansT_deep h1 h2)⟩
      · exact ⟨_, .inr ⟨rfl, hk, fun x hx' => Nat.le_trans (rf_mem hq hx x hx') h1⟩, fun _ => ⟨hk, ns, hq, hx, h1, h2⟩, hp _ _ (ansT_ok h1 h2)⟩
theorem checked_all2 (so : Option Addr) (n cap : Nat) (rs : List Rr) (B : Nat) (w : World) (hz : RgZ rs) (hu : RgU rs) (h : RgIs w B so n rs) (hB : B ≤ w.heap.size) (hT : TabIs w) : ∃ X, CkX rs X ∧ (X = none → PrG rs) ∧ CkC so n cap rs X w := by
  obtain ⟨E, hE, hPr, hR⟩ := right_any2 so n cap rs B w hz hu h hB hT
  have hTg : 2 < w.heap.size := hT.lt
  have hRW : ∀ W : World, Below w.heap.size w W → Hid (∀ W' : World, Below W.heap.size W W' → Calls Tryz.prog 44 #[.agg #[.slice so n cap]] W' fun e w' => e = .returned E ∧ Below W'.heap.size W' w') := fun W hW => hid fun W' hW' => hR W' (hW.trans (hW'.mono hW.size))
  rcases hE with ⟨c, hc, rfl⟩ | ⟨rfl, hok, hl⟩
  · refine ⟨some (.inl c), hc, (fun h => by cases h), fun W hW => (callsIn_wide.1 (checked_err so n cap c W (hRW W hW) 0)).mono fun e w' he => ?_⟩
    exact ⟨_, _, he.1, rfl, (fun h => by cases h), fun _ => rfl, he.2⟩
  · have hc := checked_nil so n cap rs B w hz h hB hTg hok hl hR
    exact ⟨xOf rs, hc.1, fun _ => hPr rfl, hc.2⟩
theorem checked_pr (so : Option Addr) (n cap : Nat) (rs : List Rr) (B : Nat) (w : World) (hz : RgZ rs) (h : RgIs w B so n rs) (hB : B ≤ w.heap.size) (hT : TabIs w) (hp : PrG rs) (hck : ckR rs = none) : CkX rs none ∧ CkC so n cap rs none w := by
  obtain ⟨hok, ns, hq, hx, h1, h2⟩ := hp
  have hc := checked_nil so n cap rs B w hz h hB hT.lt hok (fun x hx' => Nat.le_trans (rf_mem hq hx x hx') h1) (fun W hW => oright_of so n cap _ _ W (hid fun W' hW' => by
    have hb : Below w.heap.size w W' := hW.trans (hW'.mono hW.size)
    have := nprint_ok so n cap rs ns B W' hz (h.below (hb.mono hB)) (Nat.le_trans hB hb.size) hok hq hx (hT.below hb hT.lt)
    rw [ansT_ok h1 h2] at this
    exact this))
  have e : xOf rs = none := by unfold xOf; rw [hck]; rfl
  rw [e] at hc
  exact hc
open Classical in
theorem ld_exists {us : List (List Int)} {n : Nat} (h : ∀ i, Rch us 0 i → i < n) : ∃ L, LdIs us 0 L := by
  refine ⟨((List.range n).filter (fun i => decide (Rch us 0 i))).map (fun i : Nat => (i : Int)), ?_, fun x => ⟨fun hx => ?_, fun ⟨i, e, hi⟩ => ?_⟩⟩
  · rw [List.pairwise_map]
    exact (List.Pairwise.filter _ List.pairwise_lt_range).imp (fun h => by omega)
  · obtain ⟨i, hi, rfl⟩ := List.mem_map.1 hx
    exact ⟨i, rfl, by simpa using (List.mem_filter.1 hi).2⟩
  · subst e
    exact List.mem_map.2 ⟨i, List.mem_filter.2 ⟨List.mem_range.2 (h i hi), by simpa using hi⟩, rfl⟩
/-- What scope.Prune answers. -/
def PrP (rs : List Rr) (X : Option (Int ⊕ (Int × Int))) (W : World) (e : Ending) (w' : World) : Prop := Below W.heap.size W w' ∧
  ((X ≠ none ∧ ∃ v, e = .returned (.tuple #[.agg #[.slice none 0 0], v]) ∧ errV X W.heap.size w' v) ∨
   (X = none ∧ ∃ so' cap' L, e = .returned (.tuple #[.agg #[.slice so' (List.length L) cap'], .nilIface]) ∧ LdIs (rs.map (usR (nmL rs))) 0 L ∧ RgIs w' w'.heap.size so' L.length (prn rs L)))
theorem reach_in {rs : List Rr} (hok : okG rs = true) : ∀ i, Rch (rs.map (usR (nmL rs))) 0 i → i < rs.length := fun i hr => by
  have h1 := (okG_len hok).1
  have hlen : (nmL rs).length = rs.length := List.length_map _
  induction hr with
  | refl => omega
  | @step b c _ hm ih =>
    rw [List.getD_eq_getElem?_getD, List.getElem?_map, List.getElem?_eq_getElem ih] at hm
    obtain ⟨m, hm1, hm2⟩ := us_mem (l := nmL rs) (y := rs[b]) (by omega) hm
    omega
theorem prune_any (so : Option Addr) (n cap : Nat) (rs : List Rr) (X : Option (Int ⊕ (Int × Int))) (B : Nat) (w : World) (hX : CkX rs X) (hP : X = none → PrG rs) (hC : CkC so n cap rs X w) (hz : RgZ rs) (h : RgIs w B so n rs) (hB : B ≤ w.heap.size) (hTg : 2 < w.heap.size) :
    ∀ W : World, Below w.heap.size w W → Calls Tryz.prog 23 #[.agg #[.slice so n cap]] W (PrP rs X W) := fun W hW => by
  have hup : ∀ {W'}, Below W.heap.size W W' → Below w.heap.size w W' := fun hW' => hW.trans (hW'.mono hW.size)
  have hRe := fun (W' : World) (hW' : Below W.heap.size W W') => reach_of so n cap rs X B 0 W' hX (hC.from (hup hW')) (h.below ((hup hW').mono hB)) (Nat.le_trans hB (hup hW').size) hz (Nat.lt_of_lt_of_le hTg (hup hW').size)
  cases X with
  | some x =>
    refine (prune_err so n cap (some x) W (fun W' hW' => (hRe W' hW').mono fun e w' he => ?_)).mono fun e w' he => ?_
    · obtain ⟨hb, ⟨_, v, h1, h2⟩ | ⟨h0, _⟩ | ⟨h0, _⟩⟩ := he
      · obtain ⟨tt, uu, rfl⟩ := h2.shape (by simp)
        exact ⟨tt, uu, h1, h2, hb⟩
      · cases h0
      · cases h0
    · obtain ⟨v, h1, h2, h3⟩ := he
      exact ⟨h3, .inl ⟨by simp, v, h1, h2⟩⟩
  | none =>
    obtain ⟨hok, hck, _⟩ := hX
    have hpr := hP rfl
    obtain ⟨L, hL⟩ := ld_exists (reach_in hok)
    obtain ⟨_, hin, hl1⟩ := sty_prn hok hck hL
    have hsub := (sty_prn hok hck hL).1.sub
    have hll : L.length ≤ 64 := by
      have h1 := hsub.length_le
      rw [prn_len hin] at h1
      have := (okG_len hok).2
      omega
    refine (prune_ok so n cap rs L W ((h.below (hW.mono hB)).upto (Nat.le_trans hB hW.size)) hin (by omega) (prg_rtb hpr) (fun W' hW' => (hRe W' hW').mono fun e w' he => ?_)).mono fun e w' he => ?_
    · obtain ⟨hb, ⟨h0, _⟩ | ⟨_, h0, _⟩ | ⟨_, k, v, L', ek, hk, he, hL', hl', hr⟩⟩ := he
      · exact absurd rfl h0
      · have := (okG_len hok).1
        omega
      · obtain rfl : k = 0 := by omega
        obtain rfl : L' = L := ld_unique hL' hL
        exact ⟨v, he, hr, hb⟩
    · obtain ⟨so', cap', h1, h2, h3⟩ := he
      exact ⟨h3.out, .inr ⟨rfl, so', cap', L, h1, hL, h2.out⟩⟩
end Go.Proofs.YtggmoneicdkamaaGreatDoor
namespace Go.Proofs.YtggmoneicdkamaaGreatDoor
open Go.RowKit Go.Shelf
set_option linter.unusedVariables false
theorem ixN_at' {l : List ByteArray} (hn : l.Nodup) : ∀ (i : Nat) (hi : i < l.length), inN l[i] l = true ∧ ixN l[i] l = i := by
  induction l with
  | nil => intro i hi; simp at hi
  | cons a r ih =>
    rw [List.nodup_cons] at hn
    intro i hi
    cases i with
    | zero => simp [inN, ixN]
    | succ i =>
      have hi' : i < r.length := by simpa using hi
      have h := ih hn.2 i hi'
      have hne : a ≠ r[i] := fun e => hn.1 (e ▸ List.getElem_mem hi')
      simp only [List.getElem_cons_succ]
      rw [inN, ixN, if_neg hne, if_neg hne, h.1, h.2]
      exact ⟨rfl, rfl⟩
/-- The places of all. -/
def allI (k : Nat) : List Int := (List.range k).map fun i : Nat => (i : Int)
theorem prn_all (ps : List Rr) : prn ps (allI ps.length) = ps := by
  apply List.ext_getElem?
  intro i
  unfold prn allI
  have key : ∀ (l : List Nat), (∀ x ∈ l, x < ps.length) → (l.map fun i : Nat => (i : Int)).filterMap (fun x => ps[x.toNat]?) = l.map (fun i => ps.getD i (({ data := #[] } : ByteArray), RT.mk 0 { data := #[] } 0 0 0 0 [] 0, (0 : Int))) := by
    intro l
    induction l with
    | nil => intro _; rfl
    | cons a r ih =>
      intro h
      have ha := h a (by simp)
      have e := ih (fun x hx => h x (by simp [hx]))
      simp only [List.map_cons, List.filterMap_cons, Int.toNat_natCast, List.getElem?_eq_getElem ha]
      rw [e, List.getD_eq_getElem?_getD, List.getElem?_eq_getElem ha]
      rfl
  rw [key _ (fun x hx => List.mem_range.1 hx), List.getElem?_map]
  rcases Nat.lt_or_ge i ps.length with h | h
  · simp [h]
  · rw [List.getElem?_eq_none (by simpa using h), List.getElem?_eq_none h]
    rfl
theorem all_ld {ps : List Rr} (hok : okG ps = true) (h : ∀ i, i < ps.length → Rch (ps.map (usR (nmL ps))) 0 i) : LdIs (ps.map (usR (nmL ps))) 0 (allI ps.length) := by
  refine ⟨?_, fun x => ⟨fun hx => ?_, fun ⟨i, e, hi⟩ => ?_⟩⟩
  · unfold allI
    rw [List.pairwise_map]
    exact List.pairwise_lt_range.imp (fun h => by omega)
  · unfold allI at hx
    obtain ⟨i, hi, rfl⟩ := List.mem_map.1 hx
    exact ⟨i, rfl, h i (List.mem_range.1 hi)⟩
  · subst e
    exact List.mem_map.2 ⟨i, List.mem_range.2 (reach_in hok i hi), rfl⟩
/-- In what stays, the start leads to all. -/
theorem prn_reach {rs : List Rr} {L : List Int} (hok : okG rs = true) (hck : ckR rs = none) (hL : LdIs (rs.map (usR (nmL rs))) 0 L) : ∀ i, i < (prn rs L).length → Rch ((prn rs L).map (usR (nmL (prn rs L)))) 0 i := by
  obtain ⟨hsty, hin, hl1⟩ := sty_prn hok hck hL
  have hpl := prn_len hin
  have hnd : (nmL (prn rs L)).Nodup := ck_nodup (hsty.ck hck)
  have hnl : (nmL (prn rs L)).length = (prn rs L).length := List.length_map _
  -- a rule's place among those that stay
  have pos : ∀ {b : Nat}, Rch (rs.map (usR (nmL rs))) 0 b → ∃ i : Nat, ∃ hi : i < (prn rs L).length, ∃ hb : b < rs.length, (prn rs L)[i] = rs[b] ∧ L[i]'(by omega) = (b : Int) := fun {b} hb => by
    have hbL : (b : Int) ∈ L := (hL.2 _).2 ⟨b, rfl, hb⟩
    obtain ⟨i, hi, e⟩ := List.getElem_of_mem hbL
    have hi' : i < (prn rs L).length := by omega
    obtain ⟨m, hm, e1, e2⟩ := prn_get hin i hi hi'
    obtain rfl : m = b := by omega
    exact ⟨i, hi', hm, e2, e⟩
  have main : ∀ {b : Nat}, Rch (rs.map (usR (nmL rs))) 0 b → ∀ (i : Nat) (hi : i < (prn rs L).length), L[i]'(by omega) = (b : Int) → Rch ((prn rs L).map (usR (nmL (prn rs L)))) 0 i := fun {b} hb => by
    induction hb with
    | refl =>
      intro i hi e
      have h0 : i = 0 := by
        rcases Nat.eq_zero_or_pos i with h | h
        · exact h
        · exfalso
          have hp := List.pairwise_iff_getElem.1 hL.1 0 i (by omega) (by omega) h
          obtain ⟨m, hm, e2⟩ := hin (L[0]'(by omega)) (List.getElem_mem _)
          omega
      subst h0
      exact .refl
    | @step b c hbr hm ih =>
      intro i hi e
      obtain ⟨j, hj, hb', e1, e2⟩ := pos hbr
      have hjr := ih j hj e2
      refine hjr.step ?_
      have hcl := reach_in hok c (hbr.step hm)
      rw [List.getD_eq_getElem?_getD, List.getElem?_map, List.getElem?_eq_getElem hb'] at hm
      have hm : (c : Int) ∈ usR (nmL rs) rs[b] := hm
      obtain ⟨y, hy, ey⟩ := List.mem_map.1 (us_iff.1 hm)
      rw [List.getD_eq_getElem?_getD, List.getElem?_map, List.getElem?_eq_getElem hj]
      show (i : Int) ∈ usR (nmL (prn rs L)) (prn rs L)[j]
      rw [e1]
      refine us_iff.2 (List.mem_map.2 ⟨y, hy, ?_⟩)
      have hny := lost_mem' (ck_lost' hck) y (rfG_iff.2 ⟨rs[b], List.getElem_mem hb', hy⟩)
      have ey' : ixN y.1 (nmL rs) = c := by
        unfold ixV at ey
        rw [if_pos hny] at ey
        omega
      have hname : rs[c].1 = y.1 := by
        have h1 := ixN_get (nmL rs) hny
        rw [ey'] at h1
        unfold nmL at h1
        rw [List.getElem?_map, List.getElem?_eq_getElem hcl] at h1
        exact Option.some.inj h1
      obtain ⟨m, hm', e3, e4⟩ := prn_get hin i (by omega) hi
      obtain rfl : m = c := by omega
      have hni : (nmL (prn rs L))[i]'(by omega) = y.1 := by
        unfold nmL
        rw [List.getElem_map, e4]
        exact hname
      have hx := ixN_at' hnd i (by omega)
      rw [hni] at hx
      unfold ixV
      rw [if_pos hx.1, hx.2]
  intro i hi
  obtain ⟨b, e, hb⟩ := (hL.2 (L[i]'(by omega))).1 (List.getElem_mem _)
  exact main hb i hi e
end Go.Proofs.YtggmoneicdkamaaGreatDoor
