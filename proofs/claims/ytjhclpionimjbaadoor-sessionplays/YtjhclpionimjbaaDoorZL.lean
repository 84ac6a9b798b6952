/-
  List at any table: a new row of its sessions. Conditions: those that each theorem names.
-/
import Derived.Test.YtjhclpionimjbaaDoorZL0
namespace Go.Proofs.YtjhclpionimjbaaDoor
open Go.RowKit Go.Maps
set_option linter.unusedVariables false
/-- A row of sessions that lies in blocks from m on. -/
structure RowS (w : World) (m : Nat) (v : Value) (ls : List Sx) : Prop where
  own : w.ownsRow m 59 4 v ls.length (cl ls)
  has : ∀ s ∈ ls, Has w s.o s.n s.c s.b ∧ Fr m w s.o s.c ∧ s.n ≤ 16384
theorem row_not {w : World} {m n : Nat} {v : Value} {xs : List Value} (h : w.ownsRow m 59 4 v n xs) : ∀ g, v.ownBlock = some g → NoT w g ∧ m ≤ g ∧ g < w.heap.size := by
  intro g hg
  obtain ⟨_, h | ⟨g', cap, cur, rfl, h1, h2, _⟩⟩ := h
  · rw [h.1] at hg; cases hg
  · cases hg
    exact ⟨NoT.cells h2 (by decide), h1, node_lt h2⟩
theorem Fr.kxT {m : Nat} {w w' : World} {o : Option Addr} {c : Nat} {L : Nat → Prop} (h : Fr m w o c) (hk : Kx L w w') (hL : ∀ g, g < w.heap.size → L g → NoT w g) : Fr m w' o c := by
  rcases h with h | ⟨g, cur, h1, h2, h3, h4, h5⟩
  · exact .inl h
  · exact .inr ⟨g, cur, h1, h2, (hk.block g (node_lt h3) (fun e => hL g (node_lt h3) e cur h3)).trans h3, h4, h5⟩
theorem reps_kx {w w' : World} {m : Nat} {ls : List Sx} {L : Nat → Prop} (h : ∀ s ∈ ls, Has w s.o s.n s.c s.b ∧ Fr m w s.o s.c ∧ s.n ≤ 16384) (hk : Kx L w w') (hL : ∀ g, g < w.heap.size → L g → NoT w g) : ∀ s ∈ ls, Has w' s.o s.n s.c s.b ∧ Fr m w' s.o s.c ∧ s.n ≤ 16384 := fun s hs => by
  obtain ⟨h1, h2, h3⟩ := h s hs
  exact ⟨(h1.kxF h2 hk (fun g a b => .inr (hL g a b))).1, h2.kxT hk hL, h3⟩
theorem RowS.kx {w w' : World} {m : Nat} {v : Value} {ls : List Sx} {L : Nat → Prop} (h : RowS w m v ls) (hk : Kx L w w') (hL : ∀ g, g < w.heap.size → L g → NoT w g) (hv : ∀ g, v.ownBlock = some g → ¬ L g) : RowS w' m v ls := by
  refine ⟨?_, reps_kx h.has hk hL⟩
  obtain ⟨k1, k | ⟨g, cap, cur, rfl, h1, h2, h3⟩⟩ := h.own
  · exact ⟨k1, .inl k⟩
  · exact ⟨k1, .inr ⟨g, cap, cur, rfl, h1, (hk.block g (node_lt h2) (hv g rfl)).trans h2, h3⟩⟩
theorem RowS.below {w w' : World} {m : Nat} {v : Value} {ls : List Sx} (h : RowS w m v ls) (hb : Below w.heap.size w w') : RowS w' m v ls := h.kx (L := fun _ => False) (.below hb) (fun _ _ e => e.elim) (fun _ _ e => e)
theorem RowS.mono {w : World} {m k : Nat} {v : Value} {ls : List Sx} (h : RowS w m v ls) (hk : k ≤ m) : RowS w k v ls := by
  refine ⟨?_, fun s hs => ?_⟩
  · obtain ⟨k1, e | ⟨g, cap, cur, rfl, h1, h2⟩⟩ := h.own
    · exact ⟨k1, .inl e⟩
    · exact ⟨k1, .inr ⟨g, cap, cur, rfl, Nat.le_trans hk h1, h2⟩⟩
  · obtain ⟨h1, h2, h3⟩ := h.has s hs
    exact ⟨h1, h2.mono hk, h3⟩
theorem RowS.nil (w : World) (m : Nat) : RowS w m (.slice none 0 0) [] := ⟨World.ownsRow_nil _ _ _ _, by simp⟩
theorem RowS.snoc {w w' : World} {m : Nat} {v v' : Value} {ls : List Sx} {s : Sx} (h : RowS w m v ls) (hs : Has w s.o s.n s.c s.b ∧ Fr m w s.o s.c ∧ s.n ≤ 16384) (ho : w'.ownsRow m 59 4 v' (ls.length + 1) (cl ls ++ c4 s)) (hg : w.grownBy w' v.ownBlock) : RowS w' m v' (ls ++ [s]) := by
  refine ⟨?_, ?_⟩
  · rw [cl_snoc, List.length_append]
    exact ho
  · have hk : Kx (fun g => v.ownBlock = some g) w w' := .grown hg (fun g e => e)
    refine reps_kx (fun t ht => ?_) hk (fun g _ e => (row_not h.own g e).1)
    rcases List.mem_append.1 ht with ht | ht
    · exact h.has t ht
    · rw [List.mem_singleton] at ht
      subst ht
      exact hs
theorem row_slice {w : World} {m n : Nat} {v : Value} {xs : List Value} (h : w.ownsRow m 59 4 v n xs) : ∃ so cp, v = .slice so n cp := by
  obtain ⟨_, h | ⟨g', cap, cur, rfl, _⟩⟩ := h
  · exact ⟨none, 0, by rw [h.1, h.2]⟩
  · exact ⟨_, cap, rfl⟩
/-- While List goes on. -/
structure LI (w : World) (l : List Sx) (j : Nat) (v : Value) (wr : World) : Prop where
  ls : ∃ ls : List Sx, ls.length = j ∧ RowS wr w.heap.size v ls ∧ ls.map key = (l.take j).map key
  bel : Below w.heap.size w wr
theorem LI.next {w wr w3 w4 : World} {l ls : List Sx} {j : Nat} {v v4 : Value} (h1 : ls.length = j) (h2 : RowS wr w.heap.size v ls) (h3 : ls.map key = (l.take j).map key) (hbel : Below w.heap.size w wr) (hj : j < l.length) {o' : Option Addr} {c' : Nat} (hb3 : Below wr.heap.size wr w3) (hs : Has w3 o' l[j].n c' l[j].b) (hf : Fr wr.heap.size w3 o' c') (hn : l[j].n ≤ 16384) {ob : Obj}
    (hw : w4.ownsRow w.heap.size 59 4 v4 (j + 1) (cl ls ++ [.int .i64 l[j].i, .int .i64 l[j].l, .int .i64 l[j].u, .slice o' l[j].n c']))
    (hg : (w3.alloc ob).grownBy w4 v.ownBlock) : LI w l (j + 1) v4 w4 := by
  have r3 := (h2.below hb3).below (below_al w3 ob)
  have hs4 := hs.below (below_al w3 ob)
  have hf4 := (hf.mono hbel.size).below (below_al w3 ob)
  refine ⟨⟨ls ++ [⟨l[j].i, l[j].l, l[j].u, o', l[j].n, c', l[j].b⟩], by simp [h1], r3.snoc ⟨hs4, hf4, hn⟩ (by rw [h1]; exact hw) hg, ?_⟩, ?_⟩
  · rw [List.take_succ_eq_append_getElem hj, List.map_append, List.map_append, h3]
    rfl
  · exact (hbel.trans ((hb3.mono hbel.size).trans ((below_al w3 ob).mono (Nat.le_trans hbel.size hb3.size)))).grown hg (by have := hbel.size; have := hb3.size; simp; omega) (fun g e => (row_not h2.own g e).2.1)
theorem four_new (w : World) (a b c d : Value) (t : TypeId) : ∀ j u, [a, b, c, d][j]? = some u → (w.alloc (.cells #[a, b, c, d] t)).cell? ((⟨w.heap.size, 0, none⟩ : Addr).add j) = some u := by
  intro j u hj
  have h := new_block_at w (.cells #[a, b, c, d] t) rfl
  rw [Addr.add_lit, Nat.zero_add]
  exact (cell_in h j u (by simpa using hj)).1
theorem Tryd.infoSess : (Tryd.prog.info? 59).map (fun i => (i.zero, i.size, i.bytes)) = some (some (.agg #[.int .i64 0, .int .i64 0, .int .i64 0, .slice none 0 0]), 4, 48) := by kernel_rfl
theorem Tryd.size59 : Tryd.prog.cellsOf 59 = 4 := by kernel_rfl
set_option maxRecDepth 100000 in
set_option maxHeartbeats 4000000 in
theorem list_ok {w : World} {tb B : Nat} {l : List Sx} {ck : Int} (h : Tb w tb B l ck) :
    Calls Tryd.prog 18 #[.pointer (some ⟨tb, 0, none⟩)] w fun e w' => ∃ v ls, e = .returned v ∧ RowS w' w.heap.size v ls ∧ ls.map key = l.map key ∧ Below w.heap.size w w' := by
  obtain ⟨c0, _⟩ := cell_in h.blk 0 _ rfl
  simp only [List.getElem_toArray, List.getElem_cons_zero] at c0
  have HS := hid (sorted_ok h.m h.few)
  have HK := hid (keys_ok (some B) w)
  have hlen := h.few
  have HT := hid h
  have hlt := node_lt h.blk
  obtain ⟨iT, hiT, hzT0, hzT1, hzT2⟩ := info_parts Tryd.infoSess
  clear h
  go_enter Tryd.func18, Tryd.ntmps18
  go_wp2_with fail
  refine HK.out.mono ?_
  rintro e w' ⟨rfl, rfl⟩
  go_wp2_with fail
  refine HS.out.mono ?_
  rintro e w2 ⟨v, rfl, hrow, hb2⟩
  have hbw := (below_al w (.cells #[.map (some B)] 61)).trans (hb2.mono (B' := w.heap.size) (by simp))
  have HT2 := hid (HT.out.below hbw)
  obtain ⟨N, hN⟩ : ∃ N, N = l.length := ⟨_, rfl⟩
  obtain ⟨so, cp, rfl, HCe⟩ : ∃ so cp, v = .slice so l.length cp ∧ Hid (0 < l.length → ∃ g, so = some ⟨g, 0, none⟩ ∧ g < w2.heap.size ∧ ∀ i (h : i < l.length), w2.cell? ⟨g, i, none⟩ = some (.int .i64 l[i].i)) := by
    obtain ⟨hll, hk | ⟨g, cap, cur, rfl, hm, hg, hn, hmx, hsz, htk⟩⟩ := hrow
    · obtain ⟨rfl, h0⟩ := hk
      exact ⟨none, 0, by rw [h0], hid (fun h => absurd h (by omega))⟩
    · refine ⟨_, cap, rfl, hid (fun _ => ⟨g, rfl, node_lt hg, fun i hi => ?_⟩)⟩
      have h1 : cur[i]? = some (.int .i64 l[i].i) := by
        have : (cur.toList.take (l.length * 1))[i]? = some (.int .i64 l[i].i) := by rw [htk]; simp [hi]
        rw [List.getElem?_take_of_lt (by omega)] at this
        simpa using this
      exact (cell_in hg i _ h1).1
  have HL0 : Hid (LI w2 l 0 (.slice none 0 0) w2) := ⟨⟨[], rfl, RowS.nil _ _, rfl⟩, Below.refl _ _⟩
  have HN := hid hN
  rw [← hN] at hlen ⊢
  have HB2 := hid hbw
  clear HS HK hb2 hbw hrow HT hN c0
  go_wp2_with fail
  go_loopw [3, 13] (fun o i wr => ∃ j : Nat, j ≤ N ∧ i = .int .i64 (j : Int) ∧ Hid (LI w2 l j o wr) ∧ Hid (Below w2.heap.size w2 wr)) (fun o i _ => N - (intOf i).toNat)
  case atStart => exact ⟨0, Nat.zero_le _, rfl, HL0, Below.refl _ _⟩
  case round =>
    obtain ⟨j, hj, rfl, HR, HBr⟩ := hrel
    clear HL0
    by_cases hjn : j < N
    · have hjI : (j : Int) < (N : Int) := by omega
      have hjs : j < l.length := by rw [← HN.out]; exact hjn
      obtain ⟨g, rfl, hgl, hcs⟩ := HCe.out (by omega)
      have hcell := (HBr.out.cell (p := ⟨g, j, none⟩) hgl).trans (hcs j hjs)
      have hTr := HT2.out.below HBr.out
      have cm := (cell_in hTr.blk 0 _ rfl).1
      simp only [List.getElem_toArray, List.getElem_cons_zero] at cm
      have hok := hTr.ok _ (List.getElem_mem hjs)
      have hlk := hTr.m.look hok.id2
      rw [fnd_mem hTr.m.1 (List.getElem_mem hjs)] at hlk
      dsimp only [Option.getD_some, sxv] at hlk
      have HC := hid (copied_ok l[j] wr hok.has (by have := hok.sh; omega))
      obtain ⟨⟨ls, e1, e2, e3⟩, hbl⟩ := HR.out
      have HNx := hid (fun (o' : Option Addr) (c' : Nat) (w3 w4 : World) (v4 : Value) (ob : Obj) hb3 hs hf => LI.next (w3 := w3) (w4 := w4) (v4 := v4) e1 e2 e3 hbl hjs (o' := o') (c' := c') hb3 hs hf hok.sh (ob := ob))
      have HRw := hid (And.intro e1 (And.intro e2 hbl))
      clear hcs hTr hok e1 e2 e3 hbl HR
      generalize hsj : l[j] = s at *
      obtain ⟨si, sl, su, so, sn, sc, sb⟩ := s
      dsimp only at hcell hlk HC HNx
      clear hsj
      go_wp2_with fail
      refine HC.out.mono ?_
      rintro e w3 ⟨o', c', rfl, k1, k2, k3⟩
      have hrow3 := (HRw.out.2.1.below k3).below (below_al w3 (.cells #[.int .i64 si, .int .i64 sl, .int .i64 su, .slice o' sn c'] 59))
      have hrow4 := hrow3.own
      rw [HRw.out.1] at hrow4
      have HOw := hid hrow4
      have HNews := hid (four_new w3 (.int .i64 si) (.int .i64 sl) (.int .i64 su) (.slice o' sn c') 59)
      have HSz : Hid (w2.heap.size ≤ (w3.alloc (.cells #[.int .i64 si, .int .i64 sl, .int .i64 su, .slice o' sn c'] 59)).heap.size) := by
        have h1 := HRw.out.2.2.size
        have h2 := k3.size
        show _ ≤ _
        simp
        omega
      have HN2 := hid (fun w4 v4 => HNx.out o' c' w3 w4 v4 (.cells #[.int .i64 si, .int .i64 sl, .int .i64 su, .slice o' sn c'] 59) k3 k1 k2)
      have HB3 := hid (HBr.out.trans (k3.mono HBr.out.size))
      clear k1 k2 k3 HNx HC hrow3 hrow4 HBr
      go_wp2_with (first | (at_builtin; refine wpList_append_own_at _ rfl (.tmp 17) (.tmp 25) 22 rfl w2.heap.size 59 iT (.agg #[.int .i64 0, .int .i64 0, .int .i64 0, .slice none 0 0]) 4 48 Tryd.underlying22 hiT hzT0 hzT1 hzT2 rfl (by decide) _ _ _ rfl HOw.out ⟨w3.heap.size, 0, none⟩ 1 1 [.int .i64 si, .int .i64 sl, .int .i64 su, .slice o' sn c'] rfl rfl HNews.out (by simp [Value.oneCell']) (by unfold maxLen; omega) (by omega) HSz.out ?_; intro v4 w4 hown4 hgr4 hnil4 hat4))
      exact ⟨⟨j + 1, by omega, by go_num, HN2.out w4 v4 hown4 hgr4, (HB3.out.trans ((below_al w3 _).mono HB3.out.size)).grown hgr4 (by have := HB3.out.size; simp; omega) (fun g e => (row_not HOw.out g e).2.1)⟩, by simp [intOf]; omega⟩
    · obtain rfl : j = N := by omega
      have HF : Hid (∃ ls, RowS wr w.heap.size u3 ls ∧ ls.map key = l.map key ∧ Below w.heap.size w wr) := by
        obtain ⟨⟨ls, e1, e2, e3⟩, hbl⟩ := HR.out
        rw [HN.out, List.take_length] at e3
        exact ⟨ls, e2.mono HB2.out.size, e3, HB2.out.trans (hbl.mono HB2.out.size)⟩
      clear HR HBr HCe HT2 HB2
      go_wp2_with fail
      go_ret
      obtain ⟨ls, h⟩ := HF.out
      exact ⟨_, ls, rfl, h⟩
end Go.Proofs.YtjhclpionimjbaaDoor
