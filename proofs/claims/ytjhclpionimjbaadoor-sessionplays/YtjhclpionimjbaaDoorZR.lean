/-
  makeRoom, and use, at any table. Conditions: those that each theorem names.
-/
import Derived.Test.YtjhclpionimjbaaDoorZV
namespace Go.Proofs.YtjhclpionimjbaaDoor
open Go.RowKit Go.Maps
set_option linter.unusedVariables false
/-- Which session is dropped: none, where there is room. -/
def DropR (l l1 : List Sx) (d : Int) : Prop := (l.length < 8 ∧ l1 = l ∧ d = 0) ∨ (8 ≤ l.length ∧ ∃ m ∈ l, (∀ t ∈ l, m.u ≤ t.u) ∧ d = m.i ∧ l1 = del l m.i)
theorem Tb.map_turn {w w' : World} {tb B : Nat} {l l' : List Sx} {ck : Int} (h : Tb w tb B l ck) (hm : TM w' B l') (hg : w.grownBy w' (some B)) (hf : l'.length ≤ 8) (ho : ∀ s ∈ l', s ∈ l ∨ SxOk w' s) : Tb w' tb B l' ck := by
  have hk : Kx (own2 tb B) w w' := .grown hg (fun g e => by cases e; exact .inr rfl)
  refine ⟨(hg.block tb (node_lt h.blk) (fun e => h.ne (by cases e; rfl))).trans h.blk, hm, hf, fun s hs => ?_, h.ckI⟩
  rcases ho s hs with h1 | h1
  · exact (h.ok s h1).kx hk h.nor
  · exact h1
set_option maxRecDepth 100000 in
set_option maxHeartbeats 2000000 in
theorem room_ok {w : World} {tb B : Nat} {l : List Sx} {ck : Int} (h : Tb w tb B l ck) :
    Calls Tryd.prog 30 #[.pointer (some ⟨tb, 0, none⟩)] w fun e w' => ∃ l1 d, e = .returned (.int .i64 d) ∧ DropR l l1 d ∧ Tb w' tb B l1 ck ∧ Kx (own2 tb B) w w' := by
  obtain ⟨c0, _⟩ := cell_in h.blk 0 _ rfl
  simp only [List.getElem_toArray, List.getElem_cons_zero] at c0
  have hlen := h.m.len 3
  have hfew := h.few
  have HT := hid h
  by_cases h8 : l.length < 8
  · have a1 : decide ((l.length : Int) < 8) = true := by simp; omega
    have a2 : (l.length : Int) < 8 := by omega
    clear h
    go_enter Tryd.func30, Tryd.ntmps30
    go_wp2_with fail
    go_ret
    exact ⟨l, 0, rfl, .inl ⟨h8, rfl, rfl⟩, HT.out, Kx.refl _ _⟩
  · have a1 : decide ((l.length : Int) < 8) = false := by simp; omega
    have a2 : ¬ (l.length : Int) < 8 := by omega
    have HL := hid (least_ok h (fun e => by rw [e] at h8; simp at h8))
    clear h
    go_enter Tryd.func30, Tryd.ntmps30
    go_wp2_with fail
    refine HL.out.mono ?_
    rintro e w2 ⟨m, hm, hmin, rfl, hb⟩
    have hT2 := HT.out.below hb
    have hok := hT2.ok m hm
    obtain ⟨w3, hdel, hm3, hg3⟩ := hT2.m.drop hok.id2 (rise_del hT2.m.1 m.i) (fun y => fnd_del m.i y l) 0
    have hlt := node_lt HT.out.blk
    have c2 := (hb.cell (p := ⟨tb, 0, none⟩) hlt).trans c0
    have hT3 : Tb w3 tb B (del l m.i) ck := hT2.map_turn hm3 hg3 (by have := len_del hT2.m.1 hm; omega) (fun s hs => .inl (mem_del.1 hs).1)
    have HR := hid (And.intro (show DropR l (del l m.i) m.i from .inr ⟨by omega, m, hm, hmin, rfl, rfl⟩) (And.intro hT3 (Kx.trans (.below hb) (Kx.grown hg3 (fun g e => by cases e; exact .inr rfl) : Kx (own2 tb B) w2 w3))))
    clear hm hmin hb hT2 hok hm3 hg3 hlt hT3 HL HT
    obtain ⟨mi, hmi⟩ : ∃ mi, mi = m.i := ⟨_, rfl⟩
    rw [← hmi] at hdel HR ⊢
    clear hmi
    go_wp2_with fail
    go_ret
    exact ⟨_, mi, rfl, HR.out⟩
/-- Where a table's clock goes on. -/
def ckn (c : Int) : Int := IntKind.i64.wrap (c + 1)
theorem ckn_in (c : Int) : inI (ckn c) := by
  unfold ckn inI
  rw [IntKind.wrap_i64]
  omega
end Go.Proofs.YtjhclpionimjbaaDoor
