/-
  What an act does hangs on what sessions say alone. Plain facts. Conditions: those that each theorem names.
-/
import Derived.Test.YtjhclpionimjbaaDoorZP
import Derived.Test.YtjhclpionimjbaaDoorZRe
namespace Go.Proofs.YtjhclpionimjbaaDoor
open Go.RowKit Go.Maps
set_option linter.unusedVariables false
theorem key_len {a b : List Sx} (h : a.map key = b.map key) : a.length = b.length := by have := congrArg List.length h; simpa using this
theorem fnd_key {x : Int} : ∀ {a b : List Sx}, a.map key = b.map key → (fnd a x).map key = (fnd b x).map key
  | [], [], _ => rfl
  | [], _ :: _, h => by simp at h
  | _ :: _, [], h => by simp at h
  | s :: r, t :: q, h => by
    rw [List.map_cons, List.map_cons, List.cons.injEq] at h
    obtain ⟨h1, h2⟩ := h
    have e : s.i = t.i := congrArg (fun x => x.1) h1
    rw [fnd_cons, fnd_cons, e]
    by_cases c : t.i = x
    · rw [if_pos c, if_pos c]
      simp [h1]
    · rw [if_neg c, if_neg c]
      exact fnd_key h2
theorem ask_key {a b : List Sx} (h : a.map key = b.map key) (x q : Int) : askK a x q = askK b x q ∧ askB a x q = askB b x q := by
  have hf := fnd_key (x := x) h
  unfold askK askB
  cases ha : fnd a x with
  | none =>
    cases hb : fnd b x with
    | none => exact ⟨rfl, rfl⟩
    | some t => rw [ha, hb] at hf; simp at hf
  | some s =>
    cases hb : fnd b x with
    | none => rw [ha, hb] at hf; simp at hf
    | some t =>
      rw [ha, hb] at hf
      have hk : key s = key t := by simpa using hf
      have e1 : s.l = t.l := congrArg (fun x => x.2.1) hk
      have e2 : s.b = t.b := congrArg (fun x => x.2.2.2) hk
      simp only [e1, e2]
      exact ⟨trivial, trivial⟩
def insK (k : Int × Int × Int × List UInt8) : List (Int × Int × Int × List UInt8) → List (Int × Int × Int × List UInt8)
  | [] => [k]
  | t :: r => if t.1 < k.1 then t :: insK k r else k :: t :: r
theorem ins_key (s : Sx) : ∀ l : List Sx, (ins l s).map key = insK (key s) (l.map key)
  | [] => rfl
  | t :: r => by
    rw [List.map_cons]
    unfold ins insK
    by_cases c : t.i < s.i
    · rw [if_pos c, if_pos (show (key t).1 < (key s).1 from c), List.map_cons, ins_key s r]
    · rw [if_neg c, if_neg (show ¬ (key t).1 < (key s).1 from c)]
      rfl
theorem put_key (s : Sx) (l : List Sx) : (put l s).map key = (l.map key).map fun k => if k.1 = s.i then key s else k := by
  unfold put
  rw [List.map_map, List.map_map]
  refine List.map_congr_left fun t _ => ?_
  simp only [Function.comp]
  by_cases c : t.i = s.i
  · rw [if_pos c, if_pos (show (key t).1 = s.i from c)]
  · rw [if_neg c, if_neg (show ¬ (key t).1 = s.i from c)]
theorem del_key (x : Int) (l : List Sx) : (del l x).map key = (l.map key).filter fun k => k.1 != x := by
  unfold del
  rw [List.filter_map]
  rfl
theorem mem_key {a b : List Sx} (h : a.map key = b.map key) {t : Sx} (ht : t ∈ b) : ∃ s ∈ a, key s = key t := by
  have : key t ∈ a.map key := by rw [h]; exact List.mem_map_of_mem ht
  obtain ⟨s, h1, h2⟩ := List.mem_map.1 this
  exact ⟨s, h1, h2⟩
theorem drop_key {a b a1 b1 : List Sx} {ck E d1 d2 : Int} (h : a.map key = b.map key) (hu : IU a ck E) (hr : Rise a) (h1 : DropR a a1 d1) (h2 : DropR b b1 d2) : d1 = d2 ∧ a1.map key = b1.map key := by
  have hl := key_len h
  rcases h1 with ⟨e1, rfl, rfl⟩ | ⟨e1, m, hm, hmin, rfl, rfl⟩
  · rcases h2 with ⟨e2, rfl, rfl⟩ | ⟨e2, _⟩
    · exact ⟨rfl, h⟩
    · omega
  · rcases h2 with ⟨e2, _⟩ | ⟨e2, k, hk, hkmin, rfl, rfl⟩
    · omega
    · obtain ⟨s, hs, hsk⟩ := mem_key h hk
      have es : s.u = k.u := congrArg (fun x => x.2.2.1) hsk
      have : m = s := hu.least hr hm hs hmin (fun t ht => by
        obtain ⟨t2, ht2, htk⟩ := mem_key h.symm ht
        have et : t2.u = t.u := congrArg (fun x => x.2.2.1) htk
        have := hkmin t2 ht2
        omega)
      have ei : m.i = k.i := by rw [this]; exact congrArg (fun x => x.1) hsk
      refine ⟨ei, ?_⟩
      rw [del_key, del_key, h, ei]
theorem open_key {a b a1 b1 : List Sx} {ck E x c1 c2 d1 d2 : Int} {r1 r2 : Value} (h : a.map key = b.map key) (hu : IU a ck E) (hr : Rise a) (h1 : OpenR a ck x a1 c1 d1 r1) (h2 : OpenR b ck x b1 c2 d2 r2) : r1 = r2 ∧ d1 = d2 ∧ c1 = c2 ∧ a1.map key = b1.map key := by
  have hf := fnd_key (x := x) h
  have hiff : fnd a x = none ↔ fnd b x = none := by
    constructor
    · intro e; rw [e] at hf; simpa using hf.symm
    · intro e; rw [e] at hf; simpa using hf
  rcases h1 with ⟨rfl, rfl, rfl, rfl, hb1⟩ | ⟨rfl, hx, hn, rfl, l1, hd, s, q1, q2, q3, q4, rfl⟩
  · rcases h2 with ⟨rfl, rfl, rfl, rfl, _⟩ | ⟨_, hx2, hn2, _⟩
    · exact ⟨rfl, rfl, rfl, h⟩
    · rcases hb1 with hb1 | hb1
      · omega
      · exact absurd (hiff.2 hn2) hb1
  · rcases h2 with ⟨_, _, _, _, hb2⟩ | ⟨rfl, _, _, rfl, l2, hd2, t, p1, p2, p3, p4, rfl⟩
    · rcases hb2 with hb2 | hb2
      · omega
      · exact absurd (hiff.1 hn) hb2
    · obtain ⟨e1, e2⟩ := drop_key h hu hr hd hd2
      refine ⟨rfl, e1, rfl, ?_⟩
      rw [ins_key, ins_key, e2]
      unfold key
      rw [q1, q2, q3, q4, p1, p2, p3, p4]
theorem note_key {a b a1 b1 : List Sx} {ck x q c1 c2 : Int} {w : List UInt8} {r1 r2 : Value} (h : a.map key = b.map key) (h1 : NoteR a ck x q w a1 c1 r1) (h2 : NoteR b ck x q w b1 c2 r2) : r1 = r2 ∧ c1 = c2 ∧ a1.map key = b1.map key := by
  have hk := (ask_key h x q).1
  rcases h1 with ⟨rfl, e1, rfl, rfl⟩ | ⟨rfl, e1, e2, rfl, rfl⟩ | ⟨rfl, e1, e2, rfl, s, q1, q2, q3, q4, rfl⟩
  · rcases h2 with ⟨rfl, _, rfl, rfl⟩ | ⟨_, f1, _⟩ | ⟨_, f1, _⟩
    · exact ⟨rfl, rfl, h⟩
    · exact absurd (hk.trans f1) e1
    · exact absurd (hk.trans f1) e1
  · rcases h2 with ⟨_, f1, _⟩ | ⟨rfl, _, _, rfl, rfl⟩ | ⟨_, _, f2, _⟩
    · exact absurd (hk.symm.trans e1) f1
    · exact ⟨rfl, rfl, h⟩
    · omega
  · rcases h2 with ⟨_, f1, _⟩ | ⟨_, _, f2, _⟩ | ⟨rfl, _, _, rfl, t, p1, p2, p3, p4, rfl⟩
    · exact absurd (hk.symm.trans e1) f1
    · omega
    · refine ⟨rfl, rfl, ?_⟩
      rw [put_key, put_key, h, q1, p1]
      unfold key
      rw [q1, q2, q3, q4, p1, p2, p3, p4]
theorem do_key {a b a1 b1 : List Sx} {ck E c1 c2 r1 r2 : Int} {T1 T2 : ByteArray} {s : Sx} (h : a.map key = b.map key) (hu : IU a ck E) (hr : Rise a) (h1 : DoR a ck s a1 c1 r1 T1) (h2 : DoR b ck s b1 c2 r2 T2) : r1 = r2 ∧ T1 = T2 ∧ c1 = c2 ∧ a1.map key = b1.map key := by
  cases h1 with
  | opened d e0 o1 =>
    cases h2 with
    | opened d2 _ o2 => obtain ⟨_, rfl, rfl, e⟩ := open_key h hu hr o1 o2; exact ⟨rfl, rfl, rfl, e⟩
    | refused d2 _ o2 => obtain ⟨e, _⟩ := open_key h hu hr o1 o2; cases e
    | asked f0 _ _ => omega
    | noted f0 _ _ => exact absurd e0 f0
    | unnoted _ f0 _ _ => exact absurd e0 f0
  | refused d e0 o1 =>
    cases h2 with
    | opened d2 _ o2 => obtain ⟨e, _⟩ := open_key h hu hr o1 o2; cases e
    | refused d2 _ o2 => obtain ⟨_, rfl, rfl, e⟩ := open_key h hu hr o1 o2; exact ⟨rfl, rfl, rfl, e⟩
    | asked f0 _ _ => omega
    | noted f0 _ _ => exact absurd e0 f0
    | unnoted _ f0 _ _ => exact absurd e0 f0
  | asked e0 p1 p2 =>
    subst p1 p2
    cases h2 with
    | opened d2 f0 o2 => omega
    | refused d2 f0 o2 => omega
    | asked _ q1 q2 =>
      subst q1 q2
      obtain ⟨k1, k2⟩ := ask_key h s.l s.u
      exact ⟨k1, by rw [k2], rfl, h⟩
    | noted f0 f1 _ => exact absurd e0 f1
    | unnoted _ f0 f1 _ => exact absurd e0 f1
  | noted e0 e1 o1 =>
    cases h2 with
    | opened d2 f0 o2 => exact absurd f0 e0
    | refused d2 f0 o2 => exact absurd f0 e0
    | asked f0 _ _ => exact absurd f0 e1
    | noted _ _ o2 => obtain ⟨_, rfl, e⟩ := note_key h o1 o2; exact ⟨rfl, rfl, rfl, e⟩
    | unnoted _ _ _ o2 => obtain ⟨e, _⟩ := note_key h o1 o2; cases e
  | unnoted c e0 e1 o1 =>
    cases h2 with
    | opened d2 f0 o2 => exact absurd f0 e0
    | refused d2 f0 o2 => exact absurd f0 e0
    | asked f0 _ _ => exact absurd f0 e1
    | noted _ _ o2 => obtain ⟨e, _⟩ := note_key h o1 o2; cases e
    | unnoted c2 _ _ o2 =>
      obtain ⟨e1, rfl, e⟩ := note_key h o1 o2
      unfold errv at e1
      cases e1
      exact ⟨rfl, rfl, rfl, e⟩
/-- Numbers are none below 0, and where there is none there is no reply. -/
def IL (l : List Sx) : Prop := ∀ s ∈ l, 0 ≤ s.l ∧ (s.l = 0 → s.b = [])
theorem IL.do {l l' : List Sx} {ck ck' r : Int} {T : ByteArray} {s : Sx} (h : IL l) (ho : DoR l ck s l' ck' r T) : IL l' := by
  have hop : ∀ {d : Int} {er : Value}, OpenR l ck s.l l' ck' d er → IL l' := fun ho => by
    rcases ho with ⟨_, _, rfl, _⟩ | ⟨_, _, _, _, l1, hd, t, _, q2, _, q4, rfl⟩
    · exact h
    · intro x hx
      rcases mem_ins.1 hx with rfl | hx
      · exact ⟨by omega, fun _ => q4⟩
      · exact h x (drop_sub hd x hx)
  have hno : ∀ {er : Value}, NoteR l ck s.l s.u s.b l' ck' er → IL l' := fun ho => by
    rcases ho with ⟨_, _, rfl, _⟩ | ⟨_, _, _, rfl, _⟩ | ⟨_, e1, _, _, t, q1, q2, _, q4, rfl⟩
    · exact h
    · exact h
    · obtain ⟨s0, hs0, hlt⟩ := ask_new e1
      have := (h s0 (fnd_some hs0).1).1
      intro x hx
      rcases mem_put hx with rfl | ⟨hx, _⟩
      · exact ⟨by omega, fun e => by omega⟩
      · exact h x hx
  cases ho with
  | opened d _ ho => exact hop ho
  | refused d _ ho => exact hop ho
  | asked _ e1 e2 => rw [e1]; exact h
  | noted _ _ ho => exact hno ho
  | unnoted c _ _ ho => exact hno ho
theorem wr_small {v : Int} (h1 : 0 ≤ v) (h2 : v ≤ 1000) : wr v = v := by
  unfold wr
  rw [IntKind.wrap_i64]
  omega
theorem pw_lt {l : List Int} (h1 : l.Pairwise (· ≤ ·)) (h2 : l.Nodup) : l.Pairwise (· < ·) := by
  refine (List.pairwise_and_iff.2 ⟨h1, h2⟩).imp fun {a b} h => ?_
  have := h.1
  have := h.2
  omega
theorem us_nodup {l : List Sx} {ck E : Int} (hu : IU l ck E) (hr : Rise l) : (l.map Sx.u).Nodup := by
  unfold List.Nodup
  rw [List.pairwise_map]
  refine List.Pairwise.imp_of_mem (fun {a b} ha hb hab e => ?_) hr
  have := hu.ap a ha b hb e
  omega
/-- What a table of one's own says may be restored. -/
theorem res_ok {ls l : List Sx} {w w' : World} {ck E : Int} (h : ls.map key = l.map key) (hu : IU l ck E) (hr : Rise l) (hE : E ≤ 1000) (hil : IL l) (hf : l.length ≤ 8) (hok : ∀ s ∈ l, SxOk w s) (hh : ∀ s ∈ ls, Has w' s.o s.n s.c s.b ∧ s.n ≤ 16384) : resB ls ck = true := by
  have hck : ck = E := by rw [hu.ck]; exact wr_small hu.nn hE
  have h0 := hu.nn
  have ei : ls.map Sx.i = l.map Sx.i := by
    have := congrArg (List.map fun k : Int × Int × Int × List UInt8 => k.1) h
    simpa [List.map_map, Function.comp_def, key] using this
  have eu : ls.map Sx.u = l.map Sx.u := by
    have := congrArg (List.map fun k : Int × Int × Int × List UInt8 => k.2.2.1) h
    simpa [List.map_map, Function.comp_def, key] using this
  unfold resB stB
  rw [decide_eq_true (show 0 ≤ ck by omega), decide_eq_true (show ls.length ≤ 8 by rw [key_len h]; exact hf)]
  have h1 : ls.all (fun s => mayB s ck) = true := by
    rw [List.all_eq_true]
    intro s hs
    rw [mayB_iff]
    obtain ⟨t, ht, htk⟩ := mem_key h.symm hs
    have q1 : t.i = s.i := congrArg (fun x => x.1) htk
    have q2 : t.l = s.l := congrArg (fun x => x.2.1) htk
    have q3 : t.u = s.u := congrArg (fun x => x.2.2.1) htk
    have q4 : t.b = s.b := congrArg (fun x => x.2.2.2) htk
    obtain ⟨v, v1, v2, v3⟩ := hu.us t ht
    rw [wr_small (by omega) (by omega)] at v3
    obtain ⟨g1, g2⟩ := hh s hs
    refine ⟨fun e => ?_, by rw [← q1]; exact (hok t ht).id1, by rw [← q2]; exact (hil t ht).1, by omega, by omega, g2⟩
    have := (hil t ht).2 (by omega)
    rw [← g1.1, ← q4, this]
    rfl
  have h2 : riB (ls.map Sx.i) = true := by
    refine decide_eq_true ?_
    rw [ei, List.pairwise_map]
    exact hr
  have h3 : riB (usS ls) = true := by
    refine decide_eq_true (pw_lt ?_ ?_)
    · unfold usS
      exact (List.pairwise_mergeSort (fun a b c h1 h2 => by simp at *; omega) (fun a b => by simp; omega) _).imp (fun h => by simpa using h)
    · unfold usS
      exact (List.mergeSort_perm _ _).nodup_iff.2 (by rw [eu]; exact us_nodup hu hr)
  rw [h1, h2, h3]
  rfl
end Go.Proofs.YtjhclpionimjbaaDoor
