/-
  Plain facts on numbers in bytes and on lists: nothing of the program stands here. Conditions: none beside those that each theorem names.
  Bytes in memory: what it is that a slice of bytes holds given bytes, and that its text is these bytes. Plain facts on worlds; conditions: those that each theorem names.
-/
import Derived.WalkKit
import Derived.Test.YtmddcdaodlnnhaaGreatDoorProg
import Derived.WalkLawsBesides
import Derived.Laws.IdiomStrings
namespace Go.Proofs.YtmddcdaodlnnhaaGreatDoor

/-- The k lowest digits of n to the base 256, the highest first. -/
def dig (n : Nat) : Nat → List UInt8
  | 0 => []
  | k + 1 => UInt8.ofNat (n / 256 ^ k) :: dig n k

theorem dig_length (n : Nat) : ∀ k, (dig n k).length = k
  | 0 => rfl
  | k + 1 => by simp [dig, dig_length n k]

theorem dig_mod (n : Nat) : ∀ k j, k ≤ j → dig (n % 256 ^ j) k = dig n k
  | 0, _, _ => rfl
  | k + 1, j, h => by
    unfold dig
    rw [dig_mod n k j (by omega)]
    congr 1
    apply UInt8.toNat_inj.1
    have hs : 256 ^ j = 256 ^ k * 256 ^ (j - k) := by rw [← Nat.pow_add]; congr 1; omega
    have h2 : 256 ^ (j - k) = 256 * 256 ^ (j - k - 1) := by rw [← Nat.pow_succ']; congr 1; omega
    simp only [UInt8.toNat_ofNat']
    rw [hs, Nat.mod_mul_right_div_self, h2]
    exact Nat.mod_mul_right_mod _ _ _

/-- The number of which these are the digits, the highest first, behind a. -/
def valFrom : Nat → List UInt8 → Nat
  | a, [] => a
  | a, d :: r => valFrom (a * 256 + d.toNat) r

theorem valFrom_append (r : List UInt8) (d : UInt8) : ∀ (l : List UInt8) (a : Nat), l = r ++ [d] → valFrom a l = valFrom a r * 256 + d.toNat := by
  induction r with
  | nil => intro l a h; subst h; simp [valFrom]
  | cons x r ih => intro l a h; subst h; simp only [List.cons_append, valFrom]; exact ih _ _ rfl

theorem valFrom_eq : ∀ (l : List UInt8) (a : Nat), valFrom a l = a * 256 ^ l.length + valFrom 0 l
  | [], a => by simp [valFrom]
  | d :: r, a => by
    simp only [valFrom, List.length_cons]
    rw [valFrom_eq r, valFrom_eq r (0 * 256 + d.toNat), Nat.pow_succ']
    simp only [Nat.add_mul, Nat.mul_assoc]
    omega

theorem valFrom_lt : ∀ (l : List UInt8), valFrom 0 l < 256 ^ l.length
  | [] => by simp [valFrom]
  | d :: r => by
    simp only [valFrom, List.length_cons]
    rw [valFrom_eq, Nat.pow_succ']
    have h1 := valFrom_lt r
    have h2 : d.toNat < 256 := d.toNat_lt
    have h3 : (0 * 256 + d.toNat) * 256 ^ r.length ≤ 255 * 256 ^ r.length := Nat.mul_le_mul_right _ (by omega)
    omega

theorem val_dig : ∀ (k n : Nat), valFrom 0 (dig n k) = n % 256 ^ k
  | 0, n => by simp [dig, valFrom, Nat.mod_one]
  | k + 1, n => by
    simp only [dig, valFrom]
    rw [valFrom_eq, dig_length, val_dig k n]
    simp only [UInt8.toNat_ofNat']
    have e : 256 ^ (k + 1) = 256 ^ k * 256 := Nat.pow_succ ..
    rw [e, Nat.mod_mul (x := n) (a := 256 ^ k) (b := 256), Nat.zero_mul, Nat.zero_add, Nat.mul_comm (n / 256 ^ k % 2 ^ 8)]
    simp
    omega

theorem dig_val : ∀ (l : List UInt8), dig (valFrom 0 l) l.length = l
  | [] => rfl
  | d :: r => by
    simp only [List.length_cons, dig]
    have h1 := valFrom_lt r
    have e : valFrom 0 (d :: r) = d.toNat * 256 ^ r.length + valFrom 0 r := by
      rw [valFrom, valFrom_eq]; simp
    have hp : 0 < 256 ^ r.length := Nat.pow_pos (by omega)
    rw [e]
    congr 1
    · apply UInt8.toNat_inj.1
      rw [Nat.add_comm, Nat.add_mul_div_right _ _ hp, Nat.div_eq_of_lt h1]
      simp
    · rw [← dig_mod _ r.length r.length (Nat.le_refl _), Nat.add_comm, Nat.add_mul_mod_self_right, Nat.mod_eq_of_lt h1, dig_val r]

theorem dig_less : ∀ (k n m : Nat), n < 256 ^ k → m < 256 ^ k → Op.bytesLess (dig n k) (dig m k) = decide (n < m)
  | 0, n, m, hn, hm => by simp at hn hm; subst hn; subst hm; simp [dig, Op.bytesLess]
  | k + 1, n, m, hn, hm => by
    have hp : 0 < 256 ^ k := Nat.pow_pos (by omega)
    have ih := dig_less k (n % 256 ^ k) (m % 256 ^ k) (Nat.mod_lt _ hp) (Nat.mod_lt _ hp)
    rw [dig_mod _ _ _ (Nat.le_refl _), dig_mod _ _ _ (Nat.le_refl _)] at ih
    rw [Nat.pow_succ] at hn hm
    have a1 : n / 256 ^ k < 256 := Nat.div_lt_of_lt_mul hn
    have b1 : m / 256 ^ k < 256 := Nat.div_lt_of_lt_mul hm
    have en := Nat.div_add_mod n (256 ^ k)
    have em := Nat.div_add_mod m (256 ^ k)
    have rn := Nat.mod_lt n hp
    have rm := Nat.mod_lt m hp
    simp only [dig, Op.bytesLess, ih]
    generalize n / 256 ^ k = a at *
    generalize m / 256 ^ k = b at *
    generalize n % 256 ^ k = c at *
    generalize m % 256 ^ k = d at *
    generalize 256 ^ k = p at *
    have ea : (UInt8.ofNat a < UInt8.ofNat b) ↔ a < b := by
      rw [UInt8.lt_iff_toNat_lt]; simp only [UInt8.toNat_ofNat']; rw [Nat.mod_eq_of_lt (by simpa using a1), Nat.mod_eq_of_lt (by simpa using b1)]
    have eb : (UInt8.ofNat a == UInt8.ofNat b) = decide (a = b) := by
      rw [Bool.eq_iff_iff, beq_iff_eq, decide_eq_true_iff, ← UInt8.toNat_inj]; simp only [UInt8.toNat_ofNat']; rw [Nat.mod_eq_of_lt (by simpa using a1), Nat.mod_eq_of_lt (by simpa using b1)]
    rw [eb, Bool.eq_iff_iff]
    simp only [Bool.or_eq_true, decide_eq_true_iff, Bool.and_eq_true, ea]
    constructor
    · rintro (h | ⟨rfl, h⟩)
      · have : p * (a + 1) ≤ p * b := Nat.mul_le_mul_left _ h
        rw [Nat.mul_add] at this
        omega
      · omega
    · intro h
      rcases Nat.lt_trichotomy a b with h1 | h1 | h1
      · exact .inl h1
      · subst h1; exact .inr ⟨rfl, by omega⟩
      · have : p * (b + 1) ≤ p * a := Nat.mul_le_mul_left _ h1
        rw [Nat.mul_add] at this
        omega

theorem bytesLess_irrefl : ∀ l, Op.bytesLess l l = false
  | [] => rfl
  | a :: l => by simp [Op.bytesLess, bytesLess_irrefl l]

/-- How many digits a number below 2^64 has. -/
def wid (n : Nat) : Nat :=
  if n < 1 then 0 else if n < 256 then 1 else if n < 65536 then 2 else if n < 16777216 then 3 else if n < 4294967296 then 4 else
  if n < 1099511627776 then 5 else if n < 281474976710656 then 6 else if n < 72057594037927936 then 7 else 8

theorem wid_le (n : Nat) : wid n ≤ 8 := by unfold wid; repeat' split
                                           all_goals omega

theorem wid_of (n k : Nat) (hk : k ≤ 8) (h1 : n < 256 ^ k) (h2 : k = 0 ∨ 256 ^ (k - 1) ≤ n) : wid n = k := by
  have : k = 0 ∨ k = 1 ∨ k = 2 ∨ k = 3 ∨ k = 4 ∨ k = 5 ∨ k = 6 ∨ k = 7 ∨ k = 8 := by omega
  rcases this with rfl | rfl | rfl | rfl | rfl | rfl | rfl | rfl | rfl <;> simp at h1 h2 <;> unfold wid <;> (repeat' split) <;> omega

theorem wid_hi (n : Nat) (h : n < 18446744073709551616) : n < 256 ^ wid n := by
  unfold wid; (repeat' split) <;> simp <;> omega
theorem wid_lo (n : Nat) : wid n = 0 ∨ 256 ^ (wid n - 1) ≤ n := by
  unfold wid; (repeat' split) <;> simp <;> omega

/-- A number in bytes. -/
def numB (n : Nat) : List UInt8 := UInt8.ofNat (wid n) :: dig n (wid n)
theorem numB_length (n : Nat) : (numB n).length = wid n + 1 := by simp [numB, dig_length]

theorem wid_mono (n m : Nat) (h : n ≤ m) (hm : m < 18446744073709551616) : wid n ≤ wid m := by
  rcases Nat.lt_or_ge (wid m) (wid n) with h1 | h1
  · have h2 := wid_hi m hm
    rcases wid_lo n with h3 | h3
    · omega
    · have h4 : 256 ^ wid m ≤ 256 ^ (wid n - 1) := Nat.pow_le_pow_right (by omega) (by omega)
      omega
  · exact h1

theorem numB_less (n m : Nat) (hn : n < 18446744073709551616) (hm : m < 18446744073709551616) : Op.bytesLess (numB n) (numB m) = decide (n < m) := by
  have a1 := wid_le n
  have b1 := wid_le m
  have ea : (UInt8.ofNat (wid n) < UInt8.ofNat (wid m)) ↔ wid n < wid m := by
    rw [UInt8.lt_iff_toNat_lt]; simp only [UInt8.toNat_ofNat']; rw [Nat.mod_eq_of_lt (by simp; omega), Nat.mod_eq_of_lt (by simp; omega)]
  have eb : (UInt8.ofNat (wid n) == UInt8.ofNat (wid m)) = decide (wid n = wid m) := by
    rw [Bool.eq_iff_iff, beq_iff_eq, decide_eq_true_iff, ← UInt8.toNat_inj]; simp only [UInt8.toNat_ofNat']; rw [Nat.mod_eq_of_lt (by simp; omega), Nat.mod_eq_of_lt (by simp; omega)]
  unfold numB
  simp only [Op.bytesLess]
  rw [eb]
  rcases Nat.lt_trichotomy (wid n) (wid m) with h | h | h
  · have : n < m := by
      rcases Nat.lt_or_ge n m with h1 | h1
      · exact h1
      · have := wid_mono m n h1 hn; omega
    simp [ea, h, this]
  · have h1 := wid_hi n hn
    have h2 := wid_hi m hm
    rw [← h] at h2 ⊢
    simp [dig_less _ n m h1 h2]
  · have : ¬ n < m := by
      intro h1; have := wid_mono n m (by omega) hm; omega
    have h3 : ¬ wid n = wid m := by omega
    have h4 : ¬ wid n < wid m := by omega
    simp [ea, this, h3, h4]

theorem numB_inj (n m : Nat) (hn : n < 18446744073709551616) (hm : m < 18446744073709551616) : numB n = numB m ↔ n = m := by
  constructor
  · intro h
    have h1 := numB_less n m hn hm
    have h2 := numB_less m n hm hn
    rw [h, bytesLess_irrefl] at h1
    rw [h, bytesLess_irrefl] at h2
    simp at h1 h2
    omega
  · rintro rfl; rfl
end Go.Proofs.YtmddcdaodlnnhaaGreatDoor
namespace Go.Proofs.YtmddcdaodlnnhaaGreatDoor
open Go.RowKit

/-- A byte as a value. -/
def bv (x : UInt8) : Value := .int .u8 (x.toNat : Int)
/-- Bytes as a text. -/
def bs (l : List UInt8) : ByteArray := ⟨l.toArray⟩
theorem bs_toList (l : List UInt8) : (bs l).toList = l := by rw [ByteArray.toList_eq]; rfl
theorem Tryz.info5 : (Tryz.prog.info? 5).map (fun i => (i.zero, i.size, i.bytes)) = some (some (.int .u8 0), 1, 1) := by kernel_rfl
theorem bv_oneCell (l : List UInt8) : ∀ u ∈ l.map bv, u.oneCell' = true := by
  intro u hu
  obtain ⟨x, _, rfl⟩ := List.mem_map.1 hu
  rfl
theorem one_new (w : World) (v : Value) (t : TypeId) : ∀ j u, [v][j]? = some u → (w.alloc (.cells #[v] t)).cell? ((⟨w.heap.size, 0, none⟩ : Addr).add j) = some u := by
  intro j u hj
  match j, hj with
  | 0, hj => simp at hj; subst hj; simp [Addr.add]
theorem one_ok (k : IntKind) (n : Int) : ∀ u ∈ [Value.int k n], u.oneCell' = true := by
  intro u hu; simp at hu; subst hu; rfl

/-- The slice 'a, of l.length and cap' holds the bytes l; its address is known where it has bytes. -/
def Has (w : World) (a : Option Addr) (len cap : Nat) (l : List UInt8) : Prop :=
  l.length = len ∧ len ≤ cap ∧ cap ≤ maxLen ∧ (a = none → cap = 0) ∧ (0 < len → ∃ b off, a = some ⟨b, off, none⟩ ∧ b < w.heap.size ∧ ∀ i (h : i < l.length), w.cell? ⟨b, off + i, none⟩ = some (bv l[i]))

theorem Has.below {w w' : World} {a : Option Addr} {len cap : Nat} {l : List UInt8} (h : Has w a len cap l) (hb : Below w.heap.size w w') : Has w' a len cap l := by
  obtain ⟨h1, h2, h3, h4, h5⟩ := h
  refine ⟨h1, h2, h3, h4, fun h0 => ?_⟩
  obtain ⟨b, off, ha, hlt, hc⟩ := h5 h0
  have := hb.size
  exact ⟨b, off, ha, by omega, fun i hi => (hb.cell (p := ⟨b, off + i, none⟩) hlt).trans (hc i hi)⟩

theorem Has.of_row {w : World} {base g n cap : Nat} {l : List UInt8} (h : w.ownsRow base 5 1 (.slice (some ⟨g, 0, none⟩) n cap) n (l.map bv)) : Has w (some ⟨g, 0, none⟩) n cap l := by
  have h0 := h
  obtain ⟨hl, h | h⟩ := h
  · cases h.1
  · obtain ⟨g', cap', cur, e, hb, hh, hn, hm, hs, ht⟩ := h
    simp at e hl
    obtain ⟨rfl, rfl⟩ := e
    have hgl : g < w.heap.size := by
      rcases Nat.lt_or_ge g w.heap.size with h1 | h1
      · exact h1
      · rw [Array.getElem?_eq_none h1] at hh; cases hh
    refine ⟨hl, hn, hm, fun e => (by cases e), fun _ => ⟨g, 0, rfl, hgl, fun i hi => ?_⟩⟩
    have := h0.cellAt i (by omega)
    rw [Nat.zero_add, this]
    simp [hi]

theorem Has.drewN {w : World} {a : Option Addr} {len cap : Nat} {l : List UInt8} (h : Has w a len cap l) (q : Nat) : Has (w.drewN q) a len cap l := by
  obtain ⟨h1, h2, h3, h4, h5⟩ := h
  refine ⟨h1, h2, h3, h4, fun h0 => ?_⟩
  obtain ⟨b, off, ha, hlt, hc⟩ := h5 h0
  exact ⟨b, off, ha, by simpa using hlt, fun i hi => by simpa using hc i hi⟩
theorem run_conv_nil (w : World) (c : Nat) : (convert 29 9 (.slice none 0 c)).run Tryz.prog w = .ok (.string (bs [])) w := by
  rw [run_convert_bytes_string w 29 9 5 none 0 c Tryz.underlying29 Tryz.underlying5 Tryz.underlying9]
  simp [Conv.bytesToString, Sem.run_pure]
  rfl
theorem Has.conv {w : World} {a : Option Addr} {len cap : Nat} {l : List UInt8} (h : Has w a len cap l) : (convert 29 9 (.slice a len cap)).run Tryz.prog w = .ok (.string (bs l)) w := by
  obtain ⟨rfl, h2, h3, h4, h5⟩ := h
  cases a with
  | none =>
    have := h4 rfl
    obtain rfl : l = [] := List.eq_nil_of_length_eq_zero (by omega)
    exact run_conv_nil w cap
  | some x =>
    refine run_convert_bytes_back w 29 9 5 x cap l Tryz.underlying29 Tryz.underlying5 Tryz.underlying9 fun j hj => ?_
    obtain ⟨b, off, ha, _, hc⟩ := h5 (by omega)
    cases ha
    rw [Addr.add_lit]
    exact hc j hj
end Go.Proofs.YtmddcdaodlnnhaaGreatDoor
