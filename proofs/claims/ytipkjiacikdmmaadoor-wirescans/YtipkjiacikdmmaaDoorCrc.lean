/-
  Plain facts on the check sum: eight single steps of the register are two looks into a table of sixteen; a change of one byte changes the sum. Nothing of the program stands here.
-/
import Derived.WalkKit
namespace Go.Proofs.YtipkjiacikdmmaaDoor

/-- One step of the register. -/
def st (s : Nat) : Nat := (s / 2) ^^^ (if s % 2 = 1 then 2197175160 else 0)
def st4 (s : Nat) : Nat := st (st (st (st s)))
def st8 (s : Nat) : Nat := st4 (st4 s)
/-- The table. -/
def tab : List Nat := [0, 274646895, 549293790, 820201905, 1098587580, 1361435347, 1640403810, 1905808397, 2197175160, 2460548119, 2722870694, 2987750089, 3280807620, 3553878443, 3811616794, 4084100981]

theorem st_bit (s i : Nat) : (st s).testBit i = (s.testBit (i + 1) ^^ (s.testBit 0 && (2197175160 : Nat).testBit i)) := by
  unfold st
  rw [Nat.testBit_xor, Nat.testBit_div_two]
  congr 1
  rw [Nat.testBit_zero]
  by_cases h : s % 2 = 1 <;> simp [h]
theorem st_xor (a b : Nat) : st (a ^^^ b) = st a ^^^ st b := by
  apply Nat.eq_of_testBit_eq
  intro i
  simp only [st_bit, Nat.testBit_xor]
  cases a.testBit (i + 1) <;> cases b.testBit (i + 1) <;> cases a.testBit 0 <;> cases b.testBit 0 <;> cases (2197175160 : Nat).testBit i <;> rfl
theorem st_two (m : Nat) : st (2 * m) = m := by
  unfold st
  have h1 : 2 * m / 2 = m := by omega
  have h2 : ¬ 2 * m % 2 = 1 := by omega
  rw [h1, if_neg h2, Nat.xor_zero]
theorem st4_xor (a b : Nat) : st4 (a ^^^ b) = st4 a ^^^ st4 b := by simp only [st4, st_xor]
theorem st8_xor (a b : Nat) : st8 (a ^^^ b) = st8 a ^^^ st8 b := by simp only [st8, st4_xor]
theorem st4_low : ∀ r, r < 16 → st4 r = tab.getD r 0 := by decide +kernel
theorem st4_eq (s : Nat) : st4 s = (s / 16) ^^^ tab.getD (s % 16) 0 := by
  have e : s = (2 * (2 * (2 * (2 * (s / 16))))) ^^^ (s % 16) := by
    have h1 : 2 * (2 * (2 * (2 * (s / 16)))) = 2 ^ 4 * (s / 16) := by omega
    rw [h1]
    apply Nat.eq_of_testBit_eq
    intro i
    rw [Nat.testBit_xor, Nat.testBit_two_pow_mul, show (16 : Nat) = 2 ^ 4 from rfl, Nat.testBit_mod_two_pow, Nat.testBit_div_two_pow]
    by_cases hi : i < 4
    · simp [hi, show ¬ 4 ≤ i by omega]
    · simp [hi, show 4 ≤ i by omega, show i - 4 + 4 = i by omega]
  have e2 : st4 (2 * (2 * (2 * (2 * (s / 16))))) = s / 16 := by simp only [st4, st_two]
  calc st4 s = st4 ((2 * (2 * (2 * (2 * (s / 16))))) ^^^ (s % 16)) := by rw [← e]
    _ = st4 (2 * (2 * (2 * (2 * (s / 16))))) ^^^ st4 (s % 16) := st4_xor _ _
    _ = (s / 16) ^^^ tab.getD (s % 16) 0 := by rw [e2, st4_low _ (Nat.mod_lt _ (by omega))]

theorem st_lt (s : Nat) (h : s < 4294967296) : st s < 4294967296 := by
  unfold st
  refine Nat.xor_lt_two_pow (n := 32) (by omega) ?_
  split <;> omega
theorem st4_lt (s : Nat) (h : s < 4294967296) : st4 s < 4294967296 := st_lt _ (st_lt _ (st_lt _ (st_lt _ h)))
theorem st8_lt (s : Nat) (h : s < 4294967296) : st8 s < 4294967296 := st4_lt _ (st4_lt _ h)
theorem xor_lt32 (a b : Nat) (ha : a < 4294967296) (hb : b < 4294967296) : a ^^^ b < 4294967296 := Nat.xor_lt_two_pow (n := 32) ha hb

/-- The register behind bytes. -/
def reg : Nat → List UInt8 → Nat
  | s, [] => s
  | s, x :: r => reg (st8 (s ^^^ x.toNat)) r
theorem reg_snoc : ∀ (l : List UInt8) (s : Nat) (x : UInt8), reg s (l ++ [x]) = st8 (reg s l ^^^ x.toNat)
  | [], s, x => rfl
  | y :: l, s, x => by simp only [List.cons_append, reg]; exact reg_snoc l _ x
theorem reg_append : ∀ (l m : List UInt8) (s : Nat), reg s (l ++ m) = reg (reg s l) m
  | [], m, s => rfl
  | y :: l, m, s => by simp only [List.cons_append, reg]; exact reg_append l m _
theorem reg_lt : ∀ (l : List UInt8) (s : Nat), s < 4294967296 → reg s l < 4294967296
  | [], s, h => h
  | y :: l, s, h => by
    simp only [reg]
    exact reg_lt l _ (st8_lt _ (xor_lt32 _ _ h (by have := y.toNat_lt; omega)))
theorem reg_take_step (l : List UInt8) (k : Nat) (h : k < l.length) (s : Nat) : reg s (l.take (k + 1)) = st8 (reg s (l.take k) ^^^ (l[k]).toNat) := by
  rw [List.take_succ_eq_append_getElem h, reg_snoc]
/-- The sum. -/
def crc (l : List UInt8) : Nat := 4294967295 - reg 4294967295 l
theorem crc_lt (l : List UInt8) : crc l < 4294967296 := by unfold crc; omega

/-! A change is never lost. -/
theorem st_zero (s : Nat) (h : s < 4294967296) (h0 : st s = 0) : s = 0 := by
  unfold st at h0
  by_cases h1 : s % 2 = 1
  · rw [if_pos h1] at h0
    have e : s / 2 = 2197175160 := by
      have := congrArg (· ^^^ 2197175160) h0
      simpa [Nat.xor_assoc] using this
    omega
  · rw [if_neg h1, Nat.xor_zero] at h0
    omega
theorem st8_zero (s : Nat) (h : s < 4294967296) (h0 : st8 s = 0) : s = 0 := by
  unfold st8 st4 at h0
  exact st_zero _ h (st_zero _ (st_lt _ h) (st_zero _ (st_lt _ (st_lt _ h)) (st_zero _ (st_lt _ (st_lt _ (st_lt _ h))) (st_zero _ (st4_lt _ h) (st_zero _ (st_lt _ (st4_lt _ h)) (st_zero _ (st_lt _ (st_lt _ (st4_lt _ h))) (st_zero _ (st_lt _ (st_lt _ (st_lt _ (st4_lt _ h)))) h0)))))))
theorem xor_eq_zero' (a b : Nat) : a ^^^ b = 0 ↔ a = b := by
  constructor
  · intro h
    have := congrArg (· ^^^ b) h
    simpa [Nat.xor_assoc] using this
  · rintro rfl; simp
theorem st8_inj (a b : Nat) (ha : a < 4294967296) (hb : b < 4294967296) (h : st8 a = st8 b) : a = b := by
  have h1 : st8 (a ^^^ b) = 0 := by rw [st8_xor, h]; simp
  exact (xor_eq_zero' a b).1 (st8_zero _ (xor_lt32 a b ha hb) h1)
theorem reg_inj : ∀ (l : List UInt8) (a b : Nat), a < 4294967296 → b < 4294967296 → reg a l = reg b l → a = b
  | [], a, b, _, _, h => h
  | x :: l, a, b, ha, hb, h => by
    have hx : x.toNat < 4294967296 := by have := x.toNat_lt; omega
    have h1 := reg_inj l _ _ (st8_lt _ (xor_lt32 a _ ha hx)) (st8_lt _ (xor_lt32 b _ hb hx)) h
    have h2 := st8_inj _ _ (xor_lt32 a _ ha hx) (xor_lt32 b _ hb hx) h1
    have := congrArg (· ^^^ x.toNat) h2
    simpa [Nat.xor_assoc] using this
/-- One byte is another one: the sum is another one. -/
theorem crc_turned (l m : List UInt8) (x y : UInt8) (h : crc (l ++ x :: m) = crc (l ++ y :: m)) : x = y := by
  unfold crc at h
  have hs : (4294967295 : Nat) < 4294967296 := by omega
  have b1 := reg_lt (l ++ x :: m) _ hs
  have b2 := reg_lt (l ++ y :: m) _ hs
  have h1 : reg 4294967295 (l ++ x :: m) = reg 4294967295 (l ++ y :: m) := by omega
  rw [reg_append, reg_append] at h1
  simp only [reg] at h1
  have hl := reg_lt l _ hs
  have hx : x.toNat < 4294967296 := by have := x.toNat_lt; omega
  have hy : y.toNat < 4294967296 := by have := y.toNat_lt; omega
  have h2 := reg_inj m _ _ (st8_lt _ (xor_lt32 _ _ hl hx)) (st8_lt _ (xor_lt32 _ _ hl hy)) h1
  have h3 := st8_inj _ _ (xor_lt32 _ _ hl hx) (xor_lt32 _ _ hl hy) h2
  apply UInt8.toNat_inj.1
  have := congrArg (reg 4294967295 l ^^^ ·) h3
  simpa [← Nat.xor_assoc] using this
end Go.Proofs.YtipkjiacikdmmaaDoor
