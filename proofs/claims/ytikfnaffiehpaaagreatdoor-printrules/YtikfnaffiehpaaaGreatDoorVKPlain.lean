/-
  Plain facts on classes as numbers below 2^256: bits, words, counts. Nothing of the program stands here.
-/
import Derived.WalkKit
namespace Go.Proofs.YtikfnaffiehpaaaGreatDoor
set_option linter.unusedVariables false

/-! Bits counted below a bound. -/
def pc : Nat → Nat → Nat
  | 0, _ => 0
  | k + 1, C => pc k C + (C.testBit k).toNat

theorem pc_congr : ∀ (k : Nat) (C D : Nat), (∀ i, i < k → C.testBit i = D.testBit i) → pc k C = pc k D
  | 0, _, _, _ => rfl
  | k + 1, C, D, h => by rw [pc, pc, pc_congr k C D (fun i hi => h i (by omega)), h k (by omega)]
theorem pc_le : ∀ (k C : Nat), pc k C ≤ k
  | 0, _ => Nat.le_refl _
  | k + 1, C => by have := pc_le k C; have := Bool.toNat_le (C.testBit k); simp only [pc]; omega
theorem pc_split (j : Nat) : ∀ (k C : Nat), pc (j + k) C = pc j C + pc k (C / 2 ^ j)
  | 0, C => by simp [pc]
  | k + 1, C => by
    rw [← Nat.add_assoc, pc, pc, pc_split j k C, Nat.testBit_div_two_pow, Nat.add_assoc, Nat.add_comm k j]
theorem pc_and_or : ∀ (k C D : Nat), pc k (C &&& D) + pc k (C ||| D) = pc k C + pc k D
  | 0, _, _ => rfl
  | k + 1, C, D => by
    have := pc_and_or k C D
    simp only [pc, Nat.testBit_and, Nat.testBit_or]
    cases C.testBit k <;> cases D.testBit k <;> simp <;> omega
theorem pc_and_le_or : ∀ (k C D : Nat), pc k (C &&& D) ≤ pc k (C ||| D)
  | 0, _, _ => Nat.le_refl _
  | k + 1, C, D => by
    have := pc_and_le_or k C D
    simp only [pc, Nat.testBit_and, Nat.testBit_or]
    cases C.testBit k <;> cases D.testBit k <;> simp <;> omega
theorem pc_mod (k m C : Nat) (h : k ≤ m) : pc k (C % 2 ^ m) = pc k C := by
  refine pc_congr k _ _ fun i hi => ?_
  rw [Nat.testBit_mod_two_pow]
  simp [show i < m by omega]

/-! The count by fields: bytes. -/
theorem and_split (a b M m k : Nat) (hb : b < 2 ^ k) (hm : m < 2 ^ k) : (2 ^ k * a + b) &&& (2 ^ k * M + m) = 2 ^ k * (a &&& M) + (b &&& m) := by
  have hbm : b &&& m < 2 ^ k := Nat.and_lt_two_pow _ hm
  apply Nat.eq_of_testBit_eq
  intro i
  rw [Nat.testBit_and, Nat.testBit_two_pow_mul_add _ hb, Nat.testBit_two_pow_mul_add _ hm, Nat.testBit_two_pow_mul_add _ hbm]
  split
  · rw [Nat.testBit_and]
  · rw [Nat.testBit_and]

def m0 : Nat → Nat
  | 0 => 0
  | n + 1 => 256 * m0 n + 85
def m1 : Nat → Nat
  | 0 => 0
  | n + 1 => 256 * m1 n + 51
def m2 : Nat → Nat
  | 0 => 0
  | n + 1 => 256 * m2 n + 15
def fA (n x : Nat) : Nat := ((x / 2) &&& m0 n) + (x &&& m0 n)
def fB (n x : Nat) : Nat := ((x / 4) &&& m1 n) + (x &&& m1 n)
def fC (n x : Nat) : Nat := (x / 16 + x) &&& m2 n
def gA (r : Nat) : Nat := ((r / 2) &&& 85) + (r &&& 85)
def gB (r : Nat) : Nat := ((r / 4) &&& 51) + (r &&& 51)
def gC (r : Nat) : Nat := (r / 16 + r) &&& 15
theorem gA_ok : ∀ r, r < 256 → gA r < 256 ∧ ((r / 2 + 128) &&& 85 = (r / 2) &&& 85) := by decide +kernel
theorem gB_ok : ∀ r, r < 256 → gB r < 256 ∧ (∀ t, t < 4 → ((r / 4 + 64 * t) &&& 51 = (r / 4) &&& 51)) := by decide +kernel
theorem gAB_ok : ∀ r, r < 256 → gB (gA r) < 256 ∧ gB (gA r) % 16 ≤ 4 ∧ gB (gA r) / 16 ≤ 4 ∧ gC (gB (gA r)) = pc 8 r ∧ pc 8 r ≤ 8 := by decide +kernel
theorem gC_ok : ∀ r, r < 256 → (∀ t, t < 5 → ((r / 16 + 16 * t + r) &&& 15 = (r / 16 + r) &&& 15)) := by decide +kernel

theorem fA_step (n x : Nat) : fA (n + 1) x = 256 * fA n (x / 256) + gA (x % 256) := by
  have hr : x % 256 < 256 := Nat.mod_lt _ (by omega)
  have e1 : x / 2 = 2 ^ 8 * (x / 256 / 2) + (x % 256 / 2 + 128 * (x / 256 % 2)) := by omega
  have e2 : x = 2 ^ 8 * (x / 256) + x % 256 := by omega
  have h1 : (x / 2) &&& m0 (n + 1) = 2 ^ 8 * ((x / 256 / 2) &&& m0 n) + ((x % 256 / 2) &&& 85) := by
    rw [m0, show (256 : Nat) = 2 ^ 8 from rfl, show x / 2 = 2 ^ 8 * (x / 2 ^ 8 / 2) + (x % 2 ^ 8 / 2 + 128 * (x / 2 ^ 8 % 2)) from e1, and_split _ _ _ _ 8 (by omega) (by omega)]
    congr 1
    rcases Nat.mod_two_eq_zero_or_one (x / 2 ^ 8) with h | h
    · rw [h, Nat.mul_zero, Nat.add_zero]
    · rw [h]; exact (gA_ok _ hr).2
  have h2 : x &&& m0 (n + 1) = 2 ^ 8 * ((x / 256) &&& m0 n) + ((x % 256) &&& 85) := by
    conv => lhs; rw [e2]
    rw [m0, show (256 : Nat) = 2 ^ 8 from rfl, and_split _ _ _ _ 8 (by omega) (by omega)]
  unfold fA gA
  rw [h1, h2]
  omega
theorem fB_step (n x : Nat) : fB (n + 1) x = 256 * fB n (x / 256) + gB (x % 256) := by
  have hr : x % 256 < 256 := Nat.mod_lt _ (by omega)
  have e1 : x / 4 = 2 ^ 8 * (x / 256 / 4) + (x % 256 / 4 + 64 * (x / 256 % 4)) := by omega
  have e2 : x = 2 ^ 8 * (x / 256) + x % 256 := by omega
  have h1 : (x / 4) &&& m1 (n + 1) = 2 ^ 8 * ((x / 256 / 4) &&& m1 n) + ((x % 256 / 4) &&& 51) := by
    rw [m1, show (256 : Nat) = 2 ^ 8 from rfl, show x / 4 = 2 ^ 8 * (x / 2 ^ 8 / 4) + (x % 2 ^ 8 / 4 + 64 * (x / 2 ^ 8 % 4)) from e1, and_split _ _ _ _ 8 (by omega) (by omega)]
    congr 1
    exact (gB_ok _ hr).2 _ (Nat.mod_lt _ (by omega))
  have h2 : x &&& m1 (n + 1) = 2 ^ 8 * ((x / 256) &&& m1 n) + ((x % 256) &&& 51) := by
    conv => lhs; rw [e2]
    rw [m1, show (256 : Nat) = 2 ^ 8 from rfl, and_split _ _ _ _ 8 (by omega) (by omega)]
  unfold fB gB
  rw [h1, h2]
  omega
theorem fC_step (n x : Nat) (ha : x / 256 % 16 ≤ 4) (hb : x % 256 % 16 ≤ 4) (hc : x % 256 / 16 ≤ 4) : fC (n + 1) x = 256 * fC n (x / 256) + gC (x % 256) := by
  have hr : x % 256 < 256 := Nat.mod_lt _ (by omega)
  have e1 : x / 16 + x = 2 ^ 8 * (x / 256 / 16 + x / 256) + (x % 256 / 16 + 16 * (x / 256 % 16) + x % 256) := by omega
  unfold fC gC
  rw [m2, e1, show 256 * m2 n = 2 ^ 8 * m2 n from rfl, and_split _ _ _ _ 8 (by omega) (by omega), (gC_ok _ hr) _ (by omega)]
def sB : Nat → Nat → Nat
  | 0, _ => 0
  | n + 1, x => 256 * sB n (x / 256) + pc 8 (x % 256)
theorem fAB_step (n x : Nat) : fB (n + 1) (fA (n + 1) x) = 256 * fB n (fA n (x / 256)) + gB (gA (x % 256)) := by
  have hr : x % 256 < 256 := Nat.mod_lt _ (by omega)
  have := (gA_ok _ hr).1
  rw [fB_step, fA_step, show (256 * fA n (x / 256) + gA (x % 256)) / 256 = fA n (x / 256) by omega, show (256 * fA n (x / 256) + gA (x % 256)) % 256 = gA (x % 256) by omega]
theorem fABC : ∀ (n x : Nat), fC n (fB n (fA n x)) = sB n x
  | 0, x => by simp [fC, m2, sB]
  | n + 1, x => by
    have hr : x % 256 < 256 := Nat.mod_lt _ (by omega)
    obtain ⟨g1, g2, g3, g4, _⟩ := gAB_ok _ hr
    have hz : fB n (fA n (x / 256)) % 16 ≤ 4 := by
      cases n with
      | zero => simp [fB, m1]
      | succ n =>
        obtain ⟨_, k2, _⟩ := gAB_ok _ (show x / 256 % 256 < 256 from Nat.mod_lt _ (by omega))
        rw [fAB_step]; omega
    have hd : fB (n + 1) (fA (n + 1) x) / 256 = fB n (fA n (x / 256)) := by rw [fAB_step]; omega
    have hm : fB (n + 1) (fA (n + 1) x) % 256 = gB (gA (x % 256)) := by rw [fAB_step]; omega
    rw [fC_step n _ (by rw [hd]; exact hz) (by rw [hm]; exact g2) (by rw [hm]; exact g3), hd, hm, fABC n, g4, sB]

theorem pc8 (n x : Nat) : pc (8 + n) x = pc 8 (x % 256) + pc n (x / 256) := by
  rw [pc_split 8 n x, show (256 : Nat) = 2 ^ 8 from rfl, pc_mod 8 8 x (Nat.le_refl _)]
theorem fold2 (s s1 s2 s3 a b c : Nat) (ha : a ≤ 8) (hb : b ≤ 8) (hc : c ≤ 8) (h0 : s = 256 * s1 + a) (h1 : s1 = 256 * s2 + b) (h2 : s2 = 256 * s3 + c) : (s + s1) / 65536 = s2 + s3 := by omega
theorem fold4 (s s1 s2 s3 s4 a b c d : Nat) (h0 : s = 256 * s1 + a) (h1 : s1 = 256 * s2 + b) (h2 : s2 = 256 * s3 + c) (h3 : s3 = 256 * s4 + d) (ha : a ≤ 8) (hb : b ≤ 8) (hc : c ≤ 8) (hd : d ≤ 8) :
    ∃ r, s = 4294967296 * s4 + r ∧ r ≤ 134744072 := ⟨16777216 * d + 65536 * c + 256 * b + a, by omega, by omega⟩
theorem fold5 (s s1 s2 s3 s4 s5 s6 s7 r r1 r2 r3 : Nat) (h0 : s = 4294967296 * s4 + r) (h1 : s1 = 4294967296 * s5 + r1) (h2 : s2 = 4294967296 * s6 + r2) (h3 : s3 = 4294967296 * s7 + r3)
    (b0 : r ≤ 134744072) (b1 : r1 ≤ 134744072) (b2 : r2 ≤ 134744072) (b3 : r3 ≤ 134744072) : (s + s1 + (s2 + s3)) / 4294967296 = s4 + s5 + s6 + s7 := by omega
theorem fold6 (s s1 a B : Nat) (h0 : s = 256 * s1 + a) (ha : a ≤ 8) (hb : s1 ≤ B) : s ≤ 256 * B + 8 ∧ s1 ≤ s := by omega
theorem fold7 (s s1 s2 s3 s4 s5 s6 s7 a b c d e f g : Nat) (h0 : s = 256 * s1 + a) (h1 : s1 = 256 * s2 + b) (h2 : s2 = 256 * s3 + c) (h3 : s3 = 256 * s4 + d) (h4 : s4 = 256 * s5 + e) (h5 : s5 = 256 * s6 + f) (h6 : s6 = 256 * s7 + g) :
    s + s1 + (s2 + s3) + (s4 + s5 + s6 + s7) = 128 * (2 * (s1 + s2 + s3 + s4 + s5 + s6 + s7)) + (a + b + c + d + e + f + g + s7) := by omega
theorem fold8 (a b c d e f g h : Nat) (ha : a ≤ 8) (hb : b ≤ 8) (hc : c ≤ 8) (hd : d ≤ 8) (he : e ≤ 8) (hf : f ≤ 8) (hg : g ≤ 8) (hh : h ≤ 8) : a + b + c + d + e + f + g + h < 128 := by omega
theorem fold9 (s s1 s2 s3 s4 s5 s6 s7 t u v : Nat) (b0 : s ≤ 578721382704613384) (k0 : s1 ≤ s) (k1 : s2 ≤ s1) (k2 : s3 ≤ s2) (k3 : s4 ≤ s3) (k4 : s5 ≤ s4) (k5 : s6 ≤ s5) (k6 : s7 ≤ s6)
    (ht : t = s + s1) (hu : u = s + s1 + (s2 + s3)) (hv : v = s + s1 + (s2 + s3) + (s4 + s5 + s6 + s7)) : t < 18446744073709551616 ∧ u < 18446744073709551616 ∧ v < 9223372036854775808 := by omega
theorem fold_bytes (a b c d e f g h : Nat) (ha : a ≤ 8) (hb : b ≤ 8) (hc : c ≤ 8) (hd : d ≤ 8) (he : e ≤ 8) (hf : f ≤ 8) (hg : g ≤ 8) (hh : h ≤ 8) (s t u v : Nat)
    (hs : s = 256 * (256 * (256 * (256 * (256 * (256 * (256 * h + g) + f) + e) + d) + c) + b) + a) (ht : t = s + s / 256) (hu : u = t + t / 65536) (hv : v = u + u / 4294967296) :
    t < 18446744073709551616 ∧ u < 18446744073709551616 ∧ v < 9223372036854775808 ∧ v % 128 = a + b + c + d + e + f + g + h := by
  obtain ⟨s6, h6⟩ : ∃ x, x = 256 * h + g := ⟨_, rfl⟩
  rw [← h6] at hs
  obtain ⟨s5, h5⟩ : ∃ x, x = 256 * s6 + f := ⟨_, rfl⟩
  rw [← h5] at hs
  obtain ⟨s4, h4⟩ : ∃ x, x = 256 * s5 + e := ⟨_, rfl⟩
  rw [← h4] at hs
  obtain ⟨s3, h3⟩ : ∃ x, x = 256 * s4 + d := ⟨_, rfl⟩
  rw [← h3] at hs
  obtain ⟨s2, h2⟩ : ∃ x, x = 256 * s3 + c := ⟨_, rfl⟩
  rw [← h2] at hs
  obtain ⟨s1, h1⟩ : ∃ x, x = 256 * s2 + b := ⟨_, rfl⟩
  rw [← h1] at hs
  have q1 : s / 256 = s1 := by rw [hs, Nat.mul_add_div (by decide), Nat.div_eq_of_lt (by exact Nat.lt_of_le_of_lt ha (by decide)), Nat.add_zero]
  rw [q1] at ht
  have q2 := fold2 s s1 s2 s3 a b c ha hb hc hs h1 h2
  rw [ht, q2] at hu
  obtain ⟨r, e0, l0⟩ := fold4 _ _ _ _ _ _ _ _ _ hs h1 h2 h3 ha hb hc hd
  obtain ⟨r1, e1, l1⟩ := fold4 _ _ _ _ _ _ _ _ _ h1 h2 h3 h4 hb hc hd he
  obtain ⟨r2, e2, l2⟩ := fold4 _ _ _ _ _ _ _ _ _ h2 h3 h4 h5 hc hd he hf
  obtain ⟨r3, e3, l3⟩ := fold4 _ _ _ _ _ _ _ _ _ h3 h4 h5 h6 hd he hf hg
  have q4 := fold5 s s1 s2 s3 s4 s5 s6 h r r1 r2 r3 e0 e1 e2 e3 l0 l1 l2 l3
  rw [hu, q4] at hv
  obtain ⟨b6, k6⟩ := fold6 _ _ _ _ h6 hg hh
  obtain ⟨b5, k5⟩ := fold6 _ _ _ _ h5 hf b6
  obtain ⟨b4, k4⟩ := fold6 _ _ _ _ h4 he b5
  obtain ⟨b3, k3⟩ := fold6 _ _ _ _ h3 hd b4
  obtain ⟨b2, k2⟩ := fold6 _ _ _ _ h2 hc b3
  obtain ⟨b1, k1⟩ := fold6 _ _ _ _ h1 hb b2
  obtain ⟨b0, k0⟩ := fold6 _ _ _ _ hs ha b1
  have q7 := fold7 s s1 s2 s3 s4 s5 s6 h a b c d e f g hs h1 h2 h3 h4 h5 h6
  have hsum := fold8 a b c d e f g h ha hb hc hd he hf hg hh
  obtain ⟨z1, z2, z3⟩ := fold9 s s1 s2 s3 s4 s5 s6 h t u v b0 k0 k1 k2 k3 k4 k5 k6 ht hu hv
  refine ⟨z1, z2, z3, ?_⟩
  rw [hv, q7, Nat.mul_add_mod, Nat.mod_eq_of_lt hsum]
theorem sB8 (x : Nat) : ∃ a b c d e f g h, a ≤ 8 ∧ b ≤ 8 ∧ c ≤ 8 ∧ d ≤ 8 ∧ e ≤ 8 ∧ f ≤ 8 ∧ g ≤ 8 ∧ h ≤ 8 ∧ sB 8 x = 256 * (256 * (256 * (256 * (256 * (256 * (256 * h + g) + f) + e) + d) + c) + b) + a ∧ pc 64 x = a + b + c + d + e + f + g + h := by
  refine ⟨pc 8 (x % 256), pc 8 (x / 256 % 256), pc 8 (x / 256 / 256 % 256), pc 8 (x / 256 / 256 / 256 % 256), pc 8 (x / 256 / 256 / 256 / 256 % 256), pc 8 (x / 256 / 256 / 256 / 256 / 256 % 256), pc 8 (x / 256 / 256 / 256 / 256 / 256 / 256 % 256), pc 8 (x / 256 / 256 / 256 / 256 / 256 / 256 / 256 % 256), pc_le 8 _, pc_le 8 _, pc_le 8 _, pc_le 8 _, pc_le 8 _, pc_le 8 _, pc_le 8 _, pc_le 8 _, ?_, ?_⟩
  · simp only [sB, Nat.mul_zero, Nat.zero_add]
  · have e0 : pc 64 (x) = pc 8 (x % 256) + pc 56 (x / 256) := pc8 56 (x)
    have e1 : pc 56 (x / 256) = pc 8 (x / 256 % 256) + pc 48 (x / 256 / 256) := pc8 48 (x / 256)
    have e2 : pc 48 (x / 256 / 256) = pc 8 (x / 256 / 256 % 256) + pc 40 (x / 256 / 256 / 256) := pc8 40 (x / 256 / 256)
    have e3 : pc 40 (x / 256 / 256 / 256) = pc 8 (x / 256 / 256 / 256 % 256) + pc 32 (x / 256 / 256 / 256 / 256) := pc8 32 (x / 256 / 256 / 256)
    have e4 : pc 32 (x / 256 / 256 / 256 / 256) = pc 8 (x / 256 / 256 / 256 / 256 % 256) + pc 24 (x / 256 / 256 / 256 / 256 / 256) := pc8 24 (x / 256 / 256 / 256 / 256)
    have e5 : pc 24 (x / 256 / 256 / 256 / 256 / 256) = pc 8 (x / 256 / 256 / 256 / 256 / 256 % 256) + pc 16 (x / 256 / 256 / 256 / 256 / 256 / 256) := pc8 16 (x / 256 / 256 / 256 / 256 / 256)
    have e6 : pc 16 (x / 256 / 256 / 256 / 256 / 256 / 256) = pc 8 (x / 256 / 256 / 256 / 256 / 256 / 256 % 256) + pc 8 (x / 256 / 256 / 256 / 256 / 256 / 256 / 256) := pc8 8 (x / 256 / 256 / 256 / 256 / 256 / 256)
    have e7 : pc 8 (x / 256 / 256 / 256 / 256 / 256 / 256 / 256) = pc 8 (x / 256 / 256 / 256 / 256 / 256 / 256 / 256 % 256) := (pc_mod 8 8 _ (Nat.le_refl _)).symm
    rw [e0, e1, e2, e3, e4, e5, e6, e7]
    simp only [Nat.add_assoc]
theorem ones64 (x y z s t u v : Nat) (hy : y = ((x / 2) &&& 6148914691236517205) + (x &&& 6148914691236517205)) (hz : z = ((y / 4) &&& 3689348814741910323) + (y &&& 3689348814741910323))
    (hs : s = (z / 16 + z) &&& 1085102592571150095) (ht : t = s + s / 256) (hu : u = t + t / 65536) (hv : v = u + u / 4294967296) :
    t < 18446744073709551616 ∧ u < 18446744073709551616 ∧ v < 9223372036854775808 ∧ v % 128 = pc 64 x := by
  obtain ⟨a, b, c, d, e, f, g, h, ha, hb, hc, hd, he, hf, hg, hh, e1, e2⟩ := sB8 x
  rw [e2]
  refine fold_bytes a b c d e f g h ha hb hc hd he hf hg hh s t u v ?_ ht hu hv
  rw [← e1, ← fABC]
  have q0 : m0 8 = 6148914691236517205 := by decide +kernel
  have q1 : m1 8 = 3689348814741910323 := by decide +kernel
  have q2 : m2 8 = 1085102592571150095 := by decide +kernel
  rw [hs, hz, hy, fC, fB, fA, q0, q1, q2]
theorem ones64_lt (x y z : Nat) (hx : x < 18446744073709551616) (hy : y = ((x / 2) &&& 6148914691236517205) + (x &&& 6148914691236517205)) (hz : z = ((y / 4) &&& 3689348814741910323) + (y &&& 3689348814741910323)) :
    y < 18446744073709551616 ∧ z < 18446744073709551616 ∧ z / 16 + z < 18446744073709551616 := by
  have a1 : (x / 2) &&& 6148914691236517205 ≤ 6148914691236517205 := Nat.and_le_right
  have a2 : x &&& 6148914691236517205 ≤ 6148914691236517205 := Nat.and_le_right
  have a3 : (y / 4) &&& 3689348814741910323 ≤ 3689348814741910323 := Nat.and_le_right
  have a4 : y &&& 3689348814741910323 ≤ 3689348814741910323 := Nat.and_le_right
  omega

/-! A class as a number: its words. -/
def wd (C i : Nat) : Nat := C / 2 ^ (64 * i) % 18446744073709551616
theorem wd_lt (C i : Nat) : wd C i < 18446744073709551616 := Nat.mod_lt _ (by decide)
theorem wd_bit (C i j : Nat) : (wd C i).testBit j = (decide (j < 64) && C.testBit (64 * i + j)) := by
  unfold wd
  rw [show (18446744073709551616 : Nat) = 2 ^ 64 from rfl, Nat.testBit_mod_two_pow, Nat.testBit_div_two_pow, Nat.add_comm j]
theorem wd_and (C D i : Nat) : wd (C &&& D) i = wd C i &&& wd D i := by
  apply Nat.eq_of_testBit_eq
  intro j
  rw [Nat.testBit_and, wd_bit, wd_bit, wd_bit, Nat.testBit_and]
  cases decide (j < 64) <;> simp
theorem wd_or (C D i : Nat) : wd (C ||| D) i = wd C i ||| wd D i := by
  apply Nat.eq_of_testBit_eq
  intro j
  rw [Nat.testBit_or, wd_bit, wd_bit, wd_bit, Nat.testBit_or]
  cases decide (j < 64) <;> simp
/-- All bytes. -/
def all256 : Nat := 2 ^ 256 - 1
def cnot (C : Nat) : Nat := all256 - C
theorem cnot_lt (C : Nat) : cnot C < 2 ^ 256 := by unfold cnot all256; omega
theorem cnot_bit (C : Nat) (h : C < 2 ^ 256) (j : Nat) : (cnot C).testBit j = (decide (j < 256) && !C.testBit j) := by
  unfold cnot all256
  rw [Nat.sub_sub, Nat.add_comm 1 C, Nat.testBit_two_pow_sub_succ h]
theorem wd_not (C : Nat) (h : C < 2 ^ 256) (i : Nat) (hi : i < 4) : wd (cnot C) i = 18446744073709551615 - wd C i := by
  apply Nat.eq_of_testBit_eq
  intro j
  rw [wd_bit, cnot_bit C h, show 18446744073709551615 - wd C i = 2 ^ 64 - (wd C i + 1) by have := wd_lt C i; omega, Nat.testBit_two_pow_sub_succ (by have := wd_lt C i; omega), wd_bit]
  by_cases hj : j < 64
  · simp [hj, show 64 * i + j < 256 by omega]
  · simp [hj]
theorem class_ext (C D : Nat) (hC : C < 2 ^ 256) (hD : D < 2 ^ 256) (h0 : wd C 0 = wd D 0) (h1 : wd C 1 = wd D 1) (h2 : wd C 2 = wd D 2) (h3 : wd C 3 = wd D 3) : C = D := by
  apply Nat.eq_of_testBit_eq
  intro j
  by_cases hj : j < 256
  · have hw : wd C (j / 64) = wd D (j / 64) := by
      have : j / 64 = 0 ∨ j / 64 = 1 ∨ j / 64 = 2 ∨ j / 64 = 3 := by omega
      rcases this with e | e | e | e <;> rw [e] <;> assumption
    have a := wd_bit C (j / 64) (j % 64)
    have b := wd_bit D (j / 64) (j % 64)
    rw [hw] at a
    rw [a] at b
    have e : 64 * (j / 64) + j % 64 = j := by omega
    simpa [show j % 64 < 64 by omega, e] using b
  · rw [Nat.testBit_lt_two_pow (Nat.lt_of_lt_of_le hC (Nat.pow_le_pow_right (by decide) (by omega))), Nat.testBit_lt_two_pow (Nat.lt_of_lt_of_le hD (Nat.pow_le_pow_right (by decide) (by omega)))]
/-- The class of four words. -/
def cls (a b c d : Nat) : Nat := a + 18446744073709551616 * (b + 18446744073709551616 * (c + 18446744073709551616 * d))
theorem cls_lt (a b c d : Nat) (ha : a < 18446744073709551616) (hb : b < 18446744073709551616) (hc : c < 18446744073709551616) (hd : d < 18446744073709551616) : cls a b c d < 2 ^ 256 := by
  unfold cls
  rw [show (2 : Nat) ^ 256 = 18446744073709551616 * (18446744073709551616 * (18446744073709551616 * 18446744073709551616)) from by decide +kernel]
  omega
theorem cls_wd (a b c d : Nat) (ha : a < 18446744073709551616) (hb : b < 18446744073709551616) (hc : c < 18446744073709551616) (hd : d < 18446744073709551616) :
    wd (cls a b c d) 0 = a ∧ wd (cls a b c d) 1 = b ∧ wd (cls a b c d) 2 = c ∧ wd (cls a b c d) 3 = d := by
  have e1 : (2 : Nat) ^ (64 * 1) = 18446744073709551616 := by decide +kernel
  have e2 : (2 : Nat) ^ (64 * 2) = 18446744073709551616 * 18446744073709551616 := by decide +kernel
  have e3 : (2 : Nat) ^ (64 * 3) = 18446744073709551616 * 18446744073709551616 * 18446744073709551616 := by decide +kernel
  unfold wd cls
  rw [e1, e2, e3, ← Nat.div_div_eq_div_mul, ← Nat.div_div_eq_div_mul, ← Nat.div_div_eq_div_mul, Nat.mul_zero, Nat.pow_zero, Nat.div_one]
  refine ⟨by omega, by omega, by omega, by omega⟩
theorem pc_words (C : Nat) : pc 256 C = pc 64 (wd C 0) + pc 64 (wd C 1) + pc 64 (wd C 2) + pc 64 (wd C 3) := by
  have m : ∀ i, pc 64 (wd C i) = pc 64 (C / 2 ^ (64 * i)) := fun i => pc_mod 64 64 _ (Nat.le_refl _)
  rw [m, m, m, m]
  have e0 : pc 256 C = pc 64 C + pc 192 (C / 2 ^ 64) := pc_split 64 192 C
  have e1 : pc 192 (C / 2 ^ 64) = pc 64 (C / 2 ^ 64) + pc 128 (C / 2 ^ 64 / 2 ^ 64) := pc_split 64 128 _
  have e2 : pc 128 (C / 2 ^ 64 / 2 ^ 64) = pc 64 (C / 2 ^ 64 / 2 ^ 64) + pc 64 (C / 2 ^ 64 / 2 ^ 64 / 2 ^ 64) := pc_split 64 64 _
  have d2 : C / 2 ^ 64 / 2 ^ 64 = C / 2 ^ (64 * 2) := by rw [Nat.div_div_eq_div_mul, ← Nat.pow_add]
  have d3 : C / 2 ^ 64 / 2 ^ 64 / 2 ^ 64 = C / 2 ^ (64 * 3) := by rw [Nat.div_div_eq_div_mul, Nat.div_div_eq_div_mul, ← Nat.pow_add, ← Nat.pow_add]
  rw [e0, e1, e2, d3, d2]
  simp only [Nat.mul_zero, Nat.pow_zero, Nat.div_one, Nat.mul_one, Nat.add_assoc]
theorem pc_not (C : Nat) (h : C < 2 ^ 256) : ∀ k, k ≤ 256 → pc k C + pc k (cnot C) = k
  | 0, _ => rfl
  | k + 1, hk => by
    have := pc_not C h k (by omega)
    simp only [pc, cnot_bit C h]
    cases C.testBit k <;> simp [show k < 256 by omega] <;> omega
theorem not_and (C D : Nat) (hC : C < 2 ^ 256) (hD : D < 2 ^ 256) : cnot (C &&& D) = cnot C ||| cnot D := by
  apply Nat.eq_of_testBit_eq
  intro j
  rw [cnot_bit _ (Nat.and_lt_two_pow _ hD), Nat.testBit_or, cnot_bit C hC, cnot_bit D hD, Nat.testBit_and]
  cases decide (j < 256) <;> cases C.testBit j <;> cases D.testBit j <;> rfl
theorem not_or (C D : Nat) (hC : C < 2 ^ 256) (hD : D < 2 ^ 256) : cnot (C ||| D) = cnot C &&& cnot D := by
  apply Nat.eq_of_testBit_eq
  intro j
  rw [cnot_bit _ (Nat.or_lt_two_pow hC hD), Nat.testBit_and, cnot_bit C hC, cnot_bit D hD, Nat.testBit_or]
  cases decide (j < 256) <;> cases C.testBit j <;> cases D.testBit j <;> rfl
theorem not_not (C : Nat) (hC : C < 2 ^ 256) : cnot (cnot C) = C := by unfold cnot all256; omega
/-- The bytes from lo on, below lo + n. -/
def spn (lo n : Nat) : Nat := 2 ^ lo * (2 ^ n - 1)
theorem spn_bit (lo n j : Nat) : (spn lo n).testBit j = (decide (lo ≤ j) && decide (j < lo + n)) := by
  unfold spn
  rw [Nat.testBit_two_pow_mul, Nat.testBit_two_pow_sub_one]
  by_cases h : lo ≤ j
  · simp [h, show j - lo < n ↔ j < lo + n by omega]
  · simp [h]
theorem spn_lt (lo n : Nat) (h : lo + n ≤ 256) : spn lo n < 2 ^ 256 := by
  unfold spn
  have h1 : 2 ^ lo * 2 ^ n ≤ 2 ^ 256 := by rw [← Nat.pow_add]; exact Nat.pow_le_pow_right (by decide) h
  have h2 : 0 < 2 ^ lo := Nat.pow_pos (by decide)
  have h3 : 2 ^ lo * (2 ^ n - 1) < 2 ^ lo * 2 ^ n := Nat.mul_lt_mul_of_pos_left (by have : 0 < 2 ^ n := Nat.pow_pos (by decide); omega) h2
  omega
theorem pc_spn (lo n : Nat) : ∀ k, pc k (spn lo n) = if k ≤ lo then 0 else if k ≤ lo + n then k - lo else n
  | 0 => by simp [pc]
  | k + 1 => by
    rw [pc, pc_spn lo n k, spn_bit]
    by_cases h1 : lo ≤ k <;> by_cases h2 : k < lo + n <;> simp [h1, h2] <;> (repeat' split) <;> omega
end Go.Proofs.YtikfnaffiehpaaaGreatDoor
