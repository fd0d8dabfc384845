/-
  Plain arithmetic of 64 bit words, of no program: how shifts, 'and', 'or', 'and not' and sums of a uint64 are told by bits of a natural number.
-/
import Derived.Laws.BitsAllLaws
import Derived.Laws.Bits64
import Derived.IntWalk
namespace Go.Proofs.YtkogeeaoppkhkaaDoor.Ma
open Go

theorem shr_cast (m n : Nat) : ((m : Int) / 2 ^ n) = ((m >>> n : Nat) : Int) := by
  rw [Nat.shiftRight_eq_div_pow, Int.natCast_ediv, Int.natCast_pow]; rfl

theorem shr_lt {m : Nat} (n : Nat) (h : m < 18446744073709551616) : m >>> n < 18446744073709551616 := by
  rw [Nat.shiftRight_eq_div_pow]; exact Nat.lt_of_le_of_lt (Nat.div_le_self _ _) h

theorem and_one_eq (m : Nat) : (((m &&& 1 : Nat) : Int) == 1) = m.testBit 0 := by
  rw [nat_mask1, Nat.testBit_zero]
  rw [Bool.eq_iff_iff]; simp; omega

/-- 'm>>n&1 == 1' is whether the bit n is set. -/
theorem has_key (m n : Nat) (hm : m < 18446744073709551616) : (bits BinOp.and IntKind.u64 ((m : Int) / 2 ^ n) 1 == 1) = m.testBit n := by
  rw [shr_cast]
  have := u64_and_nat (m >>> n) 1 (shr_lt n hm) (by decide)
  rw [show ((1 : Nat) : Int) = 1 from rfl] at this
  rw [this, and_one_eq, Nat.testBit_shiftRight]
  simp

theorem pow_lt {n : Nat} (h : n < 64) : 2 ^ n < 18446744073709551616 := by
  have : 2 ^ n < 2 ^ 64 := Nat.pow_lt_pow_right (by decide) h
  simpa using this

theorem pow_le {n : Nat} (h : n ≤ 64) : 2 ^ n ≤ 18446744073709551616 := by
  have : 2 ^ n ≤ 2 ^ 64 := Nat.pow_le_pow_right (by decide) h
  simpa using this

/-- '1<<n' of a uint64, n below 64. -/
theorem one_shl (n : Nat) (h : n < 64) : IntKind.u64.wrap (2 ^ n) = ((2 ^ n : Nat) : Int) := by
  rw [IntKind.wrap_u64]
  have := pow_lt h
  have e : ((2 : Int) ^ n) = ((2 ^ n : Nat) : Int) := by rw [Int.natCast_pow]; rfl
  rw [e]
  generalize 2 ^ n = q at *
  omega

theorem or_lt {a b : Nat} (ha : a < 18446744073709551616) (hb : b < 18446744073709551616) : a ||| b < 18446744073709551616 := Nat.or_lt_two_pow (n := 64) ha hb
theorem and_lt {a : Nat} (b : Nat) (ha : a < 18446744073709551616) : a &&& b < 18446744073709551616 := Nat.lt_of_le_of_lt Nat.and_le_left ha

/-- Words with the same bits are the same. -/
theorem word_ext {a b : Nat} (ha : a < 18446744073709551616) (hb : b < 18446744073709551616) (h : ∀ i, i < 64 → a.testBit i = b.testBit i) : a = b := by
  apply Nat.eq_of_testBit_eq
  intro i
  by_cases hi : i < 64
  · exact h i hi
  · have p : 18446744073709551616 ≤ 2 ^ i := by
      have : 2 ^ 64 ≤ 2 ^ i := Nat.pow_le_pow_right (by decide) (by omega)
      simpa using this
    rw [Nat.testBit_lt_two_pow (by omega), Nat.testBit_lt_two_pow (by omega)]

theorem testBit_high {a : Nat} (ha : a < 18446744073709551616) {i : Nat} (h : 64 ≤ i) : a.testBit i = false := by
  have p : 18446744073709551616 ≤ 2 ^ i := by
    have : 2 ^ 64 ≤ 2 ^ i := Nat.pow_le_pow_right (by decide) (by omega)
    simpa using this
  exact Nat.testBit_lt_two_pow (by omega)

/-- The bits of all ones less b. -/
theorem testBit_not {b : Nat} (hb : b < 18446744073709551616) (i : Nat) : (18446744073709551615 - b).testBit i = (decide (i < 64) && !b.testBit i) := by
  have e : 18446744073709551615 - b = 2 ^ 64 - (b + 1) := by
    have : (2 : Nat) ^ 64 = 18446744073709551616 := rfl
    omega
  rw [e, Nat.testBit_two_pow_sub_succ (by have : (2 : Nat) ^ 64 = 18446744073709551616 := rfl
                                          omega)]

/-- 'a &^ b'. -/
def andNotN (a b : Nat) : Nat := a &&& (18446744073709551615 - b)
theorem andNotN_lt {a : Nat} (b : Nat) (ha : a < 18446744073709551616) : andNotN a b < 18446744073709551616 := and_lt _ ha
theorem testBit_andNotN {a b : Nat} (ha : a < 18446744073709551616) (hb : b < 18446744073709551616) (i : Nat) : (andNotN a b).testBit i = (a.testBit i && !b.testBit i) := by
  unfold andNotN
  rw [Nat.testBit_and, testBit_not hb]
  by_cases h : i < 64
  · simp [h]
  · simp [testBit_high ha (by omega : 64 ≤ i)]

theorem testBit_pow (n i : Nat) : (2 ^ n).testBit i = decide (n = i) := Nat.testBit_two_pow

/-- The set with n (n below 64); the set without it. -/
def withN (m n : Nat) : Nat := m ||| 2 ^ n
def withoutN (m n : Nat) : Nat := andNotN m (2 ^ n)
theorem withN_lt {m n : Nat} (hm : m < 18446744073709551616) (h : n < 64) : withN m n < 18446744073709551616 := or_lt hm (pow_lt h)
theorem withoutN_lt {m : Nat} (n : Nat) (hm : m < 18446744073709551616) : withoutN m n < 18446744073709551616 := andNotN_lt _ hm
theorem testBit_withN (m n i : Nat) : (withN m n).testBit i = (m.testBit i || decide (n = i)) := by
  unfold withN; rw [Nat.testBit_or, testBit_pow]
theorem testBit_withoutN {m n : Nat} (hm : m < 18446744073709551616) (h : n < 64) (i : Nat) : (withoutN m n).testBit i = (m.testBit i && !decide (n = i)) := by
  unfold withoutN; rw [testBit_andNotN hm (pow_lt h), testBit_pow]

theorem with_key (m n : Nat) (hm : m < 18446744073709551616) (h : n < 64) : bits BinOp.or IntKind.u64 (m : Int) (IntKind.u64.wrap (2 ^ n)) = ((withN m n : Nat) : Int) := by
  rw [one_shl n h]; exact u64_or_nat _ _ hm (pow_lt h)
theorem without_key (m n : Nat) (hm : m < 18446744073709551616) (h : n < 64) : bits BinOp.andNot IntKind.u64 (m : Int) (IntKind.u64.wrap (2 ^ n)) = ((withoutN m n : Nat) : Int) := by
  rw [one_shl n h]; exact u64_andNot_nat _ _ hm (pow_lt h)

/-- The n lowest numbers, n up to 64. -/
def lowN (n : Nat) : Nat := 2 ^ n - 1
theorem lowN_lt {n : Nat} (h : n ≤ 64) : lowN n < 18446744073709551616 := by
  have := pow_le h; unfold lowN; omega
theorem testBit_lowN (n i : Nat) : (lowN n).testBit i = decide (i < n) := Nat.testBit_two_pow_sub_one n i
theorem low_key (n : Nat) (h : n ≤ 64) : IntKind.u64.wrap (IntKind.u64.wrap (2 ^ n) - 1) = ((lowN n : Nat) : Int) := by
  rw [IntKind.wrap_u64, IntKind.wrap_u64]
  have h1 := pow_le h
  have h2 : 0 < 2 ^ n := Nat.two_pow_pos n
  have e : ((2 : Int) ^ n) = ((2 ^ n : Nat) : Int) := by rw [Int.natCast_pow]; rfl
  rw [e]; unfold lowN
  by_cases hn : n = 64
  · subst hn; simp
  · have := pow_lt (show n < 64 by omega); omega


/-! ### How many bits are set -/
def popF : Nat → Nat → Nat
  | 0, _ => 0
  | f + 1, x => x % 2 + popF f (x / 2)
theorem popF_le : ∀ f x, popF f x ≤ f
  | 0, _ => Nat.le_refl _
  | f + 1, x => by
    have := popF_le f (x / 2)
    simp only [popF]
    omega

/-- Eight bits at a time. -/
def lane (g : Nat → Nat) : Nat → Nat → Nat
  | 0, _ => 0
  | k + 1, x => g (x % 256) + 256 * lane g k (x / 256)
def lanes (c : Nat) : Nat → Nat
  | 0 => 0
  | k + 1 => c + 256 * lanes c k

theorem and_split (a c q d : Nat) (ha : a < 256) (hc : c < 256) : (a + 256 * q) &&& (c + 256 * d) = (a &&& c) + 256 * (q &&& d) := by
  have h := Nat.and_lt_two_pow a (show c < 2 ^ 8 from hc)
  apply Nat.eq_of_testBit_eq
  intro i
  have e : ∀ u v : Nat, u < 256 → (u + 256 * v).testBit i = if i < 8 then u.testBit i else v.testBit (i - 8) := by
    intro u v hu
    rw [Nat.add_comm, show (256 : Nat) = 2 ^ 8 from rfl, Nat.testBit_two_pow_mul_add _ (by simpa using hu)]
  rw [Nat.testBit_and, e _ _ ha, e _ _ hc, e _ _ (by simpa using h)]
  by_cases hi : i < 8
  · simp [hi, Nat.testBit_and]
  · simp [hi, Nat.testBit_and]

def g1 (b : Nat) : Nat := (b / 2 &&& 85) + (b &&& 85)
def g2 (b : Nat) : Nat := (b / 4 &&& 51) + (b &&& 51)
def g3 (b : Nat) : Nat := (b / 16 + b) &&& 15
theorem g_facts : ∀ b, b < 256 → g1 b < 256 ∧ g2 (g1 b) < 256 ∧ g2 (g1 b) ≤ 68 ∧ g2 (g1 b) % 16 ≤ 4 ∧ g3 (g2 (g1 b)) = popF 8 b := by decide +kernel
theorem cut1 : ∀ b, b < 256 → ∀ r, r < 2 → (b / 2 + 128 * r) &&& 85 = b / 2 &&& 85 := by decide +kernel
theorem cut2 : ∀ b, b < 256 → ∀ r, r < 4 → (b / 4 + 64 * r) &&& 51 = b / 4 &&& 51 := by decide +kernel
theorem cut3 : ∀ b, b < 69 → ∀ r, r < 5 → (b / 16 + 16 * r + b) &&& 15 = (b / 16 + b) &&& 15 := by decide +kernel

theorem step1 : ∀ k x, x < 256 ^ k → (x / 2 &&& lanes 85 k) + (x &&& lanes 85 k) = lane g1 k x
  | 0, x, h => by simp [lanes, lane]
  | k + 1, x, h => by
    have ih := step1 k (x / 256) (by rw [Nat.pow_succ] at h; omega)
    have e1 : x = x % 256 + 256 * (x / 256) := by omega
    have e2 : x / 2 = (x % 256 / 2 + 128 * (x / 256 % 2)) + 256 * (x / 256 / 2) := by omega
    have hb : x % 256 < 256 := by omega
    have a1 : x &&& lanes 85 (k + 1) = (x % 256 &&& 85) + 256 * (x / 256 &&& lanes 85 k) := by
      conv => lhs; rw [e1]
      simp only [lanes]
      exact and_split _ _ _ _ hb (by decide)
    have a2 : x / 2 &&& lanes 85 (k + 1) = (x % 256 / 2 &&& 85) + 256 * (x / 256 / 2 &&& lanes 85 k) := by
      rw [e2]
      simp only [lanes]
      rw [and_split _ _ _ _ (by omega) (by decide), cut1 _ hb _ (by omega)]
    rw [a1, a2]
    simp only [lane, ← ih, g1]
    omega

theorem step2 : ∀ k x, x < 256 ^ k → (x / 4 &&& lanes 51 k) + (x &&& lanes 51 k) = lane g2 k x
  | 0, x, h => by simp [lanes, lane]
  | k + 1, x, h => by
    have ih := step2 k (x / 256) (by rw [Nat.pow_succ] at h; omega)
    have e1 : x = x % 256 + 256 * (x / 256) := by omega
    have e2 : x / 4 = (x % 256 / 4 + 64 * (x / 256 % 4)) + 256 * (x / 256 / 4) := by omega
    have hb : x % 256 < 256 := by omega
    have a1 : x &&& lanes 51 (k + 1) = (x % 256 &&& 51) + 256 * (x / 256 &&& lanes 51 k) := by
      conv => lhs; rw [e1]
      simp only [lanes]
      exact and_split _ _ _ _ hb (by decide)
    have a2 : x / 4 &&& lanes 51 (k + 1) = (x % 256 / 4 &&& 51) + 256 * (x / 256 / 4 &&& lanes 51 k) := by
      rw [e2]
      simp only [lanes]
      rw [and_split _ _ _ _ (by omega) (by decide), cut2 _ hb _ (by omega)]
    rw [a1, a2]
    simp only [lane, ← ih, g2]
    omega

/-- All lanes of x hold what g1 and g2 can leave. -/
def small : Nat → Nat → Prop
  | 0, _ => True
  | k + 1, x => x % 256 ≤ 68 ∧ x % 16 ≤ 4 ∧ small k (x / 256)

theorem step3 : ∀ k x, x < 256 ^ k → small k x → ((x / 16 + x) &&& lanes 15 k) = lane g3 k x
  | 0, x, h, _ => by simp [lanes, lane]
  | k + 1, x, h, hs => by
    simp only [small] at hs
    obtain ⟨s1, s2, s3⟩ := hs
    have ih := step3 k (x / 256) (by rw [Nat.pow_succ] at h; omega) s3
    have hb : x % 256 < 256 := by omega
    have hr : x / 256 % 16 ≤ 4 := by
      cases k with
      | zero => rw [Nat.pow_succ, Nat.pow_zero] at h; omega
      | succ j => simp only [small] at s3; exact s3.2.1
    have e2 : x / 16 + x = (x % 256 / 16 + 16 * (x / 256 % 16) + x % 256) + 256 * (x / 256 / 16 + x / 256) := by omega
    rw [e2]
    simp only [lanes]
    rw [and_split _ _ _ _ (by omega) (by decide), cut3 _ (by omega) _ (by omega), ih]
    simp only [lane, g3]

theorem lane_lt (g : Nat → Nat) (hg : ∀ b, b < 256 → g b < 256) : ∀ k x, lane g k x < 256 ^ k
  | 0, x => by simp [lane]
  | k + 1, x => by
    have ih := lane_lt g hg k (x / 256)
    have := hg (x % 256) (by omega)
    simp only [lane]
    rw [Nat.pow_succ]; omega

theorem lane_comp (g f : Nat → Nat) (hf : ∀ b, b < 256 → f b < 256) : ∀ k x, lane g k (lane f k x) = lane (fun b => g (f b)) k x
  | 0, x => rfl
  | k + 1, x => by
    have := hf (x % 256) (by omega)
    simp only [lane]
    rw [show (f (x % 256) + 256 * lane f k (x / 256)) % 256 = f (x % 256) from by omega, show (f (x % 256) + 256 * lane f k (x / 256)) / 256 = lane f k (x / 256) from by omega, lane_comp g f hf k]

theorem lane_congr {g f : Nat → Nat} (h : ∀ b, b < 256 → g b = f b) : ∀ k x, lane g k x = lane f k x
  | 0, _ => rfl
  | k + 1, x => by simp only [lane]; rw [h _ (by omega), lane_congr h k]

theorem small_lane : ∀ k x, small k (lane (fun b => g2 (g1 b)) k x)
  | 0, _ => trivial
  | k + 1, x => by
    have f := g_facts (x % 256) (by omega)
    have ih := small_lane k (x / 256)
    simp only [small, lane]
    refine ⟨by omega, by omega, ?_⟩
    rw [show (g2 (g1 (x % 256)) + 256 * lane (fun b => g2 (g1 b)) k (x / 256)) / 256 = lane (fun b => g2 (g1 b)) k (x / 256) from by omega]
    exact ih

/-- The first three steps of OnesCount64 leave each byte's number of bits in it. -/
theorem swar3 (x y z : Nat) (hx : x < 18446744073709551616) (hy : y = (x / 2 &&& 6148914691236517205) + (x &&& 6148914691236517205))
    (hz : z = (y / 4 &&& 3689348814741910323) + (y &&& 3689348814741910323)) :
    y < 18446744073709551616 ∧ z < 18446744073709551616 ∧ z / 16 + z < 18446744073709551616 ∧ ((z / 16 + z) &&& 1085102592571150095) = lane (popF 8) 8 x := by
  have P : (256 : Nat) ^ 8 = 18446744073709551616 := rfl
  have ey : y = lane g1 8 x := by rw [hy]; exact step1 8 x (by omega)
  have ly : y < 256 ^ 8 := by rw [ey]; exact lane_lt g1 (fun b hb => (g_facts b hb).1) 8 x
  have ez : z = lane (fun b => g2 (g1 b)) 8 x := by
    rw [hz]
    have := step2 8 y ly
    rw [show lanes 51 8 = 3689348814741910323 from rfl] at this
    rw [this, ey, lane_comp g2 g1 (fun b hb => (g_facts b hb).1)]
  have lz : z < 256 ^ 8 := by rw [ez]; exact lane_lt _ (fun b hb => (g_facts b hb).2.1) 8 x
  have sz : small 8 z := by rw [ez]; exact small_lane 8 x
  have h3 := step3 8 z lz sz
  rw [show lanes 15 8 = 1085102592571150095 from rfl] at h3
  have hz72 : z < 69 * 256 ^ 7 := by
    rw [show (8 : Nat) = 7 + 1 from rfl] at lz sz
    simp only [small] at sz
    have : (256 : Nat) ^ 7 = 72057594037927936 := rfl
    omega
  have P7 : (256 : Nat) ^ 7 = 72057594037927936 := rfl
  refine ⟨by omega, by omega, by omega, ?_⟩
  rw [h3, ez, lane_comp g3 _ (fun b hb => (g_facts b hb).2.1)]
  exact lane_congr (fun b hb => (g_facts b hb).2.2.2.2) 8 x

theorem popF_split : ∀ x, popF 8 (x % 256) + popF 56 (x / 256) = popF 64 x := by
  intro x
  rw [show (64 : Nat) = 56 + 1 + 1 + 1 + 1 + 1 + 1 + 1 + 1 from rfl]
  simp only [popF]
  rw [show x / 2 / 2 / 2 / 2 / 2 / 2 / 2 / 2 = x / 256 from by omega]
  omega

end Go.Proofs.YtkogeeaoppkhkaaDoor.Ma
