/-
  Plain arithmetic of 64 bit words, of no program: how shifts, 'and', 'or', 'and not' and sums of a uint64 are told by bits of a natural number.
-/
import Derived.Test.YtehmeccjgjhidaaDoorProg
import Derived.Laws.BitsAllLaws
import Derived.Laws.Bits64
import Derived.IntWalk
import Derived.WalkKit
import Derived.WalkSpells
import Derived.Lib.Hide
import Derived.Lib.TrailingZeros
namespace Go.Proofs.YtehmeccjgjhidaaDoor.Ma
open Go

theorem shr_cast (m n : Nat) : ((m : Int) / 2 ^ n) = ((m >>> n : Nat) : Int) := by
  rw [Nat.shiftRight_eq_div_pow, Int.natCast_ediv, Int.natCast_pow]; rfl

theorem shr_lt {m : Nat} (n : Nat) (h : m < 18446744073709551616) : m >>> n < 18446744073709551616 := by
  rw [Nat.shiftRight_eq_div_pow]; exact Nat.lt_of_le_of_lt (Nat.div_le_self _ _) h

theorem and_one_eq (m : Nat) : (((m &&& 1 : Nat) : Int) == 1) = m.testBit 0 := by
  rw [nat_mask1, Nat.testBit_zero]
  rw [Bool.eq_iff_iff]; simp; omega

/-- 'm>>n&1 == 1' is whether the bit n is set. -/
theorem has_key (m n : Nat) (hm : m < 18446744073709551616) : (bits BinOp.and IntKind.u64 ((m : Int) / 2 ^ n) 1 == 1) = m.testBit n := by
  rw [shr_cast]
  have := u64_and_nat (m >>> n) 1 (shr_lt n hm) (by decide)
  rw [show ((1 : Nat) : Int) = 1 from rfl] at this
  rw [this, and_one_eq, Nat.testBit_shiftRight]
  simp

theorem pow_lt {n : Nat} (h : n < 64) : 2 ^ n < 18446744073709551616 := by
  have : 2 ^ n < 2 ^ 64 := Nat.pow_lt_pow_right (by decide) h
  simpa using this

theorem pow_le {n : Nat} (h : n ≤ 64) : 2 ^ n ≤ 18446744073709551616 := by
  have : 2 ^ n ≤ 2 ^ 64 := Nat.pow_le_pow_right (by decide) h
  simpa using this

/-- '1<<n' of a uint64, n below 64. -/
theorem one_shl (n : Nat) (h : n < 64) : IntKind.u64.wrap (2 ^ n) = ((2 ^ n : Nat) : Int) := by
  rw [IntKind.wrap_u64]
  have := pow_lt h
  have e : ((2 : Int) ^ n) = ((2 ^ n : Nat) : Int) := by rw [Int.natCast_pow]; rfl
  rw [e]
  generalize 2 ^ n = q at *
  omega

theorem or_lt {a b : Nat} (ha : a < 18446744073709551616) (hb : b < 18446744073709551616) : a ||| b < 18446744073709551616 := Nat.or_lt_two_pow (n := 64) ha hb
theorem and_lt {a : Nat} (b : Nat) (ha : a < 18446744073709551616) : a &&& b < 18446744073709551616 := Nat.lt_of_le_of_lt Nat.and_le_left ha

/-- Words with the same bits are the same. -/
theorem word_ext {a b : Nat} (ha : a < 18446744073709551616) (hb : b < 18446744073709551616) (h : ∀ i, i < 64 → a.testBit i = b.testBit i) : a = b := by
  apply Nat.eq_of_testBit_eq
  intro i
  by_cases hi : i < 64
  · exact h i hi
  · have p : 18446744073709551616 ≤ 2 ^ i := by
      have : 2 ^ 64 ≤ 2 ^ i := Nat.pow_le_pow_right (by decide) (by omega)
      simpa using this
    rw [Nat.testBit_lt_two_pow (by omega), Nat.testBit_lt_two_pow (by omega)]

theorem testBit_high {a : Nat} (ha : a < 18446744073709551616) {i : Nat} (h : 64 ≤ i) : a.testBit i = false := by
  have p : 18446744073709551616 ≤ 2 ^ i := by
    have : 2 ^ 64 ≤ 2 ^ i := Nat.pow_le_pow_right (by decide) (by omega)
    simpa using this
  exact Nat.testBit_lt_two_pow (by omega)

/-- The bits of all ones less b. -/
theorem testBit_not {b : Nat} (hb : b < 18446744073709551616) (i : Nat) : (18446744073709551615 - b).testBit i = (decide (i < 64) && !b.testBit i) := by
  have e : 18446744073709551615 - b = 2 ^ 64 - (b + 1) := by
    have : (2 : Nat) ^ 64 = 18446744073709551616 := rfl
    omega
  rw [e, Nat.testBit_two_pow_sub_succ (by have : (2 : Nat) ^ 64 = 18446744073709551616 := rfl
                                          omega)]

/-- 'a &^ b'. -/
def andNotN (a b : Nat) : Nat := a &&& (18446744073709551615 - b)
theorem andNotN_lt {a : Nat} (b : Nat) (ha : a < 18446744073709551616) : andNotN a b < 18446744073709551616 := and_lt _ ha
theorem testBit_andNotN {a b : Nat} (ha : a < 18446744073709551616) (hb : b < 18446744073709551616) (i : Nat) : (andNotN a b).testBit i = (a.testBit i && !b.testBit i) := by
  unfold andNotN
  rw [Nat.testBit_and, testBit_not hb]
  by_cases h : i < 64
  · simp [h]
  · simp [testBit_high ha (by omega : 64 ≤ i)]

theorem testBit_pow (n i : Nat) : (2 ^ n).testBit i = decide (n = i) := Nat.testBit_two_pow

/-- The set with n (n below 64); the set without it. -/
def withN (m n : Nat) : Nat := m ||| 2 ^ n
def withoutN (m n : Nat) : Nat := andNotN m (2 ^ n)
theorem withN_lt {m n : Nat} (hm : m < 18446744073709551616) (h : n < 64) : withN m n < 18446744073709551616 := or_lt hm (pow_lt h)
theorem withoutN_lt {m : Nat} (n : Nat) (hm : m < 18446744073709551616) : withoutN m n < 18446744073709551616 := andNotN_lt _ hm
theorem testBit_withN (m n i : Nat) : (withN m n).testBit i = (m.testBit i || decide (n = i)) := by
  unfold withN; rw [Nat.testBit_or, testBit_pow]
theorem testBit_withoutN {m n : Nat} (hm : m < 18446744073709551616) (h : n < 64) (i : Nat) : (withoutN m n).testBit i = (m.testBit i && !decide (n = i)) := by
  unfold withoutN; rw [testBit_andNotN hm (pow_lt h), testBit_pow]

theorem with_key (m n : Nat) (hm : m < 18446744073709551616) (h : n < 64) : bits BinOp.or IntKind.u64 (m : Int) (IntKind.u64.wrap (2 ^ n)) = ((withN m n : Nat) : Int) := by
  rw [one_shl n h]; exact u64_or_nat _ _ hm (pow_lt h)
theorem without_key (m n : Nat) (hm : m < 18446744073709551616) (h : n < 64) : bits BinOp.andNot IntKind.u64 (m : Int) (IntKind.u64.wrap (2 ^ n)) = ((withoutN m n : Nat) : Int) := by
  rw [one_shl n h]; exact u64_andNot_nat _ _ hm (pow_lt h)

/-- The n lowest numbers, n up to 64. -/
def lowN (n : Nat) : Nat := 2 ^ n - 1
theorem lowN_lt {n : Nat} (h : n ≤ 64) : lowN n < 18446744073709551616 := by
  have := pow_le h; unfold lowN; omega
theorem testBit_lowN (n i : Nat) : (lowN n).testBit i = decide (i < n) := Nat.testBit_two_pow_sub_one n i
theorem low_key (n : Nat) (h : n ≤ 64) : IntKind.u64.wrap (IntKind.u64.wrap (2 ^ n) - 1) = ((lowN n : Nat) : Int) := by
  rw [IntKind.wrap_u64, IntKind.wrap_u64]
  have h1 := pow_le h
  have h2 : 0 < 2 ^ n := Nat.two_pow_pos n
  have e : ((2 : Int) ^ n) = ((2 ^ n : Nat) : Int) := by rw [Int.natCast_pow]; rfl
  rw [e]; unfold lowN
  by_cases hn : n = 64
  · subst hn; simp
  · have := pow_lt (show n < 64 by omega); omega


/-! ### How many bits are set -/
def popF : Nat → Nat → Nat
  | 0, _ => 0
  | f + 1, x => x % 2 + popF f (x / 2)
theorem popF_le : ∀ f x, popF f x ≤ f
  | 0, _ => Nat.le_refl _
  | f + 1, x => by
    have := popF_le f (x / 2)
    simp only [popF]
    omega

/-- Eight bits at a time. -/
def lane (g : Nat → Nat) : Nat → Nat → Nat
  | 0, _ => 0
  | k + 1, x => g (x % 256) + 256 * lane g k (x / 256)
def lanes (c : Nat) : Nat → Nat
  | 0 => 0
  | k + 1 => c + 256 * lanes c k

theorem and_split (a c q d : Nat) (ha : a < 256) (hc : c < 256) : (a + 256 * q) &&& (c + 256 * d) = (a &&& c) + 256 * (q &&& d) := by
  have h := Nat.and_lt_two_pow a (show c < 2 ^ 8 from hc)
  apply Nat.eq_of_testBit_eq
  intro i
  have e : ∀ u v : Nat, u < 256 → (u + 256 * v).testBit i = if i < 8 then u.testBit i else v.testBit (i - 8) := by
    intro u v hu
    rw [Nat.add_comm, show (256 : Nat) = 2 ^ 8 from rfl, Nat.testBit_two_pow_mul_add _ (by simpa using hu)]
  rw [Nat.testBit_and, e _ _ ha, e _ _ hc, e _ _ (by simpa using h)]
  by_cases hi : i < 8
  · simp [hi, Nat.testBit_and]
  · simp [hi, Nat.testBit_and]

def g1 (b : Nat) : Nat := (b / 2 &&& 85) + (b &&& 85)
def g2 (b : Nat) : Nat := (b / 4 &&& 51) + (b &&& 51)
def g3 (b : Nat) : Nat := (b / 16 + b) &&& 15
theorem g_facts : ∀ b, b < 256 → g1 b < 256 ∧ g2 (g1 b) < 256 ∧ g2 (g1 b) ≤ 68 ∧ g2 (g1 b) % 16 ≤ 4 ∧ g3 (g2 (g1 b)) = popF 8 b := by decide +kernel
theorem cut1 : ∀ b, b < 256 → ∀ r, r < 2 → (b / 2 + 128 * r) &&& 85 = b / 2 &&& 85 := by decide +kernel
theorem cut2 : ∀ b, b < 256 → ∀ r, r < 4 → (b / 4 + 64 * r) &&& 51 = b / 4 &&& 51 := by decide +kernel
theorem cut3 : ∀ b, b < 69 → ∀ r, r < 5 → (b / 16 + 16 * r + b) &&& 15 = (b / 16 + b) &&& 15 := by decide +kernel

theorem step1 : ∀ k x, x < 256 ^ k → (x / 2 &&& lanes 85 k) + (x &&& lanes 85 k) = lane g1 k x
  | 0, x, h => by simp [lanes, lane]
  | k + 1, x, h => by
    have ih := step1 k (x / 256) (by rw [Nat.pow_succ] at h; omega)
    have e1 : x = x % 256 + 256 * (x / 256) := by omega
    have e2 : x / 2 = (x % 256 / 2 + 128 * (x / 256 % 2)) + 256 * (x / 256 / 2) := by omega
    have hb : x % 256 < 256 := by omega
    have a1 : x &&& lanes 85 (k + 1) = (x % 256 &&& 85) + 256 * (x / 256 &&& lanes 85 k) := by
      conv => lhs; rw [e1]
      simp only [lanes]
      exact and_split _ _ _ _ hb (by decide)
    have a2 : x / 2 &&& lanes 85 (k + 1) = (x % 256 / 2 &&& 85) + 256 * (x / 256 / 2 &&& lanes 85 k) := by
      rw [e2]
      simp only [lanes]
      rw [and_split _ _ _ _ (by omega) (by decide), cut1 _ hb _ (by omega)]
    rw [a1, a2]
    simp only [lane, ← ih, g1]
    omega

theorem step2 : ∀ k x, x < 256 ^ k → (x / 4 &&& lanes 51 k) + (x &&& lanes 51 k) = lane g2 k x
  | 0, x, h => by simp [lanes, lane]
  | k + 1, x, h => by
    have ih := step2 k (x / 256) (by rw [Nat.pow_succ] at h; omega)
    have e1 : x = x % 256 + 256 * (x / 256) := by omega
    have e2 : x / 4 = (x % 256 / 4 + 64 * (x / 256 % 4)) + 256 * (x / 256 / 4) := by omega
    have hb : x % 256 < 256 := by omega
    have a1 : x &&& lanes 51 (k + 1) = (x % 256 &&& 51) + 256 * (x / 256 &&& lanes 51 k) := by
      conv => lhs; rw [e1]
      simp only [lanes]
      exact and_split _ _ _ _ hb (by decide)
    have a2 : x / 4 &&& lanes 51 (k + 1) = (x % 256 / 4 &&& 51) + 256 * (x / 256 / 4 &&& lanes 51 k) := by
      rw [e2]
      simp only [lanes]
      rw [and_split _ _ _ _ (by omega) (by decide), cut2 _ hb _ (by omega)]
    rw [a1, a2]
    simp only [lane, ← ih, g2]
    omega

/-- All lanes of x hold what g1 and g2 can leave. -/
def small : Nat → Nat → Prop
  | 0, _ => True
  | k + 1, x => x % 256 ≤ 68 ∧ x % 16 ≤ 4 ∧ small k (x / 256)

theorem step3 : ∀ k x, x < 256 ^ k → small k x → ((x / 16 + x) &&& lanes 15 k) = lane g3 k x
  | 0, x, h, _ => by simp [lanes, lane]
  | k + 1, x, h, hs => by
    simp only [small] at hs
    obtain ⟨s1, s2, s3⟩ := hs
    have ih := step3 k (x / 256) (by rw [Nat.pow_succ] at h; omega) s3
    have hb : x % 256 < 256 := by omega
    have hr : x / 256 % 16 ≤ 4 := by
      cases k with
      | zero => rw [Nat.pow_succ, Nat.pow_zero] at h; omega
      | succ j => simp only [small] at s3; exact s3.2.1
    have e2 : x / 16 + x = (x % 256 / 16 + 16 * (x / 256 % 16) + x % 256) + 256 * (x / 256 / 16 + x / 256) := by omega
    rw [e2]
    simp only [lanes]
    rw [and_split _ _ _ _ (by omega) (by decide), cut3 _ (by omega) _ (by omega), ih]
    simp only [lane, g3]

theorem lane_lt (g : Nat → Nat) (hg : ∀ b, b < 256 → g b < 256) : ∀ k x, lane g k x < 256 ^ k
  | 0, x => by simp [lane]
  | k + 1, x => by
    have ih := lane_lt g hg k (x / 256)
    have := hg (x % 256) (by omega)
    simp only [lane]
    rw [Nat.pow_succ]; omega

theorem lane_comp (g f : Nat → Nat) (hf : ∀ b, b < 256 → f b < 256) : ∀ k x, lane g k (lane f k x) = lane (fun b => g (f b)) k x
  | 0, x => rfl
  | k + 1, x => by
    have := hf (x % 256) (by omega)
    simp only [lane]
    rw [show (f (x % 256) + 256 * lane f k (x / 256)) % 256 = f (x % 256) from by omega, show (f (x % 256) + 256 * lane f k (x / 256)) / 256 = lane f k (x / 256) from by omega, lane_comp g f hf k]

theorem lane_congr {g f : Nat → Nat} (h : ∀ b, b < 256 → g b = f b) : ∀ k x, lane g k x = lane f k x
  | 0, _ => rfl
  | k + 1, x => by simp only [lane]; rw [h _ (by omega), lane_congr h k]

theorem small_lane : ∀ k x, small k (lane (fun b => g2 (g1 b)) k x)
  | 0, _ => trivial
  | k + 1, x => by
    have f := g_facts (x % 256) (by omega)
    have ih := small_lane k (x / 256)
    simp only [small, lane]
    refine ⟨by omega, by omega, ?_⟩
    rw [show (g2 (g1 (x % 256)) + 256 * lane (fun b => g2 (g1 b)) k (x / 256)) / 256 = lane (fun b => g2 (g1 b)) k (x / 256) from by omega]
    exact ih

/-- The first three steps of OnesCount64 leave each byte's number of bits in it. -/
theorem swar3 (x y z : Nat) (hx : x < 18446744073709551616) (hy : y = (x / 2 &&& 6148914691236517205) + (x &&& 6148914691236517205))
    (hz : z = (y / 4 &&& 3689348814741910323) + (y &&& 3689348814741910323)) :
    y < 18446744073709551616 ∧ z < 18446744073709551616 ∧ z / 16 + z < 18446744073709551616 ∧ ((z / 16 + z) &&& 1085102592571150095) = lane (popF 8) 8 x := by
  have P : (256 : Nat) ^ 8 = 18446744073709551616 := rfl
  have ey : y = lane g1 8 x := by rw [hy]; exact step1 8 x (by omega)
  have ly : y < 256 ^ 8 := by rw [ey]; exact lane_lt g1 (fun b hb => (g_facts b hb).1) 8 x
  have ez : z = lane (fun b => g2 (g1 b)) 8 x := by
    rw [hz]
    have := step2 8 y ly
    rw [show lanes 51 8 = 3689348814741910323 from rfl] at this
    rw [this, ey, lane_comp g2 g1 (fun b hb => (g_facts b hb).1)]
  have lz : z < 256 ^ 8 := by rw [ez]; exact lane_lt _ (fun b hb => (g_facts b hb).2.1) 8 x
  have sz : small 8 z := by rw [ez]; exact small_lane 8 x
  have h3 := step3 8 z lz sz
  rw [show lanes 15 8 = 1085102592571150095 from rfl] at h3
  have hz72 : z < 69 * 256 ^ 7 := by
    rw [show (8 : Nat) = 7 + 1 from rfl] at lz sz
    simp only [small] at sz
    have : (256 : Nat) ^ 7 = 72057594037927936 := rfl
    omega
  have P7 : (256 : Nat) ^ 7 = 72057594037927936 := rfl
  refine ⟨by omega, by omega, by omega, ?_⟩
  rw [h3, ez, lane_comp g3 _ (fun b hb => (g_facts b hb).2.1)]
  exact lane_congr (fun b hb => (g_facts b hb).2.2.2.2) 8 x

theorem popF_split : ∀ x, popF 8 (x % 256) + popF 56 (x / 256) = popF 64 x := by
  intro x
  rw [show (64 : Nat) = 56 + 1 + 1 + 1 + 1 + 1 + 1 + 1 + 1 from rfl]
  simp only [popF]
  rw [show x / 2 / 2 / 2 / 2 / 2 / 2 / 2 / 2 = x / 256 from by omega]
  omega

end Go.Proofs.YtehmeccjgjhidaaDoor.Ma

/-
  Contracts of package mask's small functions: can, Low, Has, With, Without.
-/
namespace Go.Proofs.YtehmeccjgjhidaaDoor
open Go.RowKit

theorem ret_bool {a b : Bool} (h : a = b) : Ending.returned (.bool a) = .returned (.bool b) := by rw [h]
theorem ret_int {k : IntKind} {a b : Int} (h : a = b) : Ending.returned (.int k a) = .returned (.int k b) := by rw [h]

set_option maxHeartbeats 400000 in
theorem can_yes (n : Int) (w : World) (h0 : 0 ≤ n) (h1 : n < 64) :
    Calls Tryd.prog 30 #[.int .i64 n] w fun e w' => e = .returned (.bool true) ∧ w = w' := by
  go_enter Tryd.func30, Tryd.ntmps30
  go_wp2
  go_ret
  exact ⟨rfl, rfl⟩

set_option maxHeartbeats 400000 in
theorem can_no (n : Int) (w : World) (h : n < 0 ∨ 64 ≤ n) :
    Calls Tryd.prog 30 #[.int .i64 n] w fun e w' => e = .returned (.bool false) ∧ w = w' := by
  rcases h with h | h
  · have h' : ¬ 0 ≤ n := by omega
    go_enter Tryd.func30, Tryd.ntmps30
    go_wp2
    go_ret
    exact ⟨rfl, rfl⟩
  · have h' : ¬ n < 64 := by omega
    have h2 : 0 ≤ n := by omega
    go_enter Tryd.func30, Tryd.ntmps30
    go_wp2
    go_ret
    exact ⟨rfl, rfl⟩

set_option maxHeartbeats 400000 in
theorem with_yes (m : Nat) (n : Int) (w : World) (hm : m < 18446744073709551616) (h0 : 0 ≤ n) (h1 : n < 64) :
    Calls Tryd.prog 22 #[.int .u64 m, .int .i64 n] w fun e w' => e = .returned (.int .u64 (Ma.withN m n.toNat : Nat)) ∧ w = w' := by
  obtain ⟨k, rfl⟩ := Int.eq_ofNat_of_zero_le h0
  go_enter Tryd.func22, Tryd.ntmps22
  go_wp2_with (go_at_call 30; refine (can_yes _ _ (by omega) (by omega)).mono ?_; rintro e w' ⟨rfl, rfl⟩)
  go_ret
  exact ⟨ret_int (Ma.with_key m _ hm (by omega)), rfl⟩

set_option maxHeartbeats 400000 in
theorem with_no (m : Nat) (n : Int) (w : World) (h : n < 0 ∨ 64 ≤ n) :
    Calls Tryd.prog 22 #[.int .u64 m, .int .i64 n] w fun e w' => e = .returned (.int .u64 m) ∧ w = w' := by
  go_enter Tryd.func22, Tryd.ntmps22
  go_wp2_with (go_at_call 30; refine (can_no _ _ h).mono ?_; rintro e w' ⟨rfl, rfl⟩)
  go_ret
  exact ⟨rfl, rfl⟩

set_option maxHeartbeats 400000 in
theorem without_yes (m : Nat) (n : Int) (w : World) (hm : m < 18446744073709551616) (h0 : 0 ≤ n) (h1 : n < 64) :
    Calls Tryd.prog 24 #[.int .u64 m, .int .i64 n] w fun e w' => e = .returned (.int .u64 (Ma.withoutN m n.toNat : Nat)) ∧ w = w' := by
  obtain ⟨k, rfl⟩ := Int.eq_ofNat_of_zero_le h0
  go_enter Tryd.func24, Tryd.ntmps24
  go_wp2_with (go_at_call 30; refine (can_yes _ _ (by omega) (by omega)).mono ?_; rintro e w' ⟨rfl, rfl⟩)
  go_ret
  exact ⟨ret_int (Ma.without_key m _ hm (by omega)), rfl⟩

set_option maxHeartbeats 400000 in
theorem without_no (m : Nat) (n : Int) (w : World) (h : n < 0 ∨ 64 ≤ n) :
    Calls Tryd.prog 24 #[.int .u64 m, .int .i64 n] w fun e w' => e = .returned (.int .u64 m) ∧ w = w' := by
  go_enter Tryd.func24, Tryd.ntmps24
  go_wp2_with (go_at_call 30; refine (can_no _ _ h).mono ?_; rintro e w' ⟨rfl, rfl⟩)
  go_ret
  exact ⟨rfl, rfl⟩

set_option maxHeartbeats 400000 in
theorem low_yes (n : Int) (w : World) (h0 : 0 ≤ n) (h1 : n ≤ 64) :
    Calls Tryd.prog 13 #[.int .i64 n] w fun e w' => e = .returned (.int .u64 (Ma.lowN n.toNat : Nat)) ∧ w = w' := by
  obtain ⟨k, rfl⟩ := Int.eq_ofNat_of_zero_le h0
  have h2 : ¬ (64 : Int) < k := by omega
  go_enter Tryd.func13, Tryd.ntmps13
  go_wp2
  go_ret
  exact ⟨ret_int (Ma.low_key _ (by omega)), rfl⟩

set_option maxHeartbeats 400000 in
theorem low_neg (n : Int) (w : World) (h0 : n < 0) :
    Calls Tryd.prog 13 #[.int .i64 n] w fun e w' => e = .returned (.int .u64 0) ∧ w = w' := by
  go_enter Tryd.func13, Tryd.ntmps13
  go_wp2
  go_ret
  exact ⟨rfl, rfl⟩

set_option maxHeartbeats 400000 in
theorem low_big (n : Int) (w : World) (h0 : 64 < n) :
    Calls Tryd.prog 13 #[.int .i64 n] w fun e w' => e = .returned (.int .u64 18446744073709551615) ∧ w = w' := by
  have h2 : ¬ n < 0 := by omega
  go_enter Tryd.func13, Tryd.ntmps13
  go_wp2
  go_ret
  exact ⟨rfl, rfl⟩

end Go.Proofs.YtehmeccjgjhidaaDoor

/-
  Plain arithmetic, of no program: what math/bits.OnesCount64 and TrailingZeros64 reckon, step by step; the members of a set of bits as a list.
-/
namespace Go.Proofs.YtehmeccjgjhidaaDoor.Ma
open Go

theorem popF_byte (f x : Nat) : popF (8 + f) x = popF 8 (x % 256) + popF f (x / 256) := by
  rw [show 8 + f = f + 1 + 1 + 1 + 1 + 1 + 1 + 1 + 1 from by omega]
  simp only [popF]
  rw [show x / 2 / 2 / 2 / 2 / 2 / 2 / 2 / 2 = x / 256 from by omega]
  omega

theorem wrap_nat (a : Nat) (h : a < 18446744073709551616) : IntKind.u64.wrap (a : Int) = (a : Int) := by rw [IntKind.wrap_u64]; omega
theorem wrap_add (a b : Nat) (h : a + b < 18446744073709551616) : IntKind.u64.wrap ((a : Int) + (b : Int)) = ((a + b : Nat) : Int) := by rw [IntKind.wrap_u64]; omega
theorem div_cast (a : Nat) (k : Nat) : ((a : Int) / (k : Int)) = ((a / k : Nat) : Int) := by rw [Int.natCast_ediv]

theorem ones_sum (x c d e f : Nat) (hc : c = lane (popF 8) 8 x) (hd : d = c + c / 256) (he : e = d + d / 65536) (hf : f = e + e / 4294967296) :
    c + c / 256 < 18446744073709551616 ∧ d + d / 65536 < 18446744073709551616 ∧ e + e / 4294967296 < 18446744073709551616 ∧ f < 9223372036854775808 ∧ f % 128 = popF 64 x := by
  have b0 := popF_le 8 (x % 256)
  have b1 := popF_le 8 (x / 256 % 256)
  have b2 := popF_le 8 (x / 256 / 256 % 256)
  have b3 := popF_le 8 (x / 256 / 256 / 256 % 256)
  have b4 := popF_le 8 (x / 256 / 256 / 256 / 256 % 256)
  have b5 := popF_le 8 (x / 256 / 256 / 256 / 256 / 256 % 256)
  have b6 := popF_le 8 (x / 256 / 256 / 256 / 256 / 256 / 256 % 256)
  have b7 := popF_le 8 (x / 256 / 256 / 256 / 256 / 256 / 256 / 256 % 256)
  have s : popF 64 x = popF 8 (x % 256) + (popF 8 (x / 256 % 256) + (popF 8 (x / 256 / 256 % 256) + (popF 8 (x / 256 / 256 / 256 % 256) + (popF 8 (x / 256 / 256 / 256 / 256 % 256) + (popF 8 (x / 256 / 256 / 256 / 256 / 256 % 256) + (popF 8 (x / 256 / 256 / 256 / 256 / 256 / 256 % 256) + (popF 8 (x / 256 / 256 / 256 / 256 / 256 / 256 / 256 % 256) + 0))))))) := by
    rw [show (64 : Nat) = 8 + (8 + (8 + (8 + (8 + (8 + (8 + (8 + 0))))))) from rfl, popF_byte, popF_byte, popF_byte, popF_byte, popF_byte, popF_byte, popF_byte, popF_byte]
    rfl
  rw [s]
  have hl : c = popF 8 (x % 256) + 256 * (popF 8 (x / 256 % 256) + 256 * (popF 8 (x / 256 / 256 % 256) + 256 * (popF 8 (x / 256 / 256 / 256 % 256) + 256 * (popF 8 (x / 256 / 256 / 256 / 256 % 256) + 256 * (popF 8 (x / 256 / 256 / 256 / 256 / 256 % 256) + 256 * (popF 8 (x / 256 / 256 / 256 / 256 / 256 / 256 % 256) + 256 * (popF 8 (x / 256 / 256 / 256 / 256 / 256 / 256 / 256 % 256) + 256 * 0))))))) := hc
  clear hc s
  generalize popF 8 (x % 256) = p0 at *
  generalize popF 8 (x / 256 % 256) = p1 at *
  generalize popF 8 (x / 256 / 256 % 256) = p2 at *
  generalize popF 8 (x / 256 / 256 / 256 % 256) = p3 at *
  generalize popF 8 (x / 256 / 256 / 256 / 256 % 256) = p4 at *
  generalize popF 8 (x / 256 / 256 / 256 / 256 / 256 % 256) = p5 at *
  generalize popF 8 (x / 256 / 256 / 256 / 256 / 256 / 256 % 256) = p6 at *
  generalize popF 8 (x / 256 / 256 / 256 / 256 / 256 / 256 / 256 % 256) = p7 at *
  have h1 : c / 256 = p1 + 256 * (p2 + 256 * (p3 + 256 * (p4 + 256 * (p5 + 256 * (p6 + 256 * p7))))) := by omega
  have h2 : d = (p0 + p1) + 256 * ((p1 + p2) + 256 * ((p2 + p3) + 256 * ((p3 + p4) + 256 * ((p4 + p5) + 256 * ((p5 + p6) + 256 * ((p6 + p7) + 256 * p7)))))) := by omega
  have h3 : d / 65536 = (p2 + p3) + 256 * ((p3 + p4) + 256 * ((p4 + p5) + 256 * ((p5 + p6) + 256 * ((p6 + p7) + 256 * p7)))) := by omega
  have h4 : e = (p0 + p1 + p2 + p3) + 256 * ((p1 + p2 + p3 + p4) + 256 * ((p2 + p3 + p4 + p5) + 256 * ((p3 + p4 + p5 + p6) + 256 * ((p4 + p5 + p6 + p7) + 256 * ((p5 + p6 + p7) + 256 * ((p6 + p7) + 256 * p7)))))) := by omega
  have h5 : e / 4294967296 = (p4 + p5 + p6 + p7) + 256 * ((p5 + p6 + p7) + 256 * ((p6 + p7) + 256 * p7)) := by omega
  refine ⟨by omega, by omega, by omega, by omega, ?_⟩
  omega

theorem ones_keys (x : Nat) (hx : x < 18446744073709551616) : ∃ a b c d e f : Nat,
    IntKind.u64.wrap (bits BinOp.and IntKind.u64 ((x : Int) / 2) 6148914691236517205 + bits BinOp.and IntKind.u64 (x : Int) 6148914691236517205) = (a : Int) ∧
    IntKind.u64.wrap (bits BinOp.and IntKind.u64 ((a : Int) / 4) 3689348814741910323 + bits BinOp.and IntKind.u64 (a : Int) 3689348814741910323) = (b : Int) ∧
    bits BinOp.and IntKind.u64 (IntKind.u64.wrap ((b : Int) / 16 + (b : Int))) 1085102592571150095 = (c : Int) ∧
    IntKind.u64.wrap ((c : Int) + (c : Int) / 256) = (d : Int) ∧ IntKind.u64.wrap ((d : Int) + (d : Int) / 65536) = (e : Int) ∧ IntKind.u64.wrap ((e : Int) + (e : Int) / 4294967296) = (f : Int) ∧
    f < 9223372036854775808 ∧ f % 128 = popF 64 x := by
  obtain ⟨a, ha⟩ : ∃ a, a = (x / 2 &&& 6148914691236517205) + (x &&& 6148914691236517205) := ⟨_, rfl⟩
  obtain ⟨b, hb⟩ : ∃ b, b = (a / 4 &&& 3689348814741910323) + (a &&& 3689348814741910323) := ⟨_, rfl⟩
  obtain ⟨la, lb, lw, e3⟩ := swar3 x a b hx ha hb
  obtain ⟨c, hc⟩ : ∃ c, c = lane (popF 8) 8 x := ⟨_, rfl⟩
  obtain ⟨d, hd⟩ : ∃ d, d = c + c / 256 := ⟨_, rfl⟩
  obtain ⟨e, he⟩ : ∃ e, e = d + d / 65536 := ⟨_, rfl⟩
  obtain ⟨f, hf⟩ : ∃ f, f = e + e / 4294967296 := ⟨_, rfl⟩
  obtain ⟨o1, o2, o3, o4, o5⟩ := ones_sum x c d e f hc hd he hf
  refine ⟨a, b, c, d, e, f, ?_, ?_, ?_, ?_, ?_, ?_, o4, o5⟩
  · rw [show ((x : Int) / 2) = ((x / 2 : Nat) : Int) from div_cast x 2]
    rw [show (6148914691236517205 : Int) = ((6148914691236517205 : Nat) : Int) from rfl, u64_and_nat _ _ (by omega) (by decide), u64_and_nat _ _ hx (by decide), wrap_add _ _ (by rw [← ha]; exact la), ← ha]
  · rw [show ((a : Int) / 4) = ((a / 4 : Nat) : Int) from div_cast a 4]
    rw [show (3689348814741910323 : Int) = ((3689348814741910323 : Nat) : Int) from rfl, u64_and_nat _ _ (by omega) (by decide), u64_and_nat _ _ la (by decide), wrap_add _ _ (by rw [← hb]; exact lb), ← hb]
  · rw [show ((b : Int) / 16) = ((b / 16 : Nat) : Int) from div_cast b 16]
    rw [wrap_add _ _ lw, show (1085102592571150095 : Int) = ((1085102592571150095 : Nat) : Int) from rfl, u64_and_nat _ _ lw (by decide), e3, hc]
  · rw [show ((c : Int) / 256) = ((c / 256 : Nat) : Int) from div_cast c 256, wrap_add _ _ o1, hd]
  · rw [show ((d : Int) / 65536) = ((d / 65536 : Nat) : Int) from div_cast d 65536, wrap_add _ _ o2, he]
  · rw [show ((e : Int) / 4294967296) = ((e / 4294967296 : Nat) : Int) from div_cast e 4294967296, wrap_add _ _ o3, hf]

theorem i64_wrap_nat (a : Nat) (h : a < 9223372036854775808) : IntKind.i64.wrap (a : Int) = (a : Int) := IntWalk.i64_in _ (by omega)

theorem ones_last (f p : Nat) (hf : f < 9223372036854775808) (hp : f % 128 = p) : bits BinOp.and IntKind.i64 (f : Int) 127 = (p : Int) := by
  have h1 : (BitVec.ofInt 64 (f : Int)).toNat = f := ofInt_u64 f (by omega)
  have e : (BitVec.ofInt 64 (f : Int) &&& BitVec.ofInt 64 127).toNat = p := by
    rw [BitVec.toNat_and, h1, show (BitVec.ofInt 64 127).toNat = 127 from rfl, nat_mask7, hp]
  show IntKind.i64.wrap ((BitVec.ofInt 64 (f : Int) &&& BitVec.ofInt 64 127).toNat : Int) = _
  rw [e]
  exact i64_wrap_nat _ (by omega)

theorem tz_key (x a : Nat) (hx : x < 18446744073709551616) (hx0 : x ≠ 0) (hlow : x &&& (18446744073709551616 - x) = a) :
    IntKind.u64.wrap (bits BinOp.and IntKind.u64 (x : Int) (IntKind.u64.wrap (-(x : Int))) * 285870213051353865) / 288230376151711744 = ((a * 285870213051353865 % 18446744073709551616 / 288230376151711744 : Nat) : Int) := by
  have e1 : IntKind.u64.wrap (-(x : Int)) = ((18446744073709551616 - x : Nat) : Int) := by rw [IntKind.wrap_u64]; omega
  rw [e1, u64_and_nat x _ hx (by omega), hlow, IntKind.wrap_u64]
  omega

end Go.Proofs.YtehmeccjgjhidaaDoor.Ma

/-
  Contracts of math/bits.OnesCount64 and TrailingZeros64, and of mask's Count and First.
-/
namespace Go.Proofs.YtehmeccjgjhidaaDoor
open Go.RowKit

set_option maxHeartbeats 400000 in
theorem ones_any (x : Nat) (w : World) (hx : x < 18446744073709551616) :
    Calls Tryd.prog 31 #[.int .u64 x] w fun e w' => e = .returned (.int .i64 (Ma.popF 64 x : Nat)) ∧ w = w' := by
  obtain ⟨a, b, c, d, e, f, k1, k2, k3, k4, k5, k6, hf, hp⟩ := Ma.ones_keys x hx
  have k7 := Ma.i64_wrap_nat f hf
  have k8 := Ma.ones_last f _ hf hp
  generalize Ma.popF 64 x = p at *
  have HP := Lib.hid hp
  clear hp
  go_enter Tryd.func31, Tryd.ntmps31
  go_wp2
  go_ret
  exact ⟨rfl, rfl⟩

set_option maxHeartbeats 400000 in
theorem count_any (x : Nat) (w : World) (hx : x < 18446744073709551616) :
    Calls Tryd.prog 23 #[.int .u64 x] w fun e w' => e = .returned (.int .i64 (Ma.popF 64 x : Nat)) ∧ w = w' := by
  have kw := Ma.wrap_nat x hx
  go_enter Tryd.func23, Tryd.ntmps23
  go_wp2_with (go_at_call 31; refine (ones_any _ _ hx).mono ?_; rintro e w' ⟨rfl, rfl⟩)
  go_ret
  exact ⟨rfl, rfl⟩

/-- The library's table in its variable, as its initialiser lays it. -/
def TabAt (w : World) : Prop := ∀ j, j < 64 → w.cell? ⟨0, j, none⟩ = some (.int .u8 (Go.Lib.deBruijn64tab.getD j 0 : Nat))

set_option maxHeartbeats 400000 in
theorem tz_core (x k idx : Nat) (w : World) (hx0 : ((x : Int) == 0) = false)
    (key : IntKind.u64.wrap (bits BinOp.and IntKind.u64 (x : Int) (IntKind.u64.wrap (-(x : Int))) * 285870213051353865) / 288230376151711744 = (idx : Int))
    (hi : idx < 64) (hk : k < 64) (hcell : w.cell? ⟨0, idx, none⟩ = some (.int .u8 k)) :
    Calls Tryd.prog 32 #[.int .u64 x] w fun e w' => e = .returned (.int .i64 k) ∧ w = w' := by
  go_enter Tryd.func32, Tryd.ntmps32
  go_wp2_with (simp only [key])
  go_ret
  exact ⟨rfl, rfl⟩

set_option maxHeartbeats 400000 in
theorem tz_zero (w : World) :
    Calls Tryd.prog 32 #[.int .u64 0] w fun e w' => e = .returned (.int .i64 64) ∧ w = w' := by
  go_enter Tryd.func32, Tryd.ntmps32
  go_wp2
  go_ret
  exact ⟨rfl, rfl⟩

theorem tz_any (x : Nat) (w : World) (hx : x < 18446744073709551616) (hT : TabAt w) :
    Calls Tryd.prog 32 #[.int .u64 x] w fun e w' => e = .returned (.int .i64 (Go.Lib.ctz 64 x : Nat)) ∧ w = w' := by
  by_cases hx0 : x = 0
  · subst hx0
    exact tz_zero w
  · obtain ⟨hlow, hk⟩ := Go.Lib.lowest_bit 64 x hx0 hx
    obtain ⟨hi, htab⟩ := Go.Lib.deBruijn64_at _ hk
    have hcell := hT _ hi
    rw [htab] at hcell
    exact tz_core x _ _ w (by simp; omega) (Ma.tz_key x _ hx hx0 hlow) hi hk hcell

set_option maxHeartbeats 400000 in
theorem first_any (x : Nat) (w : World) (hx : x < 18446744073709551616) (hT : Hid (TabAt w)) :
    Calls Tryd.prog 25 #[.int .u64 x] w fun e w' => e = .returned (.int .i64 (Go.Lib.ctz 64 x : Nat)) ∧ w = w' := by
  have kw := Ma.wrap_nat x hx
  go_enter Tryd.func25, Tryd.ntmps25
  go_wp2_with (go_at_call 32; refine (tz_any _ _ hx hT.out).mono ?_; rintro e w' ⟨rfl, rfl⟩)
  go_ret
  exact ⟨rfl, rfl⟩

end Go.Proofs.YtehmeccjgjhidaaDoor

/-
  Plain arithmetic, of no program: rows of bits, the least bits of a set, and a set's members as a list.
-/
namespace Go.Proofs.YtehmeccjgjhidaaDoor.Ma
open Go

/-- The n bits of m from 'at' on are all set. -/
def isRow (m a n : Nat) : Bool := (List.range n).all fun j => m.testBit (a + j)
theorem isRow_iff (m a n : Nat) : isRow m a n = true ↔ ∀ j, j < n → m.testBit (a + j) = true := by
  simp [isRow, List.all_eq_true]

theorem row_eq (m a n : Nat) : ((m >>> a) &&& lowN n = lowN n) ↔ isRow m a n = true := by
  rw [isRow_iff]
  constructor
  · intro h j hj
    have := congrArg (fun x => x.testBit j) h
    simp only [Nat.testBit_and, testBit_lowN, Nat.testBit_shiftRight, hj, decide_true, Bool.and_true] at this
    exact this
  · intro h
    apply Nat.eq_of_testBit_eq
    intro j
    rw [Nat.testBit_and, testBit_lowN, Nat.testBit_shiftRight]
    by_cases hj : j < n
    · simp [hj, h j hj]
    · simp [hj]

theorem row_key (m a n : Nat) (hm : m < 18446744073709551616) (hn : n ≤ 64) : (bits BinOp.and IntKind.u64 ((m : Int) / 2 ^ a) ((lowN n : Nat) : Int) == ((lowN n : Nat) : Int)) = isRow m a n := by
  rw [shr_cast, u64_and_nat _ _ (shr_lt a hm) (lowN_lt hn), Bool.eq_iff_iff, ← row_eq]
  simp only [beq_iff_eq]
  omega

/-! ### The lowest bit -/
theorem ctz_spec (m : Nat) (hm : m < 18446744073709551616) (h0 : m ≠ 0) : Lib.ctz 64 m < 64 ∧ m.testBit (Lib.ctz 64 m) = true ∧ ∀ j, j < Lib.ctz 64 m → m.testBit j = false := by
  obtain ⟨q, hq, hk⟩ := Lib.ctzFrom_spec 64 m (by omega) hm
  have e : Lib.ctz 64 m = Lib.ctzFrom 64 m := by simp [Lib.ctz, h0]
  rw [e]
  generalize Lib.ctzFrom 64 m = k at *
  refine ⟨hk, ?_, ?_⟩
  · rw [hq, Nat.mul_comm, Nat.testBit_mul_two_pow]
    simp
  · intro j hj
    rw [hq, Nat.mul_comm, Nat.testBit_mul_two_pow]
    simp; omega
theorem ctz_zero : Lib.ctz 64 0 = 64 := rfl

/-- A set that is not empty has its first number, and less without it. -/
theorem without_first_lt (m : Nat) (hm : m < 18446744073709551616) (h0 : m ≠ 0) : withoutN m (Lib.ctz 64 m) < m := by
  obtain ⟨h1, h2, _⟩ := ctz_spec m hm h0
  have hle : withoutN m (Lib.ctz 64 m) ≤ m := Nat.and_le_left
  rcases Nat.lt_or_eq_of_le hle with h | h
  · exact h
  · exfalso
    have := testBit_withoutN hm h1 (Lib.ctz 64 m)
    rw [h, h2] at this
    simp at this

/-! ### Members -/
def mem (m : Nat) : List Nat := (List.range 64).filter fun i => m.testBit i

theorem mem_mem (m i : Nat) : i ∈ mem m ↔ i < 64 ∧ m.testBit i = true := by simp [mem]
theorem mem_lt {m i : Nat} (h : i ∈ mem m) : i < 64 := ((mem_mem m i).1 h).1
theorem mem_sorted (m : Nat) : (mem m).Pairwise (· < ·) := by
  unfold mem
  exact List.Pairwise.filter _ List.pairwise_lt_range

theorem popF_filter : ∀ f m, ((List.range f).filter fun i => m.testBit i).length = popF f m
  | 0, m => rfl
  | f + 1, m => by
    rw [List.range_succ_eq_map, List.filter_cons]
    have ih := popF_filter f (m / 2)
    have e : ((List.map Nat.succ (List.range f)).filter fun i => m.testBit i).length = ((List.range f).filter fun i => (m / 2).testBit i).length := by
      rw [List.filter_map, List.length_map]
      congr 1
      apply List.filter_congr
      intro i _
      simp [Nat.testBit_succ]
    simp only [popF]
    have hb : m.testBit 0 = decide (m % 2 = 1) := Nat.testBit_zero m
    rcases Nat.mod_two_eq_zero_or_one m with h | h
    · rw [hb, h]
      simp only [show ¬ ((0 : Nat) = 1) from by decide, decide_false, Bool.false_eq_true, if_false]
      omega
    · rw [hb, h]
      simp only [decide_true, if_true, List.length_cons]
      omega

theorem mem_length (m : Nat) : (mem m).length = popF 64 m := popF_filter 64 m

/-- The list of a set's members begins with its first one; the others are those of the set without it. -/
theorem mem_cons (m : Nat) (hm : m < 18446744073709551616) (h0 : m ≠ 0) : mem m = Lib.ctz 64 m :: mem (withoutN m (Lib.ctz 64 m)) := by
  obtain ⟨h1, h2, h3⟩ := ctz_spec m hm h0
  have hs1 : (mem m).Pairwise (· < ·) := mem_sorted m
  have hs2 : (Lib.ctz 64 m :: mem (withoutN m (Lib.ctz 64 m))).Pairwise (· < ·) := by
    refine List.pairwise_cons.2 ⟨?_, mem_sorted _⟩
    intro a ha
    rw [mem_mem, testBit_withoutN hm h1] at ha
    simp only [Bool.and_eq_true, Bool.not_eq_true', decide_eq_false_iff_not] at ha
    have : ¬ a < Lib.ctz 64 m := fun hlt => by rw [h3 a hlt] at ha; simp at ha
    omega
  have hperm : ∀ a, a ∈ mem m ↔ a ∈ Lib.ctz 64 m :: mem (withoutN m (Lib.ctz 64 m)) := by
    intro a
    rw [List.mem_cons, mem_mem, mem_mem, testBit_withoutN hm h1]
    constructor
    · intro ⟨x, y⟩
      by_cases e : a = Lib.ctz 64 m
      · exact Or.inl e
      · exact Or.inr ⟨x, by simp [y]; omega⟩
    · intro h
      rcases h with h | ⟨x, y⟩
      · subst h; exact ⟨h1, h2⟩
      · exact ⟨x, by simp at y; exact y.1⟩
  have nd : ∀ {l : List Nat}, l.Pairwise (· < ·) → l.Nodup := fun h => h.imp (fun hab => by omega)
  have hp : (mem m).Perm (Lib.ctz 64 m :: mem (withoutN m (Lib.ctz 64 m))) := (List.perm_ext_iff_of_nodup (nd hs1) (nd hs2)).2 hperm
  exact hp.eq_of_pairwise (fun a b _ _ h1 h2 => by omega) hs1 hs2

theorem mem_zero : mem 0 = [] := by decide
theorem mem_nil_iff (m : Nat) (hm : m < 18446744073709551616) : mem m = [] ↔ m = 0 := by
  constructor
  · intro h
    by_cases e : m = 0
    · exact e
    · rw [mem_cons m hm e] at h; exact absurd h (by simp)
  · rintro rfl; exact mem_zero

/-- The set of a list of numbers below 64. -/
def ofList : List Nat → Nat
  | [] => 0
  | a :: l => withN (ofList l) a
theorem ofList_lt : ∀ l : List Nat, (∀ a ∈ l, a < 64) → ofList l < 18446744073709551616
  | [], _ => by simp [ofList]
  | a :: l, h => withN_lt (ofList_lt l fun x hx => h x (List.mem_cons_of_mem _ hx)) (h a (List.mem_cons_self ..))
theorem testBit_ofList : ∀ (l : List Nat) (i : Nat), (ofList l).testBit i = decide (i ∈ l)
  | [], i => by simp [ofList]
  | a :: l, i => by
    simp only [ofList, testBit_withN, testBit_ofList l i, List.mem_cons]
    rw [Bool.eq_iff_iff]
    simp only [Bool.or_eq_true, decide_eq_true_eq]
    constructor
    · rintro (h | h)
      · exact Or.inr h
      · exact Or.inl h.symm
    · rintro (h | h)
      · exact Or.inr h.symm
      · exact Or.inl h

/-- The n least numbers of a set. -/
def leastN (m n : Nat) : Nat := ofList ((mem m).take n)
theorem leastN_lt (m n : Nat) : leastN m n < 18446744073709551616 := ofList_lt _ fun _ ha => mem_lt (List.mem_of_mem_take ha)

/-- What is left of a set behind n rounds of taking its first number out. -/
def restN (m : Nat) : Nat → Nat
  | 0 => m
  | n + 1 => withoutN (restN m n) (Lib.ctz 64 (restN m n))
theorem restN_lt (m : Nat) (hm : m < 18446744073709551616) : ∀ n, restN m n < 18446744073709551616
  | 0 => hm
  | n + 1 => withoutN_lt _ (restN_lt m hm n)
theorem mem_restN (m : Nat) (hm : m < 18446744073709551616) : ∀ n, n ≤ (mem m).length → mem (restN m n) = (mem m).drop n
  | 0, _ => rfl
  | n + 1, h => by
    have ih := mem_restN m hm n (by omega)
    have h0 : restN m n ≠ 0 := by
      intro e
      rw [e, mem_zero] at ih
      have := congrArg List.length ih
      simp at this
      omega
    have hc := mem_cons (restN m n) (restN_lt m hm n) h0
    rw [ih] at hc
    have : (mem m).drop (n + 1) = mem (withoutN (restN m n) (Lib.ctz 64 (restN m n))) := by
      rw [← List.tail_drop, hc]; rfl
    rw [this]; rfl

theorem testBit_mem (m i : Nat) (hm : m < 18446744073709551616) : m.testBit i = decide (i ∈ mem m) := by
  rw [Bool.eq_iff_iff, decide_eq_true_iff, mem_mem]
  constructor
  · intro h
    refine ⟨?_, h⟩
    apply Nat.lt_of_not_le
    intro hi
    rw [testBit_high hm hi] at h
    cases h
  · exact fun h => h.2

theorem ofList_mem (m : Nat) (hm : m < 18446744073709551616) : ofList (mem m) = m := by
  apply Nat.eq_of_testBit_eq
  intro i
  rw [testBit_ofList, ← testBit_mem m i hm]

theorem nodup_mem (m : Nat) : (mem m).Nodup := (mem_sorted m).imp (fun hab => by omega)

/-- All of a set without what is left are its least. -/
theorem andNot_rest (m n : Nat) (hm : m < 18446744073709551616) (hn : n ≤ (mem m).length) : andNotN m (restN m n) = leastN m n := by
  apply Nat.eq_of_testBit_eq
  intro i
  rw [testBit_andNotN hm (restN_lt m hm n), testBit_mem m i hm, testBit_mem _ i (restN_lt m hm n), mem_restN m hm n hn]
  unfold leastN
  rw [testBit_ofList]
  have hnd := nodup_mem m
  rw [← List.take_append_drop n (mem m)] at hnd
  have hdis := (List.nodup_append.1 hnd).2.2
  have hmem : i ∈ mem m ↔ i ∈ (mem m).take n ∨ i ∈ (mem m).drop n := by
    conv => lhs; rw [← List.take_append_drop n (mem m)]
    exact List.mem_append
  rw [Bool.eq_iff_iff]
  simp only [Bool.and_eq_true, decide_eq_true_eq, Bool.not_eq_true', decide_eq_false_iff_not, hmem]
  constructor
  · rintro ⟨a | a, b⟩
    · exact a
    · exact absurd a b
  · intro a
    exact ⟨Or.inl a, fun b => hdis i a i b rfl⟩

theorem leastN_all (m n : Nat) (hm : m < 18446744073709551616) (hn : (mem m).length ≤ n) : leastN m n = m := by
  unfold leastN
  rw [List.take_of_length_le hn, ofList_mem m hm]

theorem restN_zero (m k : Nat) (hm : m < 18446744073709551616) (hk : k ≤ (mem m).length) : restN m k = 0 ↔ k = (mem m).length := by
  rw [← mem_nil_iff _ (restN_lt m hm k), mem_restN m hm k hk, List.drop_eq_nil_iff]
  omega

theorem leastN_same (m k n : Nat) (h : k = n ∨ k = (mem m).length ∧ k ≤ n) : leastN m k = leastN m n := by
  rcases h with h | ⟨h1, h2⟩
  · rw [h]
  · unfold leastN
    rw [List.take_of_length_le (by omega), List.take_of_length_le (by omega)]

end Go.Proofs.YtehmeccjgjhidaaDoor.Ma

/-
  Contracts of mask's Run and Least.
-/
namespace Go.Proofs.YtehmeccjgjhidaaDoor
open Go.RowKit

end Go.Proofs.YtehmeccjgjhidaaDoor

/-
  Contract of mask's Least.
-/
namespace Go.Proofs.YtehmeccjgjhidaaDoor
open Go.RowKit

end Go.Proofs.YtehmeccjgjhidaaDoor

/-
  Contract of mask's List: a new list of the set's members, rising.
-/
namespace Go.Proofs.YtehmeccjgjhidaaDoor
open Go.RowKit

theorem TabAt.lt {w : World} (h : TabAt w) : 0 < w.heap.size := World.block_lt_of_cell? w ⟨0, 0, none⟩ (h 0 (by decide))
theorem TabAt.below {B : Nat} {w w' : World} (h : TabAt w) (hb : Below B w w') (hB : 0 < B) : TabAt w' := fun j hj => (hb.cell (p := ⟨0, j, none⟩) hB).trans (h j hj)
theorem TabAt.next {w w' : World} (h : TabAt w) (hb : Below w.heap.size w w') : TabAt w' := h.below hb h.lt

/-- The numbers of a list as the machine's ints. -/
def ints (l : List Nat) : List Value := l.map fun i => Value.int .i64 (i : Nat)
theorem ints_length (l : List Nat) : (ints l).length = l.length := by simp [ints]

/-- A call answered a new list of these numbers, and touched nothing that was there. -/
def Listed (l : List Nat) (w : World) (e : Ending) (w' : World) : Prop :=
  ∃ v, e = .returned v ∧ w'.ownsRow w.heap.size 3 1 v l.length (ints l) ∧ Below w.heap.size w w'

theorem info_int : (Tryd.prog.info? 3).map (fun i => (i.zero, i.size, i.bytes)) = some (some (.int .i64 0), 1, 8) := by kernel_rfl

theorem list_step {B k : Nat} {m : Nat} {w wr w1 : World} {v v' : Value} (o : Obj) (hk : k < (Ma.mem m).length) (hc : Ma.mem m = (Ma.mem m).take k ++ Go.Lib.ctz 64 (Ma.restN m k) :: (Ma.mem m).drop (k + 1))
    (hB : B ≤ wr.heap.size) (hown : wr.ownsRow B 3 1 v k (ints ((Ma.mem m).take k))) (hnx : Below B w wr)
    (hown' : w1.ownsRow B 3 1 v' (k + 1) (ints ((Ma.mem m).take k) ++ [.int .i64 (Go.Lib.ctz 64 (Ma.restN m k) : Nat)])) (hg : (wr.alloc o).grownBy w1 v.ownBlock) :
    w1.ownsRow B 3 1 v' (k + 1) (ints ((Ma.mem m).take (k + 1))) ∧ Below B w w1 := by
  refine ⟨?_, (hnx.alloc hB o).grown hg (by simp; omega) (fun j hj => (World.ownsRow.lt hown j hj).1)⟩
  have e : (Ma.mem m).take (k + 1) = (Ma.mem m).take k ++ [Go.Lib.ctz 64 (Ma.restN m k)] := by
    have hl : ((Ma.mem m).take k).length = k := by simp; omega
    rw [List.take_add_one, show (Ma.mem m)[k]? = some (Go.Lib.ctz 64 (Ma.restN m k)) from by
      rw [hc, List.getElem?_append_right (by omega), hl]; simp]
    rfl
  rw [e]
  simpa [ints] using hown'

theorem mem_at (m k : Nat) (hm : m < 18446744073709551616) (hk : k < (Ma.mem m).length) : Ma.mem m = (Ma.mem m).take k ++ Go.Lib.ctz 64 (Ma.restN m k) :: (Ma.mem m).drop (k + 1) := by
  have h := Ma.mem_restN m hm k (by omega)
  have h0 : Ma.restN m k ≠ 0 := fun e => by have := (Ma.restN_zero m k hm (by omega)).1 e; omega
  have hc := Ma.mem_cons _ (Ma.restN_lt m hm k) h0
  have h2 := Ma.mem_restN m hm (k + 1) (by omega)
  rw [h] at hc
  rw [← h2]
  show Ma.mem m = (Ma.mem m).take k ++ Go.Lib.ctz 64 (Ma.restN m k) :: Ma.mem (Ma.withoutN (Ma.restN m k) (Go.Lib.ctz 64 (Ma.restN m k)))
  rw [← hc, List.take_append_drop]

set_option maxHeartbeats 1000000 in
theorem list_any (m : Nat) (w : World) (hm : m < 18446744073709551616) (hT : Hid (TabAt w)) :
    Calls Tryd.prog 9 #[.int .u64 m] w (Listed (Ma.mem m) w) := by
  obtain ⟨i0, hi, hz0, hz1, hz2⟩ := info_parts info_int
  have hlen : Ma.popF 64 m ≤ 64 := Ma.popF_le 64 m
  have HL := Lib.hid (Ma.mem_length m)
  have hl64 : (Ma.mem m).length ≤ 64 := by rw [HL.out]; exact hlen
  go_enter Tryd.func9, Tryd.ntmps9
  go_wp2_with fail
  refine (count_any _ _ hm).mono ?_
  rintro e w' ⟨rfl, rfl⟩
  go_wp2_with (at_make; refine wpList_make_own _ rfl _ _ 22 rfl w.heap.size 3 i0 (.int .i64 0) 1 Tryd.underlying22 hi hz0 hz1 _ _ _ (Ma.popF 64 m) rfl rfl rfl ?b2 ?b3 (Nat.le_refl _) ?_)
  case b2 => rw [hz2]; omega
  case b3 => unfold maxLen; omega
  intro w0 hown0 hgrow0
  have hb0 : Below w.heap.size w w0 := (Below.refl _ _).grown hgrow0 (Nat.le_refl _) (fun k h => by cases h)
  have hown0' : Hid (w0.ownsRow w.heap.size 3 1 (.slice (some ⟨w.heap.size, 0, none⟩) 0 (Ma.popF 64 m)) 0 (ints ((Ma.mem m).take 0))) := hown0
  clear hown0 hgrow0
  go_wp2
  go_loopw [3, 4] (fun l r wr => ∃ k : Nat, k ≤ (Ma.mem m).length ∧ r = .int .u64 (Ma.restN m k : Nat) ∧ wr.ownsRow w.heap.size 3 1 l k (ints ((Ma.mem m).take k)) ∧ Below w.heap.size w wr) (fun _ r _ => (intOf r).toNat)
  case atStart => exact ⟨0, Nat.zero_le _, rfl, hown0', hb0⟩
  case round =>
    obtain ⟨k, hk, rfl, hown, hnx⟩ := hrel
    have hl := Ma.restN_lt m hm k
    have hz := Lib.hid (Ma.restN_zero m k hm hk)
    have hTr : Hid (TabAt wr) := hT.out.next hnx
    have hBz := hnx.size
    by_cases h2 : Ma.restN m k = 0
    · have e : k = (Ma.mem m).length := hz.out.1 h2
      have b : (((Ma.restN m k : Nat) : Int) != 0) = false := by simp [h2]
      have hown2 : Hid (wr.ownsRow w.heap.size 3 1 u3 (Ma.mem m).length (ints (Ma.mem m))) := by
        have := hown
        rw [e, List.take_of_length_le (Nat.le_refl _)] at this
        exact this
      have hnx2 := Lib.hid hnx
      clear h2 hz e hown hnx
      go_wp2
      go_ret
      exact ⟨_, rfl, hown2.out, hnx2.out⟩
    · have b : (((Ma.restN m k : Nat) : Int) != 0) = true := by simp; omega
      have hc := (Ma.ctz_spec (Ma.restN m k) hl h2).1
      have hk' : k < (Ma.mem m).length := by
        have : k ≠ (Ma.mem m).length := fun h => h2 (hz.out.2 h)
        omega
      have HD := Lib.hid (Ma.without_first_lt (Ma.restN m k) hl h2)
      have HA := Lib.hid (mem_at m k hm hk')
      have HR : Hid (Ma.restN m (k + 1) = Ma.withoutN (Ma.restN m k) (Go.Lib.ctz 64 (Ma.restN m k))) := rfl
      clear h2 hz
      go_wp2_with fail
      refine (first_any _ _ hl hTr).mono ?_
      rintro e w' ⟨rfl, rfl⟩
      go_wp2_with (at_builtin; refine wpList_append_own _ rfl _ _ 22 rfl w.heap.size 3 i0 (.int .i64 0) 1 8 Tryd.underlying22 hi hz0 hz1 hz2 rfl (by decide) _ _ _ rfl (hown.alloc _) ⟨wr.heap.size, 0, none⟩ 1 1 [.int .i64 (Go.Lib.ctz 64 (Ma.restN m k) : Nat)] rfl rfl ?c1 ?c2 ?c3 ?c4 ?c5 ?_)
      case c1 => exact cell_one_new _ _ _
      case c2 => intro u hu; simp at hu; subst hu; rfl
      case c3 => unfold maxLen; omega
      case c4 => omega
      case c5 => simp; omega
      intro v' w1 hown' hgrow _
      have R := list_step _ hk' HA.out hBz hown hnx hown' hgrow
      have R1 := Lib.hid R.1
      have R2 := Lib.hid R.2
      have hT1 : Hid (TabAt w1) := hT.out.next R.2
      clear hown' hgrow hown hnx R
      go_wp2_with fail
      refine (first_any _ _ hl hT1).mono ?_
      rintro e w' ⟨rfl, rfl⟩
      go_wp2_with fail
      refine (without_yes _ _ _ hl (by omega) (by omega)).mono ?_
      rintro e w' ⟨rfl, rfl⟩
      go_wp2_with fail
      go_roundw
      case rel => exact ⟨k + 1, hk', by rw [HR.out], R1.out, R2.out⟩
      case measure => have := HD.out; simp [intOf]; omega

end Go.Proofs.YtehmeccjgjhidaaDoor

/-
  Contract of the statements' own 'speaks' of layer 2: four numbers.
-/
namespace Go.Proofs.YtehmeccjgjhidaaDoor
open Go.RowKit

/-- A list that was answered is a slice of as many. -/
theorem Listed.shape {l : List Nat} {w w' : World} {v : Value} (h : w'.ownsRow w.heap.size 3 1 v l.length (ints l)) : ∃ a cap, v = .slice a l.length cap ∧ l.length ≤ cap ∧ cap ≤ maxLen := by
  rcases h.2 with ⟨h1, h2⟩ | ⟨g, cap, cur, h1, _, _, h3, h4, _⟩
  · exact ⟨none, 0, by rw [h1, h2], by omega, by unfold maxLen; omega⟩
  · exact ⟨_, cap, h1, h3, h4⟩

theorem low6 (w : World) : Calls Tryd.prog 13 #[.int .i64 6] w fun e w' => e = .returned (.int .u64 63) ∧ w = w' := low_yes 6 w (by decide) (by decide)
theorem wo1 (w : World) : Calls Tryd.prog 24 #[.int .u64 63, .int .i64 1] w fun e w' => e = .returned (.int .u64 61) ∧ w = w' := without_yes 63 1 w (by decide) (by decide) (by decide)
theorem wo4 (w : World) : Calls Tryd.prog 24 #[.int .u64 61, .int .i64 4] w fun e w' => e = .returned (.int .u64 45) ∧ w = w' := without_yes 61 4 w (by decide) (by decide) (by decide)
theorem count45 (w : World) : Calls Tryd.prog 23 #[.int .u64 45] w fun e w' => e = .returned (.int .i64 4) ∧ w = w' := count_any 45 w (by decide)
theorem mem45 : Ma.mem 45 = [0, 2, 3, 5] := by decide
theorem first45 (w : World) (hT : Hid (TabAt w)) : Calls Tryd.prog 25 #[.int .u64 45] w fun e w' => e = .returned (.int .i64 0) ∧ w = w' := first_any 45 w (by decide) hT
theorem list45 (w : World) (hT : Hid (TabAt w)) : Calls Tryd.prog 9 #[.int .u64 45] w (Listed (Ma.mem 45) w) := list_any 45 w (by decide) hT

end Go.Proofs.YtehmeccjgjhidaaDoor

/-
  Plain arithmetic, of no program: fields of a word: what Get, Put and Signed reckon, told by bits.
-/
namespace Go.Proofs.YtehmeccjgjhidaaDoor.Ma
open Go

theorem withN_same {m k : Nat} (hb : m.testBit k = true) : withN m k = m := by
  apply Nat.eq_of_testBit_eq
  intro i
  rw [testBit_withN]
  by_cases h : k = i
  · subst h; simp [hb]
  · simp [h]
theorem withN_add {m k : Nat} (hb : m.testBit k = false) : withN m k = m + 2 ^ k := by
  unfold withN
  rw [Nat.add_comm, Nat.or_comm]
  apply Nat.eq_of_testBit_eq
  intro i
  rw [Nat.testBit_or, testBit_pow]
  rcases Nat.lt_trichotomy i k with h | h | h
  · rw [Nat.testBit_two_pow_add_gt h]
    simp [show ¬ k = i by omega]
  · subst h
    rw [Nat.testBit_two_pow_add_eq, hb]
    simp
  · have e1 : m = 2 ^ (k + 1) * (m / 2 ^ (k + 1)) + m % 2 ^ (k + 1) := (Nat.div_add_mod m (2 ^ (k + 1))).symm
    have hlt : m % 2 ^ (k + 1) < 2 ^ k := by
      have h2 : m % 2 ^ (k + 1) < 2 ^ (k + 1) := Nat.mod_lt _ (Nat.two_pow_pos _)
      apply Nat.lt_of_not_le
      intro hle
      have hb2 : (m % 2 ^ (k + 1)).testBit k = true := by
        apply Nat.testBit_of_two_pow_le_and_two_pow_add_one_gt hle h2
      rw [Nat.testBit_mod_two_pow] at hb2
      simp [hb] at hb2
    have hs : 2 ^ k + m % 2 ^ (k + 1) < 2 ^ (k + 1) := by
      have hp : 2 ^ (k + 1) = 2 ^ k * 2 := Nat.pow_succ 2 k
      generalize m % 2 ^ (k + 1) = r at *
      omega
    have e2 : 2 ^ k + m = 2 ^ (k + 1) * (m / 2 ^ (k + 1)) + (2 ^ k + m % 2 ^ (k + 1)) := by
      conv => lhs; rw [e1]
      omega
    conv => lhs; rw [e1]
    rw [e2, Nat.testBit_two_pow_mul_add _ (Nat.mod_lt _ (Nat.two_pow_pos _)), Nat.testBit_two_pow_mul_add _ hs]
    simp [show ¬ i < k + 1 by omega, show ¬ k = i by omega]
theorem add_key (m k : Nat) (hm : m < 18446744073709551616) (hk : k < 64) (hb : m.testBit k = false) : IntKind.u64.wrap ((m : Int) + ((2 ^ k : Nat) : Int)) = ((withN m k : Nat) : Int) := by
  have h := withN_lt hm hk
  rw [withN_add hb] at h ⊢
  exact wrap_add _ _ h

/-- 2^64 as two powers. -/
theorem pow_split {s b : Nat} (h : b + s = 64) : 2 ^ b * 2 ^ s = 18446744073709551616 := by rw [← Nat.pow_add, h]

/-- All ones, 64 - b places down. -/
theorem ones_shr (b : Nat) (hb : b ≤ 64) : (18446744073709551615 : Int) / 2 ^ (64 - b) = ((lowN b : Nat) : Int) := by
  have e : ((18446744073709551615 : Nat) : Int) = (18446744073709551615 : Int) := rfl
  rw [← e, shr_cast]
  congr 1
  apply Nat.eq_of_testBit_eq
  intro i
  rw [Nat.testBit_shiftRight, testBit_lowN]
  have : (18446744073709551615 : Nat) = lowN 64 := rfl
  rw [this, testBit_lowN]
  simp; omega

def getN (m a b : Nat) : Nat := (m >>> a) &&& lowN b
theorem testBit_getN (m a b i : Nat) : (getN m a b).testBit i = (m.testBit (a + i) && decide (i < b)) := by
  unfold getN; rw [Nat.testBit_and, testBit_lowN, Nat.testBit_shiftRight]
theorem getN_lt_pow (m a b : Nat) : getN m a b < 2 ^ b := by
  have : getN m a b ≤ lowN b := Nat.and_le_right
  have h2 : 0 < 2 ^ b := Nat.two_pow_pos b
  unfold lowN at this; omega
theorem getN_lt {m : Nat} (a b : Nat) (hm : m < 18446744073709551616) : getN m a b < 18446744073709551616 := and_lt _ (shr_lt a hm)
theorem get_key (m a b : Nat) (hm : m < 18446744073709551616) (hb : b ≤ 64) : bits BinOp.and IntKind.u64 ((m : Int) / 2 ^ a) ((lowN b : Nat) : Int) = ((getN m a b : Nat) : Int) := by
  rw [shr_cast, u64_and_nat _ _ (shr_lt a hm) (lowN_lt hb)]; rfl
theorem getN_step (m a k : Nat) : getN m a (k + 1) = if m.testBit (a + k) then withN (getN m a k) k else getN m a k := by
  apply Nat.eq_of_testBit_eq
  intro i
  split
  · rename_i h
    rw [testBit_withN, testBit_getN, testBit_getN]
    by_cases e : k = i
    · subst e; simp [h]
    · simp only [e, decide_false, Bool.or_false]
      congr 1
      rw [decide_eq_decide]; omega
  · rename_i h
    rw [testBit_getN, testBit_getN]
    by_cases e : k = i
    · subst e; simp at h; simp [h]
    · congr 1
      rw [decide_eq_decide]; omega
theorem getN_bit (m a k : Nat) : (getN m a k).testBit k = false := by rw [testBit_getN]; simp

/-! ### Put -/
def putN (m n a b : Nat) : Nat := andNotN m (lowN b <<< a) ||| (n <<< a)
theorem fits_iff (n b : Nat) : n ≤ lowN b ↔ n < 2 ^ b := by
  have h2 : 0 < 2 ^ b := Nat.two_pow_pos b
  unfold lowN; omega
theorem shl_lt {n a b : Nat} (hn : n < 2 ^ b) (hab : a + b ≤ 64) : n <<< a < 18446744073709551616 := by
  rw [Nat.shiftLeft_eq]
  have h1 : n * 2 ^ a < 2 ^ b * 2 ^ a := Nat.mul_lt_mul_of_pos_right hn (Nat.two_pow_pos a)
  rw [← Nat.pow_add] at h1
  exact Nat.lt_of_lt_of_le h1 (pow_le (by omega))
theorem shl_key (n a : Nat) (h : n <<< a < 18446744073709551616) : IntKind.u64.wrap ((n : Int) * 2 ^ a) = ((n <<< a : Nat) : Int) := by
  rw [Nat.shiftLeft_eq] at h ⊢
  rw [IntKind.wrap_u64]
  have e : (n : Int) * 2 ^ a = ((n * 2 ^ a : Nat) : Int) := by rw [Int.natCast_mul, Int.natCast_pow]; rfl
  rw [e]; omega
theorem lowN_lt_pow (b : Nat) : lowN b < 2 ^ b := by have h2 : 0 < 2 ^ b := Nat.two_pow_pos b; unfold lowN; omega
theorem put_key (m n a b : Nat) (hm : m < 18446744073709551616) (hn : n < 2 ^ b) (hab : a + b ≤ 64) :
    bits BinOp.or IntKind.u64 (bits BinOp.andNot IntKind.u64 (m : Int) (IntKind.u64.wrap (((lowN b : Nat) : Int) * 2 ^ a))) (IntKind.u64.wrap ((n : Int) * 2 ^ a)) = ((putN m n a b : Nat) : Int) := by
  have h1 := shl_lt (lowN_lt_pow b) hab
  have h2 := shl_lt hn hab
  rw [shl_key _ _ h1, shl_key _ _ h2, u64_andNot_nat _ _ hm h1]
  exact u64_or_nat _ _ (andNotN_lt _ hm) h2
theorem putN_lt {m n a b : Nat} (hm : m < 18446744073709551616) (hn : n < 2 ^ b) (hab : a + b ≤ 64) : putN m n a b < 18446744073709551616 := or_lt (andNotN_lt _ hm) (shl_lt hn hab)
theorem bit_of_lt {n b i : Nat} (hn : n < 2 ^ b) (h : b ≤ i) : n.testBit i = false := Nat.testBit_lt_two_pow (Nat.lt_of_lt_of_le hn (Nat.pow_le_pow_right (by decide) h))
theorem testBit_putN {m n a b : Nat} (hm : m < 18446744073709551616) (hn : n < 2 ^ b) (hab : a + b ≤ 64) (i : Nat) : (putN m n a b).testBit i = if a ≤ i ∧ i < a + b then n.testBit (i - a) else m.testBit i := by
  unfold putN
  rw [Nat.testBit_or, testBit_andNotN hm (shl_lt (lowN_lt_pow b) hab), Nat.testBit_shiftLeft, Nat.testBit_shiftLeft, testBit_lowN]
  by_cases h1 : a ≤ i
  · by_cases h2 : i < a + b
    · simp [h1, h2, show i - a < b by omega]
    · simp [h1, h2, show ¬ i - a < b by omega, bit_of_lt hn (show b ≤ i - a by omega)]
  · simp [h1]

/-! ### Signed -/
def signN (m a b : Nat) : Int := if 2 ^ (b - 1) ≤ getN m a b then (getN m a b : Int) - ((2 ^ b : Nat) : Int) else (getN m a b : Int)

theorem getN_mod (m a b : Nat) : getN m a b = m / 2 ^ a % 2 ^ b := by
  unfold getN lowN
  rw [Nat.and_two_pow_sub_one_eq_mod, Nat.shiftRight_eq_div_pow]

/-- The field at the top of the word: its number, and what lay below it. -/
theorem top_parts (m a b s : Nat) (hs : b + s = 64) (ha : a ≤ s) : ∃ r, r < 2 ^ s ∧ m * 2 ^ (s - a) % 18446744073709551616 = getN m a b * 2 ^ s + r := by
  refine ⟨(m % 2 ^ a) * 2 ^ (s - a), ?_, ?_⟩
  · have h1 : m % 2 ^ a < 2 ^ a := Nat.mod_lt _ (Nat.two_pow_pos a)
    have h2 : (m % 2 ^ a) * 2 ^ (s - a) < 2 ^ a * 2 ^ (s - a) := Nat.mul_lt_mul_of_pos_right h1 (Nat.two_pow_pos _)
    rwa [← Nat.pow_add, show a + (s - a) = s from by omega] at h2
  · rw [getN_mod]
    have e : m * 2 ^ (s - a) = (m / 2 ^ a / 2 ^ b) * 18446744073709551616 + ((m / 2 ^ a % 2 ^ b) * 2 ^ s + (m % 2 ^ a) * 2 ^ (s - a)) := by
      have e1 : m = 2 ^ a * (m / 2 ^ a) + m % 2 ^ a := (Nat.div_add_mod m (2 ^ a)).symm
      have e2 : m / 2 ^ a = 2 ^ b * (m / 2 ^ a / 2 ^ b) + m / 2 ^ a % 2 ^ b := (Nat.div_add_mod _ (2 ^ b)).symm
      have p1 : 2 ^ a * 2 ^ (s - a) = 2 ^ s := by rw [← Nat.pow_add, show a + (s - a) = s from by omega]
      have p2 := pow_split hs
      generalize m / 2 ^ a / 2 ^ b = h at *
      generalize m / 2 ^ a % 2 ^ b = g at *
      generalize m % 2 ^ a = l at *
      rw [e2] at e1
      rw [e1, ← p2, ← p1]
      generalize 2 ^ a = A
      generalize 2 ^ b = B
      generalize 2 ^ (s - a) = C
      simp only [Nat.add_mul, Nat.mul_add]
      have q1 : A * (B * h) * C = h * (B * (A * C)) := by
        rw [Nat.mul_comm A, Nat.mul_assoc, Nat.mul_comm B h, Nat.mul_assoc]
      have q2 : A * g * C = g * (A * C) := by rw [Nat.mul_comm A g, Nat.mul_assoc]
      rw [q1, q2]
      omega
    rw [e, Nat.mul_add_mod_self_right]
    apply Nat.mod_eq_of_lt
    have h1 : m % 2 ^ a < 2 ^ a := Nat.mod_lt _ (Nat.two_pow_pos a)
    have h2 : (m % 2 ^ a) * 2 ^ (s - a) < 2 ^ s := by
      have := Nat.mul_lt_mul_of_pos_right (k := 2 ^ (s - a)) h1 (Nat.two_pow_pos _)
      rwa [← Nat.pow_add, show a + (s - a) = s from by omega] at this
    have h3 : m / 2 ^ a % 2 ^ b < 2 ^ b := Nat.mod_lt _ (Nat.two_pow_pos b)
    have p2 := pow_split hs
    have h4 : (m / 2 ^ a % 2 ^ b + 1) * 2 ^ s ≤ 2 ^ b * 2 ^ s := Nat.mul_le_mul_right _ h3
    rw [Nat.add_mul] at h4
    omega

theorem sign_key (m a b : Nat) (ha : a + b ≤ 64) (hb : 1 ≤ b) :
    IntKind.i64.wrap (IntKind.u64.wrap ((m : Int) * 2 ^ (64 - b - a))) / 2 ^ (64 - b) = signN m a b := by
  obtain ⟨s, hs⟩ : ∃ s, b + s = 64 := ⟨64 - b, by omega⟩
  obtain ⟨r, hr, e⟩ := top_parts m a b s hs (by omega)
  have e1 : 64 - b = s := by omega
  rw [e1]
  have e2 : (m : Int) * 2 ^ (s - a) = ((m * 2 ^ (s - a) : Nat) : Int) := by rw [Int.natCast_mul, Int.natCast_pow]; rfl
  rw [e2, IntKind.wrap_u64, show ((m * 2 ^ (s - a) : Nat) : Int) % 18446744073709551616 = ((m * 2 ^ (s - a) % 18446744073709551616 : Nat) : Int) from by rw [Int.natCast_emod]; rfl, e]
  have hg := getN_lt_pow m a b
  have p := pow_split hs
  have p1 : 2 ^ b = 2 ^ (b - 1) * 2 := by rw [← Nat.pow_succ, show (b - 1).succ = b from by omega]
  have ps : ((2 : Int) ^ s) = ((2 ^ s : Nat) : Int) := by rw [Int.natCast_pow]; rfl
  have s0 : 0 < 2 ^ s := Nat.two_pow_pos s
  rw [ps]
  unfold signN
  have hG : getN m a b * 2 ^ s + r < 18446744073709551616 := by rw [← e]; exact Nat.mod_lt _ (by decide)
  rw [IntKind.wrap_i64]
  generalize getN m a b = g at *
  generalize hS : 2 ^ s = S at *
  generalize hH : 2 ^ (b - 1) = H at *
  rw [p1] at p hg ⊢
  have p' : H * S = 9223372036854775808 := by
    have : H * 2 * S = 2 * (H * S) := by rw [Nat.mul_comm H 2, Nat.mul_assoc]
    omega
  split
  · rename_i hge
    have h1 : H * S ≤ g * S := Nat.mul_le_mul_right _ hge
    have hv : ((g * S + r : Nat) : Int) = (g : Int) * (S : Int) + (r : Int) := by rw [Int.natCast_add, Int.natCast_mul]
    have hw : (((g * S + r : Nat) : Int) + 9223372036854775808) % 18446744073709551616 - 9223372036854775808 = ((g * S + r : Nat) : Int) - 18446744073709551616 := by omega
    rw [hw, hv]
    have hp : (18446744073709551616 : Int) = ((H * 2 : Nat) : Int) * (S : Int) := by rw [← Int.natCast_mul, p]; rfl
    rw [hp, show (g : Int) * (S : Int) + (r : Int) - ((H * 2 : Nat) : Int) * (S : Int) = (r : Int) + ((g : Int) - ((H * 2 : Nat) : Int)) * (S : Int) from by rw [Int.sub_mul]; omega]
    rw [Int.add_mul_ediv_right _ _ (by omega), Int.ediv_eq_zero_of_lt (by omega) (by omega)]
    omega
  · rename_i hlt
    have h1 : (g + 1) * S ≤ H * S := Nat.mul_le_mul_right _ (by omega)
    rw [Nat.add_mul] at h1
    have hw : (((g * S + r : Nat) : Int) + 9223372036854775808) % 18446744073709551616 - 9223372036854775808 = ((g * S + r : Nat) : Int) := by omega
    rw [hw]
    have hv : ((g * S + r : Nat) : Int) = (r : Int) + (g : Int) * (S : Int) := by rw [Int.natCast_add, Int.natCast_mul]; omega
    rw [hv, Int.add_mul_ediv_right _ _ (by omega), Int.ediv_eq_zero_of_lt (by omega) (by omega)]
    omega

end Go.Proofs.YtehmeccjgjhidaaDoor.Ma
