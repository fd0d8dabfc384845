/-
  Plain arithmetic, of no program: fields of a word: what Get, Put and Signed reckon, told by bits.
-/
import Derived.Test.YtkogeeaoppkhkaaDoorMath2
namespace Go.Proofs.YtkogeeaoppkhkaaDoor.Ma
open Go

theorem withN_same {m k : Nat} (hb : m.testBit k = true) : withN m k = m := by
  apply Nat.eq_of_testBit_eq
  intro i
  rw [testBit_withN]
  by_cases h : k = i
  · subst h; simp [hb]
  · simp [h]
theorem withN_add {m k : Nat} (hb : m.testBit k = false) : withN m k = m + 2 ^ k := by
  unfold withN
  rw [Nat.add_comm, Nat.or_comm]
  apply Nat.eq_of_testBit_eq
  intro i
  rw [Nat.testBit_or, testBit_pow]
  rcases Nat.lt_trichotomy i k with h | h | h
  · rw [Nat.testBit_two_pow_add_gt h]
    simp [show ¬ k = i by omega]
  · subst h
    rw [Nat.testBit_two_pow_add_eq, hb]
    simp
  · have e1 : m = 2 ^ (k + 1) * (m / 2 ^ (k + 1)) + m % 2 ^ (k + 1) := (Nat.div_add_mod m (2 ^ (k + 1))).symm
    have hlt : m % 2 ^ (k + 1) < 2 ^ k := by
      have h2 : m % 2 ^ (k + 1) < 2 ^ (k + 1) := Nat.mod_lt _ (Nat.two_pow_pos _)
      apply Nat.lt_of_not_le
      intro hle
      have hb2 : (m % 2 ^ (k + 1)).testBit k = true := by
        apply Nat.testBit_of_two_pow_le_and_two_pow_add_one_gt hle h2
      rw [Nat.testBit_mod_two_pow] at hb2
      simp [hb] at hb2
    have hs : 2 ^ k + m % 2 ^ (k + 1) < 2 ^ (k + 1) := by
      have hp : 2 ^ (k + 1) = 2 ^ k * 2 := Nat.pow_succ 2 k
      generalize m % 2 ^ (k + 1) = r at *
      omega
    have e2 : 2 ^ k + m = 2 ^ (k + 1) * (m / 2 ^ (k + 1)) + (2 ^ k + m % 2 ^ (k + 1)) := by
      conv => lhs; rw [e1]
      omega
    conv => lhs; rw [e1]
    rw [e2, Nat.testBit_two_pow_mul_add _ (Nat.mod_lt _ (Nat.two_pow_pos _)), Nat.testBit_two_pow_mul_add _ hs]
    simp [show ¬ i < k + 1 by omega, show ¬ k = i by omega]
theorem add_key (m k : Nat) (hm : m < 18446744073709551616) (hk : k < 64) (hb : m.testBit k = false) : IntKind.u64.wrap ((m : Int) + ((2 ^ k : Nat) : Int)) = ((withN m k : Nat) : Int) := by
  have h := withN_lt hm hk
  rw [withN_add hb] at h ⊢
  exact wrap_add _ _ h

/-- 2^64 as two powers. -/
theorem pow_split {s b : Nat} (h : b + s = 64) : 2 ^ b * 2 ^ s = 18446744073709551616 := by rw [← Nat.pow_add, h]

/-- All ones, 64 - b places down. -/
theorem ones_shr (b : Nat) (hb : b ≤ 64) : (18446744073709551615 : Int) / 2 ^ (64 - b) = ((lowN b : Nat) : Int) := by
  have e : ((18446744073709551615 : Nat) : Int) = (18446744073709551615 : Int) := rfl
  rw [← e, shr_cast]
  congr 1
  apply Nat.eq_of_testBit_eq
  intro i
  rw [Nat.testBit_shiftRight, testBit_lowN]
  have : (18446744073709551615 : Nat) = lowN 64 := rfl
  rw [this, testBit_lowN]
  simp; omega

def getN (m a b : Nat) : Nat := (m >>> a) &&& lowN b
theorem testBit_getN (m a b i : Nat) : (getN m a b).testBit i = (m.testBit (a + i) && decide (i < b)) := by
  unfold getN; rw [Nat.testBit_and, testBit_lowN, Nat.testBit_shiftRight]
theorem getN_lt_pow (m a b : Nat) : getN m a b < 2 ^ b := by
  have : getN m a b ≤ lowN b := Nat.and_le_right
  have h2 : 0 < 2 ^ b := Nat.two_pow_pos b
  unfold lowN at this; omega
theorem getN_lt {m : Nat} (a b : Nat) (hm : m < 18446744073709551616) : getN m a b < 18446744073709551616 := and_lt _ (shr_lt a hm)
theorem get_key (m a b : Nat) (hm : m < 18446744073709551616) (hb : b ≤ 64) : bits BinOp.and IntKind.u64 ((m : Int) / 2 ^ a) ((lowN b : Nat) : Int) = ((getN m a b : Nat) : Int) := by
  rw [shr_cast, u64_and_nat _ _ (shr_lt a hm) (lowN_lt hb)]; rfl
theorem getN_step (m a k : Nat) : getN m a (k + 1) = if m.testBit (a + k) then withN (getN m a k) k else getN m a k := by
  apply Nat.eq_of_testBit_eq
  intro i
  split
  · rename_i h
    rw [testBit_withN, testBit_getN, testBit_getN]
    by_cases e : k = i
    · subst e; simp [h]
    · simp only [e, decide_false, Bool.or_false]
      congr 1
      rw [decide_eq_decide]; omega
  · rename_i h
    rw [testBit_getN, testBit_getN]
    by_cases e : k = i
    · subst e; simp at h; simp [h]
    · congr 1
      rw [decide_eq_decide]; omega
theorem getN_bit (m a k : Nat) : (getN m a k).testBit k = false := by rw [testBit_getN]; simp

/-! ### Put -/
def putN (m n a b : Nat) : Nat := andNotN m (lowN b <<< a) ||| (n <<< a)
theorem fits_iff (n b : Nat) : n ≤ lowN b ↔ n < 2 ^ b := by
  have h2 : 0 < 2 ^ b := Nat.two_pow_pos b
  unfold lowN; omega
theorem shl_lt {n a b : Nat} (hn : n < 2 ^ b) (hab : a + b ≤ 64) : n <<< a < 18446744073709551616 := by
  rw [Nat.shiftLeft_eq]
  have h1 : n * 2 ^ a < 2 ^ b * 2 ^ a := Nat.mul_lt_mul_of_pos_right hn (Nat.two_pow_pos a)
  rw [← Nat.pow_add] at h1
  exact Nat.lt_of_lt_of_le h1 (pow_le (by omega))
theorem shl_key (n a : Nat) (h : n <<< a < 18446744073709551616) : IntKind.u64.wrap ((n : Int) * 2 ^ a) = ((n <<< a : Nat) : Int) := by
  rw [Nat.shiftLeft_eq] at h ⊢
  rw [IntKind.wrap_u64]
  have e : (n : Int) * 2 ^ a = ((n * 2 ^ a : Nat) : Int) := by rw [Int.natCast_mul, Int.natCast_pow]; rfl
  rw [e]; omega
theorem lowN_lt_pow (b : Nat) : lowN b < 2 ^ b := by have h2 : 0 < 2 ^ b := Nat.two_pow_pos b; unfold lowN; omega
theorem put_key (m n a b : Nat) (hm : m < 18446744073709551616) (hn : n < 2 ^ b) (hab : a + b ≤ 64) :
    bits BinOp.or IntKind.u64 (bits BinOp.andNot IntKind.u64 (m : Int) (IntKind.u64.wrap (((lowN b : Nat) : Int) * 2 ^ a))) (IntKind.u64.wrap ((n : Int) * 2 ^ a)) = ((putN m n a b : Nat) : Int) := by
  have h1 := shl_lt (lowN_lt_pow b) hab
  have h2 := shl_lt hn hab
  rw [shl_key _ _ h1, shl_key _ _ h2, u64_andNot_nat _ _ hm h1]
  exact u64_or_nat _ _ (andNotN_lt _ hm) h2
theorem putN_lt {m n a b : Nat} (hm : m < 18446744073709551616) (hn : n < 2 ^ b) (hab : a + b ≤ 64) : putN m n a b < 18446744073709551616 := or_lt (andNotN_lt _ hm) (shl_lt hn hab)
theorem bit_of_lt {n b i : Nat} (hn : n < 2 ^ b) (h : b ≤ i) : n.testBit i = false := Nat.testBit_lt_two_pow (Nat.lt_of_lt_of_le hn (Nat.pow_le_pow_right (by decide) h))
theorem testBit_putN {m n a b : Nat} (hm : m < 18446744073709551616) (hn : n < 2 ^ b) (hab : a + b ≤ 64) (i : Nat) : (putN m n a b).testBit i = if a ≤ i ∧ i < a + b then n.testBit (i - a) else m.testBit i := by
  unfold putN
  rw [Nat.testBit_or, testBit_andNotN hm (shl_lt (lowN_lt_pow b) hab), Nat.testBit_shiftLeft, Nat.testBit_shiftLeft, testBit_lowN]
  by_cases h1 : a ≤ i
  · by_cases h2 : i < a + b
    · simp [h1, h2, show i - a < b by omega]
    · simp [h1, h2, show ¬ i - a < b by omega, bit_of_lt hn (show b ≤ i - a by omega)]
  · simp [h1]

/-! ### Signed -/
def signN (m a b : Nat) : Int := if 2 ^ (b - 1) ≤ getN m a b then (getN m a b : Int) - ((2 ^ b : Nat) : Int) else (getN m a b : Int)

theorem getN_mod (m a b : Nat) : getN m a b = m / 2 ^ a % 2 ^ b := by
  unfold getN lowN
  rw [Nat.and_two_pow_sub_one_eq_mod, Nat.shiftRight_eq_div_pow]

/-- The field at the top of the word: its number, and what lay below it. -/
theorem top_parts (m a b s : Nat) (hs : b + s = 64) (ha : a ≤ s) : ∃ r, r < 2 ^ s ∧ m * 2 ^ (s - a) % 18446744073709551616 = getN m a b * 2 ^ s + r := by
  refine ⟨(m % 2 ^ a) * 2 ^ (s - a), ?_, ?_⟩
  · have h1 : m % 2 ^ a < 2 ^ a := Nat.mod_lt _ (Nat.two_pow_pos a)
    have h2 : (m % 2 ^ a) * 2 ^ (s - a) < 2 ^ a * 2 ^ (s - a) := Nat.mul_lt_mul_of_pos_right h1 (Nat.two_pow_pos _)
    rwa [← Nat.pow_add, show a + (s - a) = s from by omega] at h2
  · rw [getN_mod]
    have e : m * 2 ^ (s - a) = (m / 2 ^ a / 2 ^ b) * 18446744073709551616 + ((m / 2 ^ a % 2 ^ b) * 2 ^ s + (m % 2 ^ a) * 2 ^ (s - a)) := by
      have e1 : m = 2 ^ a * (m / 2 ^ a) + m % 2 ^ a := (Nat.div_add_mod m (2 ^ a)).symm
      have e2 : m / 2 ^ a = 2 ^ b * (m / 2 ^ a / 2 ^ b) + m / 2 ^ a % 2 ^ b := (Nat.div_add_mod _ (2 ^ b)).symm
      have p1 : 2 ^ a * 2 ^ (s - a) = 2 ^ s := by rw [← Nat.pow_add, show a + (s - a) = s from by omega]
      have p2 := pow_split hs
      generalize m / 2 ^ a / 2 ^ b = h at *
      generalize m / 2 ^ a % 2 ^ b = g at *
      generalize m % 2 ^ a = l at *
      rw [e2] at e1
      rw [e1, ← p2, ← p1]
      generalize 2 ^ a = A
      generalize 2 ^ b = B
      generalize 2 ^ (s - a) = C
      simp only [Nat.add_mul, Nat.mul_add]
      have q1 : A * (B * h) * C = h * (B * (A * C)) := by
        rw [Nat.mul_comm A, Nat.mul_assoc, Nat.mul_comm B h, Nat.mul_assoc]
      have q2 : A * g * C = g * (A * C) := by rw [Nat.mul_comm A g, Nat.mul_assoc]
      rw [q1, q2]
      omega
    rw [e, Nat.mul_add_mod_self_right]
    apply Nat.mod_eq_of_lt
    have h1 : m % 2 ^ a < 2 ^ a := Nat.mod_lt _ (Nat.two_pow_pos a)
    have h2 : (m % 2 ^ a) * 2 ^ (s - a) < 2 ^ s := by
      have := Nat.mul_lt_mul_of_pos_right (k := 2 ^ (s - a)) h1 (Nat.two_pow_pos _)
      rwa [← Nat.pow_add, show a + (s - a) = s from by omega] at this
    have h3 : m / 2 ^ a % 2 ^ b < 2 ^ b := Nat.mod_lt _ (Nat.two_pow_pos b)
    have p2 := pow_split hs
    have h4 : (m / 2 ^ a % 2 ^ b + 1) * 2 ^ s ≤ 2 ^ b * 2 ^ s := Nat.mul_le_mul_right _ h3
    rw [Nat.add_mul] at h4
    omega

theorem sign_key (m a b : Nat) (ha : a + b ≤ 64) (hb : 1 ≤ b) :
    IntKind.i64.wrap (IntKind.u64.wrap ((m : Int) * 2 ^ (64 - b - a))) / 2 ^ (64 - b) = signN m a b := by
  obtain ⟨s, hs⟩ : ∃ s, b + s = 64 := ⟨64 - b, by omega⟩
  obtain ⟨r, hr, e⟩ := top_parts m a b s hs (by omega)
  have e1 : 64 - b = s := by omega
  rw [e1]
  have e2 : (m : Int) * 2 ^ (s - a) = ((m * 2 ^ (s - a) : Nat) : Int) := by rw [Int.natCast_mul, Int.natCast_pow]; rfl
  rw [e2, IntKind.wrap_u64, show ((m * 2 ^ (s - a) : Nat) : Int) % 18446744073709551616 = ((m * 2 ^ (s - a) % 18446744073709551616 : Nat) : Int) from by rw [Int.natCast_emod]; rfl, e]
  have hg := getN_lt_pow m a b
  have p := pow_split hs
  have p1 : 2 ^ b = 2 ^ (b - 1) * 2 := by rw [← Nat.pow_succ, show (b - 1).succ = b from by omega]
  have ps : ((2 : Int) ^ s) = ((2 ^ s : Nat) : Int) := by rw [Int.natCast_pow]; rfl
  have s0 : 0 < 2 ^ s := Nat.two_pow_pos s
  rw [ps]
  unfold signN
  have hG : getN m a b * 2 ^ s + r < 18446744073709551616 := by rw [← e]; exact Nat.mod_lt _ (by decide)
  rw [IntKind.wrap_i64]
  generalize getN m a b = g at *
  generalize hS : 2 ^ s = S at *
  generalize hH : 2 ^ (b - 1) = H at *
  rw [p1] at p hg ⊢
  have p' : H * S = 9223372036854775808 := by
    have : H * 2 * S = 2 * (H * S) := by rw [Nat.mul_comm H 2, Nat.mul_assoc]
    omega
  split
  · rename_i hge
    have h1 : H * S ≤ g * S := Nat.mul_le_mul_right _ hge
    have hv : ((g * S + r : Nat) : Int) = (g : Int) * (S : Int) + (r : Int) := by rw [Int.natCast_add, Int.natCast_mul]
    have hw : (((g * S + r : Nat) : Int) + 9223372036854775808) % 18446744073709551616 - 9223372036854775808 = ((g * S + r : Nat) : Int) - 18446744073709551616 := by omega
    rw [hw, hv]
    have hp : (18446744073709551616 : Int) = ((H * 2 : Nat) : Int) * (S : Int) := by rw [← Int.natCast_mul, p]; rfl
    rw [hp, show (g : Int) * (S : Int) + (r : Int) - ((H * 2 : Nat) : Int) * (S : Int) = (r : Int) + ((g : Int) - ((H * 2 : Nat) : Int)) * (S : Int) from by rw [Int.sub_mul]; omega]
    rw [Int.add_mul_ediv_right _ _ (by omega), Int.ediv_eq_zero_of_lt (by omega) (by omega)]
    omega
  · rename_i hlt
    have h1 : (g + 1) * S ≤ H * S := Nat.mul_le_mul_right _ (by omega)
    rw [Nat.add_mul] at h1
    have hw : (((g * S + r : Nat) : Int) + 9223372036854775808) % 18446744073709551616 - 9223372036854775808 = ((g * S + r : Nat) : Int) := by omega
    rw [hw]
    have hv : ((g * S + r : Nat) : Int) = (r : Int) + (g : Int) * (S : Int) := by rw [Int.natCast_add, Int.natCast_mul]; omega
    rw [hv, Int.add_mul_ediv_right _ _ (by omega), Int.ediv_eq_zero_of_lt (by omega) (by omega)]
    omega

end Go.Proofs.YtkogeeaoppkhkaaDoor.Ma
