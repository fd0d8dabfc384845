/-
  Plain arithmetic, of no program: a field counts as many as the word within it.
-/
import Derived.Test.YtjddbbkmaifcpabMath4
namespace Go.Proofs.Ytjddbbkmaifcpab.Ma
open Go

theorem popF_zero : ∀ f, popF f 0 = 0
  | 0 => rfl
  | f + 1 => by simp only [popF, Nat.zero_mod, Nat.zero_div, Nat.zero_add]; exact popF_zero f
theorem popF_shl : ∀ a f x, popF (a + f) (x * 2 ^ a) = popF f x
  | 0, f, x => by simp
  | a + 1, f, x => by
    have e : a + 1 + f = (a + f) + 1 := by omega
    have e2 : x * 2 ^ (a + 1) = (x * 2 ^ a) * 2 := by rw [Nat.pow_succ, Nat.mul_assoc]
    rw [e, e2]
    simp only [popF]
    rw [Nat.mul_mod_left, Nat.mul_div_cancel _ (by decide), popF_shl a f x]
    omega
theorem popF_high : ∀ f k x, x < 2 ^ f → popF (f + k) x = popF f x
  | 0, k, x, h => by
    have : x = 0 := by simpa using h
    subst this
    rw [popF_zero, popF_zero]
  | f + 1, k, x, h => by
    have e : f + 1 + k = (f + k) + 1 := by omega
    rw [e]
    simp only [popF]
    rw [popF_high f k (x / 2) (by rw [Nat.pow_succ] at h; omega)]

theorem zero_lt64 : 0 < 18446744073709551616 := by decide
theorem field_shl (m a b : Nat) (hab : a + b ≤ 64) : m &&& putN 0 (lowN b) a b = getN m a b * 2 ^ a := by
  rw [← Nat.shiftLeft_eq]
  apply Nat.eq_of_testBit_eq
  intro i
  rw [Nat.testBit_and, testBit_putN zero_lt64 (lowN_lt_pow b) hab, Nat.testBit_shiftLeft, testBit_getN, testBit_lowN, Nat.zero_testBit]
  by_cases h1 : a ≤ i
  · by_cases h2 : i < a + b
    · simp [h1, h2, show a + (i - a) = i by omega, show i - a < b by omega]
    · simp [h1, h2, show ¬ i - a < b by omega]
  · simp [h1]
theorem count_field (m a b : Nat) (hab : a + b ≤ 64) : popF 64 (m &&& putN 0 (lowN b) a b) = popF 64 (getN m a b) := by
  rw [field_shl m a b hab]
  obtain ⟨f, hf⟩ : ∃ f, a + f = 64 := ⟨64 - a, by omega⟩
  have h1 := popF_shl a f (getN m a b)
  have hg : getN m a b < 2 ^ f := Nat.lt_of_lt_of_le (getN_lt_pow m a b) (Nat.pow_le_pow_right (by decide) (by omega))
  have h2 := popF_high f a _ hg
  rw [hf] at h1
  rw [Nat.add_comm f a, hf] at h2
  rw [h1, h2]
theorem one_with (i : Nat) (hi : i < 64) : putN 0 1 i 1 = withN 0 i := by
  apply Nat.eq_of_testBit_eq
  intro j
  rw [testBit_putN zero_lt64 (by decide) (by omega), testBit_withN, Nat.zero_testBit]
  by_cases h : i = j
  · subst h; simp
  · rw [if_neg (by omega)]; simp [h]
theorem and_key (m n : Nat) (hm : m < 18446744073709551616) (hn : n < 18446744073709551616) : bits BinOp.and IntKind.u64 (m : Int) (n : Int) = ((m &&& n : Nat) : Int) := u64_and_nat _ _ hm hn

end Go.Proofs.Ytjddbbkmaifcpab.Ma
