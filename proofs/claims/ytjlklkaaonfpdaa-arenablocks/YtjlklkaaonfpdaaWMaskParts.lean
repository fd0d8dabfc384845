/-
  The walk of the statement MaskParts: the least numbers of any set, the lowest of all, and the first row, are the document's.
-/
import Derived.Test.YtjlklkaaonfpdaaRef3
namespace Go.Proofs.Ytjlklkaaonfpdaa
open Go.RowKit

theorem RunIs.unique {m n : Nat} {z z' : Int} (h : RunIs m n z) (h' : RunIs m n z') : z = z' := by
  rcases h with ⟨a, rfl, h1, h2, h3⟩ | ⟨rfl, h1⟩ <;> rcases h' with ⟨b, rfl, k1, k2, k3⟩ | ⟨rfl, k1⟩
  · rcases Nat.lt_trichotomy a b with h | h | h
    · rw [k3 a h] at h2; cases h2
    · rw [h]
    · rw [h3 b h] at k2; cases k2
  · rw [k1 a h1] at h2; cases h2
  · rw [h1 b k1] at k2; cases k2
  · rfl

theorem mem_all : Ma.mem 18446744073709551615 = List.range 64 := by decide +kernel
theorem least_all (k : Nat) : Ma.leastN 18446744073709551615 k = Ma.lowN (min k 64) := by
  apply Nat.eq_of_testBit_eq
  intro i
  unfold Ma.leastN
  rw [Ma.testBit_lowN, Ma.testBit_ofList, mem_all, List.take_range]
  simp

/-- What the end of MaskParts asks of Low: each way's number is the document's. -/
theorem low_says (n : Int) (w : World) : Calls Try.prog 47 #[.int .i64 n] w fun e w' => e = .returned (.int .u64 (Ma.leastN 18446744073709551615 n.toNat : Nat)) ∧ w = w' := by
  rw [least_all]
  by_cases h0 : n < 0
  · rw [show min n.toNat 64 = 0 from by omega]
    exact low_neg n w h0
  · by_cases h1 : n ≤ 64
    · rw [show min n.toNat 64 = n.toNat from by omega]
      exact low_yes n w (by omega) h1
    · rw [show min n.toNat 64 = 64 from by omega]
      exact low_big n w (by omega)

end Go.Proofs.Ytjlklkaaonfpdaa
