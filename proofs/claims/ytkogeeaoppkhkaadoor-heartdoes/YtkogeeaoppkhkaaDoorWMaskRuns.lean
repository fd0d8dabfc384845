/-
  The walk of the statement MaskRuns: the first of so many in a row; no row that begins ahead of it is in the set.
-/
import Derived.Test.YtkogeeaoppkhkaaDoorWMaskChanges
namespace Go.Proofs.YtkogeeaoppkhkaaDoor
open Go.RowKit

theorem isRow_zero (m a : Nat) : Ma.isRow m a 0 = true := rfl
theorem isRow_step (m a j : Nat) : Ma.isRow m a (j + 1) = (Ma.isRow m a j && m.testBit (a + j)) := by
  simp [Ma.isRow, List.range_succ, List.all_append]
theorem isRow_bit {m a n j : Nat} (h : Ma.isRow m a n = true) (hj : j < n) : m.testBit (a + j) = true := (Ma.isRow_iff m a n).1 h j hj
theorem isRow_false_mono {m a j n : Nat} (h : Ma.isRow m a j = false) (hj : j ≤ n) : Ma.isRow m a n = false := by
  rcases hb : Ma.isRow m a n with _ | _
  · rfl
  · have := (Ma.isRow_iff m a n).1 hb
    have h2 : Ma.isRow m a j = true := (Ma.isRow_iff m a j).2 fun i hi => this i (by omega)
    rw [h] at h2; cases h2

theorem has_sum (m a j : Nat) (b : Bool) (w : World) (hm : m < 18446744073709551616) (h1 : a + j < 64) (hb : m.testBit (a + j) = b) :
    Calls Tryd.prog 41 #[.int .u64 m, .int .i64 ((a : Int) + (j : Int))] w fun e w' => e = .returned (.bool b) ∧ w = w' := by
  have := has_is m (a + j) b w hm h1 hb
  rw [show (((a + j : Nat)) : Int) = (a : Int) + (j : Int) from by omega] at this
  exact this

/-- The two loops that look for a row ahead of 'q': shared by both ways. -/
def NoneAhead (m n q : Nat) : Prop := ∀ k, k < q → Ma.isRow m k n = false

/-- The first row of so many, if there is one. -/
theorem run_cases (m n : Nat) : (∃ a, a + n ≤ 64 ∧ Ma.isRow m a n = true ∧ ∀ k, k < a → Ma.isRow m k n = false) ∨ ∀ k, k + n ≤ 64 → Ma.isRow m k n = false := by
  have key : ∀ q, (∃ a, a < q ∧ Ma.isRow m a n = true ∧ ∀ k, k < a → Ma.isRow m k n = false) ∨ ∀ k, k < q → Ma.isRow m k n = false := by
    intro q
    induction q with
    | zero => exact Or.inr fun k hk => by omega
    | succ q ih =>
      rcases ih with ⟨a, h1, h2, h3⟩ | h
      · exact Or.inl ⟨a, by omega, h2, h3⟩
      · rcases hb : Ma.isRow m q n with _ | _
        · exact Or.inr fun k hk => by
            by_cases e : k = q
            · rw [e]; exact hb
            · exact h k (by omega)
        · exact Or.inl ⟨q, by omega, hb, h⟩
  rcases key (65 - n) with ⟨a, h1, h2, h3⟩ | h
  · exact Or.inl ⟨a, by omega, h2, h3⟩
  · exact Or.inr fun k hk => h k (by omega)

end Go.Proofs.YtkogeeaoppkhkaaDoor
