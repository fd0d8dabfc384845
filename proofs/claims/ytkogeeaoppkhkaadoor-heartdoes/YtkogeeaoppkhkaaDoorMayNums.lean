/-
  What is known of a system that may be.
-/
import Derived.Test.YtkogeeaoppkhkaaDoorConf5
namespace Go.Proofs.YtkogeeaoppkhkaaDoor
open Go.RowKit

theorem may_nums {W S B T : Int} {len : Nat} {f : Nat → Int} (h : mayB W S B T len f = true) : (1 ≤ W ∧ W ≤ 64) ∧ (1 ≤ S ∧ S ≤ 64) ∧ (1 ≤ B ∧ B ≤ 64) ∧ (0 ≤ T ∧ T ≤ 8) ∧ (1 ≤ len ∧ len ≤ 16) ∧ clsTo f len = true := by
  simp [mayB, numB, in4, clsAll] at h
  exact ⟨by omega, by omega, by omega, by omega, by omega, h.2.2⟩
theorem may_of {W S B T : Int} {len : Nat} {f : Nat → Int} (h1 : 1 ≤ W ∧ W ≤ 64) (h2 : 1 ≤ S ∧ S ≤ 64) (h3 : 1 ≤ B ∧ B ≤ 64) (h4 : 0 ≤ T ∧ T ≤ 8) (h5 : 1 ≤ len ∧ len ≤ 16) (h6 : clsTo f len = true) : mayB W S B T len f = true := by
  simp [mayB, numB, in4, clsAll]
  exact ⟨by omega, by omega, h6⟩

end Go.Proofs.YtkogeeaoppkhkaaDoor
