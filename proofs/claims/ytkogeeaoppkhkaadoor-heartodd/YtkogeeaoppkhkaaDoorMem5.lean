/-
  Facts on what a memory is behind an access.
-/
import Derived.Test.YtkogeeaoppkhkaaDoorMem4
import Derived.Test.YtkogeeaoppkhkaaDoorRow64
namespace Go.Proofs.YtkogeeaoppkhkaaDoor
open Go.RowKit

theorem inM_nat (s : MSt) (j : Nat) : inM s (j : Int) = decide (j < s.ws.length) := by
  unfold inM; rw [Bool.eq_iff_iff]; simp
theorem inM_out {s : MSt} {a : Int} (h : ¬ (0 ≤ a ∧ a < s.ws.length)) : inM s a = false := by
  unfold inM; rw [Bool.and_eq_false_iff]; simp; omega
theorem put_ws {s : MSt} {j : Nat} {x : Nat} (h : j < s.ws.length) : (s.put (j : Int) x).ws = s.ws.set j x := by simp [MSt.put, inM_nat, h]
theorem rd_nat {s : MSt} {j : Nat} (h : j < s.ws.length) : s.rd (j : Int) = s.ws.getD j 0 := by simp [MSt.rd, inM_nat, h]
theorem begun_in {s : MSt} {k a : Int} (h : inM s a = true) : (s.begun k a).faults = s.faults := by simp [MSt.begun, h]
theorem begun_out {s : MSt} {k a : Int} (h : inM s a = false) : (s.begun k a).faults = s.faults + 1 := by simp [MSt.begun, h]
theorem inM_begun (s : MSt) (k a b : Int) : inM (s.begun k a) b = inM s b := rfl
theorem swung_out {s : MSt} {a : Int} {old x : Nat} (h : inM s a = false) : s.swings a old = false ∧ s.swung a old x = s.begun 4 a := by
  have h1 : s.swings a old = false := by unfold MSt.swings; rw [h]; rfl
  exact ⟨h1, by unfold MSt.swung; rw [h1]; rfl⟩

end Go.Proofs.YtkogeeaoppkhkaaDoor
