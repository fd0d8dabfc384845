/-
  Contracts of a memory's accesses: Load, Store, Swap, Swing, Add; and of Peek, Last.
-/
import Derived.Test.YtkogeeaoppkhkaaDoorMem1
namespace Go.Proofs.YtkogeeaoppkhkaaDoor
open Go.RowKit

theorem ret_val {a b : Value} (h : a = b) : Ending.returned a = .returned b := by rw [h]
/-- The word at a place; 0, where there is none. -/
def MSt.rd (s : MSt) (a : Int) : Nat := if inM s a then s.ws.getD a.toNat 0 else 0
/-- The memory with another word at a place, where there is one. -/
def MSt.put (s : MSt) (a : Int) (x : Nat) : MSt := { s with ws := if inM s a then s.ws.set a.toNat x else s.ws }
theorem inM_cases {s : MSt} {a : Int} (h : inM s a = true) : ∃ j : Nat, a = (j : Int) ∧ j < s.ws.length := by
  simp [inM] at h; exact ⟨a.toNat, by omega, by omega⟩
theorem rd_yes {s : MSt} {j : Nat} (h : inM s (j : Int) = true) : s.rd (j : Int) = s.ws.getD j 0 := by simp [MSt.rd, h]
theorem rd_no {s : MSt} {a : Int} (h : inM s a = false) : s.rd a = 0 := by simp [MSt.rd, h]
theorem mput_no {s : MSt} {a : Int} {x : Nat} (h : inM s a = false) : s.put a x = s := by simp [MSt.put, h]
/-- The memory behind a swing. -/
def MSt.swings (s : MSt) (a : Int) (old : Nat) : Bool := inM s a && s.rd a == old
def MSt.swung (s : MSt) (a : Int) (old x : Nat) : MSt := if s.swings a old then (s.begun 4 a).put a x else s.begun 4 a
end Go.Proofs.YtkogeeaoppkhkaaDoor
