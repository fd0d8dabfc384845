/-
  Contracts of the document's own arena: Class, Run, Cap, Address.
-/
import Derived.Test.YtchkgmknhndccaaDoorArena3
namespace Go.Proofs.YtchkgmknhndccaaDoor
open Go.RowKit

theorem vint_eq {k : IntKind} {a b : Int} (h : a = b) : Value.int k a = .int k b := by rw [h]

def bestI (len i j : Nat) : Int := if j = len then -1 else if i ≤ j then j else i
theorem cap_div {z n : Int} (hz : 0 < z) (h1 : n * z ≤ 1024) (h2 : 1024 < n * z + z) : 1024 / z = n := by
  have h3 : n ≤ 1024 / z := Int.le_ediv_of_mul_le hz h1
  have h4 : 1024 / z < n + 1 := Int.ediv_lt_of_lt_mul hz (by rw [Int.add_mul, Int.one_mul]; exact h2)
  omega
end Go.Proofs.YtchkgmknhndccaaDoor
