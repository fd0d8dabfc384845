/-
  Contracts of package mask's small functions: can, Low, Has, With, Without.
-/
import Derived.Test.YtchkgmknhndccaaDoorProg
import Derived.Test.YtchkgmknhndccaaDoorMath1
import Derived.WalkKit
import Derived.WalkSpells
import Derived.Lib.Hide
namespace Go.Proofs.YtchkgmknhndccaaDoor
open Go.RowKit

theorem ret_bool {a b : Bool} (h : a = b) : Ending.returned (.bool a) = .returned (.bool b) := by rw [h]
theorem ret_int {k : IntKind} {a b : Int} (h : a = b) : Ending.returned (.int k a) = .returned (.int k b) := by rw [h]

end Go.Proofs.YtchkgmknhndccaaDoor
