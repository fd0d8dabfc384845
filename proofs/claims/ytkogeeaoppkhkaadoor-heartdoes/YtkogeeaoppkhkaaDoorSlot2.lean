/-
  Contract of the statements' own 'speaks' of layer 8.
-/
import Derived.Test.YtkogeeaoppkhkaaDoorSlot1
namespace Go.Proofs.YtkogeeaoppkhkaaDoor
open Go.RowKit Go.Sort

theorem below_two {w w1 w2 : World} (h : Below w.heap.size w w1) (h2 : Below w1.heap.size w1 w2) : Below w.heap.size w w2 := h.trans (h2.mono h.size)
end Go.Proofs.YtkogeeaoppkhkaaDoor
