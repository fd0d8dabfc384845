/-
  Contract of the statements' own 'speaks' of layer 3: a word that is swung.
-/
import Derived.Test.YtkogeeaoppkhkaaDoorMem3
namespace Go.Proofs.YtkogeeaoppkhkaaDoor
open Go.RowKit

theorem below_then {w w1 w2 : World} (h : Below w.heap.size w w1) (h2 : Below w1.heap.size w1 w2) : Below w.heap.size w w2 := h.trans (h2.mono h.size)
theorem below_else {w w1 w2 : World} {g h : Nat} (b : Below w.heap.size w w1) (hg : w.heap.size ≤ g) (hh : w.heap.size ≤ h) (x : Else g h w1 w2) : Below w.heap.size w w2 := b.trans (x.below hg hh b.size)
end Go.Proofs.YtkogeeaoppkhkaaDoor
