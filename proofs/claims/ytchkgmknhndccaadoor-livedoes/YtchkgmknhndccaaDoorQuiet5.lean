/-
  A region that draws its order, whose calls lay blocks and turn nothing: walked once, over the class of all worlds that have what the one at hand has.
-/
import Derived.Test.YtchkgmknhndccaaDoorArena6
import Derived.Test.YtchkgmknhndccaaDoorMayNums
import Derived.Lib.QuietBelow
namespace Go.Proofs.YtchkgmknhndccaaDoor
open Go.RowKit Go.Sort

theorem Ar.grown {w0 w : World} {N : Nat} {W S B T : Int} {ad : Option Addr} {len cap : Nat} {f : Nat → Int} (h : Ar w0 w N W S B T ad len cap f) (d : Nat) (os : Array Obj) : Ar w0 (grow (redrawn w d) os) N W S B T ad len cap f := h.next (below_regrown w d os)

end Go.Proofs.YtchkgmknhndccaaDoor
