/-
  Contracts of math/bits.OnesCount64 and TrailingZeros64, and of mask's Count and First.
-/
import Derived.Test.YtchkgmknhndccaaDoorMask1
import Derived.Test.YtchkgmknhndccaaDoorMath2
namespace Go.Proofs.YtchkgmknhndccaaDoor
open Go.RowKit

end Go.Proofs.YtchkgmknhndccaaDoor
