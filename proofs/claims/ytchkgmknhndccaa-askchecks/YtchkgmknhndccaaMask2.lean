/-
  Contracts of math/bits.OnesCount64 and TrailingZeros64, and of mask's Count and First.
-/
import Derived.Test.YtchkgmknhndccaaMask1
import Derived.Test.YtchkgmknhndccaaMath2
namespace Go.Proofs.Ytchkgmknhndccaa
open Go.RowKit

end Go.Proofs.Ytchkgmknhndccaa
