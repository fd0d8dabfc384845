/-
  Contracts of math/bits.OnesCount64 and TrailingZeros64, and of mask's Count and First.
-/
import Derived.Test.YtjlklkaaonfpdaaMask1
import Derived.Test.YtjlklkaaonfpdaaMath2
namespace Go.Proofs.Ytjlklkaaonfpdaa
open Go.RowKit

end Go.Proofs.Ytjlklkaaonfpdaa
