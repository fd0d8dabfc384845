/-
  Contracts of mask's Run and Least.
-/
import Derived.Test.YtjlklkaaonfpdaaMask2
import Derived.Test.YtjlklkaaonfpdaaMath3
namespace Go.Proofs.Ytjlklkaaonfpdaa
open Go.RowKit

end Go.Proofs.Ytjlklkaaonfpdaa
