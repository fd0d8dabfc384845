/-
  Contract of mask's Least.
-/
import Derived.Test.YtjlklkaaonfpdaaMask3
namespace Go.Proofs.Ytjlklkaaonfpdaa
open Go.RowKit

end Go.Proofs.Ytjlklkaaonfpdaa
