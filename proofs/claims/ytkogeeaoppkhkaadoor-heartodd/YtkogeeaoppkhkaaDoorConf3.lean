/-
  Contracts of package conf's Check, and of the document's own May.
-/
import Derived.Test.YtkogeeaoppkhkaaDoorConf2
import Derived.Deep.DeepCutAuto
namespace Go.Proofs.YtkogeeaoppkhkaaDoor
open Go.RowKit

/-- May the numbers of a system be? -/
def in4 (x a b : Int) : Bool := decide (a ≤ x) && decide (x ≤ b)
def numB (W S B T : Int) : Bool := in4 W 1 64 && in4 S 1 64 && in4 B 1 64 && in4 T 0 8
/-- May a system be? -/
def mayB (W S B T : Int) (len : Nat) (f : Nat → Int) : Bool := numB W S B T && clsAll len f
def errI (b : Bool) : Int := if b then 0 else 1

end Go.Proofs.YtkogeeaoppkhkaaDoor
