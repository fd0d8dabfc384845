/-
  The document's Spill.
-/
import Derived.Test.YtehmeccjgjhidaaDoorStockZ
namespace Go.Proofs.YtehmeccjgjhidaaDoor
open Go.RowKit Go.Sort
attribute [local go_sem] Oper.semAt_some

theorem getD_snd (l : List (Int × Int)) : (fun j => (l.map (·.2)).getD j 0) = fun j => (l.getD j (0, 0)).2 := by
  funext j
  simp only [List.getD_eq_getElem?_getD, List.getElem?_map]
  cases l[j]? <;> rfl
section
variable (W S B T : Int) (ad : Option Addr) (len cap : Nat) (f : Nat → Int)
end
end Go.Proofs.YtehmeccjgjhidaaDoor
