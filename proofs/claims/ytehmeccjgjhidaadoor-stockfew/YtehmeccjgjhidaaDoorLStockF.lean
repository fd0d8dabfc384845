/-
  From the listed variable (math/bits' table) to what the walks ask of it; and the start that the program's own text leaves.
-/
import Derived.Test.YtehmeccjgjhidaaDoorRows
import Derived.Test.YtehmeccjgjhidaaDoorMaskM
import Derived.ProofKit
import Derived.LaidMore
import Derived.OpenShut
import Derived.Stop.Joined
import Derived.Lib.LaidTab
namespace Go.Proofs.YtehmeccjgjhidaaDoor
open Go.ChangeShapes Go.WideShapes Go.ChangeAt Go.RowKit

theorem own : ownKnob Tryd.prog.godebug = none := by kernel_rfl
theorem laidOut : laidOutB Tryd.prog = true := by kernel_rfl
/-- The listed variable's name, as the rows have it. -/
def nTab : String := (Rows.stockFewRow.named.head?).getD default
abbrev doorSteps : Nat := 22
def laidT : List (String × DataW Unit) := [(nTab, Rows.laid_math_bits_deBruijn64tab)]
theorem gTab : Tryd.prog.globalNamed nTab = some 0 := by kernel_rfl
theorem tTab : (Tryd.prog.globals[0]?).map (·.type) = some 70 := by kernel_rfl

theorem doorT_met (os : Os) (args : Array Value) : laidMetH Tryd.prog laidT ((World.doorLaid Tryd.prog doorSteps os).forCall (fun _ _ => 0) ⟨#[], args, []⟩).memory :=
  laidMetH_of_parts3 (fuel := 8) (laidMet_of_run' 8 (by kernel_rfl) (by kernel_rfl)) (by kernel_rfl) (by kernel_rfl)

theorem tabD_eq {H : Type} : Rows.laid_math_bits_deBruijn64tab (H := H) = Lib.tabData .u8 (Go.Lib.deBruijn64tab.map fun (z : Nat) => (z : Int)) := rfl

theorem cast_getD (l : List Nat) (j : Nat) : (l.map fun (z : Nat) => (z : Int)).getD j 0 = ((l.getD j 0 : Nat) : Int) := by
  simp only [List.getD_eq_getElem?_getD, List.getElem?_map]
  cases l[j]? <;> rfl

/-- What the condition gives the walks: the table's cells. -/
theorem tab_of_laid {W : World} (h : laidMetH Tryd.prog laidT W) : TabAt W := by
  rw [MakeChecks.laidMetH_plain _ _ _ (by kernel_rfl)] at h
  have ht := Lib.tabIs_of_head (P := Tryd.prog) (W := W) (name := nTab) (k := .u8) (zs := Go.Lib.deBruijn64tab.map fun (z : Nat) => (z : Int)) (rest := []) gTab tTab Tryd.underlying70 Tryd.underlying5 (by kernel_rfl) (by kernel_rfl) h
  intro j hj
  rw [ht.cell gTab j (by rw [List.length_map]; exact hj), cast_getD]

end Go.Proofs.YtehmeccjgjhidaaDoor
