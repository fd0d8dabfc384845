/-
  DERIVED. GIVEN WITH THE SEED: THE CARDS: each row of YtehmeccjgjhidaaDoorRows.lean that lists a variable, with what it lists TIED to the program's text (the seventh form; the later family's looks); each row that meets fmt, with fmt's text TOLD by the authors' own Lean function (tested against real Go, not proved from fmt's source: count such statements apart). THE CARD IS WHAT COUNTS. Prove the row's statement (the work); the ties are given (YtehmeccjgjhidaaDoorTie.lean); close each card by the builder's one call (the guide's Derived/Test/ToyasCard.lean, 'card_holds'). Laid BY PROGRAM, IN A SANDBOX (cutbox-door.mjs). By AI agents, Wed Nov 11 2026. No macro, syntax, notation, axiom, sorry.
-/
import Derived.Test.YtehmeccjgjhidaaDoorRows
import GoSem.ClaimSeven
namespace Go.Proofs.YtehmeccjgjhidaaDoor
namespace Rows

/-- THE TIED CARD OF 'chandlerylaw12.StockFew'. -/
def stockFewCard : Claim7 := { stood := { row := stockFewRow, standIns := [], harness := (true, "cf7367a65895d0a72fe2c5b5a9f28f4f2f584a98e748ba5b5d6b6f85f57bf63c"), looks := false }, kinds := [], alts := [], laidByText := true, laidKinds := [.data], laidTests := true, laidLooks := .later }
def StockFewCardSaid : Prop := Claim7.holds Tryd.pinned (.plain (OpenSpec.ofChange stockFewSpec)) stockFewCard

/-- THE SECOND FORM's CARD OF 'chandlerylaw12.StockFew'. -/
def stockFewUptoCard : Claim7 := { stood := { row := stockFewUptoRow, standIns := [], harness := (true, "cf7367a65895d0a72fe2c5b5a9f28f4f2f584a98e748ba5b5d6b6f85f57bf63c"), looks := false }, kinds := [], alts := [], laidByText := true, laidKinds := [.data], laidTests := true, laidLooks := .later }
def StockFewUptoCardSaid : Prop := Claim7.holds Tryd.pinned (.plain (OpenSpec.upto stockFewSpec)) stockFewUptoCard
end Rows
end Go.Proofs.YtehmeccjgjhidaaDoor
