/-
  DERIVED. GIVEN WITH THE SEED: THE CARDS: each row of YtkogeeaoppkhkaaDoorRows.lean that lists a variable, with what it lists TIED to the program's text (the seventh form; the later family's looks); each row that meets fmt, with fmt's text TOLD by the authors' own Lean function (tested against real Go, not proved from fmt's source: count such statements apart). THE CARD IS WHAT COUNTS. Prove the row's statement (the work); the ties are given (YtkogeeaoppkhkaaDoorTie.lean); close each card by the builder's one call (the guide's Derived/Test/ToyasCard.lean, 'card_holds'). Laid BY PROGRAM, IN A SANDBOX (cutbox-door.mjs). By AI agents, Wed Nov 11 2026. No macro, syntax, notation, axiom, sorry.
-/
import Derived.Test.YtkogeeaoppkhkaaDoorRows
import GoSem.ClaimSeven
namespace Go.Proofs.YtkogeeaoppkhkaaDoor
namespace Rows

/-- THE TIED CARD OF 'chandlerylaw11.HeartDoes'. -/
def heartDoesCard : Claim7 := { stood := { row := heartDoesRow, standIns := [], harness := (true, "2793a455acd3e3fba3b36d2a2a7fa22839f342fd8f2a518bdafde6a57db89ec9"), looks := false }, kinds := [], alts := [], laidByText := true, laidKinds := [.data, .wider, .wider], laidTests := true, laidLooks := .later }
def HeartDoesCardSaid : Prop := Claim7.holds Tryd.pinned (.plain (OpenSpec.ofChange heartDoesSpec)) heartDoesCard

/-- THE TIED CARD OF 'chandlerylaw11.HeartOdd'. -/
def heartOddCard : Claim7 := { stood := { row := heartOddRow, standIns := [], harness := (true, "2793a455acd3e3fba3b36d2a2a7fa22839f342fd8f2a518bdafde6a57db89ec9"), looks := false }, kinds := [], alts := [], laidByText := true, laidKinds := [.data, .wider, .wider], laidTests := true, laidLooks := .later }
def HeartOddCardSaid : Prop := Claim7.holds Tryd.pinned (.plain (OpenSpec.ofChange heartOddSpec)) heartOddCard

/-- THE TIED CARD OF 'chandlerylaw11.HeartKeeps'. -/
def heartKeepsCard : Claim7 := { stood := { row := heartKeepsRow, standIns := [], harness := (true, "2793a455acd3e3fba3b36d2a2a7fa22839f342fd8f2a518bdafde6a57db89ec9"), looks := false }, kinds := [], alts := [], laidByText := true, laidKinds := [.data, .wider, .wider], laidTests := true, laidLooks := .later }
def HeartKeepsCardSaid : Prop := Claim7.holds Tryd.pinned (.plain (OpenSpec.ofChange heartKeepsSpec)) heartKeepsCard

/-- THE TIED CARD OF 'chandlerylaw11.HeartBack'. -/
def heartBackCard : Claim7 := { stood := { row := heartBackRow, standIns := [], harness := (true, "2793a455acd3e3fba3b36d2a2a7fa22839f342fd8f2a518bdafde6a57db89ec9"), looks := false }, kinds := [], alts := [], laidByText := true, laidKinds := [.data, .wider, .wider], laidTests := true, laidLooks := .later }
def HeartBackCardSaid : Prop := Claim7.holds Tryd.pinned (.plain (OpenSpec.ofChange heartBackSpec)) heartBackCard

/-- THE TIED CARD OF 'chandlerylaw11.HeartRuns'. -/
def heartRunsCard : Claim7 := { stood := { row := heartRunsRow, standIns := [], harness := (true, "2793a455acd3e3fba3b36d2a2a7fa22839f342fd8f2a518bdafde6a57db89ec9"), looks := false }, kinds := [], alts := [], laidByText := true, laidKinds := [.data, .wider, .wider], laidTests := true, laidLooks := .later }
def HeartRunsCardSaid : Prop := Claim7.holds Tryd.pinned (.plain (OpenSpec.ofChange heartRunsSpec)) heartRunsCard

/-- THE TIED CARD OF 'chandlerylaw12.StockDoes'. -/
def stockDoesCard : Claim7 := { stood := { row := stockDoesRow, standIns := [], harness := (true, "2793a455acd3e3fba3b36d2a2a7fa22839f342fd8f2a518bdafde6a57db89ec9"), looks := false }, kinds := [], alts := [], laidByText := true, laidKinds := [.data], laidTests := true, laidLooks := .later }
def StockDoesCardSaid : Prop := Claim7.holds Tryd.pinned (.plain (OpenSpec.ofChange stockDoesSpec)) stockDoesCard

/-- THE TIED CARD OF 'chandlerylaw12.StockFew'. -/
def stockFewCard : Claim7 := { stood := { row := stockFewRow, standIns := [], harness := (true, "2793a455acd3e3fba3b36d2a2a7fa22839f342fd8f2a518bdafde6a57db89ec9"), looks := false }, kinds := [], alts := [], laidByText := true, laidKinds := [.data], laidTests := true, laidLooks := .later }
def StockFewCardSaid : Prop := Claim7.holds Tryd.pinned (.plain (OpenSpec.ofChange stockFewSpec)) stockFewCard

/-- THE TIED CARD OF 'chandlerylaw12.StockBack'. -/
def stockBackCard : Claim7 := { stood := { row := stockBackRow, standIns := [], harness := (true, "2793a455acd3e3fba3b36d2a2a7fa22839f342fd8f2a518bdafde6a57db89ec9"), looks := false }, kinds := [], alts := [], laidByText := true, laidKinds := [.data], laidTests := true, laidLooks := .later }
def StockBackCardSaid : Prop := Claim7.holds Tryd.pinned (.plain (OpenSpec.ofChange stockBackSpec)) stockBackCard

/-- THE TIED CARD OF 'chandlerylaw12.StockFills'. -/
def stockFillsCard : Claim7 := { stood := { row := stockFillsRow, standIns := [], harness := (true, "2793a455acd3e3fba3b36d2a2a7fa22839f342fd8f2a518bdafde6a57db89ec9"), looks := false }, kinds := [], alts := [], laidByText := true, laidKinds := [.data], laidTests := true, laidLooks := .later }
def StockFillsCardSaid : Prop := Claim7.holds Tryd.pinned (.plain (OpenSpec.ofChange stockFillsSpec)) stockFillsCard

/-- THE TIED CARD OF 'chandlerylaw12.StockClasses'. -/
def stockClassesCard : Claim7 := { stood := { row := stockClassesRow, standIns := [], harness := (true, "2793a455acd3e3fba3b36d2a2a7fa22839f342fd8f2a518bdafde6a57db89ec9"), looks := false }, kinds := [], alts := [], laidByText := true, laidKinds := [.data], laidTests := true, laidLooks := .later }
def StockClassesCardSaid : Prop := Claim7.holds Tryd.pinned (.plain (OpenSpec.ofChange stockClassesSpec)) stockClassesCard

/-- THE TIED CARD OF 'chandlerytop.WholeFlow'. -/
def wholeFlowCard : Claim7 := { stood := { row := wholeFlowRow, standIns := [], harness := (true, "2793a455acd3e3fba3b36d2a2a7fa22839f342fd8f2a518bdafde6a57db89ec9"), looks := false }, kinds := [], alts := [], laidByText := true, laidKinds := [.data, .wider, .wider], laidTests := true, laidLooks := .later }
def WholeFlowCardSaid : Prop := Claim7.holds Tryd.pinned (.plain (OpenSpec.ofChange wholeFlowSpec)) wholeFlowCard

/-- THE SECOND FORM's CARD OF 'chandlerylaw11.HeartDoes'. -/
def heartDoesUptoCard : Claim7 := { stood := { row := heartDoesUptoRow, standIns := [], harness := (true, "2793a455acd3e3fba3b36d2a2a7fa22839f342fd8f2a518bdafde6a57db89ec9"), looks := false }, kinds := [], alts := [], laidByText := true, laidKinds := [.data, .wider, .wider], laidTests := true, laidLooks := .later }
def HeartDoesUptoCardSaid : Prop := Claim7.holds Tryd.pinned (.plain (OpenSpec.upto heartDoesSpec)) heartDoesUptoCard

/-- THE SECOND FORM's CARD OF 'chandlerylaw11.HeartOdd'. -/
def heartOddUptoCard : Claim7 := { stood := { row := heartOddUptoRow, standIns := [], harness := (true, "2793a455acd3e3fba3b36d2a2a7fa22839f342fd8f2a518bdafde6a57db89ec9"), looks := false }, kinds := [], alts := [], laidByText := true, laidKinds := [.data, .wider, .wider], laidTests := true, laidLooks := .later }
def HeartOddUptoCardSaid : Prop := Claim7.holds Tryd.pinned (.plain (OpenSpec.upto heartOddSpec)) heartOddUptoCard

/-- THE SECOND FORM's CARD OF 'chandlerylaw11.HeartKeeps'. -/
def heartKeepsUptoCard : Claim7 := { stood := { row := heartKeepsUptoRow, standIns := [], harness := (true, "2793a455acd3e3fba3b36d2a2a7fa22839f342fd8f2a518bdafde6a57db89ec9"), looks := false }, kinds := [], alts := [], laidByText := true, laidKinds := [.data, .wider, .wider], laidTests := true, laidLooks := .later }
def HeartKeepsUptoCardSaid : Prop := Claim7.holds Tryd.pinned (.plain (OpenSpec.upto heartKeepsSpec)) heartKeepsUptoCard

/-- THE SECOND FORM's CARD OF 'chandlerylaw11.HeartBack'. -/
def heartBackUptoCard : Claim7 := { stood := { row := heartBackUptoRow, standIns := [], harness := (true, "2793a455acd3e3fba3b36d2a2a7fa22839f342fd8f2a518bdafde6a57db89ec9"), looks := false }, kinds := [], alts := [], laidByText := true, laidKinds := [.data, .wider, .wider], laidTests := true, laidLooks := .later }
def HeartBackUptoCardSaid : Prop := Claim7.holds Tryd.pinned (.plain (OpenSpec.upto heartBackSpec)) heartBackUptoCard

/-- THE SECOND FORM's CARD OF 'chandlerylaw11.HeartRuns'. -/
def heartRunsUptoCard : Claim7 := { stood := { row := heartRunsUptoRow, standIns := [], harness := (true, "2793a455acd3e3fba3b36d2a2a7fa22839f342fd8f2a518bdafde6a57db89ec9"), looks := false }, kinds := [], alts := [], laidByText := true, laidKinds := [.data, .wider, .wider], laidTests := true, laidLooks := .later }
def HeartRunsUptoCardSaid : Prop := Claim7.holds Tryd.pinned (.plain (OpenSpec.upto heartRunsSpec)) heartRunsUptoCard

/-- THE SECOND FORM's CARD OF 'chandlerylaw12.StockDoes'. -/
def stockDoesUptoCard : Claim7 := { stood := { row := stockDoesUptoRow, standIns := [], harness := (true, "2793a455acd3e3fba3b36d2a2a7fa22839f342fd8f2a518bdafde6a57db89ec9"), looks := false }, kinds := [], alts := [], laidByText := true, laidKinds := [.data], laidTests := true, laidLooks := .later }
def StockDoesUptoCardSaid : Prop := Claim7.holds Tryd.pinned (.plain (OpenSpec.upto stockDoesSpec)) stockDoesUptoCard

/-- THE SECOND FORM's CARD OF 'chandlerylaw12.StockFew'. -/
def stockFewUptoCard : Claim7 := { stood := { row := stockFewUptoRow, standIns := [], harness := (true, "2793a455acd3e3fba3b36d2a2a7fa22839f342fd8f2a518bdafde6a57db89ec9"), looks := false }, kinds := [], alts := [], laidByText := true, laidKinds := [.data], laidTests := true, laidLooks := .later }
def StockFewUptoCardSaid : Prop := Claim7.holds Tryd.pinned (.plain (OpenSpec.upto stockFewSpec)) stockFewUptoCard

/-- THE SECOND FORM's CARD OF 'chandlerylaw12.StockBack'. -/
def stockBackUptoCard : Claim7 := { stood := { row := stockBackUptoRow, standIns := [], harness := (true, "2793a455acd3e3fba3b36d2a2a7fa22839f342fd8f2a518bdafde6a57db89ec9"), looks := false }, kinds := [], alts := [], laidByText := true, laidKinds := [.data], laidTests := true, laidLooks := .later }
def StockBackUptoCardSaid : Prop := Claim7.holds Tryd.pinned (.plain (OpenSpec.upto stockBackSpec)) stockBackUptoCard

/-- THE SECOND FORM's CARD OF 'chandlerylaw12.StockFills'. -/
def stockFillsUptoCard : Claim7 := { stood := { row := stockFillsUptoRow, standIns := [], harness := (true, "2793a455acd3e3fba3b36d2a2a7fa22839f342fd8f2a518bdafde6a57db89ec9"), looks := false }, kinds := [], alts := [], laidByText := true, laidKinds := [.data], laidTests := true, laidLooks := .later }
def StockFillsUptoCardSaid : Prop := Claim7.holds Tryd.pinned (.plain (OpenSpec.upto stockFillsSpec)) stockFillsUptoCard

/-- THE SECOND FORM's CARD OF 'chandlerylaw12.StockClasses'. -/
def stockClassesUptoCard : Claim7 := { stood := { row := stockClassesUptoRow, standIns := [], harness := (true, "2793a455acd3e3fba3b36d2a2a7fa22839f342fd8f2a518bdafde6a57db89ec9"), looks := false }, kinds := [], alts := [], laidByText := true, laidKinds := [.data], laidTests := true, laidLooks := .later }
def StockClassesUptoCardSaid : Prop := Claim7.holds Tryd.pinned (.plain (OpenSpec.upto stockClassesSpec)) stockClassesUptoCard

/-- THE SECOND FORM's CARD OF 'chandlerytop.WholeFlow'. -/
def wholeFlowUptoCard : Claim7 := { stood := { row := wholeFlowUptoRow, standIns := [], harness := (true, "2793a455acd3e3fba3b36d2a2a7fa22839f342fd8f2a518bdafde6a57db89ec9"), looks := false }, kinds := [], alts := [], laidByText := true, laidKinds := [.data, .wider, .wider], laidTests := true, laidLooks := .later }
def WholeFlowUptoCardSaid : Prop := Claim7.holds Tryd.pinned (.plain (OpenSpec.upto wholeFlowSpec)) wholeFlowUptoCard
end Rows
end Go.Proofs.YtkogeeaoppkhkaaDoor
