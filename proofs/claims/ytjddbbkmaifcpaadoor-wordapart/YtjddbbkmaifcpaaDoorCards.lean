/-
  DERIVED. GIVEN WITH THE SEED: THE CARDS: each row of YtjddbbkmaifcpaaDoorRows.lean that lists a variable, with what it lists TIED to the program's text (the seventh form; the later family's looks); each row that meets fmt, with fmt's text TOLD by the authors' own Lean function (tested against real Go, not proved from fmt's source: count such statements apart). THE CARD IS WHAT COUNTS. Prove the row's statement (the work); the ties are given (YtjddbbkmaifcpaaDoorTie.lean); close each card by the builder's one call (the guide's Derived/Test/ToyasCard.lean, 'card_holds'). Laid BY PROGRAM, IN A SANDBOX (cutbox-door.mjs). By AI agents, Wed Nov 11 2026. No macro, syntax, notation, axiom, sorry.
-/
import Derived.Test.YtjddbbkmaifcpaaDoorRows
import GoSem.ClaimSeven
namespace Go.Proofs.YtjddbbkmaifcpaaDoor
namespace Rows

/-- THE TIED CARD OF 'chandlerylaw01.WordFields'. -/
def wordFieldsCard : Claim7 := { stood := { row := wordFieldsRow, standIns := [], harness := (true, "8d5b9804108b42017bdda308ea0e6f684cb7c86f744af1df0205cb5e79fe97bb"), looks := false }, kinds := [], alts := [], laidByText := true, laidKinds := [.wider], laidTests := true, laidLooks := .later }
def WordFieldsCardSaid : Prop := Claim7.holds Tryd.pinned (.plain (OpenSpec.ofChange wordFieldsSpec)) wordFieldsCard

/-- THE TIED CARD OF 'chandlerylaw01.WordPuts'. -/
def wordPutsCard : Claim7 := { stood := { row := wordPutsRow, standIns := [], harness := (true, "8d5b9804108b42017bdda308ea0e6f684cb7c86f744af1df0205cb5e79fe97bb"), looks := false }, kinds := [], alts := [], laidByText := true, laidKinds := [.wider], laidTests := true, laidLooks := .later }
def WordPutsCardSaid : Prop := Claim7.holds Tryd.pinned (.plain (OpenSpec.ofChange wordPutsSpec)) wordPutsCard

/-- THE TIED CARD OF 'chandlerylaw01.WordApart'. -/
def wordApartCard : Claim7 := { stood := { row := wordApartRow, standIns := [], harness := (true, "8d5b9804108b42017bdda308ea0e6f684cb7c86f744af1df0205cb5e79fe97bb"), looks := false }, kinds := [], alts := [], laidByText := true, laidKinds := [.wider], laidTests := true, laidLooks := .later }
def WordApartCardSaid : Prop := Claim7.holds Tryd.pinned (.plain (OpenSpec.ofChange wordApartSpec)) wordApartCard

/-- THE TIED CARD OF 'chandlerylaw01.WordRefs'. -/
def wordRefsCard : Claim7 := { stood := { row := wordRefsRow, standIns := [], harness := (true, "8d5b9804108b42017bdda308ea0e6f684cb7c86f744af1df0205cb5e79fe97bb"), looks := false }, kinds := [], alts := [], laidByText := true, laidKinds := [.wider], laidTests := true, laidLooks := .later }
def WordRefsCardSaid : Prop := Claim7.holds Tryd.pinned (.plain (OpenSpec.ofChange wordRefsSpec)) wordRefsCard

/-- THE TIED CARD OF 'chandlerylaw01.WordTiles'. -/
def wordTilesCard : Claim7 := { stood := { row := wordTilesRow, standIns := [], harness := (true, "8d5b9804108b42017bdda308ea0e6f684cb7c86f744af1df0205cb5e79fe97bb"), looks := false }, kinds := [], alts := [], laidByText := true, laidKinds := [.wider], laidTests := true, laidLooks := .later }
def WordTilesCardSaid : Prop := Claim7.holds Tryd.pinned (.plain (OpenSpec.ofChange wordTilesSpec)) wordTilesCard

/-- THE TIED CARD OF 'chandlerylaw01.WordSigns'. -/
def wordSignsCard : Claim7 := { stood := { row := wordSignsRow, standIns := [], harness := (true, "8d5b9804108b42017bdda308ea0e6f684cb7c86f744af1df0205cb5e79fe97bb"), looks := false }, kinds := [], alts := [], laidByText := true, laidKinds := [.wider], laidTests := true, laidLooks := .later }
def WordSignsCardSaid : Prop := Claim7.holds Tryd.pinned (.plain (OpenSpec.ofChange wordSignsSpec)) wordSignsCard

/-- THE TIED CARD OF 'chandlerylaw02.MaskTells'. -/
def maskTellsCard : Claim7 := { stood := { row := maskTellsRow, standIns := [], harness := (true, "8d5b9804108b42017bdda308ea0e6f684cb7c86f744af1df0205cb5e79fe97bb"), looks := false }, kinds := [], alts := [], laidByText := true, laidKinds := [.data], laidTests := true, laidLooks := .later }
def MaskTellsCardSaid : Prop := Claim7.holds Tryd.pinned (.plain (OpenSpec.ofChange maskTellsSpec)) maskTellsCard

/-- THE TIED CARD OF 'chandlerylaw02.MaskParts'. -/
def maskPartsCard : Claim7 := { stood := { row := maskPartsRow, standIns := [], harness := (true, "8d5b9804108b42017bdda308ea0e6f684cb7c86f744af1df0205cb5e79fe97bb"), looks := false }, kinds := [], alts := [], laidByText := true, laidKinds := [.data], laidTests := true, laidLooks := .later }
def MaskPartsCardSaid : Prop := Claim7.holds Tryd.pinned (.plain (OpenSpec.ofChange maskPartsSpec)) maskPartsCard

/-- THE TIED CARD OF 'chandlerylaw02.MaskChanges'. -/
def maskChangesCard : Claim7 := { stood := { row := maskChangesRow, standIns := [], harness := (true, "8d5b9804108b42017bdda308ea0e6f684cb7c86f744af1df0205cb5e79fe97bb"), looks := false }, kinds := [], alts := [], laidByText := true, laidKinds := [.data], laidTests := true, laidLooks := .later }
def MaskChangesCardSaid : Prop := Claim7.holds Tryd.pinned (.plain (OpenSpec.ofChange maskChangesSpec)) maskChangesCard

/-- THE TIED CARD OF 'chandlerylaw02.MaskSplits'. -/
def maskSplitsCard : Claim7 := { stood := { row := maskSplitsRow, standIns := [], harness := (true, "8d5b9804108b42017bdda308ea0e6f684cb7c86f744af1df0205cb5e79fe97bb"), looks := false }, kinds := [], alts := [], laidByText := true, laidKinds := [.data], laidTests := true, laidLooks := .later }
def MaskSplitsCardSaid : Prop := Claim7.holds Tryd.pinned (.plain (OpenSpec.ofChange maskSplitsSpec)) maskSplitsCard

/-- THE TIED CARD OF 'chandlerylaw02.MaskRuns'. -/
def maskRunsCard : Claim7 := { stood := { row := maskRunsRow, standIns := [], harness := (true, "8d5b9804108b42017bdda308ea0e6f684cb7c86f744af1df0205cb5e79fe97bb"), looks := false }, kinds := [], alts := [], laidByText := true, laidKinds := [.data], laidTests := true, laidLooks := .later }
def MaskRunsCardSaid : Prop := Claim7.holds Tryd.pinned (.plain (OpenSpec.ofChange maskRunsSpec)) maskRunsCard

/-- THE TIED CARD OF 'chandlerylaw02.MaskLists'. -/
def maskListsCard : Claim7 := { stood := { row := maskListsRow, standIns := [], harness := (true, "8d5b9804108b42017bdda308ea0e6f684cb7c86f744af1df0205cb5e79fe97bb"), looks := false }, kinds := [], alts := [], laidByText := true, laidKinds := [.data], laidTests := true, laidLooks := .later }
def MaskListsCardSaid : Prop := Claim7.holds Tryd.pinned (.plain (OpenSpec.ofChange maskListsSpec)) maskListsCard

/-- THE SECOND FORM's CARD OF 'chandlerylaw01.WordFields'. -/
def wordFieldsUptoCard : Claim7 := { stood := { row := wordFieldsUptoRow, standIns := [], harness := (true, "8d5b9804108b42017bdda308ea0e6f684cb7c86f744af1df0205cb5e79fe97bb"), looks := false }, kinds := [], alts := [], laidByText := true, laidKinds := [.wider], laidTests := true, laidLooks := .later }
def WordFieldsUptoCardSaid : Prop := Claim7.holds Tryd.pinned (.plain (OpenSpec.upto wordFieldsSpec)) wordFieldsUptoCard

/-- THE SECOND FORM's CARD OF 'chandlerylaw01.WordPuts'. -/
def wordPutsUptoCard : Claim7 := { stood := { row := wordPutsUptoRow, standIns := [], harness := (true, "8d5b9804108b42017bdda308ea0e6f684cb7c86f744af1df0205cb5e79fe97bb"), looks := false }, kinds := [], alts := [], laidByText := true, laidKinds := [.wider], laidTests := true, laidLooks := .later }
def WordPutsUptoCardSaid : Prop := Claim7.holds Tryd.pinned (.plain (OpenSpec.upto wordPutsSpec)) wordPutsUptoCard

/-- THE SECOND FORM's CARD OF 'chandlerylaw01.WordApart'. -/
def wordApartUptoCard : Claim7 := { stood := { row := wordApartUptoRow, standIns := [], harness := (true, "8d5b9804108b42017bdda308ea0e6f684cb7c86f744af1df0205cb5e79fe97bb"), looks := false }, kinds := [], alts := [], laidByText := true, laidKinds := [.wider], laidTests := true, laidLooks := .later }
def WordApartUptoCardSaid : Prop := Claim7.holds Tryd.pinned (.plain (OpenSpec.upto wordApartSpec)) wordApartUptoCard

/-- THE SECOND FORM's CARD OF 'chandlerylaw01.WordRefs'. -/
def wordRefsUptoCard : Claim7 := { stood := { row := wordRefsUptoRow, standIns := [], harness := (true, "8d5b9804108b42017bdda308ea0e6f684cb7c86f744af1df0205cb5e79fe97bb"), looks := false }, kinds := [], alts := [], laidByText := true, laidKinds := [.wider], laidTests := true, laidLooks := .later }
def WordRefsUptoCardSaid : Prop := Claim7.holds Tryd.pinned (.plain (OpenSpec.upto wordRefsSpec)) wordRefsUptoCard

/-- THE SECOND FORM's CARD OF 'chandlerylaw01.WordTiles'. -/
def wordTilesUptoCard : Claim7 := { stood := { row := wordTilesUptoRow, standIns := [], harness := (true, "8d5b9804108b42017bdda308ea0e6f684cb7c86f744af1df0205cb5e79fe97bb"), looks := false }, kinds := [], alts := [], laidByText := true, laidKinds := [.wider], laidTests := true, laidLooks := .later }
def WordTilesUptoCardSaid : Prop := Claim7.holds Tryd.pinned (.plain (OpenSpec.upto wordTilesSpec)) wordTilesUptoCard

/-- THE SECOND FORM's CARD OF 'chandlerylaw01.WordSigns'. -/
def wordSignsUptoCard : Claim7 := { stood := { row := wordSignsUptoRow, standIns := [], harness := (true, "8d5b9804108b42017bdda308ea0e6f684cb7c86f744af1df0205cb5e79fe97bb"), looks := false }, kinds := [], alts := [], laidByText := true, laidKinds := [.wider], laidTests := true, laidLooks := .later }
def WordSignsUptoCardSaid : Prop := Claim7.holds Tryd.pinned (.plain (OpenSpec.upto wordSignsSpec)) wordSignsUptoCard

/-- THE SECOND FORM's CARD OF 'chandlerylaw02.MaskTells'. -/
def maskTellsUptoCard : Claim7 := { stood := { row := maskTellsUptoRow, standIns := [], harness := (true, "8d5b9804108b42017bdda308ea0e6f684cb7c86f744af1df0205cb5e79fe97bb"), looks := false }, kinds := [], alts := [], laidByText := true, laidKinds := [.data], laidTests := true, laidLooks := .later }
def MaskTellsUptoCardSaid : Prop := Claim7.holds Tryd.pinned (.plain (OpenSpec.upto maskTellsSpec)) maskTellsUptoCard

/-- THE SECOND FORM's CARD OF 'chandlerylaw02.MaskParts'. -/
def maskPartsUptoCard : Claim7 := { stood := { row := maskPartsUptoRow, standIns := [], harness := (true, "8d5b9804108b42017bdda308ea0e6f684cb7c86f744af1df0205cb5e79fe97bb"), looks := false }, kinds := [], alts := [], laidByText := true, laidKinds := [.data], laidTests := true, laidLooks := .later }
def MaskPartsUptoCardSaid : Prop := Claim7.holds Tryd.pinned (.plain (OpenSpec.upto maskPartsSpec)) maskPartsUptoCard

/-- THE SECOND FORM's CARD OF 'chandlerylaw02.MaskChanges'. -/
def maskChangesUptoCard : Claim7 := { stood := { row := maskChangesUptoRow, standIns := [], harness := (true, "8d5b9804108b42017bdda308ea0e6f684cb7c86f744af1df0205cb5e79fe97bb"), looks := false }, kinds := [], alts := [], laidByText := true, laidKinds := [.data], laidTests := true, laidLooks := .later }
def MaskChangesUptoCardSaid : Prop := Claim7.holds Tryd.pinned (.plain (OpenSpec.upto maskChangesSpec)) maskChangesUptoCard

/-- THE SECOND FORM's CARD OF 'chandlerylaw02.MaskSplits'. -/
def maskSplitsUptoCard : Claim7 := { stood := { row := maskSplitsUptoRow, standIns := [], harness := (true, "8d5b9804108b42017bdda308ea0e6f684cb7c86f744af1df0205cb5e79fe97bb"), looks := false }, kinds := [], alts := [], laidByText := true, laidKinds := [.data], laidTests := true, laidLooks := .later }
def MaskSplitsUptoCardSaid : Prop := Claim7.holds Tryd.pinned (.plain (OpenSpec.upto maskSplitsSpec)) maskSplitsUptoCard

/-- THE SECOND FORM's CARD OF 'chandlerylaw02.MaskRuns'. -/
def maskRunsUptoCard : Claim7 := { stood := { row := maskRunsUptoRow, standIns := [], harness := (true, "8d5b9804108b42017bdda308ea0e6f684cb7c86f744af1df0205cb5e79fe97bb"), looks := false }, kinds := [], alts := [], laidByText := true, laidKinds := [.data], laidTests := true, laidLooks := .later }
def MaskRunsUptoCardSaid : Prop := Claim7.holds Tryd.pinned (.plain (OpenSpec.upto maskRunsSpec)) maskRunsUptoCard

/-- THE SECOND FORM's CARD OF 'chandlerylaw02.MaskLists'. -/
def maskListsUptoCard : Claim7 := { stood := { row := maskListsUptoRow, standIns := [], harness := (true, "8d5b9804108b42017bdda308ea0e6f684cb7c86f744af1df0205cb5e79fe97bb"), looks := false }, kinds := [], alts := [], laidByText := true, laidKinds := [.data], laidTests := true, laidLooks := .later }
def MaskListsUptoCardSaid : Prop := Claim7.holds Tryd.pinned (.plain (OpenSpec.upto maskListsSpec)) maskListsUptoCard
end Rows
end Go.Proofs.YtjddbbkmaifcpaaDoor
