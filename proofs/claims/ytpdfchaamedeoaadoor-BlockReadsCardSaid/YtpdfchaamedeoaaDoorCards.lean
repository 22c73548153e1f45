/-
  DERIVED. GIVEN WITH THE SEED: THE CARDS: each row of YtpdfchaamedeoaaDoorRows.lean that lists a variable, with what it lists TIED to the program's text (the seventh form; the later family's looks); each row that meets fmt, with fmt's text TOLD by the authors' own Lean function (tested against real Go, not proved from fmt's source: count such statements apart). THE CARD IS WHAT COUNTS. Prove the row's statement (the work); the ties are given (YtpdfchaamedeoaaDoorTie.lean); close each card by the builder's one call (the guide's Derived/Test/ToyasCard.lean, 'card_holds'). Laid BY PROGRAM, IN A SANDBOX (cutbox-door.mjs). By AI agents, Wed Nov 11 2026. No macro, syntax, notation, axiom, sorry.
-/
import Derived.Test.YtpdfchaamedeoaaDoorRows
import GoSem.ClaimSeven
namespace Go.Proofs.YtpdfchaamedeoaaDoor
namespace Rows

/-- THE TIED CARD OF 'chirographlaw09.BlockMakes'. -/
def blockMakesCard : Claim7 := { stood := { row := blockMakesRow, standIns := [], harness := (true, "1b64c92eefd9c22b4c90a0488b63e05f6f5773742495d89e4b8879f43d674db9"), looks := false }, kinds := [], alts := [], laidByText := true, laidKinds := [.data, .data], laidTests := true, laidLooks := .later }
def BlockMakesCardSaid : Prop := Claim7.holds Tryd.pinned (.plain (OpenSpec.ofChange blockMakesSpec)) blockMakesCard

/-- THE TIED CARD OF 'chirographlaw09.BlockReads'. -/
def blockReadsCard : Claim7 := { stood := { row := blockReadsRow, standIns := [], harness := (true, "1b64c92eefd9c22b4c90a0488b63e05f6f5773742495d89e4b8879f43d674db9"), looks := false }, kinds := [], alts := [], laidByText := true, laidKinds := [.data, .data], laidTests := true, laidLooks := .later }
def BlockReadsCardSaid : Prop := Claim7.holds Tryd.pinned (.plain (OpenSpec.ofChange blockReadsSpec)) blockReadsCard

/-- THE TIED CARD OF 'chirographlaw09.BlockSeeks'. -/
def blockSeeksCard : Claim7 := { stood := { row := blockSeeksRow, standIns := [], harness := (true, "1b64c92eefd9c22b4c90a0488b63e05f6f5773742495d89e4b8879f43d674db9"), looks := false }, kinds := [], alts := [], laidByText := true, laidKinds := [.data, .data], laidTests := true, laidLooks := .later }
def BlockSeeksCardSaid : Prop := Claim7.holds Tryd.pinned (.plain (OpenSpec.ofChange blockSeeksSpec)) blockSeeksCard

/-- THE TIED CARD OF 'chirographlaw09.BlockBack'. -/
def blockBackCard : Claim7 := { stood := { row := blockBackRow, standIns := [], harness := (true, "1b64c92eefd9c22b4c90a0488b63e05f6f5773742495d89e4b8879f43d674db9"), looks := false }, kinds := [], alts := [], laidByText := true, laidKinds := [.data, .data], laidTests := true, laidLooks := .later }
def BlockBackCardSaid : Prop := Claim7.holds Tryd.pinned (.plain (OpenSpec.ofChange blockBackSpec)) blockBackCard

/-- THE TIED CARD OF 'chirographlaw09.BlockOne'. -/
def blockOneCard : Claim7 := { stood := { row := blockOneRow, standIns := [], harness := (true, "1b64c92eefd9c22b4c90a0488b63e05f6f5773742495d89e4b8879f43d674db9"), looks := false }, kinds := [], alts := [], laidByText := true, laidKinds := [.data, .data], laidTests := true, laidLooks := .later }
def BlockOneCardSaid : Prop := Claim7.holds Tryd.pinned (.plain (OpenSpec.ofChange blockOneSpec)) blockOneCard

/-- THE TIED CARD OF 'chirographlaw09.BlockParts'. -/
def blockPartsCard : Claim7 := { stood := { row := blockPartsRow, standIns := [], harness := (true, "1b64c92eefd9c22b4c90a0488b63e05f6f5773742495d89e4b8879f43d674db9"), looks := false }, kinds := [], alts := [], laidByText := true, laidKinds := [.data, .data], laidTests := true, laidLooks := .later }
def BlockPartsCardSaid : Prop := Claim7.holds Tryd.pinned (.plain (OpenSpec.ofChange blockPartsSpec)) blockPartsCard

/-- THE TIED CARD OF 'chirographlaw10.TableMakes'. -/
def tableMakesCard : Claim7 := { stood := { row := tableMakesRow, standIns := [], harness := (true, "1b64c92eefd9c22b4c90a0488b63e05f6f5773742495d89e4b8879f43d674db9"), looks := false }, kinds := [], alts := [], laidByText := true, laidKinds := [.data, .data], laidTests := true, laidLooks := .later }
def TableMakesCardSaid : Prop := Claim7.holds Tryd.pinned (.plain (OpenSpec.ofChange tableMakesSpec)) tableMakesCard

/-- THE TIED CARD OF 'chirographlaw10.TableBack'. -/
def tableBackCard : Claim7 := { stood := { row := tableBackRow, standIns := [], harness := (true, "1b64c92eefd9c22b4c90a0488b63e05f6f5773742495d89e4b8879f43d674db9"), looks := false }, kinds := [], alts := [], laidByText := true, laidKinds := [.data, .data], laidTests := true, laidLooks := .later }
def TableBackCardSaid : Prop := Claim7.holds Tryd.pinned (.plain (OpenSpec.ofChange tableBackSpec)) tableBackCard

/-- THE TIED CARD OF 'chirographlaw10.TableRanges'. -/
def tableRangesCard : Claim7 := { stood := { row := tableRangesRow, standIns := [], harness := (true, "1b64c92eefd9c22b4c90a0488b63e05f6f5773742495d89e4b8879f43d674db9"), looks := false }, kinds := [], alts := [], laidByText := true, laidKinds := [.data, .data], laidTests := true, laidLooks := .later }
def TableRangesCardSaid : Prop := Claim7.holds Tryd.pinned (.plain (OpenSpec.ofChange tableRangesSpec)) tableRangesCard

/-- THE TIED CARD OF 'chirographtop.ChirographBlocks'. -/
def chirographBlocksCard : Claim7 := { stood := { row := chirographBlocksRow, standIns := [], harness := (true, "1b64c92eefd9c22b4c90a0488b63e05f6f5773742495d89e4b8879f43d674db9"), looks := false }, kinds := [], alts := [], laidByText := true, laidKinds := [.data, .data], laidTests := true, laidLooks := .later }
def ChirographBlocksCardSaid : Prop := Claim7.holds Tryd.pinned (.plain (OpenSpec.ofChange chirographBlocksSpec)) chirographBlocksCard

/-- THE SECOND FORM's CARD OF 'chirographlaw09.BlockMakes'. -/
def blockMakesUptoCard : Claim7 := { stood := { row := blockMakesUptoRow, standIns := [], harness := (true, "1b64c92eefd9c22b4c90a0488b63e05f6f5773742495d89e4b8879f43d674db9"), looks := false }, kinds := [], alts := [], laidByText := true, laidKinds := [.data, .data], laidTests := true, laidLooks := .later }
def BlockMakesUptoCardSaid : Prop := Claim7.holds Tryd.pinned (.plain (OpenSpec.upto blockMakesSpec)) blockMakesUptoCard

/-- THE SECOND FORM's CARD OF 'chirographlaw09.BlockReads'. -/
def blockReadsUptoCard : Claim7 := { stood := { row := blockReadsUptoRow, standIns := [], harness := (true, "1b64c92eefd9c22b4c90a0488b63e05f6f5773742495d89e4b8879f43d674db9"), looks := false }, kinds := [], alts := [], laidByText := true, laidKinds := [.data, .data], laidTests := true, laidLooks := .later }
def BlockReadsUptoCardSaid : Prop := Claim7.holds Tryd.pinned (.plain (OpenSpec.upto blockReadsSpec)) blockReadsUptoCard

/-- THE SECOND FORM's CARD OF 'chirographlaw09.BlockSeeks'. -/
def blockSeeksUptoCard : Claim7 := { stood := { row := blockSeeksUptoRow, standIns := [], harness := (true, "1b64c92eefd9c22b4c90a0488b63e05f6f5773742495d89e4b8879f43d674db9"), looks := false }, kinds := [], alts := [], laidByText := true, laidKinds := [.data, .data], laidTests := true, laidLooks := .later }
def BlockSeeksUptoCardSaid : Prop := Claim7.holds Tryd.pinned (.plain (OpenSpec.upto blockSeeksSpec)) blockSeeksUptoCard

/-- THE SECOND FORM's CARD OF 'chirographlaw09.BlockBack'. -/
def blockBackUptoCard : Claim7 := { stood := { row := blockBackUptoRow, standIns := [], harness := (true, "1b64c92eefd9c22b4c90a0488b63e05f6f5773742495d89e4b8879f43d674db9"), looks := false }, kinds := [], alts := [], laidByText := true, laidKinds := [.data, .data], laidTests := true, laidLooks := .later }
def BlockBackUptoCardSaid : Prop := Claim7.holds Tryd.pinned (.plain (OpenSpec.upto blockBackSpec)) blockBackUptoCard

/-- THE SECOND FORM's CARD OF 'chirographlaw09.BlockOne'. -/
def blockOneUptoCard : Claim7 := { stood := { row := blockOneUptoRow, standIns := [], harness := (true, "1b64c92eefd9c22b4c90a0488b63e05f6f5773742495d89e4b8879f43d674db9"), looks := false }, kinds := [], alts := [], laidByText := true, laidKinds := [.data, .data], laidTests := true, laidLooks := .later }
def BlockOneUptoCardSaid : Prop := Claim7.holds Tryd.pinned (.plain (OpenSpec.upto blockOneSpec)) blockOneUptoCard

/-- THE SECOND FORM's CARD OF 'chirographlaw09.BlockParts'. -/
def blockPartsUptoCard : Claim7 := { stood := { row := blockPartsUptoRow, standIns := [], harness := (true, "1b64c92eefd9c22b4c90a0488b63e05f6f5773742495d89e4b8879f43d674db9"), looks := false }, kinds := [], alts := [], laidByText := true, laidKinds := [.data, .data], laidTests := true, laidLooks := .later }
def BlockPartsUptoCardSaid : Prop := Claim7.holds Tryd.pinned (.plain (OpenSpec.upto blockPartsSpec)) blockPartsUptoCard

/-- THE SECOND FORM's CARD OF 'chirographlaw10.TableMakes'. -/
def tableMakesUptoCard : Claim7 := { stood := { row := tableMakesUptoRow, standIns := [], harness := (true, "1b64c92eefd9c22b4c90a0488b63e05f6f5773742495d89e4b8879f43d674db9"), looks := false }, kinds := [], alts := [], laidByText := true, laidKinds := [.data, .data], laidTests := true, laidLooks := .later }
def TableMakesUptoCardSaid : Prop := Claim7.holds Tryd.pinned (.plain (OpenSpec.upto tableMakesSpec)) tableMakesUptoCard

/-- THE SECOND FORM's CARD OF 'chirographlaw10.TableBack'. -/
def tableBackUptoCard : Claim7 := { stood := { row := tableBackUptoRow, standIns := [], harness := (true, "1b64c92eefd9c22b4c90a0488b63e05f6f5773742495d89e4b8879f43d674db9"), looks := false }, kinds := [], alts := [], laidByText := true, laidKinds := [.data, .data], laidTests := true, laidLooks := .later }
def TableBackUptoCardSaid : Prop := Claim7.holds Tryd.pinned (.plain (OpenSpec.upto tableBackSpec)) tableBackUptoCard

/-- THE SECOND FORM's CARD OF 'chirographlaw10.TableRanges'. -/
def tableRangesUptoCard : Claim7 := { stood := { row := tableRangesUptoRow, standIns := [], harness := (true, "1b64c92eefd9c22b4c90a0488b63e05f6f5773742495d89e4b8879f43d674db9"), looks := false }, kinds := [], alts := [], laidByText := true, laidKinds := [.data, .data], laidTests := true, laidLooks := .later }
def TableRangesUptoCardSaid : Prop := Claim7.holds Tryd.pinned (.plain (OpenSpec.upto tableRangesSpec)) tableRangesUptoCard

/-- THE SECOND FORM's CARD OF 'chirographtop.ChirographBlocks'. -/
def chirographBlocksUptoCard : Claim7 := { stood := { row := chirographBlocksUptoRow, standIns := [], harness := (true, "1b64c92eefd9c22b4c90a0488b63e05f6f5773742495d89e4b8879f43d674db9"), looks := false }, kinds := [], alts := [], laidByText := true, laidKinds := [.data, .data], laidTests := true, laidLooks := .later }
def ChirographBlocksUptoCardSaid : Prop := Claim7.holds Tryd.pinned (.plain (OpenSpec.upto chirographBlocksSpec)) chirographBlocksUptoCard
end Rows
end Go.Proofs.YtpdfchaamedeoaaDoor
