/-
  DERIVED. GIVEN WITH THE SEED: THE CARDS: each row of YtgegipijappfhaaDoorRows.lean that lists a variable, with what it lists TIED to the program's text (the seventh form; the later family's looks); each row that meets fmt, with fmt's text TOLD by the authors' own Lean function (tested against real Go, not proved from fmt's source: count such statements apart). THE CARD IS WHAT COUNTS. Prove the row's statement (the work); the ties are given (YtgegipijappfhaaDoorTie.lean); close each card by the builder's one call (the guide's Derived/Test/ToyasCard.lean, 'card_holds'). Laid BY PROGRAM, IN A SANDBOX (cutbox-door.mjs). By AI agents, Wed Nov 11 2026. No macro, syntax, notation, axiom, sorry.
-/
import Derived.Test.YtgegipijappfhaaDoorRows
import GoSem.ClaimSeven
namespace Go.Proofs.YtgegipijappfhaaDoor
namespace Rows

/-- THE TIED CARD OF 'chirographlaw10.TableMakes'. -/
def tableMakesCard : Claim7 := { stood := { row := tableMakesRow, standIns := [], harness := (true, "5be3e975c45b5d5a5b596bfe8a4b71c0bde1ba353f51c03c4e70f012d34f31d3"), looks := false }, kinds := [], alts := [], laidByText := true, laidKinds := [.data, .data], laidTests := true, laidLooks := .later }
def TableMakesCardSaid : Prop := Claim7.holds Tryd.pinned (.plain (OpenSpec.ofChange tableMakesSpec)) tableMakesCard

/-- THE TIED CARD OF 'chirographlaw10.TableBack'. -/
def tableBackCard : Claim7 := { stood := { row := tableBackRow, standIns := [], harness := (true, "5be3e975c45b5d5a5b596bfe8a4b71c0bde1ba353f51c03c4e70f012d34f31d3"), looks := false }, kinds := [], alts := [], laidByText := true, laidKinds := [.data, .data], laidTests := true, laidLooks := .later }
def TableBackCardSaid : Prop := Claim7.holds Tryd.pinned (.plain (OpenSpec.ofChange tableBackSpec)) tableBackCard

/-- THE TIED CARD OF 'chirographlaw10.TableRanges'. -/
def tableRangesCard : Claim7 := { stood := { row := tableRangesRow, standIns := [], harness := (true, "5be3e975c45b5d5a5b596bfe8a4b71c0bde1ba353f51c03c4e70f012d34f31d3"), looks := false }, kinds := [], alts := [], laidByText := true, laidKinds := [.data, .data], laidTests := true, laidLooks := .later }
def TableRangesCardSaid : Prop := Claim7.holds Tryd.pinned (.plain (OpenSpec.ofChange tableRangesSpec)) tableRangesCard

/-- THE TIED CARD OF 'chirographtop.ChirographBlocks'. -/
def chirographBlocksCard : Claim7 := { stood := { row := chirographBlocksRow, standIns := [], harness := (true, "5be3e975c45b5d5a5b596bfe8a4b71c0bde1ba353f51c03c4e70f012d34f31d3"), looks := false }, kinds := [], alts := [], laidByText := true, laidKinds := [.data, .data], laidTests := true, laidLooks := .later }
def ChirographBlocksCardSaid : Prop := Claim7.holds Tryd.pinned (.plain (OpenSpec.ofChange chirographBlocksSpec)) chirographBlocksCard

/-- THE SECOND FORM's CARD OF 'chirographlaw10.TableMakes'. -/
def tableMakesUptoCard : Claim7 := { stood := { row := tableMakesUptoRow, standIns := [], harness := (true, "5be3e975c45b5d5a5b596bfe8a4b71c0bde1ba353f51c03c4e70f012d34f31d3"), looks := false }, kinds := [], alts := [], laidByText := true, laidKinds := [.data, .data], laidTests := true, laidLooks := .later }
def TableMakesUptoCardSaid : Prop := Claim7.holds Tryd.pinned (.plain (OpenSpec.upto tableMakesSpec)) tableMakesUptoCard

/-- THE SECOND FORM's CARD OF 'chirographlaw10.TableBack'. -/
def tableBackUptoCard : Claim7 := { stood := { row := tableBackUptoRow, standIns := [], harness := (true, "5be3e975c45b5d5a5b596bfe8a4b71c0bde1ba353f51c03c4e70f012d34f31d3"), looks := false }, kinds := [], alts := [], laidByText := true, laidKinds := [.data, .data], laidTests := true, laidLooks := .later }
def TableBackUptoCardSaid : Prop := Claim7.holds Tryd.pinned (.plain (OpenSpec.upto tableBackSpec)) tableBackUptoCard

/-- THE SECOND FORM's CARD OF 'chirographlaw10.TableRanges'. -/
def tableRangesUptoCard : Claim7 := { stood := { row := tableRangesUptoRow, standIns := [], harness := (true, "5be3e975c45b5d5a5b596bfe8a4b71c0bde1ba353f51c03c4e70f012d34f31d3"), looks := false }, kinds := [], alts := [], laidByText := true, laidKinds := [.data, .data], laidTests := true, laidLooks := .later }
def TableRangesUptoCardSaid : Prop := Claim7.holds Tryd.pinned (.plain (OpenSpec.upto tableRangesSpec)) tableRangesUptoCard

/-- THE SECOND FORM's CARD OF 'chirographtop.ChirographBlocks'. -/
def chirographBlocksUptoCard : Claim7 := { stood := { row := chirographBlocksUptoRow, standIns := [], harness := (true, "5be3e975c45b5d5a5b596bfe8a4b71c0bde1ba353f51c03c4e70f012d34f31d3"), looks := false }, kinds := [], alts := [], laidByText := true, laidKinds := [.data, .data], laidTests := true, laidLooks := .later }
def ChirographBlocksUptoCardSaid : Prop := Claim7.holds Tryd.pinned (.plain (OpenSpec.upto chirographBlocksSpec)) chirographBlocksUptoCard
end Rows
end Go.Proofs.YtgegipijappfhaaDoor
