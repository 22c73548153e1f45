/-
  DERIVED. GIVEN WITH THE SEED: THE CARDS: each row of YtnffmgpnhlcakaaDoorRows.lean that lists a variable, with what it lists TIED to the program's text (the seventh form; the later family's looks); each row that meets fmt, with fmt's text TOLD by the authors' own Lean function (tested against real Go, not proved from fmt's source: count such statements apart). THE CARD IS WHAT COUNTS. Prove the row's statement (the work); the ties are given (YtnffmgpnhlcakaaDoorTie.lean); close each card by the builder's one call (the guide's Derived/Test/ToyasCard.lean, 'card_holds'). Laid BY PROGRAM, IN A SANDBOX (cutbox-door.mjs). By AI agents, Wed Nov 11 2026. No macro, syntax, notation, axiom, sorry.
-/
import Derived.Test.YtnffmgpnhlcakaaDoorRows
import GoSem.ClaimSeven
namespace Go.Proofs.YtnffmgpnhlcakaaDoor
namespace Rows

/-- THE TIED CARD OF 'chirographlaw15.NodeReads'. -/
def nodeReadsCard : Claim7 := { stood := { row := nodeReadsRow, standIns := [], harness := (true, "56882265e4f9bd939e0cc33882076bc8b3cc2c5aff06ee9b9b1cba07f4a86610"), looks := true }, kinds := [], alts := [], laidByText := true, laidKinds := [.data], laidTests := true, laidLooks := .later }
def NodeReadsCardSaid : Prop := Claim7.holds Tryd.pinned (.plain (OpenSpec.ofChange nodeReadsSpec)) nodeReadsCard

/-- THE TIED CARD OF 'chirographlaw15.NodeWrites'. -/
def nodeWritesCard : Claim7 := { stood := { row := nodeWritesRow, standIns := [], harness := (true, "56882265e4f9bd939e0cc33882076bc8b3cc2c5aff06ee9b9b1cba07f4a86610"), looks := true }, kinds := [], alts := [], laidByText := true, laidKinds := [.data], laidTests := true, laidLooks := .later }
def NodeWritesCardSaid : Prop := Claim7.holds Tryd.pinned (.plain (OpenSpec.ofChange nodeWritesSpec)) nodeWritesCard

/-- THE TIED CARD OF 'chirographlaw15.NodeBack'. -/
def nodeBackCard : Claim7 := { stood := { row := nodeBackRow, standIns := [], harness := (true, "56882265e4f9bd939e0cc33882076bc8b3cc2c5aff06ee9b9b1cba07f4a86610"), looks := true }, kinds := [], alts := [], laidByText := true, laidKinds := [.data], laidTests := true, laidLooks := .later }
def NodeBackCardSaid : Prop := Claim7.holds Tryd.pinned (.plain (OpenSpec.ofChange nodeBackSpec)) nodeBackCard

/-- THE TIED CARD OF 'chirographlaw15.NodeOne'. -/
def nodeOneCard : Claim7 := { stood := { row := nodeOneRow, standIns := [], harness := (true, "56882265e4f9bd939e0cc33882076bc8b3cc2c5aff06ee9b9b1cba07f4a86610"), looks := true }, kinds := [], alts := [], laidByText := true, laidKinds := [.data], laidTests := true, laidLooks := .later }
def NodeOneCardSaid : Prop := Claim7.holds Tryd.pinned (.plain (OpenSpec.ofChange nodeOneSpec)) nodeOneCard

/-- THE TIED CARD OF 'chirographlaw15.NodeApart'. -/
def nodeApartCard : Claim7 := { stood := { row := nodeApartRow, standIns := [], harness := (true, "56882265e4f9bd939e0cc33882076bc8b3cc2c5aff06ee9b9b1cba07f4a86610"), looks := true }, kinds := [], alts := [], laidByText := true, laidKinds := [.data], laidTests := true, laidLooks := .later }
def NodeApartCardSaid : Prop := Claim7.holds Tryd.pinned (.plain (OpenSpec.ofChange nodeApartSpec)) nodeApartCard

/-- THE SECOND FORM's CARD OF 'chirographlaw15.NodeReads'. -/
def nodeReadsUptoCard : Claim7 := { stood := { row := nodeReadsUptoRow, standIns := [], harness := (true, "56882265e4f9bd939e0cc33882076bc8b3cc2c5aff06ee9b9b1cba07f4a86610"), looks := true }, kinds := [], alts := [], laidByText := true, laidKinds := [.data], laidTests := true, laidLooks := .later }
def NodeReadsUptoCardSaid : Prop := Claim7.holds Tryd.pinned (.plain (OpenSpec.upto nodeReadsSpec)) nodeReadsUptoCard

/-- THE SECOND FORM's CARD OF 'chirographlaw15.NodeWrites'. -/
def nodeWritesUptoCard : Claim7 := { stood := { row := nodeWritesUptoRow, standIns := [], harness := (true, "56882265e4f9bd939e0cc33882076bc8b3cc2c5aff06ee9b9b1cba07f4a86610"), looks := true }, kinds := [], alts := [], laidByText := true, laidKinds := [.data], laidTests := true, laidLooks := .later }
def NodeWritesUptoCardSaid : Prop := Claim7.holds Tryd.pinned (.plain (OpenSpec.upto nodeWritesSpec)) nodeWritesUptoCard

/-- THE SECOND FORM's CARD OF 'chirographlaw15.NodeBack'. -/
def nodeBackUptoCard : Claim7 := { stood := { row := nodeBackUptoRow, standIns := [], harness := (true, "56882265e4f9bd939e0cc33882076bc8b3cc2c5aff06ee9b9b1cba07f4a86610"), looks := true }, kinds := [], alts := [], laidByText := true, laidKinds := [.data], laidTests := true, laidLooks := .later }
def NodeBackUptoCardSaid : Prop := Claim7.holds Tryd.pinned (.plain (OpenSpec.upto nodeBackSpec)) nodeBackUptoCard

/-- THE SECOND FORM's CARD OF 'chirographlaw15.NodeOne'. -/
def nodeOneUptoCard : Claim7 := { stood := { row := nodeOneUptoRow, standIns := [], harness := (true, "56882265e4f9bd939e0cc33882076bc8b3cc2c5aff06ee9b9b1cba07f4a86610"), looks := true }, kinds := [], alts := [], laidByText := true, laidKinds := [.data], laidTests := true, laidLooks := .later }
def NodeOneUptoCardSaid : Prop := Claim7.holds Tryd.pinned (.plain (OpenSpec.upto nodeOneSpec)) nodeOneUptoCard

/-- THE SECOND FORM's CARD OF 'chirographlaw15.NodeApart'. -/
def nodeApartUptoCard : Claim7 := { stood := { row := nodeApartUptoRow, standIns := [], harness := (true, "56882265e4f9bd939e0cc33882076bc8b3cc2c5aff06ee9b9b1cba07f4a86610"), looks := true }, kinds := [], alts := [], laidByText := true, laidKinds := [.data], laidTests := true, laidLooks := .later }
def NodeApartUptoCardSaid : Prop := Claim7.holds Tryd.pinned (.plain (OpenSpec.upto nodeApartSpec)) nodeApartUptoCard
end Rows
end Go.Proofs.YtnffmgpnhlcakaaDoor
