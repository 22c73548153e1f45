/-
  DERIVED. GIVEN WITH THE SEED: THE CARDS: each row of YtppgmphojklaeaaGreatDoorRows.lean that lists a variable, with what it lists TIED to the program's text (the seventh form; the later family's looks); each row that meets fmt, with fmt's text TOLD by the authors' own Lean function (tested against real Go, not proved from fmt's source: count such statements apart). THE CARD IS WHAT COUNTS. Prove the row's statement (the work); the ties are given (YtppgmphojklaeaaGreatDoorTie.lean); close each card by the builder's one call (the guide's Derived/Test/ToyasCard.lean, 'card_holds'). Laid BY PROGRAM, IN A SANDBOX (cutbox-door.mjs). By AI agents, Wed Nov 11 2026. No macro, syntax, notation, axiom, sorry.
-/
import Derived.Test.YtppgmphojklaeaaGreatDoorRows
import GoSem.ClaimSeven
namespace Go.Proofs.YtppgmphojklaeaaGreatDoor
namespace Rows

/-- THE TIED CARD OF 'chirographlaw16.PatchTops'. -/
def patchTopsCard : Claim7 := { stood := { row := patchTopsRow, standIns := [], harness := (true, "6985f8ab8660a1158ac811f80c8c61421828ae65658c2b82e03257324b46a8a6"), looks := true }, kinds := [], alts := [], laidByText := true, laidKinds := [.data], laidTests := true, laidLooks := .later }
def PatchTopsCardSaid : Prop := Claim7.holds Tryz.pinned (.plain (OpenSpec.ofChange patchTopsSpec)) patchTopsCard

/-- THE TIED CARD OF 'chirographlaw16.PatchParts'. -/
def patchPartsCard : Claim7 := { stood := { row := patchPartsRow, standIns := [], harness := (true, "6985f8ab8660a1158ac811f80c8c61421828ae65658c2b82e03257324b46a8a6"), looks := true }, kinds := [], alts := [], laidByText := true, laidKinds := [.data], laidTests := true, laidLooks := .later }
def PatchPartsCardSaid : Prop := Claim7.holds Tryz.pinned (.plain (OpenSpec.ofChange patchPartsSpec)) patchPartsCard

/-- THE TIED CARD OF 'chirographlaw16.PatchLess'. -/
def patchLessCard : Claim7 := { stood := { row := patchLessRow, standIns := [], harness := (true, "6985f8ab8660a1158ac811f80c8c61421828ae65658c2b82e03257324b46a8a6"), looks := true }, kinds := [], alts := [], laidByText := true, laidKinds := [.data], laidTests := true, laidLooks := .later }
def PatchLessCardSaid : Prop := Claim7.holds Tryz.pinned (.plain (OpenSpec.ofChange patchLessSpec)) patchLessCard

/-- THE TIED CARD OF 'chirographlaw18.ProofMakes'. -/
def proofMakesCard : Claim7 := { stood := { row := proofMakesRow, standIns := [], harness := (true, "6985f8ab8660a1158ac811f80c8c61421828ae65658c2b82e03257324b46a8a6"), looks := true }, kinds := [], alts := [], laidByText := true, laidKinds := [.data], laidTests := true, laidLooks := .later }
def ProofMakesCardSaid : Prop := Claim7.holds Tryz.pinned (.plain (OpenSpec.ofChange proofMakesSpec)) proofMakesCard

/-- THE TIED CARD OF 'chirographlaw18.ProofChecks'. -/
def proofChecksCard : Claim7 := { stood := { row := proofChecksRow, standIns := [], harness := (true, "6985f8ab8660a1158ac811f80c8c61421828ae65658c2b82e03257324b46a8a6"), looks := true }, kinds := [], alts := [], laidByText := true, laidKinds := [.data], laidTests := true, laidLooks := .later }
def ProofChecksCardSaid : Prop := Claim7.holds Tryz.pinned (.plain (OpenSpec.ofChange proofChecksSpec)) proofChecksCard

/-- THE TIED CARD OF 'chirographlaw18.ProofReads'. -/
def proofReadsCard : Claim7 := { stood := { row := proofReadsRow, standIns := [], harness := (true, "6985f8ab8660a1158ac811f80c8c61421828ae65658c2b82e03257324b46a8a6"), looks := true }, kinds := [], alts := [], laidByText := true, laidKinds := [.data], laidTests := true, laidLooks := .later }
def ProofReadsCardSaid : Prop := Claim7.holds Tryz.pinned (.plain (OpenSpec.ofChange proofReadsSpec)) proofReadsCard

/-- THE TIED CARD OF 'chirographlaw18.ProofSure'. -/
def proofSureCard : Claim7 := { stood := { row := proofSureRow, standIns := [], harness := (true, "6985f8ab8660a1158ac811f80c8c61421828ae65658c2b82e03257324b46a8a6"), looks := true }, kinds := [], alts := [], laidByText := true, laidKinds := [.data], laidTests := true, laidLooks := .later }
def ProofSureCardSaid : Prop := Claim7.holds Tryz.pinned (.plain (OpenSpec.ofChange proofSureSpec)) proofSureCard

/-- THE TIED CARD OF 'chirographlaw18.ProofBack'. -/
def proofBackCard : Claim7 := { stood := { row := proofBackRow, standIns := [], harness := (true, "6985f8ab8660a1158ac811f80c8c61421828ae65658c2b82e03257324b46a8a6"), looks := true }, kinds := [], alts := [], laidByText := true, laidKinds := [.data], laidTests := true, laidLooks := .later }
def ProofBackCardSaid : Prop := Claim7.holds Tryz.pinned (.plain (OpenSpec.ofChange proofBackSpec)) proofBackCard

/-- THE SECOND FORM's CARD OF 'chirographlaw16.PatchTops'. -/
def patchTopsUptoCard : Claim7 := { stood := { row := patchTopsUptoRow, standIns := [], harness := (true, "6985f8ab8660a1158ac811f80c8c61421828ae65658c2b82e03257324b46a8a6"), looks := true }, kinds := [], alts := [], laidByText := true, laidKinds := [.data], laidTests := true, laidLooks := .later }
def PatchTopsUptoCardSaid : Prop := Claim7.holds Tryz.pinned (.plain (OpenSpec.upto patchTopsSpec)) patchTopsUptoCard

/-- THE SECOND FORM's CARD OF 'chirographlaw16.PatchParts'. -/
def patchPartsUptoCard : Claim7 := { stood := { row := patchPartsUptoRow, standIns := [], harness := (true, "6985f8ab8660a1158ac811f80c8c61421828ae65658c2b82e03257324b46a8a6"), looks := true }, kinds := [], alts := [], laidByText := true, laidKinds := [.data], laidTests := true, laidLooks := .later }
def PatchPartsUptoCardSaid : Prop := Claim7.holds Tryz.pinned (.plain (OpenSpec.upto patchPartsSpec)) patchPartsUptoCard

/-- THE SECOND FORM's CARD OF 'chirographlaw16.PatchLess'. -/
def patchLessUptoCard : Claim7 := { stood := { row := patchLessUptoRow, standIns := [], harness := (true, "6985f8ab8660a1158ac811f80c8c61421828ae65658c2b82e03257324b46a8a6"), looks := true }, kinds := [], alts := [], laidByText := true, laidKinds := [.data], laidTests := true, laidLooks := .later }
def PatchLessUptoCardSaid : Prop := Claim7.holds Tryz.pinned (.plain (OpenSpec.upto patchLessSpec)) patchLessUptoCard

/-- THE SECOND FORM's CARD OF 'chirographlaw18.ProofMakes'. -/
def proofMakesUptoCard : Claim7 := { stood := { row := proofMakesUptoRow, standIns := [], harness := (true, "6985f8ab8660a1158ac811f80c8c61421828ae65658c2b82e03257324b46a8a6"), looks := true }, kinds := [], alts := [], laidByText := true, laidKinds := [.data], laidTests := true, laidLooks := .later }
def ProofMakesUptoCardSaid : Prop := Claim7.holds Tryz.pinned (.plain (OpenSpec.upto proofMakesSpec)) proofMakesUptoCard

/-- THE SECOND FORM's CARD OF 'chirographlaw18.ProofChecks'. -/
def proofChecksUptoCard : Claim7 := { stood := { row := proofChecksUptoRow, standIns := [], harness := (true, "6985f8ab8660a1158ac811f80c8c61421828ae65658c2b82e03257324b46a8a6"), looks := true }, kinds := [], alts := [], laidByText := true, laidKinds := [.data], laidTests := true, laidLooks := .later }
def ProofChecksUptoCardSaid : Prop := Claim7.holds Tryz.pinned (.plain (OpenSpec.upto proofChecksSpec)) proofChecksUptoCard

/-- THE SECOND FORM's CARD OF 'chirographlaw18.ProofReads'. -/
def proofReadsUptoCard : Claim7 := { stood := { row := proofReadsUptoRow, standIns := [], harness := (true, "6985f8ab8660a1158ac811f80c8c61421828ae65658c2b82e03257324b46a8a6"), looks := true }, kinds := [], alts := [], laidByText := true, laidKinds := [.data], laidTests := true, laidLooks := .later }
def ProofReadsUptoCardSaid : Prop := Claim7.holds Tryz.pinned (.plain (OpenSpec.upto proofReadsSpec)) proofReadsUptoCard

/-- THE SECOND FORM's CARD OF 'chirographlaw18.ProofSure'. -/
def proofSureUptoCard : Claim7 := { stood := { row := proofSureUptoRow, standIns := [], harness := (true, "6985f8ab8660a1158ac811f80c8c61421828ae65658c2b82e03257324b46a8a6"), looks := true }, kinds := [], alts := [], laidByText := true, laidKinds := [.data], laidTests := true, laidLooks := .later }
def ProofSureUptoCardSaid : Prop := Claim7.holds Tryz.pinned (.plain (OpenSpec.upto proofSureSpec)) proofSureUptoCard

/-- THE SECOND FORM's CARD OF 'chirographlaw18.ProofBack'. -/
def proofBackUptoCard : Claim7 := { stood := { row := proofBackUptoRow, standIns := [], harness := (true, "6985f8ab8660a1158ac811f80c8c61421828ae65658c2b82e03257324b46a8a6"), looks := true }, kinds := [], alts := [], laidByText := true, laidKinds := [.data], laidTests := true, laidLooks := .later }
def ProofBackUptoCardSaid : Prop := Claim7.holds Tryz.pinned (.plain (OpenSpec.upto proofBackSpec)) proofBackUptoCard
end Rows
end Go.Proofs.YtppgmphojklaeaaGreatDoor
