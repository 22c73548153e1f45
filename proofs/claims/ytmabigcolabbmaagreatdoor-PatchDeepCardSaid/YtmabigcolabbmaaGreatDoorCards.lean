/-
  DERIVED. GIVEN WITH THE SEED: THE CARDS: each row of YtmabigcolabbmaaGreatDoorRows.lean that lists a variable, with what it lists TIED to the program's text (the seventh form; the later family's looks); each row that meets fmt, with fmt's text TOLD by the authors' own Lean function (tested against real Go, not proved from fmt's source: count such statements apart). THE CARD IS WHAT COUNTS. Prove the row's statement (the work); the ties are given (YtmabigcolabbmaaGreatDoorTie.lean); close each card by the builder's one call (the guide's Derived/Test/ToyasCard.lean, 'card_holds'). Laid BY PROGRAM, IN A SANDBOX (cutbox-door.mjs). By AI agents, Wed Nov 11 2026. No macro, syntax, notation, axiom, sorry.
-/
import Derived.Test.YtmabigcolabbmaaGreatDoorRows
import GoSem.ClaimSeven
namespace Go.Proofs.YtmabigcolabbmaaGreatDoor
namespace Rows

/-- THE TIED CARD OF 'chirographlaw16.PatchTops'. -/
def patchTopsCard : Claim7 := { stood := { row := patchTopsRow, standIns := [], harness := (true, "8e87e557e9e6afc95e876d3b77ba09197b9c6046b49dc1a35f9e7c4ab6284f4e"), looks := true }, kinds := [], alts := [], laidByText := true, laidKinds := [.data], laidTests := true, laidLooks := .later }
def PatchTopsCardSaid : Prop := Claim7.holds Tryz.pinned (.plain (OpenSpec.ofChange patchTopsSpec)) patchTopsCard

/-- THE TIED CARD OF 'chirographlaw16.PatchCovers'. -/
def patchCoversCard : Claim7 := { stood := { row := patchCoversRow, standIns := [], harness := (true, "8e87e557e9e6afc95e876d3b77ba09197b9c6046b49dc1a35f9e7c4ab6284f4e"), looks := true }, kinds := [], alts := [], laidByText := true, laidKinds := [.data], laidTests := true, laidLooks := .later }
def PatchCoversCardSaid : Prop := Claim7.holds Tryz.pinned (.plain (OpenSpec.ofChange patchCoversSpec)) patchCoversCard

/-- THE TIED CARD OF 'chirographlaw16.PatchParts'. -/
def patchPartsCard : Claim7 := { stood := { row := patchPartsRow, standIns := [], harness := (true, "8e87e557e9e6afc95e876d3b77ba09197b9c6046b49dc1a35f9e7c4ab6284f4e"), looks := true }, kinds := [], alts := [], laidByText := true, laidKinds := [.data], laidTests := true, laidLooks := .later }
def PatchPartsCardSaid : Prop := Claim7.holds Tryz.pinned (.plain (OpenSpec.ofChange patchPartsSpec)) patchPartsCard

/-- THE TIED CARD OF 'chirographlaw16.PatchOrder'. -/
def patchOrderCard : Claim7 := { stood := { row := patchOrderRow, standIns := [], harness := (true, "8e87e557e9e6afc95e876d3b77ba09197b9c6046b49dc1a35f9e7c4ab6284f4e"), looks := true }, kinds := [], alts := [], laidByText := true, laidKinds := [.data], laidTests := true, laidLooks := .later }
def PatchOrderCardSaid : Prop := Claim7.holds Tryz.pinned (.plain (OpenSpec.ofChange patchOrderSpec)) patchOrderCard

/-- THE TIED CARD OF 'chirographlaw16.PatchDeep'. -/
def patchDeepCard : Claim7 := { stood := { row := patchDeepRow, standIns := [], harness := (true, "8e87e557e9e6afc95e876d3b77ba09197b9c6046b49dc1a35f9e7c4ab6284f4e"), looks := true }, kinds := [], alts := [], laidByText := true, laidKinds := [.data], laidTests := true, laidLooks := .later }
def PatchDeepCardSaid : Prop := Claim7.holds Tryz.pinned (.plain (OpenSpec.ofChange patchDeepSpec)) patchDeepCard

/-- THE TIED CARD OF 'chirographlaw16.PatchLess'. -/
def patchLessCard : Claim7 := { stood := { row := patchLessRow, standIns := [], harness := (true, "8e87e557e9e6afc95e876d3b77ba09197b9c6046b49dc1a35f9e7c4ab6284f4e"), looks := true }, kinds := [], alts := [], laidByText := true, laidKinds := [.data], laidTests := true, laidLooks := .later }
def PatchLessCardSaid : Prop := Claim7.holds Tryz.pinned (.plain (OpenSpec.ofChange patchLessSpec)) patchLessCard

/-- THE SECOND FORM's CARD OF 'chirographlaw16.PatchTops'. -/
def patchTopsUptoCard : Claim7 := { stood := { row := patchTopsUptoRow, standIns := [], harness := (true, "8e87e557e9e6afc95e876d3b77ba09197b9c6046b49dc1a35f9e7c4ab6284f4e"), looks := true }, kinds := [], alts := [], laidByText := true, laidKinds := [.data], laidTests := true, laidLooks := .later }
def PatchTopsUptoCardSaid : Prop := Claim7.holds Tryz.pinned (.plain (OpenSpec.upto patchTopsSpec)) patchTopsUptoCard

/-- THE SECOND FORM's CARD OF 'chirographlaw16.PatchCovers'. -/
def patchCoversUptoCard : Claim7 := { stood := { row := patchCoversUptoRow, standIns := [], harness := (true, "8e87e557e9e6afc95e876d3b77ba09197b9c6046b49dc1a35f9e7c4ab6284f4e"), looks := true }, kinds := [], alts := [], laidByText := true, laidKinds := [.data], laidTests := true, laidLooks := .later }
def PatchCoversUptoCardSaid : Prop := Claim7.holds Tryz.pinned (.plain (OpenSpec.upto patchCoversSpec)) patchCoversUptoCard

/-- THE SECOND FORM's CARD OF 'chirographlaw16.PatchParts'. -/
def patchPartsUptoCard : Claim7 := { stood := { row := patchPartsUptoRow, standIns := [], harness := (true, "8e87e557e9e6afc95e876d3b77ba09197b9c6046b49dc1a35f9e7c4ab6284f4e"), looks := true }, kinds := [], alts := [], laidByText := true, laidKinds := [.data], laidTests := true, laidLooks := .later }
def PatchPartsUptoCardSaid : Prop := Claim7.holds Tryz.pinned (.plain (OpenSpec.upto patchPartsSpec)) patchPartsUptoCard

/-- THE SECOND FORM's CARD OF 'chirographlaw16.PatchOrder'. -/
def patchOrderUptoCard : Claim7 := { stood := { row := patchOrderUptoRow, standIns := [], harness := (true, "8e87e557e9e6afc95e876d3b77ba09197b9c6046b49dc1a35f9e7c4ab6284f4e"), looks := true }, kinds := [], alts := [], laidByText := true, laidKinds := [.data], laidTests := true, laidLooks := .later }
def PatchOrderUptoCardSaid : Prop := Claim7.holds Tryz.pinned (.plain (OpenSpec.upto patchOrderSpec)) patchOrderUptoCard

/-- THE SECOND FORM's CARD OF 'chirographlaw16.PatchDeep'. -/
def patchDeepUptoCard : Claim7 := { stood := { row := patchDeepUptoRow, standIns := [], harness := (true, "8e87e557e9e6afc95e876d3b77ba09197b9c6046b49dc1a35f9e7c4ab6284f4e"), looks := true }, kinds := [], alts := [], laidByText := true, laidKinds := [.data], laidTests := true, laidLooks := .later }
def PatchDeepUptoCardSaid : Prop := Claim7.holds Tryz.pinned (.plain (OpenSpec.upto patchDeepSpec)) patchDeepUptoCard

/-- THE SECOND FORM's CARD OF 'chirographlaw16.PatchLess'. -/
def patchLessUptoCard : Claim7 := { stood := { row := patchLessUptoRow, standIns := [], harness := (true, "8e87e557e9e6afc95e876d3b77ba09197b9c6046b49dc1a35f9e7c4ab6284f4e"), looks := true }, kinds := [], alts := [], laidByText := true, laidKinds := [.data], laidTests := true, laidLooks := .later }
def PatchLessUptoCardSaid : Prop := Claim7.holds Tryz.pinned (.plain (OpenSpec.upto patchLessSpec)) patchLessUptoCard
end Rows
end Go.Proofs.YtmabigcolabbmaaGreatDoor
