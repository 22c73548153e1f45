/-
  DERIVED. GIVEN WITH THE SEED: THE CARDS: each row of YthmhjojabalddaaDoorRows.lean that lists a variable, with what it lists TIED to the program's text (the seventh form; the later family's looks); each row that meets fmt, with fmt's text TOLD by the authors' own Lean function (tested against real Go, not proved from fmt's source: count such statements apart). THE CARD IS WHAT COUNTS. Prove the row's statement (the work); the ties are given (YthmhjojabalddaaDoorTie.lean); close each card by the builder's one call (the guide's Derived/Test/ToyasCard.lean, 'card_holds'). Laid BY PROGRAM, IN A SANDBOX (cutbox-door.mjs). By AI agents, Wed Nov 11 2026. No macro, syntax, notation, axiom, sorry.
-/
import Derived.Test.YthmhjojabalddaaDoorRows
import GoSem.ClaimSeven
namespace Go.Proofs.YthmhjojabalddaaDoor
namespace Rows

/-- THE TIED CARD OF 'chirographlaw03.ShaSums'. -/
def shaSumsCard : Claim7 := { stood := { row := shaSumsRow, standIns := [], harness := (true, "a23b2deec10f857040540ee6bda8a30ef4ad45ae1d526bf1a9683bde4bb18675"), looks := false }, kinds := [], alts := [], laidByText := true, laidKinds := [.data], laidTests := true, laidLooks := .later }
def ShaSumsCardSaid : Prop := Claim7.holds Tryd.pinned (.plain (OpenSpec.ofChange shaSumsSpec)) shaSumsCard

/-- THE TIED CARD OF 'chirographlaw03.ShaMacs'. -/
def shaMacsCard : Claim7 := { stood := { row := shaMacsRow, standIns := [], harness := (true, "a23b2deec10f857040540ee6bda8a30ef4ad45ae1d526bf1a9683bde4bb18675"), looks := false }, kinds := [], alts := [], laidByText := true, laidKinds := [.data], laidTests := true, laidLooks := .later }
def ShaMacsCardSaid : Prop := Claim7.holds Tryd.pinned (.plain (OpenSpec.ofChange shaMacsSpec)) shaMacsCard

/-- THE TIED CARD OF 'chirographlaw03.ShaJoins'. -/
def shaJoinsCard : Claim7 := { stood := { row := shaJoinsRow, standIns := [], harness := (true, "a23b2deec10f857040540ee6bda8a30ef4ad45ae1d526bf1a9683bde4bb18675"), looks := false }, kinds := [], alts := [], laidByText := true, laidKinds := [.data], laidTests := true, laidLooks := .later }
def ShaJoinsCardSaid : Prop := Claim7.holds Tryd.pinned (.plain (OpenSpec.ofChange shaJoinsSpec)) shaJoinsCard

/-- THE TIED CARD OF 'chirographlaw03.ShaTables'. -/
def shaTablesCard : Claim7 := { stood := { row := shaTablesRow, standIns := [], harness := (true, "a23b2deec10f857040540ee6bda8a30ef4ad45ae1d526bf1a9683bde4bb18675"), looks := false }, kinds := [], alts := [], laidByText := true, laidKinds := [.data], laidTests := true, laidLooks := .later }
def ShaTablesCardSaid : Prop := Claim7.holds Tryd.pinned (.plain (OpenSpec.ofChange shaTablesSpec)) shaTablesCard

/-- THE TIED CARD OF 'chirographlaw03.ShaApart'. -/
def shaApartCard : Claim7 := { stood := { row := shaApartRow, standIns := [], harness := (true, "a23b2deec10f857040540ee6bda8a30ef4ad45ae1d526bf1a9683bde4bb18675"), looks := false }, kinds := [], alts := [], laidByText := true, laidKinds := [.data], laidTests := true, laidLooks := .later }
def ShaApartCardSaid : Prop := Claim7.holds Tryd.pinned (.plain (OpenSpec.ofChange shaApartSpec)) shaApartCard

/-- THE TIED CARD OF 'chirographlaw03.ShaKeys'. -/
def shaKeysCard : Claim7 := { stood := { row := shaKeysRow, standIns := [], harness := (true, "a23b2deec10f857040540ee6bda8a30ef4ad45ae1d526bf1a9683bde4bb18675"), looks := false }, kinds := [], alts := [], laidByText := true, laidKinds := [.data], laidTests := true, laidLooks := .later }
def ShaKeysCardSaid : Prop := Claim7.holds Tryd.pinned (.plain (OpenSpec.ofChange shaKeysSpec)) shaKeysCard

/-- THE TIED CARD OF 'chirographlaw04.SealOpens'. -/
def sealOpensCard : Claim7 := { stood := { row := sealOpensRow, standIns := [], harness := (true, "a23b2deec10f857040540ee6bda8a30ef4ad45ae1d526bf1a9683bde4bb18675"), looks := false }, kinds := [], alts := [], laidByText := true, laidKinds := [.data, .data], laidTests := true, laidLooks := .later }
def SealOpensCardSaid : Prop := Claim7.holds Tryd.pinned (.plain (OpenSpec.ofChange sealOpensSpec)) sealOpensCard

/-- THE TIED CARD OF 'chirographtop.ChirographSealed'. -/
def chirographSealedCard : Claim7 := { stood := { row := chirographSealedRow, standIns := [], harness := (true, "a23b2deec10f857040540ee6bda8a30ef4ad45ae1d526bf1a9683bde4bb18675"), looks := false }, kinds := [], alts := [], laidByText := true, laidKinds := [.data, .data, .data], laidTests := true, laidLooks := .later }
def ChirographSealedCardSaid : Prop := Claim7.holds Tryd.pinned (.plain (OpenSpec.ofChange chirographSealedSpec)) chirographSealedCard

/-- THE SECOND FORM's CARD OF 'chirographlaw03.ShaSums'. -/
def shaSumsUptoCard : Claim7 := { stood := { row := shaSumsUptoRow, standIns := [], harness := (true, "a23b2deec10f857040540ee6bda8a30ef4ad45ae1d526bf1a9683bde4bb18675"), looks := false }, kinds := [], alts := [], laidByText := true, laidKinds := [.data], laidTests := true, laidLooks := .later }
def ShaSumsUptoCardSaid : Prop := Claim7.holds Tryd.pinned (.plain (OpenSpec.upto shaSumsSpec)) shaSumsUptoCard

/-- THE SECOND FORM's CARD OF 'chirographlaw03.ShaMacs'. -/
def shaMacsUptoCard : Claim7 := { stood := { row := shaMacsUptoRow, standIns := [], harness := (true, "a23b2deec10f857040540ee6bda8a30ef4ad45ae1d526bf1a9683bde4bb18675"), looks := false }, kinds := [], alts := [], laidByText := true, laidKinds := [.data], laidTests := true, laidLooks := .later }
def ShaMacsUptoCardSaid : Prop := Claim7.holds Tryd.pinned (.plain (OpenSpec.upto shaMacsSpec)) shaMacsUptoCard

/-- THE SECOND FORM's CARD OF 'chirographlaw03.ShaJoins'. -/
def shaJoinsUptoCard : Claim7 := { stood := { row := shaJoinsUptoRow, standIns := [], harness := (true, "a23b2deec10f857040540ee6bda8a30ef4ad45ae1d526bf1a9683bde4bb18675"), looks := false }, kinds := [], alts := [], laidByText := true, laidKinds := [.data], laidTests := true, laidLooks := .later }
def ShaJoinsUptoCardSaid : Prop := Claim7.holds Tryd.pinned (.plain (OpenSpec.upto shaJoinsSpec)) shaJoinsUptoCard

/-- THE SECOND FORM's CARD OF 'chirographlaw03.ShaTables'. -/
def shaTablesUptoCard : Claim7 := { stood := { row := shaTablesUptoRow, standIns := [], harness := (true, "a23b2deec10f857040540ee6bda8a30ef4ad45ae1d526bf1a9683bde4bb18675"), looks := false }, kinds := [], alts := [], laidByText := true, laidKinds := [.data], laidTests := true, laidLooks := .later }
def ShaTablesUptoCardSaid : Prop := Claim7.holds Tryd.pinned (.plain (OpenSpec.upto shaTablesSpec)) shaTablesUptoCard

/-- THE SECOND FORM's CARD OF 'chirographlaw03.ShaApart'. -/
def shaApartUptoCard : Claim7 := { stood := { row := shaApartUptoRow, standIns := [], harness := (true, "a23b2deec10f857040540ee6bda8a30ef4ad45ae1d526bf1a9683bde4bb18675"), looks := false }, kinds := [], alts := [], laidByText := true, laidKinds := [.data], laidTests := true, laidLooks := .later }
def ShaApartUptoCardSaid : Prop := Claim7.holds Tryd.pinned (.plain (OpenSpec.upto shaApartSpec)) shaApartUptoCard

/-- THE SECOND FORM's CARD OF 'chirographlaw03.ShaKeys'. -/
def shaKeysUptoCard : Claim7 := { stood := { row := shaKeysUptoRow, standIns := [], harness := (true, "a23b2deec10f857040540ee6bda8a30ef4ad45ae1d526bf1a9683bde4bb18675"), looks := false }, kinds := [], alts := [], laidByText := true, laidKinds := [.data], laidTests := true, laidLooks := .later }
def ShaKeysUptoCardSaid : Prop := Claim7.holds Tryd.pinned (.plain (OpenSpec.upto shaKeysSpec)) shaKeysUptoCard

/-- THE SECOND FORM's CARD OF 'chirographlaw04.SealOpens'. -/
def sealOpensUptoCard : Claim7 := { stood := { row := sealOpensUptoRow, standIns := [], harness := (true, "a23b2deec10f857040540ee6bda8a30ef4ad45ae1d526bf1a9683bde4bb18675"), looks := false }, kinds := [], alts := [], laidByText := true, laidKinds := [.data, .data], laidTests := true, laidLooks := .later }
def SealOpensUptoCardSaid : Prop := Claim7.holds Tryd.pinned (.plain (OpenSpec.upto sealOpensSpec)) sealOpensUptoCard

/-- THE SECOND FORM's CARD OF 'chirographtop.ChirographSealed'. -/
def chirographSealedUptoCard : Claim7 := { stood := { row := chirographSealedUptoRow, standIns := [], harness := (true, "a23b2deec10f857040540ee6bda8a30ef4ad45ae1d526bf1a9683bde4bb18675"), looks := false }, kinds := [], alts := [], laidByText := true, laidKinds := [.data, .data, .data], laidTests := true, laidLooks := .later }
def ChirographSealedUptoCardSaid : Prop := Claim7.holds Tryd.pinned (.plain (OpenSpec.upto chirographSealedSpec)) chirographSealedUptoCard
end Rows
end Go.Proofs.YthmhjojabalddaaDoor
