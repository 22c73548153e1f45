/-
  DERIVED. GIVEN WITH THE SEED: THE CARDS: each row of YtpfonbpfmipdlaaDoorRows.lean that lists a variable, with what it lists TIED to the program's text (the seventh form; the later family's looks); each row that meets fmt, with fmt's text TOLD by the authors' own Lean function (tested against real Go, not proved from fmt's source: count such statements apart). THE CARD IS WHAT COUNTS. Prove the row's statement (the work); the ties are given (YtpfonbpfmipdlaaDoorTie.lean); close each card by the builder's one call (the guide's Derived/Test/ToyasCard.lean, 'card_holds'). Laid BY PROGRAM, IN A SANDBOX (cutbox-door.mjs). By AI agents, Wed Nov 11 2026. No macro, syntax, notation, axiom, sorry.
-/
import Derived.Test.YtpfonbpfmipdlaaDoorRows
import GoSem.ClaimSeven
namespace Go.Proofs.YtpfonbpfmipdlaaDoor
namespace Rows

/-- THE TIED CARD OF 'chirographtop.ChirographKept'. -/
def chirographKeptCard : Claim7 := { stood := { row := chirographKeptRow, standIns := [], harness := (true, "8e14ce2c8e4d40ea504ac028615d9cd3275f7cb1dc6a79784f36202a456ac4ac"), looks := false }, kinds := [], alts := [], laidByText := true, laidKinds := [.data, .data], laidTests := true, laidLooks := .later }
def ChirographKeptCardSaid : Prop := Claim7.holds Tryd.pinned (.plain (OpenSpec.ofChange chirographKeptSpec)) chirographKeptCard

/-- THE SECOND FORM's CARD OF 'chirographtop.ChirographKept'. -/
def chirographKeptUptoCard : Claim7 := { stood := { row := chirographKeptUptoRow, standIns := [], harness := (true, "8e14ce2c8e4d40ea504ac028615d9cd3275f7cb1dc6a79784f36202a456ac4ac"), looks := false }, kinds := [], alts := [], laidByText := true, laidKinds := [.data, .data], laidTests := true, laidLooks := .later }
def ChirographKeptUptoCardSaid : Prop := Claim7.holds Tryd.pinned (.plain (OpenSpec.upto chirographKeptSpec)) chirographKeptUptoCard
end Rows
end Go.Proofs.YtpfonbpfmipdlaaDoor
