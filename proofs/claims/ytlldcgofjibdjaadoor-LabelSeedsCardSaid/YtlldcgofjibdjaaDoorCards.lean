/-
  DERIVED. GIVEN WITH THE SEED: THE CARDS: each row of YtlldcgofjibdjaaDoorRows.lean that lists a variable, with what it lists TIED to the program's text (the seventh form; the later family's looks); each row that meets fmt, with fmt's text TOLD by the authors' own Lean function (tested against real Go, not proved from fmt's source: count such statements apart). THE CARD IS WHAT COUNTS. Prove the row's statement (the work); the ties are given (YtlldcgofjibdjaaDoorTie.lean); close each card by the builder's one call (the guide's Derived/Test/ToyasCard.lean, 'card_holds'). Laid BY PROGRAM, IN A SANDBOX (cutbox-door.mjs). By AI agents, Wed Nov 11 2026. No macro, syntax, notation, axiom, sorry.
-/
import Derived.Test.YtlldcgofjibdjaaDoorRows
import GoSem.ClaimSeven
namespace Go.Proofs.YtlldcgofjibdjaaDoor
namespace Rows

/-- THE TIED CARD OF 'chirographlaw14.LabelSeeds'. -/
def labelSeedsCard : Claim7 := { stood := { row := labelSeedsRow, standIns := [], harness := (true, "bba2b242a8b3f1ec17be32f82e6f0821e7c2fa521e7fd179ead1b333583696c9"), looks := false }, kinds := [], alts := [], laidByText := true, laidKinds := [.data], laidTests := true, laidLooks := .later }
def LabelSeedsCardSaid : Prop := Claim7.holds Tryd.pinned (.plain (OpenSpec.ofChange labelSeedsSpec)) labelSeedsCard

/-- THE TIED CARD OF 'chirographlaw14.LabelStands'. -/
def labelStandsCard : Claim7 := { stood := { row := labelStandsRow, standIns := [], harness := (true, "bba2b242a8b3f1ec17be32f82e6f0821e7c2fa521e7fd179ead1b333583696c9"), looks := false }, kinds := [], alts := [], laidByText := true, laidKinds := [.data], laidTests := true, laidLooks := .later }
def LabelStandsCardSaid : Prop := Claim7.holds Tryd.pinned (.plain (OpenSpec.ofChange labelStandsSpec)) labelStandsCard

/-- THE TIED CARD OF 'chirographlaw14.LabelApart'. -/
def labelApartCard : Claim7 := { stood := { row := labelApartRow, standIns := [], harness := (true, "bba2b242a8b3f1ec17be32f82e6f0821e7c2fa521e7fd179ead1b333583696c9"), looks := false }, kinds := [], alts := [], laidByText := true, laidKinds := [.data], laidTests := true, laidLooks := .later }
def LabelApartCardSaid : Prop := Claim7.holds Tryd.pinned (.plain (OpenSpec.ofChange labelApartSpec)) labelApartCard

/-- THE TIED CARD OF 'chirographlaw14.LabelTags'. -/
def labelTagsCard : Claim7 := { stood := { row := labelTagsRow, standIns := [], harness := (true, "bba2b242a8b3f1ec17be32f82e6f0821e7c2fa521e7fd179ead1b333583696c9"), looks := false }, kinds := [], alts := [], laidByText := true, laidKinds := [.data], laidTests := true, laidLooks := .later }
def LabelTagsCardSaid : Prop := Claim7.holds Tryd.pinned (.plain (OpenSpec.ofChange labelTagsSpec)) labelTagsCard

/-- THE SECOND FORM's CARD OF 'chirographlaw14.LabelSeeds'. -/
def labelSeedsUptoCard : Claim7 := { stood := { row := labelSeedsUptoRow, standIns := [], harness := (true, "bba2b242a8b3f1ec17be32f82e6f0821e7c2fa521e7fd179ead1b333583696c9"), looks := false }, kinds := [], alts := [], laidByText := true, laidKinds := [.data], laidTests := true, laidLooks := .later }
def LabelSeedsUptoCardSaid : Prop := Claim7.holds Tryd.pinned (.plain (OpenSpec.upto labelSeedsSpec)) labelSeedsUptoCard

/-- THE SECOND FORM's CARD OF 'chirographlaw14.LabelStands'. -/
def labelStandsUptoCard : Claim7 := { stood := { row := labelStandsUptoRow, standIns := [], harness := (true, "bba2b242a8b3f1ec17be32f82e6f0821e7c2fa521e7fd179ead1b333583696c9"), looks := false }, kinds := [], alts := [], laidByText := true, laidKinds := [.data], laidTests := true, laidLooks := .later }
def LabelStandsUptoCardSaid : Prop := Claim7.holds Tryd.pinned (.plain (OpenSpec.upto labelStandsSpec)) labelStandsUptoCard

/-- THE SECOND FORM's CARD OF 'chirographlaw14.LabelApart'. -/
def labelApartUptoCard : Claim7 := { stood := { row := labelApartUptoRow, standIns := [], harness := (true, "bba2b242a8b3f1ec17be32f82e6f0821e7c2fa521e7fd179ead1b333583696c9"), looks := false }, kinds := [], alts := [], laidByText := true, laidKinds := [.data], laidTests := true, laidLooks := .later }
def LabelApartUptoCardSaid : Prop := Claim7.holds Tryd.pinned (.plain (OpenSpec.upto labelApartSpec)) labelApartUptoCard

/-- THE SECOND FORM's CARD OF 'chirographlaw14.LabelTags'. -/
def labelTagsUptoCard : Claim7 := { stood := { row := labelTagsUptoRow, standIns := [], harness := (true, "bba2b242a8b3f1ec17be32f82e6f0821e7c2fa521e7fd179ead1b333583696c9"), looks := false }, kinds := [], alts := [], laidByText := true, laidKinds := [.data], laidTests := true, laidLooks := .later }
def LabelTagsUptoCardSaid : Prop := Claim7.holds Tryd.pinned (.plain (OpenSpec.upto labelTagsSpec)) labelTagsUptoCard
end Rows
end Go.Proofs.YtlldcgofjibdjaaDoor
