/-
  NARROWER THAN 'FOR EVERY INPUT', by the rows' own cells (each row's printed sentence says how): TableMakes: laid · TableBack: laid · TableRanges: laid · ChirographBlocks: laid.
  DERIVED. THE GIVEN ROWS OF THIS SEAT. 4 by the template 'for every input the law returns true; each argument reads behind the call as it read before'; 0 by the template 'total and deterministic' (their statements: YtgegipijappfhaaDoorTotals.lean).
  GIVEN WITH THE SEED: the statements are not yours to turn. If you find one false, say at which input.
  Laid BY PROGRAM, IN A SANDBOX (cutbox-rows.mjs): the forced cells as the released guide's own fill.sh prints them over the translation 167df07d52d8abab… (all of the seat's roots in one cut). By AI agents, Wed Nov 11 2026. No macro, syntax, notation, axiom, sorry.
-/
import Derived.Test.YtgegipijappfhaaDoorChecked
import GoSem.Claim
import GoSem.ClaimJoined
import GoSem.ClaimMapViews
import Derived.JoinedTies
import Derived.KernelRfl
namespace Go.Proofs.YtgegipijappfhaaDoor
/- THE CELL 'sum', in the pinned program and in every row, IS THE sha256 OF THE DUMP (.gsa) THAT YtgegipijappfhaaDoorProg.lean LOADS. Nothing in Lean hashes anything: it is a label: what it is worth is what the hold of that sum in a sandbox is worth. -/
noncomputable def Tryd.pinned : Pinned := { name := "ytgegipijappfhaadoor", sum := "167df07d52d8ababf502a91cf26dc25f027a822227fd6f6057a95bf6ad3b2f4e", checked := Tryd.checked }
namespace Rows
def none {H : Type} : Left H := { results := [], args := [] }

/- WHAT THE LISTED PACKAGE-LEVEL VARIABLES READ AS WHEN THE CALL BEGINS. Each datum BY PROGRAM (the guide's laid-datum.mjs) off the statement by which the dump's own 'gosem.cut.vars' lays the variable. In a bare row this is a premise. The card (YtgegipijappfhaaDoorCards.lean) ties it to the program's text. -/
def laid_chirograph_seal_low {H : Type} : DataW H := .agg [.lit (.int .u32 0), .lit (.int .u32 1996959894), .lit (.int .u32 3993919788), .lit (.int .u32 2567524794), .lit (.int .u32 124634137), .lit (.int .u32 1886057615), .lit (.int .u32 3915621685), .lit (.int .u32 2657392035), .lit (.int .u32 249268274), .lit (.int .u32 2044508324), .lit (.int .u32 3772115230), .lit (.int .u32 2547177864), .lit (.int .u32 162941995), .lit (.int .u32 2125561021), .lit (.int .u32 3887607047), .lit (.int .u32 2428444049)]
def laid_chirograph_seal_high {H : Type} : DataW H := .agg [.lit (.int .u32 0), .lit (.int .u32 498536548), .lit (.int .u32 997073096), .lit (.int .u32 651767980), .lit (.int .u32 1994146192), .lit (.int .u32 1802195444), .lit (.int .u32 1303535960), .lit (.int .u32 1342533948), .lit (.int .u32 3988292384), .lit (.int .u32 4027552580), .lit (.int .u32 3604390888), .lit (.int .u32 3412177804), .lit (.int .u32 2607071920), .lit (.int .u32 2262029012), .lit (.int .u32 2685067896), .lit (.int .u32 3183342108)]

/-- 'chirographlaw10.TableMakes': WHATEVER THE INPUT: true; the input reads as it did. -/
def tableMakesSpec : ChangeSpec := { name := "tableMakes", fn := fun _ => fun
  | [d1, d2] => { results := [.lit (.bool true)], args := [d1, d2] }
  | _ => none }
def tableMakesRow : OpenClaim := { program := "ytgegipijappfhaadoor", sum := "167df07d52d8ababf502a91cf26dc25f027a822227fd6f6057a95bf6ad3b2f4e", func := "chirograph/chirographlaw10.TableMakes", spec := "tableMakes", inPlace := ["internal/abi.NoEscape"], unfollowed := true, recurses := true, named := ["chirograph/seal.low", "chirograph/seal.high"], apart := false, laid := [("chirograph/seal.low", laid_chirograph_seal_low), ("chirograph/seal.high", laid_chirograph_seal_high)] }
def TableMakesSaid : Prop := tableMakesRow.holds Tryd.pinned (OpenSpec.ofChange tableMakesSpec)

/-- ITS FALSE NEIGHBOUR: 'it returns false'. Refute it at one input. -/
def tableMakesWrong : ChangeSpec := { name := "tableMakes", fn := fun _ => fun
  | [d1, d2] => { results := [.lit (.bool false)], args := [d1, d2] }
  | _ => none }
def TableMakesWrongFalsely : Prop := tableMakesRow.holds Tryd.pinned (OpenSpec.ofChange tableMakesWrong)

/-- 'chirographlaw10.TableBack': WHATEVER THE INPUT: true; the input reads as it did. -/
def tableBackSpec : ChangeSpec := { name := "tableBack", fn := fun _ => fun
  | [d1, d2, d3] => { results := [.lit (.bool true)], args := [d1, d2, d3] }
  | _ => none }
def tableBackRow : OpenClaim := { program := "ytgegipijappfhaadoor", sum := "167df07d52d8ababf502a91cf26dc25f027a822227fd6f6057a95bf6ad3b2f4e", func := "chirograph/chirographlaw10.TableBack", spec := "tableBack", inPlace := ["internal/abi.NoEscape"], unfollowed := true, recurses := true, named := ["chirograph/seal.low", "chirograph/seal.high"], apart := false, laid := [("chirograph/seal.low", laid_chirograph_seal_low), ("chirograph/seal.high", laid_chirograph_seal_high)] }
def TableBackSaid : Prop := tableBackRow.holds Tryd.pinned (OpenSpec.ofChange tableBackSpec)

/-- ITS FALSE NEIGHBOUR: 'it returns false'. Refute it at one input. -/
def tableBackWrong : ChangeSpec := { name := "tableBack", fn := fun _ => fun
  | [d1, d2, d3] => { results := [.lit (.bool false)], args := [d1, d2, d3] }
  | _ => none }
def TableBackWrongFalsely : Prop := tableBackRow.holds Tryd.pinned (OpenSpec.ofChange tableBackWrong)

/-- 'chirographlaw10.TableRanges': WHATEVER THE INPUT: true; the input reads as it did. -/
def tableRangesSpec : ChangeSpec := { name := "tableRanges", fn := fun _ => fun
  | [d1, d2, d3, d4, d5] => { results := [.lit (.bool true)], args := [d1, d2, d3, d4, d5] }
  | _ => none }
def tableRangesRow : OpenClaim := { program := "ytgegipijappfhaadoor", sum := "167df07d52d8ababf502a91cf26dc25f027a822227fd6f6057a95bf6ad3b2f4e", func := "chirograph/chirographlaw10.TableRanges", spec := "tableRanges", inPlace := ["internal/abi.NoEscape"], unfollowed := true, recurses := true, named := ["chirograph/seal.low", "chirograph/seal.high"], apart := false, laid := [("chirograph/seal.low", laid_chirograph_seal_low), ("chirograph/seal.high", laid_chirograph_seal_high)] }
def TableRangesSaid : Prop := tableRangesRow.holds Tryd.pinned (OpenSpec.ofChange tableRangesSpec)

/-- ITS FALSE NEIGHBOUR: 'it returns false'. Refute it at one input. -/
def tableRangesWrong : ChangeSpec := { name := "tableRanges", fn := fun _ => fun
  | [d1, d2, d3, d4, d5] => { results := [.lit (.bool false)], args := [d1, d2, d3, d4, d5] }
  | _ => none }
def TableRangesWrongFalsely : Prop := tableRangesRow.holds Tryd.pinned (OpenSpec.ofChange tableRangesWrong)

/-- 'chirographtop.ChirographBlocks': WHATEVER THE INPUT: true; the input reads as it did. -/
def chirographBlocksSpec : ChangeSpec := { name := "chirographBlocks", fn := fun _ => fun
  | [d1, d2] => { results := [.lit (.bool true)], args := [d1, d2] }
  | _ => none }
def chirographBlocksRow : OpenClaim := { program := "ytgegipijappfhaadoor", sum := "167df07d52d8ababf502a91cf26dc25f027a822227fd6f6057a95bf6ad3b2f4e", func := "chirograph/chirographtop.ChirographBlocks", spec := "chirographBlocks", inPlace := ["internal/abi.NoEscape"], unfollowed := true, recurses := true, named := ["chirograph/seal.low", "chirograph/seal.high"], apart := false, laid := [("chirograph/seal.low", laid_chirograph_seal_low), ("chirograph/seal.high", laid_chirograph_seal_high)] }
def ChirographBlocksSaid : Prop := chirographBlocksRow.holds Tryd.pinned (OpenSpec.ofChange chirographBlocksSpec)

/-- ITS FALSE NEIGHBOUR: 'it returns false'. Refute it at one input. -/
def chirographBlocksWrong : ChangeSpec := { name := "chirographBlocks", fn := fun _ => fun
  | [d1, d2] => { results := [.lit (.bool false)], args := [d1, d2] }
  | _ => none }
def ChirographBlocksWrongFalsely : Prop := chirographBlocksRow.holds Tryd.pinned (OpenSpec.ofChange chirographBlocksWrong)

/- THE SECOND FORM. 'bulk': how many values and letters a reading holds, each counted each time it is reached (what is shared counts as often as it is met; a slice's spare places count too). A statement '..UptoSaid' is the law's where the arguments, and the package variables that the reading takes, are together of bulk at most 1048576: NARROWER than '..Said'. Prove '..Said' where nothing that the law and all that it calls make is longer than what came in: it says more and counts as full. Else prove '..UptoSaid'. A law counts once. -/
mutual
def uptoBulk {H : Type} : DataW H → Nat
  | .lit (.string bytes) => bytes.length + 1
  | .lit _ => 1
  | .nil => 1
  | .ptr d => uptoBulk d + 1
  | .slice elems spare => uptoBulkAll elems + uptoBulkAll spare + 1
  | .agg parts => uptoBulkAll parts + 1
  | .iface _ d => uptoBulk d + 1
  | .map entries => uptoBulkEntries entries + 1
  | .held _ => 1
def uptoBulkAll {H : Type} : List (DataW H) → Nat
  | [] => 0
  | d :: r => uptoBulk d + uptoBulkAll r
def uptoBulkEntries {H : Type} : List (Lit × DataW H) → Nat
  | [] => 0
  | x :: r => uptoBulkEntry x + uptoBulkEntries r
def uptoBulkEntry {H : Type} : Lit × DataW H → Nat
  | (.string bytes, d) => bytes.length + uptoBulk d + 1
  | (_, d) => uptoBulk d + 1
 end
def uptoSmall : (H : Type) → List (DataW H) → Bool := fun _ ds => decide (uptoBulkAll ds ≤ 1048576)
def OpenSpec.upto (s : _root_.Go.ChangeSpec) : _root_.Go.OpenSpec := { _root_.Go.OpenSpec.ofChange s with cond := some uptoSmall }

/-- 'chirographlaw10.TableMakes', WHERE WHAT IT READS IS OF BULK AT MOST 1048576: true; the input reads as it did. -/
def tableMakesUptoRow : OpenClaim := { program := "ytgegipijappfhaadoor", sum := "167df07d52d8ababf502a91cf26dc25f027a822227fd6f6057a95bf6ad3b2f4e", func := "chirograph/chirographlaw10.TableMakes", spec := "tableMakes", inPlace := ["internal/abi.NoEscape"], unfollowed := true, recurses := true, named := ["chirograph/seal.low", "chirograph/seal.high"], apart := false, laid := [("chirograph/seal.low", laid_chirograph_seal_low), ("chirograph/seal.high", laid_chirograph_seal_high)], narrowed := true }
def TableMakesUptoSaid : Prop := tableMakesUptoRow.holds Tryd.pinned (OpenSpec.upto tableMakesSpec)

/-- 'chirographlaw10.TableBack', WHERE WHAT IT READS IS OF BULK AT MOST 1048576: true; the input reads as it did. -/
def tableBackUptoRow : OpenClaim := { program := "ytgegipijappfhaadoor", sum := "167df07d52d8ababf502a91cf26dc25f027a822227fd6f6057a95bf6ad3b2f4e", func := "chirograph/chirographlaw10.TableBack", spec := "tableBack", inPlace := ["internal/abi.NoEscape"], unfollowed := true, recurses := true, named := ["chirograph/seal.low", "chirograph/seal.high"], apart := false, laid := [("chirograph/seal.low", laid_chirograph_seal_low), ("chirograph/seal.high", laid_chirograph_seal_high)], narrowed := true }
def TableBackUptoSaid : Prop := tableBackUptoRow.holds Tryd.pinned (OpenSpec.upto tableBackSpec)

/-- 'chirographlaw10.TableRanges', WHERE WHAT IT READS IS OF BULK AT MOST 1048576: true; the input reads as it did. -/
def tableRangesUptoRow : OpenClaim := { program := "ytgegipijappfhaadoor", sum := "167df07d52d8ababf502a91cf26dc25f027a822227fd6f6057a95bf6ad3b2f4e", func := "chirograph/chirographlaw10.TableRanges", spec := "tableRanges", inPlace := ["internal/abi.NoEscape"], unfollowed := true, recurses := true, named := ["chirograph/seal.low", "chirograph/seal.high"], apart := false, laid := [("chirograph/seal.low", laid_chirograph_seal_low), ("chirograph/seal.high", laid_chirograph_seal_high)], narrowed := true }
def TableRangesUptoSaid : Prop := tableRangesUptoRow.holds Tryd.pinned (OpenSpec.upto tableRangesSpec)

/-- 'chirographtop.ChirographBlocks', WHERE WHAT IT READS IS OF BULK AT MOST 1048576: true; the input reads as it did. -/
def chirographBlocksUptoRow : OpenClaim := { program := "ytgegipijappfhaadoor", sum := "167df07d52d8ababf502a91cf26dc25f027a822227fd6f6057a95bf6ad3b2f4e", func := "chirograph/chirographtop.ChirographBlocks", spec := "chirographBlocks", inPlace := ["internal/abi.NoEscape"], unfollowed := true, recurses := true, named := ["chirograph/seal.low", "chirograph/seal.high"], apart := false, laid := [("chirograph/seal.low", laid_chirograph_seal_low), ("chirograph/seal.high", laid_chirograph_seal_high)], narrowed := true }
def ChirographBlocksUptoSaid : Prop := chirographBlocksUptoRow.holds Tryd.pinned (OpenSpec.upto chirographBlocksSpec)

end Rows
end Go.Proofs.YtgegipijappfhaaDoor
