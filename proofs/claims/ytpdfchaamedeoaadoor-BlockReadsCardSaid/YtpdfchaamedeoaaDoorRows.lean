/-
  NARROWER THAN 'FOR EVERY INPUT', by the rows' own cells (each row's printed sentence says how): BlockMakes: laid · BlockReads: laid · BlockSeeks: laid · BlockBack: laid · BlockOne: laid · BlockParts: laid · TableMakes: laid · TableBack: laid · TableRanges: laid · ChirographBlocks: laid.
  DERIVED. THE GIVEN ROWS OF THIS SEAT. 10 by the template 'for every input the law returns true; each argument reads behind the call as it read before'; 0 by the template 'total and deterministic' (their statements: YtpdfchaamedeoaaDoorTotals.lean).
  GIVEN WITH THE SEED: the statements are not yours to turn. If you find one false, say at which input.
  Laid BY PROGRAM, IN A SANDBOX (cutbox-rows.mjs): the forced cells as the released guide's own fill.sh prints them over the translation c523373bc3500644… (all of the seat's roots in one cut). By AI agents, Wed Nov 11 2026. No macro, syntax, notation, axiom, sorry.
-/
import Derived.Test.YtpdfchaamedeoaaDoorChecked
import GoSem.Claim
import GoSem.ClaimJoined
import GoSem.ClaimMapViews
import Derived.JoinedTies
import Derived.KernelRfl
namespace Go.Proofs.YtpdfchaamedeoaaDoor
/- THE CELL 'sum', in the pinned program and in every row, IS THE sha256 OF THE DUMP (.gsa) THAT YtpdfchaamedeoaaDoorProg.lean LOADS. Nothing in Lean hashes anything: it is a label: what it is worth is what the hold of that sum in a sandbox is worth. -/
noncomputable def Tryd.pinned : Pinned := { name := "ytpdfchaamedeoaadoor", sum := "c523373bc3500644e310380949fba2e8e4c5d8c46ee78f398dfb9ae41ed25f95", checked := Tryd.checked }
namespace Rows
def none {H : Type} : Left H := { results := [], args := [] }

/- WHAT THE LISTED PACKAGE-LEVEL VARIABLES READ AS WHEN THE CALL BEGINS. Each datum BY PROGRAM (the guide's laid-datum.mjs) off the statement by which the dump's own 'gosem.cut.vars' lays the variable. In a bare row this is a premise. The card (YtpdfchaamedeoaaDoorCards.lean) ties it to the program's text. -/
def laid_chirograph_seal_low {H : Type} : DataW H := .agg [.lit (.int .u32 0), .lit (.int .u32 1996959894), .lit (.int .u32 3993919788), .lit (.int .u32 2567524794), .lit (.int .u32 124634137), .lit (.int .u32 1886057615), .lit (.int .u32 3915621685), .lit (.int .u32 2657392035), .lit (.int .u32 249268274), .lit (.int .u32 2044508324), .lit (.int .u32 3772115230), .lit (.int .u32 2547177864), .lit (.int .u32 162941995), .lit (.int .u32 2125561021), .lit (.int .u32 3887607047), .lit (.int .u32 2428444049)]
def laid_chirograph_seal_high {H : Type} : DataW H := .agg [.lit (.int .u32 0), .lit (.int .u32 498536548), .lit (.int .u32 997073096), .lit (.int .u32 651767980), .lit (.int .u32 1994146192), .lit (.int .u32 1802195444), .lit (.int .u32 1303535960), .lit (.int .u32 1342533948), .lit (.int .u32 3988292384), .lit (.int .u32 4027552580), .lit (.int .u32 3604390888), .lit (.int .u32 3412177804), .lit (.int .u32 2607071920), .lit (.int .u32 2262029012), .lit (.int .u32 2685067896), .lit (.int .u32 3183342108)]

/-- 'chirographlaw09.BlockMakes': WHATEVER THE INPUT: true; the input reads as it did. -/
def blockMakesSpec : ChangeSpec := { name := "blockMakes", fn := fun _ => fun
  | [d] => { results := [.lit (.bool true)], args := [d] }
  | _ => none }
def blockMakesRow : OpenClaim := { program := "ytpdfchaamedeoaadoor", sum := "c523373bc3500644e310380949fba2e8e4c5d8c46ee78f398dfb9ae41ed25f95", func := "chirograph/chirographlaw09.BlockMakes", spec := "blockMakes", named := ["chirograph/seal.low", "chirograph/seal.high"], apart := false, laid := [("chirograph/seal.low", laid_chirograph_seal_low), ("chirograph/seal.high", laid_chirograph_seal_high)] }
def BlockMakesSaid : Prop := blockMakesRow.holds Tryd.pinned (OpenSpec.ofChange blockMakesSpec)

/-- ITS FALSE NEIGHBOUR: 'it returns false'. Refute it at one input. -/
def blockMakesWrong : ChangeSpec := { name := "blockMakes", fn := fun _ => fun
  | [d] => { results := [.lit (.bool false)], args := [d] }
  | _ => none }
def BlockMakesWrongFalsely : Prop := blockMakesRow.holds Tryd.pinned (OpenSpec.ofChange blockMakesWrong)

/-- 'chirographlaw09.BlockReads': WHATEVER THE INPUT: true; the input reads as it did. -/
def blockReadsSpec : ChangeSpec := { name := "blockReads", fn := fun _ => fun
  | [d] => { results := [.lit (.bool true)], args := [d] }
  | _ => none }
def blockReadsRow : OpenClaim := { program := "ytpdfchaamedeoaadoor", sum := "c523373bc3500644e310380949fba2e8e4c5d8c46ee78f398dfb9ae41ed25f95", func := "chirograph/chirographlaw09.BlockReads", spec := "blockReads", named := ["chirograph/seal.low", "chirograph/seal.high"], apart := false, laid := [("chirograph/seal.low", laid_chirograph_seal_low), ("chirograph/seal.high", laid_chirograph_seal_high)] }
def BlockReadsSaid : Prop := blockReadsRow.holds Tryd.pinned (OpenSpec.ofChange blockReadsSpec)

/-- ITS FALSE NEIGHBOUR: 'it returns false'. Refute it at one input. -/
def blockReadsWrong : ChangeSpec := { name := "blockReads", fn := fun _ => fun
  | [d] => { results := [.lit (.bool false)], args := [d] }
  | _ => none }
def BlockReadsWrongFalsely : Prop := blockReadsRow.holds Tryd.pinned (OpenSpec.ofChange blockReadsWrong)

/-- 'chirographlaw09.BlockSeeks': WHATEVER THE INPUT: true; the input reads as it did. -/
def blockSeeksSpec : ChangeSpec := { name := "blockSeeks", fn := fun _ => fun
  | [d1, d2] => { results := [.lit (.bool true)], args := [d1, d2] }
  | _ => none }
def blockSeeksRow : OpenClaim := { program := "ytpdfchaamedeoaadoor", sum := "c523373bc3500644e310380949fba2e8e4c5d8c46ee78f398dfb9ae41ed25f95", func := "chirograph/chirographlaw09.BlockSeeks", spec := "blockSeeks", unfollowed := true, recurses := true, named := ["chirograph/seal.low", "chirograph/seal.high"], apart := false, laid := [("chirograph/seal.low", laid_chirograph_seal_low), ("chirograph/seal.high", laid_chirograph_seal_high)] }
def BlockSeeksSaid : Prop := blockSeeksRow.holds Tryd.pinned (OpenSpec.ofChange blockSeeksSpec)

/-- ITS FALSE NEIGHBOUR: 'it returns false'. Refute it at one input. -/
def blockSeeksWrong : ChangeSpec := { name := "blockSeeks", fn := fun _ => fun
  | [d1, d2] => { results := [.lit (.bool false)], args := [d1, d2] }
  | _ => none }
def BlockSeeksWrongFalsely : Prop := blockSeeksRow.holds Tryd.pinned (OpenSpec.ofChange blockSeeksWrong)

/-- 'chirographlaw09.BlockBack': WHATEVER THE INPUT: true; the input reads as it did. -/
def blockBackSpec : ChangeSpec := { name := "blockBack", fn := fun _ => fun
  | [d1, d2] => { results := [.lit (.bool true)], args := [d1, d2] }
  | _ => none }
def blockBackRow : OpenClaim := { program := "ytpdfchaamedeoaadoor", sum := "c523373bc3500644e310380949fba2e8e4c5d8c46ee78f398dfb9ae41ed25f95", func := "chirograph/chirographlaw09.BlockBack", spec := "blockBack", named := ["chirograph/seal.low", "chirograph/seal.high"], apart := false, laid := [("chirograph/seal.low", laid_chirograph_seal_low), ("chirograph/seal.high", laid_chirograph_seal_high)] }
def BlockBackSaid : Prop := blockBackRow.holds Tryd.pinned (OpenSpec.ofChange blockBackSpec)

/-- ITS FALSE NEIGHBOUR: 'it returns false'. Refute it at one input. -/
def blockBackWrong : ChangeSpec := { name := "blockBack", fn := fun _ => fun
  | [d1, d2] => { results := [.lit (.bool false)], args := [d1, d2] }
  | _ => none }
def BlockBackWrongFalsely : Prop := blockBackRow.holds Tryd.pinned (OpenSpec.ofChange blockBackWrong)

/-- 'chirographlaw09.BlockOne': WHATEVER THE INPUT: true; the input reads as it did. -/
def blockOneSpec : ChangeSpec := { name := "blockOne", fn := fun _ => fun
  | [d] => { results := [.lit (.bool true)], args := [d] }
  | _ => none }
def blockOneRow : OpenClaim := { program := "ytpdfchaamedeoaadoor", sum := "c523373bc3500644e310380949fba2e8e4c5d8c46ee78f398dfb9ae41ed25f95", func := "chirograph/chirographlaw09.BlockOne", spec := "blockOne", named := ["chirograph/seal.low", "chirograph/seal.high"], apart := false, laid := [("chirograph/seal.low", laid_chirograph_seal_low), ("chirograph/seal.high", laid_chirograph_seal_high)] }
def BlockOneSaid : Prop := blockOneRow.holds Tryd.pinned (OpenSpec.ofChange blockOneSpec)

/-- ITS FALSE NEIGHBOUR: 'it returns false'. Refute it at one input. -/
def blockOneWrong : ChangeSpec := { name := "blockOne", fn := fun _ => fun
  | [d] => { results := [.lit (.bool false)], args := [d] }
  | _ => none }
def BlockOneWrongFalsely : Prop := blockOneRow.holds Tryd.pinned (OpenSpec.ofChange blockOneWrong)

/-- 'chirographlaw09.BlockParts': WHATEVER THE INPUT: true; the input reads as it did. -/
def blockPartsSpec : ChangeSpec := { name := "blockParts", fn := fun _ => fun
  | [d1, d2] => { results := [.lit (.bool true)], args := [d1, d2] }
  | _ => none }
def blockPartsRow : OpenClaim := { program := "ytpdfchaamedeoaadoor", sum := "c523373bc3500644e310380949fba2e8e4c5d8c46ee78f398dfb9ae41ed25f95", func := "chirograph/chirographlaw09.BlockParts", spec := "blockParts", unfollowed := true, recurses := true, named := ["chirograph/seal.low", "chirograph/seal.high"], apart := false, laid := [("chirograph/seal.low", laid_chirograph_seal_low), ("chirograph/seal.high", laid_chirograph_seal_high)] }
def BlockPartsSaid : Prop := blockPartsRow.holds Tryd.pinned (OpenSpec.ofChange blockPartsSpec)

/-- ITS FALSE NEIGHBOUR: 'it returns false'. Refute it at one input. -/
def blockPartsWrong : ChangeSpec := { name := "blockParts", fn := fun _ => fun
  | [d1, d2] => { results := [.lit (.bool false)], args := [d1, d2] }
  | _ => none }
def BlockPartsWrongFalsely : Prop := blockPartsRow.holds Tryd.pinned (OpenSpec.ofChange blockPartsWrong)

/-- 'chirographlaw10.TableMakes': WHATEVER THE INPUT: true; the input reads as it did. -/
def tableMakesSpec : ChangeSpec := { name := "tableMakes", fn := fun _ => fun
  | [d1, d2] => { results := [.lit (.bool true)], args := [d1, d2] }
  | _ => none }
def tableMakesRow : OpenClaim := { program := "ytpdfchaamedeoaadoor", sum := "c523373bc3500644e310380949fba2e8e4c5d8c46ee78f398dfb9ae41ed25f95", func := "chirograph/chirographlaw10.TableMakes", spec := "tableMakes", inPlace := ["internal/abi.NoEscape"], unfollowed := true, recurses := true, named := ["chirograph/seal.low", "chirograph/seal.high"], apart := false, laid := [("chirograph/seal.low", laid_chirograph_seal_low), ("chirograph/seal.high", laid_chirograph_seal_high)] }
def TableMakesSaid : Prop := tableMakesRow.holds Tryd.pinned (OpenSpec.ofChange tableMakesSpec)

/-- ITS FALSE NEIGHBOUR: 'it returns false'. Refute it at one input. -/
def tableMakesWrong : ChangeSpec := { name := "tableMakes", fn := fun _ => fun
  | [d1, d2] => { results := [.lit (.bool false)], args := [d1, d2] }
  | _ => none }
def TableMakesWrongFalsely : Prop := tableMakesRow.holds Tryd.pinned (OpenSpec.ofChange tableMakesWrong)

/-- 'chirographlaw10.TableBack': WHATEVER THE INPUT: true; the input reads as it did. -/
def tableBackSpec : ChangeSpec := { name := "tableBack", fn := fun _ => fun
  | [d1, d2, d3] => { results := [.lit (.bool true)], args := [d1, d2, d3] }
  | _ => none }
def tableBackRow : OpenClaim := { program := "ytpdfchaamedeoaadoor", sum := "c523373bc3500644e310380949fba2e8e4c5d8c46ee78f398dfb9ae41ed25f95", func := "chirograph/chirographlaw10.TableBack", spec := "tableBack", inPlace := ["internal/abi.NoEscape"], unfollowed := true, recurses := true, named := ["chirograph/seal.low", "chirograph/seal.high"], apart := false, laid := [("chirograph/seal.low", laid_chirograph_seal_low), ("chirograph/seal.high", laid_chirograph_seal_high)] }
def TableBackSaid : Prop := tableBackRow.holds Tryd.pinned (OpenSpec.ofChange tableBackSpec)

/-- ITS FALSE NEIGHBOUR: 'it returns false'. Refute it at one input. -/
def tableBackWrong : ChangeSpec := { name := "tableBack", fn := fun _ => fun
  | [d1, d2, d3] => { results := [.lit (.bool false)], args := [d1, d2, d3] }
  | _ => none }
def TableBackWrongFalsely : Prop := tableBackRow.holds Tryd.pinned (OpenSpec.ofChange tableBackWrong)

/-- 'chirographlaw10.TableRanges': WHATEVER THE INPUT: true; the input reads as it did. -/
def tableRangesSpec : ChangeSpec := { name := "tableRanges", fn := fun _ => fun
  | [d1, d2, d3, d4, d5] => { results := [.lit (.bool true)], args := [d1, d2, d3, d4, d5] }
  | _ => none }
def tableRangesRow : OpenClaim := { program := "ytpdfchaamedeoaadoor", sum := "c523373bc3500644e310380949fba2e8e4c5d8c46ee78f398dfb9ae41ed25f95", func := "chirograph/chirographlaw10.TableRanges", spec := "tableRanges", inPlace := ["internal/abi.NoEscape"], unfollowed := true, recurses := true, named := ["chirograph/seal.low", "chirograph/seal.high"], apart := false, laid := [("chirograph/seal.low", laid_chirograph_seal_low), ("chirograph/seal.high", laid_chirograph_seal_high)] }
def TableRangesSaid : Prop := tableRangesRow.holds Tryd.pinned (OpenSpec.ofChange tableRangesSpec)

/-- ITS FALSE NEIGHBOUR: 'it returns false'. Refute it at one input. -/
def tableRangesWrong : ChangeSpec := { name := "tableRanges", fn := fun _ => fun
  | [d1, d2, d3, d4, d5] => { results := [.lit (.bool false)], args := [d1, d2, d3, d4, d5] }
  | _ => none }
def TableRangesWrongFalsely : Prop := tableRangesRow.holds Tryd.pinned (OpenSpec.ofChange tableRangesWrong)

/-- 'chirographtop.ChirographBlocks': WHATEVER THE INPUT: true; the input reads as it did. -/
def chirographBlocksSpec : ChangeSpec := { name := "chirographBlocks", fn := fun _ => fun
  | [d1, d2] => { results := [.lit (.bool true)], args := [d1, d2] }
  | _ => none }
def chirographBlocksRow : OpenClaim := { program := "ytpdfchaamedeoaadoor", sum := "c523373bc3500644e310380949fba2e8e4c5d8c46ee78f398dfb9ae41ed25f95", func := "chirograph/chirographtop.ChirographBlocks", spec := "chirographBlocks", inPlace := ["internal/abi.NoEscape"], unfollowed := true, recurses := true, named := ["chirograph/seal.low", "chirograph/seal.high"], apart := false, laid := [("chirograph/seal.low", laid_chirograph_seal_low), ("chirograph/seal.high", laid_chirograph_seal_high)] }
def ChirographBlocksSaid : Prop := chirographBlocksRow.holds Tryd.pinned (OpenSpec.ofChange chirographBlocksSpec)

/-- ITS FALSE NEIGHBOUR: 'it returns false'. Refute it at one input. -/
def chirographBlocksWrong : ChangeSpec := { name := "chirographBlocks", fn := fun _ => fun
  | [d1, d2] => { results := [.lit (.bool false)], args := [d1, d2] }
  | _ => none }
def ChirographBlocksWrongFalsely : Prop := chirographBlocksRow.holds Tryd.pinned (OpenSpec.ofChange chirographBlocksWrong)

/- THE SECOND FORM. 'bulk': how many values and letters a reading holds, each counted each time it is reached (what is shared counts as often as it is met; a slice's spare places count too). A statement '..UptoSaid' is the law's where the arguments, and the package variables that the reading takes, are together of bulk at most 1048576: NARROWER than '..Said'. Prove '..Said' where nothing that the law and all that it calls make is longer than what came in: it says more and counts as full. Else prove '..UptoSaid'. A law counts once. -/
mutual
def uptoBulk {H : Type} : DataW H → Nat
  | .lit (.string bytes) => bytes.length + 1
  | .lit _ => 1
  | .nil => 1
  | .ptr d => uptoBulk d + 1
  | .slice elems spare => uptoBulkAll elems + uptoBulkAll spare + 1
  | .agg parts => uptoBulkAll parts + 1
  | .iface _ d => uptoBulk d + 1
  | .map entries => uptoBulkEntries entries + 1
  | .held _ => 1
def uptoBulkAll {H : Type} : List (DataW H) → Nat
  | [] => 0
  | d :: r => uptoBulk d + uptoBulkAll r
def uptoBulkEntries {H : Type} : List (Lit × DataW H) → Nat
  | [] => 0
  | x :: r => uptoBulkEntry x + uptoBulkEntries r
def uptoBulkEntry {H : Type} : Lit × DataW H → Nat
  | (.string bytes, d) => bytes.length + uptoBulk d + 1
  | (_, d) => uptoBulk d + 1
 end
def uptoSmall : (H : Type) → List (DataW H) → Bool := fun _ ds => decide (uptoBulkAll ds ≤ 1048576)
def OpenSpec.upto (s : _root_.Go.ChangeSpec) : _root_.Go.OpenSpec := { _root_.Go.OpenSpec.ofChange s with cond := some uptoSmall }

/-- 'chirographlaw09.BlockMakes', WHERE WHAT IT READS IS OF BULK AT MOST 1048576: true; the input reads as it did. -/
def blockMakesUptoRow : OpenClaim := { program := "ytpdfchaamedeoaadoor", sum := "c523373bc3500644e310380949fba2e8e4c5d8c46ee78f398dfb9ae41ed25f95", func := "chirograph/chirographlaw09.BlockMakes", spec := "blockMakes", named := ["chirograph/seal.low", "chirograph/seal.high"], apart := false, laid := [("chirograph/seal.low", laid_chirograph_seal_low), ("chirograph/seal.high", laid_chirograph_seal_high)], narrowed := true }
def BlockMakesUptoSaid : Prop := blockMakesUptoRow.holds Tryd.pinned (OpenSpec.upto blockMakesSpec)

/-- 'chirographlaw09.BlockReads', WHERE WHAT IT READS IS OF BULK AT MOST 1048576: true; the input reads as it did. -/
def blockReadsUptoRow : OpenClaim := { program := "ytpdfchaamedeoaadoor", sum := "c523373bc3500644e310380949fba2e8e4c5d8c46ee78f398dfb9ae41ed25f95", func := "chirograph/chirographlaw09.BlockReads", spec := "blockReads", named := ["chirograph/seal.low", "chirograph/seal.high"], apart := false, laid := [("chirograph/seal.low", laid_chirograph_seal_low), ("chirograph/seal.high", laid_chirograph_seal_high)], narrowed := true }
def BlockReadsUptoSaid : Prop := blockReadsUptoRow.holds Tryd.pinned (OpenSpec.upto blockReadsSpec)

/-- 'chirographlaw09.BlockSeeks', WHERE WHAT IT READS IS OF BULK AT MOST 1048576: true; the input reads as it did. -/
def blockSeeksUptoRow : OpenClaim := { program := "ytpdfchaamedeoaadoor", sum := "c523373bc3500644e310380949fba2e8e4c5d8c46ee78f398dfb9ae41ed25f95", func := "chirograph/chirographlaw09.BlockSeeks", spec := "blockSeeks", unfollowed := true, recurses := true, named := ["chirograph/seal.low", "chirograph/seal.high"], apart := false, laid := [("chirograph/seal.low", laid_chirograph_seal_low), ("chirograph/seal.high", laid_chirograph_seal_high)], narrowed := true }
def BlockSeeksUptoSaid : Prop := blockSeeksUptoRow.holds Tryd.pinned (OpenSpec.upto blockSeeksSpec)

/-- 'chirographlaw09.BlockBack', WHERE WHAT IT READS IS OF BULK AT MOST 1048576: true; the input reads as it did. -/
def blockBackUptoRow : OpenClaim := { program := "ytpdfchaamedeoaadoor", sum := "c523373bc3500644e310380949fba2e8e4c5d8c46ee78f398dfb9ae41ed25f95", func := "chirograph/chirographlaw09.BlockBack", spec := "blockBack", named := ["chirograph/seal.low", "chirograph/seal.high"], apart := false, laid := [("chirograph/seal.low", laid_chirograph_seal_low), ("chirograph/seal.high", laid_chirograph_seal_high)], narrowed := true }
def BlockBackUptoSaid : Prop := blockBackUptoRow.holds Tryd.pinned (OpenSpec.upto blockBackSpec)

/-- 'chirographlaw09.BlockOne', WHERE WHAT IT READS IS OF BULK AT MOST 1048576: true; the input reads as it did. -/
def blockOneUptoRow : OpenClaim := { program := "ytpdfchaamedeoaadoor", sum := "c523373bc3500644e310380949fba2e8e4c5d8c46ee78f398dfb9ae41ed25f95", func := "chirograph/chirographlaw09.BlockOne", spec := "blockOne", named := ["chirograph/seal.low", "chirograph/seal.high"], apart := false, laid := [("chirograph/seal.low", laid_chirograph_seal_low), ("chirograph/seal.high", laid_chirograph_seal_high)], narrowed := true }
def BlockOneUptoSaid : Prop := blockOneUptoRow.holds Tryd.pinned (OpenSpec.upto blockOneSpec)

/-- 'chirographlaw09.BlockParts', WHERE WHAT IT READS IS OF BULK AT MOST 1048576: true; the input reads as it did. -/
def blockPartsUptoRow : OpenClaim := { program := "ytpdfchaamedeoaadoor", sum := "c523373bc3500644e310380949fba2e8e4c5d8c46ee78f398dfb9ae41ed25f95", func := "chirograph/chirographlaw09.BlockParts", spec := "blockParts", unfollowed := true, recurses := true, named := ["chirograph/seal.low", "chirograph/seal.high"], apart := false, laid := [("chirograph/seal.low", laid_chirograph_seal_low), ("chirograph/seal.high", laid_chirograph_seal_high)], narrowed := true }
def BlockPartsUptoSaid : Prop := blockPartsUptoRow.holds Tryd.pinned (OpenSpec.upto blockPartsSpec)

/-- 'chirographlaw10.TableMakes', WHERE WHAT IT READS IS OF BULK AT MOST 1048576: true; the input reads as it did. -/
def tableMakesUptoRow : OpenClaim := { program := "ytpdfchaamedeoaadoor", sum := "c523373bc3500644e310380949fba2e8e4c5d8c46ee78f398dfb9ae41ed25f95", func := "chirograph/chirographlaw10.TableMakes", spec := "tableMakes", inPlace := ["internal/abi.NoEscape"], unfollowed := true, recurses := true, named := ["chirograph/seal.low", "chirograph/seal.high"], apart := false, laid := [("chirograph/seal.low", laid_chirograph_seal_low), ("chirograph/seal.high", laid_chirograph_seal_high)], narrowed := true }
def TableMakesUptoSaid : Prop := tableMakesUptoRow.holds Tryd.pinned (OpenSpec.upto tableMakesSpec)

/-- 'chirographlaw10.TableBack', WHERE WHAT IT READS IS OF BULK AT MOST 1048576: true; the input reads as it did. -/
def tableBackUptoRow : OpenClaim := { program := "ytpdfchaamedeoaadoor", sum := "c523373bc3500644e310380949fba2e8e4c5d8c46ee78f398dfb9ae41ed25f95", func := "chirograph/chirographlaw10.TableBack", spec := "tableBack", inPlace := ["internal/abi.NoEscape"], unfollowed := true, recurses := true, named := ["chirograph/seal.low", "chirograph/seal.high"], apart := false, laid := [("chirograph/seal.low", laid_chirograph_seal_low), ("chirograph/seal.high", laid_chirograph_seal_high)], narrowed := true }
def TableBackUptoSaid : Prop := tableBackUptoRow.holds Tryd.pinned (OpenSpec.upto tableBackSpec)

/-- 'chirographlaw10.TableRanges', WHERE WHAT IT READS IS OF BULK AT MOST 1048576: true; the input reads as it did. -/
def tableRangesUptoRow : OpenClaim := { program := "ytpdfchaamedeoaadoor", sum := "c523373bc3500644e310380949fba2e8e4c5d8c46ee78f398dfb9ae41ed25f95", func := "chirograph/chirographlaw10.TableRanges", spec := "tableRanges", inPlace := ["internal/abi.NoEscape"], unfollowed := true, recurses := true, named := ["chirograph/seal.low", "chirograph/seal.high"], apart := false, laid := [("chirograph/seal.low", laid_chirograph_seal_low), ("chirograph/seal.high", laid_chirograph_seal_high)], narrowed := true }
def TableRangesUptoSaid : Prop := tableRangesUptoRow.holds Tryd.pinned (OpenSpec.upto tableRangesSpec)

/-- 'chirographtop.ChirographBlocks', WHERE WHAT IT READS IS OF BULK AT MOST 1048576: true; the input reads as it did. -/
def chirographBlocksUptoRow : OpenClaim := { program := "ytpdfchaamedeoaadoor", sum := "c523373bc3500644e310380949fba2e8e4c5d8c46ee78f398dfb9ae41ed25f95", func := "chirograph/chirographtop.ChirographBlocks", spec := "chirographBlocks", inPlace := ["internal/abi.NoEscape"], unfollowed := true, recurses := true, named := ["chirograph/seal.low", "chirograph/seal.high"], apart := false, laid := [("chirograph/seal.low", laid_chirograph_seal_low), ("chirograph/seal.high", laid_chirograph_seal_high)], narrowed := true }
def ChirographBlocksUptoSaid : Prop := chirographBlocksUptoRow.holds Tryd.pinned (OpenSpec.upto chirographBlocksSpec)

end Rows
end Go.Proofs.YtpdfchaamedeoaaDoor
