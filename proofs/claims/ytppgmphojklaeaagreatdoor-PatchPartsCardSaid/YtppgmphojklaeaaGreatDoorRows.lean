/-
  NARROWER THAN 'FOR EVERY INPUT', by the rows' own cells (each row's printed sentence says how): PatchTops: laid · PatchParts: laid · PatchLess: laid · ProofMakes: laid · ProofChecks: laid · ProofReads: laid · ProofSure: laid · ProofBack: laid.
  DERIVED. THE GIVEN ROWS OF THIS SEAT. 8 by the template 'for every input the law returns true; each argument reads behind the call as it read before'; 0 by the template 'total and deterministic' (their statements: YtppgmphojklaeaaGreatDoorTotals.lean).
  GIVEN WITH THE SEED: the statements are not yours to turn. If you find one false, say at which input.
  Laid BY PROGRAM, IN A SANDBOX (cutbox-rows.mjs): the forced cells as the released guide's own fill.sh prints them over the translation 76c56853c9c39469… (all of the seat's roots in one cut). By AI agents, Wed Nov 11 2026. No macro, syntax, notation, axiom, sorry.
-/
import Derived.Test.YtppgmphojklaeaaGreatDoorChecked
import GoSem.Claim
import GoSem.ClaimJoined
import GoSem.ClaimMapViews
import Derived.JoinedTies
import Derived.KernelRfl
namespace Go.Proofs.YtppgmphojklaeaaGreatDoor
/- THE CELL 'sum', in the pinned program and in every row, IS THE sha256 OF THE DUMP (.gsa) THAT YtppgmphojklaeaaGreatDoorProg.lean LOADS. Nothing in Lean hashes anything: it is a label: what it is worth is what the hold of that sum in a sandbox is worth. -/
noncomputable def Tryz.pinned : Pinned := { name := "ytppgmphojklaeaagreatdoor", sum := "76c56853c9c394695ebf3947810a585cdf3545ebcb0b2494a6b0d5ae68428646", checked := Tryz.checked }
namespace Rows
def none {H : Type} : Left H := { results := [], args := [] }

/- WHAT THE LISTED PACKAGE-LEVEL VARIABLES READ AS WHEN THE CALL BEGINS. Each datum BY PROGRAM (the guide's laid-datum.mjs) off the statement by which the dump's own 'gosem.cut.vars' lays the variable. In a bare row this is a premise. The card (YtppgmphojklaeaaGreatDoorCards.lean) ties it to the program's text. -/
def laid_chirograph_sha_cubes {H : Type} : DataW H := .agg [.lit (.int .u32 1116352408), .lit (.int .u32 1899447441), .lit (.int .u32 3049323471), .lit (.int .u32 3921009573), .lit (.int .u32 961987163), .lit (.int .u32 1508970993), .lit (.int .u32 2453635748), .lit (.int .u32 2870763221), .lit (.int .u32 3624381080), .lit (.int .u32 310598401), .lit (.int .u32 607225278), .lit (.int .u32 1426881987), .lit (.int .u32 1925078388), .lit (.int .u32 2162078206), .lit (.int .u32 2614888103), .lit (.int .u32 3248222580), .lit (.int .u32 3835390401), .lit (.int .u32 4022224774), .lit (.int .u32 264347078), .lit (.int .u32 604807628), .lit (.int .u32 770255983), .lit (.int .u32 1249150122), .lit (.int .u32 1555081692), .lit (.int .u32 1996064986), .lit (.int .u32 2554220882), .lit (.int .u32 2821834349), .lit (.int .u32 2952996808), .lit (.int .u32 3210313671), .lit (.int .u32 3336571891), .lit (.int .u32 3584528711), .lit (.int .u32 113926993), .lit (.int .u32 338241895), .lit (.int .u32 666307205), .lit (.int .u32 773529912), .lit (.int .u32 1294757372), .lit (.int .u32 1396182291), .lit (.int .u32 1695183700), .lit (.int .u32 1986661051), .lit (.int .u32 2177026350), .lit (.int .u32 2456956037), .lit (.int .u32 2730485921), .lit (.int .u32 2820302411), .lit (.int .u32 3259730800), .lit (.int .u32 3345764771), .lit (.int .u32 3516065817), .lit (.int .u32 3600352804), .lit (.int .u32 4094571909), .lit (.int .u32 275423344), .lit (.int .u32 430227734), .lit (.int .u32 506948616), .lit (.int .u32 659060556), .lit (.int .u32 883997877), .lit (.int .u32 958139571), .lit (.int .u32 1322822218), .lit (.int .u32 1537002063), .lit (.int .u32 1747873779), .lit (.int .u32 1955562222), .lit (.int .u32 2024104815), .lit (.int .u32 2227730452), .lit (.int .u32 2361852424), .lit (.int .u32 2428436474), .lit (.int .u32 2756734187), .lit (.int .u32 3204031479), .lit (.int .u32 3329325298)]

/-- 'chirographlaw16.PatchTops': WHATEVER THE INPUT: true; the input reads as it did. -/
def patchTopsSpec : ChangeSpec := { name := "patchTops", fn := fun _ => fun
  | [d] => { results := [.lit (.bool true)], args := [d] }
  | _ => none }
def patchTopsRow : OpenClaim := { program := "ytppgmphojklaeaagreatdoor", sum := "76c56853c9c394695ebf3947810a585cdf3545ebcb0b2494a6b0d5ae68428646", func := "chirograph/chirographlaw16.PatchTops", spec := "patchTops", inPlace := ["internal/bytealg.Compare"], unfollowed := true, recurses := true, named := ["chirograph/sha.cubes"], apart := false, laid := [("chirograph/sha.cubes", laid_chirograph_sha_cubes)] }
def PatchTopsSaid : Prop := patchTopsRow.holds Tryz.pinned (OpenSpec.ofChange patchTopsSpec)

/-- ITS FALSE NEIGHBOUR: 'it returns false'. Refute it at one input. -/
def patchTopsWrong : ChangeSpec := { name := "patchTops", fn := fun _ => fun
  | [d] => { results := [.lit (.bool false)], args := [d] }
  | _ => none }
def PatchTopsWrongFalsely : Prop := patchTopsRow.holds Tryz.pinned (OpenSpec.ofChange patchTopsWrong)

/-- 'chirographlaw16.PatchParts': WHATEVER THE INPUT: true; the input reads as it did. -/
def patchPartsSpec : ChangeSpec := { name := "patchParts", fn := fun _ => fun
  | [d1, d2, d3] => { results := [.lit (.bool true)], args := [d1, d2, d3] }
  | _ => none }
def patchPartsRow : OpenClaim := { program := "ytppgmphojklaeaagreatdoor", sum := "76c56853c9c394695ebf3947810a585cdf3545ebcb0b2494a6b0d5ae68428646", func := "chirograph/chirographlaw16.PatchParts", spec := "patchParts", inPlace := ["internal/bytealg.Compare"], unfollowed := true, recurses := true, named := ["chirograph/sha.cubes"], apart := false, laid := [("chirograph/sha.cubes", laid_chirograph_sha_cubes)] }
def PatchPartsSaid : Prop := patchPartsRow.holds Tryz.pinned (OpenSpec.ofChange patchPartsSpec)

/-- ITS FALSE NEIGHBOUR: 'it returns false'. Refute it at one input. -/
def patchPartsWrong : ChangeSpec := { name := "patchParts", fn := fun _ => fun
  | [d1, d2, d3] => { results := [.lit (.bool false)], args := [d1, d2, d3] }
  | _ => none }
def PatchPartsWrongFalsely : Prop := patchPartsRow.holds Tryz.pinned (OpenSpec.ofChange patchPartsWrong)

/-- 'chirographlaw16.PatchLess': WHATEVER THE INPUT: true; the input reads as it did. -/
def patchLessSpec : ChangeSpec := { name := "patchLess", fn := fun _ => fun
  | [d1, d2] => { results := [.lit (.bool true)], args := [d1, d2] }
  | _ => none }
def patchLessRow : OpenClaim := { program := "ytppgmphojklaeaagreatdoor", sum := "76c56853c9c394695ebf3947810a585cdf3545ebcb0b2494a6b0d5ae68428646", func := "chirograph/chirographlaw16.PatchLess", spec := "patchLess", inPlace := ["internal/bytealg.Compare"], unfollowed := true, recurses := true, named := ["chirograph/sha.cubes"], apart := false, laid := [("chirograph/sha.cubes", laid_chirograph_sha_cubes)] }
def PatchLessSaid : Prop := patchLessRow.holds Tryz.pinned (OpenSpec.ofChange patchLessSpec)

/-- ITS FALSE NEIGHBOUR: 'it returns false'. Refute it at one input. -/
def patchLessWrong : ChangeSpec := { name := "patchLess", fn := fun _ => fun
  | [d1, d2] => { results := [.lit (.bool false)], args := [d1, d2] }
  | _ => none }
def PatchLessWrongFalsely : Prop := patchLessRow.holds Tryz.pinned (OpenSpec.ofChange patchLessWrong)

/-- 'chirographlaw18.ProofMakes': WHATEVER THE INPUT: true; the input reads as it did. -/
def proofMakesSpec : ChangeSpec := { name := "proofMakes", fn := fun _ => fun
  | [d1, d2] => { results := [.lit (.bool true)], args := [d1, d2] }
  | _ => none }
def proofMakesRow : OpenClaim := { program := "ytppgmphojklaeaagreatdoor", sum := "76c56853c9c394695ebf3947810a585cdf3545ebcb0b2494a6b0d5ae68428646", func := "chirograph/chirographlaw18.ProofMakes", spec := "proofMakes", inPlace := ["internal/bytealg.Compare"], unfollowed := true, recurses := true, named := ["chirograph/sha.cubes"], apart := false, laid := [("chirograph/sha.cubes", laid_chirograph_sha_cubes)] }
def ProofMakesSaid : Prop := proofMakesRow.holds Tryz.pinned (OpenSpec.ofChange proofMakesSpec)

/-- ITS FALSE NEIGHBOUR: 'it returns false'. Refute it at one input. -/
def proofMakesWrong : ChangeSpec := { name := "proofMakes", fn := fun _ => fun
  | [d1, d2] => { results := [.lit (.bool false)], args := [d1, d2] }
  | _ => none }
def ProofMakesWrongFalsely : Prop := proofMakesRow.holds Tryz.pinned (OpenSpec.ofChange proofMakesWrong)

/-- 'chirographlaw18.ProofChecks': WHATEVER THE INPUT: true; the input reads as it did. -/
def proofChecksSpec : ChangeSpec := { name := "proofChecks", fn := fun _ => fun
  | [d1, d2, d3, d4] => { results := [.lit (.bool true)], args := [d1, d2, d3, d4] }
  | _ => none }
def proofChecksRow : OpenClaim := { program := "ytppgmphojklaeaagreatdoor", sum := "76c56853c9c394695ebf3947810a585cdf3545ebcb0b2494a6b0d5ae68428646", func := "chirograph/chirographlaw18.ProofChecks", spec := "proofChecks", inPlace := ["internal/bytealg.Compare", "internal/abi.NoEscape"], unfollowed := true, recurses := true, named := ["chirograph/sha.cubes"], apart := false, laid := [("chirograph/sha.cubes", laid_chirograph_sha_cubes)] }
def ProofChecksSaid : Prop := proofChecksRow.holds Tryz.pinned (OpenSpec.ofChange proofChecksSpec)

/-- ITS FALSE NEIGHBOUR: 'it returns false'. Refute it at one input. -/
def proofChecksWrong : ChangeSpec := { name := "proofChecks", fn := fun _ => fun
  | [d1, d2, d3, d4] => { results := [.lit (.bool false)], args := [d1, d2, d3, d4] }
  | _ => none }
def ProofChecksWrongFalsely : Prop := proofChecksRow.holds Tryz.pinned (OpenSpec.ofChange proofChecksWrong)

/-- 'chirographlaw18.ProofReads': WHATEVER THE INPUT: true; the input reads as it did. -/
def proofReadsSpec : ChangeSpec := { name := "proofReads", fn := fun _ => fun
  | [d1, d2] => { results := [.lit (.bool true)], args := [d1, d2] }
  | _ => none }
def proofReadsRow : OpenClaim := { program := "ytppgmphojklaeaagreatdoor", sum := "76c56853c9c394695ebf3947810a585cdf3545ebcb0b2494a6b0d5ae68428646", func := "chirograph/chirographlaw18.ProofReads", spec := "proofReads", inPlace := ["internal/bytealg.Compare"], unfollowed := true, recurses := true, named := ["chirograph/sha.cubes"], apart := false, laid := [("chirograph/sha.cubes", laid_chirograph_sha_cubes)] }
def ProofReadsSaid : Prop := proofReadsRow.holds Tryz.pinned (OpenSpec.ofChange proofReadsSpec)

/-- ITS FALSE NEIGHBOUR: 'it returns false'. Refute it at one input. -/
def proofReadsWrong : ChangeSpec := { name := "proofReads", fn := fun _ => fun
  | [d1, d2] => { results := [.lit (.bool false)], args := [d1, d2] }
  | _ => none }
def ProofReadsWrongFalsely : Prop := proofReadsRow.holds Tryz.pinned (OpenSpec.ofChange proofReadsWrong)

/-- 'chirographlaw18.ProofSure': WHATEVER THE INPUT: true; the input reads as it did. -/
def proofSureSpec : ChangeSpec := { name := "proofSure", fn := fun _ => fun
  | [d1, d2, d3] => { results := [.lit (.bool true)], args := [d1, d2, d3] }
  | _ => none }
def proofSureRow : OpenClaim := { program := "ytppgmphojklaeaagreatdoor", sum := "76c56853c9c394695ebf3947810a585cdf3545ebcb0b2494a6b0d5ae68428646", func := "chirograph/chirographlaw18.ProofSure", spec := "proofSure", inPlace := ["internal/bytealg.Compare", "internal/abi.NoEscape"], unfollowed := true, recurses := true, named := ["chirograph/sha.cubes"], apart := false, laid := [("chirograph/sha.cubes", laid_chirograph_sha_cubes)] }
def ProofSureSaid : Prop := proofSureRow.holds Tryz.pinned (OpenSpec.ofChange proofSureSpec)

/-- ITS FALSE NEIGHBOUR: 'it returns false'. Refute it at one input. -/
def proofSureWrong : ChangeSpec := { name := "proofSure", fn := fun _ => fun
  | [d1, d2, d3] => { results := [.lit (.bool false)], args := [d1, d2, d3] }
  | _ => none }
def ProofSureWrongFalsely : Prop := proofSureRow.holds Tryz.pinned (OpenSpec.ofChange proofSureWrong)

/-- 'chirographlaw18.ProofBack': WHATEVER THE INPUT: true; the input reads as it did. -/
def proofBackSpec : ChangeSpec := { name := "proofBack", fn := fun _ => fun
  | [d1, d2] => { results := [.lit (.bool true)], args := [d1, d2] }
  | _ => none }
def proofBackRow : OpenClaim := { program := "ytppgmphojklaeaagreatdoor", sum := "76c56853c9c394695ebf3947810a585cdf3545ebcb0b2494a6b0d5ae68428646", func := "chirograph/chirographlaw18.ProofBack", spec := "proofBack", inPlace := ["internal/bytealg.Compare"], unfollowed := true, recurses := true, named := ["chirograph/sha.cubes"], apart := false, laid := [("chirograph/sha.cubes", laid_chirograph_sha_cubes)] }
def ProofBackSaid : Prop := proofBackRow.holds Tryz.pinned (OpenSpec.ofChange proofBackSpec)

/-- ITS FALSE NEIGHBOUR: 'it returns false'. Refute it at one input. -/
def proofBackWrong : ChangeSpec := { name := "proofBack", fn := fun _ => fun
  | [d1, d2] => { results := [.lit (.bool false)], args := [d1, d2] }
  | _ => none }
def ProofBackWrongFalsely : Prop := proofBackRow.holds Tryz.pinned (OpenSpec.ofChange proofBackWrong)

/- THE SECOND FORM. 'bulk': how many values and letters a reading holds, each counted each time it is reached (what is shared counts as often as it is met; a slice's spare places count too). A statement '..UptoSaid' is the law's where the arguments, and the package variables that the reading takes, are together of bulk at most 1048576: NARROWER than '..Said'. Prove '..Said' where nothing that the law and all that it calls make is longer than what came in: it says more and counts as full. Else prove '..UptoSaid'. A law counts once. -/
mutual
def uptoBulk {H : Type} : DataW H → Nat
  | .lit (.string bytes) => bytes.length + 1
  | .lit _ => 1
  | .nil => 1
  | .ptr d => uptoBulk d + 1
  | .slice elems spare => uptoBulkAll elems + uptoBulkAll spare + 1
  | .agg parts => uptoBulkAll parts + 1
  | .iface _ d => uptoBulk d + 1
  | .map entries => uptoBulkEntries entries + 1
  | .held _ => 1
def uptoBulkAll {H : Type} : List (DataW H) → Nat
  | [] => 0
  | d :: r => uptoBulk d + uptoBulkAll r
def uptoBulkEntries {H : Type} : List (Lit × DataW H) → Nat
  | [] => 0
  | x :: r => uptoBulkEntry x + uptoBulkEntries r
def uptoBulkEntry {H : Type} : Lit × DataW H → Nat
  | (.string bytes, d) => bytes.length + uptoBulk d + 1
  | (_, d) => uptoBulk d + 1
 end
def uptoSmall : (H : Type) → List (DataW H) → Bool := fun _ ds => decide (uptoBulkAll ds ≤ 1048576)
def OpenSpec.upto (s : _root_.Go.ChangeSpec) : _root_.Go.OpenSpec := { _root_.Go.OpenSpec.ofChange s with cond := some uptoSmall }

/-- 'chirographlaw16.PatchTops', WHERE WHAT IT READS IS OF BULK AT MOST 1048576: true; the input reads as it did. -/
def patchTopsUptoRow : OpenClaim := { program := "ytppgmphojklaeaagreatdoor", sum := "76c56853c9c394695ebf3947810a585cdf3545ebcb0b2494a6b0d5ae68428646", func := "chirograph/chirographlaw16.PatchTops", spec := "patchTops", inPlace := ["internal/bytealg.Compare"], unfollowed := true, recurses := true, named := ["chirograph/sha.cubes"], apart := false, laid := [("chirograph/sha.cubes", laid_chirograph_sha_cubes)], narrowed := true }
def PatchTopsUptoSaid : Prop := patchTopsUptoRow.holds Tryz.pinned (OpenSpec.upto patchTopsSpec)

/-- 'chirographlaw16.PatchParts', WHERE WHAT IT READS IS OF BULK AT MOST 1048576: true; the input reads as it did. -/
def patchPartsUptoRow : OpenClaim := { program := "ytppgmphojklaeaagreatdoor", sum := "76c56853c9c394695ebf3947810a585cdf3545ebcb0b2494a6b0d5ae68428646", func := "chirograph/chirographlaw16.PatchParts", spec := "patchParts", inPlace := ["internal/bytealg.Compare"], unfollowed := true, recurses := true, named := ["chirograph/sha.cubes"], apart := false, laid := [("chirograph/sha.cubes", laid_chirograph_sha_cubes)], narrowed := true }
def PatchPartsUptoSaid : Prop := patchPartsUptoRow.holds Tryz.pinned (OpenSpec.upto patchPartsSpec)

/-- 'chirographlaw16.PatchLess', WHERE WHAT IT READS IS OF BULK AT MOST 1048576: true; the input reads as it did. -/
def patchLessUptoRow : OpenClaim := { program := "ytppgmphojklaeaagreatdoor", sum := "76c56853c9c394695ebf3947810a585cdf3545ebcb0b2494a6b0d5ae68428646", func := "chirograph/chirographlaw16.PatchLess", spec := "patchLess", inPlace := ["internal/bytealg.Compare"], unfollowed := true, recurses := true, named := ["chirograph/sha.cubes"], apart := false, laid := [("chirograph/sha.cubes", laid_chirograph_sha_cubes)], narrowed := true }
def PatchLessUptoSaid : Prop := patchLessUptoRow.holds Tryz.pinned (OpenSpec.upto patchLessSpec)

/-- 'chirographlaw18.ProofMakes', WHERE WHAT IT READS IS OF BULK AT MOST 1048576: true; the input reads as it did. -/
def proofMakesUptoRow : OpenClaim := { program := "ytppgmphojklaeaagreatdoor", sum := "76c56853c9c394695ebf3947810a585cdf3545ebcb0b2494a6b0d5ae68428646", func := "chirograph/chirographlaw18.ProofMakes", spec := "proofMakes", inPlace := ["internal/bytealg.Compare"], unfollowed := true, recurses := true, named := ["chirograph/sha.cubes"], apart := false, laid := [("chirograph/sha.cubes", laid_chirograph_sha_cubes)], narrowed := true }
def ProofMakesUptoSaid : Prop := proofMakesUptoRow.holds Tryz.pinned (OpenSpec.upto proofMakesSpec)

/-- 'chirographlaw18.ProofChecks', WHERE WHAT IT READS IS OF BULK AT MOST 1048576: true; the input reads as it did. -/
def proofChecksUptoRow : OpenClaim := { program := "ytppgmphojklaeaagreatdoor", sum := "76c56853c9c394695ebf3947810a585cdf3545ebcb0b2494a6b0d5ae68428646", func := "chirograph/chirographlaw18.ProofChecks", spec := "proofChecks", inPlace := ["internal/bytealg.Compare", "internal/abi.NoEscape"], unfollowed := true, recurses := true, named := ["chirograph/sha.cubes"], apart := false, laid := [("chirograph/sha.cubes", laid_chirograph_sha_cubes)], narrowed := true }
def ProofChecksUptoSaid : Prop := proofChecksUptoRow.holds Tryz.pinned (OpenSpec.upto proofChecksSpec)

/-- 'chirographlaw18.ProofReads', WHERE WHAT IT READS IS OF BULK AT MOST 1048576: true; the input reads as it did. -/
def proofReadsUptoRow : OpenClaim := { program := "ytppgmphojklaeaagreatdoor", sum := "76c56853c9c394695ebf3947810a585cdf3545ebcb0b2494a6b0d5ae68428646", func := "chirograph/chirographlaw18.ProofReads", spec := "proofReads", inPlace := ["internal/bytealg.Compare"], unfollowed := true, recurses := true, named := ["chirograph/sha.cubes"], apart := false, laid := [("chirograph/sha.cubes", laid_chirograph_sha_cubes)], narrowed := true }
def ProofReadsUptoSaid : Prop := proofReadsUptoRow.holds Tryz.pinned (OpenSpec.upto proofReadsSpec)

/-- 'chirographlaw18.ProofSure', WHERE WHAT IT READS IS OF BULK AT MOST 1048576: true; the input reads as it did. -/
def proofSureUptoRow : OpenClaim := { program := "ytppgmphojklaeaagreatdoor", sum := "76c56853c9c394695ebf3947810a585cdf3545ebcb0b2494a6b0d5ae68428646", func := "chirograph/chirographlaw18.ProofSure", spec := "proofSure", inPlace := ["internal/bytealg.Compare", "internal/abi.NoEscape"], unfollowed := true, recurses := true, named := ["chirograph/sha.cubes"], apart := false, laid := [("chirograph/sha.cubes", laid_chirograph_sha_cubes)], narrowed := true }
def ProofSureUptoSaid : Prop := proofSureUptoRow.holds Tryz.pinned (OpenSpec.upto proofSureSpec)

/-- 'chirographlaw18.ProofBack', WHERE WHAT IT READS IS OF BULK AT MOST 1048576: true; the input reads as it did. -/
def proofBackUptoRow : OpenClaim := { program := "ytppgmphojklaeaagreatdoor", sum := "76c56853c9c394695ebf3947810a585cdf3545ebcb0b2494a6b0d5ae68428646", func := "chirograph/chirographlaw18.ProofBack", spec := "proofBack", inPlace := ["internal/bytealg.Compare"], unfollowed := true, recurses := true, named := ["chirograph/sha.cubes"], apart := false, laid := [("chirograph/sha.cubes", laid_chirograph_sha_cubes)], narrowed := true }
def ProofBackUptoSaid : Prop := proofBackUptoRow.holds Tryz.pinned (OpenSpec.upto proofBackSpec)

end Rows
end Go.Proofs.YtppgmphojklaeaaGreatDoor
