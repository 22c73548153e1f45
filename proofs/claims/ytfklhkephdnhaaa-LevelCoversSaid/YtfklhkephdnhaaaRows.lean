/-
  No cell of these rows narrows 'for every input' (looked for: loops, veiled, ifaces, maps, wideKeys, modest, calm, conditions, laid).
  DERIVED. THE GIVEN ROWS OF THIS SEAT. 5 by the template 'for every input the law returns true; each argument reads behind the call as it read before'; 0 by the template 'total and deterministic' (their statements: YtfklhkephdnhaaaTotals.lean).
  GIVEN WITH THE SEED: the statements are not yours to turn. If you find one false, say at which input.
  Laid BY PROGRAM, IN A SANDBOX (cutbox-rows.mjs): the forced cells as the released guide's own fill.sh prints them over the translation d973dae340bf37d2… (all of the seat's roots in one cut). By AI agents, Wed Nov 11 2026. No macro, syntax, notation, axiom, sorry.
-/
import Derived.Test.YtfklhkephdnhaaaChecked
import GoSem.Claim
import GoSem.ClaimJoined
import GoSem.ClaimMapViews
import Derived.JoinedTies
import Derived.KernelRfl
namespace Go.Proofs.Ytfklhkephdnhaaa
/- THE CELL 'sum', in the pinned program and in every row, IS THE sha256 OF THE DUMP (.gsa) THAT YtfklhkephdnhaaaProg.lean LOADS. Nothing in Lean hashes anything: it is a label: what it is worth is what the hold of that sum in a sandbox is worth. -/
noncomputable def Try.pinned : Pinned := { name := "ytfklhkephdnhaaa", sum := "d973dae340bf37d20eef019903bbf634ee462e718d9642d7977f15c2ddffca0b", checked := Try.checked }
namespace Rows
def none {H : Type} : Left H := { results := [], args := [] }

/-- 'chirographlaw11.LevelApplies': WHATEVER THE INPUT: true; the input reads as it did. -/
def levelAppliesSpec : ChangeSpec := { name := "levelApplies", fn := fun _ => fun
  | [d1, d2, d3, d4] => { results := [.lit (.bool true)], args := [d1, d2, d3, d4] }
  | _ => none }
def levelAppliesRow : OpenClaim := { program := "ytfklhkephdnhaaa", sum := "d973dae340bf37d20eef019903bbf634ee462e718d9642d7977f15c2ddffca0b", func := "chirograph/chirographlaw11.LevelApplies", spec := "levelApplies", inPlace := ["internal/bytealg.abigen_runtime_cmpstring"], unfollowed := true, recurses := true, apart := false }
def LevelAppliesSaid : Prop := levelAppliesRow.holds Try.pinned (OpenSpec.ofChange levelAppliesSpec)

/-- ITS FALSE NEIGHBOUR: 'it returns false'. Refute it at one input. -/
def levelAppliesWrong : ChangeSpec := { name := "levelApplies", fn := fun _ => fun
  | [d1, d2, d3, d4] => { results := [.lit (.bool false)], args := [d1, d2, d3, d4] }
  | _ => none }
def LevelAppliesWrongFalsely : Prop := levelAppliesRow.holds Try.pinned (OpenSpec.ofChange levelAppliesWrong)

/-- 'chirographlaw11.LevelPicks': WHATEVER THE INPUT: true; the input reads as it did. -/
def levelPicksSpec : ChangeSpec := { name := "levelPicks", fn := fun _ => fun
  | [d1, d2] => { results := [.lit (.bool true)], args := [d1, d2] }
  | _ => none }
def levelPicksRow : OpenClaim := { program := "ytfklhkephdnhaaa", sum := "d973dae340bf37d20eef019903bbf634ee462e718d9642d7977f15c2ddffca0b", func := "chirograph/chirographlaw11.LevelPicks", spec := "levelPicks", inPlace := ["internal/bytealg.abigen_runtime_cmpstring"], unfollowed := true, recurses := true, apart := false }
def LevelPicksSaid : Prop := levelPicksRow.holds Try.pinned (OpenSpec.ofChange levelPicksSpec)

/-- ITS FALSE NEIGHBOUR: 'it returns false'. Refute it at one input. -/
def levelPicksWrong : ChangeSpec := { name := "levelPicks", fn := fun _ => fun
  | [d1, d2] => { results := [.lit (.bool false)], args := [d1, d2] }
  | _ => none }
def LevelPicksWrongFalsely : Prop := levelPicksRow.holds Try.pinned (OpenSpec.ofChange levelPicksWrong)

/-- 'chirographlaw11.LevelWhole': WHATEVER THE INPUT: true; the input reads as it did. -/
def levelWholeSpec : ChangeSpec := { name := "levelWhole", fn := fun _ => fun
  | [d] => { results := [.lit (.bool true)], args := [d] }
  | _ => none }
def levelWholeRow : OpenClaim := { program := "ytfklhkephdnhaaa", sum := "d973dae340bf37d20eef019903bbf634ee462e718d9642d7977f15c2ddffca0b", func := "chirograph/chirographlaw11.LevelWhole", spec := "levelWhole", inPlace := ["internal/bytealg.abigen_runtime_cmpstring"], unfollowed := true, recurses := true, apart := false }
def LevelWholeSaid : Prop := levelWholeRow.holds Try.pinned (OpenSpec.ofChange levelWholeSpec)

/-- ITS FALSE NEIGHBOUR: 'it returns false'. Refute it at one input. -/
def levelWholeWrong : ChangeSpec := { name := "levelWhole", fn := fun _ => fun
  | [d] => { results := [.lit (.bool false)], args := [d] }
  | _ => none }
def LevelWholeWrongFalsely : Prop := levelWholeRow.holds Try.pinned (OpenSpec.ofChange levelWholeWrong)

/-- 'chirographlaw11.LevelCovers': WHATEVER THE INPUT: true; the input reads as it did. -/
def levelCoversSpec : ChangeSpec := { name := "levelCovers", fn := fun _ => fun
  | [d1, d2, d3] => { results := [.lit (.bool true)], args := [d1, d2, d3] }
  | _ => none }
def levelCoversRow : OpenClaim := { program := "ytfklhkephdnhaaa", sum := "d973dae340bf37d20eef019903bbf634ee462e718d9642d7977f15c2ddffca0b", func := "chirograph/chirographlaw11.LevelCovers", spec := "levelCovers", inPlace := ["internal/bytealg.abigen_runtime_cmpstring"], unfollowed := true, recurses := true, apart := false }
def LevelCoversSaid : Prop := levelCoversRow.holds Try.pinned (OpenSpec.ofChange levelCoversSpec)

/-- ITS FALSE NEIGHBOUR: 'it returns false'. Refute it at one input. -/
def levelCoversWrong : ChangeSpec := { name := "levelCovers", fn := fun _ => fun
  | [d1, d2, d3] => { results := [.lit (.bool false)], args := [d1, d2, d3] }
  | _ => none }
def LevelCoversWrongFalsely : Prop := levelCoversRow.holds Try.pinned (OpenSpec.ofChange levelCoversWrong)

/-- 'chirographtop.ChirographLevels': WHATEVER THE INPUT: true; the input reads as it did. -/
def chirographLevelsSpec : ChangeSpec := { name := "chirographLevels", fn := fun _ => fun
  | [d1, d2, d3] => { results := [.lit (.bool true)], args := [d1, d2, d3] }
  | _ => none }
def chirographLevelsRow : OpenClaim := { program := "ytfklhkephdnhaaa", sum := "d973dae340bf37d20eef019903bbf634ee462e718d9642d7977f15c2ddffca0b", func := "chirograph/chirographtop.ChirographLevels", spec := "chirographLevels", inPlace := ["internal/bytealg.abigen_runtime_cmpstring"], unfollowed := true, recurses := true, apart := false }
def ChirographLevelsSaid : Prop := chirographLevelsRow.holds Try.pinned (OpenSpec.ofChange chirographLevelsSpec)

/-- ITS FALSE NEIGHBOUR: 'it returns false'. Refute it at one input. -/
def chirographLevelsWrong : ChangeSpec := { name := "chirographLevels", fn := fun _ => fun
  | [d1, d2, d3] => { results := [.lit (.bool false)], args := [d1, d2, d3] }
  | _ => none }
def ChirographLevelsWrongFalsely : Prop := chirographLevelsRow.holds Try.pinned (OpenSpec.ofChange chirographLevelsWrong)

/- THE SECOND FORM. 'bulk': how many values and letters a reading holds, each counted each time it is reached (what is shared counts as often as it is met; a slice's spare places count too). A statement '..UptoSaid' is the law's where the arguments, and the package variables that the reading takes, are together of bulk at most 1048576: NARROWER than '..Said'. Prove '..Said' where nothing that the law and all that it calls make is longer than what came in: it says more and counts as full. Else prove '..UptoSaid'. A law counts once. -/
mutual
def uptoBulk {H : Type} : DataW H → Nat
  | .lit (.string bytes) => bytes.length + 1
  | .lit _ => 1
  | .nil => 1
  | .ptr d => uptoBulk d + 1
  | .slice elems spare => uptoBulkAll elems + uptoBulkAll spare + 1
  | .agg parts => uptoBulkAll parts + 1
  | .iface _ d => uptoBulk d + 1
  | .map entries => uptoBulkEntries entries + 1
  | .held _ => 1
def uptoBulkAll {H : Type} : List (DataW H) → Nat
  | [] => 0
  | d :: r => uptoBulk d + uptoBulkAll r
def uptoBulkEntries {H : Type} : List (Lit × DataW H) → Nat
  | [] => 0
  | x :: r => uptoBulkEntry x + uptoBulkEntries r
def uptoBulkEntry {H : Type} : Lit × DataW H → Nat
  | (.string bytes, d) => bytes.length + uptoBulk d + 1
  | (_, d) => uptoBulk d + 1
 end
def uptoSmall : (H : Type) → List (DataW H) → Bool := fun _ ds => decide (uptoBulkAll ds ≤ 1048576)
def OpenSpec.upto (s : _root_.Go.ChangeSpec) : _root_.Go.OpenSpec := { _root_.Go.OpenSpec.ofChange s with cond := some uptoSmall }

/-- 'chirographlaw11.LevelApplies', WHERE WHAT IT READS IS OF BULK AT MOST 1048576: true; the input reads as it did. -/
def levelAppliesUptoRow : OpenClaim := { program := "ytfklhkephdnhaaa", sum := "d973dae340bf37d20eef019903bbf634ee462e718d9642d7977f15c2ddffca0b", func := "chirograph/chirographlaw11.LevelApplies", spec := "levelApplies", inPlace := ["internal/bytealg.abigen_runtime_cmpstring"], unfollowed := true, recurses := true, apart := false, narrowed := true }
def LevelAppliesUptoSaid : Prop := levelAppliesUptoRow.holds Try.pinned (OpenSpec.upto levelAppliesSpec)

/-- 'chirographlaw11.LevelPicks', WHERE WHAT IT READS IS OF BULK AT MOST 1048576: true; the input reads as it did. -/
def levelPicksUptoRow : OpenClaim := { program := "ytfklhkephdnhaaa", sum := "d973dae340bf37d20eef019903bbf634ee462e718d9642d7977f15c2ddffca0b", func := "chirograph/chirographlaw11.LevelPicks", spec := "levelPicks", inPlace := ["internal/bytealg.abigen_runtime_cmpstring"], unfollowed := true, recurses := true, apart := false, narrowed := true }
def LevelPicksUptoSaid : Prop := levelPicksUptoRow.holds Try.pinned (OpenSpec.upto levelPicksSpec)

/-- 'chirographlaw11.LevelWhole', WHERE WHAT IT READS IS OF BULK AT MOST 1048576: true; the input reads as it did. -/
def levelWholeUptoRow : OpenClaim := { program := "ytfklhkephdnhaaa", sum := "d973dae340bf37d20eef019903bbf634ee462e718d9642d7977f15c2ddffca0b", func := "chirograph/chirographlaw11.LevelWhole", spec := "levelWhole", inPlace := ["internal/bytealg.abigen_runtime_cmpstring"], unfollowed := true, recurses := true, apart := false, narrowed := true }
def LevelWholeUptoSaid : Prop := levelWholeUptoRow.holds Try.pinned (OpenSpec.upto levelWholeSpec)

/-- 'chirographlaw11.LevelCovers', WHERE WHAT IT READS IS OF BULK AT MOST 1048576: true; the input reads as it did. -/
def levelCoversUptoRow : OpenClaim := { program := "ytfklhkephdnhaaa", sum := "d973dae340bf37d20eef019903bbf634ee462e718d9642d7977f15c2ddffca0b", func := "chirograph/chirographlaw11.LevelCovers", spec := "levelCovers", inPlace := ["internal/bytealg.abigen_runtime_cmpstring"], unfollowed := true, recurses := true, apart := false, narrowed := true }
def LevelCoversUptoSaid : Prop := levelCoversUptoRow.holds Try.pinned (OpenSpec.upto levelCoversSpec)

/-- 'chirographtop.ChirographLevels', WHERE WHAT IT READS IS OF BULK AT MOST 1048576: true; the input reads as it did. -/
def chirographLevelsUptoRow : OpenClaim := { program := "ytfklhkephdnhaaa", sum := "d973dae340bf37d20eef019903bbf634ee462e718d9642d7977f15c2ddffca0b", func := "chirograph/chirographtop.ChirographLevels", spec := "chirographLevels", inPlace := ["internal/bytealg.abigen_runtime_cmpstring"], unfollowed := true, recurses := true, apart := false, narrowed := true }
def ChirographLevelsUptoSaid : Prop := chirographLevelsUptoRow.holds Try.pinned (OpenSpec.upto chirographLevelsSpec)

end Rows
end Go.Proofs.Ytfklhkephdnhaaa
