/-
  NARROWER THAN 'FOR EVERY INPUT', by the rows' own cells (each row's printed sentence says how): ShaSums: laid · ShaMacs: laid · ShaJoins: laid · ShaTables: laid · ShaApart: laid · ShaKeys: laid · SealOpens: laid · ChirographSealed: laid.
  DERIVED. THE GIVEN ROWS OF THIS SEAT. 8 by the template 'for every input the law returns true; each argument reads behind the call as it read before'; 0 by the template 'total and deterministic' (their statements: YthmhjojabalddaaDoorTotals.lean).
  GIVEN WITH THE SEED: the statements are not yours to turn. If you find one false, say at which input.
  Laid BY PROGRAM, IN A SANDBOX (cutbox-rows.mjs): the forced cells as the released guide's own fill.sh prints them over the translation e546220c7ca76cf7… (all of the seat's roots in one cut). By AI agents, Wed Nov 11 2026. No macro, syntax, notation, axiom, sorry.
-/
import Derived.Test.YthmhjojabalddaaDoorChecked
import GoSem.Claim
import GoSem.ClaimJoined
import GoSem.ClaimMapViews
import Derived.JoinedTies
import Derived.KernelRfl
namespace Go.Proofs.YthmhjojabalddaaDoor
/- THE CELL 'sum', in the pinned program and in every row, IS THE sha256 OF THE DUMP (.gsa) THAT YthmhjojabalddaaDoorProg.lean LOADS. Nothing in Lean hashes anything: it is a label: what it is worth is what the hold of that sum in a sandbox is worth. -/
noncomputable def Tryd.pinned : Pinned := { name := "ythmhjojabalddaadoor", sum := "e546220c7ca76cf7a7b804c72bc44f1a72568e5cd24f11f6e45cb1c7c50742e0", checked := Tryd.checked }
namespace Rows
def none {H : Type} : Left H := { results := [], args := [] }

/- WHAT THE LISTED PACKAGE-LEVEL VARIABLES READ AS WHEN THE CALL BEGINS. Each datum BY PROGRAM (the guide's laid-datum.mjs) off the statement by which the dump's own 'gosem.cut.vars' lays the variable. In a bare row this is a premise. The card (YthmhjojabalddaaDoorCards.lean) ties it to the program's text. -/
def laid_chirograph_sha_cubes {H : Type} : DataW H := .agg [.lit (.int .u32 1116352408), .lit (.int .u32 1899447441), .lit (.int .u32 3049323471), .lit (.int .u32 3921009573), .lit (.int .u32 961987163), .lit (.int .u32 1508970993), .lit (.int .u32 2453635748), .lit (.int .u32 2870763221), .lit (.int .u32 3624381080), .lit (.int .u32 310598401), .lit (.int .u32 607225278), .lit (.int .u32 1426881987), .lit (.int .u32 1925078388), .lit (.int .u32 2162078206), .lit (.int .u32 2614888103), .lit (.int .u32 3248222580), .lit (.int .u32 3835390401), .lit (.int .u32 4022224774), .lit (.int .u32 264347078), .lit (.int .u32 604807628), .lit (.int .u32 770255983), .lit (.int .u32 1249150122), .lit (.int .u32 1555081692), .lit (.int .u32 1996064986), .lit (.int .u32 2554220882), .lit (.int .u32 2821834349), .lit (.int .u32 2952996808), .lit (.int .u32 3210313671), .lit (.int .u32 3336571891), .lit (.int .u32 3584528711), .lit (.int .u32 113926993), .lit (.int .u32 338241895), .lit (.int .u32 666307205), .lit (.int .u32 773529912), .lit (.int .u32 1294757372), .lit (.int .u32 1396182291), .lit (.int .u32 1695183700), .lit (.int .u32 1986661051), .lit (.int .u32 2177026350), .lit (.int .u32 2456956037), .lit (.int .u32 2730485921), .lit (.int .u32 2820302411), .lit (.int .u32 3259730800), .lit (.int .u32 3345764771), .lit (.int .u32 3516065817), .lit (.int .u32 3600352804), .lit (.int .u32 4094571909), .lit (.int .u32 275423344), .lit (.int .u32 430227734), .lit (.int .u32 506948616), .lit (.int .u32 659060556), .lit (.int .u32 883997877), .lit (.int .u32 958139571), .lit (.int .u32 1322822218), .lit (.int .u32 1537002063), .lit (.int .u32 1747873779), .lit (.int .u32 1955562222), .lit (.int .u32 2024104815), .lit (.int .u32 2227730452), .lit (.int .u32 2361852424), .lit (.int .u32 2428436474), .lit (.int .u32 2756734187), .lit (.int .u32 3204031479), .lit (.int .u32 3329325298)]
def laid_chirograph_seal_low {H : Type} : DataW H := .agg [.lit (.int .u32 0), .lit (.int .u32 1996959894), .lit (.int .u32 3993919788), .lit (.int .u32 2567524794), .lit (.int .u32 124634137), .lit (.int .u32 1886057615), .lit (.int .u32 3915621685), .lit (.int .u32 2657392035), .lit (.int .u32 249268274), .lit (.int .u32 2044508324), .lit (.int .u32 3772115230), .lit (.int .u32 2547177864), .lit (.int .u32 162941995), .lit (.int .u32 2125561021), .lit (.int .u32 3887607047), .lit (.int .u32 2428444049)]
def laid_chirograph_seal_high {H : Type} : DataW H := .agg [.lit (.int .u32 0), .lit (.int .u32 498536548), .lit (.int .u32 997073096), .lit (.int .u32 651767980), .lit (.int .u32 1994146192), .lit (.int .u32 1802195444), .lit (.int .u32 1303535960), .lit (.int .u32 1342533948), .lit (.int .u32 3988292384), .lit (.int .u32 4027552580), .lit (.int .u32 3604390888), .lit (.int .u32 3412177804), .lit (.int .u32 2607071920), .lit (.int .u32 2262029012), .lit (.int .u32 2685067896), .lit (.int .u32 3183342108)]

/-- 'chirographlaw03.ShaSums': WHATEVER THE INPUT: true; the input reads as it did. -/
def shaSumsSpec : ChangeSpec := { name := "shaSums", fn := fun _ => fun
  | [d] => { results := [.lit (.bool true)], args := [d] }
  | _ => none }
def shaSumsRow : OpenClaim := { program := "ythmhjojabalddaadoor", sum := "e546220c7ca76cf7a7b804c72bc44f1a72568e5cd24f11f6e45cb1c7c50742e0", func := "chirograph/chirographlaw03.ShaSums", spec := "shaSums", named := ["chirograph/sha.cubes"], apart := false, laid := [("chirograph/sha.cubes", laid_chirograph_sha_cubes)] }
def ShaSumsSaid : Prop := shaSumsRow.holds Tryd.pinned (OpenSpec.ofChange shaSumsSpec)

/-- ITS FALSE NEIGHBOUR: 'it returns false'. Refute it at one input. -/
def shaSumsWrong : ChangeSpec := { name := "shaSums", fn := fun _ => fun
  | [d] => { results := [.lit (.bool false)], args := [d] }
  | _ => none }
def ShaSumsWrongFalsely : Prop := shaSumsRow.holds Tryd.pinned (OpenSpec.ofChange shaSumsWrong)

/-- 'chirographlaw03.ShaMacs': WHATEVER THE INPUT: true; the input reads as it did. -/
def shaMacsSpec : ChangeSpec := { name := "shaMacs", fn := fun _ => fun
  | [d1, d2] => { results := [.lit (.bool true)], args := [d1, d2] }
  | _ => none }
def shaMacsRow : OpenClaim := { program := "ythmhjojabalddaadoor", sum := "e546220c7ca76cf7a7b804c72bc44f1a72568e5cd24f11f6e45cb1c7c50742e0", func := "chirograph/chirographlaw03.ShaMacs", spec := "shaMacs", named := ["chirograph/sha.cubes"], apart := false, laid := [("chirograph/sha.cubes", laid_chirograph_sha_cubes)] }
def ShaMacsSaid : Prop := shaMacsRow.holds Tryd.pinned (OpenSpec.ofChange shaMacsSpec)

/-- ITS FALSE NEIGHBOUR: 'it returns false'. Refute it at one input. -/
def shaMacsWrong : ChangeSpec := { name := "shaMacs", fn := fun _ => fun
  | [d1, d2] => { results := [.lit (.bool false)], args := [d1, d2] }
  | _ => none }
def ShaMacsWrongFalsely : Prop := shaMacsRow.holds Tryd.pinned (OpenSpec.ofChange shaMacsWrong)

/-- 'chirographlaw03.ShaJoins': WHATEVER THE INPUT: true; the input reads as it did. -/
def shaJoinsSpec : ChangeSpec := { name := "shaJoins", fn := fun _ => fun
  | [d1, d2] => { results := [.lit (.bool true)], args := [d1, d2] }
  | _ => none }
def shaJoinsRow : OpenClaim := { program := "ythmhjojabalddaadoor", sum := "e546220c7ca76cf7a7b804c72bc44f1a72568e5cd24f11f6e45cb1c7c50742e0", func := "chirograph/chirographlaw03.ShaJoins", spec := "shaJoins", named := ["chirograph/sha.cubes"], apart := false, laid := [("chirograph/sha.cubes", laid_chirograph_sha_cubes)] }
def ShaJoinsSaid : Prop := shaJoinsRow.holds Tryd.pinned (OpenSpec.ofChange shaJoinsSpec)

/-- ITS FALSE NEIGHBOUR: 'it returns false'. Refute it at one input. -/
def shaJoinsWrong : ChangeSpec := { name := "shaJoins", fn := fun _ => fun
  | [d1, d2] => { results := [.lit (.bool false)], args := [d1, d2] }
  | _ => none }
def ShaJoinsWrongFalsely : Prop := shaJoinsRow.holds Tryd.pinned (OpenSpec.ofChange shaJoinsWrong)

/-- 'chirographlaw03.ShaTables': WHATEVER THE INPUT: true; the input reads as it did. -/
def shaTablesSpec : ChangeSpec := { name := "shaTables", fn := fun _ => fun
  | [d] => { results := [.lit (.bool true)], args := [d] }
  | _ => none }
def shaTablesRow : OpenClaim := { program := "ythmhjojabalddaadoor", sum := "e546220c7ca76cf7a7b804c72bc44f1a72568e5cd24f11f6e45cb1c7c50742e0", func := "chirograph/chirographlaw03.ShaTables", spec := "shaTables", named := ["chirograph/sha.cubes"], apart := false, laid := [("chirograph/sha.cubes", laid_chirograph_sha_cubes)] }
def ShaTablesSaid : Prop := shaTablesRow.holds Tryd.pinned (OpenSpec.ofChange shaTablesSpec)

/-- ITS FALSE NEIGHBOUR: 'it returns false'. Refute it at one input. -/
def shaTablesWrong : ChangeSpec := { name := "shaTables", fn := fun _ => fun
  | [d] => { results := [.lit (.bool false)], args := [d] }
  | _ => none }
def ShaTablesWrongFalsely : Prop := shaTablesRow.holds Tryd.pinned (OpenSpec.ofChange shaTablesWrong)

/-- 'chirographlaw03.ShaApart': WHATEVER THE INPUT: true; the input reads as it did. -/
def shaApartSpec : ChangeSpec := { name := "shaApart", fn := fun _ => fun
  | [d1, d2, d3, d4] => { results := [.lit (.bool true)], args := [d1, d2, d3, d4] }
  | _ => none }
def shaApartRow : OpenClaim := { program := "ythmhjojabalddaadoor", sum := "e546220c7ca76cf7a7b804c72bc44f1a72568e5cd24f11f6e45cb1c7c50742e0", func := "chirograph/chirographlaw03.ShaApart", spec := "shaApart", named := ["chirograph/sha.cubes"], apart := false, laid := [("chirograph/sha.cubes", laid_chirograph_sha_cubes)] }
def ShaApartSaid : Prop := shaApartRow.holds Tryd.pinned (OpenSpec.ofChange shaApartSpec)

/-- ITS FALSE NEIGHBOUR: 'it returns false'. Refute it at one input. -/
def shaApartWrong : ChangeSpec := { name := "shaApart", fn := fun _ => fun
  | [d1, d2, d3, d4] => { results := [.lit (.bool false)], args := [d1, d2, d3, d4] }
  | _ => none }
def ShaApartWrongFalsely : Prop := shaApartRow.holds Tryd.pinned (OpenSpec.ofChange shaApartWrong)

/-- 'chirographlaw03.ShaKeys': WHATEVER THE INPUT: true; the input reads as it did. -/
def shaKeysSpec : ChangeSpec := { name := "shaKeys", fn := fun _ => fun
  | [d1, d2] => { results := [.lit (.bool true)], args := [d1, d2] }
  | _ => none }
def shaKeysRow : OpenClaim := { program := "ythmhjojabalddaadoor", sum := "e546220c7ca76cf7a7b804c72bc44f1a72568e5cd24f11f6e45cb1c7c50742e0", func := "chirograph/chirographlaw03.ShaKeys", spec := "shaKeys", named := ["chirograph/sha.cubes"], apart := false, laid := [("chirograph/sha.cubes", laid_chirograph_sha_cubes)] }
def ShaKeysSaid : Prop := shaKeysRow.holds Tryd.pinned (OpenSpec.ofChange shaKeysSpec)

/-- ITS FALSE NEIGHBOUR: 'it returns false'. Refute it at one input. -/
def shaKeysWrong : ChangeSpec := { name := "shaKeys", fn := fun _ => fun
  | [d1, d2] => { results := [.lit (.bool false)], args := [d1, d2] }
  | _ => none }
def ShaKeysWrongFalsely : Prop := shaKeysRow.holds Tryd.pinned (OpenSpec.ofChange shaKeysWrong)

/-- 'chirographlaw04.SealOpens': WHATEVER THE INPUT: true; the input reads as it did. -/
def sealOpensSpec : ChangeSpec := { name := "sealOpens", fn := fun _ => fun
  | [d] => { results := [.lit (.bool true)], args := [d] }
  | _ => none }
def sealOpensRow : OpenClaim := { program := "ythmhjojabalddaadoor", sum := "e546220c7ca76cf7a7b804c72bc44f1a72568e5cd24f11f6e45cb1c7c50742e0", func := "chirograph/chirographlaw04.SealOpens", spec := "sealOpens", named := ["chirograph/seal.low", "chirograph/seal.high"], apart := false, laid := [("chirograph/seal.low", laid_chirograph_seal_low), ("chirograph/seal.high", laid_chirograph_seal_high)] }
def SealOpensSaid : Prop := sealOpensRow.holds Tryd.pinned (OpenSpec.ofChange sealOpensSpec)

/-- ITS FALSE NEIGHBOUR: 'it returns false'. Refute it at one input. -/
def sealOpensWrong : ChangeSpec := { name := "sealOpens", fn := fun _ => fun
  | [d] => { results := [.lit (.bool false)], args := [d] }
  | _ => none }
def SealOpensWrongFalsely : Prop := sealOpensRow.holds Tryd.pinned (OpenSpec.ofChange sealOpensWrong)

/-- 'chirographtop.ChirographSealed': WHATEVER THE INPUT: true; the input reads as it did. -/
def chirographSealedSpec : ChangeSpec := { name := "chirographSealed", fn := fun _ => fun
  | [d1, d2] => { results := [.lit (.bool true)], args := [d1, d2] }
  | _ => none }
def chirographSealedRow : OpenClaim := { program := "ythmhjojabalddaadoor", sum := "e546220c7ca76cf7a7b804c72bc44f1a72568e5cd24f11f6e45cb1c7c50742e0", func := "chirograph/chirographtop.ChirographSealed", spec := "chirographSealed", named := ["chirograph/seal.low", "chirograph/seal.high", "chirograph/sha.cubes"], apart := false, laid := [("chirograph/sha.cubes", laid_chirograph_sha_cubes), ("chirograph/seal.low", laid_chirograph_seal_low), ("chirograph/seal.high", laid_chirograph_seal_high)] }
def ChirographSealedSaid : Prop := chirographSealedRow.holds Tryd.pinned (OpenSpec.ofChange chirographSealedSpec)

/-- ITS FALSE NEIGHBOUR: 'it returns false'. Refute it at one input. -/
def chirographSealedWrong : ChangeSpec := { name := "chirographSealed", fn := fun _ => fun
  | [d1, d2] => { results := [.lit (.bool false)], args := [d1, d2] }
  | _ => none }
def ChirographSealedWrongFalsely : Prop := chirographSealedRow.holds Tryd.pinned (OpenSpec.ofChange chirographSealedWrong)

/- THE SECOND FORM. 'bulk': how many values and letters a reading holds, each counted each time it is reached (what is shared counts as often as it is met; a slice's spare places count too). A statement '..UptoSaid' is the law's where the arguments, and the package variables that the reading takes, are together of bulk at most 1048576: NARROWER than '..Said'. Prove '..Said' where nothing that the law and all that it calls make is longer than what came in: it says more and counts as full. Else prove '..UptoSaid'. A law counts once. -/
mutual
def uptoBulk {H : Type} : DataW H → Nat
  | .lit (.string bytes) => bytes.length + 1
  | .lit _ => 1
  | .nil => 1
  | .ptr d => uptoBulk d + 1
  | .slice elems spare => uptoBulkAll elems + uptoBulkAll spare + 1
  | .agg parts => uptoBulkAll parts + 1
  | .iface _ d => uptoBulk d + 1
  | .map entries => uptoBulkEntries entries + 1
  | .held _ => 1
def uptoBulkAll {H : Type} : List (DataW H) → Nat
  | [] => 0
  | d :: r => uptoBulk d + uptoBulkAll r
def uptoBulkEntries {H : Type} : List (Lit × DataW H) → Nat
  | [] => 0
  | x :: r => uptoBulkEntry x + uptoBulkEntries r
def uptoBulkEntry {H : Type} : Lit × DataW H → Nat
  | (.string bytes, d) => bytes.length + uptoBulk d + 1
  | (_, d) => uptoBulk d + 1
 end
def uptoSmall : (H : Type) → List (DataW H) → Bool := fun _ ds => decide (uptoBulkAll ds ≤ 1048576)
def OpenSpec.upto (s : _root_.Go.ChangeSpec) : _root_.Go.OpenSpec := { _root_.Go.OpenSpec.ofChange s with cond := some uptoSmall }

/-- 'chirographlaw03.ShaSums', WHERE WHAT IT READS IS OF BULK AT MOST 1048576: true; the input reads as it did. -/
def shaSumsUptoRow : OpenClaim := { program := "ythmhjojabalddaadoor", sum := "e546220c7ca76cf7a7b804c72bc44f1a72568e5cd24f11f6e45cb1c7c50742e0", func := "chirograph/chirographlaw03.ShaSums", spec := "shaSums", named := ["chirograph/sha.cubes"], apart := false, laid := [("chirograph/sha.cubes", laid_chirograph_sha_cubes)], narrowed := true }
def ShaSumsUptoSaid : Prop := shaSumsUptoRow.holds Tryd.pinned (OpenSpec.upto shaSumsSpec)

/-- 'chirographlaw03.ShaMacs', WHERE WHAT IT READS IS OF BULK AT MOST 1048576: true; the input reads as it did. -/
def shaMacsUptoRow : OpenClaim := { program := "ythmhjojabalddaadoor", sum := "e546220c7ca76cf7a7b804c72bc44f1a72568e5cd24f11f6e45cb1c7c50742e0", func := "chirograph/chirographlaw03.ShaMacs", spec := "shaMacs", named := ["chirograph/sha.cubes"], apart := false, laid := [("chirograph/sha.cubes", laid_chirograph_sha_cubes)], narrowed := true }
def ShaMacsUptoSaid : Prop := shaMacsUptoRow.holds Tryd.pinned (OpenSpec.upto shaMacsSpec)

/-- 'chirographlaw03.ShaJoins', WHERE WHAT IT READS IS OF BULK AT MOST 1048576: true; the input reads as it did. -/
def shaJoinsUptoRow : OpenClaim := { program := "ythmhjojabalddaadoor", sum := "e546220c7ca76cf7a7b804c72bc44f1a72568e5cd24f11f6e45cb1c7c50742e0", func := "chirograph/chirographlaw03.ShaJoins", spec := "shaJoins", named := ["chirograph/sha.cubes"], apart := false, laid := [("chirograph/sha.cubes", laid_chirograph_sha_cubes)], narrowed := true }
def ShaJoinsUptoSaid : Prop := shaJoinsUptoRow.holds Tryd.pinned (OpenSpec.upto shaJoinsSpec)

/-- 'chirographlaw03.ShaTables', WHERE WHAT IT READS IS OF BULK AT MOST 1048576: true; the input reads as it did. -/
def shaTablesUptoRow : OpenClaim := { program := "ythmhjojabalddaadoor", sum := "e546220c7ca76cf7a7b804c72bc44f1a72568e5cd24f11f6e45cb1c7c50742e0", func := "chirograph/chirographlaw03.ShaTables", spec := "shaTables", named := ["chirograph/sha.cubes"], apart := false, laid := [("chirograph/sha.cubes", laid_chirograph_sha_cubes)], narrowed := true }
def ShaTablesUptoSaid : Prop := shaTablesUptoRow.holds Tryd.pinned (OpenSpec.upto shaTablesSpec)

/-- 'chirographlaw03.ShaApart', WHERE WHAT IT READS IS OF BULK AT MOST 1048576: true; the input reads as it did. -/
def shaApartUptoRow : OpenClaim := { program := "ythmhjojabalddaadoor", sum := "e546220c7ca76cf7a7b804c72bc44f1a72568e5cd24f11f6e45cb1c7c50742e0", func := "chirograph/chirographlaw03.ShaApart", spec := "shaApart", named := ["chirograph/sha.cubes"], apart := false, laid := [("chirograph/sha.cubes", laid_chirograph_sha_cubes)], narrowed := true }
def ShaApartUptoSaid : Prop := shaApartUptoRow.holds Tryd.pinned (OpenSpec.upto shaApartSpec)

/-- 'chirographlaw03.ShaKeys', WHERE WHAT IT READS IS OF BULK AT MOST 1048576: true; the input reads as it did. -/
def shaKeysUptoRow : OpenClaim := { program := "ythmhjojabalddaadoor", sum := "e546220c7ca76cf7a7b804c72bc44f1a72568e5cd24f11f6e45cb1c7c50742e0", func := "chirograph/chirographlaw03.ShaKeys", spec := "shaKeys", named := ["chirograph/sha.cubes"], apart := false, laid := [("chirograph/sha.cubes", laid_chirograph_sha_cubes)], narrowed := true }
def ShaKeysUptoSaid : Prop := shaKeysUptoRow.holds Tryd.pinned (OpenSpec.upto shaKeysSpec)

/-- 'chirographlaw04.SealOpens', WHERE WHAT IT READS IS OF BULK AT MOST 1048576: true; the input reads as it did. -/
def sealOpensUptoRow : OpenClaim := { program := "ythmhjojabalddaadoor", sum := "e546220c7ca76cf7a7b804c72bc44f1a72568e5cd24f11f6e45cb1c7c50742e0", func := "chirograph/chirographlaw04.SealOpens", spec := "sealOpens", named := ["chirograph/seal.low", "chirograph/seal.high"], apart := false, laid := [("chirograph/seal.low", laid_chirograph_seal_low), ("chirograph/seal.high", laid_chirograph_seal_high)], narrowed := true }
def SealOpensUptoSaid : Prop := sealOpensUptoRow.holds Tryd.pinned (OpenSpec.upto sealOpensSpec)

/-- 'chirographtop.ChirographSealed', WHERE WHAT IT READS IS OF BULK AT MOST 1048576: true; the input reads as it did. -/
def chirographSealedUptoRow : OpenClaim := { program := "ythmhjojabalddaadoor", sum := "e546220c7ca76cf7a7b804c72bc44f1a72568e5cd24f11f6e45cb1c7c50742e0", func := "chirograph/chirographtop.ChirographSealed", spec := "chirographSealed", named := ["chirograph/seal.low", "chirograph/seal.high", "chirograph/sha.cubes"], apart := false, laid := [("chirograph/sha.cubes", laid_chirograph_sha_cubes), ("chirograph/seal.low", laid_chirograph_seal_low), ("chirograph/seal.high", laid_chirograph_seal_high)], narrowed := true }
def ChirographSealedUptoSaid : Prop := chirographSealedUptoRow.holds Tryd.pinned (OpenSpec.upto chirographSealedSpec)

end Rows
end Go.Proofs.YthmhjojabalddaaDoor
