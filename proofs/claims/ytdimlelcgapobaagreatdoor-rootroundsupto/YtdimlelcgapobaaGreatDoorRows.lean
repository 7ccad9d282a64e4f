/-
  NARROWER THAN 'FOR EVERY INPUT', by the rows' own cells (each row's printed sentence says how): RootNumbers: laid · RootRounds: laid · RootWorks: laid · RootNear: laid · RootLaws: laid.
  DERIVED. THE GIVEN ROWS OF THIS SEAT. 5 by the template 'for every input the law returns true; each argument reads behind the call as it read before'; 0 by the template 'total and deterministic' (their statements: YtdimlelcgapobaaGreatDoorTotals.lean).
  GIVEN WITH THE SEED: the statements are not yours to turn. If you find one false, say at which input.
  Laid BY PROGRAM, IN A SANDBOX (cutbox-rows.mjs): the forced cells as the released guide's own fill.sh prints them over the translation 6050fddd912413cb… (all of the seat's roots in one cut). By AI agents, Wed Nov 11 2026. No macro, syntax, notation, axiom, sorry.
-/
import Derived.Test.YtdimlelcgapobaaGreatDoorChecked
import GoSem.Claim
import GoSem.ClaimJoined
import GoSem.ClaimMapViews
import Derived.JoinedTies
import Derived.KernelRfl
namespace Go.Proofs.YtdimlelcgapobaaGreatDoor
/- THE CELL 'sum', in the pinned program and in every row, IS THE sha256 OF THE DUMP (.gsa) THAT YtdimlelcgapobaaGreatDoorProg.lean LOADS. Nothing in Lean hashes anything: it is a label: what it is worth is what the hold of that sum in a sandbox is worth. -/
noncomputable def Tryz.pinned : Pinned := { name := "ytdimlelcgapobaagreatdoor", sum := "6050fddd912413cb31b7d1642a60ddb57fac5b0ad09068a3f445a01306eb1735", checked := Tryz.checked }
namespace Rows
def none {H : Type} : Left H := { results := [], args := [] }

/- WHAT THE LISTED PACKAGE-LEVEL VARIABLES READ AS WHEN THE CALL BEGINS. Each datum BY PROGRAM (the guide's laid-datum.mjs) off the statement by which the dump's own 'gosem.cut.vars' lays the variable. In a bare row this is a premise. The card (YtdimlelcgapobaaGreatDoorCards.lean) ties it to the program's text. -/
def laid_math_bits_deBruijn32tab {H : Type} : DataW H := .agg [.lit (.int .u8 0), .lit (.int .u8 1), .lit (.int .u8 28), .lit (.int .u8 2), .lit (.int .u8 29), .lit (.int .u8 14), .lit (.int .u8 24), .lit (.int .u8 3), .lit (.int .u8 30), .lit (.int .u8 22), .lit (.int .u8 20), .lit (.int .u8 15), .lit (.int .u8 25), .lit (.int .u8 17), .lit (.int .u8 4), .lit (.int .u8 8), .lit (.int .u8 31), .lit (.int .u8 27), .lit (.int .u8 13), .lit (.int .u8 23), .lit (.int .u8 21), .lit (.int .u8 19), .lit (.int .u8 16), .lit (.int .u8 7), .lit (.int .u8 26), .lit (.int .u8 12), .lit (.int .u8 18), .lit (.int .u8 6), .lit (.int .u8 11), .lit (.int .u8 5), .lit (.int .u8 10), .lit (.int .u8 9)]

/-- 'steelyardlaw11.RootNumbers': WHATEVER THE INPUT: true; the input reads as it did. -/
def rootNumbersSpec : ChangeSpec := { name := "rootNumbers", fn := fun _ => fun
  | [] => { results := [.lit (.bool true)], args := [] }
  | _ => none }
def rootNumbersRow : OpenClaim := { program := "ytdimlelcgapobaagreatdoor", sum := "6050fddd912413cb31b7d1642a60ddb57fac5b0ad09068a3f445a01306eb1735", func := "steelyard/steelyardlaw11.RootNumbers", spec := "rootNumbers", inPlace := ["math.Float64bits", "math.Float64frombits", "math.Float32frombits", "math.Float32bits"], unfollowed := true, recurses := true, named := ["math/bits.deBruijn32tab"], apart := false, laid := [("math/bits.deBruijn32tab", laid_math_bits_deBruijn32tab)] }
def RootNumbersSaid : Prop := rootNumbersRow.holds Tryz.pinned (OpenSpec.ofChange rootNumbersSpec)

/-- ITS FALSE NEIGHBOUR: 'it returns false'. Refute it at one input. -/
def rootNumbersWrong : ChangeSpec := { name := "rootNumbers", fn := fun _ => fun
  | [] => { results := [.lit (.bool false)], args := [] }
  | _ => none }
def RootNumbersWrongFalsely : Prop := rootNumbersRow.holds Tryz.pinned (OpenSpec.ofChange rootNumbersWrong)

/-- 'steelyardlaw11.RootRounds': WHATEVER THE INPUT: true; the input reads as it did. -/
def rootRoundsSpec : ChangeSpec := { name := "rootRounds", fn := fun _ => fun
  | [d1, d2] => { results := [.lit (.bool true)], args := [d1, d2] }
  | _ => none }
def rootRoundsRow : OpenClaim := { program := "ytdimlelcgapobaagreatdoor", sum := "6050fddd912413cb31b7d1642a60ddb57fac5b0ad09068a3f445a01306eb1735", func := "steelyard/steelyardlaw11.RootRounds", spec := "rootRounds", inPlace := ["math.Float64bits", "math.Float64frombits", "math.Float32frombits", "math.Float32bits"], unfollowed := true, recurses := true, named := ["math/bits.deBruijn32tab"], apart := false, laid := [("math/bits.deBruijn32tab", laid_math_bits_deBruijn32tab)] }
def RootRoundsSaid : Prop := rootRoundsRow.holds Tryz.pinned (OpenSpec.ofChange rootRoundsSpec)

/-- ITS FALSE NEIGHBOUR: 'it returns false'. Refute it at one input. -/
def rootRoundsWrong : ChangeSpec := { name := "rootRounds", fn := fun _ => fun
  | [d1, d2] => { results := [.lit (.bool false)], args := [d1, d2] }
  | _ => none }
def RootRoundsWrongFalsely : Prop := rootRoundsRow.holds Tryz.pinned (OpenSpec.ofChange rootRoundsWrong)

/-- 'steelyardlaw11.RootWorks': WHATEVER THE INPUT: true; the input reads as it did. -/
def rootWorksSpec : ChangeSpec := { name := "rootWorks", fn := fun _ => fun
  | [d1, d2] => { results := [.lit (.bool true)], args := [d1, d2] }
  | _ => none }
def rootWorksRow : OpenClaim := { program := "ytdimlelcgapobaagreatdoor", sum := "6050fddd912413cb31b7d1642a60ddb57fac5b0ad09068a3f445a01306eb1735", func := "steelyard/steelyardlaw11.RootWorks", spec := "rootWorks", inPlace := ["math.Float64bits", "math.Float64frombits", "math.Float32frombits", "math.Float32bits"], unfollowed := true, recurses := true, named := ["math/bits.deBruijn32tab"], apart := false, laid := [("math/bits.deBruijn32tab", laid_math_bits_deBruijn32tab)] }
def RootWorksSaid : Prop := rootWorksRow.holds Tryz.pinned (OpenSpec.ofChange rootWorksSpec)

/-- ITS FALSE NEIGHBOUR: 'it returns false'. Refute it at one input. -/
def rootWorksWrong : ChangeSpec := { name := "rootWorks", fn := fun _ => fun
  | [d1, d2] => { results := [.lit (.bool false)], args := [d1, d2] }
  | _ => none }
def RootWorksWrongFalsely : Prop := rootWorksRow.holds Tryz.pinned (OpenSpec.ofChange rootWorksWrong)

/-- 'steelyardlaw11.RootNear': WHATEVER THE INPUT: true; the input reads as it did. -/
def rootNearSpec : ChangeSpec := { name := "rootNear", fn := fun _ => fun
  | [d] => { results := [.lit (.bool true)], args := [d] }
  | _ => none }
def rootNearRow : OpenClaim := { program := "ytdimlelcgapobaagreatdoor", sum := "6050fddd912413cb31b7d1642a60ddb57fac5b0ad09068a3f445a01306eb1735", func := "steelyard/steelyardlaw11.RootNear", spec := "rootNear", inPlace := ["math.Float64bits", "math.Float64frombits", "math.Float32frombits", "math.Float32bits"], unfollowed := true, recurses := true, named := ["math/bits.deBruijn32tab"], apart := false, laid := [("math/bits.deBruijn32tab", laid_math_bits_deBruijn32tab)] }
def RootNearSaid : Prop := rootNearRow.holds Tryz.pinned (OpenSpec.ofChange rootNearSpec)

/-- ITS FALSE NEIGHBOUR: 'it returns false'. Refute it at one input. -/
def rootNearWrong : ChangeSpec := { name := "rootNear", fn := fun _ => fun
  | [d] => { results := [.lit (.bool false)], args := [d] }
  | _ => none }
def RootNearWrongFalsely : Prop := rootNearRow.holds Tryz.pinned (OpenSpec.ofChange rootNearWrong)

/-- 'steelyardlaw11.RootLaws': WHATEVER THE INPUT: true; the input reads as it did. -/
def rootLawsSpec : ChangeSpec := { name := "rootLaws", fn := fun _ => fun
  | [d1, d2] => { results := [.lit (.bool true)], args := [d1, d2] }
  | _ => none }
def rootLawsRow : OpenClaim := { program := "ytdimlelcgapobaagreatdoor", sum := "6050fddd912413cb31b7d1642a60ddb57fac5b0ad09068a3f445a01306eb1735", func := "steelyard/steelyardlaw11.RootLaws", spec := "rootLaws", inPlace := ["math.Float64bits", "math.Float64frombits", "math.Float32frombits", "math.Float32bits"], unfollowed := true, recurses := true, named := ["math/bits.deBruijn32tab"], apart := false, laid := [("math/bits.deBruijn32tab", laid_math_bits_deBruijn32tab)] }
def RootLawsSaid : Prop := rootLawsRow.holds Tryz.pinned (OpenSpec.ofChange rootLawsSpec)

/-- ITS FALSE NEIGHBOUR: 'it returns false'. Refute it at one input. -/
def rootLawsWrong : ChangeSpec := { name := "rootLaws", fn := fun _ => fun
  | [d1, d2] => { results := [.lit (.bool false)], args := [d1, d2] }
  | _ => none }
def RootLawsWrongFalsely : Prop := rootLawsRow.holds Tryz.pinned (OpenSpec.ofChange rootLawsWrong)

/- THE SECOND FORM. 'bulk': how many values and letters a reading holds, each counted each time it is reached (what is shared counts as often as it is met; a slice's spare places count too). A statement '..UptoSaid' is the law's where the arguments, and the package variables that the reading takes, are together of bulk at most 1048576: NARROWER than '..Said'. Prove '..Said' where nothing that the law and all that it calls make is longer than what came in: it says more and counts as full. Else prove '..UptoSaid'. A law counts once. -/
mutual
def uptoBulk {H : Type} : DataW H → Nat
  | .lit (.string bytes) => bytes.length + 1
  | .lit _ => 1
  | .nil => 1
  | .ptr d => uptoBulk d + 1
  | .slice elems spare => uptoBulkAll elems + uptoBulkAll spare + 1
  | .agg parts => uptoBulkAll parts + 1
  | .iface _ d => uptoBulk d + 1
  | .map entries => uptoBulkEntries entries + 1
  | .held _ => 1
def uptoBulkAll {H : Type} : List (DataW H) → Nat
  | [] => 0
  | d :: r => uptoBulk d + uptoBulkAll r
def uptoBulkEntries {H : Type} : List (Lit × DataW H) → Nat
  | [] => 0
  | x :: r => uptoBulkEntry x + uptoBulkEntries r
def uptoBulkEntry {H : Type} : Lit × DataW H → Nat
  | (.string bytes, d) => bytes.length + uptoBulk d + 1
  | (_, d) => uptoBulk d + 1
 end
def uptoSmall : (H : Type) → List (DataW H) → Bool := fun _ ds => decide (uptoBulkAll ds ≤ 1048576)
def OpenSpec.upto (s : _root_.Go.ChangeSpec) : _root_.Go.OpenSpec := { _root_.Go.OpenSpec.ofChange s with cond := some uptoSmall }

/-- 'steelyardlaw11.RootNumbers', WHERE WHAT IT READS IS OF BULK AT MOST 1048576: true; the input reads as it did. -/
def rootNumbersUptoRow : OpenClaim := { program := "ytdimlelcgapobaagreatdoor", sum := "6050fddd912413cb31b7d1642a60ddb57fac5b0ad09068a3f445a01306eb1735", func := "steelyard/steelyardlaw11.RootNumbers", spec := "rootNumbers", inPlace := ["math.Float64bits", "math.Float64frombits", "math.Float32frombits", "math.Float32bits"], unfollowed := true, recurses := true, named := ["math/bits.deBruijn32tab"], apart := false, laid := [("math/bits.deBruijn32tab", laid_math_bits_deBruijn32tab)], narrowed := true }
def RootNumbersUptoSaid : Prop := rootNumbersUptoRow.holds Tryz.pinned (OpenSpec.upto rootNumbersSpec)

/-- 'steelyardlaw11.RootRounds', WHERE WHAT IT READS IS OF BULK AT MOST 1048576: true; the input reads as it did. -/
def rootRoundsUptoRow : OpenClaim := { program := "ytdimlelcgapobaagreatdoor", sum := "6050fddd912413cb31b7d1642a60ddb57fac5b0ad09068a3f445a01306eb1735", func := "steelyard/steelyardlaw11.RootRounds", spec := "rootRounds", inPlace := ["math.Float64bits", "math.Float64frombits", "math.Float32frombits", "math.Float32bits"], unfollowed := true, recurses := true, named := ["math/bits.deBruijn32tab"], apart := false, laid := [("math/bits.deBruijn32tab", laid_math_bits_deBruijn32tab)], narrowed := true }
def RootRoundsUptoSaid : Prop := rootRoundsUptoRow.holds Tryz.pinned (OpenSpec.upto rootRoundsSpec)

/-- 'steelyardlaw11.RootWorks', WHERE WHAT IT READS IS OF BULK AT MOST 1048576: true; the input reads as it did. -/
def rootWorksUptoRow : OpenClaim := { program := "ytdimlelcgapobaagreatdoor", sum := "6050fddd912413cb31b7d1642a60ddb57fac5b0ad09068a3f445a01306eb1735", func := "steelyard/steelyardlaw11.RootWorks", spec := "rootWorks", inPlace := ["math.Float64bits", "math.Float64frombits", "math.Float32frombits", "math.Float32bits"], unfollowed := true, recurses := true, named := ["math/bits.deBruijn32tab"], apart := false, laid := [("math/bits.deBruijn32tab", laid_math_bits_deBruijn32tab)], narrowed := true }
def RootWorksUptoSaid : Prop := rootWorksUptoRow.holds Tryz.pinned (OpenSpec.upto rootWorksSpec)

/-- 'steelyardlaw11.RootNear', WHERE WHAT IT READS IS OF BULK AT MOST 1048576: true; the input reads as it did. -/
def rootNearUptoRow : OpenClaim := { program := "ytdimlelcgapobaagreatdoor", sum := "6050fddd912413cb31b7d1642a60ddb57fac5b0ad09068a3f445a01306eb1735", func := "steelyard/steelyardlaw11.RootNear", spec := "rootNear", inPlace := ["math.Float64bits", "math.Float64frombits", "math.Float32frombits", "math.Float32bits"], unfollowed := true, recurses := true, named := ["math/bits.deBruijn32tab"], apart := false, laid := [("math/bits.deBruijn32tab", laid_math_bits_deBruijn32tab)], narrowed := true }
def RootNearUptoSaid : Prop := rootNearUptoRow.holds Tryz.pinned (OpenSpec.upto rootNearSpec)

/-- 'steelyardlaw11.RootLaws', WHERE WHAT IT READS IS OF BULK AT MOST 1048576: true; the input reads as it did. -/
def rootLawsUptoRow : OpenClaim := { program := "ytdimlelcgapobaagreatdoor", sum := "6050fddd912413cb31b7d1642a60ddb57fac5b0ad09068a3f445a01306eb1735", func := "steelyard/steelyardlaw11.RootLaws", spec := "rootLaws", inPlace := ["math.Float64bits", "math.Float64frombits", "math.Float32frombits", "math.Float32bits"], unfollowed := true, recurses := true, named := ["math/bits.deBruijn32tab"], apart := false, laid := [("math/bits.deBruijn32tab", laid_math_bits_deBruijn32tab)], narrowed := true }
def RootLawsUptoSaid : Prop := rootLawsUptoRow.holds Tryz.pinned (OpenSpec.upto rootLawsSpec)

end Rows
end Go.Proofs.YtdimlelcgapobaaGreatDoor
