/-
  NARROWER THAN 'FOR EVERY INPUT', by the rows' own cells (each row's printed sentence says how): QuantRises: laid · QuantMedian: laid · FitLines: laid · FitAts: laid · FitThrough: laid.
  DERIVED. THE GIVEN ROWS OF THIS SEAT. 5 by the template 'for every input the law returns true; each argument reads behind the call as it read before'; 0 by the template 'total and deterministic' (their statements: YtblkpkgebigojaaGreatDoorTotals.lean).
  GIVEN WITH THE SEED: the statements are not yours to turn. If you find one false, say at which input.
  Laid BY PROGRAM, IN A SANDBOX (cutbox-rows.mjs): the forced cells as the released guide's own fill.sh prints them over the translation e44276326e73b038… (all of the seat's roots in one cut). By AI agents, Wed Nov 11 2026. No macro, syntax, notation, axiom, sorry.
-/
import Derived.Test.YtblkpkgebigojaaGreatDoorChecked
import GoSem.Claim
import GoSem.ClaimJoined
import GoSem.ClaimMapViews
import Derived.JoinedTies
import Derived.KernelRfl
namespace Go.Proofs.YtblkpkgebigojaaGreatDoor
/- THE CELL 'sum', in the pinned program and in every row, IS THE sha256 OF THE DUMP (.gsa) THAT YtblkpkgebigojaaGreatDoorProg.lean LOADS. Nothing in Lean hashes anything: it is a label: what it is worth is what the hold of that sum in a sandbox is worth. -/
noncomputable def Tryz.pinned : Pinned := { name := "ytblkpkgebigojaagreatdoor", sum := "e44276326e73b0386b4499242303b9865b941d4116c03c32e5004c1e6d43eacb", checked := Tryz.checked }
namespace Rows
def none {H : Type} : Left H := { results := [], args := [] }

/- WHAT THE LISTED PACKAGE-LEVEL VARIABLES READ AS WHEN THE CALL BEGINS. Each datum BY PROGRAM (the guide's laid-datum.mjs) off the statement by which the dump's own 'gosem.cut.vars' lays the variable. In a bare row this is a premise. The card (YtblkpkgebigojaaGreatDoorCards.lean) ties it to the program's text. -/
def laid_math_bits_deBruijn32tab {H : Type} : DataW H := .agg [.lit (.int .u8 0), .lit (.int .u8 1), .lit (.int .u8 28), .lit (.int .u8 2), .lit (.int .u8 29), .lit (.int .u8 14), .lit (.int .u8 24), .lit (.int .u8 3), .lit (.int .u8 30), .lit (.int .u8 22), .lit (.int .u8 20), .lit (.int .u8 15), .lit (.int .u8 25), .lit (.int .u8 17), .lit (.int .u8 4), .lit (.int .u8 8), .lit (.int .u8 31), .lit (.int .u8 27), .lit (.int .u8 13), .lit (.int .u8 23), .lit (.int .u8 21), .lit (.int .u8 19), .lit (.int .u8 16), .lit (.int .u8 7), .lit (.int .u8 26), .lit (.int .u8 12), .lit (.int .u8 18), .lit (.int .u8 6), .lit (.int .u8 11), .lit (.int .u8 5), .lit (.int .u8 10), .lit (.int .u8 9)]

/-- 'steelyardlaw16.QuantRises': WHATEVER THE INPUT: true; the input reads as it did. -/
def quantRisesSpec : ChangeSpec := { name := "quantRises", fn := fun _ => fun
  | [d1, d2, d3] => { results := [.lit (.bool true)], args := [d1, d2, d3] }
  | _ => none }
def quantRisesRow : OpenClaim := { program := "ytblkpkgebigojaagreatdoor", sum := "e44276326e73b0386b4499242303b9865b941d4116c03c32e5004c1e6d43eacb", func := "steelyard/steelyardlaw16.QuantRises", spec := "quantRises", inPlace := ["math.Float64bits", "math.Float64frombits"], unfollowed := true, recurses := true, named := ["math/bits.deBruijn32tab"], apart := false, laid := [("math/bits.deBruijn32tab", laid_math_bits_deBruijn32tab)] }
def QuantRisesSaid : Prop := quantRisesRow.holds Tryz.pinned (OpenSpec.ofChange quantRisesSpec)

/-- ITS FALSE NEIGHBOUR: 'it returns false'. Refute it at one input. -/
def quantRisesWrong : ChangeSpec := { name := "quantRises", fn := fun _ => fun
  | [d1, d2, d3] => { results := [.lit (.bool false)], args := [d1, d2, d3] }
  | _ => none }
def QuantRisesWrongFalsely : Prop := quantRisesRow.holds Tryz.pinned (OpenSpec.ofChange quantRisesWrong)

/-- 'steelyardlaw16.QuantMedian': WHATEVER THE INPUT: true; the input reads as it did. -/
def quantMedianSpec : ChangeSpec := { name := "quantMedian", fn := fun _ => fun
  | [d1, d2] => { results := [.lit (.bool true)], args := [d1, d2] }
  | _ => none }
def quantMedianRow : OpenClaim := { program := "ytblkpkgebigojaagreatdoor", sum := "e44276326e73b0386b4499242303b9865b941d4116c03c32e5004c1e6d43eacb", func := "steelyard/steelyardlaw16.QuantMedian", spec := "quantMedian", inPlace := ["math.Float64bits", "math.Float64frombits"], unfollowed := true, recurses := true, named := ["math/bits.deBruijn32tab"], apart := false, laid := [("math/bits.deBruijn32tab", laid_math_bits_deBruijn32tab)] }
def QuantMedianSaid : Prop := quantMedianRow.holds Tryz.pinned (OpenSpec.ofChange quantMedianSpec)

/-- ITS FALSE NEIGHBOUR: 'it returns false'. Refute it at one input. -/
def quantMedianWrong : ChangeSpec := { name := "quantMedian", fn := fun _ => fun
  | [d1, d2] => { results := [.lit (.bool false)], args := [d1, d2] }
  | _ => none }
def QuantMedianWrongFalsely : Prop := quantMedianRow.holds Tryz.pinned (OpenSpec.ofChange quantMedianWrong)

/-- 'steelyardlaw19.FitLines': WHATEVER THE INPUT: true; the input reads as it did. -/
def fitLinesSpec : ChangeSpec := { name := "fitLines", fn := fun _ => fun
  | [d1, d2, d3] => { results := [.lit (.bool true)], args := [d1, d2, d3] }
  | _ => none }
def fitLinesRow : OpenClaim := { program := "ytblkpkgebigojaagreatdoor", sum := "e44276326e73b0386b4499242303b9865b941d4116c03c32e5004c1e6d43eacb", func := "steelyard/steelyardlaw19.FitLines", spec := "fitLines", inPlace := ["math.Float64bits", "math.Float64frombits"], unfollowed := true, recurses := true, named := ["math/bits.deBruijn32tab"], apart := false, laid := [("math/bits.deBruijn32tab", laid_math_bits_deBruijn32tab)] }
def FitLinesSaid : Prop := fitLinesRow.holds Tryz.pinned (OpenSpec.ofChange fitLinesSpec)

/-- ITS FALSE NEIGHBOUR: 'it returns false'. Refute it at one input. -/
def fitLinesWrong : ChangeSpec := { name := "fitLines", fn := fun _ => fun
  | [d1, d2, d3] => { results := [.lit (.bool false)], args := [d1, d2, d3] }
  | _ => none }
def FitLinesWrongFalsely : Prop := fitLinesRow.holds Tryz.pinned (OpenSpec.ofChange fitLinesWrong)

/-- 'steelyardlaw19.FitAts': WHATEVER THE INPUT: true; the input reads as it did. -/
def fitAtsSpec : ChangeSpec := { name := "fitAts", fn := fun _ => fun
  | [d1, d2, d3, d4] => { results := [.lit (.bool true)], args := [d1, d2, d3, d4] }
  | _ => none }
def fitAtsRow : OpenClaim := { program := "ytblkpkgebigojaagreatdoor", sum := "e44276326e73b0386b4499242303b9865b941d4116c03c32e5004c1e6d43eacb", func := "steelyard/steelyardlaw19.FitAts", spec := "fitAts", inPlace := ["math.Float64bits", "math.Float64frombits"], unfollowed := true, recurses := true, named := ["math/bits.deBruijn32tab"], apart := false, laid := [("math/bits.deBruijn32tab", laid_math_bits_deBruijn32tab)] }
def FitAtsSaid : Prop := fitAtsRow.holds Tryz.pinned (OpenSpec.ofChange fitAtsSpec)

/-- ITS FALSE NEIGHBOUR: 'it returns false'. Refute it at one input. -/
def fitAtsWrong : ChangeSpec := { name := "fitAts", fn := fun _ => fun
  | [d1, d2, d3, d4] => { results := [.lit (.bool false)], args := [d1, d2, d3, d4] }
  | _ => none }
def FitAtsWrongFalsely : Prop := fitAtsRow.holds Tryz.pinned (OpenSpec.ofChange fitAtsWrong)

/-- 'steelyardlaw19.FitThrough': WHATEVER THE INPUT: true; the input reads as it did. -/
def fitThroughSpec : ChangeSpec := { name := "fitThrough", fn := fun _ => fun
  | [d1, d2, d3] => { results := [.lit (.bool true)], args := [d1, d2, d3] }
  | _ => none }
def fitThroughRow : OpenClaim := { program := "ytblkpkgebigojaagreatdoor", sum := "e44276326e73b0386b4499242303b9865b941d4116c03c32e5004c1e6d43eacb", func := "steelyard/steelyardlaw19.FitThrough", spec := "fitThrough", inPlace := ["math.Float64bits", "math.Float64frombits"], unfollowed := true, recurses := true, named := ["math/bits.deBruijn32tab"], apart := false, laid := [("math/bits.deBruijn32tab", laid_math_bits_deBruijn32tab)] }
def FitThroughSaid : Prop := fitThroughRow.holds Tryz.pinned (OpenSpec.ofChange fitThroughSpec)

/-- ITS FALSE NEIGHBOUR: 'it returns false'. Refute it at one input. -/
def fitThroughWrong : ChangeSpec := { name := "fitThrough", fn := fun _ => fun
  | [d1, d2, d3] => { results := [.lit (.bool false)], args := [d1, d2, d3] }
  | _ => none }
def FitThroughWrongFalsely : Prop := fitThroughRow.holds Tryz.pinned (OpenSpec.ofChange fitThroughWrong)

/- THE SECOND FORM. 'bulk': how many values and letters a reading holds, each counted each time it is reached (what is shared counts as often as it is met; a slice's spare places count too). A statement '..UptoSaid' is the law's where the arguments, and the package variables that the reading takes, are together of bulk at most 1048576: NARROWER than '..Said'. Prove '..Said' where nothing that the law and all that it calls make is longer than what came in: it says more and counts as full. Else prove '..UptoSaid'. A law counts once. -/
mutual
def uptoBulk {H : Type} : DataW H → Nat
  | .lit (.string bytes) => bytes.length + 1
  | .lit _ => 1
  | .nil => 1
  | .ptr d => uptoBulk d + 1
  | .slice elems spare => uptoBulkAll elems + uptoBulkAll spare + 1
  | .agg parts => uptoBulkAll parts + 1
  | .iface _ d => uptoBulk d + 1
  | .map entries => uptoBulkEntries entries + 1
  | .held _ => 1
def uptoBulkAll {H : Type} : List (DataW H) → Nat
  | [] => 0
  | d :: r => uptoBulk d + uptoBulkAll r
def uptoBulkEntries {H : Type} : List (Lit × DataW H) → Nat
  | [] => 0
  | x :: r => uptoBulkEntry x + uptoBulkEntries r
def uptoBulkEntry {H : Type} : Lit × DataW H → Nat
  | (.string bytes, d) => bytes.length + uptoBulk d + 1
  | (_, d) => uptoBulk d + 1
 end
def uptoSmall : (H : Type) → List (DataW H) → Bool := fun _ ds => decide (uptoBulkAll ds ≤ 1048576)
def OpenSpec.upto (s : _root_.Go.ChangeSpec) : _root_.Go.OpenSpec := { _root_.Go.OpenSpec.ofChange s with cond := some uptoSmall }

/-- 'steelyardlaw16.QuantRises', WHERE WHAT IT READS IS OF BULK AT MOST 1048576: true; the input reads as it did. -/
def quantRisesUptoRow : OpenClaim := { program := "ytblkpkgebigojaagreatdoor", sum := "e44276326e73b0386b4499242303b9865b941d4116c03c32e5004c1e6d43eacb", func := "steelyard/steelyardlaw16.QuantRises", spec := "quantRises", inPlace := ["math.Float64bits", "math.Float64frombits"], unfollowed := true, recurses := true, named := ["math/bits.deBruijn32tab"], apart := false, laid := [("math/bits.deBruijn32tab", laid_math_bits_deBruijn32tab)], narrowed := true }
def QuantRisesUptoSaid : Prop := quantRisesUptoRow.holds Tryz.pinned (OpenSpec.upto quantRisesSpec)

/-- 'steelyardlaw16.QuantMedian', WHERE WHAT IT READS IS OF BULK AT MOST 1048576: true; the input reads as it did. -/
def quantMedianUptoRow : OpenClaim := { program := "ytblkpkgebigojaagreatdoor", sum := "e44276326e73b0386b4499242303b9865b941d4116c03c32e5004c1e6d43eacb", func := "steelyard/steelyardlaw16.QuantMedian", spec := "quantMedian", inPlace := ["math.Float64bits", "math.Float64frombits"], unfollowed := true, recurses := true, named := ["math/bits.deBruijn32tab"], apart := false, laid := [("math/bits.deBruijn32tab", laid_math_bits_deBruijn32tab)], narrowed := true }
def QuantMedianUptoSaid : Prop := quantMedianUptoRow.holds Tryz.pinned (OpenSpec.upto quantMedianSpec)

/-- 'steelyardlaw19.FitLines', WHERE WHAT IT READS IS OF BULK AT MOST 1048576: true; the input reads as it did. -/
def fitLinesUptoRow : OpenClaim := { program := "ytblkpkgebigojaagreatdoor", sum := "e44276326e73b0386b4499242303b9865b941d4116c03c32e5004c1e6d43eacb", func := "steelyard/steelyardlaw19.FitLines", spec := "fitLines", inPlace := ["math.Float64bits", "math.Float64frombits"], unfollowed := true, recurses := true, named := ["math/bits.deBruijn32tab"], apart := false, laid := [("math/bits.deBruijn32tab", laid_math_bits_deBruijn32tab)], narrowed := true }
def FitLinesUptoSaid : Prop := fitLinesUptoRow.holds Tryz.pinned (OpenSpec.upto fitLinesSpec)

/-- 'steelyardlaw19.FitAts', WHERE WHAT IT READS IS OF BULK AT MOST 1048576: true; the input reads as it did. -/
def fitAtsUptoRow : OpenClaim := { program := "ytblkpkgebigojaagreatdoor", sum := "e44276326e73b0386b4499242303b9865b941d4116c03c32e5004c1e6d43eacb", func := "steelyard/steelyardlaw19.FitAts", spec := "fitAts", inPlace := ["math.Float64bits", "math.Float64frombits"], unfollowed := true, recurses := true, named := ["math/bits.deBruijn32tab"], apart := false, laid := [("math/bits.deBruijn32tab", laid_math_bits_deBruijn32tab)], narrowed := true }
def FitAtsUptoSaid : Prop := fitAtsUptoRow.holds Tryz.pinned (OpenSpec.upto fitAtsSpec)

/-- 'steelyardlaw19.FitThrough', WHERE WHAT IT READS IS OF BULK AT MOST 1048576: true; the input reads as it did. -/
def fitThroughUptoRow : OpenClaim := { program := "ytblkpkgebigojaagreatdoor", sum := "e44276326e73b0386b4499242303b9865b941d4116c03c32e5004c1e6d43eacb", func := "steelyard/steelyardlaw19.FitThrough", spec := "fitThrough", inPlace := ["math.Float64bits", "math.Float64frombits"], unfollowed := true, recurses := true, named := ["math/bits.deBruijn32tab"], apart := false, laid := [("math/bits.deBruijn32tab", laid_math_bits_deBruijn32tab)], narrowed := true }
def FitThroughUptoSaid : Prop := fitThroughUptoRow.holds Tryz.pinned (OpenSpec.upto fitThroughSpec)

end Rows
end Go.Proofs.YtblkpkgebigojaaGreatDoor
