/-
  NARROWER THAN 'FOR EVERY INPUT', by the rows' own cells (each row's printed sentence says how): MeanNumbers: laid · MeanMeans: laid · MeanWeighted: laid · MeanMiddles: laid · MeanOf: laid · MeanTrimmed: laid.
  DERIVED. THE GIVEN ROWS OF THIS SEAT. 6 by the template 'for every input the law returns true; each argument reads behind the call as it read before'; 0 by the template 'total and deterministic' (their statements: YtjldfhecnaiinaaGreatDoorTotals.lean).
  GIVEN WITH THE SEED: the statements are not yours to turn. If you find one false, say at which input.
  Laid BY PROGRAM, IN A SANDBOX (cutbox-rows.mjs): the forced cells as the released guide's own fill.sh prints them over the translation 0733a61736a91d44… (all of the seat's roots in one cut). By AI agents, Wed Nov 11 2026. No macro, syntax, notation, axiom, sorry.
-/
import Derived.Test.YtjldfhecnaiinaaGreatDoorChecked
import GoSem.Claim
import GoSem.ClaimJoined
import GoSem.ClaimMapViews
import Derived.JoinedTies
import Derived.KernelRfl
namespace Go.Proofs.YtjldfhecnaiinaaGreatDoor
/- THE CELL 'sum', in the pinned program and in every row, IS THE sha256 OF THE DUMP (.gsa) THAT YtjldfhecnaiinaaGreatDoorProg.lean LOADS. Nothing in Lean hashes anything: it is a label: what it is worth is what the hold of that sum in a sandbox is worth. -/
noncomputable def Tryz.pinned : Pinned := { name := "ytjldfhecnaiinaagreatdoor", sum := "0733a61736a91d44b03a5c86a5953fa668a9085e60ece7c88df9594138028f4c", checked := Tryz.checked }
namespace Rows
def none {H : Type} : Left H := { results := [], args := [] }

/- WHAT THE LISTED PACKAGE-LEVEL VARIABLES READ AS WHEN THE CALL BEGINS. Each datum BY PROGRAM (the guide's laid-datum.mjs) off the statement by which the dump's own 'gosem.cut.vars' lays the variable. In a bare row this is a premise. The card (YtjldfhecnaiinaaGreatDoorCards.lean) ties it to the program's text. -/
def laid_math_bits_deBruijn32tab {H : Type} : DataW H := .agg [.lit (.int .u8 0), .lit (.int .u8 1), .lit (.int .u8 28), .lit (.int .u8 2), .lit (.int .u8 29), .lit (.int .u8 14), .lit (.int .u8 24), .lit (.int .u8 3), .lit (.int .u8 30), .lit (.int .u8 22), .lit (.int .u8 20), .lit (.int .u8 15), .lit (.int .u8 25), .lit (.int .u8 17), .lit (.int .u8 4), .lit (.int .u8 8), .lit (.int .u8 31), .lit (.int .u8 27), .lit (.int .u8 13), .lit (.int .u8 23), .lit (.int .u8 21), .lit (.int .u8 19), .lit (.int .u8 16), .lit (.int .u8 7), .lit (.int .u8 26), .lit (.int .u8 12), .lit (.int .u8 18), .lit (.int .u8 6), .lit (.int .u8 11), .lit (.int .u8 5), .lit (.int .u8 10), .lit (.int .u8 9)]

/-- 'steelyardlaw13.MeanNumbers': WHATEVER THE INPUT: true; the input reads as it did. -/
def meanNumbersSpec : ChangeSpec := { name := "meanNumbers", fn := fun _ => fun
  | [] => { results := [.lit (.bool true)], args := [] }
  | _ => none }
def meanNumbersRow : OpenClaim := { program := "ytjldfhecnaiinaagreatdoor", sum := "0733a61736a91d44b03a5c86a5953fa668a9085e60ece7c88df9594138028f4c", func := "steelyard/steelyardlaw13.MeanNumbers", spec := "meanNumbers", inPlace := ["math.Float64bits", "math.Float64frombits"], unfollowed := true, recurses := true, named := ["math/bits.deBruijn32tab"], apart := false, laid := [("math/bits.deBruijn32tab", laid_math_bits_deBruijn32tab)] }
def MeanNumbersSaid : Prop := meanNumbersRow.holds Tryz.pinned (OpenSpec.ofChange meanNumbersSpec)

/-- ITS FALSE NEIGHBOUR: 'it returns false'. Refute it at one input. -/
def meanNumbersWrong : ChangeSpec := { name := "meanNumbers", fn := fun _ => fun
  | [] => { results := [.lit (.bool false)], args := [] }
  | _ => none }
def MeanNumbersWrongFalsely : Prop := meanNumbersRow.holds Tryz.pinned (OpenSpec.ofChange meanNumbersWrong)

/-- 'steelyardlaw13.MeanMeans': WHATEVER THE INPUT: true; the input reads as it did. -/
def meanMeansSpec : ChangeSpec := { name := "meanMeans", fn := fun _ => fun
  | [d1, d2, d3] => { results := [.lit (.bool true)], args := [d1, d2, d3] }
  | _ => none }
def meanMeansRow : OpenClaim := { program := "ytjldfhecnaiinaagreatdoor", sum := "0733a61736a91d44b03a5c86a5953fa668a9085e60ece7c88df9594138028f4c", func := "steelyard/steelyardlaw13.MeanMeans", spec := "meanMeans", inPlace := ["math.Float64bits", "math.Float64frombits"], unfollowed := true, recurses := true, named := ["math/bits.deBruijn32tab"], apart := false, laid := [("math/bits.deBruijn32tab", laid_math_bits_deBruijn32tab)] }
def MeanMeansSaid : Prop := meanMeansRow.holds Tryz.pinned (OpenSpec.ofChange meanMeansSpec)

/-- ITS FALSE NEIGHBOUR: 'it returns false'. Refute it at one input. -/
def meanMeansWrong : ChangeSpec := { name := "meanMeans", fn := fun _ => fun
  | [d1, d2, d3] => { results := [.lit (.bool false)], args := [d1, d2, d3] }
  | _ => none }
def MeanMeansWrongFalsely : Prop := meanMeansRow.holds Tryz.pinned (OpenSpec.ofChange meanMeansWrong)

/-- 'steelyardlaw13.MeanWeighted': WHATEVER THE INPUT: true; the input reads as it did. -/
def meanWeightedSpec : ChangeSpec := { name := "meanWeighted", fn := fun _ => fun
  | [d1, d2, d3] => { results := [.lit (.bool true)], args := [d1, d2, d3] }
  | _ => none }
def meanWeightedRow : OpenClaim := { program := "ytjldfhecnaiinaagreatdoor", sum := "0733a61736a91d44b03a5c86a5953fa668a9085e60ece7c88df9594138028f4c", func := "steelyard/steelyardlaw13.MeanWeighted", spec := "meanWeighted", inPlace := ["math.Float64bits", "math.Float64frombits"], unfollowed := true, recurses := true, named := ["math/bits.deBruijn32tab"], apart := false, laid := [("math/bits.deBruijn32tab", laid_math_bits_deBruijn32tab)] }
def MeanWeightedSaid : Prop := meanWeightedRow.holds Tryz.pinned (OpenSpec.ofChange meanWeightedSpec)

/-- ITS FALSE NEIGHBOUR: 'it returns false'. Refute it at one input. -/
def meanWeightedWrong : ChangeSpec := { name := "meanWeighted", fn := fun _ => fun
  | [d1, d2, d3] => { results := [.lit (.bool false)], args := [d1, d2, d3] }
  | _ => none }
def MeanWeightedWrongFalsely : Prop := meanWeightedRow.holds Tryz.pinned (OpenSpec.ofChange meanWeightedWrong)

/-- 'steelyardlaw13.MeanMiddles': WHATEVER THE INPUT: true; the input reads as it did. -/
def meanMiddlesSpec : ChangeSpec := { name := "meanMiddles", fn := fun _ => fun
  | [d1, d2, d3] => { results := [.lit (.bool true)], args := [d1, d2, d3] }
  | _ => none }
def meanMiddlesRow : OpenClaim := { program := "ytjldfhecnaiinaagreatdoor", sum := "0733a61736a91d44b03a5c86a5953fa668a9085e60ece7c88df9594138028f4c", func := "steelyard/steelyardlaw13.MeanMiddles", spec := "meanMiddles", inPlace := ["math.Float64bits", "math.Float64frombits"], unfollowed := true, recurses := true, named := ["math/bits.deBruijn32tab"], apart := false, laid := [("math/bits.deBruijn32tab", laid_math_bits_deBruijn32tab)] }
def MeanMiddlesSaid : Prop := meanMiddlesRow.holds Tryz.pinned (OpenSpec.ofChange meanMiddlesSpec)

/-- ITS FALSE NEIGHBOUR: 'it returns false'. Refute it at one input. -/
def meanMiddlesWrong : ChangeSpec := { name := "meanMiddles", fn := fun _ => fun
  | [d1, d2, d3] => { results := [.lit (.bool false)], args := [d1, d2, d3] }
  | _ => none }
def MeanMiddlesWrongFalsely : Prop := meanMiddlesRow.holds Tryz.pinned (OpenSpec.ofChange meanMiddlesWrong)

/-- 'steelyardlaw13.MeanOf': WHATEVER THE INPUT: true; the input reads as it did. -/
def meanOfSpec : ChangeSpec := { name := "meanOf", fn := fun _ => fun
  | [d1, d2, d3] => { results := [.lit (.bool true)], args := [d1, d2, d3] }
  | _ => none }
def meanOfRow : OpenClaim := { program := "ytjldfhecnaiinaagreatdoor", sum := "0733a61736a91d44b03a5c86a5953fa668a9085e60ece7c88df9594138028f4c", func := "steelyard/steelyardlaw13.MeanOf", spec := "meanOf", inPlace := ["math.Float64bits", "math.Float64frombits"], unfollowed := true, recurses := true, named := ["math/bits.deBruijn32tab"], apart := false, laid := [("math/bits.deBruijn32tab", laid_math_bits_deBruijn32tab)] }
def MeanOfSaid : Prop := meanOfRow.holds Tryz.pinned (OpenSpec.ofChange meanOfSpec)

/-- ITS FALSE NEIGHBOUR: 'it returns false'. Refute it at one input. -/
def meanOfWrong : ChangeSpec := { name := "meanOf", fn := fun _ => fun
  | [d1, d2, d3] => { results := [.lit (.bool false)], args := [d1, d2, d3] }
  | _ => none }
def MeanOfWrongFalsely : Prop := meanOfRow.holds Tryz.pinned (OpenSpec.ofChange meanOfWrong)

/-- 'steelyardlaw13.MeanTrimmed': WHATEVER THE INPUT: true; the input reads as it did. -/
def meanTrimmedSpec : ChangeSpec := { name := "meanTrimmed", fn := fun _ => fun
  | [d1, d2, d3] => { results := [.lit (.bool true)], args := [d1, d2, d3] }
  | _ => none }
def meanTrimmedRow : OpenClaim := { program := "ytjldfhecnaiinaagreatdoor", sum := "0733a61736a91d44b03a5c86a5953fa668a9085e60ece7c88df9594138028f4c", func := "steelyard/steelyardlaw13.MeanTrimmed", spec := "meanTrimmed", inPlace := ["math.Float64bits", "math.Float64frombits"], unfollowed := true, recurses := true, named := ["math/bits.deBruijn32tab"], apart := false, laid := [("math/bits.deBruijn32tab", laid_math_bits_deBruijn32tab)] }
def MeanTrimmedSaid : Prop := meanTrimmedRow.holds Tryz.pinned (OpenSpec.ofChange meanTrimmedSpec)

/-- ITS FALSE NEIGHBOUR: 'it returns false'. Refute it at one input. -/
def meanTrimmedWrong : ChangeSpec := { name := "meanTrimmed", fn := fun _ => fun
  | [d1, d2, d3] => { results := [.lit (.bool false)], args := [d1, d2, d3] }
  | _ => none }
def MeanTrimmedWrongFalsely : Prop := meanTrimmedRow.holds Tryz.pinned (OpenSpec.ofChange meanTrimmedWrong)

/- THE SECOND FORM. 'bulk': how many values and letters a reading holds, each counted each time it is reached (what is shared counts as often as it is met; a slice's spare places count too). A statement '..UptoSaid' is the law's where the arguments, and the package variables that the reading takes, are together of bulk at most 1048576: NARROWER than '..Said'. Prove '..Said' where nothing that the law and all that it calls make is longer than what came in: it says more and counts as full. Else prove '..UptoSaid'. A law counts once. -/
mutual
def uptoBulk {H : Type} : DataW H → Nat
  | .lit (.string bytes) => bytes.length + 1
  | .lit _ => 1
  | .nil => 1
  | .ptr d => uptoBulk d + 1
  | .slice elems spare => uptoBulkAll elems + uptoBulkAll spare + 1
  | .agg parts => uptoBulkAll parts + 1
  | .iface _ d => uptoBulk d + 1
  | .map entries => uptoBulkEntries entries + 1
  | .held _ => 1
def uptoBulkAll {H : Type} : List (DataW H) → Nat
  | [] => 0
  | d :: r => uptoBulk d + uptoBulkAll r
def uptoBulkEntries {H : Type} : List (Lit × DataW H) → Nat
  | [] => 0
  | x :: r => uptoBulkEntry x + uptoBulkEntries r
def uptoBulkEntry {H : Type} : Lit × DataW H → Nat
  | (.string bytes, d) => bytes.length + uptoBulk d + 1
  | (_, d) => uptoBulk d + 1
 end
def uptoSmall : (H : Type) → List (DataW H) → Bool := fun _ ds => decide (uptoBulkAll ds ≤ 1048576)
def OpenSpec.upto (s : _root_.Go.ChangeSpec) : _root_.Go.OpenSpec := { _root_.Go.OpenSpec.ofChange s with cond := some uptoSmall }

/-- 'steelyardlaw13.MeanNumbers', WHERE WHAT IT READS IS OF BULK AT MOST 1048576: true; the input reads as it did. -/
def meanNumbersUptoRow : OpenClaim := { program := "ytjldfhecnaiinaagreatdoor", sum := "0733a61736a91d44b03a5c86a5953fa668a9085e60ece7c88df9594138028f4c", func := "steelyard/steelyardlaw13.MeanNumbers", spec := "meanNumbers", inPlace := ["math.Float64bits", "math.Float64frombits"], unfollowed := true, recurses := true, named := ["math/bits.deBruijn32tab"], apart := false, laid := [("math/bits.deBruijn32tab", laid_math_bits_deBruijn32tab)], narrowed := true }
def MeanNumbersUptoSaid : Prop := meanNumbersUptoRow.holds Tryz.pinned (OpenSpec.upto meanNumbersSpec)

/-- 'steelyardlaw13.MeanMeans', WHERE WHAT IT READS IS OF BULK AT MOST 1048576: true; the input reads as it did. -/
def meanMeansUptoRow : OpenClaim := { program := "ytjldfhecnaiinaagreatdoor", sum := "0733a61736a91d44b03a5c86a5953fa668a9085e60ece7c88df9594138028f4c", func := "steelyard/steelyardlaw13.MeanMeans", spec := "meanMeans", inPlace := ["math.Float64bits", "math.Float64frombits"], unfollowed := true, recurses := true, named := ["math/bits.deBruijn32tab"], apart := false, laid := [("math/bits.deBruijn32tab", laid_math_bits_deBruijn32tab)], narrowed := true }
def MeanMeansUptoSaid : Prop := meanMeansUptoRow.holds Tryz.pinned (OpenSpec.upto meanMeansSpec)

/-- 'steelyardlaw13.MeanWeighted', WHERE WHAT IT READS IS OF BULK AT MOST 1048576: true; the input reads as it did. -/
def meanWeightedUptoRow : OpenClaim := { program := "ytjldfhecnaiinaagreatdoor", sum := "0733a61736a91d44b03a5c86a5953fa668a9085e60ece7c88df9594138028f4c", func := "steelyard/steelyardlaw13.MeanWeighted", spec := "meanWeighted", inPlace := ["math.Float64bits", "math.Float64frombits"], unfollowed := true, recurses := true, named := ["math/bits.deBruijn32tab"], apart := false, laid := [("math/bits.deBruijn32tab", laid_math_bits_deBruijn32tab)], narrowed := true }
def MeanWeightedUptoSaid : Prop := meanWeightedUptoRow.holds Tryz.pinned (OpenSpec.upto meanWeightedSpec)

/-- 'steelyardlaw13.MeanMiddles', WHERE WHAT IT READS IS OF BULK AT MOST 1048576: true; the input reads as it did. -/
def meanMiddlesUptoRow : OpenClaim := { program := "ytjldfhecnaiinaagreatdoor", sum := "0733a61736a91d44b03a5c86a5953fa668a9085e60ece7c88df9594138028f4c", func := "steelyard/steelyardlaw13.MeanMiddles", spec := "meanMiddles", inPlace := ["math.Float64bits", "math.Float64frombits"], unfollowed := true, recurses := true, named := ["math/bits.deBruijn32tab"], apart := false, laid := [("math/bits.deBruijn32tab", laid_math_bits_deBruijn32tab)], narrowed := true }
def MeanMiddlesUptoSaid : Prop := meanMiddlesUptoRow.holds Tryz.pinned (OpenSpec.upto meanMiddlesSpec)

/-- 'steelyardlaw13.MeanOf', WHERE WHAT IT READS IS OF BULK AT MOST 1048576: true; the input reads as it did. -/
def meanOfUptoRow : OpenClaim := { program := "ytjldfhecnaiinaagreatdoor", sum := "0733a61736a91d44b03a5c86a5953fa668a9085e60ece7c88df9594138028f4c", func := "steelyard/steelyardlaw13.MeanOf", spec := "meanOf", inPlace := ["math.Float64bits", "math.Float64frombits"], unfollowed := true, recurses := true, named := ["math/bits.deBruijn32tab"], apart := false, laid := [("math/bits.deBruijn32tab", laid_math_bits_deBruijn32tab)], narrowed := true }
def MeanOfUptoSaid : Prop := meanOfUptoRow.holds Tryz.pinned (OpenSpec.upto meanOfSpec)

/-- 'steelyardlaw13.MeanTrimmed', WHERE WHAT IT READS IS OF BULK AT MOST 1048576: true; the input reads as it did. -/
def meanTrimmedUptoRow : OpenClaim := { program := "ytjldfhecnaiinaagreatdoor", sum := "0733a61736a91d44b03a5c86a5953fa668a9085e60ece7c88df9594138028f4c", func := "steelyard/steelyardlaw13.MeanTrimmed", spec := "meanTrimmed", inPlace := ["math.Float64bits", "math.Float64frombits"], unfollowed := true, recurses := true, named := ["math/bits.deBruijn32tab"], apart := false, laid := [("math/bits.deBruijn32tab", laid_math_bits_deBruijn32tab)], narrowed := true }
def MeanTrimmedUptoSaid : Prop := meanTrimmedUptoRow.holds Tryz.pinned (OpenSpec.upto meanTrimmedSpec)

end Rows
end Go.Proofs.YtjldfhecnaiinaaGreatDoor
