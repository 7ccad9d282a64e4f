/-
  NARROWER THAN 'FOR EVERY INPUT', by the rows' own cells (each row's printed sentence says how): FitNumbers: laid · FitLong: laid · FitOrder: laid · FitLeast: laid · FitOn: laid · FitTurned: laid.
  DERIVED. THE GIVEN ROWS OF THIS SEAT. 6 by the template 'for every input the law returns true; each argument reads behind the call as it read before'; 0 by the template 'total and deterministic' (their statements: YtopgffjnejaijaaGreatDoorTotals.lean).
  GIVEN WITH THE SEED: the statements are not yours to turn. If you find one false, say at which input.
  Laid BY PROGRAM, IN A SANDBOX (cutbox-rows.mjs): the forced cells as the released guide's own fill.sh prints them over the translation 9cd143340c8ec1f5… (all of the seat's roots in one cut). By AI agents, Wed Nov 11 2026. No macro, syntax, notation, axiom, sorry.
-/
import Derived.Test.YtopgffjnejaijaaGreatDoorChecked
import GoSem.Claim
import GoSem.ClaimJoined
import GoSem.ClaimMapViews
import Derived.JoinedTies
import Derived.KernelRfl
namespace Go.Proofs.YtopgffjnejaijaaGreatDoor
/- THE CELL 'sum', in the pinned program and in every row, IS THE sha256 OF THE DUMP (.gsa) THAT YtopgffjnejaijaaGreatDoorProg.lean LOADS. Nothing in Lean hashes anything: it is a label: what it is worth is what the hold of that sum in a sandbox is worth. -/
noncomputable def Tryz.pinned : Pinned := { name := "ytopgffjnejaijaagreatdoor", sum := "9cd143340c8ec1f54aea85cff7d5e881dfaa5815b96d73f71558e24b51df5024", checked := Tryz.checked }
namespace Rows
def none {H : Type} : Left H := { results := [], args := [] }

/- WHAT THE LISTED PACKAGE-LEVEL VARIABLES READ AS WHEN THE CALL BEGINS. Each datum BY PROGRAM (the guide's laid-datum.mjs) off the statement by which the dump's own 'gosem.cut.vars' lays the variable. In a bare row this is a premise. The card (YtopgffjnejaijaaGreatDoorCards.lean) ties it to the program's text. -/
def laid_math_bits_deBruijn32tab {H : Type} : DataW H := .agg [.lit (.int .u8 0), .lit (.int .u8 1), .lit (.int .u8 28), .lit (.int .u8 2), .lit (.int .u8 29), .lit (.int .u8 14), .lit (.int .u8 24), .lit (.int .u8 3), .lit (.int .u8 30), .lit (.int .u8 22), .lit (.int .u8 20), .lit (.int .u8 15), .lit (.int .u8 25), .lit (.int .u8 17), .lit (.int .u8 4), .lit (.int .u8 8), .lit (.int .u8 31), .lit (.int .u8 27), .lit (.int .u8 13), .lit (.int .u8 23), .lit (.int .u8 21), .lit (.int .u8 19), .lit (.int .u8 16), .lit (.int .u8 7), .lit (.int .u8 26), .lit (.int .u8 12), .lit (.int .u8 18), .lit (.int .u8 6), .lit (.int .u8 11), .lit (.int .u8 5), .lit (.int .u8 10), .lit (.int .u8 9)]

/-- 'steelyardlaw19.FitNumbers': WHATEVER THE INPUT: true; the input reads as it did. -/
def fitNumbersSpec : ChangeSpec := { name := "fitNumbers", fn := fun _ => fun
  | [] => { results := [.lit (.bool true)], args := [] }
  | _ => none }
def fitNumbersRow : OpenClaim := { program := "ytopgffjnejaijaagreatdoor", sum := "9cd143340c8ec1f54aea85cff7d5e881dfaa5815b96d73f71558e24b51df5024", func := "steelyard/steelyardlaw19.FitNumbers", spec := "fitNumbers", inPlace := ["math.Float64bits", "math.Float64frombits"], unfollowed := true, recurses := true, named := ["math/bits.deBruijn32tab"], apart := false, laid := [("math/bits.deBruijn32tab", laid_math_bits_deBruijn32tab)] }
def FitNumbersSaid : Prop := fitNumbersRow.holds Tryz.pinned (OpenSpec.ofChange fitNumbersSpec)

/-- ITS FALSE NEIGHBOUR: 'it returns false'. Refute it at one input. -/
def fitNumbersWrong : ChangeSpec := { name := "fitNumbers", fn := fun _ => fun
  | [] => { results := [.lit (.bool false)], args := [] }
  | _ => none }
def FitNumbersWrongFalsely : Prop := fitNumbersRow.holds Tryz.pinned (OpenSpec.ofChange fitNumbersWrong)

/-- 'steelyardlaw19.FitLong': WHATEVER THE INPUT: true; the input reads as it did. -/
def fitLongSpec : ChangeSpec := { name := "fitLong", fn := fun _ => fun
  | [d1, d2] => { results := [.lit (.bool true)], args := [d1, d2] }
  | _ => none }
def fitLongRow : OpenClaim := { program := "ytopgffjnejaijaagreatdoor", sum := "9cd143340c8ec1f54aea85cff7d5e881dfaa5815b96d73f71558e24b51df5024", func := "steelyard/steelyardlaw19.FitLong", spec := "fitLong", inPlace := ["math.Float64bits", "math.Float64frombits"], unfollowed := true, recurses := true, named := ["math/bits.deBruijn32tab"], apart := false, laid := [("math/bits.deBruijn32tab", laid_math_bits_deBruijn32tab)] }
def FitLongSaid : Prop := fitLongRow.holds Tryz.pinned (OpenSpec.ofChange fitLongSpec)

/-- ITS FALSE NEIGHBOUR: 'it returns false'. Refute it at one input. -/
def fitLongWrong : ChangeSpec := { name := "fitLong", fn := fun _ => fun
  | [d1, d2] => { results := [.lit (.bool false)], args := [d1, d2] }
  | _ => none }
def FitLongWrongFalsely : Prop := fitLongRow.holds Tryz.pinned (OpenSpec.ofChange fitLongWrong)

/-- 'steelyardlaw19.FitOrder': WHATEVER THE INPUT: true; the input reads as it did. -/
def fitOrderSpec : ChangeSpec := { name := "fitOrder", fn := fun _ => fun
  | [d1, d2, d3, d4, d5] => { results := [.lit (.bool true)], args := [d1, d2, d3, d4, d5] }
  | _ => none }
def fitOrderRow : OpenClaim := { program := "ytopgffjnejaijaagreatdoor", sum := "9cd143340c8ec1f54aea85cff7d5e881dfaa5815b96d73f71558e24b51df5024", func := "steelyard/steelyardlaw19.FitOrder", spec := "fitOrder", inPlace := ["math.Float64bits", "math.Float64frombits"], unfollowed := true, recurses := true, named := ["math/bits.deBruijn32tab"], apart := false, laid := [("math/bits.deBruijn32tab", laid_math_bits_deBruijn32tab)] }
def FitOrderSaid : Prop := fitOrderRow.holds Tryz.pinned (OpenSpec.ofChange fitOrderSpec)

/-- ITS FALSE NEIGHBOUR: 'it returns false'. Refute it at one input. -/
def fitOrderWrong : ChangeSpec := { name := "fitOrder", fn := fun _ => fun
  | [d1, d2, d3, d4, d5] => { results := [.lit (.bool false)], args := [d1, d2, d3, d4, d5] }
  | _ => none }
def FitOrderWrongFalsely : Prop := fitOrderRow.holds Tryz.pinned (OpenSpec.ofChange fitOrderWrong)

/-- 'steelyardlaw19.FitLeast': WHATEVER THE INPUT: true; the input reads as it did. -/
def fitLeastSpec : ChangeSpec := { name := "fitLeast", fn := fun _ => fun
  | [d1, d2, d3, d4] => { results := [.lit (.bool true)], args := [d1, d2, d3, d4] }
  | _ => none }
def fitLeastRow : OpenClaim := { program := "ytopgffjnejaijaagreatdoor", sum := "9cd143340c8ec1f54aea85cff7d5e881dfaa5815b96d73f71558e24b51df5024", func := "steelyard/steelyardlaw19.FitLeast", spec := "fitLeast", inPlace := ["math.Float64bits", "math.Float64frombits"], unfollowed := true, recurses := true, named := ["math/bits.deBruijn32tab"], apart := false, laid := [("math/bits.deBruijn32tab", laid_math_bits_deBruijn32tab)] }
def FitLeastSaid : Prop := fitLeastRow.holds Tryz.pinned (OpenSpec.ofChange fitLeastSpec)

/-- ITS FALSE NEIGHBOUR: 'it returns false'. Refute it at one input. -/
def fitLeastWrong : ChangeSpec := { name := "fitLeast", fn := fun _ => fun
  | [d1, d2, d3, d4] => { results := [.lit (.bool false)], args := [d1, d2, d3, d4] }
  | _ => none }
def FitLeastWrongFalsely : Prop := fitLeastRow.holds Tryz.pinned (OpenSpec.ofChange fitLeastWrong)

/-- 'steelyardlaw19.FitOn': WHATEVER THE INPUT: true; the input reads as it did. -/
def fitOnSpec : ChangeSpec := { name := "fitOn", fn := fun _ => fun
  | [d1, d2, d3, d4] => { results := [.lit (.bool true)], args := [d1, d2, d3, d4] }
  | _ => none }
def fitOnRow : OpenClaim := { program := "ytopgffjnejaijaagreatdoor", sum := "9cd143340c8ec1f54aea85cff7d5e881dfaa5815b96d73f71558e24b51df5024", func := "steelyard/steelyardlaw19.FitOn", spec := "fitOn", inPlace := ["math.Float64bits", "math.Float64frombits"], unfollowed := true, recurses := true, named := ["math/bits.deBruijn32tab"], apart := false, laid := [("math/bits.deBruijn32tab", laid_math_bits_deBruijn32tab)] }
def FitOnSaid : Prop := fitOnRow.holds Tryz.pinned (OpenSpec.ofChange fitOnSpec)

/-- ITS FALSE NEIGHBOUR: 'it returns false'. Refute it at one input. -/
def fitOnWrong : ChangeSpec := { name := "fitOn", fn := fun _ => fun
  | [d1, d2, d3, d4] => { results := [.lit (.bool false)], args := [d1, d2, d3, d4] }
  | _ => none }
def FitOnWrongFalsely : Prop := fitOnRow.holds Tryz.pinned (OpenSpec.ofChange fitOnWrong)

/-- 'steelyardlaw19.FitTurned': WHATEVER THE INPUT: true; the input reads as it did. -/
def fitTurnedSpec : ChangeSpec := { name := "fitTurned", fn := fun _ => fun
  | [d1, d2, d3] => { results := [.lit (.bool true)], args := [d1, d2, d3] }
  | _ => none }
def fitTurnedRow : OpenClaim := { program := "ytopgffjnejaijaagreatdoor", sum := "9cd143340c8ec1f54aea85cff7d5e881dfaa5815b96d73f71558e24b51df5024", func := "steelyard/steelyardlaw19.FitTurned", spec := "fitTurned", inPlace := ["math.Float64bits", "math.Float64frombits"], unfollowed := true, recurses := true, named := ["math/bits.deBruijn32tab"], apart := false, laid := [("math/bits.deBruijn32tab", laid_math_bits_deBruijn32tab)] }
def FitTurnedSaid : Prop := fitTurnedRow.holds Tryz.pinned (OpenSpec.ofChange fitTurnedSpec)

/-- ITS FALSE NEIGHBOUR: 'it returns false'. Refute it at one input. -/
def fitTurnedWrong : ChangeSpec := { name := "fitTurned", fn := fun _ => fun
  | [d1, d2, d3] => { results := [.lit (.bool false)], args := [d1, d2, d3] }
  | _ => none }
def FitTurnedWrongFalsely : Prop := fitTurnedRow.holds Tryz.pinned (OpenSpec.ofChange fitTurnedWrong)

/- THE SECOND FORM. 'bulk': how many values and letters a reading holds, each counted each time it is reached (what is shared counts as often as it is met; a slice's spare places count too). A statement '..UptoSaid' is the law's where the arguments, and the package variables that the reading takes, are together of bulk at most 1048576: NARROWER than '..Said'. Prove '..Said' where nothing that the law and all that it calls make is longer than what came in: it says more and counts as full. Else prove '..UptoSaid'. A law counts once. -/
mutual
def uptoBulk {H : Type} : DataW H → Nat
  | .lit (.string bytes) => bytes.length + 1
  | .lit _ => 1
  | .nil => 1
  | .ptr d => uptoBulk d + 1
  | .slice elems spare => uptoBulkAll elems + uptoBulkAll spare + 1
  | .agg parts => uptoBulkAll parts + 1
  | .iface _ d => uptoBulk d + 1
  | .map entries => uptoBulkEntries entries + 1
  | .held _ => 1
def uptoBulkAll {H : Type} : List (DataW H) → Nat
  | [] => 0
  | d :: r => uptoBulk d + uptoBulkAll r
def uptoBulkEntries {H : Type} : List (Lit × DataW H) → Nat
  | [] => 0
  | x :: r => uptoBulkEntry x + uptoBulkEntries r
def uptoBulkEntry {H : Type} : Lit × DataW H → Nat
  | (.string bytes, d) => bytes.length + uptoBulk d + 1
  | (_, d) => uptoBulk d + 1
 end
def uptoSmall : (H : Type) → List (DataW H) → Bool := fun _ ds => decide (uptoBulkAll ds ≤ 1048576)
def OpenSpec.upto (s : _root_.Go.ChangeSpec) : _root_.Go.OpenSpec := { _root_.Go.OpenSpec.ofChange s with cond := some uptoSmall }

/-- 'steelyardlaw19.FitNumbers', WHERE WHAT IT READS IS OF BULK AT MOST 1048576: true; the input reads as it did. -/
def fitNumbersUptoRow : OpenClaim := { program := "ytopgffjnejaijaagreatdoor", sum := "9cd143340c8ec1f54aea85cff7d5e881dfaa5815b96d73f71558e24b51df5024", func := "steelyard/steelyardlaw19.FitNumbers", spec := "fitNumbers", inPlace := ["math.Float64bits", "math.Float64frombits"], unfollowed := true, recurses := true, named := ["math/bits.deBruijn32tab"], apart := false, laid := [("math/bits.deBruijn32tab", laid_math_bits_deBruijn32tab)], narrowed := true }
def FitNumbersUptoSaid : Prop := fitNumbersUptoRow.holds Tryz.pinned (OpenSpec.upto fitNumbersSpec)

/-- 'steelyardlaw19.FitLong', WHERE WHAT IT READS IS OF BULK AT MOST 1048576: true; the input reads as it did. -/
def fitLongUptoRow : OpenClaim := { program := "ytopgffjnejaijaagreatdoor", sum := "9cd143340c8ec1f54aea85cff7d5e881dfaa5815b96d73f71558e24b51df5024", func := "steelyard/steelyardlaw19.FitLong", spec := "fitLong", inPlace := ["math.Float64bits", "math.Float64frombits"], unfollowed := true, recurses := true, named := ["math/bits.deBruijn32tab"], apart := false, laid := [("math/bits.deBruijn32tab", laid_math_bits_deBruijn32tab)], narrowed := true }
def FitLongUptoSaid : Prop := fitLongUptoRow.holds Tryz.pinned (OpenSpec.upto fitLongSpec)

/-- 'steelyardlaw19.FitOrder', WHERE WHAT IT READS IS OF BULK AT MOST 1048576: true; the input reads as it did. -/
def fitOrderUptoRow : OpenClaim := { program := "ytopgffjnejaijaagreatdoor", sum := "9cd143340c8ec1f54aea85cff7d5e881dfaa5815b96d73f71558e24b51df5024", func := "steelyard/steelyardlaw19.FitOrder", spec := "fitOrder", inPlace := ["math.Float64bits", "math.Float64frombits"], unfollowed := true, recurses := true, named := ["math/bits.deBruijn32tab"], apart := false, laid := [("math/bits.deBruijn32tab", laid_math_bits_deBruijn32tab)], narrowed := true }
def FitOrderUptoSaid : Prop := fitOrderUptoRow.holds Tryz.pinned (OpenSpec.upto fitOrderSpec)

/-- 'steelyardlaw19.FitLeast', WHERE WHAT IT READS IS OF BULK AT MOST 1048576: true; the input reads as it did. -/
def fitLeastUptoRow : OpenClaim := { program := "ytopgffjnejaijaagreatdoor", sum := "9cd143340c8ec1f54aea85cff7d5e881dfaa5815b96d73f71558e24b51df5024", func := "steelyard/steelyardlaw19.FitLeast", spec := "fitLeast", inPlace := ["math.Float64bits", "math.Float64frombits"], unfollowed := true, recurses := true, named := ["math/bits.deBruijn32tab"], apart := false, laid := [("math/bits.deBruijn32tab", laid_math_bits_deBruijn32tab)], narrowed := true }
def FitLeastUptoSaid : Prop := fitLeastUptoRow.holds Tryz.pinned (OpenSpec.upto fitLeastSpec)

/-- 'steelyardlaw19.FitOn', WHERE WHAT IT READS IS OF BULK AT MOST 1048576: true; the input reads as it did. -/
def fitOnUptoRow : OpenClaim := { program := "ytopgffjnejaijaagreatdoor", sum := "9cd143340c8ec1f54aea85cff7d5e881dfaa5815b96d73f71558e24b51df5024", func := "steelyard/steelyardlaw19.FitOn", spec := "fitOn", inPlace := ["math.Float64bits", "math.Float64frombits"], unfollowed := true, recurses := true, named := ["math/bits.deBruijn32tab"], apart := false, laid := [("math/bits.deBruijn32tab", laid_math_bits_deBruijn32tab)], narrowed := true }
def FitOnUptoSaid : Prop := fitOnUptoRow.holds Tryz.pinned (OpenSpec.upto fitOnSpec)

/-- 'steelyardlaw19.FitTurned', WHERE WHAT IT READS IS OF BULK AT MOST 1048576: true; the input reads as it did. -/
def fitTurnedUptoRow : OpenClaim := { program := "ytopgffjnejaijaagreatdoor", sum := "9cd143340c8ec1f54aea85cff7d5e881dfaa5815b96d73f71558e24b51df5024", func := "steelyard/steelyardlaw19.FitTurned", spec := "fitTurned", inPlace := ["math.Float64bits", "math.Float64frombits"], unfollowed := true, recurses := true, named := ["math/bits.deBruijn32tab"], apart := false, laid := [("math/bits.deBruijn32tab", laid_math_bits_deBruijn32tab)], narrowed := true }
def FitTurnedUptoSaid : Prop := fitTurnedUptoRow.holds Tryz.pinned (OpenSpec.upto fitTurnedSpec)

end Rows
end Go.Proofs.YtopgffjnejaijaaGreatDoor
