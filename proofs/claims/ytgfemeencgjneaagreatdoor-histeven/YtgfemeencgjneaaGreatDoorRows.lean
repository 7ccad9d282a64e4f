/-
  NARROWER THAN 'FOR EVERY INPUT', by the rows' own cells (each row's printed sentence says how): HistNumbers: laid · HistEdges: laid · HistPlays: laid · HistSums: laid · HistEven: laid · QuantOrder: laid.
  DERIVED. THE GIVEN ROWS OF THIS SEAT. 6 by the template 'for every input the law returns true; each argument reads behind the call as it read before'; 0 by the template 'total and deterministic' (their statements: YtgfemeencgjneaaGreatDoorTotals.lean).
  GIVEN WITH THE SEED: the statements are not yours to turn. If you find one false, say at which input.
  Laid BY PROGRAM, IN A SANDBOX (cutbox-rows.mjs): the forced cells as the released guide's own fill.sh prints them over the translation bfb7ddc3ecff2019… (all of the seat's roots in one cut). By AI agents, Wed Nov 11 2026. No macro, syntax, notation, axiom, sorry.
-/
import Derived.Test.YtgfemeencgjneaaGreatDoorChecked
import GoSem.Claim
import GoSem.ClaimJoined
import GoSem.ClaimMapViews
import Derived.JoinedTies
import Derived.KernelRfl
namespace Go.Proofs.YtgfemeencgjneaaGreatDoor
/- THE CELL 'sum', in the pinned program and in every row, IS THE sha256 OF THE DUMP (.gsa) THAT YtgfemeencgjneaaGreatDoorProg.lean LOADS. Nothing in Lean hashes anything: it is a label: what it is worth is what the hold of that sum in a sandbox is worth. -/
noncomputable def Tryz.pinned : Pinned := { name := "ytgfemeencgjneaagreatdoor", sum := "bfb7ddc3ecff2019e33fe424d595f1e5a27c6cd5a232c3dab45e8954d3d413db", checked := Tryz.checked }
namespace Rows
def none {H : Type} : Left H := { results := [], args := [] }

/- WHAT THE LISTED PACKAGE-LEVEL VARIABLES READ AS WHEN THE CALL BEGINS. Each datum BY PROGRAM (the guide's laid-datum.mjs) off the statement by which the dump's own 'gosem.cut.vars' lays the variable. In a bare row this is a premise. The card (YtgfemeencgjneaaGreatDoorCards.lean) ties it to the program's text. -/
def laid_math_bits_deBruijn32tab {H : Type} : DataW H := .agg [.lit (.int .u8 0), .lit (.int .u8 1), .lit (.int .u8 28), .lit (.int .u8 2), .lit (.int .u8 29), .lit (.int .u8 14), .lit (.int .u8 24), .lit (.int .u8 3), .lit (.int .u8 30), .lit (.int .u8 22), .lit (.int .u8 20), .lit (.int .u8 15), .lit (.int .u8 25), .lit (.int .u8 17), .lit (.int .u8 4), .lit (.int .u8 8), .lit (.int .u8 31), .lit (.int .u8 27), .lit (.int .u8 13), .lit (.int .u8 23), .lit (.int .u8 21), .lit (.int .u8 19), .lit (.int .u8 16), .lit (.int .u8 7), .lit (.int .u8 26), .lit (.int .u8 12), .lit (.int .u8 18), .lit (.int .u8 6), .lit (.int .u8 11), .lit (.int .u8 5), .lit (.int .u8 10), .lit (.int .u8 9)]

/-- 'steelyardlaw17.HistNumbers': WHATEVER THE INPUT: true; the input reads as it did. -/
def histNumbersSpec : ChangeSpec := { name := "histNumbers", fn := fun _ => fun
  | [] => { results := [.lit (.bool true)], args := [] }
  | _ => none }
def histNumbersRow : OpenClaim := { program := "ytgfemeencgjneaagreatdoor", sum := "bfb7ddc3ecff2019e33fe424d595f1e5a27c6cd5a232c3dab45e8954d3d413db", func := "steelyard/steelyardlaw17.HistNumbers", spec := "histNumbers", inPlace := ["math.Float64bits", "math.Float64frombits"], unfollowed := true, recurses := true, named := ["math/bits.deBruijn32tab"], apart := false, laid := [("math/bits.deBruijn32tab", laid_math_bits_deBruijn32tab)] }
def HistNumbersSaid : Prop := histNumbersRow.holds Tryz.pinned (OpenSpec.ofChange histNumbersSpec)

/-- ITS FALSE NEIGHBOUR: 'it returns false'. Refute it at one input. -/
def histNumbersWrong : ChangeSpec := { name := "histNumbers", fn := fun _ => fun
  | [] => { results := [.lit (.bool false)], args := [] }
  | _ => none }
def HistNumbersWrongFalsely : Prop := histNumbersRow.holds Tryz.pinned (OpenSpec.ofChange histNumbersWrong)

/-- 'steelyardlaw17.HistEdges': WHATEVER THE INPUT: true; the input reads as it did. -/
def histEdgesSpec : ChangeSpec := { name := "histEdges", fn := fun _ => fun
  | [d1, d2, d3] => { results := [.lit (.bool true)], args := [d1, d2, d3] }
  | _ => none }
def histEdgesRow : OpenClaim := { program := "ytgfemeencgjneaagreatdoor", sum := "bfb7ddc3ecff2019e33fe424d595f1e5a27c6cd5a232c3dab45e8954d3d413db", func := "steelyard/steelyardlaw17.HistEdges", spec := "histEdges", inPlace := ["math.Float64bits", "math.Float64frombits"], unfollowed := true, recurses := true, named := ["math/bits.deBruijn32tab"], apart := false, laid := [("math/bits.deBruijn32tab", laid_math_bits_deBruijn32tab)] }
def HistEdgesSaid : Prop := histEdgesRow.holds Tryz.pinned (OpenSpec.ofChange histEdgesSpec)

/-- ITS FALSE NEIGHBOUR: 'it returns false'. Refute it at one input. -/
def histEdgesWrong : ChangeSpec := { name := "histEdges", fn := fun _ => fun
  | [d1, d2, d3] => { results := [.lit (.bool false)], args := [d1, d2, d3] }
  | _ => none }
def HistEdgesWrongFalsely : Prop := histEdgesRow.holds Tryz.pinned (OpenSpec.ofChange histEdgesWrong)

/-- 'steelyardlaw17.HistPlays': WHATEVER THE INPUT: true; the input reads as it did. -/
def histPlaysSpec : ChangeSpec := { name := "histPlays", fn := fun _ => fun
  | [d1, d2, d3] => { results := [.lit (.bool true)], args := [d1, d2, d3] }
  | _ => none }
def histPlaysRow : OpenClaim := { program := "ytgfemeencgjneaagreatdoor", sum := "bfb7ddc3ecff2019e33fe424d595f1e5a27c6cd5a232c3dab45e8954d3d413db", func := "steelyard/steelyardlaw17.HistPlays", spec := "histPlays", inPlace := ["math.Float64bits", "math.Float64frombits"], unfollowed := true, recurses := true, named := ["math/bits.deBruijn32tab"], apart := false, laid := [("math/bits.deBruijn32tab", laid_math_bits_deBruijn32tab)] }
def HistPlaysSaid : Prop := histPlaysRow.holds Tryz.pinned (OpenSpec.ofChange histPlaysSpec)

/-- ITS FALSE NEIGHBOUR: 'it returns false'. Refute it at one input. -/
def histPlaysWrong : ChangeSpec := { name := "histPlays", fn := fun _ => fun
  | [d1, d2, d3] => { results := [.lit (.bool false)], args := [d1, d2, d3] }
  | _ => none }
def HistPlaysWrongFalsely : Prop := histPlaysRow.holds Tryz.pinned (OpenSpec.ofChange histPlaysWrong)

/-- 'steelyardlaw17.HistSums': WHATEVER THE INPUT: true; the input reads as it did. -/
def histSumsSpec : ChangeSpec := { name := "histSums", fn := fun _ => fun
  | [d1, d2, d3] => { results := [.lit (.bool true)], args := [d1, d2, d3] }
  | _ => none }
def histSumsRow : OpenClaim := { program := "ytgfemeencgjneaagreatdoor", sum := "bfb7ddc3ecff2019e33fe424d595f1e5a27c6cd5a232c3dab45e8954d3d413db", func := "steelyard/steelyardlaw17.HistSums", spec := "histSums", inPlace := ["math.Float64bits", "math.Float64frombits"], unfollowed := true, recurses := true, named := ["math/bits.deBruijn32tab"], apart := false, laid := [("math/bits.deBruijn32tab", laid_math_bits_deBruijn32tab)] }
def HistSumsSaid : Prop := histSumsRow.holds Tryz.pinned (OpenSpec.ofChange histSumsSpec)

/-- ITS FALSE NEIGHBOUR: 'it returns false'. Refute it at one input. -/
def histSumsWrong : ChangeSpec := { name := "histSums", fn := fun _ => fun
  | [d1, d2, d3] => { results := [.lit (.bool false)], args := [d1, d2, d3] }
  | _ => none }
def HistSumsWrongFalsely : Prop := histSumsRow.holds Tryz.pinned (OpenSpec.ofChange histSumsWrong)

/-- 'steelyardlaw17.HistEven': WHATEVER THE INPUT: true; the input reads as it did. -/
def histEvenSpec : ChangeSpec := { name := "histEven", fn := fun _ => fun
  | [d1, d2, d3] => { results := [.lit (.bool true)], args := [d1, d2, d3] }
  | _ => none }
def histEvenRow : OpenClaim := { program := "ytgfemeencgjneaagreatdoor", sum := "bfb7ddc3ecff2019e33fe424d595f1e5a27c6cd5a232c3dab45e8954d3d413db", func := "steelyard/steelyardlaw17.HistEven", spec := "histEven", inPlace := ["math.Float64bits", "math.Float64frombits"], unfollowed := true, recurses := true, named := ["math/bits.deBruijn32tab"], apart := false, laid := [("math/bits.deBruijn32tab", laid_math_bits_deBruijn32tab)] }
def HistEvenSaid : Prop := histEvenRow.holds Tryz.pinned (OpenSpec.ofChange histEvenSpec)

/-- ITS FALSE NEIGHBOUR: 'it returns false'. Refute it at one input. -/
def histEvenWrong : ChangeSpec := { name := "histEven", fn := fun _ => fun
  | [d1, d2, d3] => { results := [.lit (.bool false)], args := [d1, d2, d3] }
  | _ => none }
def HistEvenWrongFalsely : Prop := histEvenRow.holds Tryz.pinned (OpenSpec.ofChange histEvenWrong)

/-- 'steelyardlaw16.QuantOrder': WHATEVER THE INPUT: true; the input reads as it did. -/
def quantOrderSpec : ChangeSpec := { name := "quantOrder", fn := fun _ => fun
  | [d1, d2, d3] => { results := [.lit (.bool true)], args := [d1, d2, d3] }
  | _ => none }
def quantOrderRow : OpenClaim := { program := "ytgfemeencgjneaagreatdoor", sum := "bfb7ddc3ecff2019e33fe424d595f1e5a27c6cd5a232c3dab45e8954d3d413db", func := "steelyard/steelyardlaw16.QuantOrder", spec := "quantOrder", inPlace := ["math.Float64bits", "math.Float64frombits"], unfollowed := true, recurses := true, named := ["math/bits.deBruijn32tab"], apart := false, laid := [("math/bits.deBruijn32tab", laid_math_bits_deBruijn32tab)] }
def QuantOrderSaid : Prop := quantOrderRow.holds Tryz.pinned (OpenSpec.ofChange quantOrderSpec)

/-- ITS FALSE NEIGHBOUR: 'it returns false'. Refute it at one input. -/
def quantOrderWrong : ChangeSpec := { name := "quantOrder", fn := fun _ => fun
  | [d1, d2, d3] => { results := [.lit (.bool false)], args := [d1, d2, d3] }
  | _ => none }
def QuantOrderWrongFalsely : Prop := quantOrderRow.holds Tryz.pinned (OpenSpec.ofChange quantOrderWrong)

/- THE SECOND FORM. 'bulk': how many values and letters a reading holds, each counted each time it is reached (what is shared counts as often as it is met; a slice's spare places count too). A statement '..UptoSaid' is the law's where the arguments, and the package variables that the reading takes, are together of bulk at most 1048576: NARROWER than '..Said'. Prove '..Said' where nothing that the law and all that it calls make is longer than what came in: it says more and counts as full. Else prove '..UptoSaid'. A law counts once. -/
mutual
def uptoBulk {H : Type} : DataW H → Nat
  | .lit (.string bytes) => bytes.length + 1
  | .lit _ => 1
  | .nil => 1
  | .ptr d => uptoBulk d + 1
  | .slice elems spare => uptoBulkAll elems + uptoBulkAll spare + 1
  | .agg parts => uptoBulkAll parts + 1
  | .iface _ d => uptoBulk d + 1
  | .map entries => uptoBulkEntries entries + 1
  | .held _ => 1
def uptoBulkAll {H : Type} : List (DataW H) → Nat
  | [] => 0
  | d :: r => uptoBulk d + uptoBulkAll r
def uptoBulkEntries {H : Type} : List (Lit × DataW H) → Nat
  | [] => 0
  | x :: r => uptoBulkEntry x + uptoBulkEntries r
def uptoBulkEntry {H : Type} : Lit × DataW H → Nat
  | (.string bytes, d) => bytes.length + uptoBulk d + 1
  | (_, d) => uptoBulk d + 1
 end
def uptoSmall : (H : Type) → List (DataW H) → Bool := fun _ ds => decide (uptoBulkAll ds ≤ 1048576)
def OpenSpec.upto (s : _root_.Go.ChangeSpec) : _root_.Go.OpenSpec := { _root_.Go.OpenSpec.ofChange s with cond := some uptoSmall }

/-- 'steelyardlaw17.HistNumbers', WHERE WHAT IT READS IS OF BULK AT MOST 1048576: true; the input reads as it did. -/
def histNumbersUptoRow : OpenClaim := { program := "ytgfemeencgjneaagreatdoor", sum := "bfb7ddc3ecff2019e33fe424d595f1e5a27c6cd5a232c3dab45e8954d3d413db", func := "steelyard/steelyardlaw17.HistNumbers", spec := "histNumbers", inPlace := ["math.Float64bits", "math.Float64frombits"], unfollowed := true, recurses := true, named := ["math/bits.deBruijn32tab"], apart := false, laid := [("math/bits.deBruijn32tab", laid_math_bits_deBruijn32tab)], narrowed := true }
def HistNumbersUptoSaid : Prop := histNumbersUptoRow.holds Tryz.pinned (OpenSpec.upto histNumbersSpec)

/-- 'steelyardlaw17.HistEdges', WHERE WHAT IT READS IS OF BULK AT MOST 1048576: true; the input reads as it did. -/
def histEdgesUptoRow : OpenClaim := { program := "ytgfemeencgjneaagreatdoor", sum := "bfb7ddc3ecff2019e33fe424d595f1e5a27c6cd5a232c3dab45e8954d3d413db", func := "steelyard/steelyardlaw17.HistEdges", spec := "histEdges", inPlace := ["math.Float64bits", "math.Float64frombits"], unfollowed := true, recurses := true, named := ["math/bits.deBruijn32tab"], apart := false, laid := [("math/bits.deBruijn32tab", laid_math_bits_deBruijn32tab)], narrowed := true }
def HistEdgesUptoSaid : Prop := histEdgesUptoRow.holds Tryz.pinned (OpenSpec.upto histEdgesSpec)

/-- 'steelyardlaw17.HistPlays', WHERE WHAT IT READS IS OF BULK AT MOST 1048576: true; the input reads as it did. -/
def histPlaysUptoRow : OpenClaim := { program := "ytgfemeencgjneaagreatdoor", sum := "bfb7ddc3ecff2019e33fe424d595f1e5a27c6cd5a232c3dab45e8954d3d413db", func := "steelyard/steelyardlaw17.HistPlays", spec := "histPlays", inPlace := ["math.Float64bits", "math.Float64frombits"], unfollowed := true, recurses := true, named := ["math/bits.deBruijn32tab"], apart := false, laid := [("math/bits.deBruijn32tab", laid_math_bits_deBruijn32tab)], narrowed := true }
def HistPlaysUptoSaid : Prop := histPlaysUptoRow.holds Tryz.pinned (OpenSpec.upto histPlaysSpec)

/-- 'steelyardlaw17.HistSums', WHERE WHAT IT READS IS OF BULK AT MOST 1048576: true; the input reads as it did. -/
def histSumsUptoRow : OpenClaim := { program := "ytgfemeencgjneaagreatdoor", sum := "bfb7ddc3ecff2019e33fe424d595f1e5a27c6cd5a232c3dab45e8954d3d413db", func := "steelyard/steelyardlaw17.HistSums", spec := "histSums", inPlace := ["math.Float64bits", "math.Float64frombits"], unfollowed := true, recurses := true, named := ["math/bits.deBruijn32tab"], apart := false, laid := [("math/bits.deBruijn32tab", laid_math_bits_deBruijn32tab)], narrowed := true }
def HistSumsUptoSaid : Prop := histSumsUptoRow.holds Tryz.pinned (OpenSpec.upto histSumsSpec)

/-- 'steelyardlaw17.HistEven', WHERE WHAT IT READS IS OF BULK AT MOST 1048576: true; the input reads as it did. -/
def histEvenUptoRow : OpenClaim := { program := "ytgfemeencgjneaagreatdoor", sum := "bfb7ddc3ecff2019e33fe424d595f1e5a27c6cd5a232c3dab45e8954d3d413db", func := "steelyard/steelyardlaw17.HistEven", spec := "histEven", inPlace := ["math.Float64bits", "math.Float64frombits"], unfollowed := true, recurses := true, named := ["math/bits.deBruijn32tab"], apart := false, laid := [("math/bits.deBruijn32tab", laid_math_bits_deBruijn32tab)], narrowed := true }
def HistEvenUptoSaid : Prop := histEvenUptoRow.holds Tryz.pinned (OpenSpec.upto histEvenSpec)

/-- 'steelyardlaw16.QuantOrder', WHERE WHAT IT READS IS OF BULK AT MOST 1048576: true; the input reads as it did. -/
def quantOrderUptoRow : OpenClaim := { program := "ytgfemeencgjneaagreatdoor", sum := "bfb7ddc3ecff2019e33fe424d595f1e5a27c6cd5a232c3dab45e8954d3d413db", func := "steelyard/steelyardlaw16.QuantOrder", spec := "quantOrder", inPlace := ["math.Float64bits", "math.Float64frombits"], unfollowed := true, recurses := true, named := ["math/bits.deBruijn32tab"], apart := false, laid := [("math/bits.deBruijn32tab", laid_math_bits_deBruijn32tab)], narrowed := true }
def QuantOrderUptoSaid : Prop := quantOrderUptoRow.holds Tryz.pinned (OpenSpec.upto quantOrderSpec)

end Rows
end Go.Proofs.YtgfemeencgjneaaGreatDoor
