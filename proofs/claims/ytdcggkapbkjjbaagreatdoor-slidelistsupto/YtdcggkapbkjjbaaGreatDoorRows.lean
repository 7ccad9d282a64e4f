/-
  NARROWER THAN 'FOR EVERY INPUT', by the rows' own cells (each row's printed sentence says how): SlideNumbers: laid · SlidePlays: laid · SlideLists: laid.
  DERIVED. THE GIVEN ROWS OF THIS SEAT. 3 by the template 'for every input the law returns true; each argument reads behind the call as it read before'; 0 by the template 'total and deterministic' (their statements: YtdcggkapbkjjbaaGreatDoorTotals.lean).
  GIVEN WITH THE SEED: the statements are not yours to turn. If you find one false, say at which input.
  Laid BY PROGRAM, IN A SANDBOX (cutbox-rows.mjs): the forced cells as the released guide's own fill.sh prints them over the translation b7d435350bb0a001… (all of the seat's roots in one cut). By AI agents, Wed Nov 11 2026. No macro, syntax, notation, axiom, sorry.
-/
import Derived.Test.YtdcggkapbkjjbaaGreatDoorChecked
import GoSem.Claim
import GoSem.ClaimJoined
import GoSem.ClaimMapViews
import Derived.JoinedTies
import Derived.KernelRfl
namespace Go.Proofs.YtdcggkapbkjjbaaGreatDoor
/- THE CELL 'sum', in the pinned program and in every row, IS THE sha256 OF THE DUMP (.gsa) THAT YtdcggkapbkjjbaaGreatDoorProg.lean LOADS. Nothing in Lean hashes anything: it is a label: what it is worth is what the hold of that sum in a sandbox is worth. -/
noncomputable def Tryz.pinned : Pinned := { name := "ytdcggkapbkjjbaagreatdoor", sum := "b7d435350bb0a001b4fa13771711a41fc86a353ffd6992f8c8226e958941fb2b", checked := Tryz.checked }
namespace Rows
def none {H : Type} : Left H := { results := [], args := [] }

/- WHAT THE LISTED PACKAGE-LEVEL VARIABLES READ AS WHEN THE CALL BEGINS. Each datum BY PROGRAM (the guide's laid-datum.mjs) off the statement by which the dump's own 'gosem.cut.vars' lays the variable. In a bare row this is a premise. The card (YtdcggkapbkjjbaaGreatDoorCards.lean) ties it to the program's text. -/
def laid_math_bits_deBruijn32tab {H : Type} : DataW H := .agg [.lit (.int .u8 0), .lit (.int .u8 1), .lit (.int .u8 28), .lit (.int .u8 2), .lit (.int .u8 29), .lit (.int .u8 14), .lit (.int .u8 24), .lit (.int .u8 3), .lit (.int .u8 30), .lit (.int .u8 22), .lit (.int .u8 20), .lit (.int .u8 15), .lit (.int .u8 25), .lit (.int .u8 17), .lit (.int .u8 4), .lit (.int .u8 8), .lit (.int .u8 31), .lit (.int .u8 27), .lit (.int .u8 13), .lit (.int .u8 23), .lit (.int .u8 21), .lit (.int .u8 19), .lit (.int .u8 16), .lit (.int .u8 7), .lit (.int .u8 26), .lit (.int .u8 12), .lit (.int .u8 18), .lit (.int .u8 6), .lit (.int .u8 11), .lit (.int .u8 5), .lit (.int .u8 10), .lit (.int .u8 9)]

/-- 'steelyardlaw20.SlideNumbers': WHATEVER THE INPUT: true; the input reads as it did. -/
def slideNumbersSpec : ChangeSpec := { name := "slideNumbers", fn := fun _ => fun
  | [] => { results := [.lit (.bool true)], args := [] }
  | _ => none }
def slideNumbersRow : OpenClaim := { program := "ytdcggkapbkjjbaagreatdoor", sum := "b7d435350bb0a001b4fa13771711a41fc86a353ffd6992f8c8226e958941fb2b", func := "steelyard/steelyardlaw20.SlideNumbers", spec := "slideNumbers", inPlace := ["math.Float64frombits", "math.Float64bits"], unfollowed := true, recurses := true, named := ["math/bits.deBruijn32tab"], apart := false, laid := [("math/bits.deBruijn32tab", laid_math_bits_deBruijn32tab)] }
def SlideNumbersSaid : Prop := slideNumbersRow.holds Tryz.pinned (OpenSpec.ofChange slideNumbersSpec)

/-- ITS FALSE NEIGHBOUR: 'it returns false'. Refute it at one input. -/
def slideNumbersWrong : ChangeSpec := { name := "slideNumbers", fn := fun _ => fun
  | [] => { results := [.lit (.bool false)], args := [] }
  | _ => none }
def SlideNumbersWrongFalsely : Prop := slideNumbersRow.holds Tryz.pinned (OpenSpec.ofChange slideNumbersWrong)

/-- 'steelyardlaw20.SlidePlays': WHATEVER THE INPUT: true; the input reads as it did. -/
def slidePlaysSpec : ChangeSpec := { name := "slidePlays", fn := fun _ => fun
  | [d1, d2, d3] => { results := [.lit (.bool true)], args := [d1, d2, d3] }
  | _ => none }
def slidePlaysRow : OpenClaim := { program := "ytdcggkapbkjjbaagreatdoor", sum := "b7d435350bb0a001b4fa13771711a41fc86a353ffd6992f8c8226e958941fb2b", func := "steelyard/steelyardlaw20.SlidePlays", spec := "slidePlays", inPlace := ["math.Float64frombits", "math.Float64bits"], unfollowed := true, recurses := true, named := ["math/bits.deBruijn32tab"], apart := false, laid := [("math/bits.deBruijn32tab", laid_math_bits_deBruijn32tab)] }
def SlidePlaysSaid : Prop := slidePlaysRow.holds Tryz.pinned (OpenSpec.ofChange slidePlaysSpec)

/-- ITS FALSE NEIGHBOUR: 'it returns false'. Refute it at one input. -/
def slidePlaysWrong : ChangeSpec := { name := "slidePlays", fn := fun _ => fun
  | [d1, d2, d3] => { results := [.lit (.bool false)], args := [d1, d2, d3] }
  | _ => none }
def SlidePlaysWrongFalsely : Prop := slidePlaysRow.holds Tryz.pinned (OpenSpec.ofChange slidePlaysWrong)

/-- 'steelyardlaw20.SlideLists': WHATEVER THE INPUT: true; the input reads as it did. -/
def slideListsSpec : ChangeSpec := { name := "slideLists", fn := fun _ => fun
  | [d1, d2, d3, d4, d5, d6] => { results := [.lit (.bool true)], args := [d1, d2, d3, d4, d5, d6] }
  | _ => none }
def slideListsRow : OpenClaim := { program := "ytdcggkapbkjjbaagreatdoor", sum := "b7d435350bb0a001b4fa13771711a41fc86a353ffd6992f8c8226e958941fb2b", func := "steelyard/steelyardlaw20.SlideLists", spec := "slideLists", inPlace := ["math.Float64frombits", "math.Float64bits"], unfollowed := true, recurses := true, named := ["math/bits.deBruijn32tab"], apart := false, laid := [("math/bits.deBruijn32tab", laid_math_bits_deBruijn32tab)] }
def SlideListsSaid : Prop := slideListsRow.holds Tryz.pinned (OpenSpec.ofChange slideListsSpec)

/-- ITS FALSE NEIGHBOUR: 'it returns false'. Refute it at one input. -/
def slideListsWrong : ChangeSpec := { name := "slideLists", fn := fun _ => fun
  | [d1, d2, d3, d4, d5, d6] => { results := [.lit (.bool false)], args := [d1, d2, d3, d4, d5, d6] }
  | _ => none }
def SlideListsWrongFalsely : Prop := slideListsRow.holds Tryz.pinned (OpenSpec.ofChange slideListsWrong)

/- THE SECOND FORM. 'bulk': how many values and letters a reading holds, each counted each time it is reached (what is shared counts as often as it is met; a slice's spare places count too). A statement '..UptoSaid' is the law's where the arguments, and the package variables that the reading takes, are together of bulk at most 1048576: NARROWER than '..Said'. Prove '..Said' where nothing that the law and all that it calls make is longer than what came in: it says more and counts as full. Else prove '..UptoSaid'. A law counts once. -/
mutual
def uptoBulk {H : Type} : DataW H → Nat
  | .lit (.string bytes) => bytes.length + 1
  | .lit _ => 1
  | .nil => 1
  | .ptr d => uptoBulk d + 1
  | .slice elems spare => uptoBulkAll elems + uptoBulkAll spare + 1
  | .agg parts => uptoBulkAll parts + 1
  | .iface _ d => uptoBulk d + 1
  | .map entries => uptoBulkEntries entries + 1
  | .held _ => 1
def uptoBulkAll {H : Type} : List (DataW H) → Nat
  | [] => 0
  | d :: r => uptoBulk d + uptoBulkAll r
def uptoBulkEntries {H : Type} : List (Lit × DataW H) → Nat
  | [] => 0
  | x :: r => uptoBulkEntry x + uptoBulkEntries r
def uptoBulkEntry {H : Type} : Lit × DataW H → Nat
  | (.string bytes, d) => bytes.length + uptoBulk d + 1
  | (_, d) => uptoBulk d + 1
 end
def uptoSmall : (H : Type) → List (DataW H) → Bool := fun _ ds => decide (uptoBulkAll ds ≤ 1048576)
def OpenSpec.upto (s : _root_.Go.ChangeSpec) : _root_.Go.OpenSpec := { _root_.Go.OpenSpec.ofChange s with cond := some uptoSmall }

/-- 'steelyardlaw20.SlideNumbers', WHERE WHAT IT READS IS OF BULK AT MOST 1048576: true; the input reads as it did. -/
def slideNumbersUptoRow : OpenClaim := { program := "ytdcggkapbkjjbaagreatdoor", sum := "b7d435350bb0a001b4fa13771711a41fc86a353ffd6992f8c8226e958941fb2b", func := "steelyard/steelyardlaw20.SlideNumbers", spec := "slideNumbers", inPlace := ["math.Float64frombits", "math.Float64bits"], unfollowed := true, recurses := true, named := ["math/bits.deBruijn32tab"], apart := false, laid := [("math/bits.deBruijn32tab", laid_math_bits_deBruijn32tab)], narrowed := true }
def SlideNumbersUptoSaid : Prop := slideNumbersUptoRow.holds Tryz.pinned (OpenSpec.upto slideNumbersSpec)

/-- 'steelyardlaw20.SlidePlays', WHERE WHAT IT READS IS OF BULK AT MOST 1048576: true; the input reads as it did. -/
def slidePlaysUptoRow : OpenClaim := { program := "ytdcggkapbkjjbaagreatdoor", sum := "b7d435350bb0a001b4fa13771711a41fc86a353ffd6992f8c8226e958941fb2b", func := "steelyard/steelyardlaw20.SlidePlays", spec := "slidePlays", inPlace := ["math.Float64frombits", "math.Float64bits"], unfollowed := true, recurses := true, named := ["math/bits.deBruijn32tab"], apart := false, laid := [("math/bits.deBruijn32tab", laid_math_bits_deBruijn32tab)], narrowed := true }
def SlidePlaysUptoSaid : Prop := slidePlaysUptoRow.holds Tryz.pinned (OpenSpec.upto slidePlaysSpec)

/-- 'steelyardlaw20.SlideLists', WHERE WHAT IT READS IS OF BULK AT MOST 1048576: true; the input reads as it did. -/
def slideListsUptoRow : OpenClaim := { program := "ytdcggkapbkjjbaagreatdoor", sum := "b7d435350bb0a001b4fa13771711a41fc86a353ffd6992f8c8226e958941fb2b", func := "steelyard/steelyardlaw20.SlideLists", spec := "slideLists", inPlace := ["math.Float64frombits", "math.Float64bits"], unfollowed := true, recurses := true, named := ["math/bits.deBruijn32tab"], apart := false, laid := [("math/bits.deBruijn32tab", laid_math_bits_deBruijn32tab)], narrowed := true }
def SlideListsUptoSaid : Prop := slideListsUptoRow.holds Tryz.pinned (OpenSpec.upto slideListsSpec)

end Rows
end Go.Proofs.YtdcggkapbkjjbaaGreatDoor
