/-
  NARROWER THAN 'FOR EVERY INPUT', by the rows' own cells (each row's printed sentence says how): WideNumbers: laid · WideWorks: laid · WideLooks: laid · WideRoots: laid · WideReads: laid · WideLaws: laid.
  DERIVED. THE GIVEN ROWS OF THIS SEAT. 6 by the template 'for every input the law returns true; each argument reads behind the call as it read before'; 0 by the template 'total and deterministic' (their statements: YtikfabbfbfdpcaaDoorTotals.lean).
  GIVEN WITH THE SEED: the statements are not yours to turn. If you find one false, say at which input.
  Laid BY PROGRAM, IN A SANDBOX (cutbox-rows.mjs): the forced cells as the released guide's own fill.sh prints them over the translation c22e69927b8f7526… (all of the seat's roots in one cut). By AI agents, Wed Nov 11 2026. No macro, syntax, notation, axiom, sorry.
-/
import Derived.Test.YtikfabbfbfdpcaaDoorChecked
import GoSem.Claim
import GoSem.ClaimJoined
import GoSem.ClaimMapViews
import Derived.JoinedTies
import Derived.KernelRfl
namespace Go.Proofs.YtikfabbfbfdpcaaDoor
/- THE CELL 'sum', in the pinned program and in every row, IS THE sha256 OF THE DUMP (.gsa) THAT YtikfabbfbfdpcaaDoorProg.lean LOADS. Nothing in Lean hashes anything: it is a label: what it is worth is what the hold of that sum in a sandbox is worth. -/
noncomputable def Tryd.pinned : Pinned := { name := "ytikfabbfbfdpcaadoor", sum := "c22e69927b8f752685d928f69de2d92fde996da6f27a41380e83e251c80d21ee", checked := Tryd.checked }
namespace Rows
def none {H : Type} : Left H := { results := [], args := [] }

/- WHAT THE LISTED PACKAGE-LEVEL VARIABLES READ AS WHEN THE CALL BEGINS. Each datum BY PROGRAM (the guide's laid-datum.mjs) off the statement by which the dump's own 'gosem.cut.vars' lays the variable. In a bare row this is a premise. The card (YtikfabbfbfdpcaaDoorCards.lean) ties it to the program's text. -/
def laid_math_bits_deBruijn32tab {H : Type} : DataW H := .agg [.lit (.int .u8 0), .lit (.int .u8 1), .lit (.int .u8 28), .lit (.int .u8 2), .lit (.int .u8 29), .lit (.int .u8 14), .lit (.int .u8 24), .lit (.int .u8 3), .lit (.int .u8 30), .lit (.int .u8 22), .lit (.int .u8 20), .lit (.int .u8 15), .lit (.int .u8 25), .lit (.int .u8 17), .lit (.int .u8 4), .lit (.int .u8 8), .lit (.int .u8 31), .lit (.int .u8 27), .lit (.int .u8 13), .lit (.int .u8 23), .lit (.int .u8 21), .lit (.int .u8 19), .lit (.int .u8 16), .lit (.int .u8 7), .lit (.int .u8 26), .lit (.int .u8 12), .lit (.int .u8 18), .lit (.int .u8 6), .lit (.int .u8 11), .lit (.int .u8 5), .lit (.int .u8 10), .lit (.int .u8 9)]

/-- 'steelyardlaw02.WideNumbers': WHATEVER THE INPUT: true; the input reads as it did. -/
def wideNumbersSpec : ChangeSpec := { name := "wideNumbers", fn := fun _ => fun
  | [] => { results := [.lit (.bool true)], args := [] }
  | _ => none }
def wideNumbersRow : OpenClaim := { program := "ytikfabbfbfdpcaadoor", sum := "c22e69927b8f752685d928f69de2d92fde996da6f27a41380e83e251c80d21ee", func := "steelyard/steelyardlaw02.WideNumbers", spec := "wideNumbers", named := ["math/bits.deBruijn32tab"], apart := false, laid := [("math/bits.deBruijn32tab", laid_math_bits_deBruijn32tab)] }
def WideNumbersSaid : Prop := wideNumbersRow.holds Tryd.pinned (OpenSpec.ofChange wideNumbersSpec)

/-- ITS FALSE NEIGHBOUR: 'it returns false'. Refute it at one input. -/
def wideNumbersWrong : ChangeSpec := { name := "wideNumbers", fn := fun _ => fun
  | [] => { results := [.lit (.bool false)], args := [] }
  | _ => none }
def WideNumbersWrongFalsely : Prop := wideNumbersRow.holds Tryd.pinned (OpenSpec.ofChange wideNumbersWrong)

/-- 'steelyardlaw02.WideWorks': WHATEVER THE INPUT: true; the input reads as it did. -/
def wideWorksSpec : ChangeSpec := { name := "wideWorks", fn := fun _ => fun
  | [d1, d2] => { results := [.lit (.bool true)], args := [d1, d2] }
  | _ => none }
def wideWorksRow : OpenClaim := { program := "ytikfabbfbfdpcaadoor", sum := "c22e69927b8f752685d928f69de2d92fde996da6f27a41380e83e251c80d21ee", func := "steelyard/steelyardlaw02.WideWorks", spec := "wideWorks", named := ["math/bits.deBruijn32tab"], apart := false, laid := [("math/bits.deBruijn32tab", laid_math_bits_deBruijn32tab)] }
def WideWorksSaid : Prop := wideWorksRow.holds Tryd.pinned (OpenSpec.ofChange wideWorksSpec)

/-- ITS FALSE NEIGHBOUR: 'it returns false'. Refute it at one input. -/
def wideWorksWrong : ChangeSpec := { name := "wideWorks", fn := fun _ => fun
  | [d1, d2] => { results := [.lit (.bool false)], args := [d1, d2] }
  | _ => none }
def WideWorksWrongFalsely : Prop := wideWorksRow.holds Tryd.pinned (OpenSpec.ofChange wideWorksWrong)

/-- 'steelyardlaw02.WideLooks': WHATEVER THE INPUT: true; the input reads as it did. -/
def wideLooksSpec : ChangeSpec := { name := "wideLooks", fn := fun _ => fun
  | [d1, d2, d3, d4] => { results := [.lit (.bool true)], args := [d1, d2, d3, d4] }
  | _ => none }
def wideLooksRow : OpenClaim := { program := "ytikfabbfbfdpcaadoor", sum := "c22e69927b8f752685d928f69de2d92fde996da6f27a41380e83e251c80d21ee", func := "steelyard/steelyardlaw02.WideLooks", spec := "wideLooks", named := ["math/bits.deBruijn32tab"], apart := false, laid := [("math/bits.deBruijn32tab", laid_math_bits_deBruijn32tab)] }
def WideLooksSaid : Prop := wideLooksRow.holds Tryd.pinned (OpenSpec.ofChange wideLooksSpec)

/-- ITS FALSE NEIGHBOUR: 'it returns false'. Refute it at one input. -/
def wideLooksWrong : ChangeSpec := { name := "wideLooks", fn := fun _ => fun
  | [d1, d2, d3, d4] => { results := [.lit (.bool false)], args := [d1, d2, d3, d4] }
  | _ => none }
def WideLooksWrongFalsely : Prop := wideLooksRow.holds Tryd.pinned (OpenSpec.ofChange wideLooksWrong)

/-- 'steelyardlaw02.WideRoots': WHATEVER THE INPUT: true; the input reads as it did. -/
def wideRootsSpec : ChangeSpec := { name := "wideRoots", fn := fun _ => fun
  | [d] => { results := [.lit (.bool true)], args := [d] }
  | _ => none }
def wideRootsRow : OpenClaim := { program := "ytikfabbfbfdpcaadoor", sum := "c22e69927b8f752685d928f69de2d92fde996da6f27a41380e83e251c80d21ee", func := "steelyard/steelyardlaw02.WideRoots", spec := "wideRoots", named := ["math/bits.deBruijn32tab"], apart := false, laid := [("math/bits.deBruijn32tab", laid_math_bits_deBruijn32tab)] }
def WideRootsSaid : Prop := wideRootsRow.holds Tryd.pinned (OpenSpec.ofChange wideRootsSpec)

/-- ITS FALSE NEIGHBOUR: 'it returns false'. Refute it at one input. -/
def wideRootsWrong : ChangeSpec := { name := "wideRoots", fn := fun _ => fun
  | [d] => { results := [.lit (.bool false)], args := [d] }
  | _ => none }
def WideRootsWrongFalsely : Prop := wideRootsRow.holds Tryd.pinned (OpenSpec.ofChange wideRootsWrong)

/-- 'steelyardlaw02.WideReads': WHATEVER THE INPUT: true; the input reads as it did. -/
def wideReadsSpec : ChangeSpec := { name := "wideReads", fn := fun _ => fun
  | [d1, d2] => { results := [.lit (.bool true)], args := [d1, d2] }
  | _ => none }
def wideReadsRow : OpenClaim := { program := "ytikfabbfbfdpcaadoor", sum := "c22e69927b8f752685d928f69de2d92fde996da6f27a41380e83e251c80d21ee", func := "steelyard/steelyardlaw02.WideReads", spec := "wideReads", named := ["math/bits.deBruijn32tab"], apart := false, laid := [("math/bits.deBruijn32tab", laid_math_bits_deBruijn32tab)] }
def WideReadsSaid : Prop := wideReadsRow.holds Tryd.pinned (OpenSpec.ofChange wideReadsSpec)

/-- ITS FALSE NEIGHBOUR: 'it returns false'. Refute it at one input. -/
def wideReadsWrong : ChangeSpec := { name := "wideReads", fn := fun _ => fun
  | [d1, d2] => { results := [.lit (.bool false)], args := [d1, d2] }
  | _ => none }
def WideReadsWrongFalsely : Prop := wideReadsRow.holds Tryd.pinned (OpenSpec.ofChange wideReadsWrong)

/-- 'steelyardlaw02.WideLaws': WHATEVER THE INPUT: true; the input reads as it did. -/
def wideLawsSpec : ChangeSpec := { name := "wideLaws", fn := fun _ => fun
  | [d1, d2, d3, d4, d5] => { results := [.lit (.bool true)], args := [d1, d2, d3, d4, d5] }
  | _ => none }
def wideLawsRow : OpenClaim := { program := "ytikfabbfbfdpcaadoor", sum := "c22e69927b8f752685d928f69de2d92fde996da6f27a41380e83e251c80d21ee", func := "steelyard/steelyardlaw02.WideLaws", spec := "wideLaws", named := ["math/bits.deBruijn32tab"], apart := false, laid := [("math/bits.deBruijn32tab", laid_math_bits_deBruijn32tab)] }
def WideLawsSaid : Prop := wideLawsRow.holds Tryd.pinned (OpenSpec.ofChange wideLawsSpec)

/-- ITS FALSE NEIGHBOUR: 'it returns false'. Refute it at one input. -/
def wideLawsWrong : ChangeSpec := { name := "wideLaws", fn := fun _ => fun
  | [d1, d2, d3, d4, d5] => { results := [.lit (.bool false)], args := [d1, d2, d3, d4, d5] }
  | _ => none }
def WideLawsWrongFalsely : Prop := wideLawsRow.holds Tryd.pinned (OpenSpec.ofChange wideLawsWrong)

/- THE SECOND FORM. 'bulk': how many values and letters a reading holds, each counted each time it is reached (what is shared counts as often as it is met; a slice's spare places count too). A statement '..UptoSaid' is the law's where the arguments, and the package variables that the reading takes, are together of bulk at most 1048576: NARROWER than '..Said'. Prove '..Said' where nothing that the law and all that it calls make is longer than what came in: it says more and counts as full. Else prove '..UptoSaid'. A law counts once. -/
mutual
def uptoBulk {H : Type} : DataW H → Nat
  | .lit (.string bytes) => bytes.length + 1
  | .lit _ => 1
  | .nil => 1
  | .ptr d => uptoBulk d + 1
  | .slice elems spare => uptoBulkAll elems + uptoBulkAll spare + 1
  | .agg parts => uptoBulkAll parts + 1
  | .iface _ d => uptoBulk d + 1
  | .map entries => uptoBulkEntries entries + 1
  | .held _ => 1
def uptoBulkAll {H : Type} : List (DataW H) → Nat
  | [] => 0
  | d :: r => uptoBulk d + uptoBulkAll r
def uptoBulkEntries {H : Type} : List (Lit × DataW H) → Nat
  | [] => 0
  | x :: r => uptoBulkEntry x + uptoBulkEntries r
def uptoBulkEntry {H : Type} : Lit × DataW H → Nat
  | (.string bytes, d) => bytes.length + uptoBulk d + 1
  | (_, d) => uptoBulk d + 1
 end
def uptoSmall : (H : Type) → List (DataW H) → Bool := fun _ ds => decide (uptoBulkAll ds ≤ 1048576)
def OpenSpec.upto (s : _root_.Go.ChangeSpec) : _root_.Go.OpenSpec := { _root_.Go.OpenSpec.ofChange s with cond := some uptoSmall }

/-- 'steelyardlaw02.WideNumbers', WHERE WHAT IT READS IS OF BULK AT MOST 1048576: true; the input reads as it did. -/
def wideNumbersUptoRow : OpenClaim := { program := "ytikfabbfbfdpcaadoor", sum := "c22e69927b8f752685d928f69de2d92fde996da6f27a41380e83e251c80d21ee", func := "steelyard/steelyardlaw02.WideNumbers", spec := "wideNumbers", named := ["math/bits.deBruijn32tab"], apart := false, laid := [("math/bits.deBruijn32tab", laid_math_bits_deBruijn32tab)], narrowed := true }
def WideNumbersUptoSaid : Prop := wideNumbersUptoRow.holds Tryd.pinned (OpenSpec.upto wideNumbersSpec)

/-- 'steelyardlaw02.WideWorks', WHERE WHAT IT READS IS OF BULK AT MOST 1048576: true; the input reads as it did. -/
def wideWorksUptoRow : OpenClaim := { program := "ytikfabbfbfdpcaadoor", sum := "c22e69927b8f752685d928f69de2d92fde996da6f27a41380e83e251c80d21ee", func := "steelyard/steelyardlaw02.WideWorks", spec := "wideWorks", named := ["math/bits.deBruijn32tab"], apart := false, laid := [("math/bits.deBruijn32tab", laid_math_bits_deBruijn32tab)], narrowed := true }
def WideWorksUptoSaid : Prop := wideWorksUptoRow.holds Tryd.pinned (OpenSpec.upto wideWorksSpec)

/-- 'steelyardlaw02.WideLooks', WHERE WHAT IT READS IS OF BULK AT MOST 1048576: true; the input reads as it did. -/
def wideLooksUptoRow : OpenClaim := { program := "ytikfabbfbfdpcaadoor", sum := "c22e69927b8f752685d928f69de2d92fde996da6f27a41380e83e251c80d21ee", func := "steelyard/steelyardlaw02.WideLooks", spec := "wideLooks", named := ["math/bits.deBruijn32tab"], apart := false, laid := [("math/bits.deBruijn32tab", laid_math_bits_deBruijn32tab)], narrowed := true }
def WideLooksUptoSaid : Prop := wideLooksUptoRow.holds Tryd.pinned (OpenSpec.upto wideLooksSpec)

/-- 'steelyardlaw02.WideRoots', WHERE WHAT IT READS IS OF BULK AT MOST 1048576: true; the input reads as it did. -/
def wideRootsUptoRow : OpenClaim := { program := "ytikfabbfbfdpcaadoor", sum := "c22e69927b8f752685d928f69de2d92fde996da6f27a41380e83e251c80d21ee", func := "steelyard/steelyardlaw02.WideRoots", spec := "wideRoots", named := ["math/bits.deBruijn32tab"], apart := false, laid := [("math/bits.deBruijn32tab", laid_math_bits_deBruijn32tab)], narrowed := true }
def WideRootsUptoSaid : Prop := wideRootsUptoRow.holds Tryd.pinned (OpenSpec.upto wideRootsSpec)

/-- 'steelyardlaw02.WideReads', WHERE WHAT IT READS IS OF BULK AT MOST 1048576: true; the input reads as it did. -/
def wideReadsUptoRow : OpenClaim := { program := "ytikfabbfbfdpcaadoor", sum := "c22e69927b8f752685d928f69de2d92fde996da6f27a41380e83e251c80d21ee", func := "steelyard/steelyardlaw02.WideReads", spec := "wideReads", named := ["math/bits.deBruijn32tab"], apart := false, laid := [("math/bits.deBruijn32tab", laid_math_bits_deBruijn32tab)], narrowed := true }
def WideReadsUptoSaid : Prop := wideReadsUptoRow.holds Tryd.pinned (OpenSpec.upto wideReadsSpec)

/-- 'steelyardlaw02.WideLaws', WHERE WHAT IT READS IS OF BULK AT MOST 1048576: true; the input reads as it did. -/
def wideLawsUptoRow : OpenClaim := { program := "ytikfabbfbfdpcaadoor", sum := "c22e69927b8f752685d928f69de2d92fde996da6f27a41380e83e251c80d21ee", func := "steelyard/steelyardlaw02.WideLaws", spec := "wideLaws", named := ["math/bits.deBruijn32tab"], apart := false, laid := [("math/bits.deBruijn32tab", laid_math_bits_deBruijn32tab)], narrowed := true }
def WideLawsUptoSaid : Prop := wideLawsUptoRow.holds Tryd.pinned (OpenSpec.upto wideLawsSpec)

end Rows
end Go.Proofs.YtikfabbfbfdpcaaDoor
