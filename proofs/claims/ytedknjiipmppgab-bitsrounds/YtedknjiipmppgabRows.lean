/-
  No cell of these rows narrows 'for every input' (looked for: loops, veiled, ifaces, maps, wideKeys, modest, calm, conditions, laid).
  DERIVED. THE GIVEN ROWS OF THIS SEAT. 5 by the template 'for every input the law returns true; each argument reads behind the call as it read before'; 0 by the template 'total and deterministic' (their statements: YtedknjiipmppgabTotals.lean).
  GIVEN WITH THE SEED: the statements are not yours to turn. If you find one false, say at which input.
  Laid BY PROGRAM, IN A SANDBOX (cutbox-rows.mjs): the forced cells as the released guide's own fill.sh prints them over the translation 786e38b1fccd6649… (all of the seat's roots in one cut). By AI agents, Wed Nov 11 2026. No macro, syntax, notation, axiom, sorry.
-/
import Derived.Test.YtedknjiipmppgabChecked
import GoSem.Claim
import GoSem.ClaimJoined
import GoSem.ClaimMapViews
import Derived.JoinedTies
import Derived.KernelRfl
namespace Go.Proofs.Ytedknjiipmppgab
/- THE CELL 'sum', in the pinned program and in every row, IS THE sha256 OF THE DUMP (.gsa) THAT YtedknjiipmppgabProg.lean LOADS. Nothing in Lean hashes anything: it is a label: what it is worth is what the hold of that sum in a sandbox is worth. -/
noncomputable def Try.pinned : Pinned := { name := "ytedknjiipmppgab", sum := "786e38b1fccd6649a2efdbce5e9d70cc761ff8ca69190a22eb50afe4abc6deaf", checked := Try.checked }
namespace Rows
def none {H : Type} : Left H := { results := [], args := [] }

/-- 'steelyardlaw01.BitsOrders': WHATEVER THE INPUT: true; the input reads as it did. -/
def bitsOrdersSpec : ChangeSpec := { name := "bitsOrders", fn := fun _ => fun
  | [d1, d2] => { results := [.lit (.bool true)], args := [d1, d2] }
  | _ => none }
def bitsOrdersRow : OpenClaim := { program := "ytedknjiipmppgab", sum := "786e38b1fccd6649a2efdbce5e9d70cc761ff8ca69190a22eb50afe4abc6deaf", func := "steelyard/steelyardlaw01.BitsOrders", spec := "bitsOrders", inPlace := ["math.Float64bits", "math.Float64frombits", "math.Float32frombits", "math.Float32bits"], apart := false }
def BitsOrdersSaid : Prop := bitsOrdersRow.holds Try.pinned (OpenSpec.ofChange bitsOrdersSpec)

/-- ITS FALSE NEIGHBOUR: 'it returns false'. Refute it at one input. -/
def bitsOrdersWrong : ChangeSpec := { name := "bitsOrders", fn := fun _ => fun
  | [d1, d2] => { results := [.lit (.bool false)], args := [d1, d2] }
  | _ => none }
def BitsOrdersWrongFalsely : Prop := bitsOrdersRow.holds Try.pinned (OpenSpec.ofChange bitsOrdersWrong)

/-- 'steelyardlaw01.BitsTotal': WHATEVER THE INPUT: true; the input reads as it did. -/
def bitsTotalSpec : ChangeSpec := { name := "bitsTotal", fn := fun _ => fun
  | [d1, d2, d3] => { results := [.lit (.bool true)], args := [d1, d2, d3] }
  | _ => none }
def bitsTotalRow : OpenClaim := { program := "ytedknjiipmppgab", sum := "786e38b1fccd6649a2efdbce5e9d70cc761ff8ca69190a22eb50afe4abc6deaf", func := "steelyard/steelyardlaw01.BitsTotal", spec := "bitsTotal", inPlace := ["math.Float64bits", "math.Float64frombits", "math.Float32frombits", "math.Float32bits"], apart := false }
def BitsTotalSaid : Prop := bitsTotalRow.holds Try.pinned (OpenSpec.ofChange bitsTotalSpec)

/-- ITS FALSE NEIGHBOUR: 'it returns false'. Refute it at one input. -/
def bitsTotalWrong : ChangeSpec := { name := "bitsTotal", fn := fun _ => fun
  | [d1, d2, d3] => { results := [.lit (.bool false)], args := [d1, d2, d3] }
  | _ => none }
def BitsTotalWrongFalsely : Prop := bitsTotalRow.holds Try.pinned (OpenSpec.ofChange bitsTotalWrong)

/-- 'steelyardlaw01.BitsNarrows': WHATEVER THE INPUT: true; the input reads as it did. -/
def bitsNarrowsSpec : ChangeSpec := { name := "bitsNarrows", fn := fun _ => fun
  | [d1, d2] => { results := [.lit (.bool true)], args := [d1, d2] }
  | _ => none }
def bitsNarrowsRow : OpenClaim := { program := "ytedknjiipmppgab", sum := "786e38b1fccd6649a2efdbce5e9d70cc761ff8ca69190a22eb50afe4abc6deaf", func := "steelyard/steelyardlaw01.BitsNarrows", spec := "bitsNarrows", inPlace := ["math.Float64bits", "math.Float64frombits", "math.Float32frombits", "math.Float32bits"], apart := false }
def BitsNarrowsSaid : Prop := bitsNarrowsRow.holds Try.pinned (OpenSpec.ofChange bitsNarrowsSpec)

/-- ITS FALSE NEIGHBOUR: 'it returns false'. Refute it at one input. -/
def bitsNarrowsWrong : ChangeSpec := { name := "bitsNarrows", fn := fun _ => fun
  | [d1, d2] => { results := [.lit (.bool false)], args := [d1, d2] }
  | _ => none }
def BitsNarrowsWrongFalsely : Prop := bitsNarrowsRow.holds Try.pinned (OpenSpec.ofChange bitsNarrowsWrong)

/-- 'steelyardlaw01.BitsWide': WHATEVER THE INPUT: true; the input reads as it did. -/
def bitsWideSpec : ChangeSpec := { name := "bitsWide", fn := fun _ => fun
  | [d1, d2] => { results := [.lit (.bool true)], args := [d1, d2] }
  | _ => none }
def bitsWideRow : OpenClaim := { program := "ytedknjiipmppgab", sum := "786e38b1fccd6649a2efdbce5e9d70cc761ff8ca69190a22eb50afe4abc6deaf", func := "steelyard/steelyardlaw01.BitsWide", spec := "bitsWide", inPlace := ["math.Float64bits", "math.Float64frombits", "math.Float32frombits", "math.Float32bits"], apart := false }
def BitsWideSaid : Prop := bitsWideRow.holds Try.pinned (OpenSpec.ofChange bitsWideSpec)

/-- ITS FALSE NEIGHBOUR: 'it returns false'. Refute it at one input. -/
def bitsWideWrong : ChangeSpec := { name := "bitsWide", fn := fun _ => fun
  | [d1, d2] => { results := [.lit (.bool false)], args := [d1, d2] }
  | _ => none }
def BitsWideWrongFalsely : Prop := bitsWideRow.holds Try.pinned (OpenSpec.ofChange bitsWideWrong)

/-- 'steelyardlaw01.BitsRounds': WHATEVER THE INPUT: true; the input reads as it did. -/
def bitsRoundsSpec : ChangeSpec := { name := "bitsRounds", fn := fun _ => fun
  | [d] => { results := [.lit (.bool true)], args := [d] }
  | _ => none }
def bitsRoundsRow : OpenClaim := { program := "ytedknjiipmppgab", sum := "786e38b1fccd6649a2efdbce5e9d70cc761ff8ca69190a22eb50afe4abc6deaf", func := "steelyard/steelyardlaw01.BitsRounds", spec := "bitsRounds", inPlace := ["math.Float64bits", "math.Float64frombits", "math.Float32frombits", "math.Float32bits"], apart := false }
def BitsRoundsSaid : Prop := bitsRoundsRow.holds Try.pinned (OpenSpec.ofChange bitsRoundsSpec)

/-- ITS FALSE NEIGHBOUR: 'it returns false'. Refute it at one input. -/
def bitsRoundsWrong : ChangeSpec := { name := "bitsRounds", fn := fun _ => fun
  | [d] => { results := [.lit (.bool false)], args := [d] }
  | _ => none }
def BitsRoundsWrongFalsely : Prop := bitsRoundsRow.holds Try.pinned (OpenSpec.ofChange bitsRoundsWrong)

/- THE SECOND FORM. 'bulk': how many values and letters a reading holds, each counted each time it is reached (what is shared counts as often as it is met; a slice's spare places count too). A statement '..UptoSaid' is the law's where the arguments, and the package variables that the reading takes, are together of bulk at most 1048576: NARROWER than '..Said'. Prove '..Said' where nothing that the law and all that it calls make is longer than what came in: it says more and counts as full. Else prove '..UptoSaid'. A law counts once. -/
mutual
def uptoBulk {H : Type} : DataW H → Nat
  | .lit (.string bytes) => bytes.length + 1
  | .lit _ => 1
  | .nil => 1
  | .ptr d => uptoBulk d + 1
  | .slice elems spare => uptoBulkAll elems + uptoBulkAll spare + 1
  | .agg parts => uptoBulkAll parts + 1
  | .iface _ d => uptoBulk d + 1
  | .map entries => uptoBulkEntries entries + 1
  | .held _ => 1
def uptoBulkAll {H : Type} : List (DataW H) → Nat
  | [] => 0
  | d :: r => uptoBulk d + uptoBulkAll r
def uptoBulkEntries {H : Type} : List (Lit × DataW H) → Nat
  | [] => 0
  | x :: r => uptoBulkEntry x + uptoBulkEntries r
def uptoBulkEntry {H : Type} : Lit × DataW H → Nat
  | (.string bytes, d) => bytes.length + uptoBulk d + 1
  | (_, d) => uptoBulk d + 1
 end
def uptoSmall : (H : Type) → List (DataW H) → Bool := fun _ ds => decide (uptoBulkAll ds ≤ 1048576)
def OpenSpec.upto (s : _root_.Go.ChangeSpec) : _root_.Go.OpenSpec := { _root_.Go.OpenSpec.ofChange s with cond := some uptoSmall }

/-- 'steelyardlaw01.BitsOrders', WHERE WHAT IT READS IS OF BULK AT MOST 1048576: true; the input reads as it did. -/
def bitsOrdersUptoRow : OpenClaim := { program := "ytedknjiipmppgab", sum := "786e38b1fccd6649a2efdbce5e9d70cc761ff8ca69190a22eb50afe4abc6deaf", func := "steelyard/steelyardlaw01.BitsOrders", spec := "bitsOrders", inPlace := ["math.Float64bits", "math.Float64frombits", "math.Float32frombits", "math.Float32bits"], apart := false, narrowed := true }
def BitsOrdersUptoSaid : Prop := bitsOrdersUptoRow.holds Try.pinned (OpenSpec.upto bitsOrdersSpec)

/-- 'steelyardlaw01.BitsTotal', WHERE WHAT IT READS IS OF BULK AT MOST 1048576: true; the input reads as it did. -/
def bitsTotalUptoRow : OpenClaim := { program := "ytedknjiipmppgab", sum := "786e38b1fccd6649a2efdbce5e9d70cc761ff8ca69190a22eb50afe4abc6deaf", func := "steelyard/steelyardlaw01.BitsTotal", spec := "bitsTotal", inPlace := ["math.Float64bits", "math.Float64frombits", "math.Float32frombits", "math.Float32bits"], apart := false, narrowed := true }
def BitsTotalUptoSaid : Prop := bitsTotalUptoRow.holds Try.pinned (OpenSpec.upto bitsTotalSpec)

/-- 'steelyardlaw01.BitsNarrows', WHERE WHAT IT READS IS OF BULK AT MOST 1048576: true; the input reads as it did. -/
def bitsNarrowsUptoRow : OpenClaim := { program := "ytedknjiipmppgab", sum := "786e38b1fccd6649a2efdbce5e9d70cc761ff8ca69190a22eb50afe4abc6deaf", func := "steelyard/steelyardlaw01.BitsNarrows", spec := "bitsNarrows", inPlace := ["math.Float64bits", "math.Float64frombits", "math.Float32frombits", "math.Float32bits"], apart := false, narrowed := true }
def BitsNarrowsUptoSaid : Prop := bitsNarrowsUptoRow.holds Try.pinned (OpenSpec.upto bitsNarrowsSpec)

/-- 'steelyardlaw01.BitsWide', WHERE WHAT IT READS IS OF BULK AT MOST 1048576: true; the input reads as it did. -/
def bitsWideUptoRow : OpenClaim := { program := "ytedknjiipmppgab", sum := "786e38b1fccd6649a2efdbce5e9d70cc761ff8ca69190a22eb50afe4abc6deaf", func := "steelyard/steelyardlaw01.BitsWide", spec := "bitsWide", inPlace := ["math.Float64bits", "math.Float64frombits", "math.Float32frombits", "math.Float32bits"], apart := false, narrowed := true }
def BitsWideUptoSaid : Prop := bitsWideUptoRow.holds Try.pinned (OpenSpec.upto bitsWideSpec)

/-- 'steelyardlaw01.BitsRounds', WHERE WHAT IT READS IS OF BULK AT MOST 1048576: true; the input reads as it did. -/
def bitsRoundsUptoRow : OpenClaim := { program := "ytedknjiipmppgab", sum := "786e38b1fccd6649a2efdbce5e9d70cc761ff8ca69190a22eb50afe4abc6deaf", func := "steelyard/steelyardlaw01.BitsRounds", spec := "bitsRounds", inPlace := ["math.Float64bits", "math.Float64frombits", "math.Float32frombits", "math.Float32bits"], apart := false, narrowed := true }
def BitsRoundsUptoSaid : Prop := bitsRoundsUptoRow.holds Try.pinned (OpenSpec.upto bitsRoundsSpec)

end Rows
end Go.Proofs.Ytedknjiipmppgab
