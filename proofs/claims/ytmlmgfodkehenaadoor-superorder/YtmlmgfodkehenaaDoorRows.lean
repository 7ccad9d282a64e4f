/-
  NARROWER THAN 'FOR EVERY INPUT', by the rows' own cells (each row's printed sentence says how): SuperNumbers: laid · SuperOrder: laid · SuperUndone: laid · SuperBetween: laid.
  DERIVED. THE GIVEN ROWS OF THIS SEAT. 4 by the template 'for every input the law returns true; each argument reads behind the call as it read before'; 0 by the template 'total and deterministic' (their statements: YtmlmgfodkehenaaDoorTotals.lean).
  GIVEN WITH THE SEED: the statements are not yours to turn. If you find one false, say at which input.
  Laid BY PROGRAM, IN A SANDBOX (cutbox-rows.mjs): the forced cells as the released guide's own fill.sh prints them over the translation d3bb06ef363e1bd6… (all of the seat's roots in one cut). By AI agents, Wed Nov 11 2026. No macro, syntax, notation, axiom, sorry.
-/
import Derived.Test.YtmlmgfodkehenaaDoorChecked
import GoSem.Claim
import GoSem.ClaimJoined
import GoSem.ClaimMapViews
import Derived.JoinedTies
import Derived.KernelRfl
namespace Go.Proofs.YtmlmgfodkehenaaDoor
/- THE CELL 'sum', in the pinned program and in every row, IS THE sha256 OF THE DUMP (.gsa) THAT YtmlmgfodkehenaaDoorProg.lean LOADS. Nothing in Lean hashes anything: it is a label: what it is worth is what the hold of that sum in a sandbox is worth. -/
noncomputable def Tryd.pinned : Pinned := { name := "ytmlmgfodkehenaadoor", sum := "d3bb06ef363e1bd6f333c6081a5823332479d1425c4d5bc9cd550a0e1b261d8e", checked := Tryd.checked }
namespace Rows
def none {H : Type} : Left H := { results := [], args := [] }

/- WHAT THE LISTED PACKAGE-LEVEL VARIABLES READ AS WHEN THE CALL BEGINS. Each datum BY PROGRAM (the guide's laid-datum.mjs) off the statement by which the dump's own 'gosem.cut.vars' lays the variable. In a bare row this is a premise. The card (YtmlmgfodkehenaaDoorCards.lean) ties it to the program's text. -/
def laid_math_bits_deBruijn32tab {H : Type} : DataW H := .agg [.lit (.int .u8 0), .lit (.int .u8 1), .lit (.int .u8 28), .lit (.int .u8 2), .lit (.int .u8 29), .lit (.int .u8 14), .lit (.int .u8 24), .lit (.int .u8 3), .lit (.int .u8 30), .lit (.int .u8 22), .lit (.int .u8 20), .lit (.int .u8 15), .lit (.int .u8 25), .lit (.int .u8 17), .lit (.int .u8 4), .lit (.int .u8 8), .lit (.int .u8 31), .lit (.int .u8 27), .lit (.int .u8 13), .lit (.int .u8 23), .lit (.int .u8 21), .lit (.int .u8 19), .lit (.int .u8 16), .lit (.int .u8 7), .lit (.int .u8 26), .lit (.int .u8 12), .lit (.int .u8 18), .lit (.int .u8 6), .lit (.int .u8 11), .lit (.int .u8 5), .lit (.int .u8 10), .lit (.int .u8 9)]

/-- 'steelyardlaw07.SuperNumbers': WHATEVER THE INPUT: true; the input reads as it did. -/
def superNumbersSpec : ChangeSpec := { name := "superNumbers", fn := fun _ => fun
  | [] => { results := [.lit (.bool true)], args := [] }
  | _ => none }
def superNumbersRow : OpenClaim := { program := "ytmlmgfodkehenaadoor", sum := "d3bb06ef363e1bd6f333c6081a5823332479d1425c4d5bc9cd550a0e1b261d8e", func := "steelyard/steelyardlaw07.SuperNumbers", spec := "superNumbers", inPlace := ["math.Float64bits", "math.Float64frombits"], named := ["math/bits.deBruijn32tab"], apart := false, laid := [("math/bits.deBruijn32tab", laid_math_bits_deBruijn32tab)] }
def SuperNumbersSaid : Prop := superNumbersRow.holds Tryd.pinned (OpenSpec.ofChange superNumbersSpec)

/-- ITS FALSE NEIGHBOUR: 'it returns false'. Refute it at one input. -/
def superNumbersWrong : ChangeSpec := { name := "superNumbers", fn := fun _ => fun
  | [] => { results := [.lit (.bool false)], args := [] }
  | _ => none }
def SuperNumbersWrongFalsely : Prop := superNumbersRow.holds Tryd.pinned (OpenSpec.ofChange superNumbersWrong)

/-- 'steelyardlaw07.SuperOrder': WHATEVER THE INPUT: true; the input reads as it did. -/
def superOrderSpec : ChangeSpec := { name := "superOrder", fn := fun _ => fun
  | [d1, d2, d3, d4] => { results := [.lit (.bool true)], args := [d1, d2, d3, d4] }
  | _ => none }
def superOrderRow : OpenClaim := { program := "ytmlmgfodkehenaadoor", sum := "d3bb06ef363e1bd6f333c6081a5823332479d1425c4d5bc9cd550a0e1b261d8e", func := "steelyard/steelyardlaw07.SuperOrder", spec := "superOrder", inPlace := ["math.Float64bits", "math.Float64frombits"], named := ["math/bits.deBruijn32tab"], apart := false, laid := [("math/bits.deBruijn32tab", laid_math_bits_deBruijn32tab)] }
def SuperOrderSaid : Prop := superOrderRow.holds Tryd.pinned (OpenSpec.ofChange superOrderSpec)

/-- ITS FALSE NEIGHBOUR: 'it returns false'. Refute it at one input. -/
def superOrderWrong : ChangeSpec := { name := "superOrder", fn := fun _ => fun
  | [d1, d2, d3, d4] => { results := [.lit (.bool false)], args := [d1, d2, d3, d4] }
  | _ => none }
def SuperOrderWrongFalsely : Prop := superOrderRow.holds Tryd.pinned (OpenSpec.ofChange superOrderWrong)

/-- 'steelyardlaw07.SuperUndone': WHATEVER THE INPUT: true; the input reads as it did. -/
def superUndoneSpec : ChangeSpec := { name := "superUndone", fn := fun _ => fun
  | [d1, d2, d3, d4] => { results := [.lit (.bool true)], args := [d1, d2, d3, d4] }
  | _ => none }
def superUndoneRow : OpenClaim := { program := "ytmlmgfodkehenaadoor", sum := "d3bb06ef363e1bd6f333c6081a5823332479d1425c4d5bc9cd550a0e1b261d8e", func := "steelyard/steelyardlaw07.SuperUndone", spec := "superUndone", inPlace := ["math.Float64bits", "math.Float64frombits"], named := ["math/bits.deBruijn32tab"], apart := false, laid := [("math/bits.deBruijn32tab", laid_math_bits_deBruijn32tab)] }
def SuperUndoneSaid : Prop := superUndoneRow.holds Tryd.pinned (OpenSpec.ofChange superUndoneSpec)

/-- ITS FALSE NEIGHBOUR: 'it returns false'. Refute it at one input. -/
def superUndoneWrong : ChangeSpec := { name := "superUndone", fn := fun _ => fun
  | [d1, d2, d3, d4] => { results := [.lit (.bool false)], args := [d1, d2, d3, d4] }
  | _ => none }
def SuperUndoneWrongFalsely : Prop := superUndoneRow.holds Tryd.pinned (OpenSpec.ofChange superUndoneWrong)

/-- 'steelyardlaw07.SuperBetween': WHATEVER THE INPUT: true; the input reads as it did. -/
def superBetweenSpec : ChangeSpec := { name := "superBetween", fn := fun _ => fun
  | [d1, d2] => { results := [.lit (.bool true)], args := [d1, d2] }
  | _ => none }
def superBetweenRow : OpenClaim := { program := "ytmlmgfodkehenaadoor", sum := "d3bb06ef363e1bd6f333c6081a5823332479d1425c4d5bc9cd550a0e1b261d8e", func := "steelyard/steelyardlaw07.SuperBetween", spec := "superBetween", inPlace := ["math.Float64bits", "math.Float64frombits"], recurses := true, named := ["math/bits.deBruijn32tab"], apart := false, laid := [("math/bits.deBruijn32tab", laid_math_bits_deBruijn32tab)] }
def SuperBetweenSaid : Prop := superBetweenRow.holds Tryd.pinned (OpenSpec.ofChange superBetweenSpec)

/-- ITS FALSE NEIGHBOUR: 'it returns false'. Refute it at one input. -/
def superBetweenWrong : ChangeSpec := { name := "superBetween", fn := fun _ => fun
  | [d1, d2] => { results := [.lit (.bool false)], args := [d1, d2] }
  | _ => none }
def SuperBetweenWrongFalsely : Prop := superBetweenRow.holds Tryd.pinned (OpenSpec.ofChange superBetweenWrong)

/- THE SECOND FORM. 'bulk': how many values and letters a reading holds, each counted each time it is reached (what is shared counts as often as it is met; a slice's spare places count too). A statement '..UptoSaid' is the law's where the arguments, and the package variables that the reading takes, are together of bulk at most 1048576: NARROWER than '..Said'. Prove '..Said' where nothing that the law and all that it calls make is longer than what came in: it says more and counts as full. Else prove '..UptoSaid'. A law counts once. -/
mutual
def uptoBulk {H : Type} : DataW H → Nat
  | .lit (.string bytes) => bytes.length + 1
  | .lit _ => 1
  | .nil => 1
  | .ptr d => uptoBulk d + 1
  | .slice elems spare => uptoBulkAll elems + uptoBulkAll spare + 1
  | .agg parts => uptoBulkAll parts + 1
  | .iface _ d => uptoBulk d + 1
  | .map entries => uptoBulkEntries entries + 1
  | .held _ => 1
def uptoBulkAll {H : Type} : List (DataW H) → Nat
  | [] => 0
  | d :: r => uptoBulk d + uptoBulkAll r
def uptoBulkEntries {H : Type} : List (Lit × DataW H) → Nat
  | [] => 0
  | x :: r => uptoBulkEntry x + uptoBulkEntries r
def uptoBulkEntry {H : Type} : Lit × DataW H → Nat
  | (.string bytes, d) => bytes.length + uptoBulk d + 1
  | (_, d) => uptoBulk d + 1
 end
def uptoSmall : (H : Type) → List (DataW H) → Bool := fun _ ds => decide (uptoBulkAll ds ≤ 1048576)
def OpenSpec.upto (s : _root_.Go.ChangeSpec) : _root_.Go.OpenSpec := { _root_.Go.OpenSpec.ofChange s with cond := some uptoSmall }

/-- 'steelyardlaw07.SuperNumbers', WHERE WHAT IT READS IS OF BULK AT MOST 1048576: true; the input reads as it did. -/
def superNumbersUptoRow : OpenClaim := { program := "ytmlmgfodkehenaadoor", sum := "d3bb06ef363e1bd6f333c6081a5823332479d1425c4d5bc9cd550a0e1b261d8e", func := "steelyard/steelyardlaw07.SuperNumbers", spec := "superNumbers", inPlace := ["math.Float64bits", "math.Float64frombits"], named := ["math/bits.deBruijn32tab"], apart := false, laid := [("math/bits.deBruijn32tab", laid_math_bits_deBruijn32tab)], narrowed := true }
def SuperNumbersUptoSaid : Prop := superNumbersUptoRow.holds Tryd.pinned (OpenSpec.upto superNumbersSpec)

/-- 'steelyardlaw07.SuperOrder', WHERE WHAT IT READS IS OF BULK AT MOST 1048576: true; the input reads as it did. -/
def superOrderUptoRow : OpenClaim := { program := "ytmlmgfodkehenaadoor", sum := "d3bb06ef363e1bd6f333c6081a5823332479d1425c4d5bc9cd550a0e1b261d8e", func := "steelyard/steelyardlaw07.SuperOrder", spec := "superOrder", inPlace := ["math.Float64bits", "math.Float64frombits"], named := ["math/bits.deBruijn32tab"], apart := false, laid := [("math/bits.deBruijn32tab", laid_math_bits_deBruijn32tab)], narrowed := true }
def SuperOrderUptoSaid : Prop := superOrderUptoRow.holds Tryd.pinned (OpenSpec.upto superOrderSpec)

/-- 'steelyardlaw07.SuperUndone', WHERE WHAT IT READS IS OF BULK AT MOST 1048576: true; the input reads as it did. -/
def superUndoneUptoRow : OpenClaim := { program := "ytmlmgfodkehenaadoor", sum := "d3bb06ef363e1bd6f333c6081a5823332479d1425c4d5bc9cd550a0e1b261d8e", func := "steelyard/steelyardlaw07.SuperUndone", spec := "superUndone", inPlace := ["math.Float64bits", "math.Float64frombits"], named := ["math/bits.deBruijn32tab"], apart := false, laid := [("math/bits.deBruijn32tab", laid_math_bits_deBruijn32tab)], narrowed := true }
def SuperUndoneUptoSaid : Prop := superUndoneUptoRow.holds Tryd.pinned (OpenSpec.upto superUndoneSpec)

/-- 'steelyardlaw07.SuperBetween', WHERE WHAT IT READS IS OF BULK AT MOST 1048576: true; the input reads as it did. -/
def superBetweenUptoRow : OpenClaim := { program := "ytmlmgfodkehenaadoor", sum := "d3bb06ef363e1bd6f333c6081a5823332479d1425c4d5bc9cd550a0e1b261d8e", func := "steelyard/steelyardlaw07.SuperBetween", spec := "superBetween", inPlace := ["math.Float64bits", "math.Float64frombits"], recurses := true, named := ["math/bits.deBruijn32tab"], apart := false, laid := [("math/bits.deBruijn32tab", laid_math_bits_deBruijn32tab)], narrowed := true }
def SuperBetweenUptoSaid : Prop := superBetweenUptoRow.holds Tryd.pinned (OpenSpec.upto superBetweenSpec)

end Rows
end Go.Proofs.YtmlmgfodkehenaaDoor
