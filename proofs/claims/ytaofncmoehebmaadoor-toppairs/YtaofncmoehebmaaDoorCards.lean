/-
  DERIVED. GIVEN WITH THE SEED: THE CARDS: each row of YtaofncmoehebmaaDoorRows.lean that lists a variable, with what it lists TIED to the program's text (the seventh form; the later family's looks); each row that meets fmt, with fmt's text TOLD by the authors' own Lean function (tested against real Go, not proved from fmt's source: count such statements apart). THE CARD IS WHAT COUNTS. Prove the row's statement (the work); the ties are given (YtaofncmoehebmaaDoorTie.lean); close each card by the builder's one call (the guide's Derived/Test/ToyasCard.lean, 'card_holds'). Laid BY PROGRAM, IN A SANDBOX (cutbox-door.mjs). By AI agents, Wed Nov 11 2026. No macro, syntax, notation, axiom, sorry.
-/
import Derived.Test.YtaofncmoehebmaaDoorRows
import GoSem.ClaimSeven
namespace Go.Proofs.YtaofncmoehebmaaDoor
namespace Rows

/-- THE TIED CARD OF 'steelyardtop.TopPairs'. -/
def topPairsCard : Claim7 := { stood := { row := topPairsRow, standIns := [], harness := (true, "d21cd8826a21b34cfea35e6228d56227cf0dff196c636642f095661dfb82781f"), looks := false }, kinds := [], alts := [], laidByText := true, laidKinds := [.data], laidTests := true, laidLooks := .later }
def TopPairsCardSaid : Prop := Claim7.holds Tryd.pinned (.plain (OpenSpec.ofChange topPairsSpec)) topPairsCard

/-- THE SECOND FORM's CARD OF 'steelyardtop.TopPairs'. -/
def topPairsUptoCard : Claim7 := { stood := { row := topPairsUptoRow, standIns := [], harness := (true, "d21cd8826a21b34cfea35e6228d56227cf0dff196c636642f095661dfb82781f"), looks := false }, kinds := [], alts := [], laidByText := true, laidKinds := [.data], laidTests := true, laidLooks := .later }
def TopPairsUptoCardSaid : Prop := Claim7.holds Tryd.pinned (.plain (OpenSpec.upto topPairsSpec)) topPairsUptoCard
end Rows
end Go.Proofs.YtaofncmoehebmaaDoor
