/-
  DERIVED. GIVEN WITH THE SEED: THE CARDS: each row of YtjppdacikihpdaaGreatDoorRows.lean that lists a variable, with what it lists TIED to the program's text (the seventh form; the later family's looks); each row that meets fmt, with fmt's text TOLD by the authors' own Lean function (tested against real Go, not proved from fmt's source: count such statements apart). THE CARD IS WHAT COUNTS. Prove the row's statement (the work); the ties are given (YtjppdacikihpdaaGreatDoorTie.lean); close each card by the builder's one call (the guide's Derived/Test/ToyasCard.lean, 'card_holds'). Laid BY PROGRAM, IN A SANDBOX (cutbox-door.mjs). By AI agents, Wed Nov 11 2026. No macro, syntax, notation, axiom, sorry.
-/
import Derived.Test.YtjppdacikihpdaaGreatDoorRows
import GoSem.ClaimSeven
namespace Go.Proofs.YtjppdacikihpdaaGreatDoor
namespace Rows

/-- THE TIED CARD OF 'steelyardlaw16.QuantAsks'. -/
def quantAsksCard : Claim7 := { stood := { row := quantAsksRow, standIns := [], harness := (true, "a2441ee5f0447e0f8eaa5e6d9714a7c11d2ffa39804fe563725a19e6d9f231b3"), looks := false }, kinds := [], alts := [], laidByText := true, laidKinds := [.data], laidTests := true, laidLooks := .later }
def QuantAsksCardSaid : Prop := Claim7.holds Tryz.pinned (.plain (OpenSpec.ofChange quantAsksSpec)) quantAsksCard

/-- THE TIED CARD OF 'steelyardlaw16.QuantSeveral'. -/
def quantSeveralCard : Claim7 := { stood := { row := quantSeveralRow, standIns := [], harness := (true, "a2441ee5f0447e0f8eaa5e6d9714a7c11d2ffa39804fe563725a19e6d9f231b3"), looks := false }, kinds := [], alts := [], laidByText := true, laidKinds := [.data], laidTests := true, laidLooks := .later }
def QuantSeveralCardSaid : Prop := Claim7.holds Tryz.pinned (.plain (OpenSpec.ofChange quantSeveralSpec)) quantSeveralCard

/-- THE SECOND FORM's CARD OF 'steelyardlaw16.QuantAsks'. -/
def quantAsksUptoCard : Claim7 := { stood := { row := quantAsksUptoRow, standIns := [], harness := (true, "a2441ee5f0447e0f8eaa5e6d9714a7c11d2ffa39804fe563725a19e6d9f231b3"), looks := false }, kinds := [], alts := [], laidByText := true, laidKinds := [.data], laidTests := true, laidLooks := .later }
def QuantAsksUptoCardSaid : Prop := Claim7.holds Tryz.pinned (.plain (OpenSpec.upto quantAsksSpec)) quantAsksUptoCard

/-- THE SECOND FORM's CARD OF 'steelyardlaw16.QuantSeveral'. -/
def quantSeveralUptoCard : Claim7 := { stood := { row := quantSeveralUptoRow, standIns := [], harness := (true, "a2441ee5f0447e0f8eaa5e6d9714a7c11d2ffa39804fe563725a19e6d9f231b3"), looks := false }, kinds := [], alts := [], laidByText := true, laidKinds := [.data], laidTests := true, laidLooks := .later }
def QuantSeveralUptoCardSaid : Prop := Claim7.holds Tryz.pinned (.plain (OpenSpec.upto quantSeveralSpec)) quantSeveralUptoCard
end Rows
end Go.Proofs.YtjppdacikihpdaaGreatDoor
