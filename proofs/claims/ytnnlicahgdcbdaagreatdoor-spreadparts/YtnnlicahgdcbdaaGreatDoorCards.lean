/-
  DERIVED. GIVEN WITH THE SEED: THE CARDS: each row of YtnnlicahgdcbdaaGreatDoorRows.lean that lists a variable, with what it lists TIED to the program's text (the seventh form; the later family's looks); each row that meets fmt, with fmt's text TOLD by the authors' own Lean function (tested against real Go, not proved from fmt's source: count such statements apart). THE CARD IS WHAT COUNTS. Prove the row's statement (the work); the ties are given (YtnnlicahgdcbdaaGreatDoorTie.lean); close each card by the builder's one call (the guide's Derived/Test/ToyasCard.lean, 'card_holds'). Laid BY PROGRAM, IN A SANDBOX (cutbox-door.mjs). By AI agents, Wed Nov 11 2026. No macro, syntax, notation, axiom, sorry.
-/
import Derived.Test.YtnnlicahgdcbdaaGreatDoorRows
import GoSem.ClaimSeven
namespace Go.Proofs.YtnnlicahgdcbdaaGreatDoor
namespace Rows

/-- THE TIED CARD OF 'steelyardlaw07.SuperScript'. -/
def superScriptCard : Claim7 := { stood := { row := superScriptRow, standIns := [], harness := (true, "7e32055f09c31e5e333e6e4411ab45185c3721835452c028ef135c89344c1f9e"), looks := false }, kinds := [], alts := [], laidByText := true, laidKinds := [.data], laidTests := true, laidLooks := .later }
def SuperScriptCardSaid : Prop := Claim7.holds Tryz.pinned (.plain (OpenSpec.ofChange superScriptSpec)) superScriptCard

/-- THE TIED CARD OF 'steelyardlaw08.SpreadPlays'. -/
def spreadPlaysCard : Claim7 := { stood := { row := spreadPlaysRow, standIns := [], harness := (true, "7e32055f09c31e5e333e6e4411ab45185c3721835452c028ef135c89344c1f9e"), looks := false }, kinds := [], alts := [], laidByText := true, laidKinds := [.data], laidTests := true, laidLooks := .later }
def SpreadPlaysCardSaid : Prop := Claim7.holds Tryz.pinned (.plain (OpenSpec.ofChange spreadPlaysSpec)) spreadPlaysCard

/-- THE TIED CARD OF 'steelyardlaw08.SpreadParts'. -/
def spreadPartsCard : Claim7 := { stood := { row := spreadPartsRow, standIns := [], harness := (true, "7e32055f09c31e5e333e6e4411ab45185c3721835452c028ef135c89344c1f9e"), looks := false }, kinds := [], alts := [], laidByText := true, laidKinds := [.data], laidTests := true, laidLooks := .later }
def SpreadPartsCardSaid : Prop := Claim7.holds Tryz.pinned (.plain (OpenSpec.ofChange spreadPartsSpec)) spreadPartsCard

/-- THE SECOND FORM's CARD OF 'steelyardlaw07.SuperScript'. -/
def superScriptUptoCard : Claim7 := { stood := { row := superScriptUptoRow, standIns := [], harness := (true, "7e32055f09c31e5e333e6e4411ab45185c3721835452c028ef135c89344c1f9e"), looks := false }, kinds := [], alts := [], laidByText := true, laidKinds := [.data], laidTests := true, laidLooks := .later }
def SuperScriptUptoCardSaid : Prop := Claim7.holds Tryz.pinned (.plain (OpenSpec.upto superScriptSpec)) superScriptUptoCard

/-- THE SECOND FORM's CARD OF 'steelyardlaw08.SpreadPlays'. -/
def spreadPlaysUptoCard : Claim7 := { stood := { row := spreadPlaysUptoRow, standIns := [], harness := (true, "7e32055f09c31e5e333e6e4411ab45185c3721835452c028ef135c89344c1f9e"), looks := false }, kinds := [], alts := [], laidByText := true, laidKinds := [.data], laidTests := true, laidLooks := .later }
def SpreadPlaysUptoCardSaid : Prop := Claim7.holds Tryz.pinned (.plain (OpenSpec.upto spreadPlaysSpec)) spreadPlaysUptoCard

/-- THE SECOND FORM's CARD OF 'steelyardlaw08.SpreadParts'. -/
def spreadPartsUptoCard : Claim7 := { stood := { row := spreadPartsUptoRow, standIns := [], harness := (true, "7e32055f09c31e5e333e6e4411ab45185c3721835452c028ef135c89344c1f9e"), looks := false }, kinds := [], alts := [], laidByText := true, laidKinds := [.data], laidTests := true, laidLooks := .later }
def SpreadPartsUptoCardSaid : Prop := Claim7.holds Tryz.pinned (.plain (OpenSpec.upto spreadPartsSpec)) spreadPartsUptoCard
end Rows
end Go.Proofs.YtnnlicahgdcbdaaGreatDoor
