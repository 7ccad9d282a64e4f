/-
  DERIVED. GIVEN WITH THE SEED: THE CARDS: each row of YtjpaocgimdinmaaGreatDoorRows.lean that lists a variable, with what it lists TIED to the program's text (the seventh form; the later family's looks); each row that meets fmt, with fmt's text TOLD by the authors' own Lean function (tested against real Go, not proved from fmt's source: count such statements apart). THE CARD IS WHAT COUNTS. Prove the row's statement (the work); the ties are given (YtjpaocgimdinmaaGreatDoorTie.lean); close each card by the builder's one call (the guide's Derived/Test/ToyasCard.lean, 'card_holds'). Laid BY PROGRAM, IN A SANDBOX (cutbox-door.mjs). By AI agents, Wed Nov 11 2026. No macro, syntax, notation, axiom, sorry.
-/
import Derived.Test.YtjpaocgimdinmaaGreatDoorRows
import GoSem.ClaimSeven
namespace Go.Proofs.YtjpaocgimdinmaaGreatDoor
namespace Rows

/-- THE TIED CARD OF 'steelyardlaw07.SuperScript'. -/
def superScriptCard : Claim7 := { stood := { row := superScriptRow, standIns := [], harness := (true, "60598564d266f4950068cff74e437cbf4162f2debef320226b1d6969306d61ec"), looks := false }, kinds := [], alts := [], laidByText := true, laidKinds := [.data], laidTests := true, laidLooks := .later }
def SuperScriptCardSaid : Prop := Claim7.holds Tryz.pinned (.plain (OpenSpec.ofChange superScriptSpec)) superScriptCard

/-- THE TIED CARD OF 'steelyardlaw08.SpreadPlays'. -/
def spreadPlaysCard : Claim7 := { stood := { row := spreadPlaysRow, standIns := [], harness := (true, "60598564d266f4950068cff74e437cbf4162f2debef320226b1d6969306d61ec"), looks := false }, kinds := [], alts := [], laidByText := true, laidKinds := [.data], laidTests := true, laidLooks := .later }
def SpreadPlaysCardSaid : Prop := Claim7.holds Tryz.pinned (.plain (OpenSpec.ofChange spreadPlaysSpec)) spreadPlaysCard

/-- THE TIED CARD OF 'steelyardlaw09.BinsPlays'. -/
def binsPlaysCard : Claim7 := { stood := { row := binsPlaysRow, standIns := [], harness := (true, "60598564d266f4950068cff74e437cbf4162f2debef320226b1d6969306d61ec"), looks := false }, kinds := [], alts := [], laidByText := true, laidKinds := [.data], laidTests := true, laidLooks := .later }
def BinsPlaysCardSaid : Prop := Claim7.holds Tryz.pinned (.plain (OpenSpec.ofChange binsPlaysSpec)) binsPlaysCard

/-- THE TIED CARD OF 'steelyardlaw09.BinsAlike'. -/
def binsAlikeCard : Claim7 := { stood := { row := binsAlikeRow, standIns := [], harness := (true, "60598564d266f4950068cff74e437cbf4162f2debef320226b1d6969306d61ec"), looks := false }, kinds := [], alts := [], laidByText := true, laidKinds := [.data], laidTests := true, laidLooks := .later }
def BinsAlikeCardSaid : Prop := Claim7.holds Tryz.pinned (.plain (OpenSpec.ofChange binsAlikeSpec)) binsAlikeCard

/-- THE SECOND FORM's CARD OF 'steelyardlaw07.SuperScript'. -/
def superScriptUptoCard : Claim7 := { stood := { row := superScriptUptoRow, standIns := [], harness := (true, "60598564d266f4950068cff74e437cbf4162f2debef320226b1d6969306d61ec"), looks := false }, kinds := [], alts := [], laidByText := true, laidKinds := [.data], laidTests := true, laidLooks := .later }
def SuperScriptUptoCardSaid : Prop := Claim7.holds Tryz.pinned (.plain (OpenSpec.upto superScriptSpec)) superScriptUptoCard

/-- THE SECOND FORM's CARD OF 'steelyardlaw08.SpreadPlays'. -/
def spreadPlaysUptoCard : Claim7 := { stood := { row := spreadPlaysUptoRow, standIns := [], harness := (true, "60598564d266f4950068cff74e437cbf4162f2debef320226b1d6969306d61ec"), looks := false }, kinds := [], alts := [], laidByText := true, laidKinds := [.data], laidTests := true, laidLooks := .later }
def SpreadPlaysUptoCardSaid : Prop := Claim7.holds Tryz.pinned (.plain (OpenSpec.upto spreadPlaysSpec)) spreadPlaysUptoCard

/-- THE SECOND FORM's CARD OF 'steelyardlaw09.BinsPlays'. -/
def binsPlaysUptoCard : Claim7 := { stood := { row := binsPlaysUptoRow, standIns := [], harness := (true, "60598564d266f4950068cff74e437cbf4162f2debef320226b1d6969306d61ec"), looks := false }, kinds := [], alts := [], laidByText := true, laidKinds := [.data], laidTests := true, laidLooks := .later }
def BinsPlaysUptoCardSaid : Prop := Claim7.holds Tryz.pinned (.plain (OpenSpec.upto binsPlaysSpec)) binsPlaysUptoCard

/-- THE SECOND FORM's CARD OF 'steelyardlaw09.BinsAlike'. -/
def binsAlikeUptoCard : Claim7 := { stood := { row := binsAlikeUptoRow, standIns := [], harness := (true, "60598564d266f4950068cff74e437cbf4162f2debef320226b1d6969306d61ec"), looks := false }, kinds := [], alts := [], laidByText := true, laidKinds := [.data], laidTests := true, laidLooks := .later }
def BinsAlikeUptoCardSaid : Prop := Claim7.holds Tryz.pinned (.plain (OpenSpec.upto binsAlikeSpec)) binsAlikeUptoCard
end Rows
end Go.Proofs.YtjpaocgimdinmaaGreatDoor
