/-
  DERIVED. GIVEN WITH THE SEED: THE CARDS: each row of YtblkpkgebigojaaGreatDoorRows.lean that lists a variable, with what it lists TIED to the program's text (the seventh form; the later family's looks); each row that meets fmt, with fmt's text TOLD by the authors' own Lean function (tested against real Go, not proved from fmt's source: count such statements apart). THE CARD IS WHAT COUNTS. Prove the row's statement (the work); the ties are given (YtblkpkgebigojaaGreatDoorTie.lean); close each card by the builder's one call (the guide's Derived/Test/ToyasCard.lean, 'card_holds'). Laid BY PROGRAM, IN A SANDBOX (cutbox-door.mjs). By AI agents, Wed Nov 11 2026. No macro, syntax, notation, axiom, sorry.
-/
import Derived.Test.YtblkpkgebigojaaGreatDoorRows
import GoSem.ClaimSeven
namespace Go.Proofs.YtblkpkgebigojaaGreatDoor
namespace Rows

/-- THE TIED CARD OF 'steelyardlaw16.QuantRises'. -/
def quantRisesCard : Claim7 := { stood := { row := quantRisesRow, standIns := [], harness := (true, "7a7a093d7c1081038e293831b3b83a3b6c8db90e4971f3d39278b0ae5ca6a2c2"), looks := false }, kinds := [], alts := [], laidByText := true, laidKinds := [.data], laidTests := true, laidLooks := .later }
def QuantRisesCardSaid : Prop := Claim7.holds Tryz.pinned (.plain (OpenSpec.ofChange quantRisesSpec)) quantRisesCard

/-- THE TIED CARD OF 'steelyardlaw16.QuantMedian'. -/
def quantMedianCard : Claim7 := { stood := { row := quantMedianRow, standIns := [], harness := (true, "7a7a093d7c1081038e293831b3b83a3b6c8db90e4971f3d39278b0ae5ca6a2c2"), looks := false }, kinds := [], alts := [], laidByText := true, laidKinds := [.data], laidTests := true, laidLooks := .later }
def QuantMedianCardSaid : Prop := Claim7.holds Tryz.pinned (.plain (OpenSpec.ofChange quantMedianSpec)) quantMedianCard

/-- THE TIED CARD OF 'steelyardlaw19.FitLines'. -/
def fitLinesCard : Claim7 := { stood := { row := fitLinesRow, standIns := [], harness := (true, "7a7a093d7c1081038e293831b3b83a3b6c8db90e4971f3d39278b0ae5ca6a2c2"), looks := false }, kinds := [], alts := [], laidByText := true, laidKinds := [.data], laidTests := true, laidLooks := .later }
def FitLinesCardSaid : Prop := Claim7.holds Tryz.pinned (.plain (OpenSpec.ofChange fitLinesSpec)) fitLinesCard

/-- THE TIED CARD OF 'steelyardlaw19.FitAts'. -/
def fitAtsCard : Claim7 := { stood := { row := fitAtsRow, standIns := [], harness := (true, "7a7a093d7c1081038e293831b3b83a3b6c8db90e4971f3d39278b0ae5ca6a2c2"), looks := false }, kinds := [], alts := [], laidByText := true, laidKinds := [.data], laidTests := true, laidLooks := .later }
def FitAtsCardSaid : Prop := Claim7.holds Tryz.pinned (.plain (OpenSpec.ofChange fitAtsSpec)) fitAtsCard

/-- THE TIED CARD OF 'steelyardlaw19.FitThrough'. -/
def fitThroughCard : Claim7 := { stood := { row := fitThroughRow, standIns := [], harness := (true, "7a7a093d7c1081038e293831b3b83a3b6c8db90e4971f3d39278b0ae5ca6a2c2"), looks := false }, kinds := [], alts := [], laidByText := true, laidKinds := [.data], laidTests := true, laidLooks := .later }
def FitThroughCardSaid : Prop := Claim7.holds Tryz.pinned (.plain (OpenSpec.ofChange fitThroughSpec)) fitThroughCard

/-- THE SECOND FORM's CARD OF 'steelyardlaw16.QuantRises'. -/
def quantRisesUptoCard : Claim7 := { stood := { row := quantRisesUptoRow, standIns := [], harness := (true, "7a7a093d7c1081038e293831b3b83a3b6c8db90e4971f3d39278b0ae5ca6a2c2"), looks := false }, kinds := [], alts := [], laidByText := true, laidKinds := [.data], laidTests := true, laidLooks := .later }
def QuantRisesUptoCardSaid : Prop := Claim7.holds Tryz.pinned (.plain (OpenSpec.upto quantRisesSpec)) quantRisesUptoCard

/-- THE SECOND FORM's CARD OF 'steelyardlaw16.QuantMedian'. -/
def quantMedianUptoCard : Claim7 := { stood := { row := quantMedianUptoRow, standIns := [], harness := (true, "7a7a093d7c1081038e293831b3b83a3b6c8db90e4971f3d39278b0ae5ca6a2c2"), looks := false }, kinds := [], alts := [], laidByText := true, laidKinds := [.data], laidTests := true, laidLooks := .later }
def QuantMedianUptoCardSaid : Prop := Claim7.holds Tryz.pinned (.plain (OpenSpec.upto quantMedianSpec)) quantMedianUptoCard

/-- THE SECOND FORM's CARD OF 'steelyardlaw19.FitLines'. -/
def fitLinesUptoCard : Claim7 := { stood := { row := fitLinesUptoRow, standIns := [], harness := (true, "7a7a093d7c1081038e293831b3b83a3b6c8db90e4971f3d39278b0ae5ca6a2c2"), looks := false }, kinds := [], alts := [], laidByText := true, laidKinds := [.data], laidTests := true, laidLooks := .later }
def FitLinesUptoCardSaid : Prop := Claim7.holds Tryz.pinned (.plain (OpenSpec.upto fitLinesSpec)) fitLinesUptoCard

/-- THE SECOND FORM's CARD OF 'steelyardlaw19.FitAts'. -/
def fitAtsUptoCard : Claim7 := { stood := { row := fitAtsUptoRow, standIns := [], harness := (true, "7a7a093d7c1081038e293831b3b83a3b6c8db90e4971f3d39278b0ae5ca6a2c2"), looks := false }, kinds := [], alts := [], laidByText := true, laidKinds := [.data], laidTests := true, laidLooks := .later }
def FitAtsUptoCardSaid : Prop := Claim7.holds Tryz.pinned (.plain (OpenSpec.upto fitAtsSpec)) fitAtsUptoCard

/-- THE SECOND FORM's CARD OF 'steelyardlaw19.FitThrough'. -/
def fitThroughUptoCard : Claim7 := { stood := { row := fitThroughUptoRow, standIns := [], harness := (true, "7a7a093d7c1081038e293831b3b83a3b6c8db90e4971f3d39278b0ae5ca6a2c2"), looks := false }, kinds := [], alts := [], laidByText := true, laidKinds := [.data], laidTests := true, laidLooks := .later }
def FitThroughUptoCardSaid : Prop := Claim7.holds Tryz.pinned (.plain (OpenSpec.upto fitThroughSpec)) fitThroughUptoCard
end Rows
end Go.Proofs.YtblkpkgebigojaaGreatDoor
