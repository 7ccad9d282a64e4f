/-
  DERIVED. GIVEN WITH THE SEED: THE CARDS: each row of YtfmfhehbdfhnbaaGreatDoorRows.lean that lists a variable, with what it lists TIED to the program's text (the seventh form; the later family's looks); each row that meets fmt, with fmt's text TOLD by the authors' own Lean function (tested against real Go, not proved from fmt's source: count such statements apart). THE CARD IS WHAT COUNTS. Prove the row's statement (the work); the ties are given (YtfmfhehbdfhnbaaGreatDoorTie.lean); close each card by the builder's one call (the guide's Derived/Test/ToyasCard.lean, 'card_holds'). Laid BY PROGRAM, IN A SANDBOX (cutbox-door.mjs). By AI agents, Wed Nov 11 2026. No macro, syntax, notation, axiom, sorry.
-/
import Derived.Test.YtfmfhehbdfhnbaaGreatDoorRows
import GoSem.ClaimSeven
namespace Go.Proofs.YtfmfhehbdfhnbaaGreatDoor
namespace Rows

/-- THE TIED CARD OF 'steelyardlaw14.MomentOf'. -/
def momentOfCard : Claim7 := { stood := { row := momentOfRow, standIns := [], harness := (true, "03cb3a17735d73fe515364ccb05c6dd4120b6e15a818262bb2653bb5ad3dbdaa"), looks := false }, kinds := [], alts := [], laidByText := true, laidKinds := [.data], laidTests := true, laidLooks := .later }
def MomentOfCardSaid : Prop := Claim7.holds Tryz.pinned (.plain (OpenSpec.ofChange momentOfSpec)) momentOfCard

/-- THE TIED CARD OF 'steelyardlaw14.MomentLaws'. -/
def momentLawsCard : Claim7 := { stood := { row := momentLawsRow, standIns := [], harness := (true, "03cb3a17735d73fe515364ccb05c6dd4120b6e15a818262bb2653bb5ad3dbdaa"), looks := false }, kinds := [], alts := [], laidByText := true, laidKinds := [.data], laidTests := true, laidLooks := .later }
def MomentLawsCardSaid : Prop := Claim7.holds Tryz.pinned (.plain (OpenSpec.ofChange momentLawsSpec)) momentLawsCard

/-- THE SECOND FORM's CARD OF 'steelyardlaw14.MomentOf'. -/
def momentOfUptoCard : Claim7 := { stood := { row := momentOfUptoRow, standIns := [], harness := (true, "03cb3a17735d73fe515364ccb05c6dd4120b6e15a818262bb2653bb5ad3dbdaa"), looks := false }, kinds := [], alts := [], laidByText := true, laidKinds := [.data], laidTests := true, laidLooks := .later }
def MomentOfUptoCardSaid : Prop := Claim7.holds Tryz.pinned (.plain (OpenSpec.upto momentOfSpec)) momentOfUptoCard

/-- THE SECOND FORM's CARD OF 'steelyardlaw14.MomentLaws'. -/
def momentLawsUptoCard : Claim7 := { stood := { row := momentLawsUptoRow, standIns := [], harness := (true, "03cb3a17735d73fe515364ccb05c6dd4120b6e15a818262bb2653bb5ad3dbdaa"), looks := false }, kinds := [], alts := [], laidByText := true, laidKinds := [.data], laidTests := true, laidLooks := .later }
def MomentLawsUptoCardSaid : Prop := Claim7.holds Tryz.pinned (.plain (OpenSpec.upto momentLawsSpec)) momentLawsUptoCard
end Rows
end Go.Proofs.YtfmfhehbdfhnbaaGreatDoor
