/-
  DERIVED. GIVEN WITH THE SEED: THE CARDS: each row of YteginbngplldaaaGreatDoorRows.lean that lists a variable, with what it lists TIED to the program's text (the seventh form; the later family's looks); each row that meets fmt, with fmt's text TOLD by the authors' own Lean function (tested against real Go, not proved from fmt's source: count such statements apart). THE CARD IS WHAT COUNTS. Prove the row's statement (the work); the ties are given (YteginbngplldaaaGreatDoorTie.lean); close each card by the builder's one call (the guide's Derived/Test/ToyasCard.lean, 'card_holds'). Laid BY PROGRAM, IN A SANDBOX (cutbox-door.mjs). By AI agents, Wed Nov 11 2026. No macro, syntax, notation, axiom, sorry.
-/
import Derived.Test.YteginbngplldaaaGreatDoorRows
import GoSem.ClaimSeven
namespace Go.Proofs.YteginbngplldaaaGreatDoor
namespace Rows

/-- THE TIED CARD OF 'steelyardlaw14.MomentNumbers'. -/
def momentNumbersCard : Claim7 := { stood := { row := momentNumbersRow, standIns := [], harness := (true, "391badd94f57709af444023fcefeb88fcf842263b91d58335a9eb8610aed8e8a"), looks := false }, kinds := [], alts := [], laidByText := true, laidKinds := [.data], laidTests := true, laidLooks := .later }
def MomentNumbersCardSaid : Prop := Claim7.holds Tryz.pinned (.plain (OpenSpec.ofChange momentNumbersSpec)) momentNumbersCard

/-- THE TIED CARD OF 'steelyardlaw14.MomentVars'. -/
def momentVarsCard : Claim7 := { stood := { row := momentVarsRow, standIns := [], harness := (true, "391badd94f57709af444023fcefeb88fcf842263b91d58335a9eb8610aed8e8a"), looks := false }, kinds := [], alts := [], laidByText := true, laidKinds := [.data], laidTests := true, laidLooks := .later }
def MomentVarsCardSaid : Prop := Claim7.holds Tryz.pinned (.plain (OpenSpec.ofChange momentVarsSpec)) momentVarsCard

/-- THE TIED CARD OF 'steelyardlaw14.MomentTwo'. -/
def momentTwoCard : Claim7 := { stood := { row := momentTwoRow, standIns := [], harness := (true, "391badd94f57709af444023fcefeb88fcf842263b91d58335a9eb8610aed8e8a"), looks := false }, kinds := [], alts := [], laidByText := true, laidKinds := [.data], laidTests := true, laidLooks := .later }
def MomentTwoCardSaid : Prop := Claim7.holds Tryz.pinned (.plain (OpenSpec.ofChange momentTwoSpec)) momentTwoCard

/-- THE TIED CARD OF 'steelyardlaw14.MomentOf'. -/
def momentOfCard : Claim7 := { stood := { row := momentOfRow, standIns := [], harness := (true, "391badd94f57709af444023fcefeb88fcf842263b91d58335a9eb8610aed8e8a"), looks := false }, kinds := [], alts := [], laidByText := true, laidKinds := [.data], laidTests := true, laidLooks := .later }
def MomentOfCardSaid : Prop := Claim7.holds Tryz.pinned (.plain (OpenSpec.ofChange momentOfSpec)) momentOfCard

/-- THE TIED CARD OF 'steelyardlaw14.MomentLaws'. -/
def momentLawsCard : Claim7 := { stood := { row := momentLawsRow, standIns := [], harness := (true, "391badd94f57709af444023fcefeb88fcf842263b91d58335a9eb8610aed8e8a"), looks := false }, kinds := [], alts := [], laidByText := true, laidKinds := [.data], laidTests := true, laidLooks := .later }
def MomentLawsCardSaid : Prop := Claim7.holds Tryz.pinned (.plain (OpenSpec.ofChange momentLawsSpec)) momentLawsCard

/-- THE SECOND FORM's CARD OF 'steelyardlaw14.MomentNumbers'. -/
def momentNumbersUptoCard : Claim7 := { stood := { row := momentNumbersUptoRow, standIns := [], harness := (true, "391badd94f57709af444023fcefeb88fcf842263b91d58335a9eb8610aed8e8a"), looks := false }, kinds := [], alts := [], laidByText := true, laidKinds := [.data], laidTests := true, laidLooks := .later }
def MomentNumbersUptoCardSaid : Prop := Claim7.holds Tryz.pinned (.plain (OpenSpec.upto momentNumbersSpec)) momentNumbersUptoCard

/-- THE SECOND FORM's CARD OF 'steelyardlaw14.MomentVars'. -/
def momentVarsUptoCard : Claim7 := { stood := { row := momentVarsUptoRow, standIns := [], harness := (true, "391badd94f57709af444023fcefeb88fcf842263b91d58335a9eb8610aed8e8a"), looks := false }, kinds := [], alts := [], laidByText := true, laidKinds := [.data], laidTests := true, laidLooks := .later }
def MomentVarsUptoCardSaid : Prop := Claim7.holds Tryz.pinned (.plain (OpenSpec.upto momentVarsSpec)) momentVarsUptoCard

/-- THE SECOND FORM's CARD OF 'steelyardlaw14.MomentTwo'. -/
def momentTwoUptoCard : Claim7 := { stood := { row := momentTwoUptoRow, standIns := [], harness := (true, "391badd94f57709af444023fcefeb88fcf842263b91d58335a9eb8610aed8e8a"), looks := false }, kinds := [], alts := [], laidByText := true, laidKinds := [.data], laidTests := true, laidLooks := .later }
def MomentTwoUptoCardSaid : Prop := Claim7.holds Tryz.pinned (.plain (OpenSpec.upto momentTwoSpec)) momentTwoUptoCard

/-- THE SECOND FORM's CARD OF 'steelyardlaw14.MomentOf'. -/
def momentOfUptoCard : Claim7 := { stood := { row := momentOfUptoRow, standIns := [], harness := (true, "391badd94f57709af444023fcefeb88fcf842263b91d58335a9eb8610aed8e8a"), looks := false }, kinds := [], alts := [], laidByText := true, laidKinds := [.data], laidTests := true, laidLooks := .later }
def MomentOfUptoCardSaid : Prop := Claim7.holds Tryz.pinned (.plain (OpenSpec.upto momentOfSpec)) momentOfUptoCard

/-- THE SECOND FORM's CARD OF 'steelyardlaw14.MomentLaws'. -/
def momentLawsUptoCard : Claim7 := { stood := { row := momentLawsUptoRow, standIns := [], harness := (true, "391badd94f57709af444023fcefeb88fcf842263b91d58335a9eb8610aed8e8a"), looks := false }, kinds := [], alts := [], laidByText := true, laidKinds := [.data], laidTests := true, laidLooks := .later }
def MomentLawsUptoCardSaid : Prop := Claim7.holds Tryz.pinned (.plain (OpenSpec.upto momentLawsSpec)) momentLawsUptoCard
end Rows
end Go.Proofs.YteginbngplldaaaGreatDoor
