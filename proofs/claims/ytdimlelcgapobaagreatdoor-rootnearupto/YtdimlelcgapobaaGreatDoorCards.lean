/-
  DERIVED. GIVEN WITH THE SEED: THE CARDS: each row of YtdimlelcgapobaaGreatDoorRows.lean that lists a variable, with what it lists TIED to the program's text (the seventh form; the later family's looks); each row that meets fmt, with fmt's text TOLD by the authors' own Lean function (tested against real Go, not proved from fmt's source: count such statements apart). THE CARD IS WHAT COUNTS. Prove the row's statement (the work); the ties are given (YtdimlelcgapobaaGreatDoorTie.lean); close each card by the builder's one call (the guide's Derived/Test/ToyasCard.lean, 'card_holds'). Laid BY PROGRAM, IN A SANDBOX (cutbox-door.mjs). By AI agents, Wed Nov 11 2026. No macro, syntax, notation, axiom, sorry.
-/
import Derived.Test.YtdimlelcgapobaaGreatDoorRows
import GoSem.ClaimSeven
namespace Go.Proofs.YtdimlelcgapobaaGreatDoor
namespace Rows

/-- THE TIED CARD OF 'steelyardlaw11.RootNumbers'. -/
def rootNumbersCard : Claim7 := { stood := { row := rootNumbersRow, standIns := [], harness := (true, "bc70db11d30ffec39e1b1f9cb48d52d7a5cec3ab37d1a07031eb4a1a20708f18"), looks := false }, kinds := [], alts := [], laidByText := true, laidKinds := [.data], laidTests := true, laidLooks := .later }
def RootNumbersCardSaid : Prop := Claim7.holds Tryz.pinned (.plain (OpenSpec.ofChange rootNumbersSpec)) rootNumbersCard

/-- THE TIED CARD OF 'steelyardlaw11.RootRounds'. -/
def rootRoundsCard : Claim7 := { stood := { row := rootRoundsRow, standIns := [], harness := (true, "bc70db11d30ffec39e1b1f9cb48d52d7a5cec3ab37d1a07031eb4a1a20708f18"), looks := false }, kinds := [], alts := [], laidByText := true, laidKinds := [.data], laidTests := true, laidLooks := .later }
def RootRoundsCardSaid : Prop := Claim7.holds Tryz.pinned (.plain (OpenSpec.ofChange rootRoundsSpec)) rootRoundsCard

/-- THE TIED CARD OF 'steelyardlaw11.RootWorks'. -/
def rootWorksCard : Claim7 := { stood := { row := rootWorksRow, standIns := [], harness := (true, "bc70db11d30ffec39e1b1f9cb48d52d7a5cec3ab37d1a07031eb4a1a20708f18"), looks := false }, kinds := [], alts := [], laidByText := true, laidKinds := [.data], laidTests := true, laidLooks := .later }
def RootWorksCardSaid : Prop := Claim7.holds Tryz.pinned (.plain (OpenSpec.ofChange rootWorksSpec)) rootWorksCard

/-- THE TIED CARD OF 'steelyardlaw11.RootNear'. -/
def rootNearCard : Claim7 := { stood := { row := rootNearRow, standIns := [], harness := (true, "bc70db11d30ffec39e1b1f9cb48d52d7a5cec3ab37d1a07031eb4a1a20708f18"), looks := false }, kinds := [], alts := [], laidByText := true, laidKinds := [.data], laidTests := true, laidLooks := .later }
def RootNearCardSaid : Prop := Claim7.holds Tryz.pinned (.plain (OpenSpec.ofChange rootNearSpec)) rootNearCard

/-- THE TIED CARD OF 'steelyardlaw11.RootLaws'. -/
def rootLawsCard : Claim7 := { stood := { row := rootLawsRow, standIns := [], harness := (true, "bc70db11d30ffec39e1b1f9cb48d52d7a5cec3ab37d1a07031eb4a1a20708f18"), looks := false }, kinds := [], alts := [], laidByText := true, laidKinds := [.data], laidTests := true, laidLooks := .later }
def RootLawsCardSaid : Prop := Claim7.holds Tryz.pinned (.plain (OpenSpec.ofChange rootLawsSpec)) rootLawsCard

/-- THE SECOND FORM's CARD OF 'steelyardlaw11.RootNumbers'. -/
def rootNumbersUptoCard : Claim7 := { stood := { row := rootNumbersUptoRow, standIns := [], harness := (true, "bc70db11d30ffec39e1b1f9cb48d52d7a5cec3ab37d1a07031eb4a1a20708f18"), looks := false }, kinds := [], alts := [], laidByText := true, laidKinds := [.data], laidTests := true, laidLooks := .later }
def RootNumbersUptoCardSaid : Prop := Claim7.holds Tryz.pinned (.plain (OpenSpec.upto rootNumbersSpec)) rootNumbersUptoCard

/-- THE SECOND FORM's CARD OF 'steelyardlaw11.RootRounds'. -/
def rootRoundsUptoCard : Claim7 := { stood := { row := rootRoundsUptoRow, standIns := [], harness := (true, "bc70db11d30ffec39e1b1f9cb48d52d7a5cec3ab37d1a07031eb4a1a20708f18"), looks := false }, kinds := [], alts := [], laidByText := true, laidKinds := [.data], laidTests := true, laidLooks := .later }
def RootRoundsUptoCardSaid : Prop := Claim7.holds Tryz.pinned (.plain (OpenSpec.upto rootRoundsSpec)) rootRoundsUptoCard

/-- THE SECOND FORM's CARD OF 'steelyardlaw11.RootWorks'. -/
def rootWorksUptoCard : Claim7 := { stood := { row := rootWorksUptoRow, standIns := [], harness := (true, "bc70db11d30ffec39e1b1f9cb48d52d7a5cec3ab37d1a07031eb4a1a20708f18"), looks := false }, kinds := [], alts := [], laidByText := true, laidKinds := [.data], laidTests := true, laidLooks := .later }
def RootWorksUptoCardSaid : Prop := Claim7.holds Tryz.pinned (.plain (OpenSpec.upto rootWorksSpec)) rootWorksUptoCard

/-- THE SECOND FORM's CARD OF 'steelyardlaw11.RootNear'. -/
def rootNearUptoCard : Claim7 := { stood := { row := rootNearUptoRow, standIns := [], harness := (true, "bc70db11d30ffec39e1b1f9cb48d52d7a5cec3ab37d1a07031eb4a1a20708f18"), looks := false }, kinds := [], alts := [], laidByText := true, laidKinds := [.data], laidTests := true, laidLooks := .later }
def RootNearUptoCardSaid : Prop := Claim7.holds Tryz.pinned (.plain (OpenSpec.upto rootNearSpec)) rootNearUptoCard

/-- THE SECOND FORM's CARD OF 'steelyardlaw11.RootLaws'. -/
def rootLawsUptoCard : Claim7 := { stood := { row := rootLawsUptoRow, standIns := [], harness := (true, "bc70db11d30ffec39e1b1f9cb48d52d7a5cec3ab37d1a07031eb4a1a20708f18"), looks := false }, kinds := [], alts := [], laidByText := true, laidKinds := [.data], laidTests := true, laidLooks := .later }
def RootLawsUptoCardSaid : Prop := Claim7.holds Tryz.pinned (.plain (OpenSpec.upto rootLawsSpec)) rootLawsUptoCard
end Rows
end Go.Proofs.YtdimlelcgapobaaGreatDoor
