/-
  DERIVED. GIVEN WITH THE SEED: THE CARDS: each row of YtffeldkheibccaaGreatDoorRows.lean that lists a variable, with what it lists TIED to the program's text (the seventh form; the later family's looks); each row that meets fmt, with fmt's text TOLD by the authors' own Lean function (tested against real Go, not proved from fmt's source: count such statements apart). THE CARD IS WHAT COUNTS. Prove the row's statement (the work); the ties are given (YtffeldkheibccaaGreatDoorTie.lean); close each card by the builder's one call (the guide's Derived/Test/ToyasCard.lean, 'card_holds'). Laid BY PROGRAM, IN A SANDBOX (cutbox-door.mjs). By AI agents, Wed Nov 11 2026. No macro, syntax, notation, axiom, sorry.
-/
import Derived.Test.YtffeldkheibccaaGreatDoorRows
import GoSem.ClaimSeven
namespace Go.Proofs.YtffeldkheibccaaGreatDoor
namespace Rows

/-- THE TIED CARD OF 'steelyardlaw17.HistPlays'. -/
def histPlaysCard : Claim7 := { stood := { row := histPlaysRow, standIns := [], harness := (true, "d13ca31290164e07d651ebe3e2f13416c63e998f5e59fba3f2d8004b1cff6687"), looks := false }, kinds := [], alts := [], laidByText := true, laidKinds := [.data], laidTests := true, laidLooks := .later }
def HistPlaysCardSaid : Prop := Claim7.holds Tryz.pinned (.plain (OpenSpec.ofChange histPlaysSpec)) histPlaysCard

/-- THE TIED CARD OF 'steelyardlaw16.QuantMedian'. -/
def quantMedianCard : Claim7 := { stood := { row := quantMedianRow, standIns := [], harness := (true, "d13ca31290164e07d651ebe3e2f13416c63e998f5e59fba3f2d8004b1cff6687"), looks := false }, kinds := [], alts := [], laidByText := true, laidKinds := [.data], laidTests := true, laidLooks := .later }
def QuantMedianCardSaid : Prop := Claim7.holds Tryz.pinned (.plain (OpenSpec.ofChange quantMedianSpec)) quantMedianCard

/-- THE TIED CARD OF 'steelyardlaw16.QuantRises'. -/
def quantRisesCard : Claim7 := { stood := { row := quantRisesRow, standIns := [], harness := (true, "d13ca31290164e07d651ebe3e2f13416c63e998f5e59fba3f2d8004b1cff6687"), looks := false }, kinds := [], alts := [], laidByText := true, laidKinds := [.data], laidTests := true, laidLooks := .later }
def QuantRisesCardSaid : Prop := Claim7.holds Tryz.pinned (.plain (OpenSpec.ofChange quantRisesSpec)) quantRisesCard

/-- THE TIED CARD OF 'steelyardlaw16.QuantCovers'. -/
def quantCoversCard : Claim7 := { stood := { row := quantCoversRow, standIns := [], harness := (true, "d13ca31290164e07d651ebe3e2f13416c63e998f5e59fba3f2d8004b1cff6687"), looks := false }, kinds := [], alts := [], laidByText := true, laidKinds := [.data], laidTests := true, laidLooks := .later }
def QuantCoversCardSaid : Prop := Claim7.holds Tryz.pinned (.plain (OpenSpec.ofChange quantCoversSpec)) quantCoversCard

/-- THE TIED CARD OF 'steelyardlaw15.RankSorts'. -/
def rankSortsCard : Claim7 := { stood := { row := rankSortsRow, standIns := [], harness := (true, "d13ca31290164e07d651ebe3e2f13416c63e998f5e59fba3f2d8004b1cff6687"), looks := false }, kinds := [], alts := [], laidByText := true, laidKinds := [.data], laidTests := true, laidLooks := .later }
def RankSortsCardSaid : Prop := Claim7.holds Tryz.pinned (.plain (OpenSpec.ofChange rankSortsSpec)) rankSortsCard

/-- THE TIED CARD OF 'steelyardlaw15.RankOrder'. -/
def rankOrderCard : Claim7 := { stood := { row := rankOrderRow, standIns := [], harness := (true, "d13ca31290164e07d651ebe3e2f13416c63e998f5e59fba3f2d8004b1cff6687"), looks := false }, kinds := [], alts := [], laidByText := true, laidKinds := [.data], laidTests := true, laidLooks := .later }
def RankOrderCardSaid : Prop := Claim7.holds Tryz.pinned (.plain (OpenSpec.ofChange rankOrderSpec)) rankOrderCard

/-- THE SECOND FORM's CARD OF 'steelyardlaw17.HistPlays'. -/
def histPlaysUptoCard : Claim7 := { stood := { row := histPlaysUptoRow, standIns := [], harness := (true, "d13ca31290164e07d651ebe3e2f13416c63e998f5e59fba3f2d8004b1cff6687"), looks := false }, kinds := [], alts := [], laidByText := true, laidKinds := [.data], laidTests := true, laidLooks := .later }
def HistPlaysUptoCardSaid : Prop := Claim7.holds Tryz.pinned (.plain (OpenSpec.upto histPlaysSpec)) histPlaysUptoCard

/-- THE SECOND FORM's CARD OF 'steelyardlaw16.QuantMedian'. -/
def quantMedianUptoCard : Claim7 := { stood := { row := quantMedianUptoRow, standIns := [], harness := (true, "d13ca31290164e07d651ebe3e2f13416c63e998f5e59fba3f2d8004b1cff6687"), looks := false }, kinds := [], alts := [], laidByText := true, laidKinds := [.data], laidTests := true, laidLooks := .later }
def QuantMedianUptoCardSaid : Prop := Claim7.holds Tryz.pinned (.plain (OpenSpec.upto quantMedianSpec)) quantMedianUptoCard

/-- THE SECOND FORM's CARD OF 'steelyardlaw16.QuantRises'. -/
def quantRisesUptoCard : Claim7 := { stood := { row := quantRisesUptoRow, standIns := [], harness := (true, "d13ca31290164e07d651ebe3e2f13416c63e998f5e59fba3f2d8004b1cff6687"), looks := false }, kinds := [], alts := [], laidByText := true, laidKinds := [.data], laidTests := true, laidLooks := .later }
def QuantRisesUptoCardSaid : Prop := Claim7.holds Tryz.pinned (.plain (OpenSpec.upto quantRisesSpec)) quantRisesUptoCard

/-- THE SECOND FORM's CARD OF 'steelyardlaw16.QuantCovers'. -/
def quantCoversUptoCard : Claim7 := { stood := { row := quantCoversUptoRow, standIns := [], harness := (true, "d13ca31290164e07d651ebe3e2f13416c63e998f5e59fba3f2d8004b1cff6687"), looks := false }, kinds := [], alts := [], laidByText := true, laidKinds := [.data], laidTests := true, laidLooks := .later }
def QuantCoversUptoCardSaid : Prop := Claim7.holds Tryz.pinned (.plain (OpenSpec.upto quantCoversSpec)) quantCoversUptoCard

/-- THE SECOND FORM's CARD OF 'steelyardlaw15.RankSorts'. -/
def rankSortsUptoCard : Claim7 := { stood := { row := rankSortsUptoRow, standIns := [], harness := (true, "d13ca31290164e07d651ebe3e2f13416c63e998f5e59fba3f2d8004b1cff6687"), looks := false }, kinds := [], alts := [], laidByText := true, laidKinds := [.data], laidTests := true, laidLooks := .later }
def RankSortsUptoCardSaid : Prop := Claim7.holds Tryz.pinned (.plain (OpenSpec.upto rankSortsSpec)) rankSortsUptoCard

/-- THE SECOND FORM's CARD OF 'steelyardlaw15.RankOrder'. -/
def rankOrderUptoCard : Claim7 := { stood := { row := rankOrderUptoRow, standIns := [], harness := (true, "d13ca31290164e07d651ebe3e2f13416c63e998f5e59fba3f2d8004b1cff6687"), looks := false }, kinds := [], alts := [], laidByText := true, laidKinds := [.data], laidTests := true, laidLooks := .later }
def RankOrderUptoCardSaid : Prop := Claim7.holds Tryz.pinned (.plain (OpenSpec.upto rankOrderSpec)) rankOrderUptoCard
end Rows
end Go.Proofs.YtffeldkheibccaaGreatDoor
