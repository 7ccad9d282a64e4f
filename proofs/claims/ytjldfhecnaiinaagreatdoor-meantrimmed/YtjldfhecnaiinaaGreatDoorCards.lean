/-
  DERIVED. GIVEN WITH THE SEED: THE CARDS: each row of YtjldfhecnaiinaaGreatDoorRows.lean that lists a variable, with what it lists TIED to the program's text (the seventh form; the later family's looks); each row that meets fmt, with fmt's text TOLD by the authors' own Lean function (tested against real Go, not proved from fmt's source: count such statements apart). THE CARD IS WHAT COUNTS. Prove the row's statement (the work); the ties are given (YtjldfhecnaiinaaGreatDoorTie.lean); close each card by the builder's one call (the guide's Derived/Test/ToyasCard.lean, 'card_holds'). Laid BY PROGRAM, IN A SANDBOX (cutbox-door.mjs). By AI agents, Wed Nov 11 2026. No macro, syntax, notation, axiom, sorry.
-/
import Derived.Test.YtjldfhecnaiinaaGreatDoorRows
import GoSem.ClaimSeven
namespace Go.Proofs.YtjldfhecnaiinaaGreatDoor
namespace Rows

/-- THE TIED CARD OF 'steelyardlaw13.MeanNumbers'. -/
def meanNumbersCard : Claim7 := { stood := { row := meanNumbersRow, standIns := [], harness := (true, "6c2e35f899bd48c94b3e53b3e750f17ef633bf6d9ce2f24ecaf533c3a8577185"), looks := false }, kinds := [], alts := [], laidByText := true, laidKinds := [.data], laidTests := true, laidLooks := .later }
def MeanNumbersCardSaid : Prop := Claim7.holds Tryz.pinned (.plain (OpenSpec.ofChange meanNumbersSpec)) meanNumbersCard

/-- THE TIED CARD OF 'steelyardlaw13.MeanMeans'. -/
def meanMeansCard : Claim7 := { stood := { row := meanMeansRow, standIns := [], harness := (true, "6c2e35f899bd48c94b3e53b3e750f17ef633bf6d9ce2f24ecaf533c3a8577185"), looks := false }, kinds := [], alts := [], laidByText := true, laidKinds := [.data], laidTests := true, laidLooks := .later }
def MeanMeansCardSaid : Prop := Claim7.holds Tryz.pinned (.plain (OpenSpec.ofChange meanMeansSpec)) meanMeansCard

/-- THE TIED CARD OF 'steelyardlaw13.MeanWeighted'. -/
def meanWeightedCard : Claim7 := { stood := { row := meanWeightedRow, standIns := [], harness := (true, "6c2e35f899bd48c94b3e53b3e750f17ef633bf6d9ce2f24ecaf533c3a8577185"), looks := false }, kinds := [], alts := [], laidByText := true, laidKinds := [.data], laidTests := true, laidLooks := .later }
def MeanWeightedCardSaid : Prop := Claim7.holds Tryz.pinned (.plain (OpenSpec.ofChange meanWeightedSpec)) meanWeightedCard

/-- THE TIED CARD OF 'steelyardlaw13.MeanMiddles'. -/
def meanMiddlesCard : Claim7 := { stood := { row := meanMiddlesRow, standIns := [], harness := (true, "6c2e35f899bd48c94b3e53b3e750f17ef633bf6d9ce2f24ecaf533c3a8577185"), looks := false }, kinds := [], alts := [], laidByText := true, laidKinds := [.data], laidTests := true, laidLooks := .later }
def MeanMiddlesCardSaid : Prop := Claim7.holds Tryz.pinned (.plain (OpenSpec.ofChange meanMiddlesSpec)) meanMiddlesCard

/-- THE TIED CARD OF 'steelyardlaw13.MeanOf'. -/
def meanOfCard : Claim7 := { stood := { row := meanOfRow, standIns := [], harness := (true, "6c2e35f899bd48c94b3e53b3e750f17ef633bf6d9ce2f24ecaf533c3a8577185"), looks := false }, kinds := [], alts := [], laidByText := true, laidKinds := [.data], laidTests := true, laidLooks := .later }
def MeanOfCardSaid : Prop := Claim7.holds Tryz.pinned (.plain (OpenSpec.ofChange meanOfSpec)) meanOfCard

/-- THE TIED CARD OF 'steelyardlaw13.MeanTrimmed'. -/
def meanTrimmedCard : Claim7 := { stood := { row := meanTrimmedRow, standIns := [], harness := (true, "6c2e35f899bd48c94b3e53b3e750f17ef633bf6d9ce2f24ecaf533c3a8577185"), looks := false }, kinds := [], alts := [], laidByText := true, laidKinds := [.data], laidTests := true, laidLooks := .later }
def MeanTrimmedCardSaid : Prop := Claim7.holds Tryz.pinned (.plain (OpenSpec.ofChange meanTrimmedSpec)) meanTrimmedCard

/-- THE SECOND FORM's CARD OF 'steelyardlaw13.MeanNumbers'. -/
def meanNumbersUptoCard : Claim7 := { stood := { row := meanNumbersUptoRow, standIns := [], harness := (true, "6c2e35f899bd48c94b3e53b3e750f17ef633bf6d9ce2f24ecaf533c3a8577185"), looks := false }, kinds := [], alts := [], laidByText := true, laidKinds := [.data], laidTests := true, laidLooks := .later }
def MeanNumbersUptoCardSaid : Prop := Claim7.holds Tryz.pinned (.plain (OpenSpec.upto meanNumbersSpec)) meanNumbersUptoCard

/-- THE SECOND FORM's CARD OF 'steelyardlaw13.MeanMeans'. -/
def meanMeansUptoCard : Claim7 := { stood := { row := meanMeansUptoRow, standIns := [], harness := (true, "6c2e35f899bd48c94b3e53b3e750f17ef633bf6d9ce2f24ecaf533c3a8577185"), looks := false }, kinds := [], alts := [], laidByText := true, laidKinds := [.data], laidTests := true, laidLooks := .later }
def MeanMeansUptoCardSaid : Prop := Claim7.holds Tryz.pinned (.plain (OpenSpec.upto meanMeansSpec)) meanMeansUptoCard

/-- THE SECOND FORM's CARD OF 'steelyardlaw13.MeanWeighted'. -/
def meanWeightedUptoCard : Claim7 := { stood := { row := meanWeightedUptoRow, standIns := [], harness := (true, "6c2e35f899bd48c94b3e53b3e750f17ef633bf6d9ce2f24ecaf533c3a8577185"), looks := false }, kinds := [], alts := [], laidByText := true, laidKinds := [.data], laidTests := true, laidLooks := .later }
def MeanWeightedUptoCardSaid : Prop := Claim7.holds Tryz.pinned (.plain (OpenSpec.upto meanWeightedSpec)) meanWeightedUptoCard

/-- THE SECOND FORM's CARD OF 'steelyardlaw13.MeanMiddles'. -/
def meanMiddlesUptoCard : Claim7 := { stood := { row := meanMiddlesUptoRow, standIns := [], harness := (true, "6c2e35f899bd48c94b3e53b3e750f17ef633bf6d9ce2f24ecaf533c3a8577185"), looks := false }, kinds := [], alts := [], laidByText := true, laidKinds := [.data], laidTests := true, laidLooks := .later }
def MeanMiddlesUptoCardSaid : Prop := Claim7.holds Tryz.pinned (.plain (OpenSpec.upto meanMiddlesSpec)) meanMiddlesUptoCard

/-- THE SECOND FORM's CARD OF 'steelyardlaw13.MeanOf'. -/
def meanOfUptoCard : Claim7 := { stood := { row := meanOfUptoRow, standIns := [], harness := (true, "6c2e35f899bd48c94b3e53b3e750f17ef633bf6d9ce2f24ecaf533c3a8577185"), looks := false }, kinds := [], alts := [], laidByText := true, laidKinds := [.data], laidTests := true, laidLooks := .later }
def MeanOfUptoCardSaid : Prop := Claim7.holds Tryz.pinned (.plain (OpenSpec.upto meanOfSpec)) meanOfUptoCard

/-- THE SECOND FORM's CARD OF 'steelyardlaw13.MeanTrimmed'. -/
def meanTrimmedUptoCard : Claim7 := { stood := { row := meanTrimmedUptoRow, standIns := [], harness := (true, "6c2e35f899bd48c94b3e53b3e750f17ef633bf6d9ce2f24ecaf533c3a8577185"), looks := false }, kinds := [], alts := [], laidByText := true, laidKinds := [.data], laidTests := true, laidLooks := .later }
def MeanTrimmedUptoCardSaid : Prop := Claim7.holds Tryz.pinned (.plain (OpenSpec.upto meanTrimmedSpec)) meanTrimmedUptoCard
end Rows
end Go.Proofs.YtjldfhecnaiinaaGreatDoor
