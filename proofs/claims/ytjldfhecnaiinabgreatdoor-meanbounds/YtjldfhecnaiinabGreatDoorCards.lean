/-
  DERIVED. GIVEN WITH THE SEED: THE CARDS: each row of YtjldfhecnaiinabGreatDoorRows.lean that lists a variable, with what it lists TIED to the program's text (the seventh form; the later family's looks); each row that meets fmt, with fmt's text TOLD by the authors' own Lean function (tested against real Go, not proved from fmt's source: count such statements apart). THE CARD IS WHAT COUNTS. Prove the row's statement (the work); the ties are given (YtjldfhecnaiinabGreatDoorTie.lean); close each card by the builder's one call (the guide's Derived/Test/ToyasCard.lean, 'card_holds'). Laid BY PROGRAM, IN A SANDBOX (cutbox-door.mjs). By AI agents, Wed Nov 11 2026. No macro, syntax, notation, axiom, sorry.
-/
import Derived.Test.YtjldfhecnaiinabGreatDoorRows
import GoSem.ClaimSeven
namespace Go.Proofs.YtjldfhecnaiinabGreatDoor
namespace Rows

/-- THE TIED CARD OF 'steelyardlaw13.MeanLong'. -/
def meanLongCard : Claim7 := { stood := { row := meanLongRow, standIns := [], harness := (true, "239ac40d59a218b25853a53259f07a3eabf27f19c95c0bbe70646dc4bf7d8b52"), looks := false }, kinds := [], alts := [], laidByText := true, laidKinds := [.data], laidTests := true, laidLooks := .later }
def MeanLongCardSaid : Prop := Claim7.holds Tryz.pinned (.plain (OpenSpec.ofChange meanLongSpec)) meanLongCard

/-- THE TIED CARD OF 'steelyardlaw13.MeanBounds'. -/
def meanBoundsCard : Claim7 := { stood := { row := meanBoundsRow, standIns := [], harness := (true, "239ac40d59a218b25853a53259f07a3eabf27f19c95c0bbe70646dc4bf7d8b52"), looks := false }, kinds := [], alts := [], laidByText := true, laidKinds := [.data], laidTests := true, laidLooks := .later }
def MeanBoundsCardSaid : Prop := Claim7.holds Tryz.pinned (.plain (OpenSpec.ofChange meanBoundsSpec)) meanBoundsCard

/-- THE TIED CARD OF 'steelyardlaw13.MeanSame'. -/
def meanSameCard : Claim7 := { stood := { row := meanSameRow, standIns := [], harness := (true, "239ac40d59a218b25853a53259f07a3eabf27f19c95c0bbe70646dc4bf7d8b52"), looks := false }, kinds := [], alts := [], laidByText := true, laidKinds := [.data], laidTests := true, laidLooks := .later }
def MeanSameCardSaid : Prop := Claim7.holds Tryz.pinned (.plain (OpenSpec.ofChange meanSameSpec)) meanSameCard

/-- THE TIED CARD OF 'steelyardlaw13.MeanTurned'. -/
def meanTurnedCard : Claim7 := { stood := { row := meanTurnedRow, standIns := [], harness := (true, "239ac40d59a218b25853a53259f07a3eabf27f19c95c0bbe70646dc4bf7d8b52"), looks := false }, kinds := [], alts := [], laidByText := true, laidKinds := [.data], laidTests := true, laidLooks := .later }
def MeanTurnedCardSaid : Prop := Claim7.holds Tryz.pinned (.plain (OpenSpec.ofChange meanTurnedSpec)) meanTurnedCard

/-- THE TIED CARD OF 'steelyardlaw13.MeanNearest'. -/
def meanNearestCard : Claim7 := { stood := { row := meanNearestRow, standIns := [], harness := (true, "239ac40d59a218b25853a53259f07a3eabf27f19c95c0bbe70646dc4bf7d8b52"), looks := false }, kinds := [], alts := [], laidByText := true, laidKinds := [.data], laidTests := true, laidLooks := .later }
def MeanNearestCardSaid : Prop := Claim7.holds Tryz.pinned (.plain (OpenSpec.ofChange meanNearestSpec)) meanNearestCard

/-- THE TIED CARD OF 'steelyardtop.TopNearest'. -/
def topNearestCard : Claim7 := { stood := { row := topNearestRow, standIns := [], harness := (true, "239ac40d59a218b25853a53259f07a3eabf27f19c95c0bbe70646dc4bf7d8b52"), looks := false }, kinds := [], alts := [], laidByText := true, laidKinds := [.data], laidTests := true, laidLooks := .later }
def TopNearestCardSaid : Prop := Claim7.holds Tryz.pinned (.plain (OpenSpec.ofChange topNearestSpec)) topNearestCard

/-- THE SECOND FORM's CARD OF 'steelyardlaw13.MeanLong'. -/
def meanLongUptoCard : Claim7 := { stood := { row := meanLongUptoRow, standIns := [], harness := (true, "239ac40d59a218b25853a53259f07a3eabf27f19c95c0bbe70646dc4bf7d8b52"), looks := false }, kinds := [], alts := [], laidByText := true, laidKinds := [.data], laidTests := true, laidLooks := .later }
def MeanLongUptoCardSaid : Prop := Claim7.holds Tryz.pinned (.plain (OpenSpec.upto meanLongSpec)) meanLongUptoCard

/-- THE SECOND FORM's CARD OF 'steelyardlaw13.MeanBounds'. -/
def meanBoundsUptoCard : Claim7 := { stood := { row := meanBoundsUptoRow, standIns := [], harness := (true, "239ac40d59a218b25853a53259f07a3eabf27f19c95c0bbe70646dc4bf7d8b52"), looks := false }, kinds := [], alts := [], laidByText := true, laidKinds := [.data], laidTests := true, laidLooks := .later }
def MeanBoundsUptoCardSaid : Prop := Claim7.holds Tryz.pinned (.plain (OpenSpec.upto meanBoundsSpec)) meanBoundsUptoCard

/-- THE SECOND FORM's CARD OF 'steelyardlaw13.MeanSame'. -/
def meanSameUptoCard : Claim7 := { stood := { row := meanSameUptoRow, standIns := [], harness := (true, "239ac40d59a218b25853a53259f07a3eabf27f19c95c0bbe70646dc4bf7d8b52"), looks := false }, kinds := [], alts := [], laidByText := true, laidKinds := [.data], laidTests := true, laidLooks := .later }
def MeanSameUptoCardSaid : Prop := Claim7.holds Tryz.pinned (.plain (OpenSpec.upto meanSameSpec)) meanSameUptoCard

/-- THE SECOND FORM's CARD OF 'steelyardlaw13.MeanTurned'. -/
def meanTurnedUptoCard : Claim7 := { stood := { row := meanTurnedUptoRow, standIns := [], harness := (true, "239ac40d59a218b25853a53259f07a3eabf27f19c95c0bbe70646dc4bf7d8b52"), looks := false }, kinds := [], alts := [], laidByText := true, laidKinds := [.data], laidTests := true, laidLooks := .later }
def MeanTurnedUptoCardSaid : Prop := Claim7.holds Tryz.pinned (.plain (OpenSpec.upto meanTurnedSpec)) meanTurnedUptoCard

/-- THE SECOND FORM's CARD OF 'steelyardlaw13.MeanNearest'. -/
def meanNearestUptoCard : Claim7 := { stood := { row := meanNearestUptoRow, standIns := [], harness := (true, "239ac40d59a218b25853a53259f07a3eabf27f19c95c0bbe70646dc4bf7d8b52"), looks := false }, kinds := [], alts := [], laidByText := true, laidKinds := [.data], laidTests := true, laidLooks := .later }
def MeanNearestUptoCardSaid : Prop := Claim7.holds Tryz.pinned (.plain (OpenSpec.upto meanNearestSpec)) meanNearestUptoCard

/-- THE SECOND FORM's CARD OF 'steelyardtop.TopNearest'. -/
def topNearestUptoCard : Claim7 := { stood := { row := topNearestUptoRow, standIns := [], harness := (true, "239ac40d59a218b25853a53259f07a3eabf27f19c95c0bbe70646dc4bf7d8b52"), looks := false }, kinds := [], alts := [], laidByText := true, laidKinds := [.data], laidTests := true, laidLooks := .later }
def TopNearestUptoCardSaid : Prop := Claim7.holds Tryz.pinned (.plain (OpenSpec.upto topNearestSpec)) topNearestUptoCard
end Rows
end Go.Proofs.YtjldfhecnaiinabGreatDoor
