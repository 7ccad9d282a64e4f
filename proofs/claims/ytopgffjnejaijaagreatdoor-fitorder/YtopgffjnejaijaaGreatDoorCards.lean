/-
  DERIVED. GIVEN WITH THE SEED: THE CARDS: each row of YtopgffjnejaijaaGreatDoorRows.lean that lists a variable, with what it lists TIED to the program's text (the seventh form; the later family's looks); each row that meets fmt, with fmt's text TOLD by the authors' own Lean function (tested against real Go, not proved from fmt's source: count such statements apart). THE CARD IS WHAT COUNTS. Prove the row's statement (the work); the ties are given (YtopgffjnejaijaaGreatDoorTie.lean); close each card by the builder's one call (the guide's Derived/Test/ToyasCard.lean, 'card_holds'). Laid BY PROGRAM, IN A SANDBOX (cutbox-door.mjs). By AI agents, Wed Nov 11 2026. No macro, syntax, notation, axiom, sorry.
-/
import Derived.Test.YtopgffjnejaijaaGreatDoorRows
import GoSem.ClaimSeven
namespace Go.Proofs.YtopgffjnejaijaaGreatDoor
namespace Rows

/-- THE TIED CARD OF 'steelyardlaw19.FitNumbers'. -/
def fitNumbersCard : Claim7 := { stood := { row := fitNumbersRow, standIns := [], harness := (true, "676a4776dda4aea859ab4e00050f31cc653bba2a58ce27fcf6a49c35fe17da98"), looks := false }, kinds := [], alts := [], laidByText := true, laidKinds := [.data], laidTests := true, laidLooks := .later }
def FitNumbersCardSaid : Prop := Claim7.holds Tryz.pinned (.plain (OpenSpec.ofChange fitNumbersSpec)) fitNumbersCard

/-- THE TIED CARD OF 'steelyardlaw19.FitLong'. -/
def fitLongCard : Claim7 := { stood := { row := fitLongRow, standIns := [], harness := (true, "676a4776dda4aea859ab4e00050f31cc653bba2a58ce27fcf6a49c35fe17da98"), looks := false }, kinds := [], alts := [], laidByText := true, laidKinds := [.data], laidTests := true, laidLooks := .later }
def FitLongCardSaid : Prop := Claim7.holds Tryz.pinned (.plain (OpenSpec.ofChange fitLongSpec)) fitLongCard

/-- THE TIED CARD OF 'steelyardlaw19.FitOrder'. -/
def fitOrderCard : Claim7 := { stood := { row := fitOrderRow, standIns := [], harness := (true, "676a4776dda4aea859ab4e00050f31cc653bba2a58ce27fcf6a49c35fe17da98"), looks := false }, kinds := [], alts := [], laidByText := true, laidKinds := [.data], laidTests := true, laidLooks := .later }
def FitOrderCardSaid : Prop := Claim7.holds Tryz.pinned (.plain (OpenSpec.ofChange fitOrderSpec)) fitOrderCard

/-- THE TIED CARD OF 'steelyardlaw19.FitLeast'. -/
def fitLeastCard : Claim7 := { stood := { row := fitLeastRow, standIns := [], harness := (true, "676a4776dda4aea859ab4e00050f31cc653bba2a58ce27fcf6a49c35fe17da98"), looks := false }, kinds := [], alts := [], laidByText := true, laidKinds := [.data], laidTests := true, laidLooks := .later }
def FitLeastCardSaid : Prop := Claim7.holds Tryz.pinned (.plain (OpenSpec.ofChange fitLeastSpec)) fitLeastCard

/-- THE TIED CARD OF 'steelyardlaw19.FitOn'. -/
def fitOnCard : Claim7 := { stood := { row := fitOnRow, standIns := [], harness := (true, "676a4776dda4aea859ab4e00050f31cc653bba2a58ce27fcf6a49c35fe17da98"), looks := false }, kinds := [], alts := [], laidByText := true, laidKinds := [.data], laidTests := true, laidLooks := .later }
def FitOnCardSaid : Prop := Claim7.holds Tryz.pinned (.plain (OpenSpec.ofChange fitOnSpec)) fitOnCard

/-- THE TIED CARD OF 'steelyardlaw19.FitTurned'. -/
def fitTurnedCard : Claim7 := { stood := { row := fitTurnedRow, standIns := [], harness := (true, "676a4776dda4aea859ab4e00050f31cc653bba2a58ce27fcf6a49c35fe17da98"), looks := false }, kinds := [], alts := [], laidByText := true, laidKinds := [.data], laidTests := true, laidLooks := .later }
def FitTurnedCardSaid : Prop := Claim7.holds Tryz.pinned (.plain (OpenSpec.ofChange fitTurnedSpec)) fitTurnedCard

/-- THE SECOND FORM's CARD OF 'steelyardlaw19.FitNumbers'. -/
def fitNumbersUptoCard : Claim7 := { stood := { row := fitNumbersUptoRow, standIns := [], harness := (true, "676a4776dda4aea859ab4e00050f31cc653bba2a58ce27fcf6a49c35fe17da98"), looks := false }, kinds := [], alts := [], laidByText := true, laidKinds := [.data], laidTests := true, laidLooks := .later }
def FitNumbersUptoCardSaid : Prop := Claim7.holds Tryz.pinned (.plain (OpenSpec.upto fitNumbersSpec)) fitNumbersUptoCard

/-- THE SECOND FORM's CARD OF 'steelyardlaw19.FitLong'. -/
def fitLongUptoCard : Claim7 := { stood := { row := fitLongUptoRow, standIns := [], harness := (true, "676a4776dda4aea859ab4e00050f31cc653bba2a58ce27fcf6a49c35fe17da98"), looks := false }, kinds := [], alts := [], laidByText := true, laidKinds := [.data], laidTests := true, laidLooks := .later }
def FitLongUptoCardSaid : Prop := Claim7.holds Tryz.pinned (.plain (OpenSpec.upto fitLongSpec)) fitLongUptoCard

/-- THE SECOND FORM's CARD OF 'steelyardlaw19.FitOrder'. -/
def fitOrderUptoCard : Claim7 := { stood := { row := fitOrderUptoRow, standIns := [], harness := (true, "676a4776dda4aea859ab4e00050f31cc653bba2a58ce27fcf6a49c35fe17da98"), looks := false }, kinds := [], alts := [], laidByText := true, laidKinds := [.data], laidTests := true, laidLooks := .later }
def FitOrderUptoCardSaid : Prop := Claim7.holds Tryz.pinned (.plain (OpenSpec.upto fitOrderSpec)) fitOrderUptoCard

/-- THE SECOND FORM's CARD OF 'steelyardlaw19.FitLeast'. -/
def fitLeastUptoCard : Claim7 := { stood := { row := fitLeastUptoRow, standIns := [], harness := (true, "676a4776dda4aea859ab4e00050f31cc653bba2a58ce27fcf6a49c35fe17da98"), looks := false }, kinds := [], alts := [], laidByText := true, laidKinds := [.data], laidTests := true, laidLooks := .later }
def FitLeastUptoCardSaid : Prop := Claim7.holds Tryz.pinned (.plain (OpenSpec.upto fitLeastSpec)) fitLeastUptoCard

/-- THE SECOND FORM's CARD OF 'steelyardlaw19.FitOn'. -/
def fitOnUptoCard : Claim7 := { stood := { row := fitOnUptoRow, standIns := [], harness := (true, "676a4776dda4aea859ab4e00050f31cc653bba2a58ce27fcf6a49c35fe17da98"), looks := false }, kinds := [], alts := [], laidByText := true, laidKinds := [.data], laidTests := true, laidLooks := .later }
def FitOnUptoCardSaid : Prop := Claim7.holds Tryz.pinned (.plain (OpenSpec.upto fitOnSpec)) fitOnUptoCard

/-- THE SECOND FORM's CARD OF 'steelyardlaw19.FitTurned'. -/
def fitTurnedUptoCard : Claim7 := { stood := { row := fitTurnedUptoRow, standIns := [], harness := (true, "676a4776dda4aea859ab4e00050f31cc653bba2a58ce27fcf6a49c35fe17da98"), looks := false }, kinds := [], alts := [], laidByText := true, laidKinds := [.data], laidTests := true, laidLooks := .later }
def FitTurnedUptoCardSaid : Prop := Claim7.holds Tryz.pinned (.plain (OpenSpec.upto fitTurnedSpec)) fitTurnedUptoCard
end Rows
end Go.Proofs.YtopgffjnejaijaaGreatDoor
