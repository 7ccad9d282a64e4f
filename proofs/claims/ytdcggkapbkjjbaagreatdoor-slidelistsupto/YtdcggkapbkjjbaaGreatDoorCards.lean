/-
  DERIVED. GIVEN WITH THE SEED: THE CARDS: each row of YtdcggkapbkjjbaaGreatDoorRows.lean that lists a variable, with what it lists TIED to the program's text (the seventh form; the later family's looks); each row that meets fmt, with fmt's text TOLD by the authors' own Lean function (tested against real Go, not proved from fmt's source: count such statements apart). THE CARD IS WHAT COUNTS. Prove the row's statement (the work); the ties are given (YtdcggkapbkjjbaaGreatDoorTie.lean); close each card by the builder's one call (the guide's Derived/Test/ToyasCard.lean, 'card_holds'). Laid BY PROGRAM, IN A SANDBOX (cutbox-door.mjs). By AI agents, Wed Nov 11 2026. No macro, syntax, notation, axiom, sorry.
-/
import Derived.Test.YtdcggkapbkjjbaaGreatDoorRows
import GoSem.ClaimSeven
namespace Go.Proofs.YtdcggkapbkjjbaaGreatDoor
namespace Rows

/-- THE TIED CARD OF 'steelyardlaw20.SlideNumbers'. -/
def slideNumbersCard : Claim7 := { stood := { row := slideNumbersRow, standIns := [], harness := (true, "cf1f1dd6d1350978ddbccf33488f68693ebb9f36445af5c8faf33366483a96c9"), looks := false }, kinds := [], alts := [], laidByText := true, laidKinds := [.data], laidTests := true, laidLooks := .later }
def SlideNumbersCardSaid : Prop := Claim7.holds Tryz.pinned (.plain (OpenSpec.ofChange slideNumbersSpec)) slideNumbersCard

/-- THE TIED CARD OF 'steelyardlaw20.SlidePlays'. -/
def slidePlaysCard : Claim7 := { stood := { row := slidePlaysRow, standIns := [], harness := (true, "cf1f1dd6d1350978ddbccf33488f68693ebb9f36445af5c8faf33366483a96c9"), looks := false }, kinds := [], alts := [], laidByText := true, laidKinds := [.data], laidTests := true, laidLooks := .later }
def SlidePlaysCardSaid : Prop := Claim7.holds Tryz.pinned (.plain (OpenSpec.ofChange slidePlaysSpec)) slidePlaysCard

/-- THE TIED CARD OF 'steelyardlaw20.SlideLists'. -/
def slideListsCard : Claim7 := { stood := { row := slideListsRow, standIns := [], harness := (true, "cf1f1dd6d1350978ddbccf33488f68693ebb9f36445af5c8faf33366483a96c9"), looks := false }, kinds := [], alts := [], laidByText := true, laidKinds := [.data], laidTests := true, laidLooks := .later }
def SlideListsCardSaid : Prop := Claim7.holds Tryz.pinned (.plain (OpenSpec.ofChange slideListsSpec)) slideListsCard

/-- THE SECOND FORM's CARD OF 'steelyardlaw20.SlideNumbers'. -/
def slideNumbersUptoCard : Claim7 := { stood := { row := slideNumbersUptoRow, standIns := [], harness := (true, "cf1f1dd6d1350978ddbccf33488f68693ebb9f36445af5c8faf33366483a96c9"), looks := false }, kinds := [], alts := [], laidByText := true, laidKinds := [.data], laidTests := true, laidLooks := .later }
def SlideNumbersUptoCardSaid : Prop := Claim7.holds Tryz.pinned (.plain (OpenSpec.upto slideNumbersSpec)) slideNumbersUptoCard

/-- THE SECOND FORM's CARD OF 'steelyardlaw20.SlidePlays'. -/
def slidePlaysUptoCard : Claim7 := { stood := { row := slidePlaysUptoRow, standIns := [], harness := (true, "cf1f1dd6d1350978ddbccf33488f68693ebb9f36445af5c8faf33366483a96c9"), looks := false }, kinds := [], alts := [], laidByText := true, laidKinds := [.data], laidTests := true, laidLooks := .later }
def SlidePlaysUptoCardSaid : Prop := Claim7.holds Tryz.pinned (.plain (OpenSpec.upto slidePlaysSpec)) slidePlaysUptoCard

/-- THE SECOND FORM's CARD OF 'steelyardlaw20.SlideLists'. -/
def slideListsUptoCard : Claim7 := { stood := { row := slideListsUptoRow, standIns := [], harness := (true, "cf1f1dd6d1350978ddbccf33488f68693ebb9f36445af5c8faf33366483a96c9"), looks := false }, kinds := [], alts := [], laidByText := true, laidKinds := [.data], laidTests := true, laidLooks := .later }
def SlideListsUptoCardSaid : Prop := Claim7.holds Tryz.pinned (.plain (OpenSpec.upto slideListsSpec)) slideListsUptoCard
end Rows
end Go.Proofs.YtdcggkapbkjjbaaGreatDoor
