/-
  DERIVED. GIVEN WITH THE SEED: THE CARDS: each row of YthejkolknalpaaaGreatDoorRows.lean that lists a variable, with what it lists TIED to the program's text (the seventh form; the later family's looks); each row that meets fmt, with fmt's text TOLD by the authors' own Lean function (tested against real Go, not proved from fmt's source: count such statements apart). THE CARD IS WHAT COUNTS. Prove the row's statement (the work); the ties are given (YthejkolknalpaaaGreatDoorTie.lean); close each card by the builder's one call (the guide's Derived/Test/ToyasCard.lean, 'card_holds'). Laid BY PROGRAM, IN A SANDBOX (cutbox-door.mjs). By AI agents, Wed Nov 11 2026. No macro, syntax, notation, axiom, sorry.
-/
import Derived.Test.YthejkolknalpaaaGreatDoorRows
import GoSem.ClaimSeven
namespace Go.Proofs.YthejkolknalpaaaGreatDoor
namespace Rows

/-- THE TIED CARD OF 'steelyardtop.TopSlides'. -/
def topSlidesCard : Claim7 := { stood := { row := topSlidesRow, standIns := [], harness := (true, "cc4b299cf8fde8ada5ec5ea6659ba58ef39c282f478f3567bd89765b32656a5b"), looks := false }, kinds := [], alts := [], laidByText := true, laidKinds := [.data], laidTests := true, laidLooks := .later }
def TopSlidesCardSaid : Prop := Claim7.holds Tryz.pinned (.plain (OpenSpec.ofChange topSlidesSpec)) topSlidesCard

/-- THE SECOND FORM's CARD OF 'steelyardtop.TopSlides'. -/
def topSlidesUptoCard : Claim7 := { stood := { row := topSlidesUptoRow, standIns := [], harness := (true, "cc4b299cf8fde8ada5ec5ea6659ba58ef39c282f478f3567bd89765b32656a5b"), looks := false }, kinds := [], alts := [], laidByText := true, laidKinds := [.data], laidTests := true, laidLooks := .later }
def TopSlidesUptoCardSaid : Prop := Claim7.holds Tryz.pinned (.plain (OpenSpec.upto topSlidesSpec)) topSlidesUptoCard
end Rows
end Go.Proofs.YthejkolknalpaaaGreatDoor
