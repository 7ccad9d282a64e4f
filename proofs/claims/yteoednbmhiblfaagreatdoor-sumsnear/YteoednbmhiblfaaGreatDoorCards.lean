/-
  DERIVED. GIVEN WITH THE SEED: THE CARDS: each row of YteoednbmhiblfaaGreatDoorRows.lean that lists a variable, with what it lists TIED to the program's text (the seventh form; the later family's looks); each row that meets fmt, with fmt's text TOLD by the authors' own Lean function (tested against real Go, not proved from fmt's source: count such statements apart). THE CARD IS WHAT COUNTS. Prove the row's statement (the work); the ties are given (YteoednbmhiblfaaGreatDoorTie.lean); close each card by the builder's one call (the guide's Derived/Test/ToyasCard.lean, 'card_holds'). Laid BY PROGRAM, IN A SANDBOX (cutbox-door.mjs). By AI agents, Wed Nov 11 2026. No macro, syntax, notation, axiom, sorry.
-/
import Derived.Test.YteoednbmhiblfaaGreatDoorRows
import GoSem.ClaimSeven
namespace Go.Proofs.YteoednbmhiblfaaGreatDoor
namespace Rows

/-- THE TIED CARD OF 'steelyardlaw10.SumsUsual'. -/
def sumsUsualCard : Claim7 := { stood := { row := sumsUsualRow, standIns := [], harness := (true, "d017531e567d3bd4c1814c0cb7d41c8a5c8e27730cf1856051465ebdc0b5e456"), looks := false }, kinds := [], alts := [], laidByText := true, laidKinds := [.data], laidTests := true, laidLooks := .later }
def SumsUsualCardSaid : Prop := Claim7.holds Tryz.pinned (.plain (OpenSpec.ofChange sumsUsualSpec)) sumsUsualCard

/-- THE TIED CARD OF 'steelyardlaw10.SumsBlocks'. -/
def sumsBlocksCard : Claim7 := { stood := { row := sumsBlocksRow, standIns := [], harness := (true, "d017531e567d3bd4c1814c0cb7d41c8a5c8e27730cf1856051465ebdc0b5e456"), looks := false }, kinds := [], alts := [], laidByText := true, laidKinds := [.data], laidTests := true, laidLooks := .later }
def SumsBlocksCardSaid : Prop := Claim7.holds Tryz.pinned (.plain (OpenSpec.ofChange sumsBlocksSpec)) sumsBlocksCard

/-- THE TIED CARD OF 'steelyardlaw10.SumsNear'. -/
def sumsNearCard : Claim7 := { stood := { row := sumsNearRow, standIns := [], harness := (true, "d017531e567d3bd4c1814c0cb7d41c8a5c8e27730cf1856051465ebdc0b5e456"), looks := false }, kinds := [], alts := [], laidByText := true, laidKinds := [.data], laidTests := true, laidLooks := .later }
def SumsNearCardSaid : Prop := Claim7.holds Tryz.pinned (.plain (OpenSpec.ofChange sumsNearSpec)) sumsNearCard

/-- THE TIED CARD OF 'steelyardlaw10.SumsExacts'. -/
def sumsExactsCard : Claim7 := { stood := { row := sumsExactsRow, standIns := [], harness := (true, "d017531e567d3bd4c1814c0cb7d41c8a5c8e27730cf1856051465ebdc0b5e456"), looks := false }, kinds := [], alts := [], laidByText := true, laidKinds := [.data], laidTests := true, laidLooks := .later }
def SumsExactsCardSaid : Prop := Claim7.holds Tryz.pinned (.plain (OpenSpec.ofChange sumsExactsSpec)) sumsExactsCard

/-- THE SECOND FORM's CARD OF 'steelyardlaw10.SumsUsual'. -/
def sumsUsualUptoCard : Claim7 := { stood := { row := sumsUsualUptoRow, standIns := [], harness := (true, "d017531e567d3bd4c1814c0cb7d41c8a5c8e27730cf1856051465ebdc0b5e456"), looks := false }, kinds := [], alts := [], laidByText := true, laidKinds := [.data], laidTests := true, laidLooks := .later }
def SumsUsualUptoCardSaid : Prop := Claim7.holds Tryz.pinned (.plain (OpenSpec.upto sumsUsualSpec)) sumsUsualUptoCard

/-- THE SECOND FORM's CARD OF 'steelyardlaw10.SumsBlocks'. -/
def sumsBlocksUptoCard : Claim7 := { stood := { row := sumsBlocksUptoRow, standIns := [], harness := (true, "d017531e567d3bd4c1814c0cb7d41c8a5c8e27730cf1856051465ebdc0b5e456"), looks := false }, kinds := [], alts := [], laidByText := true, laidKinds := [.data], laidTests := true, laidLooks := .later }
def SumsBlocksUptoCardSaid : Prop := Claim7.holds Tryz.pinned (.plain (OpenSpec.upto sumsBlocksSpec)) sumsBlocksUptoCard

/-- THE SECOND FORM's CARD OF 'steelyardlaw10.SumsNear'. -/
def sumsNearUptoCard : Claim7 := { stood := { row := sumsNearUptoRow, standIns := [], harness := (true, "d017531e567d3bd4c1814c0cb7d41c8a5c8e27730cf1856051465ebdc0b5e456"), looks := false }, kinds := [], alts := [], laidByText := true, laidKinds := [.data], laidTests := true, laidLooks := .later }
def SumsNearUptoCardSaid : Prop := Claim7.holds Tryz.pinned (.plain (OpenSpec.upto sumsNearSpec)) sumsNearUptoCard

/-- THE SECOND FORM's CARD OF 'steelyardlaw10.SumsExacts'. -/
def sumsExactsUptoCard : Claim7 := { stood := { row := sumsExactsUptoRow, standIns := [], harness := (true, "d017531e567d3bd4c1814c0cb7d41c8a5c8e27730cf1856051465ebdc0b5e456"), looks := false }, kinds := [], alts := [], laidByText := true, laidKinds := [.data], laidTests := true, laidLooks := .later }
def SumsExactsUptoCardSaid : Prop := Claim7.holds Tryz.pinned (.plain (OpenSpec.upto sumsExactsSpec)) sumsExactsUptoCard
end Rows
end Go.Proofs.YteoednbmhiblfaaGreatDoor
