/-
  DERIVED. GIVEN WITH THE SEED: THE CARDS: each row of YtmkmndlpjenemaaGreatDoorRows.lean that lists a variable, with what it lists TIED to the program's text (the seventh form; the later family's looks); each row that meets fmt, with fmt's text TOLD by the authors' own Lean function (tested against real Go, not proved from fmt's source: count such statements apart). THE CARD IS WHAT COUNTS. Prove the row's statement (the work); the ties are given (YtmkmndlpjenemaaGreatDoorTie.lean); close each card by the builder's one call (the guide's Derived/Test/ToyasCard.lean, 'card_holds'). Laid BY PROGRAM, IN A SANDBOX (cutbox-door.mjs). By AI agents, Wed Nov 11 2026. No macro, syntax, notation, axiom, sorry.
-/
import Derived.Test.YtmkmndlpjenemaaGreatDoorRows
import GoSem.ClaimSeven
namespace Go.Proofs.YtmkmndlpjenemaaGreatDoor
namespace Rows

/-- THE TIED CARD OF 'steelyardlaw13.MeanLong'. -/
def meanLongCard : Claim7 := { stood := { row := meanLongRow, standIns := [], harness := (true, "308d552680be8e83ba1cc05876b2f8112025d0323250b4e81613f3a848686dd5"), looks := false }, kinds := [], alts := [], laidByText := true, laidKinds := [.data], laidTests := true, laidLooks := .later }
def MeanLongCardSaid : Prop := Claim7.holds Tryz.pinned (.plain (OpenSpec.ofChange meanLongSpec)) meanLongCard

/-- THE TIED CARD OF 'steelyardlaw13.MeanSame'. -/
def meanSameCard : Claim7 := { stood := { row := meanSameRow, standIns := [], harness := (true, "308d552680be8e83ba1cc05876b2f8112025d0323250b4e81613f3a848686dd5"), looks := false }, kinds := [], alts := [], laidByText := true, laidKinds := [.data], laidTests := true, laidLooks := .later }
def MeanSameCardSaid : Prop := Claim7.holds Tryz.pinned (.plain (OpenSpec.ofChange meanSameSpec)) meanSameCard

/-- THE TIED CARD OF 'steelyardtop.TopNearest'. -/
def topNearestCard : Claim7 := { stood := { row := topNearestRow, standIns := [], harness := (true, "308d552680be8e83ba1cc05876b2f8112025d0323250b4e81613f3a848686dd5"), looks := false }, kinds := [], alts := [], laidByText := true, laidKinds := [.data], laidTests := true, laidLooks := .later }
def TopNearestCardSaid : Prop := Claim7.holds Tryz.pinned (.plain (OpenSpec.ofChange topNearestSpec)) topNearestCard

/-- THE SECOND FORM's CARD OF 'steelyardlaw13.MeanLong'. -/
def meanLongUptoCard : Claim7 := { stood := { row := meanLongUptoRow, standIns := [], harness := (true, "308d552680be8e83ba1cc05876b2f8112025d0323250b4e81613f3a848686dd5"), looks := false }, kinds := [], alts := [], laidByText := true, laidKinds := [.data], laidTests := true, laidLooks := .later }
def MeanLongUptoCardSaid : Prop := Claim7.holds Tryz.pinned (.plain (OpenSpec.upto meanLongSpec)) meanLongUptoCard

/-- THE SECOND FORM's CARD OF 'steelyardlaw13.MeanSame'. -/
def meanSameUptoCard : Claim7 := { stood := { row := meanSameUptoRow, standIns := [], harness := (true, "308d552680be8e83ba1cc05876b2f8112025d0323250b4e81613f3a848686dd5"), looks := false }, kinds := [], alts := [], laidByText := true, laidKinds := [.data], laidTests := true, laidLooks := .later }
def MeanSameUptoCardSaid : Prop := Claim7.holds Tryz.pinned (.plain (OpenSpec.upto meanSameSpec)) meanSameUptoCard

/-- THE SECOND FORM's CARD OF 'steelyardtop.TopNearest'. -/
def topNearestUptoCard : Claim7 := { stood := { row := topNearestUptoRow, standIns := [], harness := (true, "308d552680be8e83ba1cc05876b2f8112025d0323250b4e81613f3a848686dd5"), looks := false }, kinds := [], alts := [], laidByText := true, laidKinds := [.data], laidTests := true, laidLooks := .later }
def TopNearestUptoCardSaid : Prop := Claim7.holds Tryz.pinned (.plain (OpenSpec.upto topNearestSpec)) topNearestUptoCard
end Rows
end Go.Proofs.YtmkmndlpjenemaaGreatDoor
