/-
  DERIVED. GIVEN WITH THE SEED: THE CARDS: each row of YtnpchhjhoadehaaGreatDoorRows.lean that lists a variable, with what it lists TIED to the program's text (the seventh form; the later family's looks); each row that meets fmt, with fmt's text TOLD by the authors' own Lean function (tested against real Go, not proved from fmt's source: count such statements apart). THE CARD IS WHAT COUNTS. Prove the row's statement (the work); the ties are given (YtnpchhjhoadehaaGreatDoorTie.lean); close each card by the builder's one call (the guide's Derived/Test/ToyasCard.lean, 'card_holds'). Laid BY PROGRAM, IN A SANDBOX (cutbox-door.mjs). By AI agents, Wed Nov 11 2026. No macro, syntax, notation, axiom, sorry.
-/
import Derived.Test.YtnpchhjhoadehaaGreatDoorRows
import GoSem.ClaimSeven
namespace Go.Proofs.YtnpchhjhoadehaaGreatDoor
namespace Rows

/-- THE TIED CARD OF 'steelyardlaw10.SumsOrder'. -/
def sumsOrderCard : Claim7 := { stood := { row := sumsOrderRow, standIns := [], harness := (true, "2eb36b1d55b0f0697cc4d27cf79ec74b18136fe47bd5b3d6892f23e857c678ca"), looks := false }, kinds := [], alts := [], laidByText := true, laidKinds := [.data], laidTests := true, laidLooks := .later }
def SumsOrderCardSaid : Prop := Claim7.holds Tryz.pinned (.plain (OpenSpec.ofChange sumsOrderSpec)) sumsOrderCard

/-- THE TIED CARD OF 'steelyardlaw10.SumsAlike'. -/
def sumsAlikeCard : Claim7 := { stood := { row := sumsAlikeRow, standIns := [], harness := (true, "2eb36b1d55b0f0697cc4d27cf79ec74b18136fe47bd5b3d6892f23e857c678ca"), looks := false }, kinds := [], alts := [], laidByText := true, laidKinds := [.data], laidTests := true, laidLooks := .later }
def SumsAlikeCardSaid : Prop := Claim7.holds Tryz.pinned (.plain (OpenSpec.ofChange sumsAlikeSpec)) sumsAlikeCard

/-- THE SECOND FORM's CARD OF 'steelyardlaw10.SumsOrder'. -/
def sumsOrderUptoCard : Claim7 := { stood := { row := sumsOrderUptoRow, standIns := [], harness := (true, "2eb36b1d55b0f0697cc4d27cf79ec74b18136fe47bd5b3d6892f23e857c678ca"), looks := false }, kinds := [], alts := [], laidByText := true, laidKinds := [.data], laidTests := true, laidLooks := .later }
def SumsOrderUptoCardSaid : Prop := Claim7.holds Tryz.pinned (.plain (OpenSpec.upto sumsOrderSpec)) sumsOrderUptoCard

/-- THE SECOND FORM's CARD OF 'steelyardlaw10.SumsAlike'. -/
def sumsAlikeUptoCard : Claim7 := { stood := { row := sumsAlikeUptoRow, standIns := [], harness := (true, "2eb36b1d55b0f0697cc4d27cf79ec74b18136fe47bd5b3d6892f23e857c678ca"), looks := false }, kinds := [], alts := [], laidByText := true, laidKinds := [.data], laidTests := true, laidLooks := .later }
def SumsAlikeUptoCardSaid : Prop := Claim7.holds Tryz.pinned (.plain (OpenSpec.upto sumsAlikeSpec)) sumsAlikeUptoCard
end Rows
end Go.Proofs.YtnpchhjhoadehaaGreatDoor
