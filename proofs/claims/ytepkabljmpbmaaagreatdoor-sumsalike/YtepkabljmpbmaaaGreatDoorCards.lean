/-
  DERIVED. GIVEN WITH THE SEED: THE CARDS: each row of YtepkabljmpbmaaaGreatDoorRows.lean that lists a variable, with what it lists TIED to the program's text (the seventh form; the later family's looks); each row that meets fmt, with fmt's text TOLD by the authors' own Lean function (tested against real Go, not proved from fmt's source: count such statements apart). THE CARD IS WHAT COUNTS. Prove the row's statement (the work); the ties are given (YtepkabljmpbmaaaGreatDoorTie.lean); close each card by the builder's one call (the guide's Derived/Test/ToyasCard.lean, 'card_holds'). Laid BY PROGRAM, IN A SANDBOX (cutbox-door.mjs). By AI agents, Wed Nov 11 2026. No macro, syntax, notation, axiom, sorry.
-/
import Derived.Test.YtepkabljmpbmaaaGreatDoorRows
import GoSem.ClaimSeven
namespace Go.Proofs.YtepkabljmpbmaaaGreatDoor
namespace Rows

/-- THE TIED CARD OF 'steelyardlaw10.SumsAlike'. -/
def sumsAlikeCard : Claim7 := { stood := { row := sumsAlikeRow, standIns := [], harness := (true, "49f1264f35b43ab7be31f3c6c14ec62beca19c0029d702d2e900c3a13633d8fc"), looks := false }, kinds := [], alts := [], laidByText := true, laidKinds := [.data], laidTests := true, laidLooks := .later }
def SumsAlikeCardSaid : Prop := Claim7.holds Tryz.pinned (.plain (OpenSpec.ofChange sumsAlikeSpec)) sumsAlikeCard

/-- THE SECOND FORM's CARD OF 'steelyardlaw10.SumsAlike'. -/
def sumsAlikeUptoCard : Claim7 := { stood := { row := sumsAlikeUptoRow, standIns := [], harness := (true, "49f1264f35b43ab7be31f3c6c14ec62beca19c0029d702d2e900c3a13633d8fc"), looks := false }, kinds := [], alts := [], laidByText := true, laidKinds := [.data], laidTests := true, laidLooks := .later }
def SumsAlikeUptoCardSaid : Prop := Claim7.holds Tryz.pinned (.plain (OpenSpec.upto sumsAlikeSpec)) sumsAlikeUptoCard
end Rows
end Go.Proofs.YtepkabljmpbmaaaGreatDoor
