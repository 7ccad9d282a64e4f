/-
  DERIVED. GIVEN WITH THE SEED: THE CARDS: each row of YtihjfhpoiheomaaGreatDoorRows.lean that lists a variable, with what it lists TIED to the program's text (the seventh form; the later family's looks); each row that meets fmt, with fmt's text TOLD by the authors' own Lean function (tested against real Go, not proved from fmt's source: count such statements apart). THE CARD IS WHAT COUNTS. Prove the row's statement (the work); the ties are given (YtihjfhpoiheomaaGreatDoorTie.lean); close each card by the builder's one call (the guide's Derived/Test/ToyasCard.lean, 'card_holds'). Laid BY PROGRAM, IN A SANDBOX (cutbox-door.mjs). By AI agents, Wed Nov 11 2026. No macro, syntax, notation, axiom, sorry.
-/
import Derived.Test.YtihjfhpoiheomaaGreatDoorRows
import GoSem.ClaimSeven
namespace Go.Proofs.YtihjfhpoiheomaaGreatDoor
namespace Rows

/-- THE TIED CARD OF 'steelyardlaw15.RankSorts'. -/
def rankSortsCard : Claim7 := { stood := { row := rankSortsRow, standIns := [], harness := (true, "9cdf950198b1cc7780f83d80a63a38414d589f5b7fab05cceea98c46a50af818"), looks := false }, kinds := [], alts := [], laidByText := true, laidKinds := [.data], laidTests := true, laidLooks := .later }
def RankSortsCardSaid : Prop := Claim7.holds Tryz.pinned (.plain (OpenSpec.ofChange rankSortsSpec)) rankSortsCard

/-- THE TIED CARD OF 'steelyardlaw15.RankRanks'. -/
def rankRanksCard : Claim7 := { stood := { row := rankRanksRow, standIns := [], harness := (true, "9cdf950198b1cc7780f83d80a63a38414d589f5b7fab05cceea98c46a50af818"), looks := false }, kinds := [], alts := [], laidByText := true, laidKinds := [.data], laidTests := true, laidLooks := .later }
def RankRanksCardSaid : Prop := Claim7.holds Tryz.pinned (.plain (OpenSpec.ofChange rankRanksSpec)) rankRanksCard

/-- THE TIED CARD OF 'steelyardlaw15.RankPicks'. -/
def rankPicksCard : Claim7 := { stood := { row := rankPicksRow, standIns := [], harness := (true, "9cdf950198b1cc7780f83d80a63a38414d589f5b7fab05cceea98c46a50af818"), looks := false }, kinds := [], alts := [], laidByText := true, laidKinds := [.data], laidTests := true, laidLooks := .later }
def RankPicksCardSaid : Prop := Claim7.holds Tryz.pinned (.plain (OpenSpec.ofChange rankPicksSpec)) rankPicksCard

/-- THE TIED CARD OF 'steelyardlaw15.RankOrder'. -/
def rankOrderCard : Claim7 := { stood := { row := rankOrderRow, standIns := [], harness := (true, "9cdf950198b1cc7780f83d80a63a38414d589f5b7fab05cceea98c46a50af818"), looks := false }, kinds := [], alts := [], laidByText := true, laidKinds := [.data], laidTests := true, laidLooks := .later }
def RankOrderCardSaid : Prop := Claim7.holds Tryz.pinned (.plain (OpenSpec.ofChange rankOrderSpec)) rankOrderCard

/-- THE SECOND FORM's CARD OF 'steelyardlaw15.RankSorts'. -/
def rankSortsUptoCard : Claim7 := { stood := { row := rankSortsUptoRow, standIns := [], harness := (true, "9cdf950198b1cc7780f83d80a63a38414d589f5b7fab05cceea98c46a50af818"), looks := false }, kinds := [], alts := [], laidByText := true, laidKinds := [.data], laidTests := true, laidLooks := .later }
def RankSortsUptoCardSaid : Prop := Claim7.holds Tryz.pinned (.plain (OpenSpec.upto rankSortsSpec)) rankSortsUptoCard

/-- THE SECOND FORM's CARD OF 'steelyardlaw15.RankRanks'. -/
def rankRanksUptoCard : Claim7 := { stood := { row := rankRanksUptoRow, standIns := [], harness := (true, "9cdf950198b1cc7780f83d80a63a38414d589f5b7fab05cceea98c46a50af818"), looks := false }, kinds := [], alts := [], laidByText := true, laidKinds := [.data], laidTests := true, laidLooks := .later }
def RankRanksUptoCardSaid : Prop := Claim7.holds Tryz.pinned (.plain (OpenSpec.upto rankRanksSpec)) rankRanksUptoCard

/-- THE SECOND FORM's CARD OF 'steelyardlaw15.RankPicks'. -/
def rankPicksUptoCard : Claim7 := { stood := { row := rankPicksUptoRow, standIns := [], harness := (true, "9cdf950198b1cc7780f83d80a63a38414d589f5b7fab05cceea98c46a50af818"), looks := false }, kinds := [], alts := [], laidByText := true, laidKinds := [.data], laidTests := true, laidLooks := .later }
def RankPicksUptoCardSaid : Prop := Claim7.holds Tryz.pinned (.plain (OpenSpec.upto rankPicksSpec)) rankPicksUptoCard

/-- THE SECOND FORM's CARD OF 'steelyardlaw15.RankOrder'. -/
def rankOrderUptoCard : Claim7 := { stood := { row := rankOrderUptoRow, standIns := [], harness := (true, "9cdf950198b1cc7780f83d80a63a38414d589f5b7fab05cceea98c46a50af818"), looks := false }, kinds := [], alts := [], laidByText := true, laidKinds := [.data], laidTests := true, laidLooks := .later }
def RankOrderUptoCardSaid : Prop := Claim7.holds Tryz.pinned (.plain (OpenSpec.upto rankOrderSpec)) rankOrderUptoCard
end Rows
end Go.Proofs.YtihjfhpoiheomaaGreatDoor
