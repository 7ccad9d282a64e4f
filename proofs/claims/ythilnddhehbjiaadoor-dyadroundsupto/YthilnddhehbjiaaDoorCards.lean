/-
  DERIVED. GIVEN WITH THE SEED: THE CARDS: each row of YthilnddhehbjiaaDoorRows.lean that lists a variable, with what it lists TIED to the program's text (the seventh form; the later family's looks); each row that meets fmt, with fmt's text TOLD by the authors' own Lean function (tested against real Go, not proved from fmt's source: count such statements apart). THE CARD IS WHAT COUNTS. Prove the row's statement (the work); the ties are given (YthilnddhehbjiaaDoorTie.lean); close each card by the builder's one call (the guide's Derived/Test/ToyasCard.lean, 'card_holds'). Laid BY PROGRAM, IN A SANDBOX (cutbox-door.mjs). By AI agents, Wed Nov 11 2026. No macro, syntax, notation, axiom, sorry.
-/
import Derived.Test.YthilnddhehbjiaaDoorRows
import GoSem.ClaimSeven
namespace Go.Proofs.YthilnddhehbjiaaDoor
namespace Rows

/-- THE TIED CARD OF 'steelyardlaw02.WideReads'. -/
def wideReadsCard : Claim7 := { stood := { row := wideReadsRow, standIns := [], harness := (true, "0a7116c6feb4d68da782f65b4dae4a792485bbe162969ae43e46fa34b3013539"), looks := false }, kinds := [], alts := [], laidByText := true, laidKinds := [.data], laidTests := true, laidLooks := .later }
def WideReadsCardSaid : Prop := Claim7.holds Tryd.pinned (.plain (OpenSpec.ofChange wideReadsSpec)) wideReadsCard

/-- THE TIED CARD OF 'steelyardlaw03.DyadMakes'. -/
def dyadMakesCard : Claim7 := { stood := { row := dyadMakesRow, standIns := [], harness := (true, "0a7116c6feb4d68da782f65b4dae4a792485bbe162969ae43e46fa34b3013539"), looks := false }, kinds := [], alts := [], laidByText := true, laidKinds := [.data], laidTests := true, laidLooks := .later }
def DyadMakesCardSaid : Prop := Claim7.holds Tryd.pinned (.plain (OpenSpec.ofChange dyadMakesSpec)) dyadMakesCard

/-- THE TIED CARD OF 'steelyardlaw03.DyadSums'. -/
def dyadSumsCard : Claim7 := { stood := { row := dyadSumsRow, standIns := [], harness := (true, "0a7116c6feb4d68da782f65b4dae4a792485bbe162969ae43e46fa34b3013539"), looks := false }, kinds := [], alts := [], laidByText := true, laidKinds := [.data], laidTests := true, laidLooks := .later }
def DyadSumsCardSaid : Prop := Claim7.holds Tryd.pinned (.plain (OpenSpec.ofChange dyadSumsSpec)) dyadSumsCard

/-- THE TIED CARD OF 'steelyardlaw03.DyadProducts'. -/
def dyadProductsCard : Claim7 := { stood := { row := dyadProductsRow, standIns := [], harness := (true, "0a7116c6feb4d68da782f65b4dae4a792485bbe162969ae43e46fa34b3013539"), looks := false }, kinds := [], alts := [], laidByText := true, laidKinds := [.data], laidTests := true, laidLooks := .later }
def DyadProductsCardSaid : Prop := Claim7.holds Tryd.pinned (.plain (OpenSpec.ofChange dyadProductsSpec)) dyadProductsCard

/-- THE TIED CARD OF 'steelyardlaw03.DyadCompares'. -/
def dyadComparesCard : Claim7 := { stood := { row := dyadComparesRow, standIns := [], harness := (true, "0a7116c6feb4d68da782f65b4dae4a792485bbe162969ae43e46fa34b3013539"), looks := false }, kinds := [], alts := [], laidByText := true, laidKinds := [.data], laidTests := true, laidLooks := .later }
def DyadComparesCardSaid : Prop := Claim7.holds Tryd.pinned (.plain (OpenSpec.ofChange dyadComparesSpec)) dyadComparesCard

/-- THE TIED CARD OF 'steelyardlaw03.DyadRounds'. -/
def dyadRoundsCard : Claim7 := { stood := { row := dyadRoundsRow, standIns := [], harness := (true, "0a7116c6feb4d68da782f65b4dae4a792485bbe162969ae43e46fa34b3013539"), looks := false }, kinds := [], alts := [], laidByText := true, laidKinds := [.data], laidTests := true, laidLooks := .later }
def DyadRoundsCardSaid : Prop := Claim7.holds Tryd.pinned (.plain (OpenSpec.ofChange dyadRoundsSpec)) dyadRoundsCard

/-- THE SECOND FORM's CARD OF 'steelyardlaw02.WideReads'. -/
def wideReadsUptoCard : Claim7 := { stood := { row := wideReadsUptoRow, standIns := [], harness := (true, "0a7116c6feb4d68da782f65b4dae4a792485bbe162969ae43e46fa34b3013539"), looks := false }, kinds := [], alts := [], laidByText := true, laidKinds := [.data], laidTests := true, laidLooks := .later }
def WideReadsUptoCardSaid : Prop := Claim7.holds Tryd.pinned (.plain (OpenSpec.upto wideReadsSpec)) wideReadsUptoCard

/-- THE SECOND FORM's CARD OF 'steelyardlaw03.DyadMakes'. -/
def dyadMakesUptoCard : Claim7 := { stood := { row := dyadMakesUptoRow, standIns := [], harness := (true, "0a7116c6feb4d68da782f65b4dae4a792485bbe162969ae43e46fa34b3013539"), looks := false }, kinds := [], alts := [], laidByText := true, laidKinds := [.data], laidTests := true, laidLooks := .later }
def DyadMakesUptoCardSaid : Prop := Claim7.holds Tryd.pinned (.plain (OpenSpec.upto dyadMakesSpec)) dyadMakesUptoCard

/-- THE SECOND FORM's CARD OF 'steelyardlaw03.DyadSums'. -/
def dyadSumsUptoCard : Claim7 := { stood := { row := dyadSumsUptoRow, standIns := [], harness := (true, "0a7116c6feb4d68da782f65b4dae4a792485bbe162969ae43e46fa34b3013539"), looks := false }, kinds := [], alts := [], laidByText := true, laidKinds := [.data], laidTests := true, laidLooks := .later }
def DyadSumsUptoCardSaid : Prop := Claim7.holds Tryd.pinned (.plain (OpenSpec.upto dyadSumsSpec)) dyadSumsUptoCard

/-- THE SECOND FORM's CARD OF 'steelyardlaw03.DyadProducts'. -/
def dyadProductsUptoCard : Claim7 := { stood := { row := dyadProductsUptoRow, standIns := [], harness := (true, "0a7116c6feb4d68da782f65b4dae4a792485bbe162969ae43e46fa34b3013539"), looks := false }, kinds := [], alts := [], laidByText := true, laidKinds := [.data], laidTests := true, laidLooks := .later }
def DyadProductsUptoCardSaid : Prop := Claim7.holds Tryd.pinned (.plain (OpenSpec.upto dyadProductsSpec)) dyadProductsUptoCard

/-- THE SECOND FORM's CARD OF 'steelyardlaw03.DyadCompares'. -/
def dyadComparesUptoCard : Claim7 := { stood := { row := dyadComparesUptoRow, standIns := [], harness := (true, "0a7116c6feb4d68da782f65b4dae4a792485bbe162969ae43e46fa34b3013539"), looks := false }, kinds := [], alts := [], laidByText := true, laidKinds := [.data], laidTests := true, laidLooks := .later }
def DyadComparesUptoCardSaid : Prop := Claim7.holds Tryd.pinned (.plain (OpenSpec.upto dyadComparesSpec)) dyadComparesUptoCard

/-- THE SECOND FORM's CARD OF 'steelyardlaw03.DyadRounds'. -/
def dyadRoundsUptoCard : Claim7 := { stood := { row := dyadRoundsUptoRow, standIns := [], harness := (true, "0a7116c6feb4d68da782f65b4dae4a792485bbe162969ae43e46fa34b3013539"), looks := false }, kinds := [], alts := [], laidByText := true, laidKinds := [.data], laidTests := true, laidLooks := .later }
def DyadRoundsUptoCardSaid : Prop := Claim7.holds Tryd.pinned (.plain (OpenSpec.upto dyadRoundsSpec)) dyadRoundsUptoCard
end Rows
end Go.Proofs.YthilnddhehbjiaaDoor
