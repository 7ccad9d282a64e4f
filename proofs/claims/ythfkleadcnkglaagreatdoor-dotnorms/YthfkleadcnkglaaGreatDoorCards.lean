/-
  DERIVED. GIVEN WITH THE SEED: THE CARDS: each row of YthfkleadcnkglaaGreatDoorRows.lean that lists a variable, with what it lists TIED to the program's text (the seventh form; the later family's looks); each row that meets fmt, with fmt's text TOLD by the authors' own Lean function (tested against real Go, not proved from fmt's source: count such statements apart). THE CARD IS WHAT COUNTS. Prove the row's statement (the work); the ties are given (YthfkleadcnkglaaGreatDoorTie.lean); close each card by the builder's one call (the guide's Derived/Test/ToyasCard.lean, 'card_holds'). Laid BY PROGRAM, IN A SANDBOX (cutbox-door.mjs). By AI agents, Wed Nov 11 2026. No macro, syntax, notation, axiom, sorry.
-/
import Derived.Test.YthfkleadcnkglaaGreatDoorRows
import GoSem.ClaimSeven
namespace Go.Proofs.YthfkleadcnkglaaGreatDoor
namespace Rows

/-- THE TIED CARD OF 'steelyardlaw12.DotDots'. -/
def dotDotsCard : Claim7 := { stood := { row := dotDotsRow, standIns := [], harness := (true, "aa4085bf76a74efa5c1eda5c987837487ca24988d4c512b9a90f5db408caca78"), looks := false }, kinds := [], alts := [], laidByText := true, laidKinds := [.data], laidTests := true, laidLooks := .later }
def DotDotsCardSaid : Prop := Claim7.holds Tryz.pinned (.plain (OpenSpec.ofChange dotDotsSpec)) dotDotsCard

/-- THE TIED CARD OF 'steelyardlaw12.DotNorms'. -/
def dotNormsCard : Claim7 := { stood := { row := dotNormsRow, standIns := [], harness := (true, "aa4085bf76a74efa5c1eda5c987837487ca24988d4c512b9a90f5db408caca78"), looks := false }, kinds := [], alts := [], laidByText := true, laidKinds := [.data], laidTests := true, laidLooks := .later }
def DotNormsCardSaid : Prop := Claim7.holds Tryz.pinned (.plain (OpenSpec.ofChange dotNormsSpec)) dotNormsCard

/-- THE TIED CARD OF 'steelyardlaw12.DotPolys'. -/
def dotPolysCard : Claim7 := { stood := { row := dotPolysRow, standIns := [], harness := (true, "aa4085bf76a74efa5c1eda5c987837487ca24988d4c512b9a90f5db408caca78"), looks := false }, kinds := [], alts := [], laidByText := true, laidKinds := [.data], laidTests := true, laidLooks := .later }
def DotPolysCardSaid : Prop := Claim7.holds Tryz.pinned (.plain (OpenSpec.ofChange dotPolysSpec)) dotPolysCard

/-- THE TIED CARD OF 'steelyardlaw12.DotOrder'. -/
def dotOrderCard : Claim7 := { stood := { row := dotOrderRow, standIns := [], harness := (true, "aa4085bf76a74efa5c1eda5c987837487ca24988d4c512b9a90f5db408caca78"), looks := false }, kinds := [], alts := [], laidByText := true, laidKinds := [.data], laidTests := true, laidLooks := .later }
def DotOrderCardSaid : Prop := Claim7.holds Tryz.pinned (.plain (OpenSpec.ofChange dotOrderSpec)) dotOrderCard

/-- THE TIED CARD OF 'steelyardlaw12.DotNear'. -/
def dotNearCard : Claim7 := { stood := { row := dotNearRow, standIns := [], harness := (true, "aa4085bf76a74efa5c1eda5c987837487ca24988d4c512b9a90f5db408caca78"), looks := false }, kinds := [], alts := [], laidByText := true, laidKinds := [.data], laidTests := true, laidLooks := .later }
def DotNearCardSaid : Prop := Claim7.holds Tryz.pinned (.plain (OpenSpec.ofChange dotNearSpec)) dotNearCard

/-- THE TIED CARD OF 'steelyardlaw10.SumsExacts'. -/
def sumsExactsCard : Claim7 := { stood := { row := sumsExactsRow, standIns := [], harness := (true, "aa4085bf76a74efa5c1eda5c987837487ca24988d4c512b9a90f5db408caca78"), looks := false }, kinds := [], alts := [], laidByText := true, laidKinds := [.data], laidTests := true, laidLooks := .later }
def SumsExactsCardSaid : Prop := Claim7.holds Tryz.pinned (.plain (OpenSpec.ofChange sumsExactsSpec)) sumsExactsCard

/-- THE SECOND FORM's CARD OF 'steelyardlaw12.DotDots'. -/
def dotDotsUptoCard : Claim7 := { stood := { row := dotDotsUptoRow, standIns := [], harness := (true, "aa4085bf76a74efa5c1eda5c987837487ca24988d4c512b9a90f5db408caca78"), looks := false }, kinds := [], alts := [], laidByText := true, laidKinds := [.data], laidTests := true, laidLooks := .later }
def DotDotsUptoCardSaid : Prop := Claim7.holds Tryz.pinned (.plain (OpenSpec.upto dotDotsSpec)) dotDotsUptoCard

/-- THE SECOND FORM's CARD OF 'steelyardlaw12.DotNorms'. -/
def dotNormsUptoCard : Claim7 := { stood := { row := dotNormsUptoRow, standIns := [], harness := (true, "aa4085bf76a74efa5c1eda5c987837487ca24988d4c512b9a90f5db408caca78"), looks := false }, kinds := [], alts := [], laidByText := true, laidKinds := [.data], laidTests := true, laidLooks := .later }
def DotNormsUptoCardSaid : Prop := Claim7.holds Tryz.pinned (.plain (OpenSpec.upto dotNormsSpec)) dotNormsUptoCard

/-- THE SECOND FORM's CARD OF 'steelyardlaw12.DotPolys'. -/
def dotPolysUptoCard : Claim7 := { stood := { row := dotPolysUptoRow, standIns := [], harness := (true, "aa4085bf76a74efa5c1eda5c987837487ca24988d4c512b9a90f5db408caca78"), looks := false }, kinds := [], alts := [], laidByText := true, laidKinds := [.data], laidTests := true, laidLooks := .later }
def DotPolysUptoCardSaid : Prop := Claim7.holds Tryz.pinned (.plain (OpenSpec.upto dotPolysSpec)) dotPolysUptoCard

/-- THE SECOND FORM's CARD OF 'steelyardlaw12.DotOrder'. -/
def dotOrderUptoCard : Claim7 := { stood := { row := dotOrderUptoRow, standIns := [], harness := (true, "aa4085bf76a74efa5c1eda5c987837487ca24988d4c512b9a90f5db408caca78"), looks := false }, kinds := [], alts := [], laidByText := true, laidKinds := [.data], laidTests := true, laidLooks := .later }
def DotOrderUptoCardSaid : Prop := Claim7.holds Tryz.pinned (.plain (OpenSpec.upto dotOrderSpec)) dotOrderUptoCard

/-- THE SECOND FORM's CARD OF 'steelyardlaw12.DotNear'. -/
def dotNearUptoCard : Claim7 := { stood := { row := dotNearUptoRow, standIns := [], harness := (true, "aa4085bf76a74efa5c1eda5c987837487ca24988d4c512b9a90f5db408caca78"), looks := false }, kinds := [], alts := [], laidByText := true, laidKinds := [.data], laidTests := true, laidLooks := .later }
def DotNearUptoCardSaid : Prop := Claim7.holds Tryz.pinned (.plain (OpenSpec.upto dotNearSpec)) dotNearUptoCard

/-- THE SECOND FORM's CARD OF 'steelyardlaw10.SumsExacts'. -/
def sumsExactsUptoCard : Claim7 := { stood := { row := sumsExactsUptoRow, standIns := [], harness := (true, "aa4085bf76a74efa5c1eda5c987837487ca24988d4c512b9a90f5db408caca78"), looks := false }, kinds := [], alts := [], laidByText := true, laidKinds := [.data], laidTests := true, laidLooks := .later }
def SumsExactsUptoCardSaid : Prop := Claim7.holds Tryz.pinned (.plain (OpenSpec.upto sumsExactsSpec)) sumsExactsUptoCard
end Rows
end Go.Proofs.YthfkleadcnkglaaGreatDoor
