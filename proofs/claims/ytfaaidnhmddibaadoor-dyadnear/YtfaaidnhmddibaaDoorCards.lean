/-
  DERIVED. GIVEN WITH THE SEED: THE CARDS: each row of YtfaaidnhmddibaaDoorRows.lean that lists a variable, with what it lists TIED to the program's text (the seventh form; the later family's looks); each row that meets fmt, with fmt's text TOLD by the authors' own Lean function (tested against real Go, not proved from fmt's source: count such statements apart). THE CARD IS WHAT COUNTS. Prove the row's statement (the work); the ties are given (YtfaaidnhmddibaaDoorTie.lean); close each card by the builder's one call (the guide's Derived/Test/ToyasCard.lean, 'card_holds'). Laid BY PROGRAM, IN A SANDBOX (cutbox-door.mjs). By AI agents, Wed Nov 11 2026. No macro, syntax, notation, axiom, sorry.
-/
import Derived.Test.YtfaaidnhmddibaaDoorRows
import GoSem.ClaimSeven
namespace Go.Proofs.YtfaaidnhmddibaaDoor
namespace Rows

/-- THE TIED CARD OF 'steelyardlaw03.DyadMakes'. -/
def dyadMakesCard : Claim7 := { stood := { row := dyadMakesRow, standIns := [], harness := (true, "1000e5922857153c3a9ce92156d47f9d2be8eba35de7d19e0a1c70490aa5c39d"), looks := false }, kinds := [], alts := [], laidByText := true, laidKinds := [.data], laidTests := true, laidLooks := .later }
def DyadMakesCardSaid : Prop := Claim7.holds Tryd.pinned (.plain (OpenSpec.ofChange dyadMakesSpec)) dyadMakesCard

/-- THE TIED CARD OF 'steelyardlaw03.DyadSums'. -/
def dyadSumsCard : Claim7 := { stood := { row := dyadSumsRow, standIns := [], harness := (true, "1000e5922857153c3a9ce92156d47f9d2be8eba35de7d19e0a1c70490aa5c39d"), looks := false }, kinds := [], alts := [], laidByText := true, laidKinds := [.data], laidTests := true, laidLooks := .later }
def DyadSumsCardSaid : Prop := Claim7.holds Tryd.pinned (.plain (OpenSpec.ofChange dyadSumsSpec)) dyadSumsCard

/-- THE TIED CARD OF 'steelyardlaw03.DyadProducts'. -/
def dyadProductsCard : Claim7 := { stood := { row := dyadProductsRow, standIns := [], harness := (true, "1000e5922857153c3a9ce92156d47f9d2be8eba35de7d19e0a1c70490aa5c39d"), looks := false }, kinds := [], alts := [], laidByText := true, laidKinds := [.data], laidTests := true, laidLooks := .later }
def DyadProductsCardSaid : Prop := Claim7.holds Tryd.pinned (.plain (OpenSpec.ofChange dyadProductsSpec)) dyadProductsCard

/-- THE TIED CARD OF 'steelyardlaw03.DyadNear'. -/
def dyadNearCard : Claim7 := { stood := { row := dyadNearRow, standIns := [], harness := (true, "1000e5922857153c3a9ce92156d47f9d2be8eba35de7d19e0a1c70490aa5c39d"), looks := false }, kinds := [], alts := [], laidByText := true, laidKinds := [.data], laidTests := true, laidLooks := .later }
def DyadNearCardSaid : Prop := Claim7.holds Tryd.pinned (.plain (OpenSpec.ofChange dyadNearSpec)) dyadNearCard

/-- THE SECOND FORM's CARD OF 'steelyardlaw03.DyadMakes'. -/
def dyadMakesUptoCard : Claim7 := { stood := { row := dyadMakesUptoRow, standIns := [], harness := (true, "1000e5922857153c3a9ce92156d47f9d2be8eba35de7d19e0a1c70490aa5c39d"), looks := false }, kinds := [], alts := [], laidByText := true, laidKinds := [.data], laidTests := true, laidLooks := .later }
def DyadMakesUptoCardSaid : Prop := Claim7.holds Tryd.pinned (.plain (OpenSpec.upto dyadMakesSpec)) dyadMakesUptoCard

/-- THE SECOND FORM's CARD OF 'steelyardlaw03.DyadSums'. -/
def dyadSumsUptoCard : Claim7 := { stood := { row := dyadSumsUptoRow, standIns := [], harness := (true, "1000e5922857153c3a9ce92156d47f9d2be8eba35de7d19e0a1c70490aa5c39d"), looks := false }, kinds := [], alts := [], laidByText := true, laidKinds := [.data], laidTests := true, laidLooks := .later }
def DyadSumsUptoCardSaid : Prop := Claim7.holds Tryd.pinned (.plain (OpenSpec.upto dyadSumsSpec)) dyadSumsUptoCard

/-- THE SECOND FORM's CARD OF 'steelyardlaw03.DyadProducts'. -/
def dyadProductsUptoCard : Claim7 := { stood := { row := dyadProductsUptoRow, standIns := [], harness := (true, "1000e5922857153c3a9ce92156d47f9d2be8eba35de7d19e0a1c70490aa5c39d"), looks := false }, kinds := [], alts := [], laidByText := true, laidKinds := [.data], laidTests := true, laidLooks := .later }
def DyadProductsUptoCardSaid : Prop := Claim7.holds Tryd.pinned (.plain (OpenSpec.upto dyadProductsSpec)) dyadProductsUptoCard

/-- THE SECOND FORM's CARD OF 'steelyardlaw03.DyadNear'. -/
def dyadNearUptoCard : Claim7 := { stood := { row := dyadNearUptoRow, standIns := [], harness := (true, "1000e5922857153c3a9ce92156d47f9d2be8eba35de7d19e0a1c70490aa5c39d"), looks := false }, kinds := [], alts := [], laidByText := true, laidKinds := [.data], laidTests := true, laidLooks := .later }
def DyadNearUptoCardSaid : Prop := Claim7.holds Tryd.pinned (.plain (OpenSpec.upto dyadNearSpec)) dyadNearUptoCard
end Rows
end Go.Proofs.YtfaaidnhmddibaaDoor
