/-
  DERIVED. GIVEN WITH THE SEED: THE CARDS: each row of YteoednbmhiblfaaDoorRows.lean that lists a variable, with what it lists TIED to the program's text (the seventh form; the later family's looks); each row that meets fmt, with fmt's text TOLD by the authors' own Lean function (tested against real Go, not proved from fmt's source: count such statements apart). THE CARD IS WHAT COUNTS. Prove the row's statement (the work); the ties are given (YteoednbmhiblfaaDoorTie.lean); close each card by the builder's one call (the guide's Derived/Test/ToyasCard.lean, 'card_holds'). Laid BY PROGRAM, IN A SANDBOX (cutbox-door.mjs). By AI agents, Wed Nov 11 2026. No macro, syntax, notation, axiom, sorry.
-/
import Derived.Test.YteoednbmhiblfaaDoorRows
import GoSem.ClaimSeven
namespace Go.Proofs.YteoednbmhiblfaaDoor
namespace Rows

/-- THE TIED CARD OF 'steelyardlaw10.SumsNumbers'. -/
def sumsNumbersCard : Claim7 := { stood := { row := sumsNumbersRow, standIns := [], harness := (true, "38f0b7d6a61b494feae0406bb62a9a225ba79cb1d4b02c7cf994ddd089385816"), looks := false }, kinds := [], alts := [], laidByText := true, laidKinds := [.data], laidTests := true, laidLooks := .later }
def SumsNumbersCardSaid : Prop := Claim7.holds Tryd.pinned (.plain (OpenSpec.ofChange sumsNumbersSpec)) sumsNumbersCard

/-- THE TIED CARD OF 'steelyardlaw10.SumsWhole'. -/
def sumsWholeCard : Claim7 := { stood := { row := sumsWholeRow, standIns := [], harness := (true, "38f0b7d6a61b494feae0406bb62a9a225ba79cb1d4b02c7cf994ddd089385816"), looks := false }, kinds := [], alts := [], laidByText := true, laidKinds := [.data], laidTests := true, laidLooks := .later }
def SumsWholeCardSaid : Prop := Claim7.holds Tryd.pinned (.plain (OpenSpec.ofChange sumsWholeSpec)) sumsWholeCard

/-- THE SECOND FORM's CARD OF 'steelyardlaw10.SumsNumbers'. -/
def sumsNumbersUptoCard : Claim7 := { stood := { row := sumsNumbersUptoRow, standIns := [], harness := (true, "38f0b7d6a61b494feae0406bb62a9a225ba79cb1d4b02c7cf994ddd089385816"), looks := false }, kinds := [], alts := [], laidByText := true, laidKinds := [.data], laidTests := true, laidLooks := .later }
def SumsNumbersUptoCardSaid : Prop := Claim7.holds Tryd.pinned (.plain (OpenSpec.upto sumsNumbersSpec)) sumsNumbersUptoCard

/-- THE SECOND FORM's CARD OF 'steelyardlaw10.SumsWhole'. -/
def sumsWholeUptoCard : Claim7 := { stood := { row := sumsWholeUptoRow, standIns := [], harness := (true, "38f0b7d6a61b494feae0406bb62a9a225ba79cb1d4b02c7cf994ddd089385816"), looks := false }, kinds := [], alts := [], laidByText := true, laidKinds := [.data], laidTests := true, laidLooks := .later }
def SumsWholeUptoCardSaid : Prop := Claim7.holds Tryd.pinned (.plain (OpenSpec.upto sumsWholeSpec)) sumsWholeUptoCard
end Rows
end Go.Proofs.YteoednbmhiblfaaDoor
