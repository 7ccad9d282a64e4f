/-
  DERIVED. GIVEN WITH THE SEED: THE CARDS: each row of YtmlmgfodkehenaaDoorRows.lean that lists a variable, with what it lists TIED to the program's text (the seventh form; the later family's looks); each row that meets fmt, with fmt's text TOLD by the authors' own Lean function (tested against real Go, not proved from fmt's source: count such statements apart). THE CARD IS WHAT COUNTS. Prove the row's statement (the work); the ties are given (YtmlmgfodkehenaaDoorTie.lean); close each card by the builder's one call (the guide's Derived/Test/ToyasCard.lean, 'card_holds'). Laid BY PROGRAM, IN A SANDBOX (cutbox-door.mjs). By AI agents, Wed Nov 11 2026. No macro, syntax, notation, axiom, sorry.
-/
import Derived.Test.YtmlmgfodkehenaaDoorRows
import GoSem.ClaimSeven
namespace Go.Proofs.YtmlmgfodkehenaaDoor
namespace Rows

/-- THE TIED CARD OF 'steelyardlaw07.SuperNumbers'. -/
def superNumbersCard : Claim7 := { stood := { row := superNumbersRow, standIns := [], harness := (true, "6453aec24ed5a82cbfbcb09b9700bcc4dda316c231df1ba0ee3fff7c087b1951"), looks := false }, kinds := [], alts := [], laidByText := true, laidKinds := [.data], laidTests := true, laidLooks := .later }
def SuperNumbersCardSaid : Prop := Claim7.holds Tryd.pinned (.plain (OpenSpec.ofChange superNumbersSpec)) superNumbersCard

/-- THE TIED CARD OF 'steelyardlaw07.SuperOrder'. -/
def superOrderCard : Claim7 := { stood := { row := superOrderRow, standIns := [], harness := (true, "6453aec24ed5a82cbfbcb09b9700bcc4dda316c231df1ba0ee3fff7c087b1951"), looks := false }, kinds := [], alts := [], laidByText := true, laidKinds := [.data], laidTests := true, laidLooks := .later }
def SuperOrderCardSaid : Prop := Claim7.holds Tryd.pinned (.plain (OpenSpec.ofChange superOrderSpec)) superOrderCard

/-- THE TIED CARD OF 'steelyardlaw07.SuperUndone'. -/
def superUndoneCard : Claim7 := { stood := { row := superUndoneRow, standIns := [], harness := (true, "6453aec24ed5a82cbfbcb09b9700bcc4dda316c231df1ba0ee3fff7c087b1951"), looks := false }, kinds := [], alts := [], laidByText := true, laidKinds := [.data], laidTests := true, laidLooks := .later }
def SuperUndoneCardSaid : Prop := Claim7.holds Tryd.pinned (.plain (OpenSpec.ofChange superUndoneSpec)) superUndoneCard

/-- THE TIED CARD OF 'steelyardlaw07.SuperBetween'. -/
def superBetweenCard : Claim7 := { stood := { row := superBetweenRow, standIns := [], harness := (true, "6453aec24ed5a82cbfbcb09b9700bcc4dda316c231df1ba0ee3fff7c087b1951"), looks := false }, kinds := [], alts := [], laidByText := true, laidKinds := [.data], laidTests := true, laidLooks := .later }
def SuperBetweenCardSaid : Prop := Claim7.holds Tryd.pinned (.plain (OpenSpec.ofChange superBetweenSpec)) superBetweenCard

/-- THE SECOND FORM's CARD OF 'steelyardlaw07.SuperNumbers'. -/
def superNumbersUptoCard : Claim7 := { stood := { row := superNumbersUptoRow, standIns := [], harness := (true, "6453aec24ed5a82cbfbcb09b9700bcc4dda316c231df1ba0ee3fff7c087b1951"), looks := false }, kinds := [], alts := [], laidByText := true, laidKinds := [.data], laidTests := true, laidLooks := .later }
def SuperNumbersUptoCardSaid : Prop := Claim7.holds Tryd.pinned (.plain (OpenSpec.upto superNumbersSpec)) superNumbersUptoCard

/-- THE SECOND FORM's CARD OF 'steelyardlaw07.SuperOrder'. -/
def superOrderUptoCard : Claim7 := { stood := { row := superOrderUptoRow, standIns := [], harness := (true, "6453aec24ed5a82cbfbcb09b9700bcc4dda316c231df1ba0ee3fff7c087b1951"), looks := false }, kinds := [], alts := [], laidByText := true, laidKinds := [.data], laidTests := true, laidLooks := .later }
def SuperOrderUptoCardSaid : Prop := Claim7.holds Tryd.pinned (.plain (OpenSpec.upto superOrderSpec)) superOrderUptoCard

/-- THE SECOND FORM's CARD OF 'steelyardlaw07.SuperUndone'. -/
def superUndoneUptoCard : Claim7 := { stood := { row := superUndoneUptoRow, standIns := [], harness := (true, "6453aec24ed5a82cbfbcb09b9700bcc4dda316c231df1ba0ee3fff7c087b1951"), looks := false }, kinds := [], alts := [], laidByText := true, laidKinds := [.data], laidTests := true, laidLooks := .later }
def SuperUndoneUptoCardSaid : Prop := Claim7.holds Tryd.pinned (.plain (OpenSpec.upto superUndoneSpec)) superUndoneUptoCard

/-- THE SECOND FORM's CARD OF 'steelyardlaw07.SuperBetween'. -/
def superBetweenUptoCard : Claim7 := { stood := { row := superBetweenUptoRow, standIns := [], harness := (true, "6453aec24ed5a82cbfbcb09b9700bcc4dda316c231df1ba0ee3fff7c087b1951"), looks := false }, kinds := [], alts := [], laidByText := true, laidKinds := [.data], laidTests := true, laidLooks := .later }
def SuperBetweenUptoCardSaid : Prop := Claim7.holds Tryd.pinned (.plain (OpenSpec.upto superBetweenSpec)) superBetweenUptoCard
end Rows
end Go.Proofs.YtmlmgfodkehenaaDoor
