/-
  DERIVED. GIVEN WITH THE SEED: THE CARDS: each row of YtnnlicahgdcbdaaDoorRows.lean that lists a variable, with what it lists TIED to the program's text (the seventh form; the later family's looks); each row that meets fmt, with fmt's text TOLD by the authors' own Lean function (tested against real Go, not proved from fmt's source: count such statements apart). THE CARD IS WHAT COUNTS. Prove the row's statement (the work); the ties are given (YtnnlicahgdcbdaaDoorTie.lean); close each card by the builder's one call (the guide's Derived/Test/ToyasCard.lean, 'card_holds'). Laid BY PROGRAM, IN A SANDBOX (cutbox-door.mjs). By AI agents, Wed Nov 11 2026. No macro, syntax, notation, axiom, sorry.
-/
import Derived.Test.YtnnlicahgdcbdaaDoorRows
import GoSem.ClaimSeven
namespace Go.Proofs.YtnnlicahgdcbdaaDoor
namespace Rows

/-- THE TIED CARD OF 'steelyardlaw07.SuperBetween'. -/
def superBetweenCard : Claim7 := { stood := { row := superBetweenRow, standIns := [], harness := (true, "396db66e28a28abf52d339acae71f1592d8ed9de4e2788f68d1c75692de9b74c"), looks := false }, kinds := [], alts := [], laidByText := true, laidKinds := [.data], laidTests := true, laidLooks := .later }
def SuperBetweenCardSaid : Prop := Claim7.holds Tryd.pinned (.plain (OpenSpec.ofChange superBetweenSpec)) superBetweenCard

/-- THE TIED CARD OF 'steelyardlaw08.SpreadNumbers'. -/
def spreadNumbersCard : Claim7 := { stood := { row := spreadNumbersRow, standIns := [], harness := (true, "396db66e28a28abf52d339acae71f1592d8ed9de4e2788f68d1c75692de9b74c"), looks := false }, kinds := [], alts := [], laidByText := true, laidKinds := [.data], laidTests := true, laidLooks := .later }
def SpreadNumbersCardSaid : Prop := Claim7.holds Tryd.pinned (.plain (OpenSpec.ofChange spreadNumbersSpec)) spreadNumbersCard

/-- THE TIED CARD OF 'steelyardlaw08.SpreadOrder'. -/
def spreadOrderCard : Claim7 := { stood := { row := spreadOrderRow, standIns := [], harness := (true, "396db66e28a28abf52d339acae71f1592d8ed9de4e2788f68d1c75692de9b74c"), looks := false }, kinds := [], alts := [], laidByText := true, laidKinds := [.data], laidTests := true, laidLooks := .later }
def SpreadOrderCardSaid : Prop := Claim7.holds Tryd.pinned (.plain (OpenSpec.ofChange spreadOrderSpec)) spreadOrderCard

/-- THE SECOND FORM's CARD OF 'steelyardlaw07.SuperBetween'. -/
def superBetweenUptoCard : Claim7 := { stood := { row := superBetweenUptoRow, standIns := [], harness := (true, "396db66e28a28abf52d339acae71f1592d8ed9de4e2788f68d1c75692de9b74c"), looks := false }, kinds := [], alts := [], laidByText := true, laidKinds := [.data], laidTests := true, laidLooks := .later }
def SuperBetweenUptoCardSaid : Prop := Claim7.holds Tryd.pinned (.plain (OpenSpec.upto superBetweenSpec)) superBetweenUptoCard

/-- THE SECOND FORM's CARD OF 'steelyardlaw08.SpreadNumbers'. -/
def spreadNumbersUptoCard : Claim7 := { stood := { row := spreadNumbersUptoRow, standIns := [], harness := (true, "396db66e28a28abf52d339acae71f1592d8ed9de4e2788f68d1c75692de9b74c"), looks := false }, kinds := [], alts := [], laidByText := true, laidKinds := [.data], laidTests := true, laidLooks := .later }
def SpreadNumbersUptoCardSaid : Prop := Claim7.holds Tryd.pinned (.plain (OpenSpec.upto spreadNumbersSpec)) spreadNumbersUptoCard

/-- THE SECOND FORM's CARD OF 'steelyardlaw08.SpreadOrder'. -/
def spreadOrderUptoCard : Claim7 := { stood := { row := spreadOrderUptoRow, standIns := [], harness := (true, "396db66e28a28abf52d339acae71f1592d8ed9de4e2788f68d1c75692de9b74c"), looks := false }, kinds := [], alts := [], laidByText := true, laidKinds := [.data], laidTests := true, laidLooks := .later }
def SpreadOrderUptoCardSaid : Prop := Claim7.holds Tryd.pinned (.plain (OpenSpec.upto spreadOrderSpec)) spreadOrderUptoCard
end Rows
end Go.Proofs.YtnnlicahgdcbdaaDoor
