/-
  DERIVED. GIVEN WITH THE SEED: THE CARDS: each row of YtonhahbmdekkdaaDoorRows.lean that lists a variable, with what it lists TIED to the program's text (the seventh form; the later family's looks); each row that meets fmt, with fmt's text TOLD by the authors' own Lean function (tested against real Go, not proved from fmt's source: count such statements apart). THE CARD IS WHAT COUNTS. Prove the row's statement (the work); the ties are given (YtonhahbmdekkdaaDoorTie.lean); close each card by the builder's one call (the guide's Derived/Test/ToyasCard.lean, 'card_holds'). Laid BY PROGRAM, IN A SANDBOX (cutbox-door.mjs). By AI agents, Wed Nov 11 2026. No macro, syntax, notation, axiom, sorry.
-/
import Derived.Test.YtonhahbmdekkdaaDoorRows
import GoSem.ClaimSeven
namespace Go.Proofs.YtonhahbmdekkdaaDoor
namespace Rows

/-- THE TIED CARD OF 'steelyardlaw02.WideReads'. -/
def wideReadsCard : Claim7 := { stood := { row := wideReadsRow, standIns := [], harness := (true, "d82eaea305f2e60d5abdcd9709f22ae5a692c26f6e2efedc25b4af62090cac7d"), looks := false }, kinds := [], alts := [], laidByText := true, laidKinds := [.data], laidTests := true, laidLooks := .later }
def WideReadsCardSaid : Prop := Claim7.holds Tryd.pinned (.plain (OpenSpec.ofChange wideReadsSpec)) wideReadsCard

/-- THE TIED CARD OF 'steelyardlaw03.DyadSums'. -/
def dyadSumsCard : Claim7 := { stood := { row := dyadSumsRow, standIns := [], harness := (true, "d82eaea305f2e60d5abdcd9709f22ae5a692c26f6e2efedc25b4af62090cac7d"), looks := false }, kinds := [], alts := [], laidByText := true, laidKinds := [.data], laidTests := true, laidLooks := .later }
def DyadSumsCardSaid : Prop := Claim7.holds Tryd.pinned (.plain (OpenSpec.ofChange dyadSumsSpec)) dyadSumsCard

/-- THE TIED CARD OF 'steelyardlaw03.DyadProducts'. -/
def dyadProductsCard : Claim7 := { stood := { row := dyadProductsRow, standIns := [], harness := (true, "d82eaea305f2e60d5abdcd9709f22ae5a692c26f6e2efedc25b4af62090cac7d"), looks := false }, kinds := [], alts := [], laidByText := true, laidKinds := [.data], laidTests := true, laidLooks := .later }
def DyadProductsCardSaid : Prop := Claim7.holds Tryd.pinned (.plain (OpenSpec.ofChange dyadProductsSpec)) dyadProductsCard

/-- THE TIED CARD OF 'steelyardlaw03.DyadCompares'. -/
def dyadComparesCard : Claim7 := { stood := { row := dyadComparesRow, standIns := [], harness := (true, "d82eaea305f2e60d5abdcd9709f22ae5a692c26f6e2efedc25b4af62090cac7d"), looks := false }, kinds := [], alts := [], laidByText := true, laidKinds := [.data], laidTests := true, laidLooks := .later }
def DyadComparesCardSaid : Prop := Claim7.holds Tryd.pinned (.plain (OpenSpec.ofChange dyadComparesSpec)) dyadComparesCard

/-- THE TIED CARD OF 'steelyardlaw03.DyadRounds'. -/
def dyadRoundsCard : Claim7 := { stood := { row := dyadRoundsRow, standIns := [], harness := (true, "d82eaea305f2e60d5abdcd9709f22ae5a692c26f6e2efedc25b4af62090cac7d"), looks := false }, kinds := [], alts := [], laidByText := true, laidKinds := [.data], laidTests := true, laidLooks := .later }
def DyadRoundsCardSaid : Prop := Claim7.holds Tryd.pinned (.plain (OpenSpec.ofChange dyadRoundsSpec)) dyadRoundsCard

/-- THE TIED CARD OF 'steelyardlaw03.DyadRing'. -/
def dyadRingCard : Claim7 := { stood := { row := dyadRingRow, standIns := [], harness := (true, "d82eaea305f2e60d5abdcd9709f22ae5a692c26f6e2efedc25b4af62090cac7d"), looks := false }, kinds := [], alts := [], laidByText := true, laidKinds := [.data], laidTests := true, laidLooks := .later }
def DyadRingCardSaid : Prop := Claim7.holds Tryd.pinned (.plain (OpenSpec.ofChange dyadRingSpec)) dyadRingCard

/-- THE SECOND FORM's CARD OF 'steelyardlaw02.WideReads'. -/
def wideReadsUptoCard : Claim7 := { stood := { row := wideReadsUptoRow, standIns := [], harness := (true, "d82eaea305f2e60d5abdcd9709f22ae5a692c26f6e2efedc25b4af62090cac7d"), looks := false }, kinds := [], alts := [], laidByText := true, laidKinds := [.data], laidTests := true, laidLooks := .later }
def WideReadsUptoCardSaid : Prop := Claim7.holds Tryd.pinned (.plain (OpenSpec.upto wideReadsSpec)) wideReadsUptoCard

/-- THE SECOND FORM's CARD OF 'steelyardlaw03.DyadSums'. -/
def dyadSumsUptoCard : Claim7 := { stood := { row := dyadSumsUptoRow, standIns := [], harness := (true, "d82eaea305f2e60d5abdcd9709f22ae5a692c26f6e2efedc25b4af62090cac7d"), looks := false }, kinds := [], alts := [], laidByText := true, laidKinds := [.data], laidTests := true, laidLooks := .later }
def DyadSumsUptoCardSaid : Prop := Claim7.holds Tryd.pinned (.plain (OpenSpec.upto dyadSumsSpec)) dyadSumsUptoCard

/-- THE SECOND FORM's CARD OF 'steelyardlaw03.DyadProducts'. -/
def dyadProductsUptoCard : Claim7 := { stood := { row := dyadProductsUptoRow, standIns := [], harness := (true, "d82eaea305f2e60d5abdcd9709f22ae5a692c26f6e2efedc25b4af62090cac7d"), looks := false }, kinds := [], alts := [], laidByText := true, laidKinds := [.data], laidTests := true, laidLooks := .later }
def DyadProductsUptoCardSaid : Prop := Claim7.holds Tryd.pinned (.plain (OpenSpec.upto dyadProductsSpec)) dyadProductsUptoCard

/-- THE SECOND FORM's CARD OF 'steelyardlaw03.DyadCompares'. -/
def dyadComparesUptoCard : Claim7 := { stood := { row := dyadComparesUptoRow, standIns := [], harness := (true, "d82eaea305f2e60d5abdcd9709f22ae5a692c26f6e2efedc25b4af62090cac7d"), looks := false }, kinds := [], alts := [], laidByText := true, laidKinds := [.data], laidTests := true, laidLooks := .later }
def DyadComparesUptoCardSaid : Prop := Claim7.holds Tryd.pinned (.plain (OpenSpec.upto dyadComparesSpec)) dyadComparesUptoCard

/-- THE SECOND FORM's CARD OF 'steelyardlaw03.DyadRounds'. -/
def dyadRoundsUptoCard : Claim7 := { stood := { row := dyadRoundsUptoRow, standIns := [], harness := (true, "d82eaea305f2e60d5abdcd9709f22ae5a692c26f6e2efedc25b4af62090cac7d"), looks := false }, kinds := [], alts := [], laidByText := true, laidKinds := [.data], laidTests := true, laidLooks := .later }
def DyadRoundsUptoCardSaid : Prop := Claim7.holds Tryd.pinned (.plain (OpenSpec.upto dyadRoundsSpec)) dyadRoundsUptoCard

/-- THE SECOND FORM's CARD OF 'steelyardlaw03.DyadRing'. -/
def dyadRingUptoCard : Claim7 := { stood := { row := dyadRingUptoRow, standIns := [], harness := (true, "d82eaea305f2e60d5abdcd9709f22ae5a692c26f6e2efedc25b4af62090cac7d"), looks := false }, kinds := [], alts := [], laidByText := true, laidKinds := [.data], laidTests := true, laidLooks := .later }
def DyadRingUptoCardSaid : Prop := Claim7.holds Tryd.pinned (.plain (OpenSpec.upto dyadRingSpec)) dyadRingUptoCard
end Rows
end Go.Proofs.YtonhahbmdekkdaaDoor
