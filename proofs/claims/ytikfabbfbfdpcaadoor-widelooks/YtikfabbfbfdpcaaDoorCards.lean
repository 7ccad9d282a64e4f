/-
  DERIVED. GIVEN WITH THE SEED: THE CARDS: each row of YtikfabbfbfdpcaaDoorRows.lean that lists a variable, with what it lists TIED to the program's text (the seventh form; the later family's looks); each row that meets fmt, with fmt's text TOLD by the authors' own Lean function (tested against real Go, not proved from fmt's source: count such statements apart). THE CARD IS WHAT COUNTS. Prove the row's statement (the work); the ties are given (YtikfabbfbfdpcaaDoorTie.lean); close each card by the builder's one call (the guide's Derived/Test/ToyasCard.lean, 'card_holds'). Laid BY PROGRAM, IN A SANDBOX (cutbox-door.mjs). By AI agents, Wed Nov 11 2026. No macro, syntax, notation, axiom, sorry.
-/
import Derived.Test.YtikfabbfbfdpcaaDoorRows
import GoSem.ClaimSeven
namespace Go.Proofs.YtikfabbfbfdpcaaDoor
namespace Rows

/-- THE TIED CARD OF 'steelyardlaw02.WideNumbers'. -/
def wideNumbersCard : Claim7 := { stood := { row := wideNumbersRow, standIns := [], harness := (true, "a83d759b06538f3f0fa8af71f1ef501859ddc303f95b6d84cb9138126fcc047c"), looks := false }, kinds := [], alts := [], laidByText := true, laidKinds := [.data], laidTests := true, laidLooks := .later }
def WideNumbersCardSaid : Prop := Claim7.holds Tryd.pinned (.plain (OpenSpec.ofChange wideNumbersSpec)) wideNumbersCard

/-- THE TIED CARD OF 'steelyardlaw02.WideWorks'. -/
def wideWorksCard : Claim7 := { stood := { row := wideWorksRow, standIns := [], harness := (true, "a83d759b06538f3f0fa8af71f1ef501859ddc303f95b6d84cb9138126fcc047c"), looks := false }, kinds := [], alts := [], laidByText := true, laidKinds := [.data], laidTests := true, laidLooks := .later }
def WideWorksCardSaid : Prop := Claim7.holds Tryd.pinned (.plain (OpenSpec.ofChange wideWorksSpec)) wideWorksCard

/-- THE TIED CARD OF 'steelyardlaw02.WideLooks'. -/
def wideLooksCard : Claim7 := { stood := { row := wideLooksRow, standIns := [], harness := (true, "a83d759b06538f3f0fa8af71f1ef501859ddc303f95b6d84cb9138126fcc047c"), looks := false }, kinds := [], alts := [], laidByText := true, laidKinds := [.data], laidTests := true, laidLooks := .later }
def WideLooksCardSaid : Prop := Claim7.holds Tryd.pinned (.plain (OpenSpec.ofChange wideLooksSpec)) wideLooksCard

/-- THE TIED CARD OF 'steelyardlaw02.WideRoots'. -/
def wideRootsCard : Claim7 := { stood := { row := wideRootsRow, standIns := [], harness := (true, "a83d759b06538f3f0fa8af71f1ef501859ddc303f95b6d84cb9138126fcc047c"), looks := false }, kinds := [], alts := [], laidByText := true, laidKinds := [.data], laidTests := true, laidLooks := .later }
def WideRootsCardSaid : Prop := Claim7.holds Tryd.pinned (.plain (OpenSpec.ofChange wideRootsSpec)) wideRootsCard

/-- THE TIED CARD OF 'steelyardlaw02.WideReads'. -/
def wideReadsCard : Claim7 := { stood := { row := wideReadsRow, standIns := [], harness := (true, "a83d759b06538f3f0fa8af71f1ef501859ddc303f95b6d84cb9138126fcc047c"), looks := false }, kinds := [], alts := [], laidByText := true, laidKinds := [.data], laidTests := true, laidLooks := .later }
def WideReadsCardSaid : Prop := Claim7.holds Tryd.pinned (.plain (OpenSpec.ofChange wideReadsSpec)) wideReadsCard

/-- THE TIED CARD OF 'steelyardlaw02.WideLaws'. -/
def wideLawsCard : Claim7 := { stood := { row := wideLawsRow, standIns := [], harness := (true, "a83d759b06538f3f0fa8af71f1ef501859ddc303f95b6d84cb9138126fcc047c"), looks := false }, kinds := [], alts := [], laidByText := true, laidKinds := [.data], laidTests := true, laidLooks := .later }
def WideLawsCardSaid : Prop := Claim7.holds Tryd.pinned (.plain (OpenSpec.ofChange wideLawsSpec)) wideLawsCard

/-- THE SECOND FORM's CARD OF 'steelyardlaw02.WideNumbers'. -/
def wideNumbersUptoCard : Claim7 := { stood := { row := wideNumbersUptoRow, standIns := [], harness := (true, "a83d759b06538f3f0fa8af71f1ef501859ddc303f95b6d84cb9138126fcc047c"), looks := false }, kinds := [], alts := [], laidByText := true, laidKinds := [.data], laidTests := true, laidLooks := .later }
def WideNumbersUptoCardSaid : Prop := Claim7.holds Tryd.pinned (.plain (OpenSpec.upto wideNumbersSpec)) wideNumbersUptoCard

/-- THE SECOND FORM's CARD OF 'steelyardlaw02.WideWorks'. -/
def wideWorksUptoCard : Claim7 := { stood := { row := wideWorksUptoRow, standIns := [], harness := (true, "a83d759b06538f3f0fa8af71f1ef501859ddc303f95b6d84cb9138126fcc047c"), looks := false }, kinds := [], alts := [], laidByText := true, laidKinds := [.data], laidTests := true, laidLooks := .later }
def WideWorksUptoCardSaid : Prop := Claim7.holds Tryd.pinned (.plain (OpenSpec.upto wideWorksSpec)) wideWorksUptoCard

/-- THE SECOND FORM's CARD OF 'steelyardlaw02.WideLooks'. -/
def wideLooksUptoCard : Claim7 := { stood := { row := wideLooksUptoRow, standIns := [], harness := (true, "a83d759b06538f3f0fa8af71f1ef501859ddc303f95b6d84cb9138126fcc047c"), looks := false }, kinds := [], alts := [], laidByText := true, laidKinds := [.data], laidTests := true, laidLooks := .later }
def WideLooksUptoCardSaid : Prop := Claim7.holds Tryd.pinned (.plain (OpenSpec.upto wideLooksSpec)) wideLooksUptoCard

/-- THE SECOND FORM's CARD OF 'steelyardlaw02.WideRoots'. -/
def wideRootsUptoCard : Claim7 := { stood := { row := wideRootsUptoRow, standIns := [], harness := (true, "a83d759b06538f3f0fa8af71f1ef501859ddc303f95b6d84cb9138126fcc047c"), looks := false }, kinds := [], alts := [], laidByText := true, laidKinds := [.data], laidTests := true, laidLooks := .later }
def WideRootsUptoCardSaid : Prop := Claim7.holds Tryd.pinned (.plain (OpenSpec.upto wideRootsSpec)) wideRootsUptoCard

/-- THE SECOND FORM's CARD OF 'steelyardlaw02.WideReads'. -/
def wideReadsUptoCard : Claim7 := { stood := { row := wideReadsUptoRow, standIns := [], harness := (true, "a83d759b06538f3f0fa8af71f1ef501859ddc303f95b6d84cb9138126fcc047c"), looks := false }, kinds := [], alts := [], laidByText := true, laidKinds := [.data], laidTests := true, laidLooks := .later }
def WideReadsUptoCardSaid : Prop := Claim7.holds Tryd.pinned (.plain (OpenSpec.upto wideReadsSpec)) wideReadsUptoCard

/-- THE SECOND FORM's CARD OF 'steelyardlaw02.WideLaws'. -/
def wideLawsUptoCard : Claim7 := { stood := { row := wideLawsUptoRow, standIns := [], harness := (true, "a83d759b06538f3f0fa8af71f1ef501859ddc303f95b6d84cb9138126fcc047c"), looks := false }, kinds := [], alts := [], laidByText := true, laidKinds := [.data], laidTests := true, laidLooks := .later }
def WideLawsUptoCardSaid : Prop := Claim7.holds Tryd.pinned (.plain (OpenSpec.upto wideLawsSpec)) wideLawsUptoCard
end Rows
end Go.Proofs.YtikfabbfbfdpcaaDoor
