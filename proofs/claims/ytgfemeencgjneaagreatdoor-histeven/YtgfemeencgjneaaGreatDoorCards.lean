/-
  DERIVED. GIVEN WITH THE SEED: THE CARDS: each row of YtgfemeencgjneaaGreatDoorRows.lean that lists a variable, with what it lists TIED to the program's text (the seventh form; the later family's looks); each row that meets fmt, with fmt's text TOLD by the authors' own Lean function (tested against real Go, not proved from fmt's source: count such statements apart). THE CARD IS WHAT COUNTS. Prove the row's statement (the work); the ties are given (YtgfemeencgjneaaGreatDoorTie.lean); close each card by the builder's one call (the guide's Derived/Test/ToyasCard.lean, 'card_holds'). Laid BY PROGRAM, IN A SANDBOX (cutbox-door.mjs). By AI agents, Wed Nov 11 2026. No macro, syntax, notation, axiom, sorry.
-/
import Derived.Test.YtgfemeencgjneaaGreatDoorRows
import GoSem.ClaimSeven
namespace Go.Proofs.YtgfemeencgjneaaGreatDoor
namespace Rows

/-- THE TIED CARD OF 'steelyardlaw17.HistNumbers'. -/
def histNumbersCard : Claim7 := { stood := { row := histNumbersRow, standIns := [], harness := (true, "48991fb47a25cd430a57d2749f2ec61d9fc8fa3c46f9e59ce70ff2ae6879634a"), looks := false }, kinds := [], alts := [], laidByText := true, laidKinds := [.data], laidTests := true, laidLooks := .later }
def HistNumbersCardSaid : Prop := Claim7.holds Tryz.pinned (.plain (OpenSpec.ofChange histNumbersSpec)) histNumbersCard

/-- THE TIED CARD OF 'steelyardlaw17.HistEdges'. -/
def histEdgesCard : Claim7 := { stood := { row := histEdgesRow, standIns := [], harness := (true, "48991fb47a25cd430a57d2749f2ec61d9fc8fa3c46f9e59ce70ff2ae6879634a"), looks := false }, kinds := [], alts := [], laidByText := true, laidKinds := [.data], laidTests := true, laidLooks := .later }
def HistEdgesCardSaid : Prop := Claim7.holds Tryz.pinned (.plain (OpenSpec.ofChange histEdgesSpec)) histEdgesCard

/-- THE TIED CARD OF 'steelyardlaw17.HistPlays'. -/
def histPlaysCard : Claim7 := { stood := { row := histPlaysRow, standIns := [], harness := (true, "48991fb47a25cd430a57d2749f2ec61d9fc8fa3c46f9e59ce70ff2ae6879634a"), looks := false }, kinds := [], alts := [], laidByText := true, laidKinds := [.data], laidTests := true, laidLooks := .later }
def HistPlaysCardSaid : Prop := Claim7.holds Tryz.pinned (.plain (OpenSpec.ofChange histPlaysSpec)) histPlaysCard

/-- THE TIED CARD OF 'steelyardlaw17.HistSums'. -/
def histSumsCard : Claim7 := { stood := { row := histSumsRow, standIns := [], harness := (true, "48991fb47a25cd430a57d2749f2ec61d9fc8fa3c46f9e59ce70ff2ae6879634a"), looks := false }, kinds := [], alts := [], laidByText := true, laidKinds := [.data], laidTests := true, laidLooks := .later }
def HistSumsCardSaid : Prop := Claim7.holds Tryz.pinned (.plain (OpenSpec.ofChange histSumsSpec)) histSumsCard

/-- THE TIED CARD OF 'steelyardlaw17.HistEven'. -/
def histEvenCard : Claim7 := { stood := { row := histEvenRow, standIns := [], harness := (true, "48991fb47a25cd430a57d2749f2ec61d9fc8fa3c46f9e59ce70ff2ae6879634a"), looks := false }, kinds := [], alts := [], laidByText := true, laidKinds := [.data], laidTests := true, laidLooks := .later }
def HistEvenCardSaid : Prop := Claim7.holds Tryz.pinned (.plain (OpenSpec.ofChange histEvenSpec)) histEvenCard

/-- THE TIED CARD OF 'steelyardlaw16.QuantOrder'. -/
def quantOrderCard : Claim7 := { stood := { row := quantOrderRow, standIns := [], harness := (true, "48991fb47a25cd430a57d2749f2ec61d9fc8fa3c46f9e59ce70ff2ae6879634a"), looks := false }, kinds := [], alts := [], laidByText := true, laidKinds := [.data], laidTests := true, laidLooks := .later }
def QuantOrderCardSaid : Prop := Claim7.holds Tryz.pinned (.plain (OpenSpec.ofChange quantOrderSpec)) quantOrderCard

/-- THE SECOND FORM's CARD OF 'steelyardlaw17.HistNumbers'. -/
def histNumbersUptoCard : Claim7 := { stood := { row := histNumbersUptoRow, standIns := [], harness := (true, "48991fb47a25cd430a57d2749f2ec61d9fc8fa3c46f9e59ce70ff2ae6879634a"), looks := false }, kinds := [], alts := [], laidByText := true, laidKinds := [.data], laidTests := true, laidLooks := .later }
def HistNumbersUptoCardSaid : Prop := Claim7.holds Tryz.pinned (.plain (OpenSpec.upto histNumbersSpec)) histNumbersUptoCard

/-- THE SECOND FORM's CARD OF 'steelyardlaw17.HistEdges'. -/
def histEdgesUptoCard : Claim7 := { stood := { row := histEdgesUptoRow, standIns := [], harness := (true, "48991fb47a25cd430a57d2749f2ec61d9fc8fa3c46f9e59ce70ff2ae6879634a"), looks := false }, kinds := [], alts := [], laidByText := true, laidKinds := [.data], laidTests := true, laidLooks := .later }
def HistEdgesUptoCardSaid : Prop := Claim7.holds Tryz.pinned (.plain (OpenSpec.upto histEdgesSpec)) histEdgesUptoCard

/-- THE SECOND FORM's CARD OF 'steelyardlaw17.HistPlays'. -/
def histPlaysUptoCard : Claim7 := { stood := { row := histPlaysUptoRow, standIns := [], harness := (true, "48991fb47a25cd430a57d2749f2ec61d9fc8fa3c46f9e59ce70ff2ae6879634a"), looks := false }, kinds := [], alts := [], laidByText := true, laidKinds := [.data], laidTests := true, laidLooks := .later }
def HistPlaysUptoCardSaid : Prop := Claim7.holds Tryz.pinned (.plain (OpenSpec.upto histPlaysSpec)) histPlaysUptoCard

/-- THE SECOND FORM's CARD OF 'steelyardlaw17.HistSums'. -/
def histSumsUptoCard : Claim7 := { stood := { row := histSumsUptoRow, standIns := [], harness := (true, "48991fb47a25cd430a57d2749f2ec61d9fc8fa3c46f9e59ce70ff2ae6879634a"), looks := false }, kinds := [], alts := [], laidByText := true, laidKinds := [.data], laidTests := true, laidLooks := .later }
def HistSumsUptoCardSaid : Prop := Claim7.holds Tryz.pinned (.plain (OpenSpec.upto histSumsSpec)) histSumsUptoCard

/-- THE SECOND FORM's CARD OF 'steelyardlaw17.HistEven'. -/
def histEvenUptoCard : Claim7 := { stood := { row := histEvenUptoRow, standIns := [], harness := (true, "48991fb47a25cd430a57d2749f2ec61d9fc8fa3c46f9e59ce70ff2ae6879634a"), looks := false }, kinds := [], alts := [], laidByText := true, laidKinds := [.data], laidTests := true, laidLooks := .later }
def HistEvenUptoCardSaid : Prop := Claim7.holds Tryz.pinned (.plain (OpenSpec.upto histEvenSpec)) histEvenUptoCard

/-- THE SECOND FORM's CARD OF 'steelyardlaw16.QuantOrder'. -/
def quantOrderUptoCard : Claim7 := { stood := { row := quantOrderUptoRow, standIns := [], harness := (true, "48991fb47a25cd430a57d2749f2ec61d9fc8fa3c46f9e59ce70ff2ae6879634a"), looks := false }, kinds := [], alts := [], laidByText := true, laidKinds := [.data], laidTests := true, laidLooks := .later }
def QuantOrderUptoCardSaid : Prop := Claim7.holds Tryz.pinned (.plain (OpenSpec.upto quantOrderSpec)) quantOrderUptoCard
end Rows
end Go.Proofs.YtgfemeencgjneaaGreatDoor
