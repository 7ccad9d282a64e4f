/-
  DERIVED. GIVEN WITH THE SEED: THE CARDS: each row of YtaejmlkaefnbhaaGreatDoorRows.lean that lists a variable, with what it lists TIED to the program's text (the seventh form; the later family's looks); each row that meets fmt, with fmt's text TOLD by the authors' own Lean function (tested against real Go, not proved from fmt's source: count such statements apart). THE CARD IS WHAT COUNTS. Prove the row's statement (the work); the ties are given (YtaejmlkaefnbhaaGreatDoorTie.lean); close each card by the builder's one call (the guide's Derived/Test/ToyasCard.lean, 'card_holds'). Laid BY PROGRAM, IN A SANDBOX (cutbox-door.mjs). By AI agents, Wed Nov 11 2026. No macro, syntax, notation, axiom, sorry.
-/
import Derived.Test.YtaejmlkaefnbhaaGreatDoorRows
import GoSem.ClaimSeven
namespace Go.Proofs.YtaejmlkaefnbhaaGreatDoor
namespace Rows

/-- THE TIED CARD OF 'steelyardlaw21.ShardPlays'. -/
def shardPlaysCard : Claim7 := { stood := { row := shardPlaysRow, standIns := [], harness := (true, "8a00ee6688d7afda56f353d004f7b99f795a5a42a131e7dcf9c3acb97baf67a0"), looks := false }, kinds := [], alts := [], laidByText := true, laidKinds := [.data], laidTests := true, laidLooks := .later }
def ShardPlaysCardSaid : Prop := Claim7.holds Tryz.pinned (.plain (OpenSpec.ofChange shardPlaysSpec)) shardPlaysCard

/-- THE TIED CARD OF 'steelyardlaw21.ShardDecodes'. -/
def shardDecodesCard : Claim7 := { stood := { row := shardDecodesRow, standIns := [], harness := (true, "8a00ee6688d7afda56f353d004f7b99f795a5a42a131e7dcf9c3acb97baf67a0"), looks := false }, kinds := [], alts := [], laidByText := true, laidKinds := [.data], laidTests := true, laidLooks := .later }
def ShardDecodesCardSaid : Prop := Claim7.holds Tryz.pinned (.plain (OpenSpec.ofChange shardDecodesSpec)) shardDecodesCard

/-- THE TIED CARD OF 'steelyardlaw21.ShardLists'. -/
def shardListsCard : Claim7 := { stood := { row := shardListsRow, standIns := [], harness := (true, "8a00ee6688d7afda56f353d004f7b99f795a5a42a131e7dcf9c3acb97baf67a0"), looks := false }, kinds := [], alts := [], laidByText := true, laidKinds := [.data], laidTests := true, laidLooks := .later }
def ShardListsCardSaid : Prop := Claim7.holds Tryz.pinned (.plain (OpenSpec.ofChange shardListsSpec)) shardListsCard

/-- THE SECOND FORM's CARD OF 'steelyardlaw21.ShardPlays'. -/
def shardPlaysUptoCard : Claim7 := { stood := { row := shardPlaysUptoRow, standIns := [], harness := (true, "8a00ee6688d7afda56f353d004f7b99f795a5a42a131e7dcf9c3acb97baf67a0"), looks := false }, kinds := [], alts := [], laidByText := true, laidKinds := [.data], laidTests := true, laidLooks := .later }
def ShardPlaysUptoCardSaid : Prop := Claim7.holds Tryz.pinned (.plain (OpenSpec.upto shardPlaysSpec)) shardPlaysUptoCard

/-- THE SECOND FORM's CARD OF 'steelyardlaw21.ShardDecodes'. -/
def shardDecodesUptoCard : Claim7 := { stood := { row := shardDecodesUptoRow, standIns := [], harness := (true, "8a00ee6688d7afda56f353d004f7b99f795a5a42a131e7dcf9c3acb97baf67a0"), looks := false }, kinds := [], alts := [], laidByText := true, laidKinds := [.data], laidTests := true, laidLooks := .later }
def ShardDecodesUptoCardSaid : Prop := Claim7.holds Tryz.pinned (.plain (OpenSpec.upto shardDecodesSpec)) shardDecodesUptoCard

/-- THE SECOND FORM's CARD OF 'steelyardlaw21.ShardLists'. -/
def shardListsUptoCard : Claim7 := { stood := { row := shardListsUptoRow, standIns := [], harness := (true, "8a00ee6688d7afda56f353d004f7b99f795a5a42a131e7dcf9c3acb97baf67a0"), looks := false }, kinds := [], alts := [], laidByText := true, laidKinds := [.data], laidTests := true, laidLooks := .later }
def ShardListsUptoCardSaid : Prop := Claim7.holds Tryz.pinned (.plain (OpenSpec.upto shardListsSpec)) shardListsUptoCard
end Rows
end Go.Proofs.YtaejmlkaefnbhaaGreatDoor
