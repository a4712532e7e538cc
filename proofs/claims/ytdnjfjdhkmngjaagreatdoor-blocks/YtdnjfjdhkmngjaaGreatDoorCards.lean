/-
  DERIVED. GIVEN WITH THE SEED: THE CARDS: each row of YtdnjfjdhkmngjaaGreatDoorRows.lean that lists a variable, with what it lists TIED to the program's text (the seventh form; the later family's looks); each row that meets fmt, with fmt's text TOLD by the authors' own Lean function (tested against real Go, not proved from fmt's source: count such statements apart). THE CARD IS WHAT COUNTS. Prove the row's statement (the work); the ties are given (YtdnjfjdhkmngjaaGreatDoorTie.lean); close each card by the builder's one call (the guide's Derived/Test/ToyasCard.lean, 'card_holds'). Laid BY PROGRAM, IN A SANDBOX (cutbox-door.mjs). By AI agents, Wed Nov 11 2026. No macro, syntax, notation, axiom, sorry.
-/
import Derived.Test.YtdnjfjdhkmngjaaGreatDoorRows
import GoSem.ClaimSeven
namespace Go.Proofs.YtdnjfjdhkmngjaaGreatDoor
namespace Rows

/-- THE TIED CARD OF 'marllaw.Blocks'. -/
def blocksCard : Claim7 := { stood := { row := blocksRow, standIns := [], harness := (true, "4791fa39eeeb6df01eb79026b9bec3db604f16571ceb0727e1b378f420f2e59f"), looks := true }, kinds := [], alts := [], goes := true, laidByText := true, laidKinds := [.handle, .sentinel], laidTests := true, laidLooks := .later }
def BlocksCardSaid : Prop := Claim7.holds Tryz.pinned (.plain (OpenSpec.ofChange blocksSpec)) blocksCard

/-- THE TIED CARD OF 'marllaw.Streams'. -/
def streamsCard : Claim7 := { stood := { row := streamsRow, standIns := [], harness := (true, "4791fa39eeeb6df01eb79026b9bec3db604f16571ceb0727e1b378f420f2e59f"), looks := true }, kinds := [], alts := [], goes := true, laidByText := true, laidKinds := [.handle, .sentinel], laidTests := true, laidLooks := .later }
def StreamsCardSaid : Prop := Claim7.holds Tryz.pinned (.plain (OpenSpec.ofChange streamsSpec)) streamsCard

/-- THE TIED CARD OF 'marllaw.All'. -/
def allCard : Claim7 := { stood := { row := allRow, standIns := [], harness := (true, "4791fa39eeeb6df01eb79026b9bec3db604f16571ceb0727e1b378f420f2e59f"), looks := true }, kinds := [], alts := [], goes := true, laidByText := true, laidKinds := [.handle, .sentinel], laidTests := true, laidLooks := .later }
def AllCardSaid : Prop := Claim7.holds Tryz.pinned (.plain (OpenSpec.ofChange allSpec)) allCard

/-- THE TIED CARD OF 'marlkeep.Torn'. -/
def tornCard : Claim7 := { stood := { row := tornRow, standIns := [], harness := (true, "4791fa39eeeb6df01eb79026b9bec3db604f16571ceb0727e1b378f420f2e59f"), looks := true }, kinds := [], alts := [], goes := true, laidByText := true, laidKinds := [.sentinel], laidTests := true, laidLooks := .later }
def TornCardSaid : Prop := Claim7.holds Tryz.pinned (.plain (OpenSpec.ofChange tornSpec)) tornCard

/-- THE SECOND FORM's CARD OF 'marllaw.Blocks'. -/
def blocksUptoCard : Claim7 := { stood := { row := blocksUptoRow, standIns := [], harness := (true, "4791fa39eeeb6df01eb79026b9bec3db604f16571ceb0727e1b378f420f2e59f"), looks := true }, kinds := [], alts := [], goes := true, laidByText := true, laidKinds := [.handle, .sentinel], laidTests := true, laidLooks := .later }
def BlocksUptoCardSaid : Prop := Claim7.holds Tryz.pinned (.plain (OpenSpec.upto blocksSpec)) blocksUptoCard

/-- THE SECOND FORM's CARD OF 'marllaw.Streams'. -/
def streamsUptoCard : Claim7 := { stood := { row := streamsUptoRow, standIns := [], harness := (true, "4791fa39eeeb6df01eb79026b9bec3db604f16571ceb0727e1b378f420f2e59f"), looks := true }, kinds := [], alts := [], goes := true, laidByText := true, laidKinds := [.handle, .sentinel], laidTests := true, laidLooks := .later }
def StreamsUptoCardSaid : Prop := Claim7.holds Tryz.pinned (.plain (OpenSpec.upto streamsSpec)) streamsUptoCard

/-- THE SECOND FORM's CARD OF 'marllaw.All'. -/
def allUptoCard : Claim7 := { stood := { row := allUptoRow, standIns := [], harness := (true, "4791fa39eeeb6df01eb79026b9bec3db604f16571ceb0727e1b378f420f2e59f"), looks := true }, kinds := [], alts := [], goes := true, laidByText := true, laidKinds := [.handle, .sentinel], laidTests := true, laidLooks := .later }
def AllUptoCardSaid : Prop := Claim7.holds Tryz.pinned (.plain (OpenSpec.upto allSpec)) allUptoCard

/-- THE SECOND FORM's CARD OF 'marlkeep.Torn'. -/
def tornUptoCard : Claim7 := { stood := { row := tornUptoRow, standIns := [], harness := (true, "4791fa39eeeb6df01eb79026b9bec3db604f16571ceb0727e1b378f420f2e59f"), looks := true }, kinds := [], alts := [], goes := true, laidByText := true, laidKinds := [.sentinel], laidTests := true, laidLooks := .later }
def TornUptoCardSaid : Prop := Claim7.holds Tryz.pinned (.plain (OpenSpec.upto tornSpec)) tornUptoCard
end Rows
end Go.Proofs.YtdnjfjdhkmngjaaGreatDoor
