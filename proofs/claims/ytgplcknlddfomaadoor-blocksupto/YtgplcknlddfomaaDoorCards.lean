/-
  DERIVED. GIVEN WITH THE SEED: THE CARDS: each row of YtgplcknlddfomaaDoorRows.lean that lists a variable, with what it lists TIED to the program's text (the seventh form; the later family's looks); each row that meets fmt, with fmt's text TOLD by the authors' own Lean function (tested against real Go, not proved from fmt's source: count such statements apart). THE CARD IS WHAT COUNTS. Prove the row's statement (the work); the ties are given (YtgplcknlddfomaaDoorTie.lean); close each card by the builder's one call (the guide's Derived/Test/ToyasCard.lean, 'card_holds'). Laid BY PROGRAM, IN A SANDBOX (cutbox-door.mjs). By AI agents, Wed Nov 11 2026. No macro, syntax, notation, axiom, sorry.
-/
import Derived.Test.YtgplcknlddfomaaDoorRows
import GoSem.ClaimSeven
namespace Go.Proofs.YtgplcknlddfomaaDoor
namespace Rows

/-- THE TIED CARD OF 'marllaw.Blocks'. -/
def blocksCard : Claim7 := { stood := { row := blocksRow, standIns := [], harness := (true, "5d51204429b3ae3985e2ee5bf15188e1cc3a944aeb35220212bb7e602e151d48"), looks := true }, kinds := [], alts := [], laidByText := true, laidKinds := [.handle, .sentinel], laidTests := true, laidLooks := .later }
def BlocksCardSaid : Prop := Claim7.holds Tryd.pinned (.plain (OpenSpec.ofChange blocksSpec)) blocksCard

/-- THE SECOND FORM's CARD OF 'marllaw.Blocks'. -/
def blocksUptoCard : Claim7 := { stood := { row := blocksUptoRow, standIns := [], harness := (true, "5d51204429b3ae3985e2ee5bf15188e1cc3a944aeb35220212bb7e602e151d48"), looks := true }, kinds := [], alts := [], laidByText := true, laidKinds := [.handle, .sentinel], laidTests := true, laidLooks := .later }
def BlocksUptoCardSaid : Prop := Claim7.holds Tryd.pinned (.plain (OpenSpec.upto blocksSpec)) blocksUptoCard
end Rows
end Go.Proofs.YtgplcknlddfomaaDoor
