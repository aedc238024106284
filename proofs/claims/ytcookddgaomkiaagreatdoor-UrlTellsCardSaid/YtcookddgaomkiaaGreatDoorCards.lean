/-
  DERIVED. GIVEN WITH THE SEED: THE CARDS: each row of YtcookddgaomkiaaGreatDoorRows.lean that lists a variable, with what it lists TIED to the program's text (the seventh form; the later family's looks); each row that meets fmt, with fmt's text TOLD by the authors' own Lean function (tested against real Go, not proved from fmt's source: count such statements apart). THE CARD IS WHAT COUNTS. Prove the row's statement (the work); the ties are given (YtcookddgaomkiaaGreatDoorTie.lean); close each card by the builder's one call (the guide's Derived/Test/ToyasCard.lean, 'card_holds'). Laid BY PROGRAM, IN A SANDBOX (cutbox-door.mjs). By AI agents, Wed Nov 11 2026. No macro, syntax, notation, axiom, sorry.
-/
import Derived.Test.YtcookddgaomkiaaGreatDoorRows
import GoSem.ClaimSeven
namespace Go.Proofs.YtcookddgaomkiaaGreatDoor
namespace Rows

/-- THE TIED CARD OF 'cracknellaw04.UrlTells'. -/
def urlTellsCard : Claim7 := { stood := { row := urlTellsRow, standIns := [], harness := (true, "88872c2b0e9961170d3e26ba0914db12ddd2e942f8127226b6dd66ba82f63d7d"), looks := false }, kinds := [], alts := [], laidByText := true, laidKinds := [.data, .data, .data], laidTests := true, laidLooks := .later }
def UrlTellsCardSaid : Prop := Claim7.holds Tryz.pinned (.plain (OpenSpec.ofChange urlTellsSpec)) urlTellsCard

/-- THE SECOND FORM's CARD OF 'cracknellaw04.UrlTells'. -/
def urlTellsUptoCard : Claim7 := { stood := { row := urlTellsUptoRow, standIns := [], harness := (true, "88872c2b0e9961170d3e26ba0914db12ddd2e942f8127226b6dd66ba82f63d7d"), looks := false }, kinds := [], alts := [], laidByText := true, laidKinds := [.data, .data, .data], laidTests := true, laidLooks := .later }
def UrlTellsUptoCardSaid : Prop := Claim7.holds Tryz.pinned (.plain (OpenSpec.upto urlTellsSpec)) urlTellsUptoCard
end Rows
end Go.Proofs.YtcookddgaomkiaaGreatDoor
