/-
  DERIVED. GIVEN WITH THE SEED: THE CARDS: each row of YtpimaobejjpffaaGreatDoorRows.lean that lists a variable, with what it lists TIED to the program's text (the seventh form; the later family's looks); each row that meets fmt, with fmt's text TOLD by the authors' own Lean function (tested against real Go, not proved from fmt's source: count such statements apart). THE CARD IS WHAT COUNTS. Prove the row's statement (the work); the ties are given (YtpimaobejjpffaaGreatDoorTie.lean); close each card by the builder's one call (the guide's Derived/Test/ToyasCard.lean, 'card_holds'). Laid BY PROGRAM, IN A SANDBOX (cutbox-door.mjs). By AI agents, Wed Nov 11 2026. No macro, syntax, notation, axiom, sorry.
-/
import Derived.Test.YtpimaobejjpffaaGreatDoorRows
import GoSem.ClaimSeven
namespace Go.Proofs.YtpimaobejjpffaaGreatDoor
namespace Rows

/-- THE TIED CARD OF 'cracknellaw08.HeaderReads'. -/
def headerReadsCard : Claim7 := { stood := { row := headerReadsRow, standIns := [], harness := (true, "337dbd7c434fef4ea79a7e50adeeeb9dd7e900336334e7edc0dbd79d3d5718a8"), looks := false }, kinds := [], alts := [], laidByText := true, laidKinds := [.data, .data, .data, .data, .data, .data, .data, .data, .pinned], laidTests := true, laidLooks := .later }
def HeaderReadsCardSaid : Prop := Claim7.holds Tryz.pinned (.plain (OpenSpec.ofChange headerReadsSpec)) headerReadsCard

/-- THE SECOND FORM's CARD OF 'cracknellaw08.HeaderReads'. -/
def headerReadsUptoCard : Claim7 := { stood := { row := headerReadsUptoRow, standIns := [], harness := (true, "337dbd7c434fef4ea79a7e50adeeeb9dd7e900336334e7edc0dbd79d3d5718a8"), looks := false }, kinds := [], alts := [], laidByText := true, laidKinds := [.data, .data, .data, .data, .data, .data, .data, .data, .pinned], laidTests := true, laidLooks := .later }
def HeaderReadsUptoCardSaid : Prop := Claim7.holds Tryz.pinned (.plain (OpenSpec.upto headerReadsSpec)) headerReadsUptoCard
end Rows
end Go.Proofs.YtpimaobejjpffaaGreatDoor
