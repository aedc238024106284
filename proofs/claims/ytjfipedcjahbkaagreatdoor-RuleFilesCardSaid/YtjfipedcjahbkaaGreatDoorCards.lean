/-
  DERIVED. GIVEN WITH THE SEED: THE CARDS: each row of YtjfipedcjahbkaaGreatDoorRows.lean that lists a variable, with what it lists TIED to the program's text (the seventh form; the later family's looks); each row that meets fmt, with fmt's text TOLD by the authors' own Lean function (tested against real Go, not proved from fmt's source: count such statements apart). THE CARD IS WHAT COUNTS. Prove the row's statement (the work); the ties are given (YtjfipedcjahbkaaGreatDoorTie.lean); close each card by the builder's one call (the guide's Derived/Test/ToyasCard.lean, 'card_holds'). Laid BY PROGRAM, IN A SANDBOX (cutbox-door.mjs). By AI agents, Wed Nov 11 2026. No macro, syntax, notation, axiom, sorry.
-/
import Derived.Test.YtjfipedcjahbkaaGreatDoorRows
import GoSem.ClaimSeven
namespace Go.Proofs.YtjfipedcjahbkaaGreatDoor
namespace Rows

/-- THE TIED CARD OF 'cracknellaw05.RuleLines'. -/
def ruleLinesCard : Claim7 := { stood := { row := ruleLinesRow, standIns := [], harness := (true, "38d8f3fcdb37b387087c31ee22f57a1e875c01f80e524e76951200e1014f6b80"), looks := false }, kinds := [], alts := [], laidByText := true, laidKinds := [.data, .data, .data], laidTests := true, laidLooks := .later }
def RuleLinesCardSaid : Prop := Claim7.holds Tryz.pinned (.plain (OpenSpec.ofChange ruleLinesSpec)) ruleLinesCard

/-- THE TIED CARD OF 'cracknellaw05.RuleFiles'. -/
def ruleFilesCard : Claim7 := { stood := { row := ruleFilesRow, standIns := [], harness := (true, "38d8f3fcdb37b387087c31ee22f57a1e875c01f80e524e76951200e1014f6b80"), looks := false }, kinds := [], alts := [], laidByText := true, laidKinds := [.data, .data, .data, .data, .pinned], laidTests := true, laidLooks := .later }
def RuleFilesCardSaid : Prop := Claim7.holds Tryz.pinned (.plain (OpenSpec.ofChange ruleFilesSpec)) ruleFilesCard

/-- THE SECOND FORM's CARD OF 'cracknellaw05.RuleLines'. -/
def ruleLinesUptoCard : Claim7 := { stood := { row := ruleLinesUptoRow, standIns := [], harness := (true, "38d8f3fcdb37b387087c31ee22f57a1e875c01f80e524e76951200e1014f6b80"), looks := false }, kinds := [], alts := [], laidByText := true, laidKinds := [.data, .data, .data], laidTests := true, laidLooks := .later }
def RuleLinesUptoCardSaid : Prop := Claim7.holds Tryz.pinned (.plain (OpenSpec.upto ruleLinesSpec)) ruleLinesUptoCard

/-- THE SECOND FORM's CARD OF 'cracknellaw05.RuleFiles'. -/
def ruleFilesUptoCard : Claim7 := { stood := { row := ruleFilesUptoRow, standIns := [], harness := (true, "38d8f3fcdb37b387087c31ee22f57a1e875c01f80e524e76951200e1014f6b80"), looks := false }, kinds := [], alts := [], laidByText := true, laidKinds := [.data, .data, .data, .data, .pinned], laidTests := true, laidLooks := .later }
def RuleFilesUptoCardSaid : Prop := Claim7.holds Tryz.pinned (.plain (OpenSpec.upto ruleFilesSpec)) ruleFilesUptoCard
end Rows
end Go.Proofs.YtjfipedcjahbkaaGreatDoor
