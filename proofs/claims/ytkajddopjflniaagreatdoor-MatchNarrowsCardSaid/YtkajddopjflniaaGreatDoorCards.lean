/-
  DERIVED. GIVEN WITH THE SEED: THE CARDS: each row of YtkajddopjflniaaGreatDoorRows.lean that lists a variable, with what it lists TIED to the program's text (the seventh form; the later family's looks); each row that meets fmt, with fmt's text TOLD by the authors' own Lean function (tested against real Go, not proved from fmt's source: count such statements apart). THE CARD IS WHAT COUNTS. Prove the row's statement (the work); the ties are given (YtkajddopjflniaaGreatDoorTie.lean); close each card by the builder's one call (the guide's Derived/Test/ToyasCard.lean, 'card_holds'). Laid BY PROGRAM, IN A SANDBOX (cutbox-door.mjs). By AI agents, Wed Nov 11 2026. No macro, syntax, notation, axiom, sorry.
-/
import Derived.Test.YtkajddopjflniaaGreatDoorRows
import GoSem.ClaimSeven
namespace Go.Proofs.YtkajddopjflniaaGreatDoor
namespace Rows

/-- THE TIED CARD OF 'cracknellaw09.MatchHosts'. -/
def matchHostsCard : Claim7 := { stood := { row := matchHostsRow, standIns := [], harness := (true, "0886d1047e740063b05d2579a947e05f7f57b0f2c2ec1a0ab667c0c81c1f8bd0"), looks := false }, kinds := [], alts := [], laidByText := true, laidKinds := [.data, .data, .data], laidTests := true, laidLooks := .later }
def MatchHostsCardSaid : Prop := Claim7.holds Tryz.pinned (.plain (OpenSpec.ofChange matchHostsSpec)) matchHostsCard

/-- THE TIED CARD OF 'cracknellaw09.MatchSends'. -/
def matchSendsCard : Claim7 := { stood := { row := matchSendsRow, standIns := [], harness := (true, "0886d1047e740063b05d2579a947e05f7f57b0f2c2ec1a0ab667c0c81c1f8bd0"), looks := false }, kinds := [], alts := [], laidByText := true, laidKinds := [.data, .data, .data], laidTests := true, laidLooks := .later }
def MatchSendsCardSaid : Prop := Claim7.holds Tryz.pinned (.plain (OpenSpec.ofChange matchSendsSpec)) matchSendsCard

/-- THE TIED CARD OF 'cracknellaw09.MatchNarrows'. -/
def matchNarrowsCard : Claim7 := { stood := { row := matchNarrowsRow, standIns := [], harness := (true, "0886d1047e740063b05d2579a947e05f7f57b0f2c2ec1a0ab667c0c81c1f8bd0"), looks := false }, kinds := [], alts := [], laidByText := true, laidKinds := [.data, .data, .data], laidTests := true, laidLooks := .later }
def MatchNarrowsCardSaid : Prop := Claim7.holds Tryz.pinned (.plain (OpenSpec.ofChange matchNarrowsSpec)) matchNarrowsCard

/-- THE SECOND FORM's CARD OF 'cracknellaw09.MatchHosts'. -/
def matchHostsUptoCard : Claim7 := { stood := { row := matchHostsUptoRow, standIns := [], harness := (true, "0886d1047e740063b05d2579a947e05f7f57b0f2c2ec1a0ab667c0c81c1f8bd0"), looks := false }, kinds := [], alts := [], laidByText := true, laidKinds := [.data, .data, .data], laidTests := true, laidLooks := .later }
def MatchHostsUptoCardSaid : Prop := Claim7.holds Tryz.pinned (.plain (OpenSpec.upto matchHostsSpec)) matchHostsUptoCard

/-- THE SECOND FORM's CARD OF 'cracknellaw09.MatchSends'. -/
def matchSendsUptoCard : Claim7 := { stood := { row := matchSendsUptoRow, standIns := [], harness := (true, "0886d1047e740063b05d2579a947e05f7f57b0f2c2ec1a0ab667c0c81c1f8bd0"), looks := false }, kinds := [], alts := [], laidByText := true, laidKinds := [.data, .data, .data], laidTests := true, laidLooks := .later }
def MatchSendsUptoCardSaid : Prop := Claim7.holds Tryz.pinned (.plain (OpenSpec.upto matchSendsSpec)) matchSendsUptoCard

/-- THE SECOND FORM's CARD OF 'cracknellaw09.MatchNarrows'. -/
def matchNarrowsUptoCard : Claim7 := { stood := { row := matchNarrowsUptoRow, standIns := [], harness := (true, "0886d1047e740063b05d2579a947e05f7f57b0f2c2ec1a0ab667c0c81c1f8bd0"), looks := false }, kinds := [], alts := [], laidByText := true, laidKinds := [.data, .data, .data], laidTests := true, laidLooks := .later }
def MatchNarrowsUptoCardSaid : Prop := Claim7.holds Tryz.pinned (.plain (OpenSpec.upto matchNarrowsSpec)) matchNarrowsUptoCard
end Rows
end Go.Proofs.YtkajddopjflniaaGreatDoor
