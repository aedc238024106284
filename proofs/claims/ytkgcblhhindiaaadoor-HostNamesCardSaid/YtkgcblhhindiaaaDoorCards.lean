/-
  DERIVED. GIVEN WITH THE SEED: THE CARDS: each row of YtkgcblhhindiaaaDoorRows.lean that lists a variable, with what it lists TIED to the program's text (the seventh form; the later family's looks); each row that meets fmt, with fmt's text TOLD by the authors' own Lean function (tested against real Go, not proved from fmt's source: count such statements apart). THE CARD IS WHAT COUNTS. Prove the row's statement (the work); the ties are given (YtkgcblhhindiaaaDoorTie.lean); close each card by the builder's one call (the guide's Derived/Test/ToyasCard.lean, 'card_holds'). Laid BY PROGRAM, IN A SANDBOX (cutbox-door.mjs). By AI agents, Wed Nov 11 2026. No macro, syntax, notation, axiom, sorry.
-/
import Derived.Test.YtkgcblhhindiaaaDoorRows
import GoSem.ClaimSeven
namespace Go.Proofs.YtkgcblhhindiaaaDoor
namespace Rows

/-- THE TIED CARD OF 'cracknellaw03.HostNames'. -/
def hostNamesCard : Claim7 := { stood := { row := hostNamesRow, standIns := [], harness := (true, "bed26c23ca10296937a148e6751ef2b441bafc245746eb6e3a73fb707bea6ddd"), looks := false }, kinds := [], alts := [], laidByText := true, laidKinds := [.data, .data, .data], laidTests := true, laidLooks := .later }
def HostNamesCardSaid : Prop := Claim7.holds Tryd.pinned (.plain (OpenSpec.ofChange hostNamesSpec)) hostNamesCard

/-- THE TIED CARD OF 'cracknellaw03.HostReads'. -/
def hostReadsCard : Claim7 := { stood := { row := hostReadsRow, standIns := [], harness := (true, "bed26c23ca10296937a148e6751ef2b441bafc245746eb6e3a73fb707bea6ddd"), looks := false }, kinds := [], alts := [], laidByText := true, laidKinds := [.data, .data, .data], laidTests := true, laidLooks := .later }
def HostReadsCardSaid : Prop := Claim7.holds Tryd.pinned (.plain (OpenSpec.ofChange hostReadsSpec)) hostReadsCard

/-- THE TIED CARD OF 'cracknellaw03.HostUnder'. -/
def hostUnderCard : Claim7 := { stood := { row := hostUnderRow, standIns := [], harness := (true, "bed26c23ca10296937a148e6751ef2b441bafc245746eb6e3a73fb707bea6ddd"), looks := false }, kinds := [], alts := [], laidByText := true, laidKinds := [.data, .data, .data], laidTests := true, laidLooks := .later }
def HostUnderCardSaid : Prop := Claim7.holds Tryd.pinned (.plain (OpenSpec.ofChange hostUnderSpec)) hostUnderCard

/-- THE TIED CARD OF 'cracknellaw03.HostOrders'. -/
def hostOrdersCard : Claim7 := { stood := { row := hostOrdersRow, standIns := [], harness := (true, "bed26c23ca10296937a148e6751ef2b441bafc245746eb6e3a73fb707bea6ddd"), looks := false }, kinds := [], alts := [], laidByText := true, laidKinds := [.data, .data, .data], laidTests := true, laidLooks := .later }
def HostOrdersCardSaid : Prop := Claim7.holds Tryd.pinned (.plain (OpenSpec.ofChange hostOrdersSpec)) hostOrdersCard

/-- THE SECOND FORM's CARD OF 'cracknellaw03.HostNames'. -/
def hostNamesUptoCard : Claim7 := { stood := { row := hostNamesUptoRow, standIns := [], harness := (true, "bed26c23ca10296937a148e6751ef2b441bafc245746eb6e3a73fb707bea6ddd"), looks := false }, kinds := [], alts := [], laidByText := true, laidKinds := [.data, .data, .data], laidTests := true, laidLooks := .later }
def HostNamesUptoCardSaid : Prop := Claim7.holds Tryd.pinned (.plain (OpenSpec.upto hostNamesSpec)) hostNamesUptoCard

/-- THE SECOND FORM's CARD OF 'cracknellaw03.HostReads'. -/
def hostReadsUptoCard : Claim7 := { stood := { row := hostReadsUptoRow, standIns := [], harness := (true, "bed26c23ca10296937a148e6751ef2b441bafc245746eb6e3a73fb707bea6ddd"), looks := false }, kinds := [], alts := [], laidByText := true, laidKinds := [.data, .data, .data], laidTests := true, laidLooks := .later }
def HostReadsUptoCardSaid : Prop := Claim7.holds Tryd.pinned (.plain (OpenSpec.upto hostReadsSpec)) hostReadsUptoCard

/-- THE SECOND FORM's CARD OF 'cracknellaw03.HostUnder'. -/
def hostUnderUptoCard : Claim7 := { stood := { row := hostUnderUptoRow, standIns := [], harness := (true, "bed26c23ca10296937a148e6751ef2b441bafc245746eb6e3a73fb707bea6ddd"), looks := false }, kinds := [], alts := [], laidByText := true, laidKinds := [.data, .data, .data], laidTests := true, laidLooks := .later }
def HostUnderUptoCardSaid : Prop := Claim7.holds Tryd.pinned (.plain (OpenSpec.upto hostUnderSpec)) hostUnderUptoCard

/-- THE SECOND FORM's CARD OF 'cracknellaw03.HostOrders'. -/
def hostOrdersUptoCard : Claim7 := { stood := { row := hostOrdersUptoRow, standIns := [], harness := (true, "bed26c23ca10296937a148e6751ef2b441bafc245746eb6e3a73fb707bea6ddd"), looks := false }, kinds := [], alts := [], laidByText := true, laidKinds := [.data, .data, .data], laidTests := true, laidLooks := .later }
def HostOrdersUptoCardSaid : Prop := Claim7.holds Tryd.pinned (.plain (OpenSpec.upto hostOrdersSpec)) hostOrdersUptoCard
end Rows
end Go.Proofs.YtkgcblhhindiaaaDoor
