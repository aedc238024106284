/-
  No cell of these rows narrows 'for every input' (looked for: loops, veiled, ifaces, maps, wideKeys, modest, calm, conditions, laid).
  DERIVED. THE GIVEN ROWS OF THIS SEAT. 6 by the template 'for every input the law returns true; each argument reads behind the call as it read before'; 0 by the template 'total and deterministic' (their statements: YtdidogcgoghdmaaTotals.lean).
  GIVEN WITH THE SEED: the statements are not yours to turn. If you find one false, say at which input.
  Laid BY PROGRAM, IN A SANDBOX (cutbox-rows.mjs): the forced cells as the released guide's own fill.sh prints them over the translation 41a22ee4e3c80789… (all of the seat's roots in one cut). By AI agents, Wed Nov 11 2026. No macro, syntax, notation, axiom, sorry.
-/
import Derived.Test.YtdidogcgoghdmaaChecked
import GoSem.Claim
import GoSem.ClaimJoined
import GoSem.ClaimMapViews
import Derived.JoinedTies
import Derived.KernelRfl
namespace Go.Proofs.Ytdidogcgoghdmaa
/- THE CELL 'sum', in the pinned program and in every row, IS THE sha256 OF THE DUMP (.gsa) THAT YtdidogcgoghdmaaProg.lean LOADS. Nothing in Lean hashes anything: it is a label: what it is worth is what the hold of that sum in a sandbox is worth. -/
noncomputable def Try.pinned : Pinned := { name := "ytdidogcgoghdmaa", sum := "41a22ee4e3c807891f09fd5a7cc367741458347847aa6fc2a2b7e98bd13d2028", checked := Try.checked }
namespace Rows
def none {H : Type} : Left H := { results := [], args := [] }

/-- 'cracknellaw15.DfaNames': WHATEVER THE INPUT: true; the input reads as it did. -/
def dfaNamesSpec : ChangeSpec := { name := "dfaNames", fn := fun _ => fun
  | [] => { results := [.lit (.bool true)], args := [] }
  | _ => none }
def dfaNamesRow : OpenClaim := { program := "ytdidogcgoghdmaa", sum := "41a22ee4e3c807891f09fd5a7cc367741458347847aa6fc2a2b7e98bd13d2028", func := "cracknel/cracknellaw15.DfaNames", spec := "dfaNames", unfollowed := true, recurses := true, plainKeys := false, apart := false }
def DfaNamesSaid : Prop := dfaNamesRow.holds Try.pinned (OpenSpec.ofChange dfaNamesSpec)

/-- ITS FALSE NEIGHBOUR: 'it returns false'. Refute it at one input. -/
def dfaNamesWrong : ChangeSpec := { name := "dfaNames", fn := fun _ => fun
  | [] => { results := [.lit (.bool false)], args := [] }
  | _ => none }
def DfaNamesWrongFalsely : Prop := dfaNamesRow.holds Try.pinned (OpenSpec.ofChange dfaNamesWrong)

/-- 'cracknellaw15.DfaTells': WHATEVER THE INPUT: true; the input reads as it did. -/
def dfaTellsSpec : ChangeSpec := { name := "dfaTells", fn := fun _ => fun
  | [d1, d2] => { results := [.lit (.bool true)], args := [d1, d2] }
  | _ => none }
def dfaTellsRow : OpenClaim := { program := "ytdidogcgoghdmaa", sum := "41a22ee4e3c807891f09fd5a7cc367741458347847aa6fc2a2b7e98bd13d2028", func := "cracknel/cracknellaw15.DfaTells", spec := "dfaTells", unfollowed := true, recurses := true, plainKeys := false, apart := false }
def DfaTellsSaid : Prop := dfaTellsRow.holds Try.pinned (OpenSpec.ofChange dfaTellsSpec)

/-- ITS FALSE NEIGHBOUR: 'it returns false'. Refute it at one input. -/
def dfaTellsWrong : ChangeSpec := { name := "dfaTells", fn := fun _ => fun
  | [d1, d2] => { results := [.lit (.bool false)], args := [d1, d2] }
  | _ => none }
def DfaTellsWrongFalsely : Prop := dfaTellsRow.holds Try.pinned (OpenSpec.ofChange dfaTellsWrong)

/-- 'cracknellaw15.DfaWords': WHATEVER THE INPUT: true; the input reads as it did. -/
def dfaWordsSpec : ChangeSpec := { name := "dfaWords", fn := fun _ => fun
  | [d1, d2, d3] => { results := [.lit (.bool true)], args := [d1, d2, d3] }
  | _ => none }
def dfaWordsRow : OpenClaim := { program := "ytdidogcgoghdmaa", sum := "41a22ee4e3c807891f09fd5a7cc367741458347847aa6fc2a2b7e98bd13d2028", func := "cracknel/cracknellaw15.DfaWords", spec := "dfaWords", unfollowed := true, recurses := true, plainKeys := false, apart := false }
def DfaWordsSaid : Prop := dfaWordsRow.holds Try.pinned (OpenSpec.ofChange dfaWordsSpec)

/-- ITS FALSE NEIGHBOUR: 'it returns false'. Refute it at one input. -/
def dfaWordsWrong : ChangeSpec := { name := "dfaWords", fn := fun _ => fun
  | [d1, d2, d3] => { results := [.lit (.bool false)], args := [d1, d2, d3] }
  | _ => none }
def DfaWordsWrongFalsely : Prop := dfaWordsRow.holds Try.pinned (OpenSpec.ofChange dfaWordsWrong)

/-- 'cracknellaw15.DfaBoth': WHATEVER THE INPUT: true; the input reads as it did. -/
def dfaBothSpec : ChangeSpec := { name := "dfaBoth", fn := fun _ => fun
  | [d1, d2] => { results := [.lit (.bool true)], args := [d1, d2] }
  | _ => none }
def dfaBothRow : OpenClaim := { program := "ytdidogcgoghdmaa", sum := "41a22ee4e3c807891f09fd5a7cc367741458347847aa6fc2a2b7e98bd13d2028", func := "cracknel/cracknellaw15.DfaBoth", spec := "dfaBoth", unfollowed := true, recurses := true, plainKeys := false, apart := false }
def DfaBothSaid : Prop := dfaBothRow.holds Try.pinned (OpenSpec.ofChange dfaBothSpec)

/-- ITS FALSE NEIGHBOUR: 'it returns false'. Refute it at one input. -/
def dfaBothWrong : ChangeSpec := { name := "dfaBoth", fn := fun _ => fun
  | [d1, d2] => { results := [.lit (.bool false)], args := [d1, d2] }
  | _ => none }
def DfaBothWrongFalsely : Prop := dfaBothRow.holds Try.pinned (OpenSpec.ofChange dfaBothWrong)

/-- 'cracknellaw15.DfaNot': WHATEVER THE INPUT: true; the input reads as it did. -/
def dfaNotSpec : ChangeSpec := { name := "dfaNot", fn := fun _ => fun
  | [d1, d2] => { results := [.lit (.bool true)], args := [d1, d2] }
  | _ => none }
def dfaNotRow : OpenClaim := { program := "ytdidogcgoghdmaa", sum := "41a22ee4e3c807891f09fd5a7cc367741458347847aa6fc2a2b7e98bd13d2028", func := "cracknel/cracknellaw15.DfaNot", spec := "dfaNot", unfollowed := true, recurses := true, plainKeys := false, apart := false }
def DfaNotSaid : Prop := dfaNotRow.holds Try.pinned (OpenSpec.ofChange dfaNotSpec)

/-- ITS FALSE NEIGHBOUR: 'it returns false'. Refute it at one input. -/
def dfaNotWrong : ChangeSpec := { name := "dfaNot", fn := fun _ => fun
  | [d1, d2] => { results := [.lit (.bool false)], args := [d1, d2] }
  | _ => none }
def DfaNotWrongFalsely : Prop := dfaNotRow.holds Try.pinned (OpenSpec.ofChange dfaNotWrong)

/-- 'cracknellaw15.DfaLaws': WHATEVER THE INPUT: true; the input reads as it did. -/
def dfaLawsSpec : ChangeSpec := { name := "dfaLaws", fn := fun _ => fun
  | [d1, d2, d3] => { results := [.lit (.bool true)], args := [d1, d2, d3] }
  | _ => none }
def dfaLawsRow : OpenClaim := { program := "ytdidogcgoghdmaa", sum := "41a22ee4e3c807891f09fd5a7cc367741458347847aa6fc2a2b7e98bd13d2028", func := "cracknel/cracknellaw15.DfaLaws", spec := "dfaLaws", unfollowed := true, recurses := true, plainKeys := false, apart := false }
def DfaLawsSaid : Prop := dfaLawsRow.holds Try.pinned (OpenSpec.ofChange dfaLawsSpec)

/-- ITS FALSE NEIGHBOUR: 'it returns false'. Refute it at one input. -/
def dfaLawsWrong : ChangeSpec := { name := "dfaLaws", fn := fun _ => fun
  | [d1, d2, d3] => { results := [.lit (.bool false)], args := [d1, d2, d3] }
  | _ => none }
def DfaLawsWrongFalsely : Prop := dfaLawsRow.holds Try.pinned (OpenSpec.ofChange dfaLawsWrong)

/- THE SECOND FORM. 'bulk': how many values and letters a reading holds, each counted each time it is reached (what is shared counts as often as it is met; a slice's spare places count too). A statement '..UptoSaid' is the law's where the arguments, and the package variables that the reading takes, are together of bulk at most 1048576: NARROWER than '..Said'. Prove '..Said' where nothing that the law and all that it calls make is longer than what came in: it says more and counts as full. Else prove '..UptoSaid'. A law counts once. -/
mutual
def uptoBulk {H : Type} : DataW H → Nat
  | .lit (.string bytes) => bytes.length + 1
  | .lit _ => 1
  | .nil => 1
  | .ptr d => uptoBulk d + 1
  | .slice elems spare => uptoBulkAll elems + uptoBulkAll spare + 1
  | .agg parts => uptoBulkAll parts + 1
  | .iface _ d => uptoBulk d + 1
  | .map entries => uptoBulkEntries entries + 1
  | .held _ => 1
def uptoBulkAll {H : Type} : List (DataW H) → Nat
  | [] => 0
  | d :: r => uptoBulk d + uptoBulkAll r
def uptoBulkEntries {H : Type} : List (Lit × DataW H) → Nat
  | [] => 0
  | x :: r => uptoBulkEntry x + uptoBulkEntries r
def uptoBulkEntry {H : Type} : Lit × DataW H → Nat
  | (.string bytes, d) => bytes.length + uptoBulk d + 1
  | (_, d) => uptoBulk d + 1
 end
def uptoSmall : (H : Type) → List (DataW H) → Bool := fun _ ds => decide (uptoBulkAll ds ≤ 1048576)
def OpenSpec.upto (s : _root_.Go.ChangeSpec) : _root_.Go.OpenSpec := { _root_.Go.OpenSpec.ofChange s with cond := some uptoSmall }

/-- 'cracknellaw15.DfaNames', WHERE WHAT IT READS IS OF BULK AT MOST 1048576: true; the input reads as it did. -/
def dfaNamesUptoRow : OpenClaim := { program := "ytdidogcgoghdmaa", sum := "41a22ee4e3c807891f09fd5a7cc367741458347847aa6fc2a2b7e98bd13d2028", func := "cracknel/cracknellaw15.DfaNames", spec := "dfaNames", unfollowed := true, recurses := true, plainKeys := false, apart := false, narrowed := true }
def DfaNamesUptoSaid : Prop := dfaNamesUptoRow.holds Try.pinned (OpenSpec.upto dfaNamesSpec)

/-- 'cracknellaw15.DfaTells', WHERE WHAT IT READS IS OF BULK AT MOST 1048576: true; the input reads as it did. -/
def dfaTellsUptoRow : OpenClaim := { program := "ytdidogcgoghdmaa", sum := "41a22ee4e3c807891f09fd5a7cc367741458347847aa6fc2a2b7e98bd13d2028", func := "cracknel/cracknellaw15.DfaTells", spec := "dfaTells", unfollowed := true, recurses := true, plainKeys := false, apart := false, narrowed := true }
def DfaTellsUptoSaid : Prop := dfaTellsUptoRow.holds Try.pinned (OpenSpec.upto dfaTellsSpec)

/-- 'cracknellaw15.DfaWords', WHERE WHAT IT READS IS OF BULK AT MOST 1048576: true; the input reads as it did. -/
def dfaWordsUptoRow : OpenClaim := { program := "ytdidogcgoghdmaa", sum := "41a22ee4e3c807891f09fd5a7cc367741458347847aa6fc2a2b7e98bd13d2028", func := "cracknel/cracknellaw15.DfaWords", spec := "dfaWords", unfollowed := true, recurses := true, plainKeys := false, apart := false, narrowed := true }
def DfaWordsUptoSaid : Prop := dfaWordsUptoRow.holds Try.pinned (OpenSpec.upto dfaWordsSpec)

/-- 'cracknellaw15.DfaBoth', WHERE WHAT IT READS IS OF BULK AT MOST 1048576: true; the input reads as it did. -/
def dfaBothUptoRow : OpenClaim := { program := "ytdidogcgoghdmaa", sum := "41a22ee4e3c807891f09fd5a7cc367741458347847aa6fc2a2b7e98bd13d2028", func := "cracknel/cracknellaw15.DfaBoth", spec := "dfaBoth", unfollowed := true, recurses := true, plainKeys := false, apart := false, narrowed := true }
def DfaBothUptoSaid : Prop := dfaBothUptoRow.holds Try.pinned (OpenSpec.upto dfaBothSpec)

/-- 'cracknellaw15.DfaNot', WHERE WHAT IT READS IS OF BULK AT MOST 1048576: true; the input reads as it did. -/
def dfaNotUptoRow : OpenClaim := { program := "ytdidogcgoghdmaa", sum := "41a22ee4e3c807891f09fd5a7cc367741458347847aa6fc2a2b7e98bd13d2028", func := "cracknel/cracknellaw15.DfaNot", spec := "dfaNot", unfollowed := true, recurses := true, plainKeys := false, apart := false, narrowed := true }
def DfaNotUptoSaid : Prop := dfaNotUptoRow.holds Try.pinned (OpenSpec.upto dfaNotSpec)

/-- 'cracknellaw15.DfaLaws', WHERE WHAT IT READS IS OF BULK AT MOST 1048576: true; the input reads as it did. -/
def dfaLawsUptoRow : OpenClaim := { program := "ytdidogcgoghdmaa", sum := "41a22ee4e3c807891f09fd5a7cc367741458347847aa6fc2a2b7e98bd13d2028", func := "cracknel/cracknellaw15.DfaLaws", spec := "dfaLaws", unfollowed := true, recurses := true, plainKeys := false, apart := false, narrowed := true }
def DfaLawsUptoSaid : Prop := dfaLawsUptoRow.holds Try.pinned (OpenSpec.upto dfaLawsSpec)

end Rows
end Go.Proofs.Ytdidogcgoghdmaa
