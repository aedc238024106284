/-
  No cell of these rows narrows 'for every input' (looked for: loops, veiled, ifaces, maps, wideKeys, modest, calm, conditions, laid).
  DERIVED. THE GIVEN ROWS OF THIS SEAT. 4 by the template 'for every input the law returns true; each argument reads behind the call as it read before'; 0 by the template 'total and deterministic' (their statements: YtcookddgaomkiaaTotals.lean).
  GIVEN WITH THE SEED: the statements are not yours to turn. If you find one false, say at which input.
  Laid BY PROGRAM, IN A SANDBOX (cutbox-rows.mjs): the forced cells as the released guide's own fill.sh prints them over the translation 79fba2fef74ec712… (all of the seat's roots in one cut). By AI agents, Wed Nov 11 2026. No macro, syntax, notation, axiom, sorry.
-/
import Derived.Test.YtcookddgaomkiaaChecked
import GoSem.Claim
import GoSem.ClaimJoined
import GoSem.ClaimMapViews
import Derived.JoinedTies
import Derived.KernelRfl
namespace Go.Proofs.Ytcookddgaomkiaa
/- THE CELL 'sum', in the pinned program and in every row, IS THE sha256 OF THE DUMP (.gsa) THAT YtcookddgaomkiaaProg.lean LOADS. Nothing in Lean hashes anything: it is a label: what it is worth is what the hold of that sum in a sandbox is worth. -/
noncomputable def Try.pinned : Pinned := { name := "ytcookddgaomkiaa", sum := "79fba2fef74ec712e4f93800fe99facefb72705e0e8779816590021b42d09188", checked := Try.checked }
namespace Rows
def none {H : Type} : Left H := { results := [], args := [] }

/-- 'cracknellaw04.UrlNames': WHATEVER THE INPUT: true; the input reads as it did. -/
def urlNamesSpec : ChangeSpec := { name := "urlNames", fn := fun _ => fun
  | [] => { results := [.lit (.bool true)], args := [] }
  | _ => none }
def urlNamesRow : OpenClaim := { program := "ytcookddgaomkiaa", sum := "79fba2fef74ec712e4f93800fe99facefb72705e0e8779816590021b42d09188", func := "cracknel/cracknellaw04.UrlNames", spec := "urlNames", inPlace := ["internal/bytealg.IndexByteString", "internal/bytealg.IndexString"], unfollowed := true, recurses := true, named := ["internal/bytealg.MaxLen"], apart := false }
def UrlNamesSaid : Prop := urlNamesRow.holds Try.pinned (OpenSpec.ofChange urlNamesSpec)

/-- ITS FALSE NEIGHBOUR: 'it returns false'. Refute it at one input. -/
def urlNamesWrong : ChangeSpec := { name := "urlNames", fn := fun _ => fun
  | [] => { results := [.lit (.bool false)], args := [] }
  | _ => none }
def UrlNamesWrongFalsely : Prop := urlNamesRow.holds Try.pinned (OpenSpec.ofChange urlNamesWrong)

/-- 'cracknellaw04.UrlReads': WHATEVER THE INPUT: true; the input reads as it did. -/
def urlReadsSpec : ChangeSpec := { name := "urlReads", fn := fun _ => fun
  | [d] => { results := [.lit (.bool true)], args := [d] }
  | _ => none }
def urlReadsRow : OpenClaim := { program := "ytcookddgaomkiaa", sum := "79fba2fef74ec712e4f93800fe99facefb72705e0e8779816590021b42d09188", func := "cracknel/cracknellaw04.UrlReads", spec := "urlReads", inPlace := ["internal/bytealg.IndexByteString", "internal/bytealg.IndexString"], unfollowed := true, recurses := true, named := ["internal/bytealg.MaxLen"], apart := false }
def UrlReadsSaid : Prop := urlReadsRow.holds Try.pinned (OpenSpec.ofChange urlReadsSpec)

/-- ITS FALSE NEIGHBOUR: 'it returns false'. Refute it at one input. -/
def urlReadsWrong : ChangeSpec := { name := "urlReads", fn := fun _ => fun
  | [d] => { results := [.lit (.bool false)], args := [d] }
  | _ => none }
def UrlReadsWrongFalsely : Prop := urlReadsRow.holds Try.pinned (OpenSpec.ofChange urlReadsWrong)

/-- 'cracknellaw04.UrlDrops': WHATEVER THE INPUT: true; the input reads as it did. -/
def urlDropsSpec : ChangeSpec := { name := "urlDrops", fn := fun _ => fun
  | [d1, d2] => { results := [.lit (.bool true)], args := [d1, d2] }
  | _ => none }
def urlDropsRow : OpenClaim := { program := "ytcookddgaomkiaa", sum := "79fba2fef74ec712e4f93800fe99facefb72705e0e8779816590021b42d09188", func := "cracknel/cracknellaw04.UrlDrops", spec := "urlDrops", inPlace := ["internal/bytealg.IndexByteString", "internal/bytealg.IndexString"], unfollowed := true, recurses := true, named := ["internal/bytealg.MaxLen"], apart := false }
def UrlDropsSaid : Prop := urlDropsRow.holds Try.pinned (OpenSpec.ofChange urlDropsSpec)

/-- ITS FALSE NEIGHBOUR: 'it returns false'. Refute it at one input. -/
def urlDropsWrong : ChangeSpec := { name := "urlDrops", fn := fun _ => fun
  | [d1, d2] => { results := [.lit (.bool false)], args := [d1, d2] }
  | _ => none }
def UrlDropsWrongFalsely : Prop := urlDropsRow.holds Try.pinned (OpenSpec.ofChange urlDropsWrong)

/-- 'cracknellaw04.UrlPaths': WHATEVER THE INPUT: true; the input reads as it did. -/
def urlPathsSpec : ChangeSpec := { name := "urlPaths", fn := fun _ => fun
  | [d] => { results := [.lit (.bool true)], args := [d] }
  | _ => none }
def urlPathsRow : OpenClaim := { program := "ytcookddgaomkiaa", sum := "79fba2fef74ec712e4f93800fe99facefb72705e0e8779816590021b42d09188", func := "cracknel/cracknellaw04.UrlPaths", spec := "urlPaths", inPlace := ["internal/bytealg.IndexByteString", "internal/bytealg.IndexString"], unfollowed := true, recurses := true, named := ["internal/bytealg.MaxLen"], apart := false }
def UrlPathsSaid : Prop := urlPathsRow.holds Try.pinned (OpenSpec.ofChange urlPathsSpec)

/-- ITS FALSE NEIGHBOUR: 'it returns false'. Refute it at one input. -/
def urlPathsWrong : ChangeSpec := { name := "urlPaths", fn := fun _ => fun
  | [d] => { results := [.lit (.bool false)], args := [d] }
  | _ => none }
def UrlPathsWrongFalsely : Prop := urlPathsRow.holds Try.pinned (OpenSpec.ofChange urlPathsWrong)

/- THE SECOND FORM. 'bulk': how many values and letters a reading holds, each counted each time it is reached (what is shared counts as often as it is met; a slice's spare places count too). A statement '..UptoSaid' is the law's where the arguments, and the package variables that the reading takes, are together of bulk at most 1048576: NARROWER than '..Said'. Prove '..Said' where nothing that the law and all that it calls make is longer than what came in: it says more and counts as full. Else prove '..UptoSaid'. A law counts once. -/
mutual
def uptoBulk {H : Type} : DataW H → Nat
  | .lit (.string bytes) => bytes.length + 1
  | .lit _ => 1
  | .nil => 1
  | .ptr d => uptoBulk d + 1
  | .slice elems spare => uptoBulkAll elems + uptoBulkAll spare + 1
  | .agg parts => uptoBulkAll parts + 1
  | .iface _ d => uptoBulk d + 1
  | .map entries => uptoBulkEntries entries + 1
  | .held _ => 1
def uptoBulkAll {H : Type} : List (DataW H) → Nat
  | [] => 0
  | d :: r => uptoBulk d + uptoBulkAll r
def uptoBulkEntries {H : Type} : List (Lit × DataW H) → Nat
  | [] => 0
  | x :: r => uptoBulkEntry x + uptoBulkEntries r
def uptoBulkEntry {H : Type} : Lit × DataW H → Nat
  | (.string bytes, d) => bytes.length + uptoBulk d + 1
  | (_, d) => uptoBulk d + 1
 end
def uptoSmall : (H : Type) → List (DataW H) → Bool := fun _ ds => decide (uptoBulkAll ds ≤ 1048576)
def OpenSpec.upto (s : _root_.Go.ChangeSpec) : _root_.Go.OpenSpec := { _root_.Go.OpenSpec.ofChange s with cond := some uptoSmall }

/-- 'cracknellaw04.UrlNames', WHERE WHAT IT READS IS OF BULK AT MOST 1048576: true; the input reads as it did. -/
def urlNamesUptoRow : OpenClaim := { program := "ytcookddgaomkiaa", sum := "79fba2fef74ec712e4f93800fe99facefb72705e0e8779816590021b42d09188", func := "cracknel/cracknellaw04.UrlNames", spec := "urlNames", inPlace := ["internal/bytealg.IndexByteString", "internal/bytealg.IndexString"], unfollowed := true, recurses := true, named := ["internal/bytealg.MaxLen"], apart := false, narrowed := true }
def UrlNamesUptoSaid : Prop := urlNamesUptoRow.holds Try.pinned (OpenSpec.upto urlNamesSpec)

/-- 'cracknellaw04.UrlReads', WHERE WHAT IT READS IS OF BULK AT MOST 1048576: true; the input reads as it did. -/
def urlReadsUptoRow : OpenClaim := { program := "ytcookddgaomkiaa", sum := "79fba2fef74ec712e4f93800fe99facefb72705e0e8779816590021b42d09188", func := "cracknel/cracknellaw04.UrlReads", spec := "urlReads", inPlace := ["internal/bytealg.IndexByteString", "internal/bytealg.IndexString"], unfollowed := true, recurses := true, named := ["internal/bytealg.MaxLen"], apart := false, narrowed := true }
def UrlReadsUptoSaid : Prop := urlReadsUptoRow.holds Try.pinned (OpenSpec.upto urlReadsSpec)

/-- 'cracknellaw04.UrlDrops', WHERE WHAT IT READS IS OF BULK AT MOST 1048576: true; the input reads as it did. -/
def urlDropsUptoRow : OpenClaim := { program := "ytcookddgaomkiaa", sum := "79fba2fef74ec712e4f93800fe99facefb72705e0e8779816590021b42d09188", func := "cracknel/cracknellaw04.UrlDrops", spec := "urlDrops", inPlace := ["internal/bytealg.IndexByteString", "internal/bytealg.IndexString"], unfollowed := true, recurses := true, named := ["internal/bytealg.MaxLen"], apart := false, narrowed := true }
def UrlDropsUptoSaid : Prop := urlDropsUptoRow.holds Try.pinned (OpenSpec.upto urlDropsSpec)

/-- 'cracknellaw04.UrlPaths', WHERE WHAT IT READS IS OF BULK AT MOST 1048576: true; the input reads as it did. -/
def urlPathsUptoRow : OpenClaim := { program := "ytcookddgaomkiaa", sum := "79fba2fef74ec712e4f93800fe99facefb72705e0e8779816590021b42d09188", func := "cracknel/cracknellaw04.UrlPaths", spec := "urlPaths", inPlace := ["internal/bytealg.IndexByteString", "internal/bytealg.IndexString"], unfollowed := true, recurses := true, named := ["internal/bytealg.MaxLen"], apart := false, narrowed := true }
def UrlPathsUptoSaid : Prop := urlPathsUptoRow.holds Try.pinned (OpenSpec.upto urlPathsSpec)

end Rows
end Go.Proofs.Ytcookddgaomkiaa
