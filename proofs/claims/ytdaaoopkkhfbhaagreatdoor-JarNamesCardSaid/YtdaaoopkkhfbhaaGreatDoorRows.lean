/-
  NARROWER THAN 'FOR EVERY INPUT', by the rows' own cells (each row's printed sentence says how): JarNames: laid · JarRuns: laid · JarFull: laid · JarSafe: laid · JarSends: laid · JarEnds: laid.
  DERIVED. THE GIVEN ROWS OF THIS SEAT. 6 by the template 'for every input the law returns true; each argument reads behind the call as it read before'; 0 by the template 'total and deterministic' (their statements: YtdaaoopkkhfbhaaGreatDoorTotals.lean).
  GIVEN WITH THE SEED: the statements are not yours to turn. If you find one false, say at which input.
  Laid BY PROGRAM, IN A SANDBOX (cutbox-rows.mjs): the forced cells as the released guide's own fill.sh prints them over the translation 854e466a0c89d1ca… (all of the seat's roots in one cut). By AI agents, Wed Nov 11 2026. No macro, syntax, notation, axiom, sorry.
-/
import Derived.Test.YtdaaoopkkhfbhaaGreatDoorChecked
import GoSem.PinnedTables
import GoSem.Claim
import GoSem.ClaimJoined
import GoSem.ClaimMapViews
import Derived.JoinedTies
import Derived.KernelRfl
namespace Go.Proofs.YtdaaoopkkhfbhaaGreatDoor
/- THE CELL 'sum', in the pinned program and in every row, IS THE sha256 OF THE DUMP (.gsa) THAT YtdaaoopkkhfbhaaGreatDoorProg.lean LOADS. Nothing in Lean hashes anything: it is a label: what it is worth is what the hold of that sum in a sandbox is worth. -/
noncomputable def Tryz.pinned : Pinned := { name := "ytdaaoopkkhfbhaagreatdoor", sum := "854e466a0c89d1ca7d634fdca7362b5c79b3766b1ee54933f6160a44d6691ca3", checked := Tryz.checked }
namespace Rows
def none {H : Type} : Left H := { results := [], args := [] }

/- WHAT THE LISTED PACKAGE-LEVEL VARIABLES READ AS WHEN THE CALL BEGINS. Each datum BY PROGRAM (the guide's laid-datum.mjs) off the statement by which the dump's own 'gosem.cut.vars' lays the variable. In a bare row this is a premise. The card (YtdaaoopkkhfbhaaGreatDoorCards.lean) ties it to the program's text. -/
def laid_math_bits_deBruijn32tab {H : Type} : DataW H := .agg [.lit (.int .u8 0), .lit (.int .u8 1), .lit (.int .u8 28), .lit (.int .u8 2), .lit (.int .u8 29), .lit (.int .u8 14), .lit (.int .u8 24), .lit (.int .u8 3), .lit (.int .u8 30), .lit (.int .u8 22), .lit (.int .u8 20), .lit (.int .u8 15), .lit (.int .u8 25), .lit (.int .u8 17), .lit (.int .u8 4), .lit (.int .u8 8), .lit (.int .u8 31), .lit (.int .u8 27), .lit (.int .u8 13), .lit (.int .u8 23), .lit (.int .u8 21), .lit (.int .u8 19), .lit (.int .u8 16), .lit (.int .u8 7), .lit (.int .u8 26), .lit (.int .u8 12), .lit (.int .u8 18), .lit (.int .u8 6), .lit (.int .u8 11), .lit (.int .u8 5), .lit (.int .u8 10), .lit (.int .u8 9)]
def laid_math_bits_deBruijn64tab {H : Type} : DataW H := .agg [.lit (.int .u8 0), .lit (.int .u8 1), .lit (.int .u8 56), .lit (.int .u8 2), .lit (.int .u8 57), .lit (.int .u8 49), .lit (.int .u8 28), .lit (.int .u8 3), .lit (.int .u8 61), .lit (.int .u8 58), .lit (.int .u8 42), .lit (.int .u8 50), .lit (.int .u8 38), .lit (.int .u8 29), .lit (.int .u8 17), .lit (.int .u8 4), .lit (.int .u8 62), .lit (.int .u8 47), .lit (.int .u8 59), .lit (.int .u8 36), .lit (.int .u8 45), .lit (.int .u8 43), .lit (.int .u8 51), .lit (.int .u8 22), .lit (.int .u8 53), .lit (.int .u8 39), .lit (.int .u8 33), .lit (.int .u8 30), .lit (.int .u8 24), .lit (.int .u8 18), .lit (.int .u8 12), .lit (.int .u8 5), .lit (.int .u8 63), .lit (.int .u8 55), .lit (.int .u8 48), .lit (.int .u8 27), .lit (.int .u8 60), .lit (.int .u8 41), .lit (.int .u8 37), .lit (.int .u8 16), .lit (.int .u8 46), .lit (.int .u8 35), .lit (.int .u8 44), .lit (.int .u8 21), .lit (.int .u8 52), .lit (.int .u8 32), .lit (.int .u8 23), .lit (.int .u8 11), .lit (.int .u8 54), .lit (.int .u8 26), .lit (.int .u8 40), .lit (.int .u8 15), .lit (.int .u8 34), .lit (.int .u8 20), .lit (.int .u8 31), .lit (.int .u8 10), .lit (.int .u8 25), .lit (.int .u8 14), .lit (.int .u8 19), .lit (.int .u8 9), .lit (.int .u8 13), .lit (.int .u8 8), .lit (.int .u8 7), .lit (.int .u8 6)]
def laid_internal_strconv_uint64pow10 {H : Type} : DataW H := .agg [.lit (.int .u64 1), .lit (.int .u64 10), .lit (.int .u64 100), .lit (.int .u64 1000), .lit (.int .u64 10000), .lit (.int .u64 100000), .lit (.int .u64 1000000), .lit (.int .u64 10000000), .lit (.int .u64 100000000), .lit (.int .u64 1000000000), .lit (.int .u64 10000000000), .lit (.int .u64 100000000000), .lit (.int .u64 1000000000000), .lit (.int .u64 10000000000000), .lit (.int .u64 100000000000000), .lit (.int .u64 1000000000000000), .lit (.int .u64 10000000000000000), .lit (.int .u64 100000000000000000), .lit (.int .u64 1000000000000000000), .lit (.int .u64 10000000000000000000)]
def laid_unicode_utf8_acceptRanges {H : Type} : DataW H := .agg [.agg [.lit (.int .u8 128), .lit (.int .u8 191)], .agg [.lit (.int .u8 160), .lit (.int .u8 191)], .agg [.lit (.int .u8 128), .lit (.int .u8 159)], .agg [.lit (.int .u8 144), .lit (.int .u8 191)], .agg [.lit (.int .u8 128), .lit (.int .u8 143)], .agg [.lit (.int .u8 0), .lit (.int .u8 0)], .agg [.lit (.int .u8 0), .lit (.int .u8 0)], .agg [.lit (.int .u8 0), .lit (.int .u8 0)], .agg [.lit (.int .u8 0), .lit (.int .u8 0)], .agg [.lit (.int .u8 0), .lit (.int .u8 0)], .agg [.lit (.int .u8 0), .lit (.int .u8 0)], .agg [.lit (.int .u8 0), .lit (.int .u8 0)], .agg [.lit (.int .u8 0), .lit (.int .u8 0)], .agg [.lit (.int .u8 0), .lit (.int .u8 0)], .agg [.lit (.int .u8 0), .lit (.int .u8 0)], .agg [.lit (.int .u8 0), .lit (.int .u8 0)]]
def laid_cracknel_date_monthLengths {H : Type} : DataW H := .agg [.lit (.int .i64 31), .lit (.int .i64 28), .lit (.int .i64 31), .lit (.int .i64 30), .lit (.int .i64 31), .lit (.int .i64 30), .lit (.int .i64 31), .lit (.int .i64 31), .lit (.int .i64 30), .lit (.int .i64 31), .lit (.int .i64 30), .lit (.int .i64 31)]
def laid_cracknel_date_monthNames {H : Type} : DataW H := .agg [.lit (.string [74, 97, 110]), .lit (.string [70, 101, 98]), .lit (.string [77, 97, 114]), .lit (.string [65, 112, 114]), .lit (.string [77, 97, 121]), .lit (.string [74, 117, 110]), .lit (.string [74, 117, 108]), .lit (.string [65, 117, 103]), .lit (.string [83, 101, 112]), .lit (.string [79, 99, 116]), .lit (.string [78, 111, 118]), .lit (.string [68, 101, 99])]
def laid_cracknel_date_weekDays {H : Type} : DataW H := .agg [.lit (.string [77, 111, 110]), .lit (.string [84, 117, 101]), .lit (.string [87, 101, 100]), .lit (.string [84, 104, 117]), .lit (.string [70, 114, 105]), .lit (.string [83, 97, 116]), .lit (.string [83, 117, 110])]
def laid_cracknel_header_sameNames {H : Type} : DataW H := .agg [.lit (.string []), .lit (.string [78, 111, 110, 101]), .lit (.string [76, 97, 120]), .lit (.string [83, 116, 114, 105, 99, 116])]
/-- One of Go's own tables, pinned by name: the form's constant. -/
def laid_unicode_utf8_first : DataW Unit := Go.Pinned.utf8First

/-- 'cracknellaw12.JarNames': WHATEVER THE INPUT: true; the input reads as it did. -/
def jarNamesSpec : ChangeSpec := { name := "jarNames", fn := fun _ => fun
  | [] => { results := [.lit (.bool true)], args := [] }
  | _ => none }
def jarNamesRow : OpenClaim := { program := "ytdaaoopkkhfbhaagreatdoor", sum := "854e466a0c89d1ca7d634fdca7362b5c79b3766b1ee54933f6160a44d6691ca3", func := "cracknel/cracknellaw12.JarNames", spec := "jarNames", inPlace := ["internal/bytealg.IndexByteString", "internal/bytealg.IndexString", "internal/abi.NoEscape", "internal/bytealg.MakeNoZero"], unfollowed := true, recurses := true, named := ["internal/bytealg.MaxLen", "internal/strconv.uint64pow10", "math/bits.deBruijn32tab", "math/bits.deBruijn64tab", "unicode/utf8.first", "unicode/utf8.acceptRanges", "cracknel/date.monthNames", "cracknel/date.monthLengths", "cracknel/header.sameNames", "cracknel/date.weekDays"], plainKeys := false, apart := false, laid := [("math/bits.deBruijn32tab", laid_math_bits_deBruijn32tab), ("math/bits.deBruijn64tab", laid_math_bits_deBruijn64tab), ("internal/strconv.uint64pow10", laid_internal_strconv_uint64pow10), ("unicode/utf8.acceptRanges", laid_unicode_utf8_acceptRanges), ("cracknel/date.monthLengths", laid_cracknel_date_monthLengths), ("cracknel/date.monthNames", laid_cracknel_date_monthNames), ("cracknel/date.weekDays", laid_cracknel_date_weekDays), ("cracknel/header.sameNames", laid_cracknel_header_sameNames), ("unicode/utf8.first", laid_unicode_utf8_first)] }
def JarNamesSaid : Prop := jarNamesRow.holds Tryz.pinned (OpenSpec.ofChange jarNamesSpec)

/-- ITS FALSE NEIGHBOUR: 'it returns false'. Refute it at one input. -/
def jarNamesWrong : ChangeSpec := { name := "jarNames", fn := fun _ => fun
  | [] => { results := [.lit (.bool false)], args := [] }
  | _ => none }
def JarNamesWrongFalsely : Prop := jarNamesRow.holds Tryz.pinned (OpenSpec.ofChange jarNamesWrong)

/-- 'cracknellaw12.JarRuns': WHATEVER THE INPUT: true; the input reads as it did. -/
def jarRunsSpec : ChangeSpec := { name := "jarRuns", fn := fun _ => fun
  | [d1, d2] => { results := [.lit (.bool true)], args := [d1, d2] }
  | _ => none }
def jarRunsRow : OpenClaim := { program := "ytdaaoopkkhfbhaagreatdoor", sum := "854e466a0c89d1ca7d634fdca7362b5c79b3766b1ee54933f6160a44d6691ca3", func := "cracknel/cracknellaw12.JarRuns", spec := "jarRuns", inPlace := ["internal/bytealg.IndexByteString", "internal/bytealg.IndexString", "internal/abi.NoEscape", "internal/bytealg.MakeNoZero"], unfollowed := true, recurses := true, named := ["internal/bytealg.MaxLen", "internal/strconv.uint64pow10", "math/bits.deBruijn32tab", "math/bits.deBruijn64tab", "unicode/utf8.first", "unicode/utf8.acceptRanges", "cracknel/date.monthNames", "cracknel/date.monthLengths", "cracknel/header.sameNames", "cracknel/date.weekDays"], plainKeys := false, apart := false, laid := [("math/bits.deBruijn32tab", laid_math_bits_deBruijn32tab), ("math/bits.deBruijn64tab", laid_math_bits_deBruijn64tab), ("internal/strconv.uint64pow10", laid_internal_strconv_uint64pow10), ("unicode/utf8.acceptRanges", laid_unicode_utf8_acceptRanges), ("cracknel/date.monthLengths", laid_cracknel_date_monthLengths), ("cracknel/date.monthNames", laid_cracknel_date_monthNames), ("cracknel/date.weekDays", laid_cracknel_date_weekDays), ("cracknel/header.sameNames", laid_cracknel_header_sameNames), ("unicode/utf8.first", laid_unicode_utf8_first)] }
def JarRunsSaid : Prop := jarRunsRow.holds Tryz.pinned (OpenSpec.ofChange jarRunsSpec)

/-- ITS FALSE NEIGHBOUR: 'it returns false'. Refute it at one input. -/
def jarRunsWrong : ChangeSpec := { name := "jarRuns", fn := fun _ => fun
  | [d1, d2] => { results := [.lit (.bool false)], args := [d1, d2] }
  | _ => none }
def JarRunsWrongFalsely : Prop := jarRunsRow.holds Tryz.pinned (OpenSpec.ofChange jarRunsWrong)

/-- 'cracknellaw12.JarFull': WHATEVER THE INPUT: true; the input reads as it did. -/
def jarFullSpec : ChangeSpec := { name := "jarFull", fn := fun _ => fun
  | [d1, d2] => { results := [.lit (.bool true)], args := [d1, d2] }
  | _ => none }
def jarFullRow : OpenClaim := { program := "ytdaaoopkkhfbhaagreatdoor", sum := "854e466a0c89d1ca7d634fdca7362b5c79b3766b1ee54933f6160a44d6691ca3", func := "cracknel/cracknellaw12.JarFull", spec := "jarFull", inPlace := ["internal/bytealg.IndexByteString", "internal/bytealg.IndexString", "internal/abi.NoEscape", "internal/bytealg.MakeNoZero"], unfollowed := true, recurses := true, named := ["internal/bytealg.MaxLen", "internal/strconv.uint64pow10", "math/bits.deBruijn32tab", "math/bits.deBruijn64tab", "unicode/utf8.first", "unicode/utf8.acceptRanges", "cracknel/date.monthNames", "cracknel/date.monthLengths", "cracknel/header.sameNames", "cracknel/date.weekDays"], plainKeys := false, apart := false, laid := [("math/bits.deBruijn32tab", laid_math_bits_deBruijn32tab), ("math/bits.deBruijn64tab", laid_math_bits_deBruijn64tab), ("internal/strconv.uint64pow10", laid_internal_strconv_uint64pow10), ("unicode/utf8.acceptRanges", laid_unicode_utf8_acceptRanges), ("cracknel/date.monthLengths", laid_cracknel_date_monthLengths), ("cracknel/date.monthNames", laid_cracknel_date_monthNames), ("cracknel/date.weekDays", laid_cracknel_date_weekDays), ("cracknel/header.sameNames", laid_cracknel_header_sameNames), ("unicode/utf8.first", laid_unicode_utf8_first)] }
def JarFullSaid : Prop := jarFullRow.holds Tryz.pinned (OpenSpec.ofChange jarFullSpec)

/-- ITS FALSE NEIGHBOUR: 'it returns false'. Refute it at one input. -/
def jarFullWrong : ChangeSpec := { name := "jarFull", fn := fun _ => fun
  | [d1, d2] => { results := [.lit (.bool false)], args := [d1, d2] }
  | _ => none }
def JarFullWrongFalsely : Prop := jarFullRow.holds Tryz.pinned (OpenSpec.ofChange jarFullWrong)

/-- 'cracknellaw12.JarSafe': WHATEVER THE INPUT: true; the input reads as it did. -/
def jarSafeSpec : ChangeSpec := { name := "jarSafe", fn := fun _ => fun
  | [d1, d2, d3] => { results := [.lit (.bool true)], args := [d1, d2, d3] }
  | _ => none }
def jarSafeRow : OpenClaim := { program := "ytdaaoopkkhfbhaagreatdoor", sum := "854e466a0c89d1ca7d634fdca7362b5c79b3766b1ee54933f6160a44d6691ca3", func := "cracknel/cracknellaw12.JarSafe", spec := "jarSafe", inPlace := ["internal/bytealg.IndexByteString", "internal/bytealg.IndexString", "internal/abi.NoEscape", "internal/bytealg.MakeNoZero"], unfollowed := true, recurses := true, named := ["internal/bytealg.MaxLen", "internal/strconv.uint64pow10", "math/bits.deBruijn32tab", "math/bits.deBruijn64tab", "unicode/utf8.first", "unicode/utf8.acceptRanges", "cracknel/date.monthNames", "cracknel/date.monthLengths", "cracknel/header.sameNames", "cracknel/date.weekDays"], plainKeys := false, apart := false, laid := [("math/bits.deBruijn32tab", laid_math_bits_deBruijn32tab), ("math/bits.deBruijn64tab", laid_math_bits_deBruijn64tab), ("internal/strconv.uint64pow10", laid_internal_strconv_uint64pow10), ("unicode/utf8.acceptRanges", laid_unicode_utf8_acceptRanges), ("cracknel/date.monthLengths", laid_cracknel_date_monthLengths), ("cracknel/date.monthNames", laid_cracknel_date_monthNames), ("cracknel/date.weekDays", laid_cracknel_date_weekDays), ("cracknel/header.sameNames", laid_cracknel_header_sameNames), ("unicode/utf8.first", laid_unicode_utf8_first)] }
def JarSafeSaid : Prop := jarSafeRow.holds Tryz.pinned (OpenSpec.ofChange jarSafeSpec)

/-- ITS FALSE NEIGHBOUR: 'it returns false'. Refute it at one input. -/
def jarSafeWrong : ChangeSpec := { name := "jarSafe", fn := fun _ => fun
  | [d1, d2, d3] => { results := [.lit (.bool false)], args := [d1, d2, d3] }
  | _ => none }
def JarSafeWrongFalsely : Prop := jarSafeRow.holds Tryz.pinned (OpenSpec.ofChange jarSafeWrong)

/-- 'cracknellaw12.JarSends': WHATEVER THE INPUT: true; the input reads as it did. -/
def jarSendsSpec : ChangeSpec := { name := "jarSends", fn := fun _ => fun
  | [d1, d2, d3] => { results := [.lit (.bool true)], args := [d1, d2, d3] }
  | _ => none }
def jarSendsRow : OpenClaim := { program := "ytdaaoopkkhfbhaagreatdoor", sum := "854e466a0c89d1ca7d634fdca7362b5c79b3766b1ee54933f6160a44d6691ca3", func := "cracknel/cracknellaw12.JarSends", spec := "jarSends", inPlace := ["internal/bytealg.IndexByteString", "internal/bytealg.IndexString", "internal/abi.NoEscape", "internal/bytealg.MakeNoZero"], unfollowed := true, recurses := true, named := ["internal/bytealg.MaxLen", "internal/strconv.uint64pow10", "math/bits.deBruijn32tab", "math/bits.deBruijn64tab", "unicode/utf8.first", "unicode/utf8.acceptRanges", "cracknel/date.monthNames", "cracknel/date.monthLengths", "cracknel/header.sameNames", "cracknel/date.weekDays"], plainKeys := false, apart := false, laid := [("math/bits.deBruijn32tab", laid_math_bits_deBruijn32tab), ("math/bits.deBruijn64tab", laid_math_bits_deBruijn64tab), ("internal/strconv.uint64pow10", laid_internal_strconv_uint64pow10), ("unicode/utf8.acceptRanges", laid_unicode_utf8_acceptRanges), ("cracknel/date.monthLengths", laid_cracknel_date_monthLengths), ("cracknel/date.monthNames", laid_cracknel_date_monthNames), ("cracknel/date.weekDays", laid_cracknel_date_weekDays), ("cracknel/header.sameNames", laid_cracknel_header_sameNames), ("unicode/utf8.first", laid_unicode_utf8_first)] }
def JarSendsSaid : Prop := jarSendsRow.holds Tryz.pinned (OpenSpec.ofChange jarSendsSpec)

/-- ITS FALSE NEIGHBOUR: 'it returns false'. Refute it at one input. -/
def jarSendsWrong : ChangeSpec := { name := "jarSends", fn := fun _ => fun
  | [d1, d2, d3] => { results := [.lit (.bool false)], args := [d1, d2, d3] }
  | _ => none }
def JarSendsWrongFalsely : Prop := jarSendsRow.holds Tryz.pinned (OpenSpec.ofChange jarSendsWrong)

/-- 'cracknellaw12.JarEnds': WHATEVER THE INPUT: true; the input reads as it did. -/
def jarEndsSpec : ChangeSpec := { name := "jarEnds", fn := fun _ => fun
  | [d1, d2] => { results := [.lit (.bool true)], args := [d1, d2] }
  | _ => none }
def jarEndsRow : OpenClaim := { program := "ytdaaoopkkhfbhaagreatdoor", sum := "854e466a0c89d1ca7d634fdca7362b5c79b3766b1ee54933f6160a44d6691ca3", func := "cracknel/cracknellaw12.JarEnds", spec := "jarEnds", inPlace := ["internal/bytealg.IndexByteString", "internal/bytealg.IndexString", "internal/abi.NoEscape", "internal/bytealg.MakeNoZero"], unfollowed := true, recurses := true, named := ["internal/bytealg.MaxLen", "internal/strconv.uint64pow10", "math/bits.deBruijn32tab", "math/bits.deBruijn64tab", "unicode/utf8.first", "unicode/utf8.acceptRanges", "cracknel/date.monthNames", "cracknel/date.monthLengths", "cracknel/header.sameNames", "cracknel/date.weekDays"], plainKeys := false, apart := false, laid := [("math/bits.deBruijn32tab", laid_math_bits_deBruijn32tab), ("math/bits.deBruijn64tab", laid_math_bits_deBruijn64tab), ("internal/strconv.uint64pow10", laid_internal_strconv_uint64pow10), ("unicode/utf8.acceptRanges", laid_unicode_utf8_acceptRanges), ("cracknel/date.monthLengths", laid_cracknel_date_monthLengths), ("cracknel/date.monthNames", laid_cracknel_date_monthNames), ("cracknel/date.weekDays", laid_cracknel_date_weekDays), ("cracknel/header.sameNames", laid_cracknel_header_sameNames), ("unicode/utf8.first", laid_unicode_utf8_first)] }
def JarEndsSaid : Prop := jarEndsRow.holds Tryz.pinned (OpenSpec.ofChange jarEndsSpec)

/-- ITS FALSE NEIGHBOUR: 'it returns false'. Refute it at one input. -/
def jarEndsWrong : ChangeSpec := { name := "jarEnds", fn := fun _ => fun
  | [d1, d2] => { results := [.lit (.bool false)], args := [d1, d2] }
  | _ => none }
def JarEndsWrongFalsely : Prop := jarEndsRow.holds Tryz.pinned (OpenSpec.ofChange jarEndsWrong)

/- THE SECOND FORM. 'bulk': how many values and letters a reading holds, each counted each time it is reached (what is shared counts as often as it is met; a slice's spare places count too). A statement '..UptoSaid' is the law's where the arguments, and the package variables that the reading takes, are together of bulk at most 1048576: NARROWER than '..Said'. Prove '..Said' where nothing that the law and all that it calls make is longer than what came in: it says more and counts as full. Else prove '..UptoSaid'. A law counts once. -/
mutual
def uptoBulk {H : Type} : DataW H → Nat
  | .lit (.string bytes) => bytes.length + 1
  | .lit _ => 1
  | .nil => 1
  | .ptr d => uptoBulk d + 1
  | .slice elems spare => uptoBulkAll elems + uptoBulkAll spare + 1
  | .agg parts => uptoBulkAll parts + 1
  | .iface _ d => uptoBulk d + 1
  | .map entries => uptoBulkEntries entries + 1
  | .held _ => 1
def uptoBulkAll {H : Type} : List (DataW H) → Nat
  | [] => 0
  | d :: r => uptoBulk d + uptoBulkAll r
def uptoBulkEntries {H : Type} : List (Lit × DataW H) → Nat
  | [] => 0
  | x :: r => uptoBulkEntry x + uptoBulkEntries r
def uptoBulkEntry {H : Type} : Lit × DataW H → Nat
  | (.string bytes, d) => bytes.length + uptoBulk d + 1
  | (_, d) => uptoBulk d + 1
 end
def uptoSmall : (H : Type) → List (DataW H) → Bool := fun _ ds => decide (uptoBulkAll ds ≤ 1048576)
def OpenSpec.upto (s : _root_.Go.ChangeSpec) : _root_.Go.OpenSpec := { _root_.Go.OpenSpec.ofChange s with cond := some uptoSmall }

/-- 'cracknellaw12.JarNames', WHERE WHAT IT READS IS OF BULK AT MOST 1048576: true; the input reads as it did. -/
def jarNamesUptoRow : OpenClaim := { program := "ytdaaoopkkhfbhaagreatdoor", sum := "854e466a0c89d1ca7d634fdca7362b5c79b3766b1ee54933f6160a44d6691ca3", func := "cracknel/cracknellaw12.JarNames", spec := "jarNames", inPlace := ["internal/bytealg.IndexByteString", "internal/bytealg.IndexString", "internal/abi.NoEscape", "internal/bytealg.MakeNoZero"], unfollowed := true, recurses := true, named := ["internal/bytealg.MaxLen", "internal/strconv.uint64pow10", "math/bits.deBruijn32tab", "math/bits.deBruijn64tab", "unicode/utf8.first", "unicode/utf8.acceptRanges", "cracknel/date.monthNames", "cracknel/date.monthLengths", "cracknel/header.sameNames", "cracknel/date.weekDays"], plainKeys := false, apart := false, laid := [("math/bits.deBruijn32tab", laid_math_bits_deBruijn32tab), ("math/bits.deBruijn64tab", laid_math_bits_deBruijn64tab), ("internal/strconv.uint64pow10", laid_internal_strconv_uint64pow10), ("unicode/utf8.acceptRanges", laid_unicode_utf8_acceptRanges), ("cracknel/date.monthLengths", laid_cracknel_date_monthLengths), ("cracknel/date.monthNames", laid_cracknel_date_monthNames), ("cracknel/date.weekDays", laid_cracknel_date_weekDays), ("cracknel/header.sameNames", laid_cracknel_header_sameNames), ("unicode/utf8.first", laid_unicode_utf8_first)], narrowed := true }
def JarNamesUptoSaid : Prop := jarNamesUptoRow.holds Tryz.pinned (OpenSpec.upto jarNamesSpec)

/-- 'cracknellaw12.JarRuns', WHERE WHAT IT READS IS OF BULK AT MOST 1048576: true; the input reads as it did. -/
def jarRunsUptoRow : OpenClaim := { program := "ytdaaoopkkhfbhaagreatdoor", sum := "854e466a0c89d1ca7d634fdca7362b5c79b3766b1ee54933f6160a44d6691ca3", func := "cracknel/cracknellaw12.JarRuns", spec := "jarRuns", inPlace := ["internal/bytealg.IndexByteString", "internal/bytealg.IndexString", "internal/abi.NoEscape", "internal/bytealg.MakeNoZero"], unfollowed := true, recurses := true, named := ["internal/bytealg.MaxLen", "internal/strconv.uint64pow10", "math/bits.deBruijn32tab", "math/bits.deBruijn64tab", "unicode/utf8.first", "unicode/utf8.acceptRanges", "cracknel/date.monthNames", "cracknel/date.monthLengths", "cracknel/header.sameNames", "cracknel/date.weekDays"], plainKeys := false, apart := false, laid := [("math/bits.deBruijn32tab", laid_math_bits_deBruijn32tab), ("math/bits.deBruijn64tab", laid_math_bits_deBruijn64tab), ("internal/strconv.uint64pow10", laid_internal_strconv_uint64pow10), ("unicode/utf8.acceptRanges", laid_unicode_utf8_acceptRanges), ("cracknel/date.monthLengths", laid_cracknel_date_monthLengths), ("cracknel/date.monthNames", laid_cracknel_date_monthNames), ("cracknel/date.weekDays", laid_cracknel_date_weekDays), ("cracknel/header.sameNames", laid_cracknel_header_sameNames), ("unicode/utf8.first", laid_unicode_utf8_first)], narrowed := true }
def JarRunsUptoSaid : Prop := jarRunsUptoRow.holds Tryz.pinned (OpenSpec.upto jarRunsSpec)

/-- 'cracknellaw12.JarFull', WHERE WHAT IT READS IS OF BULK AT MOST 1048576: true; the input reads as it did. -/
def jarFullUptoRow : OpenClaim := { program := "ytdaaoopkkhfbhaagreatdoor", sum := "854e466a0c89d1ca7d634fdca7362b5c79b3766b1ee54933f6160a44d6691ca3", func := "cracknel/cracknellaw12.JarFull", spec := "jarFull", inPlace := ["internal/bytealg.IndexByteString", "internal/bytealg.IndexString", "internal/abi.NoEscape", "internal/bytealg.MakeNoZero"], unfollowed := true, recurses := true, named := ["internal/bytealg.MaxLen", "internal/strconv.uint64pow10", "math/bits.deBruijn32tab", "math/bits.deBruijn64tab", "unicode/utf8.first", "unicode/utf8.acceptRanges", "cracknel/date.monthNames", "cracknel/date.monthLengths", "cracknel/header.sameNames", "cracknel/date.weekDays"], plainKeys := false, apart := false, laid := [("math/bits.deBruijn32tab", laid_math_bits_deBruijn32tab), ("math/bits.deBruijn64tab", laid_math_bits_deBruijn64tab), ("internal/strconv.uint64pow10", laid_internal_strconv_uint64pow10), ("unicode/utf8.acceptRanges", laid_unicode_utf8_acceptRanges), ("cracknel/date.monthLengths", laid_cracknel_date_monthLengths), ("cracknel/date.monthNames", laid_cracknel_date_monthNames), ("cracknel/date.weekDays", laid_cracknel_date_weekDays), ("cracknel/header.sameNames", laid_cracknel_header_sameNames), ("unicode/utf8.first", laid_unicode_utf8_first)], narrowed := true }
def JarFullUptoSaid : Prop := jarFullUptoRow.holds Tryz.pinned (OpenSpec.upto jarFullSpec)

/-- 'cracknellaw12.JarSafe', WHERE WHAT IT READS IS OF BULK AT MOST 1048576: true; the input reads as it did. -/
def jarSafeUptoRow : OpenClaim := { program := "ytdaaoopkkhfbhaagreatdoor", sum := "854e466a0c89d1ca7d634fdca7362b5c79b3766b1ee54933f6160a44d6691ca3", func := "cracknel/cracknellaw12.JarSafe", spec := "jarSafe", inPlace := ["internal/bytealg.IndexByteString", "internal/bytealg.IndexString", "internal/abi.NoEscape", "internal/bytealg.MakeNoZero"], unfollowed := true, recurses := true, named := ["internal/bytealg.MaxLen", "internal/strconv.uint64pow10", "math/bits.deBruijn32tab", "math/bits.deBruijn64tab", "unicode/utf8.first", "unicode/utf8.acceptRanges", "cracknel/date.monthNames", "cracknel/date.monthLengths", "cracknel/header.sameNames", "cracknel/date.weekDays"], plainKeys := false, apart := false, laid := [("math/bits.deBruijn32tab", laid_math_bits_deBruijn32tab), ("math/bits.deBruijn64tab", laid_math_bits_deBruijn64tab), ("internal/strconv.uint64pow10", laid_internal_strconv_uint64pow10), ("unicode/utf8.acceptRanges", laid_unicode_utf8_acceptRanges), ("cracknel/date.monthLengths", laid_cracknel_date_monthLengths), ("cracknel/date.monthNames", laid_cracknel_date_monthNames), ("cracknel/date.weekDays", laid_cracknel_date_weekDays), ("cracknel/header.sameNames", laid_cracknel_header_sameNames), ("unicode/utf8.first", laid_unicode_utf8_first)], narrowed := true }
def JarSafeUptoSaid : Prop := jarSafeUptoRow.holds Tryz.pinned (OpenSpec.upto jarSafeSpec)

/-- 'cracknellaw12.JarSends', WHERE WHAT IT READS IS OF BULK AT MOST 1048576: true; the input reads as it did. -/
def jarSendsUptoRow : OpenClaim := { program := "ytdaaoopkkhfbhaagreatdoor", sum := "854e466a0c89d1ca7d634fdca7362b5c79b3766b1ee54933f6160a44d6691ca3", func := "cracknel/cracknellaw12.JarSends", spec := "jarSends", inPlace := ["internal/bytealg.IndexByteString", "internal/bytealg.IndexString", "internal/abi.NoEscape", "internal/bytealg.MakeNoZero"], unfollowed := true, recurses := true, named := ["internal/bytealg.MaxLen", "internal/strconv.uint64pow10", "math/bits.deBruijn32tab", "math/bits.deBruijn64tab", "unicode/utf8.first", "unicode/utf8.acceptRanges", "cracknel/date.monthNames", "cracknel/date.monthLengths", "cracknel/header.sameNames", "cracknel/date.weekDays"], plainKeys := false, apart := false, laid := [("math/bits.deBruijn32tab", laid_math_bits_deBruijn32tab), ("math/bits.deBruijn64tab", laid_math_bits_deBruijn64tab), ("internal/strconv.uint64pow10", laid_internal_strconv_uint64pow10), ("unicode/utf8.acceptRanges", laid_unicode_utf8_acceptRanges), ("cracknel/date.monthLengths", laid_cracknel_date_monthLengths), ("cracknel/date.monthNames", laid_cracknel_date_monthNames), ("cracknel/date.weekDays", laid_cracknel_date_weekDays), ("cracknel/header.sameNames", laid_cracknel_header_sameNames), ("unicode/utf8.first", laid_unicode_utf8_first)], narrowed := true }
def JarSendsUptoSaid : Prop := jarSendsUptoRow.holds Tryz.pinned (OpenSpec.upto jarSendsSpec)

/-- 'cracknellaw12.JarEnds', WHERE WHAT IT READS IS OF BULK AT MOST 1048576: true; the input reads as it did. -/
def jarEndsUptoRow : OpenClaim := { program := "ytdaaoopkkhfbhaagreatdoor", sum := "854e466a0c89d1ca7d634fdca7362b5c79b3766b1ee54933f6160a44d6691ca3", func := "cracknel/cracknellaw12.JarEnds", spec := "jarEnds", inPlace := ["internal/bytealg.IndexByteString", "internal/bytealg.IndexString", "internal/abi.NoEscape", "internal/bytealg.MakeNoZero"], unfollowed := true, recurses := true, named := ["internal/bytealg.MaxLen", "internal/strconv.uint64pow10", "math/bits.deBruijn32tab", "math/bits.deBruijn64tab", "unicode/utf8.first", "unicode/utf8.acceptRanges", "cracknel/date.monthNames", "cracknel/date.monthLengths", "cracknel/header.sameNames", "cracknel/date.weekDays"], plainKeys := false, apart := false, laid := [("math/bits.deBruijn32tab", laid_math_bits_deBruijn32tab), ("math/bits.deBruijn64tab", laid_math_bits_deBruijn64tab), ("internal/strconv.uint64pow10", laid_internal_strconv_uint64pow10), ("unicode/utf8.acceptRanges", laid_unicode_utf8_acceptRanges), ("cracknel/date.monthLengths", laid_cracknel_date_monthLengths), ("cracknel/date.monthNames", laid_cracknel_date_monthNames), ("cracknel/date.weekDays", laid_cracknel_date_weekDays), ("cracknel/header.sameNames", laid_cracknel_header_sameNames), ("unicode/utf8.first", laid_unicode_utf8_first)], narrowed := true }
def JarEndsUptoSaid : Prop := jarEndsUptoRow.holds Tryz.pinned (OpenSpec.upto jarEndsSpec)

end Rows
end Go.Proofs.YtdaaoopkkhfbhaaGreatDoor
