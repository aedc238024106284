/- The contracts of functions of the library of Go that are wanted here, at the numbers of this translation (laid by the tools of the kit). -/
import Derived.Shelf.SlGeneric
import Derived.Shelf.Strings.Builder1
import Derived.Shelf.Strings.Builder2
import Derived.Shelf.Strings.OnBuilder
import Derived.Shelf.Strings.Trim
import Derived.Shelf.Small.Utf8
import Derived.Shelf.Small.Bits
import Derived.Shelf.Small.Strs
import Derived.Shelf.Small.Wraps
import Derived.Shelf.Strconv.Itoa0
import Derived.Shelf.Strconv.Itoa1
import Derived.Shelf.LaysM
import Derived.Shelf.Strconv.Itoa2
import Derived.Shelf.Strconv.Itoa3
import Derived.Shelf.Strconv.Itoa4
import Derived.Shelf.Strings.Search1
import Derived.Shelf.Strings.Search2
import Derived.Shelf.Strings.Cut
import Derived.Shelf.Strings.Shaped
import Derived.Shelf.Strings.LastIndex
import Derived.Shelf.Strings.Prefix
import Derived.Shelf.Strings.Runes
import Derived.Shelf.Strings.IndexAny
import Derived.Shelf.Strings.AsciiSet
import Derived.Shelf.Strings.IndexAnyAll
import Derived.Shelf.Unicode.DecodeSlow
import Derived.Ground.Names2Prog
import Derived.Shelf.Slices.SearchI
import Derived.Shelf.SlSortCmp.NoneTotal
import Derived.Ground.SlsfProg
import Derived.Test.YtdaaoopkkhfbhaaGreatDoorProg
import Derived.Test.YtdaaoopkkhfbhaaGreatDoorY1
import Derived.Lib.SmallJoins
import Derived.LaidMore
import Derived.Shelf.Vars
import Derived.Stop.LaidErr
import Derived.HandedShaped
import Derived.Lib.TrailingZeros
import Derived.Stop.Joined
import Derived.Lib.LaidTab
import Derived.Shelf.Strings.SlTrimAscii
import Derived.Lay
namespace Go.Proofs
open Go.Shelf
def Tryz.lays156_ren:Go.Shelf.Ren:=⟨fun|156=>40|165=>76|166=>77|169=>78|240=>133|241=>134|276=>189|277=>190|n=>n,fun|31=>93|9=>9|3=>3|4=>4|0=>0|20=>20|72=>149|76=>153|70=>147|37=>61|75=>152|127=>206|164=>231|5=>5|80=>155|n=>n,fun|n=>n⟩
theorem Tryz.lays156:Go.Proofs.Lays.n156 Tryz.prog Tryz.lays156_ren:= {
 mixed:=by kernel_rfl
 f156:=Tryz.func40.trans (congrArg some (by kernel_rfl))
 f165:=Tryz.func76.trans (congrArg some (by kernel_rfl))
 f166:=Tryz.func77.trans (congrArg some (by kernel_rfl))
 f169:=Tryz.func78.trans (congrArg some (by kernel_rfl))
 f240:=Tryz.func133.trans (congrArg some (by kernel_rfl))
 f241:=Tryz.func134.trans (congrArg some (by kernel_rfl))
 f276:=Tryz.func189.trans (congrArg some (by kernel_rfl))
 f277:=Tryz.func190.trans (congrArg some (by kernel_rfl))
 t0:=Tryz.underlying0
 a0:=Tryz.isAgg0
 z0:=Tryz.sizeOf0
 v0:=Tryz.zeroValue0
 t3:=Tryz.underlying3
 a3:=Tryz.isAgg3
 z3:=Tryz.sizeOf3
 v3:=Tryz.zeroValue3
 t4:=Tryz.underlying4
 a4:=Tryz.isAgg4
 z4:=Tryz.sizeOf4
 v4:=Tryz.zeroValue4
 t9:=Tryz.underlying9
 a9:=Tryz.isAgg9
 z9:=Tryz.sizeOf9
 v9:=Tryz.zeroValue9
 t20:=Tryz.underlying20
 a20:=Tryz.isAgg20
 z20:=Tryz.sizeOf20
 v20:=Tryz.zeroValue20
 t31:=Tryz.underlying93
 a31:=Tryz.isAgg93
 z31:=Tryz.sizeOf93
 v31:=Tryz.zeroValue93
 t37:=Tryz.underlying61
 a37:=Tryz.isAgg61
 z37:=Tryz.sizeOf61
 v37:=Tryz.zeroValue61
 t70:=Tryz.underlying147
 a70:=Tryz.isAgg147
 z70:=Tryz.sizeOf147
 v70:=Tryz.zeroValue147
 t72:=Tryz.underlying149
 a72:=Tryz.isAgg149
 z72:=Tryz.sizeOf149
 v72:=Tryz.zeroValue149
 t75:=Tryz.underlying152
 a75:=Tryz.isAgg152
 z75:=Tryz.sizeOf152
 v75:=Tryz.zeroValue152
 t76:=Tryz.underlying153
 a76:=Tryz.isAgg153
 z76:=Tryz.sizeOf153
 v76:=Tryz.zeroValue153
 t127:=Tryz.underlying206
 a127:=Tryz.isAgg206
 z127:=Tryz.sizeOf206
 v127:=Tryz.zeroValue206
 t164:=Tryz.underlying231
 a164:=Tryz.isAgg231
 z164:=Tryz.sizeOf231
 v164:=Tryz.zeroValue231}
theorem Tryz.Builder_Extra_156:Builder.Extra Tryz.prog Tryz.lays156_ren:= {
 sizeBuilder:=by kernel_rfl
 liesBuilder:=by kernel_rfl
 t5:=Tryz.underlying5
 a5:=Tryz.isAgg5
 z5:=Tryz.sizeOf5
 v5:=Tryz.zeroValue5
 infoByte:=by kernel_rfl
 cellsByte:=by kernel_rfl
 sizeByte:=by kernel_rfl
 neB5:=by decide}
open Go.RowKit in
theorem Tryz.strings_Join_none (a:Option Addr)(c:Nat)(sep:ByteArray)(w:World):
  Calls Tryz.prog 40 #[.slice a 0 c,.string sep] w fun e w'=>e= .returned (.string ⟨#[]⟩)/\w'=w:=Any.strings_Join_none Tryz.lays156 Tryz.Builder_Extra_156 a c sep w
open Go.RowKit in
theorem Tryz.strings_Join (bk o c:Nat)(xs:List ByteArray)(sep:ByteArray)(w:World)(hcells: ∀(j:Nat) x,xs[j]? =some x->w.cell? ⟨bk,o+j,none⟩=some (.string x))(hbk:bk<w.heap.size)(hN:xs.length<=140737488355328)(hcap:xs.length<=c)(hlen:(Lib.join (xs.map (·.data.toList)) sep.data.toList).length<=140737488355328):
  Calls Tryz.prog 40 #[.slice (some ⟨bk,o,none⟩) xs.length c,.string sep] w fun e w'=>e= .returned (.string ⟨(Lib.join (xs.map (·.data.toList)) sep.data.toList).toArray⟩)/\Below w.heap.size w w':=Any.strings_Join Tryz.lays156 Tryz.Builder_Extra_156 bk o c xs sep w hcells hbk hN hcap hlen
def Tryz.lays161_ren:Go.Shelf.Ren:=⟨fun|161=>280|231=>293|227=>195|233=>294|235=>295|228=>196|197=>304|151=>305|260=>310|152=>193|137=>241|119=>242|224=>243|225=>244|217=>252|266=>278|n=>n,fun|9=>9|4=>4|3=>3|5=>5|117=>237|116=>236|0=>0|124=>278|105=>318|21=>21|119=>324|46=>202|139=>327|138=>326|n=>n,fun|3=>6|4=>7|n=>n⟩
theorem Tryz.lays161:Go.Proofs.Lays.n161 Tryz.prog Tryz.lays161_ren:= {
 mixed:=by kernel_rfl
 f119:=Tryz.func242.trans (congrArg some (by kernel_rfl))
 f137:=Tryz.func241.trans (congrArg some (by kernel_rfl))
 f151:=Tryz.func305.trans (congrArg some (by kernel_rfl))
 f152:=Tryz.func193.trans (congrArg some (by kernel_rfl))
 f161:=Tryz.func280.trans (congrArg some (by kernel_rfl))
 f197:=Tryz.func304.trans (congrArg some (by kernel_rfl))
 f217:=Tryz.func252.trans (congrArg some (by kernel_rfl))
 f224:=Tryz.func243.trans (congrArg some (by kernel_rfl))
 f225:=Tryz.func244.trans (congrArg some (by kernel_rfl))
 f227:=Tryz.func195.trans (congrArg some (by kernel_rfl))
 f228:=Tryz.func196.trans (congrArg some (by kernel_rfl))
 f231:=Tryz.func293.trans (congrArg some (by kernel_rfl))
 f233:=Tryz.func294.trans (congrArg some (by kernel_rfl))
 f235:=Tryz.func295.trans (congrArg some (by kernel_rfl))
 f260:=Tryz.func310.trans (congrArg some (by kernel_rfl))
 f266:=Tryz.func278.trans (congrArg some (by kernel_rfl))
 t0:=Tryz.underlying0
 a0:=Tryz.isAgg0
 z0:=Tryz.sizeOf0
 v0:=Tryz.zeroValue0
 t3:=Tryz.underlying3
 a3:=Tryz.isAgg3
 z3:=Tryz.sizeOf3
 v3:=Tryz.zeroValue3
 t4:=Tryz.underlying4
 a4:=Tryz.isAgg4
 z4:=Tryz.sizeOf4
 v4:=Tryz.zeroValue4
 t5:=Tryz.underlying5
 a5:=Tryz.isAgg5
 z5:=Tryz.sizeOf5
 v5:=Tryz.zeroValue5
 t9:=Tryz.underlying9
 a9:=Tryz.isAgg9
 z9:=Tryz.sizeOf9
 v9:=Tryz.zeroValue9
 t21:=Tryz.underlying21
 a21:=Tryz.isAgg21
 z21:=Tryz.sizeOf21
 v21:=Tryz.zeroValue21
 t46:=Tryz.underlying202
 a46:=Tryz.isAgg202
 z46:=Tryz.sizeOf202
 v46:=Tryz.zeroValue202
 t105:=Tryz.underlying318
 a105:=Tryz.isAgg318
 z105:=Tryz.sizeOf318
 v105:=Tryz.zeroValue318
 t116:=Tryz.underlying236
 a116:=Tryz.isAgg236
 z116:=Tryz.sizeOf236
 t117:=Tryz.underlying237
 a117:=Tryz.isAgg237
 z117:=Tryz.sizeOf237
 v117:=Tryz.zeroValue237
 t119:=Tryz.underlying324
 a119:=Tryz.isAgg324
 z119:=Tryz.sizeOf324
 t124:=Tryz.underlying278
 a124:=Tryz.isAgg278
 z124:=Tryz.sizeOf278
 v124:=Tryz.zeroValue278
 t138:=Tryz.underlying326
 a138:=Tryz.isAgg326
 z138:=Tryz.sizeOf326
 v138:=Tryz.zeroValue326
 t139:=Tryz.underlying327
 a139:=Tryz.isAgg327
 z139:=Tryz.sizeOf327
 v139:=Tryz.zeroValue327
 g3:=by kernel_rfl
 g4:=by kernel_rfl}
open Go.RowKit in
def Tryz.lays137_ren:Go.Shelf.Ren:=⟨fun|137=>241|217=>252|266=>278|n=>n,fun|9=>9|5=>5|3=>3|n=>n,fun|n=>n⟩
theorem Tryz.lays137:Go.Proofs.Lays.n137 Tryz.prog Tryz.lays137_ren:= {
 mixed:=by kernel_rfl
 f137:=Tryz.func241.trans (congrArg some (by kernel_rfl))
 f217:=Tryz.func252.trans (congrArg some (by kernel_rfl))
 f266:=Tryz.func278.trans (congrArg some (by kernel_rfl))
 t3:=Tryz.underlying3
 a3:=Tryz.isAgg3
 z3:=Tryz.sizeOf3
 v3:=Tryz.zeroValue3
 t5:=Tryz.underlying5
 a5:=Tryz.isAgg5
 z5:=Tryz.sizeOf5
 v5:=Tryz.zeroValue5
 t9:=Tryz.underlying9
 a9:=Tryz.isAgg9
 z9:=Tryz.sizeOf9
 v9:=Tryz.zeroValue9}
open Go.RowKit in
theorem Tryz.strings_IndexByte (s:ByteArray)(c:Int)(w:World):
  Calls Tryz.prog 241 #[.string s,.int .u8 c] w fun e w'=>e= .returned (.int .i64 (Lib.indexByte s.data.toList c.toNat.toUInt8))/\w'=w:=Any.strings_IndexByte Tryz.lays137 s c w
def Tryz.lays103_ren:Go.Shelf.Ren:=⟨fun|103=>101|210=>157|206=>138|n=>n,fun|9=>9|4=>4|24=>180|3=>3|n=>n,fun|n=>n⟩
theorem Tryz.lays103:Go.Proofs.Lays.n103 Tryz.prog Tryz.lays103_ren:= {
 mixed:=by kernel_rfl
 f103:=Tryz.func101.trans (congrArg some (by kernel_rfl))
 f206:=Tryz.func138.trans (congrArg some (by kernel_rfl))
 f210:=Tryz.func157.trans (congrArg some (by kernel_rfl))
 t3:=Tryz.underlying3
 a3:=Tryz.isAgg3
 z3:=Tryz.sizeOf3
 v3:=Tryz.zeroValue3
 t4:=Tryz.underlying4
 a4:=Tryz.isAgg4
 z4:=Tryz.sizeOf4
 v4:=Tryz.zeroValue4
 t9:=Tryz.underlying9
 a9:=Tryz.isAgg9
 z9:=Tryz.sizeOf9
 v9:=Tryz.zeroValue9
 t24:=Tryz.underlying180
 a24:=Tryz.isAgg180
 z24:=Tryz.sizeOf180
 v24:=Tryz.zeroValue180}
open Go.RowKit in
theorem Tryz.strings_CutPrefix (s p:ByteArray)(w:World):
  Calls Tryz.prog 101 #[.string s,.string p] w fun e w'=>e= .returned (.tuple #[.string ⟨(Lib.trimPrefix s.data.toList p.data.toList).toArray⟩,.bool (Lib.hasPrefix s.data.toList p.data.toList)])/\w'=w:=Any.strings_CutPrefix Tryz.lays103 s p w
def Tryz.lays104_ren:Go.Shelf.Ren:=⟨fun|104=>197|211=>245|207=>158|n=>n,fun|9=>9|4=>4|24=>180|3=>3|n=>n,fun|n=>n⟩
theorem Tryz.lays104:Go.Proofs.Lays.n104 Tryz.prog Tryz.lays104_ren:= {
 mixed:=by kernel_rfl
 f104:=Tryz.func197.trans (congrArg some (by kernel_rfl))
 f207:=Tryz.func158.trans (congrArg some (by kernel_rfl))
 f211:=Tryz.func245.trans (congrArg some (by kernel_rfl))
 t3:=Tryz.underlying3
 a3:=Tryz.isAgg3
 z3:=Tryz.sizeOf3
 v3:=Tryz.zeroValue3
 t4:=Tryz.underlying4
 a4:=Tryz.isAgg4
 z4:=Tryz.sizeOf4
 v4:=Tryz.zeroValue4
 t9:=Tryz.underlying9
 a9:=Tryz.isAgg9
 z9:=Tryz.sizeOf9
 v9:=Tryz.zeroValue9
 t24:=Tryz.underlying180
 a24:=Tryz.isAgg180
 z24:=Tryz.sizeOf180
 v24:=Tryz.zeroValue180}
open Go.RowKit in
theorem Tryz.strings_CutSuffix (s p:ByteArray)(w:World)(hs:s.size<=9223372036854775807):
  Calls Tryz.prog 197 #[.string s,.string p] w fun e w'=>e= .returned (.tuple #[.string ⟨(Lib.trimSuffix s.data.toList p.data.toList).toArray⟩,.bool (Lib.hasSuffix s.data.toList p.data.toList)])/\w'=w:=Any.strings_CutSuffix Tryz.lays104 s p w hs
def Tryz.lays122_ren:Go.Shelf.Ren:=⟨fun|122=>72|215=>129|n=>n,fun|3=>3|4=>4|n=>n,fun|n=>n⟩
theorem Tryz.lays122:Go.Proofs.Lays.n122 Tryz.prog Tryz.lays122_ren:= {
 mixed:=by kernel_rfl
 f122:=Tryz.func72.trans (congrArg some (by kernel_rfl))
 f215:=Tryz.func129.trans (congrArg some (by kernel_rfl))
 t3:=Tryz.underlying3
 a3:=Tryz.isAgg3
 z3:=Tryz.sizeOf3
 v3:=Tryz.zeroValue3
 t4:=Tryz.underlying4
 a4:=Tryz.isAgg4
 z4:=Tryz.sizeOf4
 v4:=Tryz.zeroValue4}
open Go.RowKit in
theorem Tryz.cmp_Compare_int (x y:Int)(w:World):
  Calls Tryz.prog 72 #[.int .i64 x,.int .i64 y] w fun e w'=>e= .returned (.int .i64 (Lib.compareInt x y))/\w'=w:=Any.cmp_Compare_int Tryz.lays122 x y w
def Tryz.laysM171_ren:Go.Shelf.Ren:=⟨fun|171=>215|243=>268|246=>286|283=>299|284=>300|285=>301|286=>302|129=>188|317=>306|318=>307|319=>308|320=>309|337=>311|338=>312|n=>n,fun|3=>3|9=>9|2=>2|4=>4|171=>314|0=>0|53=>230|37=>61|5=>5|173=>316|212=>322|51=>228|20=>20|213=>323|46=>202|232=>328|233=>329|n=>n,fun|17=>5|18=>8|19=>9|n=>n⟩
theorem Tryz.laysM171:Go.Proofs.LaysM.n171 Tryz.prog Tryz.laysM171_ren:= {
 mixed:=by kernel_rfl
 f129:=Tryz.func188.trans (congrArg some (by kernel_rfl))
 f171:=Tryz.func215.trans (congrArg some (by kernel_rfl))
 f243:=Tryz.func268.trans (congrArg some (by kernel_rfl))
 f246:=Tryz.func286.trans (congrArg some (by kernel_rfl))
 f283:=Tryz.func299.trans (congrArg some (by kernel_rfl))
 f284:=Tryz.func300.trans (congrArg some (by kernel_rfl))
 f285:=Tryz.func301.trans (congrArg some (by kernel_rfl))
 f286:=Tryz.func302.trans (congrArg some (by kernel_rfl))
 f317:=Tryz.func306.trans (congrArg some (by kernel_rfl))
 f318:=Tryz.func307.trans (congrArg some (by kernel_rfl))
 f319:=Tryz.func308.trans (congrArg some (by kernel_rfl))
 f320:=Tryz.func309.trans (congrArg some (by kernel_rfl))
 f337:=Tryz.func311.trans (congrArg some (by kernel_rfl))
 f338:=Tryz.func312.trans (congrArg some (by kernel_rfl))
 t0:=Tryz.underlying0
 a0:=Tryz.isAgg0
 z0:=Tryz.sizeOf0
 v0:=Tryz.zeroValue0
 t2:=Tryz.underlying2
 a2:=Tryz.isAgg2
 z2:=Tryz.sizeOf2
 v2:=Tryz.zeroValue2
 t3:=Tryz.underlying3
 a3:=Tryz.isAgg3
 z3:=Tryz.sizeOf3
 v3:=Tryz.zeroValue3
 t4:=Tryz.underlying4
 a4:=Tryz.isAgg4
 z4:=Tryz.sizeOf4
 v4:=Tryz.zeroValue4
 t5:=Tryz.underlying5
 a5:=Tryz.isAgg5
 z5:=Tryz.sizeOf5
 v5:=Tryz.zeroValue5
 t9:=Tryz.underlying9
 a9:=Tryz.isAgg9
 z9:=Tryz.sizeOf9
 v9:=Tryz.zeroValue9
 t20:=Tryz.underlying20
 a20:=Tryz.isAgg20
 z20:=Tryz.sizeOf20
 v20:=Tryz.zeroValue20
 t37:=Tryz.underlying61
 a37:=Tryz.isAgg61
 z37:=Tryz.sizeOf61
 v37:=Tryz.zeroValue61
 t46:=Tryz.underlying202
 a46:=Tryz.isAgg202
 z46:=Tryz.sizeOf202
 v46:=Tryz.zeroValue202
 t51:=Tryz.underlying228
 a51:=Tryz.isAgg228
 z51:=Tryz.sizeOf228
 v51:=Tryz.zeroValue228
 t53:=Tryz.underlying230
 a53:=Tryz.isAgg230
 z53:=Tryz.sizeOf230
 v53:=Tryz.zeroValue230
 t171:=Tryz.underlying314
 a171:=Tryz.isAgg314
 z171:=Tryz.sizeOf314
 v171:=Tryz.zeroValue314
 t173:=Tryz.underlying316
 a173:=Tryz.isAgg316
 z173:=Tryz.sizeOf316
 v173:=Tryz.zeroValue316
 t212:=Tryz.underlying322
 a212:=Tryz.isAgg322
 z212:=Tryz.sizeOf322
 v212:=Tryz.zeroValue322
 t213:=Tryz.underlying323
 a213:=Tryz.isAgg323
 z213:=Tryz.sizeOf323
 t232:=Tryz.underlying328
 a232:=Tryz.isAgg328
 z232:=Tryz.sizeOf328
 v232:=Tryz.zeroValue328
 t233:=Tryz.underlying329
 a233:=Tryz.isAgg329
 z233:=Tryz.sizeOf329
 v233:=Tryz.zeroValue329
 g17:=by kernel_rfl
 g18:=by kernel_rfl
 g19:=by kernel_rfl
 i0:=by kernel_rfl
 i2:=by kernel_rfl
 i3:=by kernel_rfl
 i4:=by kernel_rfl
 i5:=by kernel_rfl
 i9:=by kernel_rfl
 i20:=by kernel_rfl
 i37:=by kernel_rfl
 i46:=by kernel_rfl
 i51:=by kernel_rfl
 i53:=by kernel_rfl
 i171:=by kernel_rfl
 i173:=by kernel_rfl
 i212:=by kernel_rfl
 i232:=by kernel_rfl
 i233:=by kernel_rfl
 m17:=by kernel_rfl
 m18:=by kernel_rfl
 m19:=by kernel_rfl}
open Go.RowKit Go.Sort Go.Lib in
theorem Tryz.strconv_Itoa (n:Int)(h0: -9223372036854775808<=n)(h1:n<=9223372036854775807)(w:World)(htab:Lib.TabIs Tryz.prog w "internal/strconv.uint64pow10" .u64 Lib.pow10Tab):
  Calls Tryz.prog 215 #[.int .i64 n] w fun e w'=>e= .returned (.string ⟨(Lib.itoa n).toArray⟩)/\ ∃k os,w'=grow (w.drewN k) os:=Any.strconv_Itoa Tryz.laysM171 n h0 h1 w htab
def Tryz.laysM173_ren:Go.Shelf.Ren:=⟨fun|173=>262|246=>286|283=>299|284=>300|285=>301|286=>302|129=>188|317=>306|318=>307|319=>308|320=>309|337=>311|338=>312|n=>n,fun|2=>2|3=>3|9=>9|4=>4|171=>314|0=>0|53=>230|37=>61|5=>5|173=>316|212=>322|51=>228|20=>20|213=>323|46=>202|232=>328|233=>329|n=>n,fun|17=>5|18=>8|19=>9|n=>n⟩
theorem Tryz.laysM173:Go.Proofs.LaysM.n173 Tryz.prog Tryz.laysM173_ren:= {
 mixed:=by kernel_rfl
 f129:=Tryz.func188.trans (congrArg some (by kernel_rfl))
 f173:=Tryz.func262.trans (congrArg some (by kernel_rfl))
 f246:=Tryz.func286.trans (congrArg some (by kernel_rfl))
 f283:=Tryz.func299.trans (congrArg some (by kernel_rfl))
 f284:=Tryz.func300.trans (congrArg some (by kernel_rfl))
 f285:=Tryz.func301.trans (congrArg some (by kernel_rfl))
 f286:=Tryz.func302.trans (congrArg some (by kernel_rfl))
 f317:=Tryz.func306.trans (congrArg some (by kernel_rfl))
 f318:=Tryz.func307.trans (congrArg some (by kernel_rfl))
 f319:=Tryz.func308.trans (congrArg some (by kernel_rfl))
 f320:=Tryz.func309.trans (congrArg some (by kernel_rfl))
 f337:=Tryz.func311.trans (congrArg some (by kernel_rfl))
 f338:=Tryz.func312.trans (congrArg some (by kernel_rfl))
 t0:=Tryz.underlying0
 a0:=Tryz.isAgg0
 z0:=Tryz.sizeOf0
 v0:=Tryz.zeroValue0
 t2:=Tryz.underlying2
 a2:=Tryz.isAgg2
 z2:=Tryz.sizeOf2
 v2:=Tryz.zeroValue2
 t3:=Tryz.underlying3
 a3:=Tryz.isAgg3
 z3:=Tryz.sizeOf3
 v3:=Tryz.zeroValue3
 t4:=Tryz.underlying4
 a4:=Tryz.isAgg4
 z4:=Tryz.sizeOf4
 v4:=Tryz.zeroValue4
 t5:=Tryz.underlying5
 a5:=Tryz.isAgg5
 z5:=Tryz.sizeOf5
 v5:=Tryz.zeroValue5
 t9:=Tryz.underlying9
 a9:=Tryz.isAgg9
 z9:=Tryz.sizeOf9
 v9:=Tryz.zeroValue9
 t20:=Tryz.underlying20
 a20:=Tryz.isAgg20
 z20:=Tryz.sizeOf20
 v20:=Tryz.zeroValue20
 t37:=Tryz.underlying61
 a37:=Tryz.isAgg61
 z37:=Tryz.sizeOf61
 v37:=Tryz.zeroValue61
 t46:=Tryz.underlying202
 a46:=Tryz.isAgg202
 z46:=Tryz.sizeOf202
 v46:=Tryz.zeroValue202
 t51:=Tryz.underlying228
 a51:=Tryz.isAgg228
 z51:=Tryz.sizeOf228
 v51:=Tryz.zeroValue228
 t53:=Tryz.underlying230
 a53:=Tryz.isAgg230
 z53:=Tryz.sizeOf230
 v53:=Tryz.zeroValue230
 t171:=Tryz.underlying314
 a171:=Tryz.isAgg314
 z171:=Tryz.sizeOf314
 v171:=Tryz.zeroValue314
 t173:=Tryz.underlying316
 a173:=Tryz.isAgg316
 z173:=Tryz.sizeOf316
 v173:=Tryz.zeroValue316
 t212:=Tryz.underlying322
 a212:=Tryz.isAgg322
 z212:=Tryz.sizeOf322
 v212:=Tryz.zeroValue322
 t213:=Tryz.underlying323
 a213:=Tryz.isAgg323
 z213:=Tryz.sizeOf323
 t232:=Tryz.underlying328
 a232:=Tryz.isAgg328
 z232:=Tryz.sizeOf328
 v232:=Tryz.zeroValue328
 t233:=Tryz.underlying329
 a233:=Tryz.isAgg329
 z233:=Tryz.sizeOf329
 v233:=Tryz.zeroValue329
 g17:=by kernel_rfl
 g18:=by kernel_rfl
 g19:=by kernel_rfl
 i0:=by kernel_rfl
 i2:=by kernel_rfl
 i3:=by kernel_rfl
 i4:=by kernel_rfl
 i5:=by kernel_rfl
 i9:=by kernel_rfl
 i20:=by kernel_rfl
 i37:=by kernel_rfl
 i46:=by kernel_rfl
 i51:=by kernel_rfl
 i53:=by kernel_rfl
 i171:=by kernel_rfl
 i173:=by kernel_rfl
 i212:=by kernel_rfl
 i232:=by kernel_rfl
 i233:=by kernel_rfl
 m17:=by kernel_rfl
 m18:=by kernel_rfl
 m19:=by kernel_rfl}
open Go.RowKit Go.Sort Go.Lib in
theorem Tryz.strconv_FormatInt_10 (n:Int)(h0: -9223372036854775808<=n)(h1:n<=9223372036854775807)(w:World)(htab:Lib.TabIs Tryz.prog w "internal/strconv.uint64pow10" .u64 Lib.pow10Tab):
  Calls Tryz.prog 262 #[.int .i64 n,.int .i64 10] w fun e w'=>e= .returned (.string ⟨(Lib.itoa n).toArray⟩)/\ ∃k os,w'=grow (w.drewN k) os:=Any.strconv_FormatInt_10 Tryz.laysM173 n h0 h1 w htab
open Go.RowKit Go.Lib in
def Tryz.lays145_ren:Go.Shelf.Ren:=⟨fun|145=>91|220=>146|219=>206|217=>252|225=>244|224=>243|267=>253|266=>278|314=>279|n=>n,fun|9=>9|4=>4|59=>166|3=>3|5=>5|46=>202|146=>302|51=>228|n=>n,fun|1=>1|n=>n⟩
theorem Tryz.lays145:Go.Proofs.Lays.n145 Tryz.prog Tryz.lays145_ren:= {
 mixed:=by kernel_rfl
 f145:=Tryz.func91.trans (congrArg some (by kernel_rfl))
 f217:=Tryz.func252.trans (congrArg some (by kernel_rfl))
 f219:=Tryz.func206.trans (congrArg some (by kernel_rfl))
 f220:=Tryz.func146.trans (congrArg some (by kernel_rfl))
 f224:=Tryz.func243.trans (congrArg some (by kernel_rfl))
 f225:=Tryz.func244.trans (congrArg some (by kernel_rfl))
 f266:=Tryz.func278.trans (congrArg some (by kernel_rfl))
 f267:=Tryz.func253.trans (congrArg some (by kernel_rfl))
 f314:=Tryz.func279.trans (congrArg some (by kernel_rfl))
 t3:=Tryz.underlying3
 a3:=Tryz.isAgg3
 z3:=Tryz.sizeOf3
 v3:=Tryz.zeroValue3
 t4:=Tryz.underlying4
 a4:=Tryz.isAgg4
 z4:=Tryz.sizeOf4
 v4:=Tryz.zeroValue4
 t5:=Tryz.underlying5
 a5:=Tryz.isAgg5
 z5:=Tryz.sizeOf5
 v5:=Tryz.zeroValue5
 t9:=Tryz.underlying9
 a9:=Tryz.isAgg9
 z9:=Tryz.sizeOf9
 v9:=Tryz.zeroValue9
 t46:=Tryz.underlying202
 a46:=Tryz.isAgg202
 z46:=Tryz.sizeOf202
 v46:=Tryz.zeroValue202
 t51:=Tryz.underlying228
 a51:=Tryz.isAgg228
 z51:=Tryz.sizeOf228
 v51:=Tryz.zeroValue228
 t59:=Tryz.underlying166
 a59:=Tryz.isAgg166
 z59:=Tryz.sizeOf166
 v59:=Tryz.zeroValue166
 t146:=Tryz.underlying302
 a146:=Tryz.isAgg302
 z146:=Tryz.sizeOf302
 v146:=Tryz.zeroValue302
 g1:=by kernel_rfl}
open Go.RowKit Go.Lib in
theorem Tryz.strings_Cut (s sep:ByteArray)(m:Int)(w:World)(hs:s.size<4294967281)(hm:w.cell? ⟨1,0,none⟩=some (.int .i64 m)):
  Calls Tryz.prog 91 #[.string s,.string sep] w fun e w'=>e= .returned (.tuple #[.string ⟨(Lib.cut s.data.toList sep.data.toList).1.toArray⟩,.string ⟨(Lib.cut s.data.toList sep.data.toList).2.1.toArray⟩,.bool (Lib.cut s.data.toList sep.data.toList).2.2])/\ ∃n,w'=w.drewN n:=Any.strings_Cut Tryz.lays145 s sep m w hs hm
def Tryz.lays148_ren:Go.Shelf.Ren:=⟨fun|148=>213|222=>266|223=>267|269=>287|n=>n,fun|9=>9|3=>3|4=>4|5=>5|146=>302|51=>228|46=>202|n=>n,fun|n=>n⟩
theorem Tryz.lays148:Go.Proofs.Lays.n148 Tryz.prog Tryz.lays148_ren:= {
 mixed:=by kernel_rfl
 f148:=Tryz.func213.trans (congrArg some (by kernel_rfl))
 f222:=Tryz.func266.trans (congrArg some (by kernel_rfl))
 f223:=Tryz.func267.trans (congrArg some (by kernel_rfl))
 f269:=Tryz.func287.trans (congrArg some (by kernel_rfl))
 t3:=Tryz.underlying3
 a3:=Tryz.isAgg3
 z3:=Tryz.sizeOf3
 v3:=Tryz.zeroValue3
 t4:=Tryz.underlying4
 a4:=Tryz.isAgg4
 z4:=Tryz.sizeOf4
 v4:=Tryz.zeroValue4
 t5:=Tryz.underlying5
 a5:=Tryz.isAgg5
 z5:=Tryz.sizeOf5
 v5:=Tryz.zeroValue5
 t9:=Tryz.underlying9
 a9:=Tryz.isAgg9
 z9:=Tryz.sizeOf9
 v9:=Tryz.zeroValue9
 t46:=Tryz.underlying202
 a46:=Tryz.isAgg202
 z46:=Tryz.sizeOf202
 v46:=Tryz.zeroValue202
 t51:=Tryz.underlying228
 a51:=Tryz.isAgg228
 z51:=Tryz.sizeOf228
 v51:=Tryz.zeroValue228
 t146:=Tryz.underlying302
 a146:=Tryz.isAgg302
 z146:=Tryz.sizeOf302
 v146:=Tryz.zeroValue302}
open Go.RowKit Go.Lib in
theorem Tryz.strings_LastIndex_one (s sub:ByteArray)(h1:sub.size=1)(hs:s.size<4611686018427387904)(w:World):
  Calls Tryz.prog 213 #[.string s,.string sub] w fun e w'=>e= .returned (.int .i64 (Lib.lastIndexByte s ((sub[0]'(by omega)).toNat:Int)))/\w'=w:=Any.strings_LastIndex_one Tryz.lays148 s sub h1 hs w
def Tryz.lays99_ren:Go.Shelf.Ren:=⟨fun|99=>82|206=>138|n=>n,fun|9=>9|4=>4|3=>3|n=>n,fun|n=>n⟩
theorem Tryz.lays99:Go.Proofs.Lays.n99 Tryz.prog Tryz.lays99_ren:= {
 mixed:=by kernel_rfl
 f99:=Tryz.func82.trans (congrArg some (by kernel_rfl))
 f206:=Tryz.func138.trans (congrArg some (by kernel_rfl))
 t3:=Tryz.underlying3
 a3:=Tryz.isAgg3
 z3:=Tryz.sizeOf3
 v3:=Tryz.zeroValue3
 t4:=Tryz.underlying4
 a4:=Tryz.isAgg4
 z4:=Tryz.sizeOf4
 v4:=Tryz.zeroValue4
 t9:=Tryz.underlying9
 a9:=Tryz.isAgg9
 z9:=Tryz.sizeOf9
 v9:=Tryz.zeroValue9}
open Go.RowKit Go.Lib in
theorem Tryz.strings_HasPrefix (s p:ByteArray)(w:World):
  Calls Tryz.prog 82 #[.string s,.string p] w fun e w'=>e= .returned (.bool (Lib.hasPrefix s.data.toList p.data.toList))/\w'=w:=Any.strings_HasPrefix Tryz.lays99 s p w
def Tryz.lays101_ren:Go.Shelf.Ren:=⟨fun|101=>150|208=>210|206=>138|n=>n,fun|9=>9|4=>4|3=>3|n=>n,fun|n=>n⟩
theorem Tryz.lays101:Go.Proofs.Lays.n101 Tryz.prog Tryz.lays101_ren:= {
 mixed:=by kernel_rfl
 f101:=Tryz.func150.trans (congrArg some (by kernel_rfl))
 f206:=Tryz.func138.trans (congrArg some (by kernel_rfl))
 f208:=Tryz.func210.trans (congrArg some (by kernel_rfl))
 t3:=Tryz.underlying3
 a3:=Tryz.isAgg3
 z3:=Tryz.sizeOf3
 v3:=Tryz.zeroValue3
 t4:=Tryz.underlying4
 a4:=Tryz.isAgg4
 z4:=Tryz.sizeOf4
 v4:=Tryz.zeroValue4
 t9:=Tryz.underlying9
 a9:=Tryz.isAgg9
 z9:=Tryz.sizeOf9
 v9:=Tryz.zeroValue9}
open Go.RowKit Go.Lib in
theorem Tryz.strings_TrimPrefix (s p:ByteArray)(w:World):
  Calls Tryz.prog 150 #[.string s,.string p] w fun e w'=>e= .returned (.string ⟨(Lib.trimPrefix s.data.toList p.data.toList).toArray⟩)/\w'=w:=Any.strings_TrimPrefix Tryz.lays101 s p w
def Tryz.lays152_ren:Go.Shelf.Ren:=⟨fun|152=>193|137=>241|119=>242|224=>243|225=>244|217=>252|266=>278|n=>n,fun|9=>9|21=>21|3=>3|4=>4|5=>5|0=>0|46=>202|n=>n,fun|n=>n⟩
theorem Tryz.lays152:Go.Proofs.Lays.n152 Tryz.prog Tryz.lays152_ren:= {
 mixed:=by kernel_rfl
 f119:=Tryz.func242.trans (congrArg some (by kernel_rfl))
 f137:=Tryz.func241.trans (congrArg some (by kernel_rfl))
 f152:=Tryz.func193.trans (congrArg some (by kernel_rfl))
 f217:=Tryz.func252.trans (congrArg some (by kernel_rfl))
 f224:=Tryz.func243.trans (congrArg some (by kernel_rfl))
 f225:=Tryz.func244.trans (congrArg some (by kernel_rfl))
 f266:=Tryz.func278.trans (congrArg some (by kernel_rfl))
 t0:=Tryz.underlying0
 a0:=Tryz.isAgg0
 z0:=Tryz.sizeOf0
 v0:=Tryz.zeroValue0
 t3:=Tryz.underlying3
 a3:=Tryz.isAgg3
 z3:=Tryz.sizeOf3
 v3:=Tryz.zeroValue3
 t4:=Tryz.underlying4
 a4:=Tryz.isAgg4
 z4:=Tryz.sizeOf4
 v4:=Tryz.zeroValue4
 t5:=Tryz.underlying5
 a5:=Tryz.isAgg5
 z5:=Tryz.sizeOf5
 v5:=Tryz.zeroValue5
 t9:=Tryz.underlying9
 a9:=Tryz.isAgg9
 z9:=Tryz.sizeOf9
 v9:=Tryz.zeroValue9
 t21:=Tryz.underlying21
 a21:=Tryz.isAgg21
 z21:=Tryz.sizeOf21
 v21:=Tryz.zeroValue21
 t46:=Tryz.underlying202
 a46:=Tryz.isAgg202
 z46:=Tryz.sizeOf202
 v46:=Tryz.zeroValue202}
open Go.RowKit Go.Lib in
theorem Tryz.strings_IndexRune_ascii (s:ByteArray)(r:Int)(w:World)(h0:0<=r)(h1:r<128):
  Calls Tryz.prog 193 #[.string s,.int .i32 r] w fun e w'=>e= .returned (.int .i64 (Lib.indexByte s.data.toList r.toNat.toUInt8))/\w'=w:=Any.strings_IndexRune_ascii Tryz.lays152 s r w h0 h1
def Tryz.lays226_ren:Go.Shelf.Ren:=⟨fun|226=>194|n=>n,fun|3=>3|4=>4|n=>n,fun|n=>n⟩
theorem Tryz.lays226:Go.Proofs.Lays.n226 Tryz.prog Tryz.lays226_ren:= {
 mixed:=by kernel_rfl
 f226:=Tryz.func194.trans (congrArg some (by kernel_rfl))
 t3:=Tryz.underlying3
 a3:=Tryz.isAgg3
 z3:=Tryz.sizeOf3
 v3:=Tryz.zeroValue3
 t4:=Tryz.underlying4
 a4:=Tryz.isAgg4
 z4:=Tryz.sizeOf4
 v4:=Tryz.zeroValue4}
open Go.RowKit Go.Lib in
theorem Tryz.strings_shouldUseASCIISet (n:Int)(w:World):
  Calls Tryz.prog 194 #[.int .i64 n] w fun e w'=>e= .returned (.bool (decide (8<n)))/\w'=w:=Any.strings_shouldUseASCIISet Tryz.lays226 n w
def Tryz.lays153_ren:Go.Shelf.Ren:=⟨fun|153=>139|152=>193|226=>194|227=>195|228=>196|137=>241|119=>242|224=>243|225=>244|217=>252|266=>278|n=>n,fun|9=>9|3=>3|4=>4|5=>5|21=>21|117=>237|116=>236|0=>0|46=>202|124=>278|n=>n,fun|n=>n⟩
theorem Tryz.lays153:Go.Proofs.Lays.n153 Tryz.prog Tryz.lays153_ren:= {
 mixed:=by kernel_rfl
 f119:=Tryz.func242.trans (congrArg some (by kernel_rfl))
 f137:=Tryz.func241.trans (congrArg some (by kernel_rfl))
 f152:=Tryz.func193.trans (congrArg some (by kernel_rfl))
 f153:=Tryz.func139.trans (congrArg some (by kernel_rfl))
 f217:=Tryz.func252.trans (congrArg some (by kernel_rfl))
 f224:=Tryz.func243.trans (congrArg some (by kernel_rfl))
 f225:=Tryz.func244.trans (congrArg some (by kernel_rfl))
 f226:=Tryz.func194.trans (congrArg some (by kernel_rfl))
 f227:=Tryz.func195.trans (congrArg some (by kernel_rfl))
 f228:=Tryz.func196.trans (congrArg some (by kernel_rfl))
 f266:=Tryz.func278.trans (congrArg some (by kernel_rfl))
 t0:=Tryz.underlying0
 a0:=Tryz.isAgg0
 z0:=Tryz.sizeOf0
 v0:=Tryz.zeroValue0
 t3:=Tryz.underlying3
 a3:=Tryz.isAgg3
 z3:=Tryz.sizeOf3
 v3:=Tryz.zeroValue3
 t4:=Tryz.underlying4
 a4:=Tryz.isAgg4
 z4:=Tryz.sizeOf4
 v4:=Tryz.zeroValue4
 t5:=Tryz.underlying5
 a5:=Tryz.isAgg5
 z5:=Tryz.sizeOf5
 v5:=Tryz.zeroValue5
 t9:=Tryz.underlying9
 a9:=Tryz.isAgg9
 z9:=Tryz.sizeOf9
 v9:=Tryz.zeroValue9
 t21:=Tryz.underlying21
 a21:=Tryz.isAgg21
 z21:=Tryz.sizeOf21
 v21:=Tryz.zeroValue21
 t46:=Tryz.underlying202
 a46:=Tryz.isAgg202
 z46:=Tryz.sizeOf202
 v46:=Tryz.zeroValue202
 t116:=Tryz.underlying236
 a116:=Tryz.isAgg236
 z116:=Tryz.sizeOf236
 t117:=Tryz.underlying237
 a117:=Tryz.isAgg237
 z117:=Tryz.sizeOf237
 v117:=Tryz.zeroValue237
 t124:=Tryz.underlying278
 a124:=Tryz.isAgg278
 z124:=Tryz.sizeOf278
 v124:=Tryz.zeroValue278}
open Go.RowKit Go.Lib in
open Go.RowKit Go.Lib in
theorem Tryz.strings_IndexAny_long (hv116: ∀w,(zeroValue 236).run Tryz.prog w= .ok (.agg (Array.replicate 256 (.bool false))) w)(s chars:ByteArray)(w:World)(h2:2<=chars.size)(h8:8<s.size)(hs:s.size<4294967281)(hcs:chars.size<4294967281)(hascii: ∀(j:Nat) b,chars.data.toList[j]? =some b->b.toNat<128):
  Calls Tryz.prog 139 #[.string s,.string chars] w fun e w'=>e= .returned (.int .i64 (Lib.indexAny s.data.toList chars.data.toList))/\w'=((w.alloc (.cells (Lib.setCells chars.data.toList) 236)).alloc (.cells (Lib.setCells chars.data.toList) 236)):=Any.strings_IndexAny_long Tryz.lays153 hv116 (by kernel_rfl) s chars w h2 h8 hs hcs hascii
def Tryz.sortCk_ren:Go.Shelf.Ren:=⟨fun|6=>70|15=>128|14=>127|28=>187|29=>188|20=>179|21=>180|22=>181|23=>182|24=>183|25=>184|26=>185|27=>186|46=>233|47=>234|48=>235|49=>236|50=>237|57=>275|n=>n,fun|22=>58|24=>64|25=>144|3=>3|39=>202|0=>0|53=>228|55=>230|4=>4|46=>222|45=>221|50=>163|5=>5|9=>9|66=>267|70=>271|76=>298|77=>255|n=>n,fun|n=>n⟩
theorem Tryz.sortCk:Go.Proofs.SlLaysF0.n6 Tryz.prog Tryz.sortCk_ren:= {
 mixed:=by kernel_rfl
 f6:=⟨Tryz.f70.name,by decide,Tryz.func70.trans (congrArg some (by kernel_rfl))⟩
 f14:=⟨Tryz.f127.name,by decide,Tryz.func127.trans (congrArg some (by kernel_rfl))⟩
 f15:=Tryz.func128.trans (congrArg some (by kernel_rfl))
 f20:=⟨Tryz.f179.name,by decide,Tryz.func179.trans (congrArg some (by kernel_rfl))⟩
 f21:=⟨Tryz.f180.name,by decide,Tryz.func180.trans (congrArg some (by kernel_rfl))⟩
 f22:=⟨Tryz.f181.name,by decide,Tryz.func181.trans (congrArg some (by kernel_rfl))⟩
 f23:=⟨Tryz.f182.name,by decide,Tryz.func182.trans (congrArg some (by kernel_rfl))⟩
 f24:=⟨Tryz.f183.name,by decide,Tryz.func183.trans (congrArg some (by kernel_rfl))⟩
 f25:=⟨Tryz.f184.name,by decide,Tryz.func184.trans (congrArg some (by kernel_rfl))⟩
 f26:=⟨Tryz.f185.name,by decide,Tryz.func185.trans (congrArg some (by kernel_rfl))⟩
 f27:=⟨Tryz.f186.name,by decide,Tryz.func186.trans (congrArg some (by kernel_rfl))⟩
 f28:=Tryz.func187.trans (congrArg some (by kernel_rfl))
 f29:=Tryz.func188.trans (congrArg some (by kernel_rfl))
 f46:=⟨Tryz.f233.name,by decide,Tryz.func233.trans (congrArg some (by kernel_rfl))⟩
 f47:=Tryz.func234.trans (congrArg some (by kernel_rfl))
 f48:=Tryz.func235.trans (congrArg some (by kernel_rfl))
 f49:=⟨Tryz.f236.name,by decide,Tryz.func236.trans (congrArg some (by kernel_rfl))⟩
 f50:=⟨Tryz.f237.name,by decide,Tryz.func237.trans (congrArg some (by kernel_rfl))⟩
 f57:=⟨Tryz.f275.name,by decide,Tryz.func275.trans (congrArg some (by kernel_rfl))⟩
 t0:=Tryz.underlying0
 a0:=Tryz.isAgg0
 z0:=Tryz.sizeOf0
 v0:=Tryz.zeroValue0
 t3:=Tryz.underlying3
 a3:=Tryz.isAgg3
 z3:=Tryz.sizeOf3
 v3:=Tryz.zeroValue3
 t4:=Tryz.underlying4
 a4:=Tryz.isAgg4
 z4:=Tryz.sizeOf4
 v4:=Tryz.zeroValue4
 t5:=Tryz.underlying5
 a5:=Tryz.isAgg5
 z5:=Tryz.sizeOf5
 v5:=Tryz.zeroValue5
 t9:=Tryz.underlying9
 a9:=Tryz.isAgg9
 z9:=Tryz.sizeOf9
 v9:=Tryz.zeroValue9
 t22:=Tryz.underlying58
 a22:=Tryz.isAgg58
 z22:=Tryz.sizeOf58
 v22:=Tryz.zeroValue58
 t25:=Tryz.underlying144
 a25:=Tryz.isAgg144
 z25:=Tryz.sizeOf144
 v25:=Tryz.zeroValue144
 t39:=Tryz.underlying202
 a39:=Tryz.isAgg202
 z39:=Tryz.sizeOf202
 v39:=Tryz.zeroValue202
 t45:=Tryz.underlying221
 a45:=Tryz.isAgg221
 z45:=Tryz.sizeOf221
 v45:=Tryz.zeroValue221
 t46:=Tryz.underlying222
 a46:=Tryz.isAgg222
 z46:=Tryz.sizeOf222
 v46:=Tryz.zeroValue222
 t50:=Tryz.underlying163
 a50:=Tryz.isAgg163
 z50:=Tryz.sizeOf163
 v50:=Tryz.zeroValue163
 t53:=Tryz.underlying228
 a53:=Tryz.isAgg228
 z53:=Tryz.sizeOf228
 v53:=Tryz.zeroValue228
 t55:=Tryz.underlying230
 a55:=Tryz.isAgg230
 z55:=Tryz.sizeOf230
 v55:=Tryz.zeroValue230
 t66:=Tryz.underlying267
 a66:=Tryz.isAgg267
 z66:=Tryz.sizeOf267
 v66:=Tryz.zeroValue267
 t70:=Tryz.underlying271
 a70:=Tryz.isAgg271
 z70:=Tryz.sizeOf271
 v70:=Tryz.zeroValue271
 t76:=Tryz.underlying298
 a76:=Tryz.isAgg298
 z76:=Tryz.sizeOf298
 v76:=Tryz.zeroValue298
 t77:=Tryz.underlying255
 a77:=Tryz.isAgg255
 z77:=Tryz.sizeOf255
 v77:=Tryz.zeroValue255}
end Go.Proofs
namespace Go.Proofs.YtdaaoopkkhfbhaaGreatDoor
open Go.RowKit Go.Lib
structure Std(w:World):Prop where
 max: ∃m,w.cell? ⟨1,0,none⟩=some (.int .i64 m)
 ten:Lib.TabIs Tryz.prog w "internal/strconv.uint64pow10" .u64 Lib.pow10Tab
 bits:w.cell? ⟨9,15,none⟩=some (.int .u8 4)
theorem sV:Tryz.prog.globalNamed "internal/strconv.uint64pow10" =some 5:=by kernel_rfl
theorem Std.below {w w':World}(h:Std w)(hb:Below w.heap.size w w'):Std w':=by
 obtain⟨⟨m,hm⟩,ht,hb4⟩:=h
 exact⟨⟨m,(hb.cell (block_lt_of_cell hm)).trans hm⟩,Go.Joins.tab_stays sV ht hb (zB3 _),(hb.cell (block_lt_of_cell hb4)).trans hb4⟩
theorem uG(B:Nat)(w:World)(n:Nat):Below B w (w.drewN n):=by
 induction n with
 |zero=>exact Below.refl _ _
 |succ n ih=>exact ih.drew
theorem below_grow {B:Nat}{a w:World}(h:Below B a w)(hB:B<=w.heap.size)(os:Array Obj):Below B a (Sort.grow w os):=by
 refine⟨h.os,h.tape,h.output,Nat.le_trans h.size ?_,fun i hi=>?_⟩
 ·simp[Sort.grow]
 ·rw[<-h.block i hi]
  simp only[Sort.grow]
  rw[Array.getElem?_append_left (by omega)]
theorem bAZ(s sep:ByteArray)(w:World)(h:Std w)(hs:s.size<=4294967280):
  Calls Tryz.prog 91 #[.string s,.string sep] w fun e w'=>e= .returned (.tuple #[.string ⟨(Lib.cut s.data.toList sep.data.toList).1.toArray⟩,.string ⟨(Lib.cut s.data.toList sep.data.toList).2.1.toArray⟩,.bool (Lib.cut s.data.toList sep.data.toList).2.2])/\Below w.heap.size w w':=by
 obtain⟨m,hm⟩:=h.max
 exact(Tryz.strings_Cut s sep m w (by omega) hm).mono fun e w' ⟨he,n,hn⟩=>⟨he,by rw[hn];exact uG _ _ _⟩
theorem NW(n:Nat)(w:World)(h:Std w)(hn:n<=9223372036854775807):
  Calls Tryz.prog 215 #[.int .i64 (n:Int)] w fun e w'=>e= .returned (.string ⟨(Lib.decDigits n).toArray⟩)/\Below w.heap.size w w':=by
 refine(Tryz.strconv_Itoa (n:Int) (by omega) (by omega) w h.ten).mono fun e w' ⟨he,k,os,hw⟩=>⟨?_,?_⟩
 ·rw[he,Lib.itoa_nonneg]
 ·rw[hw];exact below_grow (uG _ _ _) (by have:=(uG w.heap.size w k).size;exact this) _
end Go.Proofs.YtdaaoopkkhfbhaaGreatDoor
namespace Go.Proofs.YtdaaoopkkhfbhaaGreatDoor
open Go.ChangeShapes Go.WideShapes Go.ChangeAt Go.WideMaps Go.WideElems Go.RowKit
section
variable {H:Type} {enc:TypeId×Value->H} {P:Program} {w:World} {base:Nat} {spare:Nat->Bool} {held:Bool}
theorem gAB {α:Type}(f:Nat->Option α)(h:Nat->α)(n:Nat)(hf: ∀i,i<n->f i=some (h i)):(List.range n).mapM f=some ((List.range n).map h):=by
 have e: ∀l:List Nat,(∀i∈l,f i=some (h i))->l.mapM f=some (l.map h):=by
  intro l
  induction l with
  |nil=>intro _;rfl
  |cons a l ih=>
   intro hl
   rw[List.mapM_cons,hl a (by simp),ih fun i hi=>hl i (by simp[hi])]
   rfl
 exact e _ fun i hi=>hf i (List.mem_range.1 hi)
end
section
variable {H:Type} {enc:TypeId×Value->H}
theorem eAj {a:Assume}{C:Checked}{os:Os}{f:FuncId}{fn:Func}{s:ChangeSpec}{conds:List PathCond}{apart fresh handsOn again:Bool}{X:World->Array Value->Prop}
  (hX: ∀(w w':World)(args:Array Value),w.heap=w'.heap->X w args->X w' args)
  (own:ownKnob C.prog.godebug=none)(started:os.Started)(noInit:C.prog.inits.idxOf? f=none)(hfn:C.prog.funcs[f]? =some fn)
  (witness: ∃(w:World)(tape:Tape)(i:Input),w.os=os/\(w.forCall tape i).Shaped C.prog/\i.vars= []/\Input.okWide C.prog (w.forCall tape i) .any w.heap.size f i/\
   ((s.pre enc C.prog fn conds apart (w.forCall tape i).memory i.args/\X (w.forCall tape i).memory i.args)/\sizedMet enc C.prog fn (OpenSpec.ofChange s) apart (w.forCall tape i).memory i.args)/\a.holds C.prog (lone (Frame.enter C.prog f i.args .normal) [] (w.forCall tape i)))
  (contract: ∀(W:World)(base:Nat)(args:Array Value)(ds gs:List (DataW H))(before:List MemPlace),
   (∀(j:Nat) t v,fn.params[j]? =some t->args[j]? =some v->Value.okWide C.prog W .any base t v)->
   DataW.Whole enc C.prog fn.params.toList s.vars apart W args.toList ds gs before->
   X W args->W.ShapedOpen C.prog->
   Calls C.prog f args W fun e W'=> ∃v,e= .returned v/\s.post enc C.prog fn apart fresh handsOn again W args v W'):
  ReturnsInHanded a C os f .any (fun w args=>(s.pre enc C.prog fn conds apart w args/\X w args)/\sizedMet enc C.prog fn (OpenSpec.ofChange s) apart w args) (s.post enc C.prog fn apart fresh handsOn again):=by
 refine returnsInHanded_of_calls own started noInit witness ?_
 intro w tape i _ hsh _ hok hpre _
 obtain⟨_,_,_,fn',hfn',_,_,_,_,hval⟩:=hok
 have e:fn'=fn:=zB2 (hfn'.symm.trans hfn)
 subst e
 obtain⟨⟨⟨ds,gs,before,hw,_⟩,hx⟩,_⟩:=hpre
 have hw':=DataW.Whole.of_heap (w':=w.forCall tape i) (by rfl) hw
 refine(contract (w.forCall tape i) w.heap.size i.args ds gs before hval hw' (hX _ _ _ (by rfl) hx) hsh).mono fun e W' ⟨v,he,hp⟩=>?_
 subst he
 exact ChangeSpec.post_blind hp
end
theorem rV:Tryz.prog.globalNamed "math/bits.deBruijn64tab" =some 9:=by kernel_rfl
theorem aAU:Rows.laid_math_bits_deBruijn64tab=Lib.tabData (H:=Unit) .u8 (Lib.deBruijn64tab.map fun(n:Nat)=>(n:Int)):=by rfl
theorem iAG:Rows.laid_internal_strconv_uint64pow10=Lib.tabData (H:=Unit) .u64 Lib.pow10Tab:=by rfl
end Go.Proofs.YtdaaoopkkhfbhaaGreatDoor
namespace Go.Proofs.YtdaaoopkkhfbhaaGreatDoor
namespace Dt
def leap(y:Int):Bool:=decide (y%4=0/\(y%100≠0\/y%400=0))
def len(b:Bool)(m:Int):Int:=if m=4\/m=6\/m=9\/m=11 then 30 else if m=2 then(if b=true then 29 else 28)else 31
def zD(y:Int):Int:=if leap y=true then 366 else 365
def before(y:Int):Int:=365*(y-1601)+((y-1)/4- (y-1)/100+(y-1)/400)-388
def mon(b:Bool)(m:Int):Int:=
 (if m<=1 then 0 else if m=2 then 31 else if m=3 then 59 else if m=4 then 90 else if m=5 then 120 else if m=6 then 151 else if m=7 then 181 else if m=8 then 212 else if m=9 then 243 else if m=10 then 273 else if m=11 then 304 else 334)+(if b=true/\3<=m then 1 else 0)
def Is(y m d:Int):Prop:=1601<=y/\y<=9999/\1<=m/\m<=12/\1<=d/\d<=len (leap y) m
instance (y m d:Int):Decidable (Is y m d):=by unfold Is;infer_instance
def days(y m d:Int):Int:=before y-134774+mon (leap y) m+d-1
theorem dP:before 1601=0:=by decide
theorem aJ {y:Int} :leap y=true↔y%4=0/\(y%100≠0\/y%400=0):=decide_eq_true_iff
theorem nK(y:Int):before (y+1)=before y+zD y:=by
 unfold before zD
 by_cases h:leap y=true
 ·rw[if_pos h]
  rw[aJ]at h
  omega
 ·rw[if_neg h]
  rw[aJ]at h
  omega
theorem bO(y:Int):365<=zD y/\zD y<=366:=by unfold zD;split<;>omega
theorem ZD(b:Bool)(m:Int):28<=len b m/\len b m<=31:=by unfold len;split<;>(try split)<;>(try split)<;>omega
theorem PK(b:Bool){m:Int}(h1:1<=m)(h2:m<=11):mon b (m+1)=mon b m+len b m:=by
 have:m=1\/m=2\/m=3\/m=4\/m=5\/m=6\/m=7\/m=8\/m=9\/m=10\/m=11:=by omega
 rcases this with rfl|rfl|rfl|rfl|rfl|rfl|rfl|rfl|rfl|rfl|rfl<;>cases b<;>decide
theorem cJ(b:Bool):mon b 1=0:=by cases b<;>decide
theorem JQ(y:Int):mon (leap y) 12+len (leap y) 12=zD y:=by
 unfold zD
 cases leap y<;>decide
theorem OK(b:Bool){m k:Int}(h1:1<=m)(h2:m<k)(h3:k<=12):mon b m+len b m<=mon b k:=by
 obtain⟨n,hn⟩: ∃n:Nat,k=m+1+n:=⟨(k- (m+1)).toNat,by omega⟩
 subst hn
 clear h2
 induction n with
 |zero=>rw[<-PK b h1 (by omega)];simp
 |succ n ih=>
  have:=ih (by omega)
  have e:=PK b (m:=m+1+(n:Int)) (by omega) (by omega)
  have:=ZD b (m+1+(n:Int))
  have e2:m+1+((n+1:Nat):Int)=m+1+(n:Int)+1:=by omega
  rw[e2,e]
  omega
theorem lK {y z:Int}(h:y<z):before y+zD y<=before z:=by
 obtain⟨n,hn⟩: ∃n:Nat,z=y+1+n:=⟨(z- (y+1)).toNat,by omega⟩
 subst hn
 clear h
 induction n with
 |zero=>rw[<-nK];simp
 |succ n ih=>
  have e:=nK (y+1+(n:Int))
  have:=bO (y+1+(n:Int))
  have e2:y+1+((n+1:Nat):Int)=y+1+(n:Int)+1:=by omega
  rw[e2,e]
  omega
theorem KM {y m d:Int}(h:Is y m d):0<=mon (leap y) m+d-1/\mon (leap y) m+d-1<zD y:=by
 obtain⟨_,_,h1,h2,h3,h4⟩:=h
 have hl:=JQ y
 rcases Int.lt_or_eq_of_le h2 with k|k
 ·have:=OK (leap y) h1 k (by omega)
  have h0:0<=mon (leap y) m:=by
   rcases Int.lt_or_eq_of_le h1 with j|j
   ·have:=OK (leap y) (m:=1) (by omega) j h2
    have:=cJ (leap y)
    have:=ZD (leap y) 1
    omega
   ·rw[<-j,cJ];omega
  have:=ZD (leap y) 12
  omega
 ·subst k
  have:=OK (leap y) (m:=1) (k:=12) (by omega) (by omega) (by omega)
  have:=cJ (leap y)
  have:=ZD (leap y) 1
  omega
theorem cAj {y m d z k e:Int}(h:Is y m d)(g:Is z k e)(hd:days y m d=days z k e):y=z/\m=k/\d=e:=by
 have i1:=KM h
 have i2:=KM g
 unfold days at hd
 have hy:y=z:=by
  rcases Int.lt_trichotomy y z with j|j|j
  ·have:=lK j;omega
  ·exact j
  ·have:=lK j;omega
 subst hy
 obtain⟨_,_,h1,h2,h3,h4⟩:=h
 obtain⟨_,_,g1,g2,g3,g4⟩:=g
 have hm:m=k:=by
  rcases Int.lt_trichotomy m k with j|j|j
  ·have:=OK (leap y) h1 j g2;omega
  ·exact j
  ·have:=OK (leap y) g1 j h2;omega
 subst hm
 exact⟨rfl,rfl,by omega⟩
theorem qK {y m d:Int}(h:Is y m d): -134774<=days y m d/\days y m d<=2932896:=by
 have i1:=KM h
 have f:=dP
 have l:before 10000=3067671:=by decide
 obtain⟨h1,h2,_⟩:=h
 have a:0<=before y:=by
  rcases Int.lt_or_eq_of_le h1 with j|j
  ·have:=lK j;have:=bO 1601;omega
  ·rw[<-j,f];omega
 have b:before y+zD y<=before 10000:=lK (by omega)
 unfold days
 omega
theorem dAk:Is 1601 1 1:=by decide
theorem cAi:days 1601 1 1= -134774:=by decide
theorem next {y m d:Int}(h:Is y m d):(d<len (leap y) m/\Is y m (d+1)/\days y m (d+1)=days y m d+1)\/
  (d=len (leap y) m/\m<12/\Is y (m+1) 1/\days y (m+1) 1=days y m d+1)\/
  (d=31/\m=12/\y<9999/\Is (y+1) 1 1/\days (y+1) 1 1=days y m d+1)\/(d=31/\m=12/\y=9999):=by
 have hh:=h
 obtain⟨h1,h2,h3,h4,h5,h6⟩:=h
 rcases Int.lt_or_eq_of_le h6 with k|k
 ·exact .inl ⟨k,⟨h1,h2,h3,h4,by omega,by omega⟩,by unfold days;omega⟩
 ·rcases Int.lt_or_eq_of_le h4 with j|j
  ·refine .inr (.inl ⟨k,j,⟨h1,h2,by omega,by omega,by omega,by have:=ZD (leap y) (m+1);omega⟩,?_⟩)
   unfold days
   rw[PK _ h3 (by omega)]
   omega
  ·subst j
   have e31:len (leap y) 12=31:=by cases leap y<;>decide
   rcases Int.lt_or_eq_of_le h2 with i|i
   ·refine .inr (.inr (.inl ⟨by omega,rfl,i,⟨by omega,by omega,by omega,by omega,by omega,by have:=ZD (leap (y+1)) 1;omega⟩,?_⟩))
    have l:=JQ y
    have s:=nK y
    unfold days
    rw[cJ,s]
    omega
   ·exact .inr (.inr (.inr ⟨by omega,rfl,i⟩))
theorem wZ {n:Int}(h1: -134774<=n)(h2:n<=2932896): ∃y m d,Is y m d/\days y m d=n:=by
 obtain⟨k,hk⟩: ∃k:Nat,n= -134774+k:=⟨(n+134774).toNat,by omega⟩
 subst hk
 clear h1
 induction k with
 |zero=>exact⟨1601,1,1,dAk,by rw[cAi];rfl⟩
 |succ k ih=>
  obtain⟨y,m,d,hI,hd⟩:=ih (by omega)
  rcases next hI with⟨_,i,e⟩|⟨_,_,i,e⟩|⟨_,_,_,i,e⟩|⟨a,b,c⟩
  ·exact⟨_,_,_,i,by omega⟩
  ·exact⟨_,_,_,i,by omega⟩
  ·exact⟨_,_,_,i,by omega⟩
  ·exfalso
   subst a b c
   have:days 9999 12 31=2932896:=by decide
   omega
theorem cAb(n:Int):(∃y m d,Is y m d/\days y m d=n)↔ -134774<=n/\n<=2932896:=
 ⟨fun⟨_,_,_,h,e⟩=>by have:=qK h;omega,fun⟨h1,h2⟩=>wZ h1 h2⟩
end Dt
end Go.Proofs.YtdaaoopkkhfbhaaGreatDoor
namespace Go.Proofs.YtdaaoopkkhfbhaaGreatDoor
namespace Dt
open Classical in
noncomputable def civil(n:Int):Option (Int×Int×Int):=if h: ∃t:Int×Int×Int,Is t.1 t.2.1 t.2.2/\days t.1 t.2.1 t.2.2=n then some h.choose else none
theorem FF {n y m d:Int} :civil n=some (y,m,d)↔Is y m d/\days y m d=n:=by
 unfold civil
 constructor
 ·intro h
  split at h
  ·rename_i k
   have e:=zB2 h
   have s:=k.choose_spec
   rw[e]at s
   exact s
  ·cases h
 ·intro ⟨h,e⟩
  have k: ∃t:Int×Int×Int,Is t.1 t.2.1 t.2.2/\days t.1 t.2.1 t.2.2=n:=⟨(y,m,d),h,e⟩
  rw[dif_pos k]
  obtain⟨s1,s2⟩:=k.choose_spec
  obtain⟨e1,e2,e3⟩:=cAj h s1 (e.trans s2.symm)
  congr 1
  exact Prod.ext e1.symm (Prod.ext e2.symm e3.symm)
theorem aU {n:Int} :civil n=none↔n< -134774\/2932896<n:=by
 have hd:=cAb n
 constructor
 ·intro h
  by_cases k: -134774<=n/\n<=2932896
  ·obtain⟨y,m,d,hI,e⟩:=hd.2 k
   rw[FF.2 ⟨hI,e⟩]at h
   cases h
  ·omega
 ·intro h
  cases e:civil n with
  |none=>rfl
  |some t=>
   obtain⟨y,m,d⟩:=t
   obtain⟨hI,e⟩:=FF.1 e
   have:=qK hI
   omega
def YA(c:UInt8):Bool:=decide (c.toNat=9\/(32<=c.toNat/\c.toNat<=47)\/(59<=c.toNat/\c.toNat<=64)\/(91<=c.toNat/\c.toNat<=96)\/(123<=c.toNat/\c.toNat<=126))
def toks:List UInt8->List (List UInt8)
 | []=> [[]]
 |c::r=>if YA c=true then []::toks r else match toks r with|p::ps=>(c::p)::ps| []=> [[c]]
theorem sJ: ∀ {a:List UInt8},(∀c∈a,YA c=false)-> ∀ {c:UInt8},YA c=true-> ∀r,toks (a++c::r)=a::toks r
 | [],_,c,hc,r=>by rw[List.nil_append,toks,if_pos hc]
 |x::a,h,c,hc,r=>by
  rw[List.cons_append,toks,if_neg (by rw[h x (by simp)];simp),sJ (fun c hc=>h c (by simp[hc])) hc r]
theorem LR: ∀ {a:List UInt8},(∀c∈a,YA c=false)->toks a= [a]
 | [],_=>rfl
 |x::a,h=>by rw[toks,if_neg (by rw[h x (by simp)];simp),LR (fun c hc=>h c (by simp[hc]))]
theorem MR {c:UInt8}(hc:YA c=true)(r:List UInt8):toks (c::r)= []::toks r:=by rw[toks,if_pos hc]
theorem X1 {c:UInt8}(hc:YA c=false)(r:List UInt8):toks (c::r)=match toks r with|p::ps=>(c::p)::ps| []=> [[c]]:=by rw[toks,if_neg (by rw[hc];simp)]
def lead(s:List UInt8):Nat:=(s.takeWhile Oct.RA).length
def tC(s:List UInt8):Option (Nat×List UInt8):=if 1<=lead s/\lead s<=2 then some (Oct.numOf (s.take (lead s)),s.drop (lead s))else none
def cG:List UInt8->Option (List UInt8)
 |c::r=>if c=58 then some r else none
 | []=>none
def OB(s:List UInt8):Option (Nat×Nat×Nat):=do
 let (a,r)<-tC s
 let r<-cG r
 let (b,r)<-tC r
 let r<-cG r
 let (c,_)<-tC r
 pure (a,b,c)
def names:List (List UInt8):= [[106,97,110],[102,101,98],[109,97,114],[97,112,114],[109,97,121],[106,117,110],[106,117,108],[97,117,103],[115,101,112],[111,99,116],[110,111,118],[100,101,99]]
def month(s:List UInt8):Nat:=if 3<=s.length then(match names.idxOf? ((s.take 3).map Oct.low)with|some i=>i+1|none=>0)else 0
structure Told where
 time:Option (Nat×Nat×Nat)
 day:Option Nat
 month:Option Nat
 year:Option Nat
def tell(t:Told)(x:List UInt8):Told:=
 if t.time=none/\OB x≠none then {t with time:=OB x}
 else if t.day=none/\1<=lead x/\lead x<=2 then {t with day:=some (Oct.numOf (x.take (lead x)))}
 else if t.month=none/\0<month x then {t with month:=some (month x)}
 else if t.year=none/\2<=lead x/\lead x<=4 then {t with year:=some (Oct.numOf (x.take (lead x)))}
 else t
def untold:Told:=⟨none,none,none,none⟩
def told(s:List UInt8):Told:=(toks s).foldl tell untold
def GC(y:Nat):Int:=if 70<=y/\y<=99 then(y:Int)+1900 else if y<=69 then(y:Int)+2000 else y
def moment(t:Told):Int×Bool:=
 match t.time,t.day,t.month,t.year with
 |some (h,mi,s),some d,some m,some y=>if Is (GC y) m d/\h<=23/\mi<=59/\s<=59 then(days (GC y) m d*86400+(h*3600+mi*60+s:Nat),true)else(0,false)
 |_,_,_,_=>(0,false)
def OA(s:List UInt8):Int×Bool:=moment (told s)
theorem DR(t:Told):tell t []=t:=by
 unfold tell
 rw[if_neg (by intro h;exact h.2 rfl),if_neg (by intro h;exact absurd h.2.1 (by decide)),if_neg (by intro h;exact absurd h.2 (by decide)),if_neg (by intro h;exact absurd h.2.1 (by decide))]
def two(n:Nat):List UInt8:= [UInt8.ofNat (48+n/10%10),UInt8.ofNat (48+n%10)]
def week:List (List UInt8):= [[84,104,117],[70,114,105],[83,97,116],[83,117,110],[77,111,110],[84,117,101],[87,101,100]]
def kB:List (List UInt8):= [[74,97,110],[70,101,98],[77,97,114],[65,112,114],[77,97,121],[74,117,110],[74,117,108],[65,117,103],[83,101,112],[79,99,116],[78,111,118],[68,101,99]]
def VD(n:Int):List UInt8:=(week[(n%7).toNat]?).getD []
def mname(m:Int):List UInt8:=(kB[(m-1).toNat]?).getD []
def clock(n:Nat):List UInt8:=two (n/3600)++58::(two (n/60%60)++58::two (n%60))
def aD(y m d:Int)(k:Int)(n:Nat):List UInt8:=
 VD k++44::32::(two d.toNat++32::(mname m++32::((two (y.toNat/100)++two (y.toNat%100))++32::(clock n++32:: [71,77,84]))))
noncomputable def text(mo:Int):List UInt8:=match civil (mo/86400)with|some (y,m,d)=>aD y m d (mo/86400) (mo%86400).toNat|none=> []
end Dt
end Go.Proofs.YtdaaoopkkhfbhaaGreatDoor
namespace Go.Proofs.YtdaaoopkkhfbhaaGreatDoor
namespace Dt
def dg(k:Nat):UInt8:=UInt8.ofNat (48+k)
theorem ZE: ∀k,k<10->(dg k).toNat=48+k/\Oct.RA (dg k)=true/\YA (dg k)=false:=by decide+kernel
theorem tJ(n:Nat):two n= [dg (n/10%10),dg (n%10)]:=rfl
theorem xJ(n:Nat): ∀c∈two n,YA c=false:=by
 intro c hc
 rw[tJ]at hc
 rcases List.mem_cons.1 hc with rfl|hc
 ·exact(ZE _ (by omega)).2.2
 ·obtain rfl:=List.mem_singleton.1 hc
  exact(ZE _ (by omega)).2.2
theorem gA8 {a:List UInt8}(ha: ∀c∈a,Oct.RA c=true){c:UInt8}(hc:Oct.RA c=false)(r:List UInt8):lead (a++c::r)=a.length:=by
 unfold lead
 induction a with
 |nil=>rw[List.nil_append,List.takeWhile_cons,hc];rfl
 |cons x a ih=>
  rw[List.cons_append,List.takeWhile_cons,ha x (by simp),if_pos rfl,zB5,ih (fun c hc=>ha c (by simp[hc])),zB5]
theorem VM {a:List UInt8}(ha: ∀c∈a,Oct.RA c=true):lead a=a.length:=by
 unfold lead
 induction a with
 |nil=>rfl
 |cons x a ih=>rw[List.takeWhile_cons,ha x (by simp),if_pos rfl,zB5,ih (fun c hc=>ha c (by simp[hc])),zB5]
theorem uJ(n:Nat): ∀c∈two n,Oct.RA c=true:=by
 intro c hc
 rw[tJ]at hc
 rcases List.mem_cons.1 hc with rfl|hc
 ·exact(ZE _ (by omega)).2.1
 ·obtain rfl:=List.mem_singleton.1 hc
  exact(ZE _ (by omega)).2.1
theorem QQ {n:Nat}(h:n<100):Oct.numOf (two n)=n:=by
 rw[tJ]
 unfold Oct.numOf
 simp only[List.foldl_cons,List.foldl_nil,(ZE (n/10%10) (by omega)).1,(ZE (n%10) (by omega)).1]
 omega
theorem hAA {a b:Nat}(ha:a<100)(hb:b<100):Oct.numOf (two a++two b)=a*100+b:=by
 rw[tJ,tJ]
 unfold Oct.numOf
 simp only[List.cons_append,List.nil_append,List.foldl_cons,List.foldl_nil,(ZE (a/10%10) (by omega)).1,(ZE (a%10) (by omega)).1,(ZE (b/10%10) (by omega)).1,(ZE (b%10) (by omega)).1]
 omega
theorem U1 {n:Nat}(h:n<100){c:UInt8}(hc:Oct.RA c=false)(r:List UInt8):tC (two n++c::r)=some (n,c::r):=by
 have hl:lead (two n++c::r)=2:=gA8 (uJ n) hc r
 unfold tC
 rw[hl,if_pos (by decide)]
 have e1:(two n++c::r).take 2=two n:=rfl
 have e2:(two n++c::r).drop 2=c::r:=rfl
 rw[e1,e2,QQ h]
theorem V1 {n:Nat}(h:n<100):tC (two n)=some (n,[]):=by
 have hl:lead (two n)=2:=VM (uJ n)
 unfold tC
 rw[hl,if_pos (by decide)]
 have e1:(two n).take 2=two n:=rfl
 have e2:(two n).drop 2= []:=rfl
 rw[e1,e2,QQ h]
theorem lAp {a b c:Nat}(ha:a<100)(hb:b<100)(hc:c<100):OB (two a++58::(two b++58::two c))=some (a,b,c):=by
 unfold OB
 rw[U1 ha (by decide)]
 simp only[Option.bind_eq_bind,Option.bind_some,cG,if_true]
 rw[U1 hb (by decide)]
 simp only[Option.bind_some,if_true]
 rw[V1 hc]
 rfl
theorem lAr {n:Nat}(h:n<100):OB (two n)=none:=by
 unfold OB
 rw[V1 h]
 rfl
theorem zQ(a b:Nat):lead (two a++two b)=4:=VM (fun c hc=>(List.mem_append.1 hc).elim (uJ a c) (uJ b c))
theorem lAq(a b:Nat):OB (two a++two b)=none:=by
 unfold OB tC
 rw[zQ,if_neg (by decide)]
 rfl
theorem mAo: ∀j,j<7->tell untold ((week[j]?).getD [])=untold/\ ∀c∈ (week[j]?).getD [],YA c=false:=by
 intro j hj
 have:j=0\/j=1\/j=2\/j=3\/j=4\/j=5\/j=6:=by omega
 rcases this with rfl|rfl|rfl|rfl|rfl|rfl|rfl<;>exact⟨by rfl,by decide⟩
theorem GX: ∀j,j<12->month ((kB[j]?).getD [])=j+1/\OB ((kB[j]?).getD [])=none/\ ∀c∈ (kB[j]?).getD [],YA c=false:=by
 intro j hj
 have:j=0\/j=1\/j=2\/j=3\/j=4\/j=5\/j=6\/j=7\/j=8\/j=9\/j=10\/j=11:=by omega
 rcases this with rfl|rfl|rfl|rfl|rfl|rfl|rfl|rfl|rfl|rfl|rfl|rfl<;>exact⟨by decide,by rfl,by decide⟩
def five(y m d:Int)(n:Nat):List (List UInt8):= [two d.toNat,mname m,two (y.toNat/100)++two (y.toNat%100),clock n,[71,77,84]]
def full(y m d:Int)(n:Nat):Told:=⟨some (n/3600,n/60%60,n%60),some d.toNat,some m.toNat,some y.toNat⟩
theorem lA8(y m d:Int)(n:Nat)(x:List UInt8):tell (full y m d n) x=full y m d n:=by
 unfold tell full
 simp
theorem dAp {y m d:Int}(h:Is y m d){n:Nat}(hn:n<86400):(five y m d n).foldl tell untold=full y m d n:=by
 obtain⟨h1,h2,h3,h4,h5,h6⟩:=h
 have hl:=ZD (leap y) m
 obtain⟨m1,m2,_⟩:=GX (m-1).toNat (by omega)
 have hd:d.toNat<100:=by omega
 unfold five
 rw[List.foldl_cons,List.foldl_cons,List.foldl_cons,List.foldl_cons,List.foldl_cons,List.foldl_nil]
 have t1:tell untold (two d.toNat)=⟨none,some d.toNat,none,none⟩:=by
  unfold tell
  rw[if_neg (by rw[lAr hd];simp),if_pos ⟨rfl,by rw[VM (uJ _)];exact⟨by show 1<=2;omega,zB3 2⟩⟩,VM (uJ _)]
  have e1:(two d.toNat).take (two d.toNat).length=two d.toNat:=List.take_length
  rw[e1,QQ hd]
  rfl
 have t2:tell ⟨none,some d.toNat,none,none⟩ (mname m)=⟨none,some d.toNat,some m.toNat,none⟩:=by
  unfold tell mname
  rw[if_neg (by rw[m2];simp),if_neg (by simp),if_pos ⟨rfl,by rw[m1];omega⟩,m1]
  have e:(m-1).toNat+1=m.toNat:=by omega
  rw[e]
 have t3:tell ⟨none,some d.toNat,some m.toNat,none⟩ (two (y.toNat/100)++two (y.toNat%100))=⟨none,some d.toNat,some m.toNat,some y.toNat⟩:=by
  unfold tell
  rw[if_neg (by rw[lAq];simp),if_neg (by simp),if_neg (by simp),if_pos ⟨rfl,by rw[zQ];decide⟩,zQ]
  have e1:(two (y.toNat/100)++two (y.toNat%100)).take 4=two (y.toNat/100)++two (y.toNat%100):=rfl
  rw[e1,hAA (by omega) (by omega)]
  have e:y.toNat/100*100+y.toNat%100=y.toNat:=by omega
  rw[e]
 have t4:tell ⟨none,some d.toNat,some m.toNat,some y.toNat⟩ (clock n)=full y m d n:=by
  unfold tell clock
  rw[lAp (by omega) (by omega) (by omega),if_pos (by simp)]
  rfl
 rw[t1,t2,t3,t4,lA8]
theorem gAV {y m d:Int}(h:Is y m d){n:Nat}(hn:n<86400):moment (full y m d n)=(days y m d*86400+n,true):=by
 have hh:=h
 obtain⟨h1,h2,h3,h4,h5,h6⟩:=h
 have hy:GC y.toNat=y:=by unfold GC;rw[if_neg (by omega),if_neg (by omega)];omega
 have hm:((m.toNat:Nat):Int)=m:=by omega
 have hd:((d.toNat:Nat):Int)=d:=by omega
 unfold moment full
 dsimp only
 rw[hy,hm,hd,if_pos ⟨hh,by omega,by omega,by omega⟩]
 congr 2
 congr 1
 omega
theorem bAF(n:Nat): ∀c∈clock n,YA c=false:=by
 intro c hc
 unfold clock at hc
 rcases List.mem_append.1 hc with hc|hc
 ·exact xJ _ c hc
 ·rcases List.mem_cons.1 hc with rfl|hc
  ·decide
  ·rcases List.mem_append.1 hc with hc|hc
   ·exact xJ _ c hc
   ·rcases List.mem_cons.1 hc with rfl|hc
    ·decide
    ·exact xJ _ c hc
theorem lAs {y m d:Int}(h:Is y m d)(n:Nat){c:UInt8}(hc:YA c=true)(r:List UInt8):
  toks (two d.toNat++c::(mname m++c::((two (y.toNat/100)++two (y.toNat%100))++c::(clock n++c::([71,77,84]++r)))))=
   two d.toNat::mname m::(two (y.toNat/100)++two (y.toNat%100))::clock n::toks ([71,77,84]++r):=by
 obtain⟨h1,h2,h3,h4,h5,h6⟩:=h
 rw[sJ (xJ _) hc,sJ (a:=mname m) (GX (m-1).toNat (by omega)).2.2 hc,sJ (fun x hx=>(List.mem_append.1 hx).elim (xJ _ x) (xJ _ x)) hc,sJ (bAF n) hc]
theorem bAP {mo y m d:Int}(h:civil (mo/86400)=some (y,m,d)):OA (text mo)=(mo,true):=by
 obtain⟨hI,hd⟩:=FF.1 h
 have hn:(mo%86400).toNat<86400:=by omega
 have ht:text mo=aD y m d (mo/86400) (mo%86400).toNat:=by unfold text;rw[h]
 obtain⟨w1,w2⟩:=mAo (mo/86400%7).toNat (by omega)
 rw[ht]
 unfold OA told aD VD
 rw[sJ w2 (by decide),MR (by decide)]
 have e:=lAs hI (mo%86400).toNat (c:=32) (by decide) []
 rw[List.append_nil]at e
 rw[e,List.foldl_cons,w1,List.foldl_cons,DR]
 have e2:toks [71,77,84]= [[71,77,84]]:=LR (by decide)
 rw[e2]
 have e3:=dAp hI hn
 unfold five at e3
 rw[e3,gAV hI hn,hd]
 congr 1
 omega
theorem I0 {mo:Int}(h:civil (mo/86400)=none):text mo= []:=by unfold text;rw[h]
end Dt
end Go.Proofs.YtdaaoopkkhfbhaaGreatDoor
namespace Go.Proofs.YtdaaoopkkhfbhaaGreatDoor
namespace Dt
theorem A6(k:Int):(VD k).length=3:=by
 unfold VD
 have hj:(k%7).toNat<7:=by omega
 generalize(k%7).toNat=j at*
 have:j=0\/j=1\/j=2\/j=3\/j=4\/j=5\/j=6:=by omega
 rcases this with rfl|rfl|rfl|rfl|rfl|rfl|rfl<;>rfl
theorem zX {m:Int}(h1:1<=m)(h2:m<=12):(mname m).length=3:=by
 unfold mname
 have hj:(m-1).toNat<12:=by omega
 generalize(m-1).toNat=j at*
 have:j=0\/j=1\/j=2\/j=3\/j=4\/j=5\/j=6\/j=7\/j=8\/j=9\/j=10\/j=11:=by omega
 rcases this with rfl|rfl|rfl|rfl|rfl|rfl|rfl|rfl|rfl|rfl|rfl|rfl<;>rfl
theorem lAH(n:Nat):(two n).length=2:=rfl
theorem bAD(n:Nat):(clock n).length=8:=rfl
def BR(y m d:Int)(n:Nat)(c:UInt8)(r:List UInt8):List UInt8:=two d.toNat++c::(mname m++c::((two (y.toNat/100)++two (y.toNat%100))++c::(clock n++c::([71,77,84]++r))))
theorem cAe(y m d k:Int)(n:Nat):aD y m d k n=(VD k++ [44,32])++BR y m d n 32 []:=by
 unfold aD BR
 simp
theorem cAc {y m d:Int}(h:Is y m d)(k:Int)(n:Nat):(aD y m d k n).length=29:=by
 obtain⟨_,_,h1,h2,_⟩:=h
 rw[cAe]
 unfold BR
 simp only[zB4,zB5,List.length_nil,A6,zX h1 h2,lAH,bAD]
theorem vU(mo:Int):(mo.tmod 86400<0->mo/86400=mo.tdiv 86400-1)/\(0<=mo.tmod 86400->mo/86400=mo.tdiv 86400/\mo%86400=mo.tmod 86400):=by
 have e1:=Int.tmod_add_mul_tdiv mo 86400
 have e2:mo.tmod 86400<86400:=Int.tmod_lt_of_pos _ (by omega)
 have e3: -86400<mo.tmod 86400:=by
  rcases Int.le_total 0 mo with h|h
  ·have:=Int.tmod_nonneg 86400 h;omega
  ·have h1:=Int.tmod_lt_of_pos (-mo) (b:=86400) (by omega)
   rw[Int.neg_tmod]at h1
   omega
 omega
end Dt
end Go.Proofs.YtdaaoopkkhfbhaaGreatDoor
namespace Go.Proofs.YtdaaoopkkhfbhaaGreatDoor
namespace Dt
theorem aAR(y:Int):before y-134774=(y-1)*365+(y-1)/4- (y-1)/100+(y-1)/400-719162:=by unfold before;omega
theorem mK {y z:Int}(h:y<=z):before y<=before z:=by
 rcases Int.lt_or_eq_of_le h with j|j
 ·have:=lK j;have:=bO y;omega
 ·rw[j];exact Int.le_refl _
theorem before_last:before 10000=3067671:=by decide
theorem CX(y:Int){m:Int}(h1:1<=m)(h2:m<=12):0<=mon (leap y) m/\mon (leap y) m<=335:=by
 have:m=1\/m=2\/m=3\/m=4\/m=5\/m=6\/m=7\/m=8\/m=9\/m=10\/m=11\/m=12:=by omega
 rcases this with rfl|rfl|rfl|rfl|rfl|rfl|rfl|rfl|rfl|rfl|rfl|rfl<;>cases leap y<;>decide
structure pE(y n m r:Int):Prop where
 low:1<=m
 high:m<=12
 left:0<=r
 sum:mon (leap y) m+r=n
theorem pE.start {y n:Int}(h:0<=n):pE y n 1 n:=⟨by omega,by omega,h,by rw[cJ];omega⟩
theorem pE.more {y n m r:Int}(h:pE y n m r)(hn:n<zD y)(hr:len (leap y) m<=r):pE y n (m+1) (r-len (leap y) m):=by
 obtain⟨h1,h2,h3,h4⟩:=h
 have hl:=JQ y
 have h12:m≠12:=by intro e;subst e;omega
 refine⟨by omega,by omega,by omega,?_⟩
 rw[PK _ h1 (by omega)];omega
theorem pE.stop {y n m r d:Int}(h:pE y n m r)(hy1:1601<=y)(hy2:y<=9999)(hd:d=n+(before y-134774))(hr:r<len (leap y) m):civil d=some (y,m,r+1):=by
 obtain⟨h1,h2,h3,h4⟩:=h
 rw[FF]
 refine⟨⟨hy1,hy2,h1,h2,by omega,by omega⟩,?_⟩
 unfold days;omega
theorem mAI {d:Int}(h1: -134774<=d)(h2:d<=2932896): ∃y:Nat,1601<=y/\y<=9999/\before y-134774<=d/\d<before (y+1)-134774:=by
 obtain⟨y,m,e,hI,hd⟩:=wZ h1 h2
 have hi:=KM hI
 have hs:=nK y
 obtain⟨a,b,_⟩:=hI
 unfold days at hd
 refine⟨y.toNat,by omega,by omega,?_,?_⟩
 ·rw[Int.toNat_of_nonneg (by omega)];omega
 ·rw[Int.toNat_of_nonneg (by omega),hs];omega
def mF(d:Int)(i:Nat):Bool:=decide (d<before (1601+i+1)-134774)
theorem hAo {d:Int}{y i:Nat}(h1:before y-134774<=d)(h:1601+i<y):mF d i=false:=by
 unfold mF
 have:=mK (y:=1601+i+1) (z:=y) (by omega)
 exact zA8 (by omega)
theorem hAp {d:Int}{y i:Nat}(h1:d<before (y+1)-134774)(h:y<=1601+i):mF d i=true:=by
 unfold mF
 have:=mK (y:=y+1) (z:=1601+i+1) (by omega)
 exact zA9 (by omega)
theorem CP {n:Nat}(h: ¬n<10):Lib.decDigits n=Lib.decDigits (n/10)++ [UInt8.ofNat (48+n%10)]:=by
 conv=>lhs;unfold Lib.decDigits
 rw[dif_neg h]
theorem cAk {n:Nat}(h:n<10):Lib.decDigits n= [UInt8.ofNat (48+n)]:=by unfold Lib.decDigits;rw[dif_pos h]
theorem cAn {y:Nat}(h1:1000<=y)(h2:y<=9999):Lib.decDigits y=two (y/100)++two (y%100):=by
 rw[CP (n:=y) (by omega),CP (n:=y/10) (by omega),CP (n:=y/10/10) (by omega),cAk (n:=y/10/10/10) (by omega)]
 unfold two
 have e1:y/100/10%10=y/10/10/10:=by omega
 have e2:y/100%10=y/10/10%10:=by omega
 have e3:y%100/10%10=y/10%10:=by omega
 have e4:y%100%10=y%10:=by omega
 rw[e1,e2,e3,e4];rfl
def aO:List (List UInt8):= [[77,111,110],[84,117,101],[87,101,100],[84,104,117],[70,114,105],[83,97,116],[83,117,110]]
theorem mAm(n:Int):aO[((n+134774)%7).toNat]? =some (VD n):=by
 unfold VD
 obtain⟨j,hj⟩: ∃j,n%7=j:=⟨_,rfl⟩
 have e:(n+134774)%7=(j+3)%7:=by omega
 have hb:0<=j/\j<7:=by omega
 rw[e,hj]
 have:j=0\/j=1\/j=2\/j=3\/j=4\/j=5\/j=6:=by omega
 rcases this with rfl|rfl|rfl|rfl|rfl|rfl|rfl<;>rfl
theorem gAQ {m:Int}(h1:1<=m)(h2:m<=12):kB[(m-1).toNat]? =some (mname m):=by
 unfold mname
 cases e:kB[(m-1).toNat]? with
 |some x=>rfl
 |none=>
  rw[List.getElem?_eq_none_iff]at e
  have:kB.length=12:=rfl
  omega
theorem dAw {p:List UInt8}(hp: ∀c∈p,YA c=false)(T:Told):(toks p).foldl tell T=(toks []).foldl tell (tell T p):=by
 rw[LR hp]
 show tell T p=tell (tell T p) []
 rw[DR]
theorem vK(T:Told):(toks []).foldl tell T=T:=DR T
def nB:List UInt8->List UInt8×List UInt8
 | []=>([],[])
 |c::r=>if YA c=true then([],r)else(c::(nB r).1,(nB r).2)
theorem rU: ∀s:List UInt8,(nB s).1.length<=s.length/\(nB s).2.length<=s.length-1
 | []=>⟨zB3 _,zB3 _⟩
 |c::r=>by
  have ih:=rU r
  rw[nB]
  split
  ·exact⟨Nat.zero_le _,zB3 _⟩
  ·refine⟨by simp;omega,by simp;omega⟩
theorem bAU {s:List UInt8}{k:Nat}{c:UInt8}(h: ∀x∈s.take k,YA x=false)(hk:s[k]? =some c)(hc:YA c=true):nB s=(s.take k,s.drop (k+1)):=by
 induction s generalizing k with
 |nil=>simp at hk
 |cons x r ih=>
  cases k with
  |zero=>
   simp at hk
   subst hk
   rw[nB,if_pos hc];rfl
  |succ k=>
   have hx:YA x=false:=h x (by simp)
   rw[nB,if_neg (by rw[hx];simp),ih (k:=k) (fun y hy=>h y (by rw[List.take_succ_cons];exact List.mem_cons_of_mem _ hy)) (by simpa using hk)]
   rfl
theorem sU {s:List UInt8}(h: ∀x∈s,YA x=false):nB s=(s,[]):=by
 induction s with
 |nil=>rfl
 |cons x r ih=>rw[nB,if_neg (by rw[h x (by simp)];simp),ih (fun y hy=>h y (by simp[hy]))]
theorem dAt(s:List UInt8)(T:Told):(toks s).foldl tell T=(toks (nB s).2).foldl tell (tell T (nB s).1):=by
 by_cases h: ∀x∈s,YA x=false
 ·rw[sU h];exact dAw h T
 ·induction s generalizing T with
  |nil=>exact absurd (fun x hx=>by cases hx) h
  |cons x r ih=>
   rw[nB]
   split
   ·rename_i hx
    rw[MR hx,List.foldl_cons]
   ·rename_i hx
    have hx':YA x=false:=by cases e:YA x with|false=>rfl|true=>exact absurd e hx
    have hr: ¬ ∀y∈r,YA y=false:=fun g=>h fun y hy=>by
     rcases List.mem_cons.1 hy with rfl|hy
     ·exact hx'
     ·exact g y hy
    obtain⟨c,hc1,hc2⟩: ∃c∈r,YA c=true:=by
     refine Classical.byContradiction fun g=>hr fun y hy=>?_
     cases e:YA y with
     |false=>rfl
     |true=>exact absurd ⟨y,hy,e⟩ g
    have key: ∀l:List UInt8,(∃c∈l,YA c=true)->toks l=(nB l).1::toks (nB l).2:=by
     intro l
     induction l with
     |nil=>rintro⟨c,hc,_⟩;cases hc
     |cons y l ihl=>
      rintro⟨c,hc,hs⟩
      rw[nB]
      split
      ·rename_i hy;rw[MR hy]
      ·rename_i hy
       have hy':YA y=false:=by cases e:YA y with|false=>rfl|true=>exact absurd e hy
       rw[X1 hy',ihl ?_]
       rcases List.mem_cons.1 hc with rfl|hc
       ·rw[hs]at hy';cases hy'
       ·exact⟨c,hc,hs⟩
    rw[X1 hx',key r ⟨c,hc1,hc2⟩]
    rfl
theorem WM(s:List UInt8):lead s<=s.length:=by unfold lead;exact(List.takeWhile_prefix _).length_le
theorem lA3(s:List UInt8):s.take (lead s)=s.takeWhile Oct.RA:=by
 unfold lead
 induction s with
 |nil=>rfl
 |cons c r ih=>
  rw[List.takeWhile_cons]
  split
  ·rw[zB5,List.take_succ_cons,ih]
  ·rfl
theorem OU(s:List UInt8):s.drop (lead s)=s.dropWhile Oct.RA:=by
 unfold lead
 induction s with
 |nil=>rfl
 |cons c r ih=>
  rw[List.takeWhile_cons,List.dropWhile_cons]
  split
  ·rw[zB5,List.drop_succ_cons,ih]
  ·rfl
theorem yQ {s:List UInt8}{k:Nat}(h:k<lead s): ∃c,s[k]? =some c/\Oct.RA c=true:=by
 have hl:=WM s
 have hk:k<s.length:=by omega
 refine⟨s[k],List.getElem?_eq_getElem hk,?_⟩
 have hm:s[k]∈s.take (lead s):=List.mem_take_iff_getElem.2 ⟨k,by omega,rfl⟩
 rw[lA3]at hm
 exact List.all_eq_true.1 List.all_takeWhile _ hm
theorem fX {s:List UInt8}{c:UInt8}(h:s[lead s]? =some c):Oct.RA c=false:=by
 have e:(s.drop (lead s))[0]? =some c:=by rw[List.getElem?_drop];exact h
 rw[OU]at e
 cases hs:s.dropWhile Oct.RA with
 |nil=>rw[hs]at e;cases e
 |cons x r=>
  rw[hs]at e
  have hx:x=c:=zB2 e
  subst hx
  have:=List.head?_dropWhile_not Oct.RA s
  rw[hs]at this
  simpa using this
theorem gAb {s:List UInt8}{n:Nat}(h1: ∀k,k<n-> ∃c,s[k]? =some c/\Oct.RA c=true)(h2: ∀c,s[n]? =some c->Oct.RA c=false):lead s=n:=by
 rcases Nat.lt_trichotomy (lead s) n with h|h|h
 ·obtain⟨c,e,hc⟩:=h1 _ h
  rw[fX e]at hc;cases hc
 ·exact h
 ·obtain⟨c,e,hc⟩:=yQ h
  rw[h2 c e]at hc;cases hc
theorem gAa(s:List UInt8):lead (s.drop (lead s))=0:=by
 refine gAb (n:=0) (fun k hk=>absurd hk (Nat.not_lt_zero _)) (fun c hc=>?_)
 rw[List.getElem?_drop]at hc
 exact fX hc
theorem hAB: ∀ {l:List UInt8},(∀c∈l,Oct.RA c=true)->Oct.numOf l<10^l.length:=by
 intro l h
 have key: ∀(l:List UInt8)(n:Nat),(∀c∈l,Oct.RA c=true)->l.foldl (fun n c=>n*10+(c.toNat-48)) n<(n+1)*10^l.length:=by
  intro l
  induction l with
  |nil=>intro n _;simp
  |cons c r ih=>
   intro n h
   have hc:Oct.RA c=true:=h c (by simp)
   have hb:48<=c.toNat/\c.toNat<=57:=by simpa[Oct.RA]using hc
   have h1:=ih (n*10+(c.toNat-48)) (fun x hx=>h x (by simp[hx]))
   rw[List.foldl_cons,zB5,Nat.pow_succ]
   refine Nat.lt_of_lt_of_le h1 ?_
   have h2:(n*10+(c.toNat-48)+1)<=(n+1)*10:=by omega
   calc (n*10+(c.toNat-48)+1)*10^r.length<=((n+1)*10)*10^r.length:=Nat.mul_le_mul_right _ h2
    _=(n+1)*(10^r.length*10):=by rw[Nat.mul_assoc,Nat.mul_comm 10]
 have:=key l 0 h
 simpa[Oct.numOf]using this
theorem jY {s:List UInt8}{k:Nat}(hk:k<=lead s):Oct.numOf (s.take k)<10^k:=by
 have hl:=WM s
 have h:=hAB (l:=s.take k) (fun c hc=>by
  obtain⟨j,hj,e⟩:=List.mem_take_iff_getElem.1 hc
  obtain⟨d,e2,hd⟩:=yQ (s:=s) (k:=j) (by omega)
  rw[List.getElem?_eq_getElem (by omega)]at e2
  rw[<-e,zB2 e2];exact hd)
 rw[List.length_take,Nat.min_eq_left (by omega)]at h
 exact h
def SB(s:List UInt8)(least most:Nat):Option (Nat×List UInt8):=if least<=lead s/\lead s<=most then some (Oct.numOf (s.take (lead s)),s.drop (lead s))else none
theorem qU(s:List UInt8):SB s 1 2=tC s:=rfl
theorem pU {s r:List UInt8}{a b n:Nat}(h:SB s a b=some (n,r))(hb:b<=4):n<10000/\r.length<=s.length/\lead r=0:=by
 unfold SB at h
 split at h
 ·rename_i hh
  obtain⟨e1,e2⟩:=Prod.mk.inj (zB2 h)
  have h1:=jY (s:=s) (k:=lead s) (zB3 _)
  have h2:10^lead s<=10^4:=Nat.pow_le_pow_right (by omega) (by omega)
  refine⟨by omega,by rw[<-e2,List.length_drop];omega,by rw[<-e2];exact gAa s⟩
 ·cases h
theorem I1 {r:List UInt8}(h:lead r=0):tC r=none:=by unfold tC;rw[h,if_neg (by omega)]
def skip(r:List UInt8):List UInt8:=Lib.trimPrefix r [58]
theorem pR(r:List UInt8):(∃q,cG r=some q/\skip r=q)\/(cG r=none/\skip r=r):=by
 unfold skip Lib.trimPrefix Lib.hasPrefix
 cases r with
 |nil=>exact .inr ⟨rfl,rfl⟩
 |cons c q=>
  by_cases h:c=58
  ·subst h;exact .inl ⟨q,rfl,by simp⟩
  ·refine .inr ⟨by show(if c=58 then some q else none)=none;rw[if_neg h],?_⟩
   rw[if_neg]
   simp;intro e;exact h e.symm
theorem kAz(r:List UInt8):(skip r).length<=r.length:=by
 rcases pR r with⟨q,h,e⟩|⟨_,e⟩
 ·rw[e]
  unfold cG at h
  cases r with
  |nil=>cases h
  |cons c s=>
   dsimp only at h
   split at h
   ·cases h;simp
   ·cases h
 ·rw[e];exact zB3 _
structure Clock(s:List UInt8)(k:Nat)(ns:List Nat)(r:List UInt8):Prop where
 few:ns.length=k
 small: ∀n∈ns,n<10000
 shorter:r.length<=s.length
 all:OB s=match k,ns with
  |0,_=>(do let (a,r)<-tC r;let r<-cG r;let (b,r)<-tC r;let r<-cG r;let (c,_)<-tC r;pure (a,b,c))
  |1,[a]=>(do let (b,r)<-tC r;let r<-cG r;let (c,_)<-tC r;pure (a,b,c))
  |2,[a,b]=>(do let (c,_)<-tC r;pure (a,b,c))
  |3,[a,b,c]=>some (a,b,c)
  |_,_=>none
theorem Clock.start (s:List UInt8):Clock s 0 [] s:=⟨rfl,by simp,zB3 _,rfl⟩
theorem Clock.no {s r:List UInt8}{k:Nat}{ns:List Nat}(h:Clock s k ns r)(hk:k<3)(hn:tC r=none):OB s=none:=by
 rw[h.all]
 have hf:=h.few
 match k,ns,hk,hf with
 |0,_,_,_=>dsimp only;rw[hn];rfl
 |1,[a],_,_=>dsimp only;rw[hn];rfl
 |2,[a,b],_,_=>dsimp only;rw[hn];rfl
theorem Clock.more {s r q:List UInt8}{k n:Nat}{ns:List Nat}(h:Clock s k ns r)(hk:k<3)(hn:tC r=some (n,q)):Clock s (k+1) (ns++ [n]) (skip q):=by
 have hc:=pU (a:=1) (b:=2) (show SB r 1 2=some (n,q) from hn) (by omega)
 have hs:=kAz q
 have hr:=h.shorter
 refine⟨by rw[zB4,h.few];rfl,fun x hx=>?_,by omega,?_⟩
 ·rcases List.mem_append.1 hx with hx|hx
  ·exact h.small x hx
  ·rw[List.mem_singleton.1 hx];exact hc.1
 ·rw[h.all]
  have hf:=h.few
  match k,ns,hk,hf with
  |0,[],_,_=>
   dsimp only[List.nil_append]
   rw[hn]
   rcases pR q with⟨u,e1,e2⟩|⟨e1,e2⟩
   ·rw[e2]
    simp only[Option.bind_eq_bind,Option.bind_some,e1]
   ·rw[e2,I1 hc.2.2]
    simp only[Option.bind_eq_bind,Option.bind_some,e1,Option.bind_none]
  |1,[a],_,_=>
   dsimp only[List.cons_append,List.nil_append]
   rw[hn]
   rcases pR q with⟨u,e1,e2⟩|⟨e1,e2⟩
   ·rw[e2]
    simp only[Option.bind_eq_bind,Option.bind_some,e1]
   ·rw[e2,I1 hc.2.2]
    simp only[Option.bind_eq_bind,Option.bind_some,e1,Option.bind_none]
  |2,[a,b],_,_=>
   dsimp only[List.cons_append,List.nil_append]
   rw[hn]
   rfl
theorem Clock.done {s r:List UInt8}{ns:List Nat}(h:Clock s 3 ns r): ∃a b c,ns= [a,b,c]/\OB s=some (a,b,c)/\a<10000/\b<10000/\c<10000:=by
 have hf:=h.few
 have ha:=h.all
 have hs:=h.small
 match ns,hf with
 | [a,b,c],_=>exact⟨a,b,c,rfl,ha,hs a (by simp),hs b (by simp),hs c (by simp)⟩
end Dt
end Go.Proofs.YtdaaoopkkhfbhaaGreatDoor
namespace Go.Proofs.YtdaaoopkkhfbhaaGreatDoor
open Go.RowKit Go.Lib
def FX:List Int:= [31,28,31,30,31,30,31,31,30,31,30,31]
structure PB(w:World):Prop where
 std:Std w
 lens:Lib.TabIs Tryz.prog w "cracknel/date.monthLengths" .i64 FX
 names:w.var? Tryz.prog "cracknel/date.monthNames" =some (FA Dt.kB)
 week:w.var? Tryz.prog "cracknel/date.weekDays" =some (FA Dt.aO)
theorem NP:Tryz.prog.globalNamed "cracknel/date.monthLengths" =some 4:=by kernel_rfl
theorem rM:Tryz.prog.globalNamed "cracknel/date.monthNames" =some 2:=by kernel_rfl
theorem OP:Tryz.prog.globalNamed "cracknel/date.weekDays" =some 3:=by kernel_rfl
theorem PB.below {w w':World}(h:PB w)(hb:Below w.heap.size w w'):PB w':=
 ⟨h.std.below hb,Go.Joins.tab_stays NP h.lens hb (zB3 _),Go.Joins.var_stays rM h.names hb (zB3 _),Go.Joins.var_stays OP h.week hb (zB3 _)⟩
theorem PB.len {w:World}(h:PB w)(m:Nat)(h1:1<=m)(h2:m<=12):w.cell? ⟨4,m-1,none⟩=some (.int .i64 (Dt.len false m)):=by
 have hc:=h.lens.cell NP (m-1) (by show m-1<12;omega)
 rw[hc]
 have:m=1\/m=2\/m=3\/m=4\/m=5\/m=6\/m=7\/m=8\/m=9\/m=10\/m=11\/m=12:=by omega
 rcases this with rfl|rfl|rfl|rfl|rfl|rfl|rfl|rfl|rfl|rfl|rfl|rfl<;>rfl
theorem PB.name {w:World}(h:PB w){i:Nat}{s:List UInt8}(hs:Dt.kB[i]? =some s):w.cell? ⟨2,i,none⟩=some (gA s):=by
 rw[World.var?_cell rM h.names i,ZK,hs];rfl
theorem PB.day {w:World}(h:PB w){i:Nat}{s:List UInt8}(hs:Dt.aO[i]? =some s):w.cell? ⟨3,i,none⟩=some (gA s):=by
 rw[World.var?_cell OP h.week i,ZK,hs];rfl
theorem PB.row {w:World}(h:PB w): ∃t fr,w.heap[2]? =some (.cells (FA Dt.kB) t fr):=by
 have hn:=h.names
 unfold World.var? at hn
 rw[rM]at hn
 dsimp only[Option.bind]at hn
 split at hn
 ·rename_i cs t fr hb
  cases hn
  exact⟨t,fr,hb⟩
 ·cases hn
theorem lAA(s:ByteArray)(w:World):
  Calls Tryz.prog 280 #[.string s,.string ⟨#[48,49,50,51,52,53,54,55,56,57]⟩] w fun e w'=>e= .returned (.string ⟨(s.data.toList.drop (Dt.lead s.data.toList)).toArray⟩)/\Below w.heap.size w w':=by
 refine(Any.strings_TrimLeft_laid Tryz.lays161 (by kernel_rfl) s ⟨#[48,49,50,51,52,53,54,55,56,57]⟩ w (by decide) (ascii_of_all (by decide))).mono fun e w' ⟨h1,h2⟩=>⟨?_,h2⟩
 rw[h1,Dt.OU]
 have e:(fun c:UInt8=> [(48:UInt8),49,50,51,52,53,54,55,56,57].contains c)=Oct.RA:=by
  funext c
  have key: ∀n,n<256-> [(48:UInt8),49,50,51,52,53,54,55,56,57].contains (UInt8.ofNat n)=Oct.RA (UInt8.ofNat n):=by decide+kernel
  have:=key c.toNat c.toNat_lt
  rwa [UInt8.ofNat_toNat]at this
 unfold Lib.trimLeftS
 rw[<-e]
theorem kAy(s:ByteArray)(w:World):
  Calls Tryz.prog 150 #[.string s,.string ⟨#[58]⟩] w fun e w'=>e= .returned (.string ⟨(Dt.skip s.data.toList).toArray⟩)/\w=w':=
 (Tryz.strings_TrimPrefix s ⟨#[58]⟩ w).mono fun _ _ ⟨h1,h2⟩=>⟨h1,h2.symm⟩
end Go.Proofs.YtdaaoopkkhfbhaaGreatDoor
namespace Go.Proofs.YtdaaoopkkhfbhaaGreatDoor
open Go.ChangeShapes Go.WideShapes Go.ChangeAt Go.WideMaps Go.WideElems Go.RowKit
theorem bAr {H:Type}{enc:TypeId×Value->H}{P:Program}{w:World}{base:Nat}{sp:Nat->Bool}{held:Bool}{fuel:Nat}{t e:TypeId}{n:Nat}{cs:List Value}{ss:List (List UInt8)}{p:List MemPlace}
  (ht:P.underlying t=some (.array n e))(he:P.underlying e=some .string)(hce:P.cellsOf e=1)(hct:P.cellsOf t=n)
  (h:DataW.trod enc P w base sp held fuel t cs=some (.agg (ss.map fun s=> .lit (.string s)),p)):cs=ss.map gA:=by
 cases fuel with
 |zero=>simp[DataW.trod]at h
 |succ fuel=>
  simp only[DataW.trod,ht,hce,hct,Nat.mul_one]at h
  split at h
  ·rename_i hl
   obtain⟨xs,hm,hx⟩:=Option.map_eq_some_iff.1 h
   have hxs:xs.map (·.1)=ss.map fun s=>(DataW.lit (.string s):DataW H):=by
    have:=congrArg Prod.fst hx
    simpa using this
   have hxl:xs.length=n:=by simpa using Lib.mapM_length hm
   have hzl:ss.length=n:=by
    have:=congrArg List.length hxs
    simp at this
    omega
   apply List.ext_getElem?
   intro i
   by_cases hi:i<n
   ·obtain⟨b,hb,hf⟩:=Lib.mapM_at hm i i (by simp[hi])
    obtain⟨s,hc,rfl,_⟩:=DataW.trod_string he hf
    have h1:cs[i]? =some (.string s):=by
     have:=congrArg (·[0]?) hc
     simpa[List.getElem?_take,List.getElem?_drop]using this
    have h2:(xs.map (·.1))[i]? =some (DataW.lit (.string s.data.toList):DataW H):=by simp[hb]
    rw[hxs]at h2
    simp only[List.getElem?_map,Option.map_eq_some_iff,DataW.lit.injEq,Lit.string.injEq]at h2
    obtain⟨s',hs',e1⟩:=h2
    rw[h1,List.getElem?_map,hs',e1]
    rfl
   ·rw[List.getElem?_eq_none (by omega),List.getElem?_eq_none (by simp;omega)]
  ·cases h
theorem aS {P:Program}{W:World}{name:String}{ss:List (List UInt8)}{rest:List (String×DataW Unit)}{g:Nat}{t e:TypeId}{n:Nat}
  (hg:P.globalNamed name=some g)(hty:(P.globals[g]?).map (·.type)=some t)(ht:P.underlying t=some (.array n e))(he:P.underlying e=some .string)(hce:P.cellsOf e=1)(hct:P.cellsOf t=n)
  (h:laidMet P ((name,.agg (ss.map fun s=> .lit (.string s)))::rest) W):W.var? P name=some (FA ss):=by
 obtain⟨ps,⟨g',t',cs,fuel,p,q,hg',ht',hvar,hd,_,_⟩,_⟩:=h
 obtain rfl:=zB2 (hg.symm.trans hg')
 obtain rfl:=zB2 (hty.symm.trans ht')
 have hc:=bAr ht he hce hct hd
 rw[hvar]
 unfold FA
 rw[<-hc]
theorem gAj:Rows.laid_cracknel_date_monthLengths=Lib.tabData (H:=Unit) .i64 FX:=by rfl
theorem laidNames:Rows.laid_cracknel_date_monthNames (H:=Unit)= .agg (Dt.kB.map fun s=> .lit (.string s)):=by rfl
theorem gA1:Rows.laid_cracknel_date_weekDays (H:=Unit)= .agg (Dt.aO.map fun s=> .lit (.string s)):=by rfl
end Go.Proofs.YtdaaoopkkhfbhaaGreatDoor
