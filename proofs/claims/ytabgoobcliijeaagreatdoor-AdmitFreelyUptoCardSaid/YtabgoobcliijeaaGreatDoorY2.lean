/- The contracts of functions of the library of Go that are wanted here, at the numbers of this translation (laid by the tools of the kit). -/
import Derived.Shelf.Strings.Builder1
import Derived.Shelf.Strings.Builder2
import Derived.Shelf.Strings.OnBuilder
import Derived.Shelf.Strings.Trim
import Derived.Shelf.Small.Utf8
import Derived.Shelf.Small.Strs
import Derived.Shelf.Small.Wraps
import Derived.Shelf.Strconv.Itoa0
import Derived.Shelf.Strconv.Itoa1
import Derived.Shelf.LaysM
import Derived.Shelf.Strconv.Itoa2
import Derived.Shelf.Strconv.Itoa3
import Derived.Shelf.Strconv.Itoa4
import Derived.Shelf.Strings.Search1
import Derived.Shelf.Strings.Search2
import Derived.Shelf.Strings.Cut
import Derived.Shelf.Strings.Shaped
import Derived.Shelf.Strings.LastIndex
import Derived.Shelf.Strings.Prefix
import Derived.Shelf.Strings.Runes
import Derived.Shelf.Strings.IndexAny
import Derived.Shelf.Strings.AsciiSet
import Derived.Shelf.Strings.IndexAnyAll
import Derived.Shelf.Unicode.DecodeSlow
import Derived.Test.YtabgoobcliijeaaGreatDoorProg
import Derived.Test.YtabgoobcliijeaaGreatDoorY1
import Derived.Lib.SmallJoins
import Derived.LaidMore
import Derived.Shelf.Vars
import Derived.Stop.LaidErr
import Derived.HandedShaped
import Derived.Lib.TrailingZeros
import Derived.Stop.Joined
import Derived.Lib.LaidTab
import Derived.Shelf.Strings.SlTrimAscii
import Derived.Lay
namespace Go.Proofs
open Go.Shelf
def Tryz.lays156_ren:Go.Shelf.Ren:=⟨fun|156=>119|165=>154|166=>155|169=>156|240=>187|241=>188|276=>212|277=>213|n=>n,fun|31=>27|9=>9|3=>3|4=>4|0=>0|20=>20|72=>159|76=>163|70=>157|37=>110|75=>162|127=>198|164=>217|5=>5|80=>165|n=>n,fun|n=>n⟩
theorem Tryz.lays156:Go.Proofs.Lays.n156 Tryz.prog Tryz.lays156_ren:= {
 mixed:=by kernel_rfl
 f156:=Tryz.func119.trans (congrArg some (by kernel_rfl))
 f165:=Tryz.func154.trans (congrArg some (by kernel_rfl))
 f166:=Tryz.func155.trans (congrArg some (by kernel_rfl))
 f169:=Tryz.func156.trans (congrArg some (by kernel_rfl))
 f240:=Tryz.func187.trans (congrArg some (by kernel_rfl))
 f241:=Tryz.func188.trans (congrArg some (by kernel_rfl))
 f276:=Tryz.func212.trans (congrArg some (by kernel_rfl))
 f277:=Tryz.func213.trans (congrArg some (by kernel_rfl))
 t0:=Tryz.underlying0
 a0:=Tryz.isAgg0
 z0:=Tryz.sizeOf0
 v0:=Tryz.zeroValue0
 t3:=Tryz.underlying3
 a3:=Tryz.isAgg3
 z3:=Tryz.sizeOf3
 v3:=Tryz.zeroValue3
 t4:=Tryz.underlying4
 a4:=Tryz.isAgg4
 z4:=Tryz.sizeOf4
 v4:=Tryz.zeroValue4
 t9:=Tryz.underlying9
 a9:=Tryz.isAgg9
 z9:=Tryz.sizeOf9
 v9:=Tryz.zeroValue9
 t20:=Tryz.underlying20
 a20:=Tryz.isAgg20
 z20:=Tryz.sizeOf20
 v20:=Tryz.zeroValue20
 t31:=Tryz.underlying27
 a31:=Tryz.isAgg27
 z31:=Tryz.sizeOf27
 v31:=Tryz.zeroValue27
 t37:=Tryz.underlying110
 a37:=Tryz.isAgg110
 z37:=Tryz.sizeOf110
 v37:=Tryz.zeroValue110
 t70:=Tryz.underlying157
 a70:=Tryz.isAgg157
 z70:=Tryz.sizeOf157
 v70:=Tryz.zeroValue157
 t72:=Tryz.underlying159
 a72:=Tryz.isAgg159
 z72:=Tryz.sizeOf159
 v72:=Tryz.zeroValue159
 t75:=Tryz.underlying162
 a75:=Tryz.isAgg162
 z75:=Tryz.sizeOf162
 v75:=Tryz.zeroValue162
 t76:=Tryz.underlying163
 a76:=Tryz.isAgg163
 z76:=Tryz.sizeOf163
 v76:=Tryz.zeroValue163
 t127:=Tryz.underlying198
 a127:=Tryz.isAgg198
 z127:=Tryz.sizeOf198
 v127:=Tryz.zeroValue198
 t164:=Tryz.underlying217
 a164:=Tryz.isAgg217
 z164:=Tryz.sizeOf217
 v164:=Tryz.zeroValue217}
theorem Tryz.Builder_Extra_156:Builder.Extra Tryz.prog Tryz.lays156_ren:= {
 sizeBuilder:=by kernel_rfl
 liesBuilder:=by kernel_rfl
 t5:=Tryz.underlying5
 a5:=Tryz.isAgg5
 z5:=Tryz.sizeOf5
 v5:=Tryz.zeroValue5
 infoByte:=by kernel_rfl
 cellsByte:=by kernel_rfl
 sizeByte:=by kernel_rfl
 neB5:=by decide}
open Go.RowKit in
open Go.RowKit in
theorem Tryz.strings_Join (bk o c:Nat)(xs:List ByteArray)(sep:ByteArray)(w:World)(hcells: ∀(j:Nat) x,xs[j]? =some x->w.cell? ⟨bk,o+j,none⟩=some (.string x))(hbk:bk<w.heap.size)(hN:xs.length<=140737488355328)(hcap:xs.length<=c)(hlen:(Lib.join (xs.map (·.data.toList)) sep.data.toList).length<=140737488355328):
  Calls Tryz.prog 119 #[.slice (some ⟨bk,o,none⟩) xs.length c,.string sep] w fun e w'=>e= .returned (.string ⟨(Lib.join (xs.map (·.data.toList)) sep.data.toList).toArray⟩)/\Below w.heap.size w w':=Any.strings_Join Tryz.lays156 Tryz.Builder_Extra_156 bk o c xs sep w hcells hbk hN hcap hlen
def Tryz.lays161_ren:Go.Shelf.Ren:=⟨fun|161=>163|231=>197|227=>143|233=>198|235=>199|228=>144|197=>220|151=>221|260=>228|152=>141|137=>175|119=>176|224=>177|225=>178|217=>203|266=>223|n=>n,fun|9=>9|4=>4|3=>3|5=>5|117=>154|116=>153|0=>0|124=>187|105=>225|21=>21|119=>233|46=>186|139=>236|138=>235|n=>n,fun|3=>8|4=>9|n=>n⟩
theorem Tryz.lays161:Go.Proofs.Lays.n161 Tryz.prog Tryz.lays161_ren:= {
 mixed:=by kernel_rfl
 f119:=Tryz.func176.trans (congrArg some (by kernel_rfl))
 f137:=Tryz.func175.trans (congrArg some (by kernel_rfl))
 f151:=Tryz.func221.trans (congrArg some (by kernel_rfl))
 f152:=Tryz.func141.trans (congrArg some (by kernel_rfl))
 f161:=Tryz.func163.trans (congrArg some (by kernel_rfl))
 f197:=Tryz.func220.trans (congrArg some (by kernel_rfl))
 f217:=Tryz.func203.trans (congrArg some (by kernel_rfl))
 f224:=Tryz.func177.trans (congrArg some (by kernel_rfl))
 f225:=Tryz.func178.trans (congrArg some (by kernel_rfl))
 f227:=Tryz.func143.trans (congrArg some (by kernel_rfl))
 f228:=Tryz.func144.trans (congrArg some (by kernel_rfl))
 f231:=Tryz.func197.trans (congrArg some (by kernel_rfl))
 f233:=Tryz.func198.trans (congrArg some (by kernel_rfl))
 f235:=Tryz.func199.trans (congrArg some (by kernel_rfl))
 f260:=Tryz.func228.trans (congrArg some (by kernel_rfl))
 f266:=Tryz.func223.trans (congrArg some (by kernel_rfl))
 t0:=Tryz.underlying0
 a0:=Tryz.isAgg0
 z0:=Tryz.sizeOf0
 v0:=Tryz.zeroValue0
 t3:=Tryz.underlying3
 a3:=Tryz.isAgg3
 z3:=Tryz.sizeOf3
 v3:=Tryz.zeroValue3
 t4:=Tryz.underlying4
 a4:=Tryz.isAgg4
 z4:=Tryz.sizeOf4
 v4:=Tryz.zeroValue4
 t5:=Tryz.underlying5
 a5:=Tryz.isAgg5
 z5:=Tryz.sizeOf5
 v5:=Tryz.zeroValue5
 t9:=Tryz.underlying9
 a9:=Tryz.isAgg9
 z9:=Tryz.sizeOf9
 v9:=Tryz.zeroValue9
 t21:=Tryz.underlying21
 a21:=Tryz.isAgg21
 z21:=Tryz.sizeOf21
 v21:=Tryz.zeroValue21
 t46:=Tryz.underlying186
 a46:=Tryz.isAgg186
 z46:=Tryz.sizeOf186
 v46:=Tryz.zeroValue186
 t105:=Tryz.underlying225
 a105:=Tryz.isAgg225
 z105:=Tryz.sizeOf225
 v105:=Tryz.zeroValue225
 t116:=Tryz.underlying153
 a116:=Tryz.isAgg153
 z116:=Tryz.sizeOf153
 t117:=Tryz.underlying154
 a117:=Tryz.isAgg154
 z117:=Tryz.sizeOf154
 v117:=Tryz.zeroValue154
 t119:=Tryz.underlying233
 a119:=Tryz.isAgg233
 z119:=Tryz.sizeOf233
 t124:=Tryz.underlying187
 a124:=Tryz.isAgg187
 z124:=Tryz.sizeOf187
 v124:=Tryz.zeroValue187
 t138:=Tryz.underlying235
 a138:=Tryz.isAgg235
 z138:=Tryz.sizeOf235
 v138:=Tryz.zeroValue235
 t139:=Tryz.underlying236
 a139:=Tryz.isAgg236
 z139:=Tryz.sizeOf236
 v139:=Tryz.zeroValue236
 g3:=by kernel_rfl
 g4:=by kernel_rfl}
open Go.RowKit in
def Tryz.lays137_ren:Go.Shelf.Ren:=⟨fun|137=>175|217=>203|266=>223|n=>n,fun|9=>9|5=>5|3=>3|n=>n,fun|n=>n⟩
theorem Tryz.lays137:Go.Proofs.Lays.n137 Tryz.prog Tryz.lays137_ren:= {
 mixed:=by kernel_rfl
 f137:=Tryz.func175.trans (congrArg some (by kernel_rfl))
 f217:=Tryz.func203.trans (congrArg some (by kernel_rfl))
 f266:=Tryz.func223.trans (congrArg some (by kernel_rfl))
 t3:=Tryz.underlying3
 a3:=Tryz.isAgg3
 z3:=Tryz.sizeOf3
 v3:=Tryz.zeroValue3
 t5:=Tryz.underlying5
 a5:=Tryz.isAgg5
 z5:=Tryz.sizeOf5
 v5:=Tryz.zeroValue5
 t9:=Tryz.underlying9
 a9:=Tryz.isAgg9
 z9:=Tryz.sizeOf9
 v9:=Tryz.zeroValue9}
open Go.RowKit in
theorem Tryz.strings_IndexByte (s:ByteArray)(c:Int)(w:World):
  Calls Tryz.prog 175 #[.string s,.int .u8 c] w fun e w'=>e= .returned (.int .i64 (Lib.indexByte s.data.toList c.toNat.toUInt8))/\w'=w:=Any.strings_IndexByte Tryz.lays137 s c w
def Tryz.lays103_ren:Go.Shelf.Ren:=⟨fun|103=>89|210=>124|206=>107|n=>n,fun|9=>9|4=>4|24=>74|3=>3|n=>n,fun|n=>n⟩
theorem Tryz.lays103:Go.Proofs.Lays.n103 Tryz.prog Tryz.lays103_ren:= {
 mixed:=by kernel_rfl
 f103:=Tryz.func89.trans (congrArg some (by kernel_rfl))
 f206:=Tryz.func107.trans (congrArg some (by kernel_rfl))
 f210:=Tryz.func124.trans (congrArg some (by kernel_rfl))
 t3:=Tryz.underlying3
 a3:=Tryz.isAgg3
 z3:=Tryz.sizeOf3
 v3:=Tryz.zeroValue3
 t4:=Tryz.underlying4
 a4:=Tryz.isAgg4
 z4:=Tryz.sizeOf4
 v4:=Tryz.zeroValue4
 t9:=Tryz.underlying9
 a9:=Tryz.isAgg9
 z9:=Tryz.sizeOf9
 v9:=Tryz.zeroValue9
 t24:=Tryz.underlying74
 a24:=Tryz.isAgg74
 z24:=Tryz.sizeOf74
 v24:=Tryz.zeroValue74}
open Go.RowKit in
theorem Tryz.strings_CutPrefix (s p:ByteArray)(w:World):
  Calls Tryz.prog 89 #[.string s,.string p] w fun e w'=>e= .returned (.tuple #[.string ⟨(Lib.trimPrefix s.data.toList p.data.toList).toArray⟩,.bool (Lib.hasPrefix s.data.toList p.data.toList)])/\w'=w:=Any.strings_CutPrefix Tryz.lays103 s p w
def Tryz.lays104_ren:Go.Shelf.Ren:=⟨fun|104=>125|211=>164|207=>200|n=>n,fun|9=>9|4=>4|24=>74|3=>3|n=>n,fun|n=>n⟩
theorem Tryz.lays104:Go.Proofs.Lays.n104 Tryz.prog Tryz.lays104_ren:= {
 mixed:=by kernel_rfl
 f104:=Tryz.func125.trans (congrArg some (by kernel_rfl))
 f207:=Tryz.func200.trans (congrArg some (by kernel_rfl))
 f211:=Tryz.func164.trans (congrArg some (by kernel_rfl))
 t3:=Tryz.underlying3
 a3:=Tryz.isAgg3
 z3:=Tryz.sizeOf3
 v3:=Tryz.zeroValue3
 t4:=Tryz.underlying4
 a4:=Tryz.isAgg4
 z4:=Tryz.sizeOf4
 v4:=Tryz.zeroValue4
 t9:=Tryz.underlying9
 a9:=Tryz.isAgg9
 z9:=Tryz.sizeOf9
 v9:=Tryz.zeroValue9
 t24:=Tryz.underlying74
 a24:=Tryz.isAgg74
 z24:=Tryz.sizeOf74
 v24:=Tryz.zeroValue74}
open Go.RowKit in
theorem Tryz.strings_CutSuffix (s p:ByteArray)(w:World)(hs:s.size<=9223372036854775807):
  Calls Tryz.prog 125 #[.string s,.string p] w fun e w'=>e= .returned (.tuple #[.string ⟨(Lib.trimSuffix s.data.toList p.data.toList).toArray⟩,.bool (Lib.hasSuffix s.data.toList p.data.toList)])/\w'=w:=Any.strings_CutSuffix Tryz.lays104 s p w hs
def Tryz.laysM171_ren:Go.Shelf.Ren:=⟨fun|171=>160|243=>192|246=>162|283=>193|284=>194|285=>195|286=>196|129=>216|317=>215|318=>217|319=>218|320=>219|337=>226|338=>227|n=>n,fun|3=>3|9=>9|2=>2|4=>4|171=>200|0=>0|53=>201|37=>110|5=>5|173=>204|212=>222|51=>179|20=>20|213=>223|46=>186|232=>231|233=>232|n=>n,fun|17=>5|18=>6|19=>7|n=>n⟩
theorem Tryz.laysM171:Go.Proofs.LaysM.n171 Tryz.prog Tryz.laysM171_ren:= {
 mixed:=by kernel_rfl
 f129:=Tryz.func216.trans (congrArg some (by kernel_rfl))
 f171:=Tryz.func160.trans (congrArg some (by kernel_rfl))
 f243:=Tryz.func192.trans (congrArg some (by kernel_rfl))
 f246:=Tryz.func162.trans (congrArg some (by kernel_rfl))
 f283:=Tryz.func193.trans (congrArg some (by kernel_rfl))
 f284:=Tryz.func194.trans (congrArg some (by kernel_rfl))
 f285:=Tryz.func195.trans (congrArg some (by kernel_rfl))
 f286:=Tryz.func196.trans (congrArg some (by kernel_rfl))
 f317:=Tryz.func215.trans (congrArg some (by kernel_rfl))
 f318:=Tryz.func217.trans (congrArg some (by kernel_rfl))
 f319:=Tryz.func218.trans (congrArg some (by kernel_rfl))
 f320:=Tryz.func219.trans (congrArg some (by kernel_rfl))
 f337:=Tryz.func226.trans (congrArg some (by kernel_rfl))
 f338:=Tryz.func227.trans (congrArg some (by kernel_rfl))
 t0:=Tryz.underlying0
 a0:=Tryz.isAgg0
 z0:=Tryz.sizeOf0
 v0:=Tryz.zeroValue0
 t2:=Tryz.underlying2
 a2:=Tryz.isAgg2
 z2:=Tryz.sizeOf2
 v2:=Tryz.zeroValue2
 t3:=Tryz.underlying3
 a3:=Tryz.isAgg3
 z3:=Tryz.sizeOf3
 v3:=Tryz.zeroValue3
 t4:=Tryz.underlying4
 a4:=Tryz.isAgg4
 z4:=Tryz.sizeOf4
 v4:=Tryz.zeroValue4
 t5:=Tryz.underlying5
 a5:=Tryz.isAgg5
 z5:=Tryz.sizeOf5
 v5:=Tryz.zeroValue5
 t9:=Tryz.underlying9
 a9:=Tryz.isAgg9
 z9:=Tryz.sizeOf9
 v9:=Tryz.zeroValue9
 t20:=Tryz.underlying20
 a20:=Tryz.isAgg20
 z20:=Tryz.sizeOf20
 v20:=Tryz.zeroValue20
 t37:=Tryz.underlying110
 a37:=Tryz.isAgg110
 z37:=Tryz.sizeOf110
 v37:=Tryz.zeroValue110
 t46:=Tryz.underlying186
 a46:=Tryz.isAgg186
 z46:=Tryz.sizeOf186
 v46:=Tryz.zeroValue186
 t51:=Tryz.underlying179
 a51:=Tryz.isAgg179
 z51:=Tryz.sizeOf179
 v51:=Tryz.zeroValue179
 t53:=Tryz.underlying201
 a53:=Tryz.isAgg201
 z53:=Tryz.sizeOf201
 v53:=Tryz.zeroValue201
 t171:=Tryz.underlying200
 a171:=Tryz.isAgg200
 z171:=Tryz.sizeOf200
 v171:=Tryz.zeroValue200
 t173:=Tryz.underlying204
 a173:=Tryz.isAgg204
 z173:=Tryz.sizeOf204
 v173:=Tryz.zeroValue204
 t212:=Tryz.underlying222
 a212:=Tryz.isAgg222
 z212:=Tryz.sizeOf222
 v212:=Tryz.zeroValue222
 t213:=Tryz.underlying223
 a213:=Tryz.isAgg223
 z213:=Tryz.sizeOf223
 t232:=Tryz.underlying231
 a232:=Tryz.isAgg231
 z232:=Tryz.sizeOf231
 v232:=Tryz.zeroValue231
 t233:=Tryz.underlying232
 a233:=Tryz.isAgg232
 z233:=Tryz.sizeOf232
 v233:=Tryz.zeroValue232
 g17:=by kernel_rfl
 g18:=by kernel_rfl
 g19:=by kernel_rfl
 i0:=by kernel_rfl
 i2:=by kernel_rfl
 i3:=by kernel_rfl
 i4:=by kernel_rfl
 i5:=by kernel_rfl
 i9:=by kernel_rfl
 i20:=by kernel_rfl
 i37:=by kernel_rfl
 i46:=by kernel_rfl
 i51:=by kernel_rfl
 i53:=by kernel_rfl
 i171:=by kernel_rfl
 i173:=by kernel_rfl
 i212:=by kernel_rfl
 i232:=by kernel_rfl
 i233:=by kernel_rfl
 m17:=by kernel_rfl
 m18:=by kernel_rfl
 m19:=by kernel_rfl}
open Go.RowKit Go.Sort Go.Lib in
theorem Tryz.strconv_Itoa (n:Int)(h0: -9223372036854775808<=n)(h1:n<=9223372036854775807)(w:World)(htab:Lib.TabIs Tryz.prog w "internal/strconv.uint64pow10" .u64 Lib.pow10Tab):
  Calls Tryz.prog 160 #[.int .i64 n] w fun e w'=>e= .returned (.string ⟨(Lib.itoa n).toArray⟩)/\ ∃k os,w'=grow (w.drewN k) os:=Any.strconv_Itoa Tryz.laysM171 n h0 h1 w htab
def Tryz.laysM173_ren:Go.Shelf.Ren:=⟨fun|173=>121|246=>162|283=>193|284=>194|285=>195|286=>196|129=>216|317=>215|318=>217|319=>218|320=>219|337=>226|338=>227|n=>n,fun|2=>2|3=>3|9=>9|4=>4|171=>200|0=>0|53=>201|37=>110|5=>5|173=>204|212=>222|51=>179|20=>20|213=>223|46=>186|232=>231|233=>232|n=>n,fun|17=>5|18=>6|19=>7|n=>n⟩
theorem Tryz.laysM173:Go.Proofs.LaysM.n173 Tryz.prog Tryz.laysM173_ren:= {
 mixed:=by kernel_rfl
 f129:=Tryz.func216.trans (congrArg some (by kernel_rfl))
 f173:=Tryz.func121.trans (congrArg some (by kernel_rfl))
 f246:=Tryz.func162.trans (congrArg some (by kernel_rfl))
 f283:=Tryz.func193.trans (congrArg some (by kernel_rfl))
 f284:=Tryz.func194.trans (congrArg some (by kernel_rfl))
 f285:=Tryz.func195.trans (congrArg some (by kernel_rfl))
 f286:=Tryz.func196.trans (congrArg some (by kernel_rfl))
 f317:=Tryz.func215.trans (congrArg some (by kernel_rfl))
 f318:=Tryz.func217.trans (congrArg some (by kernel_rfl))
 f319:=Tryz.func218.trans (congrArg some (by kernel_rfl))
 f320:=Tryz.func219.trans (congrArg some (by kernel_rfl))
 f337:=Tryz.func226.trans (congrArg some (by kernel_rfl))
 f338:=Tryz.func227.trans (congrArg some (by kernel_rfl))
 t0:=Tryz.underlying0
 a0:=Tryz.isAgg0
 z0:=Tryz.sizeOf0
 v0:=Tryz.zeroValue0
 t2:=Tryz.underlying2
 a2:=Tryz.isAgg2
 z2:=Tryz.sizeOf2
 v2:=Tryz.zeroValue2
 t3:=Tryz.underlying3
 a3:=Tryz.isAgg3
 z3:=Tryz.sizeOf3
 v3:=Tryz.zeroValue3
 t4:=Tryz.underlying4
 a4:=Tryz.isAgg4
 z4:=Tryz.sizeOf4
 v4:=Tryz.zeroValue4
 t5:=Tryz.underlying5
 a5:=Tryz.isAgg5
 z5:=Tryz.sizeOf5
 v5:=Tryz.zeroValue5
 t9:=Tryz.underlying9
 a9:=Tryz.isAgg9
 z9:=Tryz.sizeOf9
 v9:=Tryz.zeroValue9
 t20:=Tryz.underlying20
 a20:=Tryz.isAgg20
 z20:=Tryz.sizeOf20
 v20:=Tryz.zeroValue20
 t37:=Tryz.underlying110
 a37:=Tryz.isAgg110
 z37:=Tryz.sizeOf110
 v37:=Tryz.zeroValue110
 t46:=Tryz.underlying186
 a46:=Tryz.isAgg186
 z46:=Tryz.sizeOf186
 v46:=Tryz.zeroValue186
 t51:=Tryz.underlying179
 a51:=Tryz.isAgg179
 z51:=Tryz.sizeOf179
 v51:=Tryz.zeroValue179
 t53:=Tryz.underlying201
 a53:=Tryz.isAgg201
 z53:=Tryz.sizeOf201
 v53:=Tryz.zeroValue201
 t171:=Tryz.underlying200
 a171:=Tryz.isAgg200
 z171:=Tryz.sizeOf200
 v171:=Tryz.zeroValue200
 t173:=Tryz.underlying204
 a173:=Tryz.isAgg204
 z173:=Tryz.sizeOf204
 v173:=Tryz.zeroValue204
 t212:=Tryz.underlying222
 a212:=Tryz.isAgg222
 z212:=Tryz.sizeOf222
 v212:=Tryz.zeroValue222
 t213:=Tryz.underlying223
 a213:=Tryz.isAgg223
 z213:=Tryz.sizeOf223
 t232:=Tryz.underlying231
 a232:=Tryz.isAgg231
 z232:=Tryz.sizeOf231
 v232:=Tryz.zeroValue231
 t233:=Tryz.underlying232
 a233:=Tryz.isAgg232
 z233:=Tryz.sizeOf232
 v233:=Tryz.zeroValue232
 g17:=by kernel_rfl
 g18:=by kernel_rfl
 g19:=by kernel_rfl
 i0:=by kernel_rfl
 i2:=by kernel_rfl
 i3:=by kernel_rfl
 i4:=by kernel_rfl
 i5:=by kernel_rfl
 i9:=by kernel_rfl
 i20:=by kernel_rfl
 i37:=by kernel_rfl
 i46:=by kernel_rfl
 i51:=by kernel_rfl
 i53:=by kernel_rfl
 i171:=by kernel_rfl
 i173:=by kernel_rfl
 i212:=by kernel_rfl
 i232:=by kernel_rfl
 i233:=by kernel_rfl
 m17:=by kernel_rfl
 m18:=by kernel_rfl
 m19:=by kernel_rfl}
open Go.RowKit Go.Sort Go.Lib in
theorem Tryz.strconv_FormatInt_10 (n:Int)(h0: -9223372036854775808<=n)(h1:n<=9223372036854775807)(w:World)(htab:Lib.TabIs Tryz.prog w "internal/strconv.uint64pow10" .u64 Lib.pow10Tab):
  Calls Tryz.prog 121 #[.int .i64 n,.int .i64 10] w fun e w'=>e= .returned (.string ⟨(Lib.itoa n).toArray⟩)/\ ∃k os,w'=grow (w.drewN k) os:=Any.strconv_FormatInt_10 Tryz.laysM173 n h0 h1 w htab
open Go.RowKit Go.Lib in
def Tryz.lays145_ren:Go.Shelf.Ren:=⟨fun|145=>114|220=>148|219=>182|217=>203|225=>178|224=>177|267=>205|266=>223|314=>225|n=>n,fun|9=>9|4=>4|59=>132|3=>3|5=>5|46=>186|146=>180|51=>179|n=>n,fun|1=>3|n=>n⟩
theorem Tryz.lays145:Go.Proofs.Lays.n145 Tryz.prog Tryz.lays145_ren:= {
 mixed:=by kernel_rfl
 f145:=Tryz.func114.trans (congrArg some (by kernel_rfl))
 f217:=Tryz.func203.trans (congrArg some (by kernel_rfl))
 f219:=Tryz.func182.trans (congrArg some (by kernel_rfl))
 f220:=Tryz.func148.trans (congrArg some (by kernel_rfl))
 f224:=Tryz.func177.trans (congrArg some (by kernel_rfl))
 f225:=Tryz.func178.trans (congrArg some (by kernel_rfl))
 f266:=Tryz.func223.trans (congrArg some (by kernel_rfl))
 f267:=Tryz.func205.trans (congrArg some (by kernel_rfl))
 f314:=Tryz.func225.trans (congrArg some (by kernel_rfl))
 t3:=Tryz.underlying3
 a3:=Tryz.isAgg3
 z3:=Tryz.sizeOf3
 v3:=Tryz.zeroValue3
 t4:=Tryz.underlying4
 a4:=Tryz.isAgg4
 z4:=Tryz.sizeOf4
 v4:=Tryz.zeroValue4
 t5:=Tryz.underlying5
 a5:=Tryz.isAgg5
 z5:=Tryz.sizeOf5
 v5:=Tryz.zeroValue5
 t9:=Tryz.underlying9
 a9:=Tryz.isAgg9
 z9:=Tryz.sizeOf9
 v9:=Tryz.zeroValue9
 t46:=Tryz.underlying186
 a46:=Tryz.isAgg186
 z46:=Tryz.sizeOf186
 v46:=Tryz.zeroValue186
 t51:=Tryz.underlying179
 a51:=Tryz.isAgg179
 z51:=Tryz.sizeOf179
 v51:=Tryz.zeroValue179
 t59:=Tryz.underlying132
 a59:=Tryz.isAgg132
 z59:=Tryz.sizeOf132
 v59:=Tryz.zeroValue132
 t146:=Tryz.underlying180
 a146:=Tryz.isAgg180
 z146:=Tryz.sizeOf180
 v146:=Tryz.zeroValue180
 g1:=by kernel_rfl}
open Go.RowKit Go.Lib in
theorem Tryz.strings_Cut (s sep:ByteArray)(m:Int)(w:World)(hs:s.size<4294967281)(hm:w.cell? ⟨3,0,none⟩=some (.int .i64 m)):
  Calls Tryz.prog 114 #[.string s,.string sep] w fun e w'=>e= .returned (.tuple #[.string ⟨(Lib.cut s.data.toList sep.data.toList).1.toArray⟩,.string ⟨(Lib.cut s.data.toList sep.data.toList).2.1.toArray⟩,.bool (Lib.cut s.data.toList sep.data.toList).2.2])/\ ∃n,w'=w.drewN n:=Any.strings_Cut Tryz.lays145 s sep m w hs hm
def Tryz.lays148_ren:Go.Shelf.Ren:=⟨fun|148=>98|222=>135|223=>136|269=>171|n=>n,fun|9=>9|3=>3|4=>4|5=>5|146=>180|51=>179|46=>186|n=>n,fun|n=>n⟩
theorem Tryz.lays148:Go.Proofs.Lays.n148 Tryz.prog Tryz.lays148_ren:= {
 mixed:=by kernel_rfl
 f148:=Tryz.func98.trans (congrArg some (by kernel_rfl))
 f222:=Tryz.func135.trans (congrArg some (by kernel_rfl))
 f223:=Tryz.func136.trans (congrArg some (by kernel_rfl))
 f269:=Tryz.func171.trans (congrArg some (by kernel_rfl))
 t3:=Tryz.underlying3
 a3:=Tryz.isAgg3
 z3:=Tryz.sizeOf3
 v3:=Tryz.zeroValue3
 t4:=Tryz.underlying4
 a4:=Tryz.isAgg4
 z4:=Tryz.sizeOf4
 v4:=Tryz.zeroValue4
 t5:=Tryz.underlying5
 a5:=Tryz.isAgg5
 z5:=Tryz.sizeOf5
 v5:=Tryz.zeroValue5
 t9:=Tryz.underlying9
 a9:=Tryz.isAgg9
 z9:=Tryz.sizeOf9
 v9:=Tryz.zeroValue9
 t46:=Tryz.underlying186
 a46:=Tryz.isAgg186
 z46:=Tryz.sizeOf186
 v46:=Tryz.zeroValue186
 t51:=Tryz.underlying179
 a51:=Tryz.isAgg179
 z51:=Tryz.sizeOf179
 v51:=Tryz.zeroValue179
 t146:=Tryz.underlying180
 a146:=Tryz.isAgg180
 z146:=Tryz.sizeOf180
 v146:=Tryz.zeroValue180}
open Go.RowKit Go.Lib in
theorem Tryz.strings_LastIndex_one (s sub:ByteArray)(h1:sub.size=1)(hs:s.size<4611686018427387904)(w:World):
  Calls Tryz.prog 98 #[.string s,.string sub] w fun e w'=>e= .returned (.int .i64 (Lib.lastIndexByte s ((sub[0]'(by omega)).toNat:Int)))/\w'=w:=Any.strings_LastIndex_one Tryz.lays148 s sub h1 hs w
def Tryz.lays99_ren:Go.Shelf.Ren:=⟨fun|99=>72|206=>107|n=>n,fun|9=>9|4=>4|3=>3|n=>n,fun|n=>n⟩
theorem Tryz.lays99:Go.Proofs.Lays.n99 Tryz.prog Tryz.lays99_ren:= {
 mixed:=by kernel_rfl
 f99:=Tryz.func72.trans (congrArg some (by kernel_rfl))
 f206:=Tryz.func107.trans (congrArg some (by kernel_rfl))
 t3:=Tryz.underlying3
 a3:=Tryz.isAgg3
 z3:=Tryz.sizeOf3
 v3:=Tryz.zeroValue3
 t4:=Tryz.underlying4
 a4:=Tryz.isAgg4
 z4:=Tryz.sizeOf4
 v4:=Tryz.zeroValue4
 t9:=Tryz.underlying9
 a9:=Tryz.isAgg9
 z9:=Tryz.sizeOf9
 v9:=Tryz.zeroValue9}
open Go.RowKit Go.Lib in
theorem Tryz.strings_HasPrefix (s p:ByteArray)(w:World):
  Calls Tryz.prog 72 #[.string s,.string p] w fun e w'=>e= .returned (.bool (Lib.hasPrefix s.data.toList p.data.toList))/\w'=w:=Any.strings_HasPrefix Tryz.lays99 s p w
def Tryz.lays101_ren:Go.Shelf.Ren:=⟨fun|101=>151|208=>186|206=>107|n=>n,fun|9=>9|4=>4|3=>3|n=>n,fun|n=>n⟩
theorem Tryz.lays101:Go.Proofs.Lays.n101 Tryz.prog Tryz.lays101_ren:= {
 mixed:=by kernel_rfl
 f101:=Tryz.func151.trans (congrArg some (by kernel_rfl))
 f206:=Tryz.func107.trans (congrArg some (by kernel_rfl))
 f208:=Tryz.func186.trans (congrArg some (by kernel_rfl))
 t3:=Tryz.underlying3
 a3:=Tryz.isAgg3
 z3:=Tryz.sizeOf3
 v3:=Tryz.zeroValue3
 t4:=Tryz.underlying4
 a4:=Tryz.isAgg4
 z4:=Tryz.sizeOf4
 v4:=Tryz.zeroValue4
 t9:=Tryz.underlying9
 a9:=Tryz.isAgg9
 z9:=Tryz.sizeOf9
 v9:=Tryz.zeroValue9}
open Go.RowKit Go.Lib in
theorem Tryz.strings_TrimPrefix (s p:ByteArray)(w:World):
  Calls Tryz.prog 151 #[.string s,.string p] w fun e w'=>e= .returned (.string ⟨(Lib.trimPrefix s.data.toList p.data.toList).toArray⟩)/\w'=w:=Any.strings_TrimPrefix Tryz.lays101 s p w
def Tryz.lays152_ren:Go.Shelf.Ren:=⟨fun|152=>141|137=>175|119=>176|224=>177|225=>178|217=>203|266=>223|n=>n,fun|9=>9|21=>21|3=>3|4=>4|5=>5|0=>0|46=>186|n=>n,fun|n=>n⟩
theorem Tryz.lays152:Go.Proofs.Lays.n152 Tryz.prog Tryz.lays152_ren:= {
 mixed:=by kernel_rfl
 f119:=Tryz.func176.trans (congrArg some (by kernel_rfl))
 f137:=Tryz.func175.trans (congrArg some (by kernel_rfl))
 f152:=Tryz.func141.trans (congrArg some (by kernel_rfl))
 f217:=Tryz.func203.trans (congrArg some (by kernel_rfl))
 f224:=Tryz.func177.trans (congrArg some (by kernel_rfl))
 f225:=Tryz.func178.trans (congrArg some (by kernel_rfl))
 f266:=Tryz.func223.trans (congrArg some (by kernel_rfl))
 t0:=Tryz.underlying0
 a0:=Tryz.isAgg0
 z0:=Tryz.sizeOf0
 v0:=Tryz.zeroValue0
 t3:=Tryz.underlying3
 a3:=Tryz.isAgg3
 z3:=Tryz.sizeOf3
 v3:=Tryz.zeroValue3
 t4:=Tryz.underlying4
 a4:=Tryz.isAgg4
 z4:=Tryz.sizeOf4
 v4:=Tryz.zeroValue4
 t5:=Tryz.underlying5
 a5:=Tryz.isAgg5
 z5:=Tryz.sizeOf5
 v5:=Tryz.zeroValue5
 t9:=Tryz.underlying9
 a9:=Tryz.isAgg9
 z9:=Tryz.sizeOf9
 v9:=Tryz.zeroValue9
 t21:=Tryz.underlying21
 a21:=Tryz.isAgg21
 z21:=Tryz.sizeOf21
 v21:=Tryz.zeroValue21
 t46:=Tryz.underlying186
 a46:=Tryz.isAgg186
 z46:=Tryz.sizeOf186
 v46:=Tryz.zeroValue186}
open Go.RowKit Go.Lib in
theorem Tryz.strings_IndexRune_ascii (s:ByteArray)(r:Int)(w:World)(h0:0<=r)(h1:r<128):
  Calls Tryz.prog 141 #[.string s,.int .i32 r] w fun e w'=>e= .returned (.int .i64 (Lib.indexByte s.data.toList r.toNat.toUInt8))/\w'=w:=Any.strings_IndexRune_ascii Tryz.lays152 s r w h0 h1
def Tryz.lays226_ren:Go.Shelf.Ren:=⟨fun|226=>142|n=>n,fun|3=>3|4=>4|n=>n,fun|n=>n⟩
theorem Tryz.lays226:Go.Proofs.Lays.n226 Tryz.prog Tryz.lays226_ren:= {
 mixed:=by kernel_rfl
 f226:=Tryz.func142.trans (congrArg some (by kernel_rfl))
 t3:=Tryz.underlying3
 a3:=Tryz.isAgg3
 z3:=Tryz.sizeOf3
 v3:=Tryz.zeroValue3
 t4:=Tryz.underlying4
 a4:=Tryz.isAgg4
 z4:=Tryz.sizeOf4
 v4:=Tryz.zeroValue4}
open Go.RowKit Go.Lib in
theorem Tryz.strings_shouldUseASCIISet (n:Int)(w:World):
  Calls Tryz.prog 142 #[.int .i64 n] w fun e w'=>e= .returned (.bool (decide (8<n)))/\w'=w:=Any.strings_shouldUseASCIISet Tryz.lays226 n w
def Tryz.lays153_ren:Go.Shelf.Ren:=⟨fun|153=>108|152=>141|226=>142|227=>143|228=>144|137=>175|119=>176|224=>177|225=>178|217=>203|266=>223|n=>n,fun|9=>9|3=>3|4=>4|5=>5|21=>21|117=>154|116=>153|0=>0|46=>186|124=>187|n=>n,fun|n=>n⟩
theorem Tryz.lays153:Go.Proofs.Lays.n153 Tryz.prog Tryz.lays153_ren:= {
 mixed:=by kernel_rfl
 f119:=Tryz.func176.trans (congrArg some (by kernel_rfl))
 f137:=Tryz.func175.trans (congrArg some (by kernel_rfl))
 f152:=Tryz.func141.trans (congrArg some (by kernel_rfl))
 f153:=Tryz.func108.trans (congrArg some (by kernel_rfl))
 f217:=Tryz.func203.trans (congrArg some (by kernel_rfl))
 f224:=Tryz.func177.trans (congrArg some (by kernel_rfl))
 f225:=Tryz.func178.trans (congrArg some (by kernel_rfl))
 f226:=Tryz.func142.trans (congrArg some (by kernel_rfl))
 f227:=Tryz.func143.trans (congrArg some (by kernel_rfl))
 f228:=Tryz.func144.trans (congrArg some (by kernel_rfl))
 f266:=Tryz.func223.trans (congrArg some (by kernel_rfl))
 t0:=Tryz.underlying0
 a0:=Tryz.isAgg0
 z0:=Tryz.sizeOf0
 v0:=Tryz.zeroValue0
 t3:=Tryz.underlying3
 a3:=Tryz.isAgg3
 z3:=Tryz.sizeOf3
 v3:=Tryz.zeroValue3
 t4:=Tryz.underlying4
 a4:=Tryz.isAgg4
 z4:=Tryz.sizeOf4
 v4:=Tryz.zeroValue4
 t5:=Tryz.underlying5
 a5:=Tryz.isAgg5
 z5:=Tryz.sizeOf5
 v5:=Tryz.zeroValue5
 t9:=Tryz.underlying9
 a9:=Tryz.isAgg9
 z9:=Tryz.sizeOf9
 v9:=Tryz.zeroValue9
 t21:=Tryz.underlying21
 a21:=Tryz.isAgg21
 z21:=Tryz.sizeOf21
 v21:=Tryz.zeroValue21
 t46:=Tryz.underlying186
 a46:=Tryz.isAgg186
 z46:=Tryz.sizeOf186
 v46:=Tryz.zeroValue186
 t116:=Tryz.underlying153
 a116:=Tryz.isAgg153
 z116:=Tryz.sizeOf153
 t117:=Tryz.underlying154
 a117:=Tryz.isAgg154
 z117:=Tryz.sizeOf154
 v117:=Tryz.zeroValue154
 t124:=Tryz.underlying187
 a124:=Tryz.isAgg187
 z124:=Tryz.sizeOf187
 v124:=Tryz.zeroValue187}
open Go.RowKit Go.Lib in
open Go.RowKit Go.Lib in
theorem Tryz.strings_IndexAny_long (hv116: ∀w,(zeroValue 153).run Tryz.prog w= .ok (.agg (Array.replicate 256 (.bool false))) w)(s chars:ByteArray)(w:World)(h2:2<=chars.size)(h8:8<s.size)(hs:s.size<4294967281)(hcs:chars.size<4294967281)(hascii: ∀(j:Nat) b,chars.data.toList[j]? =some b->b.toNat<128):
  Calls Tryz.prog 108 #[.string s,.string chars] w fun e w'=>e= .returned (.int .i64 (Lib.indexAny s.data.toList chars.data.toList))/\w'=((w.alloc (.cells (Lib.setCells chars.data.toList) 153)).alloc (.cells (Lib.setCells chars.data.toList) 153)):=Any.strings_IndexAny_long Tryz.lays153 hv116 (by kernel_rfl) s chars w h2 h8 hs hcs hascii
end Go.Proofs
namespace Go.Proofs.YtabgoobcliijeaaGreatDoor
open Go.RowKit Go.Lib
structure Std(w:World):Prop where
 max: ∃m,w.cell? ⟨3,0,none⟩=some (.int .i64 m)
 ten:Lib.TabIs Tryz.prog w "internal/strconv.uint64pow10" .u64 Lib.pow10Tab
 bits:w.cell? ⟨7,15,none⟩=some (.int .u8 4)
theorem Y4:Tryz.prog.globalNamed "internal/strconv.uint64pow10" =some 5:=by kernel_rfl
theorem Std.below {w w':World}(h:Std w)(hb:Below w.heap.size w w'):Std w':=by
 obtain⟨⟨m,hm⟩,ht,hb4⟩:=h
 exact⟨⟨m,(hb.cell (block_lt_of_cell hm)).trans hm⟩,Go.Joins.tab_stays Y4 ht hb (zB3 _),(hb.cell (block_lt_of_cell hb4)).trans hb4⟩
theorem MI(B:Nat)(w:World)(n:Nat):Below B w (w.drewN n):=by
 induction n with
 |zero=>exact Below.refl _ _
 |succ n ih=>exact ih.drew
theorem below_grow {B:Nat}{a w:World}(h:Below B a w)(hB:B<=w.heap.size)(os:Array Obj):Below B a (Sort.grow w os):=by
 refine⟨h.os,h.tape,h.output,Nat.le_trans h.size ?_,fun i hi=>?_⟩
 ·simp[Sort.grow]
 ·rw[<-h.block i hi]
  simp only[Sort.grow]
  rw[Array.getElem?_append_left (by omega)]
theorem gAt(s sep:ByteArray)(w:World)(h:Std w)(hs:s.size<=4294967280):
  Calls Tryz.prog 114 #[.string s,.string sep] w fun e w'=>e= .returned (.tuple #[.string ⟨(Lib.cut s.data.toList sep.data.toList).1.toArray⟩,.string ⟨(Lib.cut s.data.toList sep.data.toList).2.1.toArray⟩,.bool (Lib.cut s.data.toList sep.data.toList).2.2])/\Below w.heap.size w w':=by
 obtain⟨m,hm⟩:=h.max
 exact(Tryz.strings_Cut s sep m w (by omega) hm).mono fun e w' ⟨he,n,hn⟩=>⟨he,by rw[hn];exact MI _ _ _⟩
theorem aAA(n:Nat)(w:World)(h:Std w)(hn:n<=9223372036854775807):
  Calls Tryz.prog 160 #[.int .i64 (n:Int)] w fun e w'=>e= .returned (.string ⟨(Lib.decDigits n).toArray⟩)/\Below w.heap.size w w':=by
 refine(Tryz.strconv_Itoa (n:Int) (by omega) (by omega) w h.ten).mono fun e w' ⟨he,k,os,hw⟩=>⟨?_,?_⟩
 ·rw[he,Lib.itoa_nonneg]
 ·rw[hw];exact below_grow (MI _ _ _) (by have:=(MI w.heap.size w k).size;exact this) _
end Go.Proofs.YtabgoobcliijeaaGreatDoor
namespace Go.Proofs.YtabgoobcliijeaaGreatDoor
open Go.ChangeShapes Go.WideShapes Go.ChangeAt Go.WideMaps Go.WideElems Go.RowKit
section
variable {H:Type} {enc:TypeId×Value->H} {P:Program} {w:World} {base:Nat} {spare:Nat->Bool} {held:Bool}
theorem kAF {α:Type}(f:Nat->Option α)(h:Nat->α)(n:Nat)(hf: ∀i,i<n->f i=some (h i)):(List.range n).mapM f=some ((List.range n).map h):=by
 have e: ∀l:List Nat,(∀i∈l,f i=some (h i))->l.mapM f=some (l.map h):=by
  intro l
  induction l with
  |nil=>intro _;rfl
  |cons a l ih=>
   intro hl
   rw[List.mapM_cons,hl a (by simp),ih fun i hi=>hl i (by simp[hi])]
   rfl
 exact e _ fun i hi=>hf i (List.mem_range.1 hi)
theorem oA1 {t e:TypeId}{n:Nat}{k:IntKind}{zs:List Int}(ht:P.underlying t=some (.array n e))(he:P.underlying e=some (.int k))(hce:P.cellsOf e=1)(hct:P.cellsOf t=n)
  (hl:zs.length=n)(hz: ∀z∈zs,(Lit.int k z).wf=true):
  DataW.Trod enc P w base spare held t (.agg (zs.map fun z=>Value.int k z).toArray) (.agg (zs.map fun z=> .lit (.int k z))) []:=by
 refine⟨2,?_⟩
 have hc:(Value.agg (zs.map fun z=>Value.int k z).toArray).cells.toList=zs.map fun z=>Value.int k z:=by
  show((zs.map fun z=>Value.int k z).toArray).toList=_
  simp
 rw[hc]
 unfold DataW.trod
 simp only[ht]
 rw[if_pos (by rw[List.length_map,hl,hct]),hce]
 have hm:=kAF (fun i=>DataW.trod enc P w base spare held 1 e (((zs.map fun z=>Value.int k z).drop (i*1)).take 1)) (fun i=>(DataW.lit (.int k (zs.getD i 0)),([]:List MemPlace))) n fun i hi=>by
  have h1:((zs.map fun z=>Value.int k z).drop (i*1)).take 1= [Value.int k (zs.getD i 0)]:=by
   rw[Nat.mul_one,List.drop_eq_getElem_cons (by rw[List.length_map];omega),List.getElem_map]
   have:zs.getD i 0=zs[i]'(by omega):=by rw[List.getD_eq_getElem?_getD,List.getElem?_eq_getElem (by omega)];rfl
   rw[this];rfl
  show DataW.trod enc P w base spare held 1 e (((zs.map fun z=>Value.int k z).drop (i*1)).take 1)=_
  rw[h1]
  exact trod_int_mk 0 he (hz _ (by rw[List.getD_eq_getElem?_getD,List.getElem?_eq_getElem (by omega)];exact List.getElem_mem _))
 rw[hm]
 simp only[Option.map_some,Option.some.injEq,Prod.mk.injEq,DataW.agg.injEq]
 refine⟨?_,?_⟩
 ·apply List.ext_getElem?
  intro i
  by_cases hi:i<n
  ·simp[hi,List.getElem?_eq_getElem (show i<zs.length by omega)]
  ·rw[List.getElem?_eq_none (by simp;omega),List.getElem?_eq_none (by simp;omega)]
 ·rw[List.flatMap_eq_nil_iff]
  intro x hx
  obtain⟨i,_,rfl⟩:=List.mem_map.1 hx
  rfl
end
section
variable {H:Type} {enc:TypeId×Value->H}
theorem oU {a:Assume}{C:Checked}{os:Os}{f:FuncId}{fn:Func}{s:ChangeSpec}{conds:List PathCond}{apart fresh handsOn again:Bool}{X:World->Array Value->Prop}
  (hX: ∀(w w':World)(args:Array Value),w.heap=w'.heap->X w args->X w' args)
  (own:ownKnob C.prog.godebug=none)(started:os.Started)(noInit:C.prog.inits.idxOf? f=none)(hfn:C.prog.funcs[f]? =some fn)
  (witness: ∃(w:World)(tape:Tape)(i:Input),w.os=os/\(w.forCall tape i).Shaped C.prog/\i.vars= []/\Input.okWide C.prog (w.forCall tape i) .any w.heap.size f i/\
   ((s.pre enc C.prog fn conds apart (w.forCall tape i).memory i.args/\X (w.forCall tape i).memory i.args)/\sizedMet enc C.prog fn (OpenSpec.ofChange s) apart (w.forCall tape i).memory i.args)/\a.holds C.prog (lone (Frame.enter C.prog f i.args .normal) [] (w.forCall tape i)))
  (contract: ∀(W:World)(base:Nat)(args:Array Value)(ds gs:List (DataW H))(before:List MemPlace),
   (∀(j:Nat) t v,fn.params[j]? =some t->args[j]? =some v->Value.okWide C.prog W .any base t v)->
   DataW.Whole enc C.prog fn.params.toList s.vars apart W args.toList ds gs before->
   X W args->W.ShapedOpen C.prog->
   Calls C.prog f args W fun e W'=> ∃v,e= .returned v/\s.post enc C.prog fn apart fresh handsOn again W args v W'):
  ReturnsInHanded a C os f .any (fun w args=>(s.pre enc C.prog fn conds apart w args/\X w args)/\sizedMet enc C.prog fn (OpenSpec.ofChange s) apart w args) (s.post enc C.prog fn apart fresh handsOn again):=by
 refine returnsInHanded_of_calls own started noInit witness ?_
 intro w tape i _ hsh _ hok hpre _
 obtain⟨_,_,_,fn',hfn',_,_,_,_,hval⟩:=hok
 have e:fn'=fn:=zB2 (hfn'.symm.trans hfn)
 subst e
 obtain⟨⟨⟨ds,gs,before,hw,_⟩,hx⟩,_⟩:=hpre
 have hw':=DataW.Whole.of_heap (w':=w.forCall tape i) (by rfl) hw
 refine(contract (w.forCall tape i) w.heap.size i.args ds gs before hval hw' (hX _ _ _ (by rfl) hx) hsh).mono fun e W' ⟨v,he,hp⟩=>?_
 subst he
 exact ChangeSpec.post_blind hp
end
theorem X4:Tryz.prog.globalNamed "math/bits.deBruijn64tab" =some 7:=by kernel_rfl
theorem fAu:Rows.laid_math_bits_deBruijn64tab=Lib.tabData (H:=Unit) .u8 (Lib.deBruijn64tab.map fun(n:Nat)=>(n:Int)):=by rfl
theorem mAb:Rows.laid_internal_strconv_uint64pow10=Lib.tabData (H:=Unit) .u64 Lib.pow10Tab:=by rfl
end Go.Proofs.YtabgoobcliijeaaGreatDoor
namespace Go.Proofs.YtabgoobcliijeaaGreatDoor
namespace Dt
def leap(y:Int):Bool:=decide (y%4=0/\(y%100≠0\/y%400=0))
def len(b:Bool)(m:Int):Int:=if m=4\/m=6\/m=9\/m=11 then 30 else if m=2 then(if b=true then 29 else 28)else 31
def cD(y:Int):Int:=if leap y=true then 366 else 365
def before(y:Int):Int:=365*(y-1601)+((y-1)/4- (y-1)/100+(y-1)/400)-388
def mon(b:Bool)(m:Int):Int:=
 (if m<=1 then 0 else if m=2 then 31 else if m=3 then 59 else if m=4 then 90 else if m=5 then 120 else if m=6 then 151 else if m=7 then 181 else if m=8 then 212 else if m=9 then 243 else if m=10 then 273 else if m=11 then 304 else 334)+(if b=true/\3<=m then 1 else 0)
def Is(y m d:Int):Prop:=1601<=y/\y<=9999/\1<=m/\m<=12/\1<=d/\d<=len (leap y) m
instance (y m d:Int):Decidable (Is y m d):=by unfold Is;infer_instance
def days(y m d:Int):Int:=before y-134774+mon (leap y) m+d-1
theorem EJ:before 1601=0:=by decide
theorem fAp:before 1970=134774:=by decide
theorem FL {y:Int} :leap y=true↔y%4=0/\(y%100≠0\/y%400=0):=decide_eq_true_iff
theorem FJ(y:Int):before (y+1)=before y+cD y:=by
 unfold before cD
 by_cases h:leap y=true
 ·rw[if_pos h]
  rw[FL]at h
  omega
 ·rw[if_neg h]
  rw[FL]at h
  omega
theorem mM(y:Int):365<=cD y/\cD y<=366:=by unfold cD;split<;>omega
theorem EE(b:Bool)(m:Int):28<=len b m/\len b m<=31:=by unfold len;split<;>(try split)<;>(try split)<;>omega
theorem JL(b:Bool){m:Int}(h1:1<=m)(h2:m<=11):mon b (m+1)=mon b m+len b m:=by
 have:m=1\/m=2\/m=3\/m=4\/m=5\/m=6\/m=7\/m=8\/m=9\/m=10\/m=11:=by omega
 rcases this with rfl|rfl|rfl|rfl|rfl|rfl|rfl|rfl|rfl|rfl|rfl<;>cases b<;>decide
theorem fK(b:Bool):mon b 1=0:=by cases b<;>decide
theorem mV(y:Int):mon (leap y) 12+len (leap y) 12=cD y:=by
 unfold cD
 cases leap y<;>decide
theorem ZN(b:Bool){m k:Int}(h1:1<=m)(h2:m<k)(h3:k<=12):mon b m+len b m<=mon b k:=by
 obtain⟨n,hn⟩: ∃n:Nat,k=m+1+n:=⟨(k- (m+1)).toNat,by omega⟩
 subst hn
 clear h2
 induction n with
 |zero=>rw[<-JL b h1 (by omega)];simp
 |succ n ih=>
  have:=ih (by omega)
  have e:=JL b (m:=m+1+(n:Int)) (by omega) (by omega)
  have:=EE b (m+1+(n:Int))
  have e2:m+1+((n+1:Nat):Int)=m+1+(n:Int)+1:=by omega
  rw[e2,e]
  omega
theorem qN {y z:Int}(h:y<z):before y+cD y<=before z:=by
 obtain⟨n,hn⟩: ∃n:Nat,z=y+1+n:=⟨(z- (y+1)).toNat,by omega⟩
 subst hn
 clear h
 induction n with
 |zero=>rw[<-FJ];simp
 |succ n ih=>
  have e:=FJ (y+1+(n:Int))
  have:=mM (y+1+(n:Int))
  have e2:y+1+((n+1:Nat):Int)=y+1+(n:Int)+1:=by omega
  rw[e2,e]
  omega
theorem EQ {y m d:Int}(h:Is y m d):0<=mon (leap y) m+d-1/\mon (leap y) m+d-1<cD y:=by
 obtain⟨_,_,h1,h2,h3,h4⟩:=h
 have hl:=mV y
 rcases Int.lt_or_eq_of_le h2 with k|k
 ·have:=ZN (leap y) h1 k (by omega)
  have h0:0<=mon (leap y) m:=by
   rcases Int.lt_or_eq_of_le h1 with j|j
   ·have:=ZN (leap y) (m:=1) (by omega) j h2
    have:=fK (leap y)
    have:=EE (leap y) 1
    omega
   ·rw[<-j,fK];omega
  have:=EE (leap y) 12
  omega
 ·subst k
  have:=ZN (leap y) (m:=1) (k:=12) (by omega) (by omega) (by omega)
  have:=fK (leap y)
  have:=EE (leap y) 1
  omega
theorem gAK {y m d z k e:Int}(h:Is y m d)(g:Is z k e)(hd:days y m d=days z k e):y=z/\m=k/\d=e:=by
 have i1:=EQ h
 have i2:=EQ g
 unfold days at hd
 have hy:y=z:=by
  rcases Int.lt_trichotomy y z with j|j|j
  ·have:=qN j;omega
  ·exact j
  ·have:=qN j;omega
 subst hy
 obtain⟨_,_,h1,h2,h3,h4⟩:=h
 obtain⟨_,_,g1,g2,g3,g4⟩:=g
 have hm:m=k:=by
  rcases Int.lt_trichotomy m k with j|j|j
  ·have:=ZN (leap y) h1 j g2;omega
  ·exact j
  ·have:=ZN (leap y) g1 j h2;omega
 subst hm
 exact⟨rfl,rfl,by omega⟩
theorem MJ {y m d:Int}(h:Is y m d): -134774<=days y m d/\days y m d<=2932896:=by
 have i1:=EQ h
 have f:=EJ
 have l:before 10000=3067671:=by decide
 obtain⟨h1,h2,_⟩:=h
 have a:0<=before y:=by
  rcases Int.lt_or_eq_of_le h1 with j|j
  ·have:=qN j;have:=mM 1601;omega
  ·rw[<-j,f];omega
 have b:before y+cD y<=before 10000:=qN (by omega)
 unfold days
 omega
theorem hAC:Is 1601 1 1:=by decide
theorem gAJ:days 1601 1 1= -134774:=by decide
theorem next {y m d:Int}(h:Is y m d):(d<len (leap y) m/\Is y m (d+1)/\days y m (d+1)=days y m d+1)\/
  (d=len (leap y) m/\m<12/\Is y (m+1) 1/\days y (m+1) 1=days y m d+1)\/
  (d=31/\m=12/\y<9999/\Is (y+1) 1 1/\days (y+1) 1 1=days y m d+1)\/(d=31/\m=12/\y=9999):=by
 have hh:=h
 obtain⟨h1,h2,h3,h4,h5,h6⟩:=h
 rcases Int.lt_or_eq_of_le h6 with k|k
 ·exact .inl ⟨k,⟨h1,h2,h3,h4,by omega,by omega⟩,by unfold days;omega⟩
 ·rcases Int.lt_or_eq_of_le h4 with j|j
  ·refine .inr (.inl ⟨k,j,⟨h1,h2,by omega,by omega,by omega,by have:=EE (leap y) (m+1);omega⟩,?_⟩)
   unfold days
   rw[JL _ h3 (by omega)]
   omega
  ·subst j
   have e31:len (leap y) 12=31:=by cases leap y<;>decide
   rcases Int.lt_or_eq_of_le h2 with i|i
   ·refine .inr (.inr (.inl ⟨by omega,rfl,i,⟨by omega,by omega,by omega,by omega,by omega,by have:=EE (leap (y+1)) 1;omega⟩,?_⟩))
    have l:=mV y
    have s:=FJ y
    unfold days
    rw[fK,s]
    omega
   ·exact .inr (.inr (.inr ⟨by omega,rfl,i⟩))
theorem cAX {n:Int}(h1: -134774<=n)(h2:n<=2932896): ∃y m d,Is y m d/\days y m d=n:=by
 obtain⟨k,hk⟩: ∃k:Nat,n= -134774+k:=⟨(n+134774).toNat,by omega⟩
 subst hk
 clear h1
 induction k with
 |zero=>exact⟨1601,1,1,hAC,by rw[gAJ];rfl⟩
 |succ k ih=>
  obtain⟨y,m,d,hI,hd⟩:=ih (by omega)
  rcases next hI with⟨_,i,e⟩|⟨_,_,i,e⟩|⟨_,_,_,i,e⟩|⟨a,b,c⟩
  ·exact⟨_,_,_,i,by omega⟩
  ·exact⟨_,_,_,i,by omega⟩
  ·exact⟨_,_,_,i,by omega⟩
  ·exfalso
   subst a b c
   have:days 9999 12 31=2932896:=by decide
   omega
theorem gAE(n:Int):(∃y m d,Is y m d/\days y m d=n)↔ -134774<=n/\n<=2932896:=
 ⟨fun⟨_,_,_,h,e⟩=>by have:=MJ h;omega,fun⟨h1,h2⟩=>cAX h1 h2⟩
end Dt
end Go.Proofs.YtabgoobcliijeaaGreatDoor
namespace Go.Proofs.YtabgoobcliijeaaGreatDoor
namespace Dt
open Classical in
noncomputable def civil(n:Int):Option (Int×Int×Int):=if h: ∃t:Int×Int×Int,Is t.1 t.2.1 t.2.2/\days t.1 t.2.1 t.2.2=n then some h.choose else none
theorem jH {n y m d:Int} :civil n=some (y,m,d)↔Is y m d/\days y m d=n:=by
 unfold civil
 constructor
 ·intro h
  split at h
  ·rename_i k
   have e:=zB2 h
   have s:=k.choose_spec
   rw[e]at s
   exact s
  ·cases h
 ·intro ⟨h,e⟩
  have k: ∃t:Int×Int×Int,Is t.1 t.2.1 t.2.2/\days t.1 t.2.1 t.2.2=n:=⟨(y,m,d),h,e⟩
  rw[dif_pos k]
  obtain⟨s1,s2⟩:=k.choose_spec
  obtain⟨e1,e2,e3⟩:=gAK h s1 (e.trans s2.symm)
  congr 1
  exact Prod.ext e1.symm (Prod.ext e2.symm e3.symm)
theorem LP {n:Int} :civil n=none↔n< -134774\/2932896<n:=by
 have hd:=gAE n
 constructor
 ·intro h
  by_cases k: -134774<=n/\n<=2932896
  ·obtain⟨y,m,d,hI,e⟩:=hd.2 k
   rw[jH.2 ⟨hI,e⟩]at h
   cases h
  ·omega
 ·intro h
  cases e:civil n with
  |none=>rfl
  |some t=>
   obtain⟨y,m,d⟩:=t
   obtain⟨hI,e⟩:=jH.1 e
   have:=MJ hI
   omega
def ZA(c:UInt8):Bool:=decide (c.toNat=9\/(32<=c.toNat/\c.toNat<=47)\/(59<=c.toNat/\c.toNat<=64)\/(91<=c.toNat/\c.toNat<=96)\/(123<=c.toNat/\c.toNat<=126))
def toks:List UInt8->List (List UInt8)
 | []=> [[]]
 |c::r=>if ZA c=true then []::toks r else match toks r with|p::ps=>(c::p)::ps| []=> [[c]]
theorem ER: ∀s,toks s≠ []
 | []=>by simp[toks]
 |c::r=>by
  rw[toks]
  split
  ·simp
  ·split<;>simp
theorem dM: ∀ {a:List UInt8},(∀c∈a,ZA c=false)-> ∀ {c:UInt8},ZA c=true-> ∀r,toks (a++c::r)=a::toks r
 | [],_,c,hc,r=>by rw[List.nil_append,toks,if_pos hc]
 |x::a,h,c,hc,r=>by
  rw[List.cons_append,toks,if_neg (by rw[h x (by simp)];simp),dM (fun c hc=>h c (by simp[hc])) hc r]
theorem CW: ∀ {a:List UInt8},(∀c∈a,ZA c=false)->toks a= [a]
 | [],_=>rfl
 |x::a,h=>by rw[toks,if_neg (by rw[h x (by simp)];simp),CW (fun c hc=>h c (by simp[hc]))]
theorem IH {c:UInt8}(hc:ZA c=true)(r:List UInt8):toks (c::r)= []::toks r:=by rw[toks,if_pos hc]
theorem rI {c:UInt8}(hc:ZA c=false)(r:List UInt8):toks (c::r)=match toks r with|p::ps=>(c::p)::ps| []=> [[c]]:=by rw[toks,if_neg (by rw[hc];simp)]
theorem dAs: ∀(s:List UInt8){c:UInt8},ZA c=true->toks (s++ [c])=toks s++ [[]]
 | [],c,hc=>IH hc []
 |x::r,c,hc=>by
  have ih:=dAs r hc
  rw[List.cons_append]
  cases hx:ZA x with
  |true=>rw[IH hx,IH hx,ih];rfl
  |false=>
   rw[rI hx,rI hx,ih]
   cases e:toks r with
   |nil=>exact absurd e (ER r)
   |cons p ps=>rfl
theorem dAr: ∀(s:List UInt8){c:UInt8},ZA c=false-> ∃ps p,toks s=ps++ [p]/\toks (s++ [c])=ps++ [p++ [c]]
 | [],c,hc=>⟨[],[],rfl,by rw[List.nil_append,rI hc];rfl⟩
 |x::r,c,hc=>by
  obtain⟨ps,p,e1,e2⟩:=dAr r hc
  rw[List.cons_append]
  cases hx:ZA x with
  |true=>rw[IH hx,IH hx,e1,e2];exact⟨[]::ps,p,rfl,rfl⟩
  |false=>
   rw[rI hx,rI hx,e1,e2]
   cases ps with
   |nil=>exact⟨[],x::p,rfl,rfl⟩
   |cons q qs=>exact⟨(x::q)::qs,p,rfl,rfl⟩
def lead(s:List UInt8):Nat:=(s.takeWhile Oct.cB).length
def wC(s:List UInt8):Option (Nat×List UInt8):=if 1<=lead s/\lead s<=2 then some (Oct.numOf (s.take (lead s)),s.drop (lead s))else none
def jF:List UInt8->Option (List UInt8)
 |c::r=>if c=58 then some r else none
 | []=>none
def gB(s:List UInt8):Option (Nat×Nat×Nat):=do
 let (a,r)<-wC s
 let r<-jF r
 let (b,r)<-wC r
 let r<-jF r
 let (c,_)<-wC r
 pure (a,b,c)
def names:List (List UInt8):= [[106,97,110],[102,101,98],[109,97,114],[97,112,114],[109,97,121],[106,117,110],[106,117,108],[97,117,103],[115,101,112],[111,99,116],[110,111,118],[100,101,99]]
def month(s:List UInt8):Nat:=if 3<=s.length then(match names.idxOf? ((s.take 3).map Oct.low)with|some i=>i+1|none=>0)else 0
structure Told where
 time:Option (Nat×Nat×Nat)
 day:Option Nat
 month:Option Nat
 year:Option Nat
def tell(t:Told)(x:List UInt8):Told:=
 if t.time=none/\gB x≠none then {t with time:=gB x}
 else if t.day=none/\1<=lead x/\lead x<=2 then {t with day:=some (Oct.numOf (x.take (lead x)))}
 else if t.month=none/\0<month x then {t with month:=some (month x)}
 else if t.year=none/\2<=lead x/\lead x<=4 then {t with year:=some (Oct.numOf (x.take (lead x)))}
 else t
def untold:Told:=⟨none,none,none,none⟩
def told(s:List UInt8):Told:=(toks s).foldl tell untold
def dD(y:Nat):Int:=if 70<=y/\y<=99 then(y:Int)+1900 else if y<=69 then(y:Int)+2000 else y
def moment(t:Told):Int×Bool:=
 match t.time,t.day,t.month,t.year with
 |some (h,mi,s),some d,some m,some y=>if Is (dD y) m d/\h<=23/\mi<=59/\s<=59 then(days (dD y) m d*86400+(h*3600+mi*60+s:Nat),true)else(0,false)
 |_,_,_,_=>(0,false)
def kB(s:List UInt8):Int×Bool:=moment (told s)
theorem xW(t:Told):tell t []=t:=by
 unfold tell
 rw[if_neg (by intro h;exact h.2 rfl),if_neg (by intro h;exact absurd h.2.1 (by decide)),if_neg (by intro h;exact absurd h.2 (by decide)),if_neg (by intro h;exact absurd h.2.1 (by decide))]
def two(n:Nat):List UInt8:= [UInt8.ofNat (48+n/10%10),UInt8.ofNat (48+n%10)]
def week:List (List UInt8):= [[84,104,117],[70,114,105],[83,97,116],[83,117,110],[77,111,110],[84,117,101],[87,101,100]]
def rB:List (List UInt8):= [[74,97,110],[70,101,98],[77,97,114],[65,112,114],[77,97,121],[74,117,110],[74,117,108],[65,117,103],[83,101,112],[79,99,116],[78,111,118],[68,101,99]]
def tE(n:Int):List UInt8:=(week[(n%7).toNat]?).getD []
def mname(m:Int):List UInt8:=(rB[(m-1).toNat]?).getD []
def clock(n:Nat):List UInt8:=two (n/3600)++58::(two (n/60%60)++58::two (n%60))
def zD(y m d:Int)(k:Int)(n:Nat):List UInt8:=
 tE k++44::32::(two d.toNat++32::(mname m++32::((two (y.toNat/100)++two (y.toNat%100))++32::(clock n++32:: [71,77,84]))))
noncomputable def text(mo:Int):List UInt8:=match civil (mo/86400)with|some (y,m,d)=>zD y m d (mo/86400) (mo%86400).toNat|none=> []
end Dt
end Go.Proofs.YtabgoobcliijeaaGreatDoor
namespace Go.Proofs.YtabgoobcliijeaaGreatDoor
namespace Dt
def dg(k:Nat):UInt8:=UInt8.ofNat (48+k)
theorem kH: ∀k,k<10->(dg k).toNat=48+k/\Oct.cB (dg k)=true/\ZA (dg k)=false:=by decide+kernel
theorem fM(n:Nat):two n= [dg (n/10%10),dg (n%10)]:=rfl
theorem kM(n:Nat): ∀c∈two n,ZA c=false:=by
 intro c hc
 rw[fM]at hc
 rcases List.mem_cons.1 hc with rfl|hc
 ·exact(kH _ (by omega)).2.2
 ·obtain rfl:=List.mem_singleton.1 hc
  exact(kH _ (by omega)).2.2
theorem kAh {a:List UInt8}(ha: ∀c∈a,Oct.cB c=true){c:UInt8}(hc:Oct.cB c=false)(r:List UInt8):lead (a++c::r)=a.length:=by
 unfold lead
 induction a with
 |nil=>rw[List.nil_append,List.takeWhile_cons,hc];rfl
 |cons x a ih=>
  rw[List.cons_append,List.takeWhile_cons,ha x (by simp),if_pos rfl,zB5,ih (fun c hc=>ha c (by simp[hc])),zB5]
theorem NQ {a:List UInt8}(ha: ∀c∈a,Oct.cB c=true):lead a=a.length:=by
 unfold lead
 induction a with
 |nil=>rfl
 |cons x a ih=>rw[List.takeWhile_cons,ha x (by simp),if_pos rfl,zB5,ih (fun c hc=>ha c (by simp[hc])),zB5]
theorem gM(n:Nat): ∀c∈two n,Oct.cB c=true:=by
 intro c hc
 rw[fM]at hc
 rcases List.mem_cons.1 hc with rfl|hc
 ·exact(kH _ (by omega)).2.1
 ·obtain rfl:=List.mem_singleton.1 hc
  exact(kH _ (by omega)).2.1
theorem zV {n:Nat}(h:n<100):Oct.numOf (two n)=n:=by
 rw[fM]
 unfold Oct.numOf
 simp only[List.foldl_cons,List.foldl_nil,(kH (n/10%10) (by omega)).1,(kH (n%10) (by omega)).1]
 omega
theorem lAh {a b:Nat}(ha:a<100)(hb:b<100):Oct.numOf (two a++two b)=a*100+b:=by
 rw[fM,fM]
 unfold Oct.numOf
 simp only[List.cons_append,List.nil_append,List.foldl_cons,List.foldl_nil,(kH (a/10%10) (by omega)).1,(kH (a%10) (by omega)).1,(kH (b/10%10) (by omega)).1,(kH (b%10) (by omega)).1]
 omega
theorem dAo {n:Nat}(h:n<100){c:UInt8}(hc:Oct.cB c=false)(r:List UInt8):wC (two n++c::r)=some (n,c::r):=by
 have hl:lead (two n++c::r)=2:=kAh (gM n) hc r
 unfold wC
 rw[hl,if_pos (by decide)]
 have e1:(two n++c::r).take 2=two n:=rfl
 have e2:(two n++c::r).drop 2=c::r:=rfl
 rw[e1,e2,zV h]
theorem dAp {n:Nat}(h:n<100):wC (two n)=some (n,[]):=by
 have hl:lead (two n)=2:=NQ (gM n)
 unfold wC
 rw[hl,if_pos (by decide)]
 have e1:(two n).take 2=two n:=rfl
 have e2:(two n).drop 2= []:=rfl
 rw[e1,e2,zV h]
theorem pAe {a b c:Nat}(ha:a<100)(hb:b<100)(hc:c<100):gB (two a++58::(two b++58::two c))=some (a,b,c):=by
 unfold gB
 rw[dAo ha (by decide)]
 simp only[Option.bind_eq_bind,Option.bind_some,jF,if_true]
 rw[dAo hb (by decide)]
 simp only[Option.bind_some,if_true]
 rw[dAp hc]
 rfl
theorem pAi {n:Nat}(h:n<100):gB (two n)=none:=by
 unfold gB
 rw[dAp h]
 rfl
theorem cV(a b:Nat):lead (two a++two b)=4:=NQ (fun c hc=>(List.mem_append.1 hc).elim (gM a c) (gM b c))
theorem pAf(a b:Nat):gB (two a++two b)=none:=by
 unfold gB wC
 rw[cV,if_neg (by decide)]
 rfl
theorem qAi: ∀j,j<7->tell untold ((week[j]?).getD [])=untold/\ ∀c∈ (week[j]?).getD [],ZA c=false:=by
 intro j hj
 have:j=0\/j=1\/j=2\/j=3\/j=4\/j=5\/j=6:=by omega
 rcases this with rfl|rfl|rfl|rfl|rfl|rfl|rfl<;>exact⟨by rfl,by decide⟩
theorem bAa: ∀j,j<12->month ((rB[j]?).getD [])=j+1/\gB ((rB[j]?).getD [])=none/\ ∀c∈ (rB[j]?).getD [],ZA c=false:=by
 intro j hj
 have:j=0\/j=1\/j=2\/j=3\/j=4\/j=5\/j=6\/j=7\/j=8\/j=9\/j=10\/j=11:=by omega
 rcases this with rfl|rfl|rfl|rfl|rfl|rfl|rfl|rfl|rfl|rfl|rfl|rfl<;>exact⟨by decide,by rfl,by decide⟩
def five(y m d:Int)(n:Nat):List (List UInt8):= [two d.toNat,mname m,two (y.toNat/100)++two (y.toNat%100),clock n,[71,77,84]]
def full(y m d:Int)(n:Nat):Told:=⟨some (n/3600,n/60%60,n%60),some d.toNat,some m.toNat,some y.toNat⟩
theorem pA3(y m d:Int)(n:Nat)(x:List UInt8):tell (full y m d n) x=full y m d n:=by
 unfold tell full
 simp
theorem hAG {y m d:Int}(h:Is y m d){n:Nat}(hn:n<86400):(five y m d n).foldl tell untold=full y m d n:=by
 obtain⟨h1,h2,h3,h4,h5,h6⟩:=h
 have hl:=EE (leap y) m
 obtain⟨m1,m2,_⟩:=bAa (m-1).toNat (by omega)
 have hd:d.toNat<100:=by omega
 unfold five
 rw[List.foldl_cons,List.foldl_cons,List.foldl_cons,List.foldl_cons,List.foldl_cons,List.foldl_nil]
 have t1:tell untold (two d.toNat)=⟨none,some d.toNat,none,none⟩:=by
  unfold tell
  rw[if_neg (by rw[pAi hd];simp),if_pos ⟨rfl,by rw[NQ (gM _)];exact⟨by show 1<=2;omega,zB3 2⟩⟩,NQ (gM _)]
  have e1:(two d.toNat).take (two d.toNat).length=two d.toNat:=List.take_length
  rw[e1,zV hd]
  rfl
 have t2:tell ⟨none,some d.toNat,none,none⟩ (mname m)=⟨none,some d.toNat,some m.toNat,none⟩:=by
  unfold tell mname
  rw[if_neg (by rw[m2];simp),if_neg (by simp),if_pos ⟨rfl,by rw[m1];omega⟩,m1]
  have e:(m-1).toNat+1=m.toNat:=by omega
  rw[e]
 have t3:tell ⟨none,some d.toNat,some m.toNat,none⟩ (two (y.toNat/100)++two (y.toNat%100))=⟨none,some d.toNat,some m.toNat,some y.toNat⟩:=by
  unfold tell
  rw[if_neg (by rw[pAf];simp),if_neg (by simp),if_neg (by simp),if_pos ⟨rfl,by rw[cV];decide⟩,cV]
  have e1:(two (y.toNat/100)++two (y.toNat%100)).take 4=two (y.toNat/100)++two (y.toNat%100):=rfl
  rw[e1,lAh (by omega) (by omega)]
  have e:y.toNat/100*100+y.toNat%100=y.toNat:=by omega
  rw[e]
 have t4:tell ⟨none,some d.toNat,some m.toNat,some y.toNat⟩ (clock n)=full y m d n:=by
  unfold tell clock
  rw[pAe (by omega) (by omega) (by omega),if_pos (by simp)]
  rfl
 rw[t1,t2,t3,t4,pA3]
theorem kAU {y m d:Int}(h:Is y m d){n:Nat}(hn:n<86400):moment (full y m d n)=(days y m d*86400+n,true):=by
 have hh:=h
 obtain⟨h1,h2,h3,h4,h5,h6⟩:=h
 have hy:dD y.toNat=y:=by unfold dD;rw[if_neg (by omega),if_neg (by omega)];omega
 have hm:((m.toNat:Nat):Int)=m:=by omega
 have hd:((d.toNat:Nat):Int)=d:=by omega
 unfold moment full
 dsimp only
 rw[hy,hm,hd,if_pos ⟨hh,by omega,by omega,by omega⟩]
 congr 2
 congr 1
 omega
theorem gA4(n:Nat): ∀c∈clock n,ZA c=false:=by
 intro c hc
 unfold clock at hc
 rcases List.mem_append.1 hc with hc|hc
 ·exact kM _ c hc
 ·rcases List.mem_cons.1 hc with rfl|hc
  ·decide
  ·rcases List.mem_append.1 hc with hc|hc
   ·exact kM _ c hc
   ·rcases List.mem_cons.1 hc with rfl|hc
    ·decide
    ·exact kM _ c hc
theorem pAk {y m d:Int}(h:Is y m d)(n:Nat){c:UInt8}(hc:ZA c=true)(r:List UInt8):
  toks (two d.toNat++c::(mname m++c::((two (y.toNat/100)++two (y.toNat%100))++c::(clock n++c::([71,77,84]++r)))))=
   two d.toNat::mname m::(two (y.toNat/100)++two (y.toNat%100))::clock n::toks ([71,77,84]++r):=by
 obtain⟨h1,h2,h3,h4,h5,h6⟩:=h
 rw[dM (kM _) hc,dM (a:=mname m) (bAa (m-1).toNat (by omega)).2.2 hc,dM (fun x hx=>(List.mem_append.1 hx).elim (kM _ x) (kM _ x)) hc,dM (gA4 n) hc]
theorem gAl {mo y m d:Int}(h:civil (mo/86400)=some (y,m,d)):kB (text mo)=(mo,true):=by
 obtain⟨hI,hd⟩:=jH.1 h
 have hn:(mo%86400).toNat<86400:=by omega
 have ht:text mo=zD y m d (mo/86400) (mo%86400).toNat:=by unfold text;rw[h]
 obtain⟨w1,w2⟩:=qAi (mo/86400%7).toNat (by omega)
 rw[ht]
 unfold kB told zD tE
 rw[dM w2 (by decide),IH (by decide)]
 have e:=pAk hI (mo%86400).toNat (c:=32) (by decide) []
 rw[List.append_nil]at e
 rw[e,List.foldl_cons,w1,List.foldl_cons,xW]
 have e2:toks [71,77,84]= [[71,77,84]]:=CW (by decide)
 rw[e2]
 have e3:=hAG hI hn
 unfold five at e3
 rw[e3,kAU hI hn,hd]
 congr 1
 omega
theorem AW {mo:Int}(h:civil (mo/86400)=none):text mo= []:=by unfold text;rw[h]
end Dt
end Go.Proofs.YtabgoobcliijeaaGreatDoor
namespace Go.Proofs.YtabgoobcliijeaaGreatDoor
namespace Dt
theorem SW(k:Int):(tE k).length=3:=by
 unfold tE
 have hj:(k%7).toNat<7:=by omega
 generalize(k%7).toNat=j at*
 have:j=0\/j=1\/j=2\/j=3\/j=4\/j=5\/j=6:=by omega
 rcases this with rfl|rfl|rfl|rfl|rfl|rfl|rfl<;>rfl
theorem kV {m:Int}(h1:1<=m)(h2:m<=12):(mname m).length=3:=by
 unfold mname
 have hj:(m-1).toNat<12:=by omega
 generalize(m-1).toNat=j at*
 have:j=0\/j=1\/j=2\/j=3\/j=4\/j=5\/j=6\/j=7\/j=8\/j=9\/j=10\/j=11:=by omega
 rcases this with rfl|rfl|rfl|rfl|rfl|rfl|rfl|rfl|rfl|rfl|rfl|rfl<;>rfl
theorem pAy(n:Nat):(two n).length=2:=rfl
theorem gA2(n:Nat):(clock n).length=8:=rfl
def sW(y m d:Int)(n:Nat)(c:UInt8)(r:List UInt8):List UInt8:=two d.toNat++c::(mname m++c::((two (y.toNat/100)++two (y.toNat%100))++c::(clock n++c::([71,77,84]++r))))
theorem gAG(y m d k:Int)(n:Nat):zD y m d k n=(tE k++ [44,32])++sW y m d n 32 []:=by
 unfold zD sW
 simp
theorem gAF {y m d:Int}(h:Is y m d)(k:Int)(n:Nat):(zD y m d k n).length=29:=by
 obtain⟨_,_,h1,h2,_⟩:=h
 rw[gAG]
 unfold sW
 simp only[zB4,zB5,List.length_nil,SW,kV h1 h2,pAy,gA2]
theorem vZ(mo:Int):(mo.tmod 86400<0->mo/86400=mo.tdiv 86400-1)/\(0<=mo.tmod 86400->mo/86400=mo.tdiv 86400/\mo%86400=mo.tmod 86400):=by
 have e1:=Int.tmod_add_mul_tdiv mo 86400
 have e2:mo.tmod 86400<86400:=Int.tmod_lt_of_pos _ (by omega)
 have e3: -86400<mo.tmod 86400:=by
  rcases Int.le_total 0 mo with h|h
  ·have:=Int.tmod_nonneg 86400 h;omega
  ·have h1:=Int.tmod_lt_of_pos (-mo) (b:=86400) (by omega)
   rw[Int.neg_tmod]at h1
   omega
 omega
end Dt
end Go.Proofs.YtabgoobcliijeaaGreatDoor
namespace Go.Proofs.YtabgoobcliijeaaGreatDoor
namespace Dt
theorem fAq(y:Int):before y-134774=(y-1)*365+(y-1)/4- (y-1)/100+(y-1)/400-719162:=by unfold before;omega
theorem WH {y z:Int}(h:y<=z):before y<=before z:=by
 rcases Int.lt_or_eq_of_le h with j|j
 ·have:=qN j;have:=mM y;omega
 ·rw[j];exact Int.le_refl _
theorem before_last:before 10000=3067671:=by decide
theorem UQ(y:Int){m:Int}(h1:1<=m)(h2:m<=12):0<=mon (leap y) m/\mon (leap y) m<=335:=by
 have:m=1\/m=2\/m=3\/m=4\/m=5\/m=6\/m=7\/m=8\/m=9\/m=10\/m=11\/m=12:=by omega
 rcases this with rfl|rfl|rfl|rfl|rfl|rfl|rfl|rfl|rfl|rfl|rfl|rfl<;>cases leap y<;>decide
structure RE(y n m r:Int):Prop where
 low:1<=m
 high:m<=12
 left:0<=r
 sum:mon (leap y) m+r=n
theorem RE.start {y n:Int}(h:0<=n):RE y n 1 n:=⟨by omega,by omega,h,by rw[fK];omega⟩
theorem RE.more {y n m r:Int}(h:RE y n m r)(hn:n<cD y)(hr:len (leap y) m<=r):RE y n (m+1) (r-len (leap y) m):=by
 obtain⟨h1,h2,h3,h4⟩:=h
 have hl:=mV y
 have h12:m≠12:=by intro e;subst e;omega
 refine⟨by omega,by omega,by omega,?_⟩
 rw[JL _ h1 (by omega)];omega
theorem RE.stop {y n m r d:Int}(h:RE y n m r)(hy1:1601<=y)(hy2:y<=9999)(hd:d=n+(before y-134774))(hr:r<len (leap y) m):civil d=some (y,m,r+1):=by
 obtain⟨h1,h2,h3,h4⟩:=h
 rw[jH]
 refine⟨⟨hy1,hy2,h1,h2,by omega,by omega⟩,?_⟩
 unfold days;omega
theorem qAw {d:Int}(h1: -134774<=d)(h2:d<=2932896): ∃y:Nat,1601<=y/\y<=9999/\before y-134774<=d/\d<before (y+1)-134774:=by
 obtain⟨y,m,e,hI,hd⟩:=cAX h1 h2
 have hi:=EQ hI
 have hs:=FJ y
 obtain⟨a,b,_⟩:=hI
 unfold days at hd
 refine⟨y.toNat,by omega,by omega,?_,?_⟩
 ·rw[Int.toNat_of_nonneg (by omega)];omega
 ·rw[Int.toNat_of_nonneg (by omega),hs];omega
def AH(d:Int)(i:Nat):Bool:=decide (d<before (1601+i+1)-134774)
theorem lAa {d:Int}{y i:Nat}(h1:before y-134774<=d)(h:1601+i<y):AH d i=false:=by
 unfold AH
 have:=WH (y:=1601+i+1) (z:=y) (by omega)
 exact zA8 (by omega)
theorem lAb {d:Int}{y i:Nat}(h1:d<before (y+1)-134774)(h:y<=1601+i):AH d i=true:=by
 unfold AH
 have:=WH (y:=y+1) (z:=1601+i+1) (by omega)
 exact zA9 (by omega)
theorem MT {n:Nat}(h: ¬n<10):Lib.decDigits n=Lib.decDigits (n/10)++ [UInt8.ofNat (48+n%10)]:=by
 conv=>lhs;unfold Lib.decDigits
 rw[dif_neg h]
theorem gAL {n:Nat}(h:n<10):Lib.decDigits n= [UInt8.ofNat (48+n)]:=by unfold Lib.decDigits;rw[dif_pos h]
theorem gAN {y:Nat}(h1:1000<=y)(h2:y<=9999):Lib.decDigits y=two (y/100)++two (y%100):=by
 rw[MT (n:=y) (by omega),MT (n:=y/10) (by omega),MT (n:=y/10/10) (by omega),gAL (n:=y/10/10/10) (by omega)]
 unfold two
 have e1:y/100/10%10=y/10/10/10:=by omega
 have e2:y/100%10=y/10/10%10:=by omega
 have e3:y%100/10%10=y/10%10:=by omega
 have e4:y%100%10=y%10:=by omega
 rw[e1,e2,e3,e4];rfl
def UR:List (List UInt8):= [[77,111,110],[84,117,101],[87,101,100],[84,104,117],[70,114,105],[83,97,116],[83,117,110]]
theorem qAe(n:Int):UR[((n+134774)%7).toNat]? =some (tE n):=by
 unfold tE
 obtain⟨j,hj⟩: ∃j,n%7=j:=⟨_,rfl⟩
 have e:(n+134774)%7=(j+3)%7:=by omega
 have hb:0<=j/\j<7:=by omega
 rw[e,hj]
 have:j=0\/j=1\/j=2\/j=3\/j=4\/j=5\/j=6:=by omega
 rcases this with rfl|rfl|rfl|rfl|rfl|rfl|rfl<;>rfl
theorem bA7 {m:Int}(h1:1<=m)(h2:m<=12):rB[(m-1).toNat]? =some (mname m):=by
 unfold mname
 cases e:rB[(m-1).toNat]? with
 |some x=>rfl
 |none=>
  rw[List.getElem?_eq_none_iff]at e
  have:rB.length=12:=rfl
  omega
theorem hAL {p:List UInt8}(hp: ∀c∈p,ZA c=false)(T:Told):(toks p).foldl tell T=(toks []).foldl tell (tell T p):=by
 rw[CW hp]
 show tell T p=tell (tell T p) []
 rw[xW]
theorem zN(T:Told):(toks []).foldl tell T=T:=xW T
def IB:List UInt8->List UInt8×List UInt8
 | []=>([],[])
 |c::r=>if ZA c=true then([],r)else(c::(IB r).1,(IB r).2)
theorem sZ: ∀s:List UInt8,(IB s).1.length<=s.length/\(IB s).2.length<=s.length-1
 | []=>⟨zB3 _,zB3 _⟩
 |c::r=>by
  have ih:=sZ r
  rw[IB]
  split
  ·exact⟨Nat.zero_le _,zB3 _⟩
  ·refine⟨by simp;omega,by simp;omega⟩
theorem gAo {s:List UInt8}{k:Nat}{c:UInt8}(h: ∀x∈s.take k,ZA x=false)(hk:s[k]? =some c)(hc:ZA c=true):IB s=(s.take k,s.drop (k+1)):=by
 induction s generalizing k with
 |nil=>simp at hk
 |cons x r ih=>
  cases k with
  |zero=>
   simp at hk
   subst hk
   rw[IB,if_pos hc];rfl
  |succ k=>
   have hx:ZA x=false:=h x (by simp)
   rw[IB,if_neg (by rw[hx];simp),ih (k:=k) (fun y hy=>h y (by rw[List.take_succ_cons];exact List.mem_cons_of_mem _ hy)) (by simpa using hk)]
   rfl
theorem tZ {s:List UInt8}(h: ∀x∈s,ZA x=false):IB s=(s,[]):=by
 induction s with
 |nil=>rfl
 |cons x r ih=>rw[IB,if_neg (by rw[h x (by simp)];simp),ih (fun y hy=>h y (by simp[hy]))]
theorem hAI(s:List UInt8)(T:Told):(toks s).foldl tell T=(toks (IB s).2).foldl tell (tell T (IB s).1):=by
 by_cases h: ∀x∈s,ZA x=false
 ·rw[tZ h];exact hAL h T
 ·induction s generalizing T with
  |nil=>exact absurd (fun x hx=>by cases hx) h
  |cons x r ih=>
   rw[IB]
   split
   ·rename_i hx
    rw[IH hx,List.foldl_cons]
   ·rename_i hx
    have hx':ZA x=false:=by cases e:ZA x with|false=>rfl|true=>exact absurd e hx
    have hr: ¬ ∀y∈r,ZA y=false:=fun g=>h fun y hy=>by
     rcases List.mem_cons.1 hy with rfl|hy
     ·exact hx'
     ·exact g y hy
    obtain⟨c,hc1,hc2⟩: ∃c∈r,ZA c=true:=by
     refine Classical.byContradiction fun g=>hr fun y hy=>?_
     cases e:ZA y with
     |false=>rfl
     |true=>exact absurd ⟨y,hy,e⟩ g
    have key: ∀l:List UInt8,(∃c∈l,ZA c=true)->toks l=(IB l).1::toks (IB l).2:=by
     intro l
     induction l with
     |nil=>rintro⟨c,hc,_⟩;cases hc
     |cons y l ihl=>
      rintro⟨c,hc,hs⟩
      rw[IB]
      split
      ·rename_i hy;rw[IH hy]
      ·rename_i hy
       have hy':ZA y=false:=by cases e:ZA y with|false=>rfl|true=>exact absurd e hy
       rw[rI hy',ihl ?_]
       rcases List.mem_cons.1 hc with rfl|hc
       ·rw[hs]at hy';cases hy'
       ·exact⟨c,hc,hs⟩
    rw[rI hx',key r ⟨c,hc1,hc2⟩]
    rfl
theorem WI(s:List UInt8):lead s<=s.length:=by unfold lead;exact(List.takeWhile_prefix _).length_le
theorem oAM(s:List UInt8):s.take (lead s)=s.takeWhile Oct.cB:=by
 unfold lead
 induction s with
 |nil=>rfl
 |cons c r ih=>
  rw[List.takeWhile_cons]
  split
  ·rw[zB5,List.take_succ_cons,ih]
  ·rfl
theorem VZ(s:List UInt8):s.drop (lead s)=s.dropWhile Oct.cB:=by
 unfold lead
 induction s with
 |nil=>rfl
 |cons c r ih=>
  rw[List.takeWhile_cons,List.dropWhile_cons]
  split
  ·rw[zB5,List.drop_succ_cons,ih]
  ·rfl
theorem bV {s:List UInt8}{k:Nat}(h:k<lead s): ∃c,s[k]? =some c/\Oct.cB c=true:=by
 have hl:=WI s
 have hk:k<s.length:=by omega
 refine⟨s[k],List.getElem?_eq_getElem hk,?_⟩
 have hm:s[k]∈s.take (lead s):=List.mem_take_iff_getElem.2 ⟨k,by omega,rfl⟩
 rw[oAM]at hm
 exact List.all_eq_true.1 List.all_takeWhile _ hm
theorem dV {s:List UInt8}{c:UInt8}(h:s[lead s]? =some c):Oct.cB c=false:=by
 have e:(s.drop (lead s))[0]? =some c:=by rw[List.getElem?_drop];exact h
 rw[VZ]at e
 cases hs:s.dropWhile Oct.cB with
 |nil=>rw[hs]at e;cases e
 |cons x r=>
  rw[hs]at e
  have hx:x=c:=zB2 e
  subst hx
  have:=List.head?_dropWhile_not Oct.cB s
  rw[hs]at this
  simpa using this
theorem kAj {s:List UInt8}{n:Nat}(h1: ∀k,k<n-> ∃c,s[k]? =some c/\Oct.cB c=true)(h2: ∀c,s[n]? =some c->Oct.cB c=false):lead s=n:=by
 rcases Nat.lt_trichotomy (lead s) n with h|h|h
 ·obtain⟨c,e,hc⟩:=h1 _ h
  rw[dV e]at hc;cases hc
 ·exact h
 ·obtain⟨c,e,hc⟩:=bV h
  rw[h2 c e]at hc;cases hc
theorem kAi(s:List UInt8):lead (s.drop (lead s))=0:=by
 refine kAj (n:=0) (fun k hk=>absurd hk (Nat.not_lt_zero _)) (fun c hc=>?_)
 rw[List.getElem?_drop]at hc
 exact dV hc
theorem bAu: ∀ {l:List UInt8},(∀c∈l,Oct.cB c=true)->Oct.numOf l<10^l.length:=by
 intro l h
 have key: ∀(l:List UInt8)(n:Nat),(∀c∈l,Oct.cB c=true)->l.foldl (fun n c=>n*10+(c.toNat-48)) n<(n+1)*10^l.length:=by
  intro l
  induction l with
  |nil=>intro n _;simp
  |cons c r ih=>
   intro n h
   have hc:Oct.cB c=true:=h c (by simp)
   have hb:48<=c.toNat/\c.toNat<=57:=by simpa[Oct.cB]using hc
   have h1:=ih (n*10+(c.toNat-48)) (fun x hx=>h x (by simp[hx]))
   rw[List.foldl_cons,zB5,Nat.pow_succ]
   refine Nat.lt_of_lt_of_le h1 ?_
   have h2:(n*10+(c.toNat-48)+1)<=(n+1)*10:=by omega
   calc (n*10+(c.toNat-48)+1)*10^r.length<=((n+1)*10)*10^r.length:=Nat.mul_le_mul_right _ h2
    _=(n+1)*(10^r.length*10):=by rw[Nat.mul_assoc,Nat.mul_comm 10]
 have:=key l 0 h
 simpa[Oct.numOf]using this
theorem bAy {s:List UInt8}{k:Nat}(hk:k<=lead s):Oct.numOf (s.take k)<10^k:=by
 have hl:=WI s
 have h:=bAu (l:=s.take k) (fun c hc=>by
  obtain⟨j,hj,e⟩:=List.mem_take_iff_getElem.1 hc
  obtain⟨d,e2,hd⟩:=bV (s:=s) (k:=j) (by omega)
  rw[List.getElem?_eq_getElem (by omega)]at e2
  rw[<-e,zB2 e2];exact hd)
 rw[List.length_take,Nat.min_eq_left (by omega)]at h
 exact h
def bC(s:List UInt8)(least most:Nat):Option (Nat×List UInt8):=if least<=lead s/\lead s<=most then some (Oct.numOf (s.take (lead s)),s.drop (lead s))else none
theorem rZ(s:List UInt8):bC s 1 2=wC s:=rfl
theorem PP {s r:List UInt8}{a b n:Nat}(h:bC s a b=some (n,r))(hb:b<=4):n<10000/\r.length<=s.length/\lead r=0:=by
 unfold bC at h
 split at h
 ·rename_i hh
  obtain⟨e1,e2⟩:=Prod.mk.inj (zB2 h)
  have h1:=bAy (s:=s) (k:=lead s) (zB3 _)
  have h2:10^lead s<=10^4:=Nat.pow_le_pow_right (by omega) (by omega)
  refine⟨by omega,by rw[<-e2,List.length_drop];omega,by rw[<-e2];exact kAi s⟩
 ·cases h
theorem BW {r:List UInt8}(h:lead r=0):wC r=none:=by unfold wC;rw[h,if_neg (by omega)]
def skip(r:List UInt8):List UInt8:=Lib.trimPrefix r [58]
theorem mO(r:List UInt8):(∃q,jF r=some q/\skip r=q)\/(jF r=none/\skip r=r):=by
 unfold skip Lib.trimPrefix Lib.hasPrefix
 cases r with
 |nil=>exact .inr ⟨rfl,rfl⟩
 |cons c q=>
  by_cases h:c=58
  ·subst h;exact .inl ⟨q,rfl,by simp⟩
  ·refine .inr ⟨by show(if c=58 then some q else none)=none;rw[if_neg h],?_⟩
   rw[if_neg]
   simp;intro e;exact h e.symm
theorem oA8(r:List UInt8):(skip r).length<=r.length:=by
 rcases mO r with⟨q,h,e⟩|⟨_,e⟩
 ·rw[e]
  unfold jF at h
  cases r with
  |nil=>cases h
  |cons c s=>
   dsimp only at h
   split at h
   ·cases h;simp
   ·cases h
 ·rw[e];exact zB3 _
structure Clock(s:List UInt8)(k:Nat)(ns:List Nat)(r:List UInt8):Prop where
 few:ns.length=k
 small: ∀n∈ns,n<10000
 shorter:r.length<=s.length
 all:gB s=match k,ns with
  |0,_=>(do let (a,r)<-wC r;let r<-jF r;let (b,r)<-wC r;let r<-jF r;let (c,_)<-wC r;pure (a,b,c))
  |1,[a]=>(do let (b,r)<-wC r;let r<-jF r;let (c,_)<-wC r;pure (a,b,c))
  |2,[a,b]=>(do let (c,_)<-wC r;pure (a,b,c))
  |3,[a,b,c]=>some (a,b,c)
  |_,_=>none
theorem Clock.start (s:List UInt8):Clock s 0 [] s:=⟨rfl,by simp,zB3 _,rfl⟩
theorem Clock.no {s r:List UInt8}{k:Nat}{ns:List Nat}(h:Clock s k ns r)(hk:k<3)(hn:wC r=none):gB s=none:=by
 rw[h.all]
 have hf:=h.few
 match k,ns,hk,hf with
 |0,_,_,_=>dsimp only;rw[hn];rfl
 |1,[a],_,_=>dsimp only;rw[hn];rfl
 |2,[a,b],_,_=>dsimp only;rw[hn];rfl
theorem Clock.more {s r q:List UInt8}{k n:Nat}{ns:List Nat}(h:Clock s k ns r)(hk:k<3)(hn:wC r=some (n,q)):Clock s (k+1) (ns++ [n]) (skip q):=by
 have hc:=PP (a:=1) (b:=2) (show bC r 1 2=some (n,q) from hn) (by omega)
 have hs:=oA8 q
 have hr:=h.shorter
 refine⟨by rw[zB4,h.few];rfl,fun x hx=>?_,by omega,?_⟩
 ·rcases List.mem_append.1 hx with hx|hx
  ·exact h.small x hx
  ·rw[List.mem_singleton.1 hx];exact hc.1
 ·rw[h.all]
  have hf:=h.few
  match k,ns,hk,hf with
  |0,[],_,_=>
   dsimp only[List.nil_append]
   rw[hn]
   rcases mO q with⟨u,e1,e2⟩|⟨e1,e2⟩
   ·rw[e2]
    simp only[Option.bind_eq_bind,Option.bind_some,e1]
   ·rw[e2,BW hc.2.2]
    simp only[Option.bind_eq_bind,Option.bind_some,e1,Option.bind_none]
  |1,[a],_,_=>
   dsimp only[List.cons_append,List.nil_append]
   rw[hn]
   rcases mO q with⟨u,e1,e2⟩|⟨e1,e2⟩
   ·rw[e2]
    simp only[Option.bind_eq_bind,Option.bind_some,e1]
   ·rw[e2,BW hc.2.2]
    simp only[Option.bind_eq_bind,Option.bind_some,e1,Option.bind_none]
  |2,[a,b],_,_=>
   dsimp only[List.cons_append,List.nil_append]
   rw[hn]
   rfl
theorem Clock.done {s r:List UInt8}{ns:List Nat}(h:Clock s 3 ns r): ∃a b c,ns= [a,b,c]/\gB s=some (a,b,c)/\a<10000/\b<10000/\c<10000:=by
 have hf:=h.few
 have ha:=h.all
 have hs:=h.small
 match ns,hf with
 | [a,b,c],_=>exact⟨a,b,c,rfl,ha,hs a (by simp),hs b (by simp),hs c (by simp)⟩
end Dt
end Go.Proofs.YtabgoobcliijeaaGreatDoor
namespace Go.Proofs.YtabgoobcliijeaaGreatDoor
open Go.RowKit Go.Lib
def bA9:List Int:= [31,28,31,30,31,30,31,31,30,31,30,31]
structure mC(w:World):Prop where
 std:Std w
 lens:Lib.TabIs Tryz.prog w "cracknel/date.monthLengths" .i64 bA9
 names:w.var? Tryz.prog "cracknel/date.monthNames" =some (GA Dt.rB)
 week:w.var? Tryz.prog "cracknel/date.weekDays" =some (GA Dt.UR)
theorem YT:Tryz.prog.globalNamed "cracknel/date.monthLengths" =some 4:=by kernel_rfl
theorem dQ:Tryz.prog.globalNamed "cracknel/date.monthNames" =some 1:=by kernel_rfl
theorem ZT:Tryz.prog.globalNamed "cracknel/date.weekDays" =some 0:=by kernel_rfl
theorem mC.below {w w':World}(h:mC w)(hb:Below w.heap.size w w'):mC w':=
 ⟨h.std.below hb,Go.Joins.tab_stays YT h.lens hb (zB3 _),Go.Joins.var_stays dQ h.names hb (zB3 _),Go.Joins.var_stays ZT h.week hb (zB3 _)⟩
theorem mC.len {w:World}(h:mC w)(m:Nat)(h1:1<=m)(h2:m<=12):w.cell? ⟨4,m-1,none⟩=some (.int .i64 (Dt.len false m)):=by
 have hc:=h.lens.cell YT (m-1) (by show m-1<12;omega)
 rw[hc]
 have:m=1\/m=2\/m=3\/m=4\/m=5\/m=6\/m=7\/m=8\/m=9\/m=10\/m=11\/m=12:=by omega
 rcases this with rfl|rfl|rfl|rfl|rfl|rfl|rfl|rfl|rfl|rfl|rfl|rfl<;>rfl
theorem mC.name {w:World}(h:mC w){i:Nat}{s:List UInt8}(hs:Dt.rB[i]? =some s):w.cell? ⟨1,i,none⟩=some (lA s):=by
 rw[World.var?_cell dQ h.names i,eJ,hs];rfl
theorem mC.day {w:World}(h:mC w){i:Nat}{s:List UInt8}(hs:Dt.UR[i]? =some s):w.cell? ⟨0,i,none⟩=some (lA s):=by
 rw[World.var?_cell ZT h.week i,eJ,hs];rfl
theorem mC.row {w:World}(h:mC w): ∃t fr,w.heap[1]? =some (.cells (GA Dt.rB) t fr):=by
 have hn:=h.names
 unfold World.var? at hn
 rw[dQ]at hn
 dsimp only[Option.bind]at hn
 split at hn
 ·rename_i cs t fr hb
  cases hn
  exact⟨t,fr,hb⟩
 ·cases hn
theorem pAs(s:ByteArray)(w:World):
  Calls Tryz.prog 163 #[.string s,.string ⟨#[48,49,50,51,52,53,54,55,56,57]⟩] w fun e w'=>e= .returned (.string ⟨(s.data.toList.drop (Dt.lead s.data.toList)).toArray⟩)/\Below w.heap.size w w':=by
 refine(Any.strings_TrimLeft_laid Tryz.lays161 (by kernel_rfl) s ⟨#[48,49,50,51,52,53,54,55,56,57]⟩ w (by decide) (ascii_of_all (by decide))).mono fun e w' ⟨h1,h2⟩=>⟨?_,h2⟩
 rw[h1,Dt.VZ]
 have e:(fun c:UInt8=> [(48:UInt8),49,50,51,52,53,54,55,56,57].contains c)=Oct.cB:=by
  funext c
  have key: ∀n,n<256-> [(48:UInt8),49,50,51,52,53,54,55,56,57].contains (UInt8.ofNat n)=Oct.cB (UInt8.ofNat n):=by decide+kernel
  have:=key c.toNat c.toNat_lt
  rwa [UInt8.ofNat_toNat]at this
 unfold Lib.trimLeftS
 rw[<-e]
theorem oA7(s:ByteArray)(w:World):
  Calls Tryz.prog 151 #[.string s,.string ⟨#[58]⟩] w fun e w'=>e= .returned (.string ⟨(Dt.skip s.data.toList).toArray⟩)/\w=w':=
 (Tryz.strings_TrimPrefix s ⟨#[58]⟩ w).mono fun _ _ ⟨h1,h2⟩=>⟨h1,h2.symm⟩
end Go.Proofs.YtabgoobcliijeaaGreatDoor
namespace Go.Proofs.YtabgoobcliijeaaGreatDoor
open Go.ChangeShapes Go.WideShapes Go.ChangeAt Go.WideMaps Go.WideElems Go.RowKit
theorem fAS {H:Type}{enc:TypeId×Value->H}{P:Program}{w:World}{base:Nat}{sp:Nat->Bool}{held:Bool}{fuel:Nat}{t e:TypeId}{n:Nat}{cs:List Value}{ss:List (List UInt8)}{p:List MemPlace}
  (ht:P.underlying t=some (.array n e))(he:P.underlying e=some .string)(hce:P.cellsOf e=1)(hct:P.cellsOf t=n)
  (h:DataW.trod enc P w base sp held fuel t cs=some (.agg (ss.map fun s=> .lit (.string s)),p)):cs=ss.map lA:=by
 cases fuel with
 |zero=>simp[DataW.trod]at h
 |succ fuel=>
  simp only[DataW.trod,ht,hce,hct,Nat.mul_one]at h
  split at h
  ·rename_i hl
   obtain⟨xs,hm,hx⟩:=Option.map_eq_some_iff.1 h
   have hxs:xs.map (·.1)=ss.map fun s=>(DataW.lit (.string s):DataW H):=by
    have:=congrArg Prod.fst hx
    simpa using this
   have hxl:xs.length=n:=by simpa using Lib.mapM_length hm
   have hzl:ss.length=n:=by
    have:=congrArg List.length hxs
    simp at this
    omega
   apply List.ext_getElem?
   intro i
   by_cases hi:i<n
   ·obtain⟨b,hb,hf⟩:=Lib.mapM_at hm i i (by simp[hi])
    obtain⟨s,hc,rfl,_⟩:=DataW.trod_string he hf
    have h1:cs[i]? =some (.string s):=by
     have:=congrArg (·[0]?) hc
     simpa[List.getElem?_take,List.getElem?_drop]using this
    have h2:(xs.map (·.1))[i]? =some (DataW.lit (.string s.data.toList):DataW H):=by simp[hb]
    rw[hxs]at h2
    simp only[List.getElem?_map,Option.map_eq_some_iff,DataW.lit.injEq,Lit.string.injEq]at h2
    obtain⟨s',hs',e1⟩:=h2
    rw[h1,List.getElem?_map,hs',e1]
    rfl
   ·rw[List.getElem?_eq_none (by omega),List.getElem?_eq_none (by simp;omega)]
  ·cases h
theorem NW {P:Program}{W:World}{name:String}{ss:List (List UInt8)}{rest:List (String×DataW Unit)}{g:Nat}{t e:TypeId}{n:Nat}
  (hg:P.globalNamed name=some g)(hty:(P.globals[g]?).map (·.type)=some t)(ht:P.underlying t=some (.array n e))(he:P.underlying e=some .string)(hce:P.cellsOf e=1)(hct:P.cellsOf t=n)
  (h:laidMet P ((name,.agg (ss.map fun s=> .lit (.string s)))::rest) W):W.var? P name=some (GA ss):=by
 obtain⟨ps,⟨g',t',cs,fuel,p,q,hg',ht',hvar,hd,_,_⟩,_⟩:=h
 obtain rfl:=zB2 (hg.symm.trans hg')
 obtain rfl:=zB2 (hty.symm.trans ht')
 have hc:=fAS ht he hce hct hd
 rw[hvar]
 unfold GA
 rw[<-hc]
theorem kAm:Rows.laid_cracknel_date_monthLengths=Lib.tabData (H:=Unit) .i64 bA9:=by rfl
theorem laidNames:Rows.laid_cracknel_date_monthNames (H:=Unit)= .agg (Dt.rB.map fun s=> .lit (.string s)):=by rfl
theorem kAb:Rows.laid_cracknel_date_weekDays (H:=Unit)= .agg (Dt.UR.map fun s=> .lit (.string s)):=by rfl
end Go.Proofs.YtabgoobcliijeaaGreatDoor
