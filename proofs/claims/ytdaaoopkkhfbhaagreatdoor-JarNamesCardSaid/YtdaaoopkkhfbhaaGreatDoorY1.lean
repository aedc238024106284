/- What every walk's text imports. -/
import Derived.Test.YtdaaoopkkhfbhaaGreatDoorRows
import Derived.Test.YtdaaoopkkhfbhaaGreatDoorY0
import Derived.WalkSpells
import Derived.WalkLawsBesides
import Derived.ProofKit
import Derived.Below
import Derived.ChangeSame
import Derived.OpenShut
import Derived.Deep.QuietTactic
import Derived.BigQuiet
import Derived.Laws.Rows
import Derived.Laws.Tables
import Derived.Laws.ResultCell
import Derived.Laws.StructEq
import Derived.Laws.NewBlocks
import Derived.Laws.MakeOwn
import Derived.ChangeKeysEq
import Derived.RegionTactic
import Derived.BigRegion
import Derived.IntWalk
set_option maxHeartbeats 1000000
set_option maxRecDepth 100000
namespace Go.Proofs.YtdaaoopkkhfbhaaGreatDoor
open Go.ChangeShapes Go.WideShapes Go.ChangeAt Go.WideMaps Go.WideElems Go.RowKit
theorem own:ownKnob Tryz.prog.godebug=none:=by kernel_rfl
section
variable {H:Type} {enc:TypeId×Value->H} {P:Program}
theorem gA7 {f:Func}{s:ChangeSpec}{fresh handsOn:Bool}{W W':World}{args:Array Value}{v:Value}{ds gs:List (DataW H)}{before pa pv:List MemPlace}
  (hW:DataW.Whole enc P f.params.toList s.vars false W args.toList ds gs before)(hbelow:Below W.heap.size W W')
  (results: ∀(b:Nat)(sp:Nat->Bool)(hd:Bool),DataW.TrodAll enc P W' b sp hd f.resultTypes.toList (v.resultList f.resultTypes.size) (s.fn H (ds++gs)).results [])
  (arguments:DataW.TrodAll enc P W' 0 (fun b=>decide (b<W.heap.size)) true f.params.toList args.toList (s.fn H (ds++gs)).args pa)
  (variables:DataW.TrodVars enc P W' (fun b=>decide (b<W.heap.size)) s.vars (s.fn H (ds++gs)).vars pv)
  (places:before=pa++pv):s.post enc P f false fresh handsOn false W args v W':=by
 refine⟨ds,gs,before,[],pa,pv,hW,results _ _ _,arguments,variables,?_,fun h=>by cases h⟩
 refine World.keptBut_mono (fun p hp=>⟨hp,?_⟩) (hbelow.frame (·∈before))
 rw[places]at hp
 exact .inr (List.mem_append.1 hp)
end
end Go.Proofs.YtdaaoopkkhfbhaaGreatDoor
namespace Go.Proofs.YtdaaoopkkhfbhaaGreatDoor
open Go.RowKit
theorem II(s:ByteArray)(w:World)(hs:s.size<=maxLen):
  Calls Tryz.prog 141 #[.string s] w fun e w'=>e= .returned (.bool (Oct.digits s.data.toList))/\w=w':=by
 unfold maxLen at hs
 go_enter Tryz.func141,Tryz.ntmps141
 go_wp2
 go_loop [6] (fun i=> ∃k:Nat,k<=s.size/\i= .int .i64 k/\(s.data.toList.take k).all Oct.RA=true) (fun i=>s.size- (intOf i).toNat)
 case atStart=>exact⟨0,Nat.zero_le _,rfl,by simp⟩
 case round=>
  obtain⟨k,hk,rfl,hall⟩:=hrel
  have HA:=zA7 hall
  clear hall
  by_cases hlt:k<s.size
  ·by_cases h1:(48:Int)<=(s[k].toNat:Int)<;>by_cases h2:(s[k].toNat:Int)<=(57:Int)
   ·go_wp2
    go_round
    case rel=>exact⟨k+1,by omega,by go_num,Oct.pH s k hlt HA.out (by simp[Oct.RA];omega)⟩
    case measure=>simp[intOf];omega
   all_goals
    go_wp2
    go_ret
    exact⟨tA (by rw[Oct.JU s k hlt (by simp[Oct.RA];omega)]),rfl⟩
  ·go_wp2
   go_ret
   exact⟨tA (by rw[Oct.FU s k (by omega) HA.out];rw[Bool.eq_iff_iff];simp[Oct.aB]),rfl⟩
theorem WK(s:ByteArray)(w:World)(hs:s.size<=maxLen):
  Calls Tryz.prog 112 #[.string s] w fun e w'=>e= .returned (.bool (Oct.digits s.data.toList))/\w=w':=by
 unfold maxLen at hs
 go_enter Tryz.func112,Tryz.ntmps112
 go_wp2
 go_loop [3] (fun i=> ∃k:Nat,k<=s.size/\i= .int .i64 k/\(s.data.toList.take k).all Oct.RA=true) (fun i=>s.size- (intOf i).toNat)
 case atStart=>exact⟨0,Nat.zero_le _,rfl,by simp⟩
 case round=>
  obtain⟨k,hk,rfl,hall⟩:=hrel
  have HA:=zA7 hall
  clear hall
  by_cases hlt:k<s.size
  ·by_cases h1:(48:Int)<=(s[k].toNat:Int)<;>by_cases h2:(s[k].toNat:Int)<=(57:Int)
   ·go_wp2
    go_round
    case rel=>exact⟨k+1,by omega,by go_num,Oct.pH s k hlt HA.out (by simp[Oct.RA];omega)⟩
    case measure=>simp[intOf];omega
   all_goals
    go_wp2
    go_ret
    exact⟨tA (by rw[Oct.JU s k hlt (by simp[Oct.RA];omega)]),rfl⟩
  ·go_wp2
   go_ret
   exact⟨tA (by rw[Oct.FU s k (by omega) HA.out,Bool.eq_iff_iff];simp[Oct.cA8,Nat.pos_iff_ne_zero]),rfl⟩
end Go.Proofs.YtdaaoopkkhfbhaaGreatDoor
namespace Go.Proofs.YtdaaoopkkhfbhaaGreatDoor
open Go.RowKit
theorem hAG(s:ByteArray)(w:World)(hs:s.size<=maxLen)(h18:18<s.size):
  Calls Tryz.prog 249 #[.string s] w fun e w'=>e= .returned (.tuple #[.int .i64 (Oct.number s.data.toList:Nat),.bool (Oct.isNum s.data.toList)])/\w=w':=by
 unfold maxLen at hs
 have H:=zA7 (Oct.eY s h18)
 go_enter Tryz.func249,Tryz.ntmps249
 go_wp2
 go_ret2
 exact⟨nD (dB (by rw[Oct.gJ H.out];rfl)) (eE H.out.symm),rfl⟩
theorem hAH(s:ByteArray)(w:World)(hs:s.size<=maxLen)(h18:s.size<=18)(hd:Oct.digits s.data.toList=false):
  Calls Tryz.prog 249 #[.string s] w fun e w'=>e= .returned (.tuple #[.int .i64 (Oct.number s.data.toList:Nat),.bool (Oct.isNum s.data.toList)])/\w=w':=by
 have H:=zA7 (Oct.gY s hd)
 have HS:=zA7 hs
 clear hs
 go_enter Tryz.func249,Tryz.ntmps249
 go_wp2_with (go_at_call 141;refine(II _ _ HS.out).mono ?_;rintro e w' ⟨rfl,rfl⟩)
 go_ret2
 exact⟨nD (dB (by rw[Oct.gJ H.out];rfl)) (eE H.out.symm),rfl⟩
theorem hAI(s:ByteArray)(w:World)(hs:s.size<=maxLen)(h18:s.size<=18)(hd:Oct.digits s.data.toList=true)(h1:1<s.size)(h0:(s[0].toNat:Int)=48):
  Calls Tryz.prog 249 #[.string s] w fun e w'=>e= .returned (.tuple #[.int .i64 (Oct.number s.data.toList:Nat),.bool (Oct.isNum s.data.toList)])/\w=w':=by
 have H:=zA7 (Oct.iY s h1 h0)
 have HS:=zA7 hs
 have hne:(s.toList== [48])=false:=by
  rw[beq_eq_false_iff_ne,Oct.aB]
  intro e
  have:=(Oct.sY s (by omega) 48).1 e
  omega
 clear hs
 go_enter Tryz.func249,Tryz.ntmps249
 go_wp2_with (go_at_call 141;refine(II _ _ HS.out).mono ?_;rintro e w' ⟨rfl,rfl⟩)
 go_ret2
 exact⟨nD (dB (by rw[Oct.gJ H.out];rfl)) (eE H.out.symm),rfl⟩
theorem jN(s:ByteArray)(w:World)(hs:s.size<=maxLen)(h18:s.size<=18)(hd:Oct.digits s.data.toList=true)(h1:(s[0]'(Oct.sE hd)).toNat=48->s.size=1):
  Calls Tryz.prog 249 #[.string s] w fun e w'=>e= .returned (.tuple #[.int .i64 (Oct.number s.data.toList:Nat),.bool (Oct.isNum s.data.toList)])/\w=w':=by
 have H:=zA7 (Oct.kY s hd h18 h1)
 have HS:=zA7 hs
 have hp:=Oct.sE hd
 have HD:=zA7 hd
 have hor:((s[0].toNat:Int)==48)=false\/(((s[0].toNat:Int)==48)=true/\(s.toList== [48])=true):=by
  by_cases h:s[0].toNat=48
  ·refine .inr ⟨by simp;omega,?_⟩
   rw[beq_iff_eq,Oct.aB]
   exact(Oct.sY s hp 48).2 ⟨Oct.TB h,h1 h⟩
  ·exact .inl (by simp;omega)
 clear hs h1
 rcases hor with h2|⟨h2,h3⟩
 all_goals
  go_enter Tryz.func249,Tryz.ntmps249
  go_wp2_with (go_at_call 141;refine(II _ _ HS.out).mono ?_;rintro e w' ⟨rfl,rfl⟩)
  clear hd
  go_loop [4,23] (fun n i=> ∃k:Nat,k<=s.size/\i= .int .i64 k/\n= .int .i64 ((Oct.numOf (s.data.toList.take k):Nat):Int)) (fun _ i=>s.size- (intOf i).toNat)
  case atStart=>exact⟨0,Nat.zero_le _,rfl,by simp[Oct.numOf]⟩
  case round=>
   obtain⟨k,hk,rfl,rfl⟩:=hrel
   by_cases hlt:k<s.size
   ·have hb:=Oct.cY HD.out h18 k hlt
    have hc:=Oct.fM HD.out k hlt
    have HT:=zA7 (Oct.QK s k hlt)
    generalize Oct.numOf (s.data.toList.take k)=n at*
    go_wp2
    go_round
    case rel=>exact⟨k+1,by omega,by go_num,dB (by rw[HT.out];omega)⟩
    case measure=>simp[intOf];omega
   ·have HT:=zA7 (Oct.oD s k (by omega))
    go_wp2
    go_ret2
    exact⟨nD (dB (by rw[Oct.jN H.out,HT.out])) (eE H.out.symm),rfl⟩
theorem hAF(s:ByteArray)(w:World)(hs:s.size<=maxLen):
  Calls Tryz.prog 249 #[.string s] w fun e w'=>e= .returned (.tuple #[.int .i64 (Oct.number s.data.toList:Nat),.bool (Oct.isNum s.data.toList)])/\w=w':=by
 by_cases h18:s.size<=18
 ·cases hd:Oct.digits s.data.toList with
  |false=>exact hAH s w hs h18 hd
  |true=>
   by_cases h1:(s[0]'(Oct.sE hd)).toNat=48->s.size=1
   ·exact jN s w hs h18 hd h1
   ·have hp:=Oct.sE hd
    have:(s[0]'hp).toNat=48/\s.size≠1:=by
     by_cases h:(s[0]'hp).toNat=48
     ·exact⟨h,fun e=>h1 fun _=>e⟩
     ·exact absurd (fun k=>absurd k h) h1
    exact hAI s w hs h18 hd (by omega) (by have:=this.1;omega)
 ·exact hAG s w hs (by omega)
end Go.Proofs.YtdaaoopkkhfbhaaGreatDoor
namespace Go.Proofs.YtdaaoopkkhfbhaaGreatDoor
open Go.RowKit
theorem jAk(s:ByteArray)(w:World)(hs:s.size<=maxLen)(hd:Oct.digits s.data.toList=false):
  Calls Tryz.prog 65 #[.string s] w fun e w'=>e= .returned (.tuple #[.int .i64 (Oct.number s.data.toList:Nat),.bool (Oct.isNum s.data.toList)])/\w=w':=by
 have H:=zA7 (Oct.gY s hd)
 have HS:=zA7 hs
 unfold maxLen at hs
 go_enter Tryz.func65,Tryz.ntmps65
 go_wp2_with (go_at_call 112;refine(WK _ _ HS.out).mono ?_;rintro e w' ⟨rfl,rfl⟩)
 go_ret2
 exact⟨nD (dB (by rw[Oct.gJ H.out];rfl)) (eE H.out.symm),rfl⟩
theorem jAj(s:ByteArray)(w:World)(hs:s.size<=maxLen)(hd:Oct.digits s.data.toList=true)(h18:18<s.size):
  Calls Tryz.prog 65 #[.string s] w fun e w'=>e= .returned (.tuple #[.int .i64 (Oct.number s.data.toList:Nat),.bool (Oct.isNum s.data.toList)])/\w=w':=by
 have H:=zA7 (Oct.eY s h18)
 have HS:=zA7 hs
 unfold maxLen at hs
 go_enter Tryz.func65,Tryz.ntmps65
 go_wp2_with (go_at_call 112;refine(WK _ _ HS.out).mono ?_;rintro e w' ⟨rfl,rfl⟩)
 go_ret2
 exact⟨nD (dB (by rw[Oct.gJ H.out];rfl)) (eE H.out.symm),rfl⟩
theorem jAl(s:ByteArray)(w:World)(hs:s.size<=maxLen)(hd:Oct.digits s.data.toList=true)(h18:s.size<=18)(h1:1<s.size)(h0:(s[0].toNat:Int)=48):
  Calls Tryz.prog 65 #[.string s] w fun e w'=>e= .returned (.tuple #[.int .i64 (Oct.number s.data.toList:Nat),.bool (Oct.isNum s.data.toList)])/\w=w':=by
 have H:=zA7 (Oct.iY s h1 h0)
 have HS:=zA7 hs
 have h2:((s[0].toNat:Int)==48)=true:=by simp;omega
 clear hs h0
 go_enter Tryz.func65,Tryz.ntmps65
 go_wp2_with (go_at_call 112;refine(WK _ _ HS.out).mono ?_;rintro e w' ⟨rfl,rfl⟩)
 go_ret2
 exact⟨nD (dB (by rw[Oct.gJ H.out];rfl)) (eE H.out.symm),rfl⟩
theorem jAm(s:ByteArray)(w:World)(hs:s.size<=maxLen)(h18:s.size<=18)(hd:Oct.digits s.data.toList=true)(h1:(s[0]'(Oct.sE hd)).toNat=48->s.size=1):
  Calls Tryz.prog 65 #[.string s] w fun e w'=>e= .returned (.tuple #[.int .i64 (Oct.number s.data.toList:Nat),.bool (Oct.isNum s.data.toList)])/\w=w':=by
 have H:=zA7 (Oct.kY s hd h18 h1)
 have HS:=zA7 hs
 have hp:=Oct.sE hd
 have HD:=zA7 hd
 have hor:(1<s.size/\((s[0].toNat:Int)==48)=false)\/s.size<=1:=by
  by_cases h:s[0].toNat=48
  ·exact .inr (by have:=h1 h;omega)
  ·by_cases h2:1<s.size
   ·exact .inl ⟨h2,by simp;omega⟩
   ·exact .inr (by omega)
 clear hs h1
 rcases hor with⟨h3,h2⟩|h2
 all_goals
  go_enter Tryz.func65,Tryz.ntmps65
  go_wp2_with (go_at_call 112;refine(WK _ _ HS.out).mono ?_;rintro e w' ⟨rfl,rfl⟩)
  clear hd
  go_loop [4,5] (fun n i=> ∃k:Nat,k<=s.size/\i= .int .i64 k/\n= .int .i64 ((Oct.numOf (s.data.toList.take k):Nat):Int)) (fun _ i=>s.size- (intOf i).toNat)
  case atStart=>exact⟨0,Nat.zero_le _,rfl,by simp[Oct.numOf]⟩
  case round=>
   obtain⟨k,hk,rfl,rfl⟩:=hrel
   by_cases hlt:k<s.size
   ·have hb:=Oct.cY HD.out h18 k hlt
    have hc:=Oct.fM HD.out k hlt
    have HT:=zA7 (Oct.QK s k hlt)
    generalize Oct.numOf (s.data.toList.take k)=n at*
    go_wp2
    go_round
    case rel=>exact⟨k+1,by omega,by go_num,dB (by rw[HT.out];omega)⟩
    case measure=>simp[intOf];omega
   ·have HT:=zA7 (Oct.oD s k (by omega))
    go_wp2
    go_ret2
    exact⟨nD (dB (by rw[Oct.jN H.out,HT.out])) (eE H.out.symm),rfl⟩
theorem XY(s:ByteArray)(w:World)(hs:s.size<=maxLen):
  Calls Tryz.prog 65 #[.string s] w fun e w'=>e= .returned (.tuple #[.int .i64 (Oct.number s.data.toList:Nat),.bool (Oct.isNum s.data.toList)])/\w=w':=by
 cases hd:Oct.digits s.data.toList with
 |false=>exact jAk s w hs hd
 |true=>
  by_cases h18:s.size<=18
  ·by_cases h1:(s[0]'(Oct.sE hd)).toNat=48->s.size=1
   ·exact jAm s w hs h18 hd h1
   ·have hp:=Oct.sE hd
    have:(s[0]'hp).toNat=48/\s.size≠1:=by
     by_cases h:(s[0]'hp).toNat=48
     ·exact⟨h,fun e=>h1 fun _=>e⟩
     ·exact absurd (fun k=>absurd k h) h1
    exact jAl s w hs hd h18 (by omega) (by have:=this.1;omega)
  ·exact jAj s w hs hd (by omega)
end Go.Proofs.YtdaaoopkkhfbhaaGreatDoor
namespace Go.Proofs.YtdaaoopkkhfbhaaGreatDoor
open Go.RowKit
theorem DW:(Tryz.prog.info? 9).map (fun i=>(i.zero,i.size,i.bytes))=some (some (.string ⟨#[]⟩),1,16):=by kernel_rfl
def OD(B:Nat)(ps:List (List UInt8))(w:World)(e:Ending)(w':World):Prop:=
 ∃v,e= .returned v/\w'.ownsRow B 9 1 v ps.length (ps.map gA)/\Below B w w'
theorem nN {w:World}{B:Nat}{v u:Value}{done:List (List UInt8)}{p:List UInt8}(hu:u=gA p)(h:w.ownsRow B 9 1 v (done.length+1) (done.map gA++ [u])):
  w.ownsRow B 9 1 v (done++ [p]).length ((done++ [p]).map gA):=by
 rw[zB4,List.map_append,List.map_singleton,<-hu];exact h
theorem zZ(s:ByteArray)(at_:UInt8)(w:World)(hs:s.size<=1099511627776):
  Calls Tryz.prog 88 #[.string s,.int .u8 (at_.toNat:Int)] w (OD w.heap.size (Oct.split at_ s.data.toList) w):=by
 obtain⟨i0,hi,hz0,hz1,hz2⟩:=info_parts DW
 go_enter Tryz.func88,Tryz.ntmps88
 go_wp2
 go_loopw [5,6,10] (fun v f i wr=> ∃(k from_:Nat)(done:List (List UInt8)),k<=s.size/\i= .int .i64 k/\f= .int .i64 from_/\Oct.Cut at_ s.data.toList k done from_/\wr.ownsRow w.heap.size 9 1 v done.length (done.map gA)/\Below w.heap.size w wr) (fun _ _ i _=>s.size- (intOf i).toNat)
 case atStart=>exact⟨0,0,[],Nat.zero_le _,rfl,rfl,Oct.Cut.start _ _,World.ownsRow_nil _ _ _ _,Below.refl _ _⟩
 case round=>
  obtain⟨k,from_,done,hk,rfl,rfl,hcut,hown,hb⟩:=hrel
  have hfk:=hcut.le
  have OI:=hcut.few
  by_cases hlt:k<s.size
  ·by_cases h1:s[k]=at_
   ·have h2:((s[k].toNat:Int)==(at_.toNat:Int))=true:=by rw[h1];simp
    go_wp2_with (at_builtin;refine wpList_append_own _ rfl _ _ 93 rfl w.heap.size 9 i0 (.string ⟨#[]⟩) 1 16 Tryz.underlying93 hi hz0 hz1 hz2 rfl (by decide) _ _ _ rfl (hown.alloc _) ⟨wr.heap.size,0,none⟩ 1 1 [.string (s.extract from_ k)] rfl rfl (cell_one_new _ _ _) ?c1a ?gP ?iP ?oK ?_)
    case c1a=>intro u hu;simp at hu;subst hu;rfl
    case gP=>simp only[maxLen];omega
    case iP=>omega
    case oK=>have:=hb.size;simp;omega
    ·intro v' w1 hown' hgrow _
     have R:=nN (yR s from_ k) hown'
     have B:=hb.trans (((Below.refl _ wr).alloc hb.size _).grown hgrow (by have:=hb.size;simp;omega) (fun g hg=>(hown.lt g hg).1))
     clear hown' hgrow hown
     go_wp2
     go_roundw
     case rel=>exact⟨k+1,k+1,_,by omega,by go_num,by go_num,hcut.hit (by rw[Oct.oA];exact hlt) h1,R,B⟩
     case measure=>simp[intOf];omega
   ·have h2:((s[k].toNat:Int)==(at_.toNat:Int))=false:=by
     rw[beq_eq_false_iff_ne];intro e;exact h1 (Oct.TB (by omega))
    go_wp2
    go_roundw
    case rel=>exact⟨k+1,from_,done,by omega,by go_num,rfl,hcut.miss (by rw[Oct.oA];exact hlt) h1,hown,hb⟩
    case measure=>simp[intOf];omega
  ·go_wp2_with (at_builtin;refine wpList_append_own _ rfl _ _ 93 rfl w.heap.size 9 i0 (.string ⟨#[]⟩) 1 16 Tryz.underlying93 hi hz0 hz1 hz2 rfl (by decide) _ _ _ rfl (hown.alloc _) ⟨wr.heap.size,0,none⟩ 1 1 [.string (s.extract from_ s.size)] rfl rfl (cell_one_new _ _ _) ?jP ?kP ?lP ?mP ?_)
   case jP=>intro u hu;simp at hu;subst hu;rfl
   case kP=>simp only[maxLen];omega
   case lP=>omega
   case mP=>have:=hb.size;simp;omega
   ·intro v' w1 hown' hgrow _
    have R:=nN (GZ s from_ s.size (zB3 _)) hown'
    have B:=hb.trans (((Below.refl _ wr).alloc hb.size _).grown hgrow (by have:=hb.size;simp;omega) (fun g hg=>(hown.lt g hg).1))
    clear hown' hgrow hown
    have HC:=zA7 (hcut.done (by rw[Oct.oA];omega))
    go_wp2
    go_ret
    exact⟨_,rfl,by rw[HC.out];exact R,B⟩
def AI(B:Nat)(ps:List (List UInt8))(w:World)(e:Ending)(w':World):Prop:=
 ∃g cap,e= .returned (.slice (some ⟨g,0,none⟩) ps.length cap)/\w'.ownsRow B 9 1 (.slice (some ⟨g,0,none⟩) ps.length cap) ps.length (ps.map gA)/\Below B w w'
theorem OD.at_ {B:Nat}{ps:List (List UInt8)}{w w':World}{e:Ending}(h:OD B ps w e w')(hp:0<ps.length):AI B ps w e w':=by
 obtain⟨v,he,hown,hb⟩:=h
 rcases hown.2 with⟨_,h0⟩|⟨g,cap,_,hv,_⟩
 ·omega
 ·subst hv
  exact⟨g,cap,he,hown,hb⟩
theorem sR(s:ByteArray)(at_:UInt8)(w:World)(hs:s.size<=1099511627776):
  Calls Tryz.prog 88 #[.string s,.int .u8 (at_.toNat:Int)] w (AI w.heap.size (Oct.split at_ s.data.toList) w):=
 (zZ s at_ w hs).mono fun _ _ h=>h.at_ (Oct.aG _ _)
theorem kJ {w:World}{B g cap:Nat}{ps:List (List UInt8)}(h:w.ownsRow B 9 1 (.slice (some ⟨g,0,none⟩) ps.length cap) ps.length (ps.map gA)){k:Nat}(hk:k<ps.length):
  ∃(p:List UInt8)(s:ByteArray),ps[k]? =some p/\w.cell? ⟨g,k,none⟩=some (.string s)/\s.data.toList=p/\s.toList.isEmpty=p.isEmpty/\s.size=p.length:=by
 obtain⟨p,s,h1,h2,h3,h4,h5⟩:=lAf hk
 refine⟨p,s,h1,?_,h3,h4,h5⟩
 rw[h.cellAt k (by omega),List.getElem?_map,h1,<-h2];rfl
theorem WH {w:World}{B g cap n:Nat}{ps:List (List UInt8)}(h:w.ownsRow B 9 1 (.slice (some ⟨g,0,none⟩) n cap) n (ps.map gA)){k:Nat}{p:List UInt8}{s:ByteArray}(hp:ps[k]? =some p)(hs:s=⟨p.toArray⟩):
  w.cell? ⟨g,k,none⟩=some (.string s):=by
 have hk:=(List.getElem?_eq_some_iff.1 hp).1
 have hl:=h.1
 rw[List.length_map]at hl
 rw[h.cellAt k (by omega),List.getElem?_map,hp,hs];rfl
theorem jJ {w:World}{B g cap n:Nat}{t:TypeId}{xs:List Value}(h:w.ownsRow B t 1 (.slice (some ⟨g,0,none⟩) n cap) n xs):n<=cap:=by
 rcases h.2 with⟨e,_⟩|⟨g',cap',_,e,_,_,hc,_⟩
 ·cases e
 ·simp only[Value.slice.injEq,Option.some.injEq,Addr.mk.injEq,and_true,true_and]at e
  rw[e.2];exact hc
end Go.Proofs.YtdaaoopkkhfbhaaGreatDoor
namespace Go.Proofs.YtdaaoopkkhfbhaaGreatDoor
open Go.RowKit
theorem dR(s:ByteArray)(at_:UInt8)(w:World)(hs:s.size<=1099511627776):
  Calls Tryz.prog 111 #[.string s,.int .u8 (at_.toNat:Int)] w (OD w.heap.size (Oct.split at_ s.data.toList) w):=by
 obtain⟨i0,hi,hz0,hz1,hz2⟩:=info_parts DW
 go_enter Tryz.func111,Tryz.ntmps111
 go_wp2
 go_loopw [5,6,7] (fun v f i wr=> ∃(k from_:Nat)(done:List (List UInt8)),k<=s.size/\i= .int .i64 k/\f= .int .i64 from_/\Oct.Cut at_ s.data.toList k done from_/\wr.ownsRow w.heap.size 9 1 v done.length (done.map gA)/\Below w.heap.size w wr) (fun _ _ i _=>s.size- (intOf i).toNat)
 case atStart=>exact⟨0,0,[],Nat.zero_le _,rfl,rfl,Oct.Cut.start _ _,World.ownsRow_made w #[] 0 (zB3 _) (Nat.zero_le _) rfl,(Below.refl _ _).alloc (zB3 _) _⟩
 case round=>
  obtain⟨k,from_,done,hk,rfl,rfl,hcut,hown,hb⟩:=hrel
  have hfk:=hcut.le
  have OI:=hcut.few
  by_cases hlt:k<s.size
  ·by_cases h1:s[k]=at_
   ·have h2:((s[k].toNat:Int)==(at_.toNat:Int))=true:=by rw[h1];simp
    go_wp2_with (at_builtin;refine wpList_append_own _ rfl _ _ 93 rfl w.heap.size 9 i0 (.string ⟨#[]⟩) 1 16 Tryz.underlying93 hi hz0 hz1 hz2 rfl (by decide) _ _ _ rfl (hown.alloc _) ⟨wr.heap.size,0,none⟩ 1 1 [.string (s.extract from_ k)] rfl rfl (cell_one_new _ _ _) ?c1a ?gP ?iP ?oK ?_)
    case c1a=>intro u hu;simp at hu;subst hu;rfl
    case gP=>simp only[maxLen];omega
    case iP=>omega
    case oK=>have:=hb.size;simp;omega
    ·intro v' w1 hown' hgrow _
     have R:=nN (yR s from_ k) hown'
     have B:=hb.trans (((Below.refl _ wr).alloc hb.size _).grown hgrow (by have:=hb.size;simp;omega) (fun g hg=>(hown.lt g hg).1))
     clear hown' hgrow hown
     go_wp2
     go_roundw
     case rel=>exact⟨k+1,k+1,_,by omega,by go_num,by go_num,hcut.hit (by rw[Oct.oA];exact hlt) h1,R,B⟩
     case measure=>simp[intOf];omega
   ·have h2:((s[k].toNat:Int)==(at_.toNat:Int))=false:=by
     rw[beq_eq_false_iff_ne];intro e;exact h1 (Oct.TB (by omega))
    go_wp2
    go_roundw
    case rel=>exact⟨k+1,from_,done,by omega,by go_num,rfl,hcut.miss (by rw[Oct.oA];exact hlt) h1,hown,hb⟩
    case measure=>simp[intOf];omega
  ·go_wp2_with (at_builtin;refine wpList_append_own _ rfl _ _ 93 rfl w.heap.size 9 i0 (.string ⟨#[]⟩) 1 16 Tryz.underlying93 hi hz0 hz1 hz2 rfl (by decide) _ _ _ rfl (hown.alloc _) ⟨wr.heap.size,0,none⟩ 1 1 [.string (s.extract from_ s.size)] rfl rfl (cell_one_new _ _ _) ?jP ?kP ?lP ?mP ?_)
   case jP=>intro u hu;simp at hu;subst hu;rfl
   case kP=>simp only[maxLen];omega
   case lP=>omega
   case mP=>have:=hb.size;simp;omega
   ·intro v' w1 hown' hgrow _
    have R:=nN (GZ s from_ s.size (zB3 _)) hown'
    have B:=hb.trans (((Below.refl _ wr).alloc hb.size _).grown hgrow (by have:=hb.size;simp;omega) (fun g hg=>(hown.lt g hg).1))
    clear hown' hgrow hown
    have HC:=zA7 (hcut.done (by rw[Oct.oA];omega))
    go_wp2
    go_ret
    exact⟨_,rfl,by rw[HC.out];exact R,B⟩
end Go.Proofs.YtdaaoopkkhfbhaaGreatDoor
namespace Go.Proofs.YtdaaoopkkhfbhaaGreatDoor
open Go.RowKit
theorem RK {w w':World}{B n:Nat}{t:TypeId}{v:Value}{xs:List Value}(h:w.ownsRow B t 1 v n xs)(hb:Below w.heap.size w w'):w'.ownsRow B t 1 v n xs:=by
 refine h.kept (row:=none) ⟨hb.os,hb.tape,hb.output,hb.size,fun i hi _=>hb.block i hi⟩ ?_
 cases hv:v.ownBlock
 ·exact .inl rfl
 ·exact .inr (by simp)
theorem lJ {w:World}{B n:Nat}{t:TypeId}{v:Value}{xs:List Value}(h:w.ownsRow B t 1 v n xs){p:Addr}(hp:v.ownBlock≠some p.block)(u:Value):(w.setCell p u).ownsRow B t 1 v n xs:=by
 refine h.kept (row:=some p.block) ⟨rfl,rfl,rfl,by simp[World.setCell],fun i _ hn=>Below.heap_setCell w p u i (by intro e;exact hn (by rw[e]))⟩ (.inr hp)
def VC(B:Nat)(l:List UInt8)(w:World)(e:Ending)(w':World):Prop:=e= .returned (.string ⟨l.toArray⟩)/\Below B w w'
structure Bytes(w:World)(g:Nat)(l:List UInt8):Prop where
 cell: ∀j c,l[j]? =some c->w.cell? ⟨g,j,none⟩=some (BA c)
 free: ∀j,j<l.length->w.frozen? ⟨g,j,none⟩=false
theorem Bytes.set {w:World}{g:Nat}{l:List UInt8}(h:Bytes w g l)(k:Nat)(c:UInt8):Bytes (w.setCell ⟨g,k,none⟩ (BA c)) g (l.set k c):=by
 refine⟨fun j d hj=>?_,fun j hj=>?_⟩
 ·by_cases e:j=k
  ·subst e
   have hlt:j<l.length:=by have:=(List.getElem?_eq_some_iff.1 hj).1;simpa using this
   rw[List.getElem?_set_self hlt]at hj
   rw[<-zB2 hj]
   exact World.cell?_setCell_same w _ _ (h.cell j _ (List.getElem?_eq_getElem hlt))
  ·rw[List.getElem?_set_ne (by omega)]at hj
   rw[World.cell?_setCell_other w _ _ _ (by intro e';injection e' with _ e';exact e e'.symm)]
   exact h.cell j d hj
 ·rw[World.frozen?_setCell];exact h.free j (by simpa using hj)
theorem Bytes.string {w:World}{g cap:Nat}{l:List UInt8}(h:Bytes w g l):
  (convert 61 9 (.slice (some ⟨g,0,none⟩) l.length cap)).run Tryz.prog w= .ok (.string ⟨l.toArray⟩) w:=by
 refine run_convert_bytes_back w 61 9 5 ⟨g,0,none⟩ cap l Tryz.underlying61 Tryz.underlying5 Tryz.underlying9 (fun j hj=>?_)
 have hadd:(⟨g,0,none⟩:Addr).add j=⟨g,j,none⟩:=by unfold Addr.add;split<;>simp_all
 rw[hadd]
 exact h.cell j _ (List.getElem?_eq_getElem hj)
theorem Bytes.new (w:World)(s:ByteArray)(cap:Nat)(t:TypeId):Bytes (w.drew.alloc (.cells (bytesRow s cap) t ((bytesRow s cap).size,(bytesRow s cap).size+1))) w.heap.size s.data.toList:=by
 refine⟨fun j c hj=>?_,fun j hj=>?_⟩
 ·obtain⟨hlt,e⟩:=List.getElem?_eq_some_iff.1 hj
  have:=World.cell?_alloc_mark w.drew (bytesRow s cap) t ((bytesRow s cap).size,(bytesRow s cap).size+1) j
  refine Eq.trans this ?_
  rw[bytesRow_at s cap j (by simpa using hlt)]
  rw[<-e];rfl
 ·have:=World.frozen?_alloc_mark w.drew (bytesRow s cap) t (bytesRow s cap).size ((bytesRow s cap).size+1) j
  refine Eq.trans this ?_
  have h1:j<(bytesRow s cap).size:=by simp[bytesRow]at hj⊢;omega
  simp;omega
theorem hAU(W:World)(c:UInt8):(convert 61 9 (.slice (some ⟨W.heap.size,0,none⟩) 1 1)).run Tryz.prog (W.alloc (.cells #[.int .u8 (c.toNat:Int)] 5))= .ok (.string ⟨#[c]⟩) (W.alloc (.cells #[.int .u8 (c.toNat:Int)] 5)):=by
 refine run_convert_bytes_back (W.alloc (.cells #[.int .u8 (c.toNat:Int)] 5)) 61 9 5 ⟨W.heap.size,0,none⟩ 1 [c] Tryz.underlying61 Tryz.underlying5 Tryz.underlying9 (fun j hj=>?_)
 have:j=0:=by simp at hj;exact hj
 subst this
 exact cell_one_new W (.int .u8 (c.toNat:Int)) 5 0 _ rfl
end Go.Proofs.YtdaaoopkkhfbhaaGreatDoor
namespace Go.Proofs.YtdaaoopkkhfbhaaGreatDoor
open Go.RowKit
def eC(w w':World):Prop:= ∃n,w'=w.drewN n
theorem eC.refl (w:World):eC w w:=⟨0,rfl⟩
theorem eC.more {w w':World}(h:eC w w')(n:Nat):eC w (w'.drewN n):=by
 obtain⟨k,rfl⟩:=h
 exact⟨k+n,World.drewN_drewN _ _ _⟩
theorem eC.below {w w':World}(h:eC w w')(B:Nat):Below B w w':=by
 obtain⟨n,rfl⟩:=h
 induction n with
 |zero=>exact Below.refl _ _
 |succ n ih=>exact ih.drew
theorem TY {P:Program}{f:FuncId}{args:Array Value}{w:World}{n:Nat}{v:Value}(h:Calls P f args (w.drewN n) fun e w'=>e= .returned v/\w.drewN n=w'):
  Calls P f args (w.drewN n) fun e w''=>e= .returned v/\ ∃m,w''=w.drewN m:=h.mono fun _ _ hh=>⟨hh.1,n,hh.2.symm⟩
def qF(b:Bool)(w:World)(e:Ending)(w':World):Prop:=e= .returned (.bool b)/\eC w w'
theorem mN {w:World}{B n:Nat}{t:TypeId}{v:Value}{xs:List Value}(h:w.ownsRow B t 1 v n xs):
  ∃A c,v= .slice A n c/\(0<n-> ∃g,A=some ⟨g,0,none⟩):=by
 rcases h.2 with⟨rfl,rfl⟩|⟨g,cap,_,rfl,_⟩
 ·exact⟨none,0,rfl,fun h=>absurd h (by omega)⟩
 ·exact⟨some ⟨g,0,none⟩,cap,rfl,fun _=>⟨g,rfl⟩⟩
end Go.Proofs.YtdaaoopkkhfbhaaGreatDoor
namespace Go.Proofs.YtdaaoopkkhfbhaaGreatDoor
open Go.RowKit
theorem qR(c:UInt8)(w:World):
  Calls Tryz.prog 205 #[.int .u8 (c.toNat:Int)] w fun e w'=>e= .returned (.int .u8 ((Oct.low c).toNat:Int))/\w=w':=by
 have hl:=Oct.CE c
 have hc:c.toNat<256:=c.toNat_lt
 have HL:=zA7 hl
 clear hl
 by_cases h1:(65:Int)<=(c.toNat:Int)<;>by_cases h2:(c.toNat:Int)<=(90:Int)
 all_goals
  go_enter Tryz.func205,Tryz.ntmps205
  go_wp2
  go_ret
  exact⟨BC (by rw[HL.out];split<;>omega),rfl⟩
end Go.Proofs.YtdaaoopkkhfbhaaGreatDoor
namespace Go.Proofs.YtdaaoopkkhfbhaaGreatDoor
open Go.RowKit
theorem YL(c:UInt8)(w:World):
  Calls Tryz.prog 137 #[.int .u8 (c.toNat:Int)] w fun e w'=>e= .returned (.bool (Oct.EA c))/\w=w':=by
 have hc:c.toNat<256:=c.toNat_lt
 go_enter Tryz.func137,Tryz.ntmps137
 go_wp2
 all_goals
  go_ret
  exact⟨tA (by rw[Bool.eq_iff_iff];simp[Oct.EA];omega),rfl⟩
end Go.Proofs.YtdaaoopkkhfbhaaGreatDoor
namespace Go.Proofs.YtdaaoopkkhfbhaaGreatDoor
open Go.RowKit
theorem DN(a b:ByteArray)(w:World)(ha:a.size<=maxLen):
  Calls Tryz.prog 147 #[.string a,.string b] w (qF (Oct.NB a.data.toList b.data.toList) w):=by
 unfold maxLen at ha
 by_cases hsz:a.size=b.size
 ·have hz:((a.size:Int) !=(b.size:Int))=false:=by rw[hsz];simp
  have HZ:=zA7 hsz
  clear hsz
  go_enter Tryz.func147,Tryz.ntmps147
  go_wp2
  go_loopw [13] (fun i wr=> ∃k:Nat,k<=a.size/\i= .int .i64 k/\(a.data.toList.take k).map Oct.low=(b.data.toList.take k).map Oct.low/\eC w wr) (fun i _=>a.size- (intOf i).toNat)
  case atStart=>exact⟨0,Nat.zero_le _,rfl,by simp,eC.refl _⟩
  case round=>
   obtain⟨k,hk,rfl,hm,hd⟩:=hrel
   have HM:=zA7 hm
   clear hm hz
   by_cases hlt:k<a.size
   ·have hlb:k<b.size:=by have:=HZ.out;omega
    by_cases hc:Oct.low a[k]=Oct.low b[k]
    ·have hne:(((Oct.low a[k]).toNat:Int) !=((Oct.low b[k]).toNat:Int))=false:=by rw[hc];simp
     have HC:=zA7 hc
     clear hc
     go_wp2
     go_quiet ((go_at_call 205;exact TY (qR _ _)))
     go_wp2
     go_roundw
     case rel=>exact⟨k+1,by omega,by go_num,Oct.map_take hlt hlb HM.out HC.out,hd.more _⟩
     case measure=>simp[intOf];omega
    ·have hne:(((Oct.low a[k]).toNat:Int) !=((Oct.low b[k]).toNat:Int))=true:=by
      rw[bne_iff_ne];intro e;exact hc (Oct.TB (by omega))
     have HC:=zA7 hc
     clear hc
     go_wp2
     go_quiet ((go_at_call 205;exact TY (qR _ _)))
     go_wp2
     go_ret
     exact⟨tA (Oct.kA8 hlt hlb HC.out).symm,hd.more _⟩
   ·go_wp2
    go_ret
    exact⟨tA (Oct.kA9 (k:=k) (by omega) (by have:=HZ.out;omega) HM.out).symm,hd⟩
 ·have hz:((a.size:Int) !=(b.size:Int))=true:=by rw[bne_iff_ne];omega
  have HZ:=zA7 hsz
  clear hsz
  go_enter Tryz.func147,Tryz.ntmps147
  go_wp2
  go_ret
  exact⟨tA (Oct.kA7 HZ.out).symm,eC.refl _⟩
end Go.Proofs.YtdaaoopkkhfbhaaGreatDoor
namespace Go.Proofs.YtdaaoopkkhfbhaaGreatDoor
open Go.RowKit
end Go.Proofs.YtdaaoopkkhfbhaaGreatDoor
namespace Go.Proofs.YtdaaoopkkhfbhaaGreatDoor
open Go.RowKit
namespace Oct
def GD(l:List UInt8)(k:Nat):List UInt8:=(l.take k).map low++l.drop k
theorem eAi(l:List UInt8):GD l 0=l:=by simp[GD]
theorem eAg(l:List UInt8)(k:Nat):(GD l k).length=l.length:=by simp[GD];omega
theorem eAf {l:List UInt8}{k:Nat}(h:l.length<=k):GD l k=l.map low:=by
 unfold GD;rw[List.take_of_length_le h,List.drop_eq_nil_of_le h,List.append_nil]
theorem eAe {l:List UInt8}{k:Nat}(h:k<l.length):(GD l k)[k]? =some l[k]:=by
 unfold GD
 rw[List.getElem?_append_right (by simp;omega)]
 simp only[List.length_map,List.length_take]
 rw[List.getElem?_drop,List.getElem?_eq_getElem (by omega)]
 congr 1
 have:k+(k-min k l.length)=k:=by omega
 simp only[this]
theorem eAh {l:List UInt8}{k:Nat}(h:k<l.length):(GD l k).set k (low l[k])=GD l (k+1):=by
 unfold GD
 rw[List.set_append_right _ _ (by simp;omega),List.take_succ_eq_append_getElem h,List.map_append,List.append_assoc,List.drop_eq_getElem_cons h]
 have:k- ((l.take k).map low).length=0:=by simp;omega
 rw[this];rfl
end Oct
theorem oX(s:ByteArray)(w:World)(hs:s.size<=1099511627776):
  Calls Tryz.prog 144 #[.string s] w (VC w.heap.size (s.data.toList.map Oct.low) w):=by
 have hcv:=fun W=>run_bytes_of_string (P:=Tryz.prog) W 9 61 5 s Tryz.underlying9 Tryz.underlying61 Tryz.underlying5
 go_enter Tryz.func144,Tryz.ntmps144
 go_wp2
 go_loopw [9] (fun i wr=> ∃k:Nat,k<=s.size/\i= .int .i64 k/\Bytes wr w.heap.size (Oct.GD s.data.toList k)/\Below w.heap.size w wr) (fun i _=>s.size- (intOf i).toNat)
 case atStart=>exact⟨0,Nat.zero_le _,rfl,by rw[Oct.eAi];exact Bytes.new w s _ _,((Below.refl _ w).alloc (zB3 _) _).drew⟩
 case round=>
  obtain⟨k,hk,rfl,hB,hb⟩:=hrel
  clear hcv
  by_cases hlt:k<s.size
  ·have hlt':k<s.data.toList.length:=by rw[Oct.oA];exact hlt
   have hcell:=hB.cell k _ (Oct.eAe hlt')
   have hfr:=hB.free k (by rw[Oct.eAg];exact hlt')
   have hset:=hB.set k (Oct.low s[k])
   have e1:(Oct.GD s.data.toList k).set k (Oct.low s[k])=Oct.GD s.data.toList (k+1):=Oct.eAh hlt'
   rw[e1]at hset
   have HS:=zA7 hset
   unfold BA at hcell
   rw[Oct.MI s k hlt]at hcell
   clear hset hB
   go_wp2_with (go_at_call 205;refine(qR _ _).mono ?_;rintro e w' ⟨rfl,rfl⟩)
   go_roundw
   case rel=>exact⟨k+1,by omega,by go_num,HS.out,hb.setCell (p:=⟨w.heap.size,k,none⟩) (zB3 _) _⟩
   case measure=>simp[intOf];omega
  ·have hz:=Oct.eAf (l:=s.data.toList) (k:=k) (by rw[Oct.oA];omega)
   rw[hz]at hB
   have hl:(s.data.toList.map Oct.low).length=s.size:=by rw[List.length_map,Oct.oA]
   have eAq:=hB.string (cap:=grownCap w s.size 0 5)
   rw[hl]at eAq
   clear hz hl hB
   go_wp2
   go_ret
   exact⟨rfl,hb⟩
theorem WY(s:ByteArray)(w:World)(hs:s.size<=1099511627776):
  Calls Tryz.prog 62 #[.string s] w (VC w.heap.size (s.data.toList.map Oct.low) w):=by
 go_enter Tryz.func62,Tryz.ntmps62
 go_wp2
 go_loopw [3,4] (fun v i wr=> ∃(k:Nat)(o:ByteArray),k<=s.size/\i= .int .i64 k/\v= .string o/\o.data.toList=(s.data.toList.take k).map Oct.low/\o.size=k/\Below w.heap.size w wr) (fun _ i _=>s.size- (intOf i).toNat)
 case atStart=>exact⟨0,⟨#[]⟩,Nat.zero_le _,rfl,rfl,by simp,rfl,Below.refl _ _⟩
 case round=>
  obtain⟨k,o,hk,rfl,rfl,ho,hz,hb⟩:=hrel
  have HO:=zA7 ho
  have hz1:o.size<=k:=by omega
  have HZ:=zA7 hz
  clear ho hz
  by_cases hlt:k<s.size
  ·have hc:s[k].toNat<256:=s[k].toNat_lt
   have h1:=hAU wr (Oct.low s[k])
   have hL:=Oct.CE s[k]
   have hsz: ∀c:UInt8,(⟨#[c]⟩:ByteArray).size=1:=fun _=>rfl
   have HN:=zA7 (show(o++⟨#[Oct.low s[k]]⟩:ByteArray).data.toList=(s.data.toList.take (k+1)).map Oct.low from by
    rw[List.take_succ_eq_append_getElem (by rw[Array.length_toList];exact hlt),List.map_append,<-HO.out]
    rw[ByteArray.data_append,Array.toList_append];rfl)
   have HM:=zA7 (show(o++⟨#[Oct.low s[k]]⟩:ByteArray).size=k+1 from by rw[ByteArray.size_append,HZ.out];rfl)
   by_cases hg:(65:Int)<=(s[k].toNat:Int)/\(s[k].toNat:Int)<=90
   ·have e:((Oct.low s[k]).toNat:Int)=(s[k].toNat:Int)+32:=by rw[hL];rw[if_pos (by omega)];omega
    rw[e]at h1
    obtain⟨hg1,hg2⟩:=hg
    clear hL e
    go_wp2
    go_roundw
    case rel=>exact⟨k+1,_,by omega,by go_num,rfl,HN.out,HM.out,hb.alloc hb.size _⟩
    case measure=>simp[intOf];omega
   ·have e:((Oct.low s[k]).toNat:Int)=(s[k].toNat:Int):=by rw[hL];rw[if_neg (by omega)]
    rw[e]at h1
    clear hL e
    by_cases hg1:(65:Int)<=(s[k].toNat:Int)
    ·have hg2: ¬(s[k].toNat:Int)<=90:=fun h=>hg ⟨hg1,h⟩
     clear hg
     go_wp2
     go_roundw
     case rel=>exact⟨k+1,_,by omega,by go_num,rfl,HN.out,HM.out,hb.alloc hb.size _⟩
     case measure=>simp[intOf];omega
    ·clear hg
     go_wp2
     go_roundw
     case rel=>exact⟨k+1,_,by omega,by go_num,rfl,HN.out,HM.out,hb.alloc hb.size _⟩
     case measure=>simp[intOf];omega
  ·have HE:=zA7 (show o=⟨(s.data.toList.map Oct.low).toArray⟩ from by
    have:=HO.out
    rw[Oct.oD s k (by omega)]at this
    rw[<-this,Lib.mk_data])
   go_wp2
   go_ret
   exact⟨iD HE.out,hb⟩
end Go.Proofs.YtdaaoopkkhfbhaaGreatDoor
namespace Go.Proofs.YtdaaoopkkhfbhaaGreatDoor
open Go.RowKit
def Row(w:World)(g:Nat)(t:TypeId)(cs:Array Value):Prop:=w.heap[g]? =some (.cells cs t (0,0))
section
variable {w w':World} {g:Nat} {t:TypeId} {cs:Array Value}
theorem Row.lt (h:Row w g t cs):g<w.heap.size:=(Array.getElem?_eq_some_iff.1 h).1
theorem Row.cell (h:Row w g t cs)(i:Nat):w.cell? ⟨g,i,none⟩=cs[i]? :=cell_of_row w g i cs t (0,0) h
theorem Row.free (h:Row w g t cs)(i:Nat):w.frozen? ⟨g,i,none⟩=false:=frozen_of_row w g i cs t h
theorem Row.new (w:World)(t:TypeId)(cs:Array Value):Row (w.alloc (.cells cs t)) w.heap.size t cs:=heap_alloc_new w _
theorem Row.drew (h:Row w g t cs):Row w.drew g t cs:=h
theorem Row.alloc (h:Row w g t cs)(o:Obj):Row (w.alloc o) g t cs:=(Below.heap_alloc w o g h.lt).trans h
theorem Row.set (h:Row w g t cs)(i:Nat)(u:Value):Row (w.setCell ⟨g,i,none⟩ u) g t (cs.setIfInBounds i u):=heap_setCell_same w g i cs t u h
theorem Row.other (h:Row w g t cs){p:Addr}(hp:g≠p.block)(u:Value):Row (w.setCell p u) g t cs:=(heap_setCell_other w p g u hp).trans h
theorem Row.below {B:Nat}(h:Row w g t cs)(hb:Below B w w')(hg:g<B):Row w' g t cs:=(hb.block g hg).trans h
theorem Row.stays (h:Row w g t cs)(hb:Below w.heap.size w w'):Row w' g t cs:=h.below hb h.lt
theorem Row.whole (h:Row w g t cs)(ds:Array Value):Row (w.setRow g ds) g t ds:=setRow_heap w g cs ds t (0,0) h
theorem Row.aside (h:Row w g t cs){k:Nat}(hk:g≠k)(ds:Array Value):Row (w.setRow k ds) g t cs:=(setRow_other w k g ds hk).trans h
end
theorem below_setRow {B:Nat}{a w:World}(h:Below B a w){g:Nat}(hg:B<=g)(cs:Array Value):Below B a (w.setRow g cs):=
 ⟨h.os,h.tape,h.output,by rw[size_setRow];exact h.size,fun i hi=>(setRow_other w g i cs (by omega)).trans (h.block i hi)⟩
def FB(x:UInt16):Value:= .int .u16 (x.toNat:Int)
def fA(l:List UInt8):Array Value:=(l.map BA).toArray
def DA(l:List UInt16):Array Value:=(l.map FB).toArray
theorem gC(l:List UInt8):(fA l).size=l.length:=by simp[fA]
theorem lL(l:List UInt16):(DA l).size=l.length:=by simp[DA]
theorem aM(l:List UInt8)(i:Nat):(fA l)[i]? =(l[i]?).map BA:=by simp[fA]
theorem iS(l:List UInt16)(i:Nat):(DA l)[i]? =(l[i]?).map FB:=by simp[DA]
theorem qH(l:List UInt8)(i:Nat)(c:UInt8):(fA l).setIfInBounds i (BA c)=fA (l.set i c):=by simp[fA,List.map_set]
theorem I6(l:List UInt16)(i:Nat)(x:UInt16):(DA l).setIfInBounds i (FB x)=DA (l.set i x):=by simp[DA,List.map_set]
theorem WA(l:List UInt8):(fA l).all (·.oneCell')=true:=by simp[fA,BA,Value.oneCell']
theorem D6(l:List UInt16):(DA l).all (·.oneCell')=true:=by simp[DA,FB,Value.oneCell']
theorem bA9 {a b:UInt8}(h:BA a=BA b):a=b:=by
 unfold BA at h;injection h with _ h;exact Oct.TB (by omega)
theorem vA:(Tryz.prog.info? 30).map (·.size)=some 16:=by kernel_rfl
theorem SI:(Tryz.prog.info? 253).map (·.size)=some 8:=by kernel_rfl
theorem mAK:fA (List.replicate 16 0)= #[.int .u8 0,.int .u8 0,.int .u8 0,.int .u8 0,.int .u8 0,.int .u8 0,.int .u8 0,.int .u8 0,.int .u8 0,.int .u8 0,.int .u8 0,.int .u8 0,.int .u8 0,.int .u8 0,.int .u8 0,.int .u8 0]:=by rfl
theorem mAN:DA (List.replicate 8 0)= #[.int .u16 0,.int .u16 0,.int .u16 0,.int .u16 0,.int .u16 0,.int .u16 0,.int .u16 0,.int .u16 0]:=by rfl
theorem jA {P:Program}{ops:Array Oper}{Q:Exit->Act->World->Prop}{rest:List Oper}{o:Oper}{a:Act}{w:World}(t:Tmp)(_h:o.dst=some t)(k:wpList P ops Q (o::rest) a w):wpList P ops Q (o::rest) a w:=k
theorem pA {P:Program}{ops:Array Oper}{Q:Exit->Act->World->Prop}{rest:List Oper}{o:Oper}{a:Act}{w:World}(hw:Region.wanted o (yielded ops a.tmps)=true)(ty:TypeId)(x:Operand)(ho:o.op= .load ty x)
  (g:Nat)(hx:a.eval x= .pointer (some ⟨g,0,none⟩)){t:TypeId}{cs:Array Value}{d:TypeDesc}(hg:Row w g t cs)
  (hu:P.underlying ty=some d)(hd:(match d with| .struct _| .array _ _=>true|_=>false)=true)(hi:(P.info? ty).map (·.size)=some cs.size)
  (h:wpList P ops Q rest (a.put o.dst (.agg cs)) w):wpList P ops Q (o::rest) a w:=
 wpList_step fun K hK=>by
  simp only[hw,if_true]
  exact wp_load_row ty x ho g hx t cs (0,0) d hg hu hd hi (hK _ _ h)
theorem GB {P:Program}{ops:Array Oper}{S:World->Prop}{o:Oper}{a:Act}(hw:Region.wanted o (yielded ops a.tmps)=true)(ty:TypeId)(x:Operand)(ho:o.op= .load ty x)
  (g:Nat)(hx:a.eval x= .pointer (some ⟨g,0,none⟩)){t:TypeId}{cs:Array Value}{d:TypeDesc}(hS: ∀w,S w->Row w g t cs)
  (hu:P.underlying ty=some d)(hd:(match d with| .struct _| .array _ _=>true|_=>false)=true)(hi:(P.info? ty).map (·.size)=some cs.size):YieldsIf P ops S o (.agg cs) a:=
 .inl ⟨hw,fun w hs=>by
  unfold execOp
  simp only[ho,hx,Instr.loadAt,Instr.sureAddr,Sem.run_bind,Sem.run_pure,Result.andThen_ok,run_loadVar_row w g t ty cs (0,0) d (hS w hs) hu hd hi]⟩
def zA:List UInt8:=List.replicate 16 0
def zG:List UInt16:=List.replicate 8 0
theorem mAJ:zA.length=16:=rfl
theorem Z6:zG.length=8:=rfl
theorem wG: #[Value.int .u8 0,.int .u8 0,.int .u8 0,.int .u8 0,.int .u8 0,.int .u8 0,.int .u8 0,.int .u8 0,.int .u8 0,.int .u8 0,.int .u8 0,.int .u8 0,.int .u8 0,.int .u8 0,.int .u8 0,.int .u8 0]=fA zA:=by rfl
theorem L6: #[Value.int .u16 0,.int .u16 0,.int .u16 0,.int .u16 0,.int .u16 0,.int .u16 0,.int .u16 0,.int .u16 0]=DA zG:=by rfl
theorem yA {P:Program}{fn:Func}{p u:Tmp}{ty:TypeId}(h:fn.results= #[.cell p ty,.tmp u])(tmps:Array Value)(w:World)(g:Nat)(t:TypeId)(cs:Array Value)(d:TypeDesc)
  (hp:tmps.getD p undef= .pointer (some ⟨g,0,none⟩))(v:Value)(hv:tmps.getD u undef=v)(hg:Row w g t cs)
  (hu:P.underlying ty=some d)(hd:(match d with| .struct _| .array _ _=>true|_=>false)=true)(hi:(P.info? ty).map (·.size)=some cs.size):
  (results fn tmps).run P w= .ok (.tuple #[.agg cs,v]) w:=by
 have hp':(asAddr (tmps.getD p undef)).run P w= .ok ⟨g,0,none⟩ w:=by rw[hp];rfl
 rw[results_cell_tmp h,hp',Result.andThen_ok,run_loadVar_row w g t ty cs (0,0) d hg hu hd hi,Result.andThen_ok,hv]
theorem fAB:(Tryz.prog.info? 252).map (fun i=>(i.zero,i.size,i.bytes))=some (some (.int .u16 0),1,2):=by kernel_rfl
theorem EW:(Tryz.prog.info? 9).map (fun i=>(i.zero,i.size,i.bytes))=some (some (.string ⟨#[]⟩),1,16):=by kernel_rfl
theorem gAz(v:Value)(n:Nat):madeCells #[v] n=(List.replicate n v).toArray:=by
 apply Array.ext
 ·simp[madeCells]
 ·intro i h1 h2
  simp[madeCells,Nat.mod_one]
theorem qX {P:Program}{t e:TypeId}{v:Value}{b:Nat}(ht:P.underlying t=some (.slice e))(hi:(P.info? e).map (fun i=>(i.zero,i.size,i.bytes))=some (some v,1,b))(hv:v.cells= #[v])
  (n:Nat)(hn:b*n<=281474976710656)(hb:0<b)(W:World):
  (Instr.makeSlice t (.int .i64 (n:Int)) (.int .i64 (n:Int))).run P W= .ok (.slice (some ⟨W.heap.size,0,none⟩) n n) (W.alloc (.cells (List.replicate n v).toArray e)):=by
 obtain⟨i,hi0,hz0,hz1,hz2⟩:=info_parts hi
 have hbn:n<=b*n:=Nat.le_mul_of_pos_left n hb
 have h:=run_make (P:=P) W t e i v ht hi0 hz0 .i64 .i64 (n:Int) (n:Int) (by omega) (Int.le_refl _) (by rw[hz2,<-Int.natCast_mul];omega) (by omega)
 rw[hz1,hv,Int.toNat_natCast,Nat.mul_one,gAz]at h
 exact h
theorem gAA(n:Nat)(hn:n<=1099511627777)(W:World):
  (Instr.makeSlice 258 (.int .i64 (n:Int)) (.int .i64 (n:Int))).run Tryz.prog W= .ok (.slice (some ⟨W.heap.size,0,none⟩) n n) (W.alloc (.cells (DA (List.replicate n 0)) 252)):=by
 have h:=qX Tryz.underlying258 fAB rfl n (by omega) (by omega) W
 have e:(List.replicate n (Value.int .u16 0)).toArray=DA (List.replicate n 0):=by simp[DA,FB]
 rw[e]at h
 exact h
def FA(l:List (List UInt8)):Array Value:=(l.map gA).toArray
theorem X0(l:List (List UInt8)):(FA l).size=l.length:=by simp[FA]
theorem ZK(l:List (List UInt8))(i:Nat):(FA l)[i]? =(l[i]?).map gA:=by simp[FA]
theorem N0(l:List (List UInt8))(i:Nat)(x:List UInt8):(FA l).setIfInBounds i (gA x)=FA (l.set i x):=by simp[FA,List.map_set]
theorem rX(n:Nat)(hn:n<=1099511627777)(W:World):
  (Instr.makeSlice 93 (.int .i64 (n:Int)) (.int .i64 (n:Int))).run Tryz.prog W= .ok (.slice (some ⟨W.heap.size,0,none⟩) n n) (W.alloc (.cells (FA (List.replicate n [])) 9)):=by
 have h:=qX Tryz.underlying93 EW rfl n (by omega) (by omega) W
 have e:(List.replicate n (Value.string ⟨#[]⟩)).toArray=FA (List.replicate n []):=by simp[FA,gA]
 rw[e]at h
 exact h
end Go.Proofs.YtdaaoopkkhfbhaaGreatDoor
namespace Go.Proofs.YtdaaoopkkhfbhaaGreatDoor
open Go.RowKit
section
variable {P:Program}
theorem MW {e:TypeId}{k:IntKind}(he:P.underlying e=some (.int k))(hp:P.plainKey e=true)(d:Nat)(zs us:List Int)(w:World): ∀is:List Nat,(∀i∈is,i<zs.length/\i<us.length)->
  (Op.eqItems (d+1) e 1 (zs.map fun z=>Value.int k z).toArray (us.map fun z=>Value.int k z).toArray is).run P w= .ok (decide (∀i∈is,zs[i]? =us[i]?)) w
 | [],_=>by simp[Op.eqItems]
 |i::is,h=>by
  have hi:=h i (by simp)
  have ih:=MW he hp d zs us w is (fun j hj=>h j (by simp[hj]))
  have p1:(part e (zs.map fun z=>Value.int k z).toArray (i*1)).run P w= .ok (.int k zs[i]) w:=run_part_plain w hp (by rw[Nat.mul_one];simp[hi.1])
  have p2:(part e (us.map fun z=>Value.int k z).toArray (i*1)).run P w= .ok (.int k us[i]) w:=run_part_plain w hp (by rw[Nat.mul_one];simp[hi.2])
  have p3:=run_equalIn_int (P:=P) w d e k k zs[i] us[i] he
  simp only[Op.eqItems,Sem.run_bind,p1,p2,p3,Result.andThen_ok]
  by_cases heq:zs[i]=us[i]
  ·have hb:(zs[i]==us[i])=true:=by rw[heq];simp
   rw[hb]
   simp only[Bool.not_true,Bool.false_eq_true,if_false]
   rw[ih]
   congr 1
   rw[decide_eq_decide]
   constructor
   ·intro hh j hj
    rcases List.mem_cons.1 hj with rfl|hj
    ·rw[List.getElem?_eq_getElem hi.1,List.getElem?_eq_getElem hi.2,heq]
    ·exact hh j hj
   ·intro hh j hj
    exact hh j (by simp[hj])
  ·have hb:(zs[i]==us[i])=false:=by rw[beq_eq_false_iff_ne];exact heq
   rw[hb]
   simp only[Bool.not_false,if_true,Sem.run_pure]
   congr 1
   symm
   refine zA8 fun hh=>heq ?_
   have:=hh i (by simp)
   rw[List.getElem?_eq_getElem hi.1,List.getElem?_eq_getElem hi.2]at this
   exact zB2 this
theorem cAX {t e:TypeId}{n:Nat}{k:IntKind}{i:TypeInfo}(ht:P.underlying t=some (.array n e))(he:P.underlying e=some (.int k))(hp:P.plainKey e=true)(hi:P.info? e=some i)(hc:P.cellsOf e=1)
  (zs us:List Int)(hz:zs.length=n)(hu:us.length=n)(d:Nat)(w:World):
  (Op.equalIn (d+2) t (.agg (zs.map fun z=>Value.int k z).toArray) (.agg (us.map fun z=>Value.int k z).toArray)).run P w= .ok (decide (zs=us)) w:=by
 rw[run_equalIn_array w (d+1) _ _ ht hi,hc,MW he hp d zs us w _ (fun j hj=>by rw[hz,hu];have:=List.mem_range.1 hj;exact⟨this,this⟩)]
 congr 1
 rw[decide_eq_decide]
 constructor
 ·intro hh
  apply List.ext_getElem?
  intro j
  by_cases hj:j<n
  ·exact hh j (List.mem_range.2 hj)
  ·rw[List.getElem?_eq_none (by omega),List.getElem?_eq_none (by omega)]
 ·rintro rfl j _
  rfl
end
theorem RT(a:List UInt8):fA a=((a.map fun c=>(c.toNat:Int)).map fun z=>Value.int .u8 z).toArray:=by unfold fA;rw[List.map_map];rfl
theorem fAF {a b:List UInt8} :(a.map fun c=>(c.toNat:Int))=(b.map fun c=>(c.toNat:Int))↔a=b:=
 ⟨fun h=>List.map_inj_right (fun x y e=>Oct.TB (by omega))|>.1 h,fun h=>by rw[h]⟩
theorem fAy: ∃i,Tryz.prog.info? 5=some i:=Option.isSome_iff_exists.1 (by kernel_rfl)
end Go.Proofs.YtdaaoopkkhfbhaaGreatDoor
namespace Go.Proofs.YtdaaoopkkhfbhaaGreatDoor
open Go.RowKit
namespace aA
theorem tY(n a b:Nat)(hb:b<2^n):a*2^n|||b=a*2^n+b:=by
 rw[Nat.mul_comm];exact(Nat.two_pow_add_eq_or_of_lt hb a).symm
theorem hAY(a b:UInt8):bits .or .u16 ((a.toNat:Int)*256) (b.toNat:Int)=((mk a b).toNat:Int):=by
 have h1:=a.toNat_lt
 have h2:=b.toNat_lt
 rw[show(a.toNat:Int)*256=((a.toNat*256:Nat):Int) by omega,u16_or_nat _ _ (by omega) (by omega),gN]
 have:=tY 8 a.toNat b.toNat (by omega)
 exact congrArg Int.ofNat this
end aA
theorem dAG(g:List UInt16)(hg:g.length=8)(w:World):
  Calls Tryz.prog 248 #[.agg (DA g)] w fun e w'=>e= .returned (.agg (fA (aA.from_ g)))/\Below w.heap.size w w':=by
 have HG:=zA7 hg
 have eAJ:=aA.cF g
 have HF:=zA7 (show(aA.from_ g).length=16 by omega)
 clear eAJ hg
 go_enter Tryz.func248,Tryz.ntmps248
 go_wp2
 rw[<-mAK]
 go_loopw [5] (fun i wr=> ∃k:Nat,k<=8/\i= .int .i64 k/\Row wr w.heap.size 253 (DA g)/\Row wr (w.heap.size+1) 30 (fA (List.replicate 16 0))/\Row wr (w.heap.size+1+1) 30 (fA (aA.fill (aA.from_ g) 0 16 (2*k)))/\Below w.heap.size w wr) (fun i _=>8- (intOf i).toNat)
 case atStart=>
  refine⟨0,Nat.zero_le _,rfl,?_,?_,?_,?_⟩
  ·exact((Row.new _ _ _).alloc _).alloc _
  ·have:=((Row.new (w.alloc (.cells (DA g) 253)) 30 (fA (List.replicate 16 0))).alloc (.cells (fA (List.replicate 16 0)) 30))
   simpa using this
  ·have:=(Row.new ((w.alloc (.cells (DA g) 253)).alloc (.cells (fA (List.replicate 16 0)) 30)) 30 (fA (List.replicate 16 0)))
   rw[Nat.mul_zero,aA.KF]
   simpa using this
  ·exact(((Below.refl _ _).alloc (zB3 _) _).alloc (by simp) _).alloc (by simp;omega) _
 case round=>
  obtain⟨k,hk,rfl,r0,r1,r2,hb⟩:=hrel
  by_cases hlt:k<8
  ·obtain⟨x,hx⟩: ∃x,g[k]? =some x:=⟨_,List.getElem?_eq_getElem (by rw[HG.out];exact hlt)⟩
   have hat:=aA.MP g k x hx
   have HX:=zA7 hx
   have HA:=zA7 hat
   have c0:wr.cell? ⟨w.heap.size,k,none⟩=some (.int .u16 (x.toNat:Int)):=by rw[r0.cell,iS,hx];rfl
   have hl2:=aA.DG (z:=(0:UInt8)) (n:=16) (k:=2*k) HF.out (by omega)
   obtain⟨u1,c1⟩: ∃u,wr.cell? ⟨w.heap.size+1+1,2*k,none⟩=some u:=⟨_,by rw[r2.cell];exact Array.getElem?_eq_getElem (by rw[gC,hl2];omega)⟩
   obtain⟨u2,c2⟩: ∃u,wr.cell? ⟨w.heap.size+1+1,2*k+1,none⟩=some u:=⟨_,by rw[r2.cell];exact Array.getElem?_eq_getElem (by rw[gC,hl2];omega)⟩
   have f1:=r2.free (2*k)
   have f2:=r2.free (2*k+1)
   have e1:((2:Int)*(k:Int)).toNat=2*k:=by omega
   have e2:((2:Int)*(k:Int)+1).toNat=2*k+1:=by omega
   have hx1:=aA.UN x
   clear hl2 hx hat
   go_wp2
   go_region
   all_goals
    have R:Row ((wr.setCell ⟨w.heap.size+1+1,2*k,none⟩ (.int .u8 ((x.toNat:Int)/256))).setCell ⟨w.heap.size+1+1,2*k+1,none⟩ (.int .u8 ((x.toNat:Int)%256))).drew (w.heap.size+1+1) 30 (fA (aA.fill (aA.from_ g) 0 16 (2*(k+1)))):=by
     have h1:Value.int .u8 ((x.toNat:Int)/256)=BA (aA.hi x):=by unfold BA;rw[aA.BM];exact dB (by omega)
     have h2:Value.int .u8 ((x.toNat:Int)%256)=BA (aA.lo x):=by unfold BA;rw[aA.YM];exact dB (by omega)
     have R:=(r2.set (2*k) (BA (aA.hi x))).set (2*k+1) (BA (aA.lo x))
     rw[qH,qH,aA.aF HF.out (by omega) HA.out.1,aA.aF HF.out (by omega) HA.out.2]at R
     rw[h1,h2]
     exact R
    have B:=((hb.setCell (p:=⟨w.heap.size+1+1,2*k,none⟩) (by simp;omega) (.int .u8 ((x.toNat:Int)/256))).setCell (p:=⟨w.heap.size+1+1,2*k+1,none⟩) (by simp;omega) (.int .u8 ((x.toNat:Int)%256))).drew
    have R0:=((r0.other (p:=⟨w.heap.size+1+1,2*k,none⟩) (by simp;omega) (.int .u8 ((x.toNat:Int)/256))).other (p:=⟨w.heap.size+1+1,2*k+1,none⟩) (by simp;omega) (.int .u8 ((x.toNat:Int)%256))).drew
    have R1:=((r1.other (p:=⟨w.heap.size+1+1,2*k,none⟩) (by simp) (.int .u8 ((x.toNat:Int)/256))).other (p:=⟨w.heap.size+1+1,2*k+1,none⟩) (by simp) (.int .u8 ((x.toNat:Int)%256))).drew
    clear r0 r1 r2 hb c0 c1 c2 f1 f2 e1 e2
    go_wp2
    go_roundw
    case rel=>exact⟨k+1,by omega,by go_num,R0,R1,R,B⟩
    case measure=>simp[intOf];omega
  ·have h8:k=8:=by omega
   subst h8
   rw[aA.CG HF.out]at r2
   have B:=below_setRow hb (g:=w.heap.size+1) (by omega) (fA (aA.from_ g))
   have R:=r1.whole (fA (aA.from_ g))
   have HN:=zA7 (show(fA (aA.from_ g)).size=16 by rw[gC,HF.out])
   go_wp2_with (first
    |(refine wpList_load_row rfl 30 _ rfl (w.heap.size+1+1) rfl 30 _ (0,0) _ r2 Tryz.underlying30 rfl (by rw[HN.out];exact vA) ?_)
    |(refine wpList_store_row rfl 30 _ _ rfl (w.heap.size+1) _ rfl rfl 30 _ r1 (by rw[HN.out];exact vA) (by rw[HN.out];rfl) (WA _) ?_))
   exact bodyPost_ret (v:= .agg (fA (aA.from_ g))) (results_cell_row rfl _ _ _ _ _ _ _ rfl R Tryz.underlying30 rfl (by rw[HN.out];exact vA)) rfl ⟨rfl,B⟩
theorem dAZ(a:List UInt8)(ha:a.length=16)(w:World):
  Calls Tryz.prog 216 #[.agg (fA a)] w fun e w'=>e= .returned (.agg (DA (aA.groups a)))/\Below w.heap.size w w':=by
 have HG:=zA7 ha
 have HF:=zA7 (aA.wK 8 a ha)
 clear ha
 go_enter Tryz.func216,Tryz.ntmps216
 go_wp2
 rw[<-mAN]
 go_loopw [5] (fun i wr=> ∃k:Nat,k<=8/\i= .int .i64 k/\Row wr w.heap.size 30 (fA a)/\Row wr (w.heap.size+1) 253 (DA (List.replicate 8 0))/\Row wr (w.heap.size+1+1) 253 (DA (aA.fill (aA.groups a) 0 8 k))/\Below w.heap.size w wr) (fun i _=>8- (intOf i).toNat)
 case atStart=>
  refine⟨0,Nat.zero_le _,rfl,?_,?_,?_,?_⟩
  ·exact((Row.new _ _ _).alloc _).alloc _
  ·have:=((Row.new (w.alloc (.cells (fA a) 30)) 253 (DA (List.replicate 8 0))).alloc (.cells (DA (List.replicate 8 0)) 253))
   simpa using this
  ·have:=(Row.new ((w.alloc (.cells (fA a) 30)).alloc (.cells (DA (List.replicate 8 0)) 253)) 253 (DA (List.replicate 8 0)))
   rw[aA.KF]
   simpa using this
  ·exact(((Below.refl _ _).alloc (zB3 _) _).alloc (by simp) _).alloc (by simp;omega) _
 case round=>
  obtain⟨k,hk,rfl,r0,r1,r2,hb⟩:=hrel
  by_cases hlt:k<8
  ·obtain⟨x,hx⟩: ∃x,a[2*k]? =some x:=⟨_,List.getElem?_eq_getElem (by rw[HG.out];omega)⟩
   obtain⟨y,hy⟩: ∃y,a[2*k+1]? =some y:=⟨_,List.getElem?_eq_getElem (by rw[HG.out];omega)⟩
   have HA:=zA7 (aA.BV a k x y hx hy)
   have c0:wr.cell? ⟨w.heap.size,2*k,none⟩=some (.int .u8 (x.toNat:Int)):=by rw[r0.cell,aM,hx];rfl
   have c3:wr.cell? ⟨w.heap.size,2*k+1,none⟩=some (.int .u8 (y.toNat:Int)):=by rw[r0.cell,aM,hy];rfl
   have hl2:=aA.DG (z:=(0:UInt16)) (n:=8) (k:=k) HF.out (by omega)
   obtain⟨u1,c1⟩: ∃u,wr.cell? ⟨w.heap.size+1+1,k,none⟩=some u:=⟨_,by rw[r2.cell];exact Array.getElem?_eq_getElem (by rw[lL,hl2];omega)⟩
   have f1:=r2.free k
   have e1:((2:Int)*(k:Int)).toNat=2*k:=by omega
   have e2:((2:Int)*(k:Int)+1).toNat=2*k+1:=by omega
   have hx1:=x.toNat_lt
   have hy1:=y.toNat_lt
   have hor:bits .or .u16 ((x.toNat:Int)*256) (y.toNat:Int)=((aA.mk x y).toNat:Int):=aA.hAY x y
   clear hl2 hx hy
   go_wp2
   go_region
   all_goals
    have R:Row ((wr.setCell ⟨w.heap.size+1+1,k,none⟩ (.int .u16 ((aA.mk x y).toNat:Int)))).drew (w.heap.size+1+1) 253 (DA (aA.fill (aA.groups a) 0 8 (k+1))):=by
     have R:=(r2.set k (FB (aA.mk x y)))
     rw[I6,aA.aF HF.out (by omega) HA.out]at R
     exact R
    have B:=(hb.setCell (p:=⟨w.heap.size+1+1,k,none⟩) (by simp;omega) (.int .u16 ((aA.mk x y).toNat:Int))).drew
    have R0:=(r0.other (p:=⟨w.heap.size+1+1,k,none⟩) (by simp;omega) (.int .u16 ((aA.mk x y).toNat:Int))).drew
    have R1:=(r1.other (p:=⟨w.heap.size+1+1,k,none⟩) (by simp) (.int .u16 ((aA.mk x y).toNat:Int))).drew
    clear r0 r1 r2 hb c0 c1 c3 f1 e1 e2 hor
    go_wp2
    go_roundw
    case rel=>exact⟨k+1,by omega,by go_num,R0,R1,R,B⟩
    case measure=>simp[intOf];omega
  ·have h8:k=8:=by omega
   subst h8
   rw[aA.CG HF.out]at r2
   have B:=below_setRow hb (g:=w.heap.size+1) (by omega) (DA (aA.groups a))
   have R:=r1.whole (DA (aA.groups a))
   have HN:=zA7 (show(DA (aA.groups a)).size=8 by rw[lL,HF.out])
   go_wp2_with (first
    |(refine wpList_load_row rfl 253 _ rfl (w.heap.size+1+1) rfl 253 _ (0,0) _ r2 Tryz.underlying253 rfl (by rw[HN.out];exact SI) ?_)
    |(refine wpList_store_row rfl 253 _ _ rfl (w.heap.size+1) _ rfl rfl 253 _ r1 (by rw[HN.out];exact SI) (by rw[HN.out];rfl) (D6 _) ?_))
   exact bodyPost_ret (v:= .agg (DA (aA.groups a))) (results_cell_row rfl _ _ _ _ _ _ _ rfl R Tryz.underlying253 rfl (by rw[HN.out];exact SI)) rfl ⟨rfl,B⟩
end Go.Proofs.YtdaaoopkkhfbhaaGreatDoor
namespace Go.Proofs.YtdaaoopkkhfbhaaGreatDoor
open Go.RowKit
namespace aA
def xK(l:List UInt8):UInt16:=if UA l then yB l else 0
theorem GV {l:List UInt8}(h:UA l=false):xK l=0:=by unfold xK;rw[h];rfl
theorem IV {l:List UInt8}(h:UA l=true):xK l=yB l:=by unfold xK;rw[h];rfl
theorem EV(s:ByteArray)(h4:s.size<=4)(k:Nat)(hk:k<s.size):bD (s.data.toList.take k)<=4095:=by
 have h1:=DV (s.data.toList.take k)
 have h3:(s.data.toList.take k).length<=3:=by have:=List.length_take_le k s.data.toList;omega
 have h2:16^ (s.data.toList.take k).length<=16^3:=Nat.pow_le_pow_right (by omega) h3
 omega
theorem FV(s:ByteArray)(k:Nat)(h:k<s.size):bD (s.data.toList.take (k+1))=bD (s.data.toList.take k)*16+cD s[k]:=by
 rw[Oct.iI s k h,eA2]
theorem JW {s:ByteArray}(h:s.size<1\/4<s.size):UA s.data.toList=false:=by
 unfold UA;rw[zA8 (by rw[Oct.oA];omega)];rfl
theorem KW {s:ByteArray}(k:Nat)(h:k<s.size)(hp:RD s[k]=false):UA s.data.toList=false:=by
 unfold UA;rw[Oct.VL s k h hp];simp
theorem LW {s:ByteArray}(k:Nat)(h:s.size<=k)(ha:(s.data.toList.take k).all RD=true)(h1:1<=s.size)(h4:s.size<=4):UA s.data.toList=true:=by
 rw[Oct.oD s k h]at ha
 unfold UA;rw[ha,zA9 (by rw[Oct.oA];omega)];rfl
theorem hAX(n:Nat)(d:Nat)(hn:n<=4095)(hd:d<16):bits .or .u16 ((n:Int)*16) (d:Int)=((n*16+d:Nat):Int):=by
 rw[show(n:Int)*16=((n*16:Nat):Int) by omega,u16_or_nat _ _ (by omega) (by omega)]
 exact congrArg Int.ofNat (tY 4 n d (by omega))
theorem eW(c:UInt8):cD c=if 48<=c.toNat/\c.toNat<=57 then c.toNat-48 else if 97<=c.toNat/\c.toNat<=102 then c.toNat-87 else if 65<=c.toNat/\c.toNat<=70 then c.toNat-55 else 0:=rfl
theorem cW(c:UInt8):RD c=decide ((48<=c.toNat/\c.toNat<=57)\/(97<=c.toNat/\c.toNat<=102)\/(65<=c.toNat/\c.toNat<=70)):=rfl
def GI(c:UInt8):Int:=if RD c=true then((cD c:Nat):Int)else-1
theorem cAs(c:UInt8):GI c=if RD c=true then((cD c:Nat):Int)else-1:=rfl
end aA
theorem dW(c:UInt8)(w:World):
  Calls Tryz.prog 292 #[.int .u8 (c.toNat:Int)] w fun e w'=>e= .returned (.tuple #[.int .u8 ((aA.cD c:Nat):Int),.bool (aA.RD c)])/\w=w':=by
 have HL:=zA7 (aA.eW c)
 have HB:=zA7 (aA.cW c)
 have hc:c.toNat<256:=c.toNat_lt
 by_cases h1:(48:Int)<=(c.toNat:Int)<;>by_cases h2:(c.toNat:Int)<=(57:Int)<;>by_cases h3:(65:Int)<=(c.toNat:Int)<;>by_cases h4:(c.toNat:Int)<=(70:Int)<;>by_cases h5:(97:Int)<=(c.toNat:Int)<;>by_cases h6:(c.toNat:Int)<=(102:Int)
 all_goals first|(exfalso;omega)|skip
 all_goals
  go_enter Tryz.func292,Tryz.ntmps292
  go_wp2
  go_ret2
  refine⟨nD (dB ?_) (eE ?_),rfl⟩
  ·rw[HL.out];split<;>(try split)<;>(try split)<;>omega
  ·rw[HB.out,Bool.eq_iff_iff];simp;omega
theorem VY(c:UInt8)(w:World):
  Calls Tryz.prog 219 #[.int .u8 (c.toNat:Int)] w fun e w'=>e= .returned (.int .i64 (aA.GI c))/\w=w':=by
 have HD:=zA7 (aA.cAs c)
 have HL:=zA7 (aA.eW c)
 have HB:=zA7 (aA.cW c)
 have hc:c.toNat<256:=c.toNat_lt
 by_cases h1:(48:Int)<=(c.toNat:Int)<;>by_cases h2:(c.toNat:Int)<=(57:Int)<;>by_cases h3:(65:Int)<=(c.toNat:Int)<;>by_cases h4:(c.toNat:Int)<=(70:Int)<;>by_cases h5:(97:Int)<=(c.toNat:Int)<;>by_cases h6:(c.toNat:Int)<=(102:Int)
 all_goals first|(exfalso;omega)|skip
 all_goals
  go_enter Tryz.func219,Tryz.ntmps219
  go_wp2
  go_ret
  refine⟨BC ?_,rfl⟩
  rw[HD.out,HL.out,HB.out]
  simp only[decide_eq_true_eq]
  split<;>(try split)<;>(try split)<;>(try split)<;>omega
theorem dAm(n:Nat)(gap:Bool)(w:World)(hn:n<=1099511627776):
  Calls Tryz.prog 247 #[.int .i64 (n:Int),.bool gap] w fun e w'=>e= .returned (.bool (aA.fits n gap))/\w=w':=by
 cases gap
 all_goals
  go_enter Tryz.func247,Tryz.ntmps247
  go_wp2
  go_ret
  exact⟨tA (by unfold aA.fits;rw[Bool.eq_iff_iff];simp;omega),rfl⟩
theorem dAY(s:ByteArray)(w:World)(hs:s.size<=maxLen):
  Calls Tryz.prog 277 #[.string s] w fun e w'=>e= .returned (.tuple #[.int .u16 ((aA.xK s.data.toList).toNat:Int),.bool (aA.UA s.data.toList)])/\w=w':=by
 unfold maxLen at hs
 by_cases hout:s.size<1\/4<s.size
 ·have H:=zA7 (aA.JW hout)
  have hor:(s.size<1)\/(¬(s.size:Int)<1/\4<s.size):=by omega
  clear hout
  rcases hor with h1|⟨h1,h2⟩
  all_goals
   go_enter Tryz.func277,Tryz.ntmps277
   go_wp2
   go_ret2
   exact⟨nD (dB (by rw[aA.GV H.out];rfl)) (eE H.out.symm),rfl⟩
 ·have h1:1<=s.size:=by omega
  have h4:s.size<=4:=by omega
  clear hout
  go_enter Tryz.func277,Tryz.ntmps277
  go_wp2
  go_loop [4,18] (fun v i=> ∃k:Nat,k<=s.size/\i= .int .i64 k/\v= .int .u16 ((aA.bD (s.data.toList.take k):Nat):Int)/\(s.data.toList.take k).all aA.RD=true) (fun _ i=>s.size- (intOf i).toNat)
  case atStart=>exact⟨0,Nat.zero_le _,rfl,by simp[aA.bD],by simp⟩
  case round=>
   obtain⟨k,hk,rfl,rfl,hall⟩:=hrel
   have HA:=zA7 hall
   clear hall
   by_cases hlt:k<s.size
   ·have hb:=aA.EV s h4 k hlt
    have HT:=zA7 (aA.FV s k hlt)
    have hd:=aA.bQ s[k]
    have hor:=aA.hAX (aA.bD (s.data.toList.take k)) (aA.cD s[k]) hb hd
    cases hh:aA.RD s[k]with
    |true=>
     have HY:=zA7 (Oct.pH s k hlt HA.out hh)
     have HC:=zA7 (dW s[k])
     rw[hh]at HC
     clear hh
     generalize aA.bD (s.data.toList.take k)=n at*
     generalize aA.cD s[k]=d at*
     go_wp2_with (go_at_call 292;refine(HC.out _).mono ?_;rintro e w' ⟨rfl,rfl⟩)
     go_round
     case rel=>exact⟨k+1,by omega,by go_num,dB (by rw[HT.out];omega),HY.out⟩
     case measure=>simp[intOf];omega
    |false=>
     have HN:=zA7 (aA.KW k hlt hh)
     have HC:=zA7 (dW s[k])
     rw[hh]at HC
     clear hh
     generalize aA.cD s[k]=d at*
     go_wp2_with (go_at_call 292;refine(HC.out _).mono ?_;rintro e w' ⟨rfl,rfl⟩)
     go_ret2
     exact⟨nD (dB (by rw[aA.GV HN.out];rfl)) (eE HN.out.symm),rfl⟩
   ·have HY:=zA7 (aA.LW k (by omega) HA.out h1 h4)
    have HT:=zA7 (Oct.oD s k (by omega))
    have HZ:=zA7 (aA.JV (l:=s.data.toList) (by rw[Oct.oA];exact h4))
    go_wp2
    go_ret2
    exact⟨nD (dB (by rw[aA.IV HY.out,HZ.out,HT.out])) (eE HY.out.symm),rfl⟩
end Go.Proofs.YtdaaoopkkhfbhaaGreatDoor
namespace Go.Proofs.YtdaaoopkkhfbhaaGreatDoor
open Go.RowKit
namespace aA
theorem jAG {l:List UInt8}(h:l= []):isRow l=true/\row l= []:=by
 subst h;exact⟨rfl,rfl⟩
theorem jAH {l:List UInt8}{k:Nat}{p:List UInt8}(h0:l≠ [])(hp:(Oct.split 58 l)[k]? =some p)(hn:UA p=false):isRow l=false:=by
 unfold isRow
 rw[zA8 h0,Bool.false_or,List.all_eq_false]
 exact⟨p,List.mem_of_getElem? hp,by rw[hn];simp⟩
theorem jAK {l:List UInt8}(h0:l≠ [])(ha:(Oct.split 58 l).all UA=true):isRow l=true/\row l=(Oct.split 58 l).map yB:=by
 unfold isRow row
 rw[ha,if_neg h0];simp
theorem aAC {ps:List (List UInt8)}{k:Nat}{p:List UInt8}(h:(ps.take k).all UA=true)(hp:ps[k]? =some p)(hq:UA p=true):(ps.take (k+1)).all UA=true:=by
 rw[List.all_eq_true]at h⊢
 exact Oct.qJ (Q:=fun p=>UA p=true) h hp hq
end aA
def TO(s:List UInt8)(w:World)(e:Ending)(w':World):Prop:=
 (aA.isRow s=false/\e= .returned (.tuple #[.slice none 0 0,.bool false])/\Below w.heap.size w w')\/
 (aA.isRow s=true/\aA.row s= []/\e= .returned (.tuple #[.slice none 0 0,.bool true])/\Below w.heap.size w w')\/
 (aA.isRow s=true/\ ∃g,w.heap.size<=g/\e= .returned (.tuple #[.slice (some ⟨g,0,none⟩) (aA.row s).length (aA.row s).length,.bool true])/\Row w' g 252 (DA (aA.row s))/\Below w.heap.size w w')
theorem eZ(s:ByteArray)(w:World)(hs:s.size<=1099511627776):
  Calls Tryz.prog 246 #[.string s] w (TO s.data.toList w):=by
 by_cases h0:s.size=0
 ·have hE:s.toList.isEmpty=true:=by rw[Oct.aB,List.isEmpty_iff];exact(Oct.lD s).2 h0
  have HW:=zA7 (aA.jAG ((Oct.lD s).2 h0))
  clear h0
  go_enter Tryz.func246,Tryz.ntmps246
  go_wp2
  go_ret2
  exact .inr (.inl ⟨HW.out.1,HW.out.2,rfl,Below.refl _ _⟩)
 ·have hne:s.data.toList≠ []:=fun e=>h0 ((Oct.lD s).1 e)
  have hE:s.toList.isEmpty=false:=by
   rw[Oct.aB,Bool.eq_false_iff];intro e;rw[List.isEmpty_iff]at e;exact hne e
  have lE:=zA7 hne
  clear h0 hne
  have hlen:=Oct.eI 58 s.data.toList
  have hp:=Oct.aG 58 s.data.toList
  have hsm:=Oct.fI 58 s.data.toList
  rw[Oct.oA]at hlen hsm
  obtain⟨ps,hps⟩: ∃ps,ps=Oct.split 58 s.data.toList:=⟨_,rfl⟩
  rw[<-hps]at hlen hp hsm
  have HP:=zA7 hps
  have UC:=zA7 hsm
  have HC: ∀W,Calls Tryz.prog 88 #[.string s,.int .u8 58] W (AI W.heap.size ps W):=fun W=>by rw[hps];exact sR s 58 W hs
  have uC:=zA7 HC
  clear hps HC hsm
  go_enter Tryz.func246,Tryz.ntmps246
  go_wp2_with (go_at_call 88;refine(uC.out _).mono ?_;rintro e w1 ⟨g,cap,rfl,hown,hb⟩;have hmk:=gAA ps.length (by omega) w1)
  clear hmk
  have hsz:=hb.size
  have hgl:=(hown.lt g rfl)
  have hown2:=hown.alloc (.cells (DA (List.replicate ps.length 0)) 252)
  have R0:=Row.new w1 252 (DA (List.replicate ps.length 0))
  have B0:=hb.alloc hsz (.cells (DA (List.replicate ps.length 0)) 252)
  generalize w1.heap.size=n1 at*
  clear hown hb
  go_loopw [18] (fun i wr=> ∃k:Nat,k<=ps.length/\i= .int .i64 k/\wr.ownsRow w.heap.size 9 1 (.slice (some ⟨g,0,none⟩) ps.length cap) ps.length (ps.map gA)/\Row wr n1 252 (DA (aA.fill (ps.map aA.yB) 0 ps.length k))/\(ps.take k).all aA.UA=true/\Below w.heap.size w wr) (fun i _=>ps.length- (intOf i).toNat)
  case atStart=>exact⟨0,Nat.zero_le _,rfl,hown2,by rw[aA.KF];exact R0,by simp,B0⟩
  case round=>
   clear hown2 R0 B0
   obtain⟨k,hk,rfl,hown,r,hall,hb⟩:=hrel
   have HA:=zA7 hall
   clear hall
   by_cases hlt:k<ps.length
   ·obtain⟨p,t,h1,hcell,h3,_,h5⟩:=kJ hown hlt
    have hpl:=UC.out p (List.mem_of_getElem? h1)
    have ht:t.size<=maxLen:=by unfold maxLen;omega
    have HC:=zA7 (fun W=>dAY t W ht)
    rw[h3]at HC
    have H1:=zA7 h1
    clear h1 h3 h5 hpl ht
    cases hg:aA.UA p with
    |true=>
     rw[hg,aA.IV hg]at HC
     have YG:=zA7 (aA.aAC HA.out H1.out hg)
     have HG:=zA7 hg
     clear hg
     have hfl:=aA.DG (l:=ps.map aA.yB) (z:=0) (n:=ps.length) (k:=k) (by simp) hk
     obtain⟨u1,c1⟩: ∃u,wr.cell? ⟨n1,k,none⟩=some u:=⟨_,by rw[r.cell];exact Array.getElem?_eq_getElem (by rw[lL,hfl];exact hlt)⟩
     have f1:=r.free k
     have hw:(ps.map aA.yB)[k]? =some (aA.yB p):=by rw[List.getElem?_map,H1.out];rfl
     have R:=r.set k (FB (aA.yB p))
     rw[I6,aA.aF (by simp) hlt hw]at R
     have B:=hb.setCell (p:=⟨n1,k,none⟩) hsz (FB (aA.yB p))
     have O:=lJ hown (p:=⟨n1,k,none⟩) (by simp[Value.ownBlock];omega) (FB (aA.yB p))
     clear hfl r hb hown hw
     go_wp2_with (go_at_call 277;refine(HC.out _).mono ?_;rintro e w' ⟨rfl,rfl⟩)
     go_roundw
     case rel=>exact⟨k+1,by omega,by go_num,O,R,YG.out,B⟩
     case measure=>simp[intOf];omega
    |false=>
     rw[hg]at HC
     have HN:=zA7 (aA.jAH lE.out (by rw[<-HP.out];exact H1.out) hg)
     clear hg
     go_wp2_with (go_at_call 277;refine(HC.out _).mono ?_;rintro e w' ⟨rfl,rfl⟩)
     go_ret2
     exact .inl ⟨HN.out,rfl,hb⟩
   ·have hkk:k=ps.length:=by omega
    subst hkk
    rw[aA.CG (by simp)]at r
    have HY:=zA7 (aA.jAK (l:=s.data.toList) lE.out (by rw[<-HP.out];have:=HA.out;rw[List.take_of_length_le (zB3 _)]at this;exact this))
    have HL:=zA7 (show(aA.row s.data.toList).length=ps.length by rw[HY.out.2,<-HP.out];simp)
    go_wp2
    go_ret2
    exact .inr (.inr ⟨HY.out.1,n1,hsz,by rw[HL.out];rfl,by rw[HY.out.2,<-HP.out];exact r,hb⟩)
theorem TO.parts {s:List UInt8}{w w':World}{e:Ending}(h:TO s w e w'):
  Below w.heap.size w w'/\((aA.isRow s=false/\e= .returned (.tuple #[.slice none 0 0,.bool false]))\/
  (aA.isRow s=true/\ ∃A,e= .returned (.tuple #[.slice A (aA.row s).length (aA.row s).length,.bool true])/\(0<(aA.row s).length-> ∃g,A=some ⟨g,0,none⟩/\w.heap.size<=g/\Row w' g 252 (DA (aA.row s))))):=by
 rcases h with⟨h1,h2,h3⟩|⟨h1,h2,h3,h4⟩|⟨h1,g,h2,h3,h4,h5⟩
 ·exact⟨h3,.inl ⟨h1,h2⟩⟩
 ·refine⟨h4,.inr ⟨h1,none,?_,?_⟩⟩
  ·rw[h2];exact h3
  ·intro h;rw[h2]at h;exact absurd h (by simp)
 ·exact⟨h5,.inr ⟨h1,_,h3,fun _=>⟨g,rfl,h2,h4⟩⟩⟩
end Go.Proofs.YtdaaoopkkhfbhaaGreatDoor
namespace Go.Proofs.YtdaaoopkkhfbhaaGreatDoor
open Go.RowKit
theorem eD {P:Program}{ops:Array Oper}{Q:Exit->Act->World->Prop}{rest:List Oper}{o:Oper}{a:Act}{w:World}(hw:Region.wanted o (yielded ops a.tmps)=true)(ty:TypeId)(x:Operand)(ho:o.op= .load ty x)
  (g off n:Nat)(hx:a.eval x= .pointer (some ⟨g,off,none⟩)){t:TypeId}{cs:Array Value}{d:TypeDesc}(hg:Row w g t cs)
  (hu:P.underlying ty=some d)(hd:(match d with| .struct _| .array _ _=>true|_=>false)=true)(hi:(P.info? ty).map (·.size)=some n)(hle:off+n<=cs.size)(ds:Array Value)(hds:cs.extract off (off+n)=ds)
  (h:wpList P ops Q rest (a.put o.dst (.agg ds)) w):wpList P ops Q (o::rest) a w:=by
 have hlen:(cs.extract off (off+n)).toList.length=n:=by rw[Array.length_toList,Array.size_extract];omega
 have hl:(loadCells ⟨g,off,none⟩ (cs.extract off (off+n)).toList.length).run P w= .ok (cs.extract off (off+n)).toList.toArray w:=
  run_loadCells_list (P:=P) w ⟨g,off,none⟩ (cs.extract off (off+n)).toList (fun j v hv=>by
   have hadd:(⟨g,off,none⟩:Addr).add j=⟨g,off+j,none⟩:=by unfold Addr.add;split<;>simp_all
   rw[hadd,hg.cell]
   rw[Array.getElem?_toList]at hv
   rw[Array.getElem?_extract]at hv
   split at hv
   ·exact hv
   ·cases hv)
 rw[hlen,Array.toArray_toList,hds]at hl
 have hagg:(isAgg ty).run P w= .ok true w:=by
  unfold isAgg
  rw[Sem.run_bind,run_underlying hu w]
  cases d<;>simp_all
 have hv:(loadVar ty ⟨g,off,none⟩).run P w= .ok (.agg ds) w:=by
  cases hq:P.info? ty with
  |none=>simp[hq]at hi
  |some i=>
   have hs:i.size=n:=by simpa[hq]using hi
   simp[loadVar,Sem.run_bind,hagg,sizeOf,typeInfo,hq,hs,hl]
 refine wpList_step fun K hK=>?_
 simp only[hw,if_true]
 unfold Oper.wp execOp
 simp only[ho,hx,Instr.loadAt,Instr.sureAddr,Sem.run_bind,Sem.run_pure,Result.andThen_ok,hv]
 exact hK _ _ h
end Go.Proofs.YtdaaoopkkhfbhaaGreatDoor
namespace Go.Proofs.YtdaaoopkkhfbhaaGreatDoor
open Go.RowKit
theorem nA1 {P:Program}{ops:Array Oper}{rest:List Oper}{o:Oper}{a:Act}{w:World}{Q:Exit->Act->World->Prop}(hw:Region.wanted o (yielded ops a.tmps)=true)(t:TypeId)(i j:Nat)(x y:Operand)(ho:o.op= .build t #[(i,x),(j,y)])(u v:Value)(hx:a.eval x=u)(hy:a.eval y=v)(cells:Array Value)
  (hc:P.built t [(i,u),(j,v)]=some cells)(h:wpList P ops Q rest (a.put o.dst (.agg cells)) w):wpList P ops Q (o::rest) a w:=by
 have e:((#[(i,x),(j,y)]:Array (Nat×Operand)).map fun(i,x)=>(i,a.eval x)).toList= [(i,u),(j,v)]:=by simp[hx,hy]
 refine wpList_step fun K hK=>?_
 simp only[hw,if_true]
 refine wp_build t #[(i,x),(j,y)] ho ?_ (hK _ _ ?_)
 ·rw[e,hc];rfl
 ·rw[e,hc];exact h
theorem aAY {P:Program}{ops:Array Oper}{rest:List Oper}{o:Oper}{a:Act}{w:World}{Q:Exit->Act->World->Prop}(hw:Region.wanted o (yielded ops a.tmps)=true)(t:TypeId)(i0 i1 i2 i3:Nat)(x0 x1 x2 x3:Operand)(ho:o.op= .build t #[(i0,x0),(i1,x1),(i2,x2),(i3,x3)])
  (u0 u1 u2 u3:Value)(h0:a.eval x0=u0)(h1:a.eval x1=u1)(h2:a.eval x2=u2)(h3:a.eval x3=u3)(cells:Array Value)
  (hc:P.built t [(i0,u0),(i1,u1),(i2,u2),(i3,u3)]=some cells)(h:wpList P ops Q rest (a.put o.dst (.agg cells)) w):wpList P ops Q (o::rest) a w:=by
 have e:((#[(i0,x0),(i1,x1),(i2,x2),(i3,x3)]:Array (Nat×Operand)).map fun(i,x)=>(i,a.eval x)).toList= [(i0,u0),(i1,u1),(i2,u2),(i3,u3)]:=by simp[h0,h1,h2,h3]
 refine wpList_step fun K hK=>?_
 simp only[hw,if_true]
 refine wp_build t #[(i0,x0),(i1,x1),(i2,x2),(i3,x3)] ho ?_ (hK _ _ ?_)
 ·rw[e,hc];rfl
 ·rw[e,hc];exact h
end Go.Proofs.YtdaaoopkkhfbhaaGreatDoor
namespace Go.Proofs.YtdaaoopkkhfbhaaGreatDoor
open Go.RowKit
def cA(h:bA.Host):Array Value:=(Value.int .i64 h.kind::gA h.name::h.addr.map BA).toArray
theorem XA(h:bA.Host)(ha:h.addr.length=16):(cA h).size=18:=by simp[cA,ha]
theorem bB(h:bA.Host):(cA h).all (·.oneCell')=true:=by simp[cA,BA,gA,Value.oneCell']
theorem EK(h:bA.Host):(cA h)[0]? =some (.int .i64 h.kind):=rfl
theorem FM(h:bA.Host):(cA h)[1]? =some (gA h.name):=rfl
theorem jQ(h:bA.Host)(ha:h.addr.length=16):(cA h).extract 2 18=fA h.addr:=by
 apply Array.ext'
 rw[Array.toList_extract]
 unfold cA fA
 have e:List.take 16 (List.map BA h.addr)=List.map BA h.addr:=List.take_of_length_le (by simp[ha])
 simp[e]
theorem mA:(Tryz.prog.info? 32).map (·.size)=some 18:=by kernel_rfl
theorem WD: #[Value.int .i64 0,.string ⟨#[]⟩,.int .u8 0,.int .u8 0,.int .u8 0,.int .u8 0,.int .u8 0,.int .u8 0,.int .u8 0,.int .u8 0,.int .u8 0,.int .u8 0,.int .u8 0,.int .u8 0,.int .u8 0,.int .u8 0,.int .u8 0,.int .u8 0]=cA bA.zero:=by rfl
theorem sixteen {a:List UInt8}(ha:a.length=16): ∃x0 x1 x2 x3 x4 x5 x6 x7 x8 x9 x10 gG hG iG jG kG,a= [x0,x1,x2,x3,x4,x5,x6,x7,x8,x9,x10,gG,hG,iG,jG,kG]:=by
 match a,ha with
 | [x0,x1,x2,x3,x4,x5,x6,x7,x8,x9,x10,gG,hG,iG,jG,kG],_=>exact⟨x0,x1,x2,x3,x4,x5,x6,x7,x8,x9,x10,gG,hG,iG,jG,kG,rfl⟩
theorem ZL(k:Int)(a:List UInt8)(ha:a.length=16):Tryz.prog.built 32 [(0,.int .i64 k),(2,.agg (fA a))]=some (cA ⟨k,[],a⟩):=by
 obtain⟨x0,x1,x2,x3,x4,x5,x6,x7,x8,x9,x10,gG,hG,iG,jG,kG,rfl⟩:=sixteen ha
 kernel_rfl
theorem fP(k:Int)(s:ByteArray):Tryz.prog.built 32 [(0,.int .i64 k),(1,.string s)]=some (cA ⟨k,s.data.toList,bA.IA⟩):=by kernel_rfl
theorem mZ {P:Program}{W:World}{t e:TypeId}{n:Nat}{i:TypeInfo}{xs:Array Value}{off:Nat}(ht:P.underlying t=some (.array n e))(hi:P.info? t=some i):(part t xs off).run P W= .ok (.agg (xs.extract off (off+P.cellsOf t))) W:=by
 have hs:=run_sizeOf (w:=W) hi
 simp[part,isAgg,run_underlying ht,hs]
theorem cAQ {P:Program}{f0 f1 f2:Field}(n0:f0.name≠ "_")(n1:f1.name≠ "_")(n2:f2.name≠ "_")(o0:f0.offset=0)(o1:f1.offset=1)(o2:f2.offset=2)
  (u0:P.underlying f0.type=some (.int .i64))(u1:P.underlying f1.type=some .string){e:TypeId}(u2:P.underlying f2.type=some (.array 16 e))(ue:P.underlying e=some (.int .u8))
  (p0:P.plainKey f0.type=true)(p1:P.plainKey f1.type=true)(pe:P.plainKey e=true){i2 ie:TypeInfo}(zW:P.info? f2.type=some i2)(ieh:P.info? e=some ie)(ce:P.cellsOf e=1)(c2:P.cellsOf f2.type=16)
  (h g:bA.Host)(hh:h.addr.length=16)(hg:g.addr.length=16)(d:Nat)(W:World):
  (Op.eqFields (d+2) (cA h) (cA g) [f0,f1,f2]).run P W= .ok (decide (h=g)) W:=by
 have a0:(part f0.type (cA h) f0.offset).run P W= .ok (.int .i64 h.kind) W:=run_part_plain W p0 (by rw[o0];rfl)
 have b0:(part f0.type (cA g) f0.offset).run P W= .ok (.int .i64 g.kind) W:=run_part_plain W p0 (by rw[o0];rfl)
 have a1:(part f1.type (cA h) f1.offset).run P W= .ok (gA h.name) W:=run_part_plain W p1 (by rw[o1];rfl)
 have b1:(part f1.type (cA g) f1.offset).run P W= .ok (gA g.name) W:=run_part_plain W p1 (by rw[o1];rfl)
 have a2:(part f2.type (cA h) f2.offset).run P W= .ok (.agg (fA h.addr)) W:=by
  rw[mZ u2 zW,c2,o2,jQ h hh]
 have b2:(part f2.type (cA g) f2.offset).run P W= .ok (.agg (fA g.addr)) W:=by
  rw[mZ u2 zW,c2,o2,jQ g hg]
 have q0:(Op.equalIn (d+2) f0.type (.int .i64 h.kind) (.int .i64 g.kind)).run P W= .ok (h.kind==g.kind) W:=run_equalIn_int W (d+1) f0.type .i64 .i64 h.kind g.kind u0
 have q1:(Op.equalIn (d+2) f1.type (gA h.name) (gA g.name)).run P W= .ok (decide (h.name=g.name)) W:=by
  unfold gA
  rw[run_equalIn_string W (d+1) f1.type _ _ u1,Oct.aB,Oct.aB]
  refine congrArg (fun b=>Result.ok b W) ?_
  rw[Bool.eq_iff_iff]
  simp
 have q2:(Op.equalIn (d+2) f2.type (.agg (fA h.addr)) (.agg (fA g.addr))).run P W= .ok (decide (h.addr=g.addr)) W:=by
  rw[RT,RT,cAX u2 ue pe ieh ce _ _ (by simp[hh]) (by simp[hg]) d W]
  exact congrArg (fun b=>Result.ok b W) (decide_eq_decide.2 fAF)
 have hd:decide (h=g)=((h.kind==g.kind)&& (decide (h.name=g.name)&&decide (h.addr=g.addr))):=by
  rw[Bool.eq_iff_iff]
  simp only[decide_eq_true_eq,Bool.and_eq_true,beq_iff_eq]
  constructor
  ·rintro rfl;exact⟨rfl,rfl,rfl⟩
  ·rintro⟨e0,e1,e2⟩
   cases h;cases g
   simp at e0 e1 e2
   rw[e0,e1,e2]
 rw[hd]
 simp only[Op.eqFields,Sem.run_bind,a0,b0,a1,b1,a2,b2,q0,q1,q2,Result.andThen_ok,Sem.run_ite,Sem.run_pure,ne_eq,n0,n1,n2,not_false_eq_true,if_true]
 cases(h.kind==g.kind)<;>cases decide (h.name=g.name)<;>cases decide (h.addr=g.addr)<;>rfl
theorem fAz: ∃i,Tryz.prog.info? 30=some i:=Option.isSome_iff_exists.1 (by kernel_rfl)
theorem cV(h g:bA.Host)(hh:h.addr.length=16)(hg:g.addr.length=16)(W:World):
  (Op.equalIn 10000 32 (.agg (cA h)) (.agg (cA g))).run Tryz.prog W= .ok (decide (h=g)) W:=by
 obtain⟨ie,hie⟩:=fAy
 obtain⟨ia,hia⟩:=fAz
 obtain⟨f0,f1,f2,hf⟩: ∃f0 f1 f2,Tryz.prog.underlying 32=some (.struct #[f0,f1,f2])/\(f0.name≠ "_" /\f1.name≠ "_" /\f2.name≠ "_")/\(f0.offset=0/\f1.offset=1/\f2.offset=2)/\f0.type=3/\f1.type=9/\f2.type=30:=
  ⟨_,_,_,Tryz.underlying32,⟨by decide,by decide,by decide⟩,⟨rfl,rfl,rfl⟩,rfl,rfl,rfl⟩
 obtain⟨hu,⟨n0,n1,n2⟩,⟨o0,o1,o2⟩,t0,t1,t2⟩:=hf
 have hl:Tryz.prog.fieldsOf 32= #[f0,f1,f2]:=by unfold Program.fieldsOf;rw[hu]
 rw[run_equalIn_struct W 9999 32 _ _ (by rw[hl];exact hu) (by kernel_rfl),hl]
 exact cAQ n0 n1 n2 o0 o1 o2 (by rw[t0];exact Tryz.underlying3) (by rw[t1];exact Tryz.underlying9) (by rw[t2];exact Tryz.underlying30) Tryz.underlying5
  (by rw[t0];kernel_rfl) (by rw[t1];kernel_rfl) (by kernel_rfl) (by rw[t2];exact hia) hie (by kernel_rfl) (by rw[t2];kernel_rfl) h g hh hg 9997 W
theorem PA {w w1:World}{B:Nat}(t:TypeId)(zs cs:Array Value)(hb:Below B w w1)(hB:B<=w1.heap.size):
  Row (w1.alloc (.cells zs t)) w1.heap.size t zs/\Row ((w1.alloc (.cells zs t)).setRow w1.heap.size cs) w1.heap.size t cs/\Below B w ((w1.alloc (.cells zs t)).setRow w1.heap.size cs)/\
  ∀g t' c,Row w1 g t' c->Row ((w1.alloc (.cells zs t)).setRow w1.heap.size cs) g t' c:=by
 have T:=Row.new w1 t zs
 refine⟨T,T.whole cs,below_setRow (hb.alloc hB _) hB cs,fun g t' c R=>?_⟩
 have hne:g≠w1.heap.size:=by have:=R.lt;omega
 exact(R.alloc _).aside hne cs
theorem YD {P:Program}{ops:Array Oper}{rest:List Oper}{o:Oper}{a:Act}{w:World}{Q:Exit->Act->World->Prop}(hg:o.guard=none)(t:TypeId)(i j:Nat)(x y:Operand)(ho:o.op= .build t #[(i,x),(j,y)])(u v:Value)(hx:a.eval x=u)(hy:a.eval y=v)(cells:Array Value)
  (hc:P.built t [(i,u),(j,v)]=some cells)(h:wpList P ops Q rest (a.put o.dst (.agg cells)) w):wpList P ops Q (o::rest) a w:=by
 have e:((#[(i,x),(j,y)]:Array (Nat×Operand)).map fun(i,x)=>(i,a.eval x)).toList= [(i,u),(j,v)]:=by simp[hx,hy]
 refine wpList_build hg t #[(i,x),(j,y)] ho ?_ ?_
 ·rw[e,hc];rfl
 ·rw[e,hc];exact h
def aC(o:Option bA.Host)(w:World)(e:Ending)(w':World):Prop:=e= .returned (.tuple #[.agg (cA (o.getD bA.zero)),.int .i64 (if o.isSome then 0 else 31)])/\Below w.heap.size w w'
end Go.Proofs.YtdaaoopkkhfbhaaGreatDoor
namespace Go.Proofs.YtdaaoopkkhfbhaaGreatDoor
open Go.RowKit
theorem iA1 {w:World}{B B' n:Nat}{t:TypeId}{v:Value}{xs:List Value}(h:w.ownsRow B' t 1 v n xs)(hb:B<=B'):w.ownsRow B t 1 v n xs:=by
 refine⟨h.1,?_⟩
 rcases h.2 with k|⟨g,cap,cur,e,hg,r⟩
 ·exact .inl k
 ·exact .inr ⟨g,cap,cur,e,Nat.le_trans hb hg,r⟩
theorem lM(h g:bA.Host)(hh:h.addr.length=16)(hg:g.addr.length=16)(W:World):
  (binOp .eql 32 (.agg (cA h)) (.agg (cA g))).run Tryz.prog W= .ok (.bool (decide (h=g))) W:=by
 rw[run_eql_struct,cV h g hh hg W];rfl
theorem QX(h g:bA.Host)(hh:h.addr.length=16)(hg:g.addr.length=16)(W:World):
  (binOp .neq 32 (.agg (cA h)) (.agg (cA g))).run Tryz.prog W= .ok (.bool (!decide (h=g))) W:=by
 rw[run_neq_struct,cV h g hh hg W];rfl
end Go.Proofs.YtdaaoopkkhfbhaaGreatDoor
