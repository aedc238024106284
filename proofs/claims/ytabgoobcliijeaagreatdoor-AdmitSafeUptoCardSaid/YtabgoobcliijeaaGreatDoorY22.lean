/- The walks of what package url cuts a text with. -/
import Derived.Test.YtabgoobcliijeaaGreatDoorY4
set_option maxHeartbeats 1000000
set_option maxRecDepth 100000
namespace Go.Proofs.YtabgoobcliijeaaGreatDoor
open Go.RowKit
theorem bAE(c:UInt8)(w:World):
  Calls Tryz.prog 112 #[.int .u8 (c.toNat:Int)] w fun e w'=>e= .returned (.bool (Ur.MG c))/\w=w':=by
 have hc:c.toNat<256:=c.toNat_lt
 go_enter Tryz.func112,Tryz.ntmps112
 go_wp2
 all_goals
  go_ret
  exact⟨vA (by rw[Bool.eq_iff_iff];simp[Ur.MG];try omega),rfl⟩
namespace Ur
theorem lO(l:List UInt8)(c:UInt8):Lib.hasPrefix l [c]=decide (l.head?=some c):=by
 cases l with
 |nil=>rfl
 |cons d r=>
  show((c==d)&&true)=decide (some d=some c)
  rw[Bool.and_true,Bool.eq_iff_iff,beq_iff_eq,decide_eq_true_eq,Option.some.injEq]
  exact⟨fun h=>h.symm,fun h=>h.symm⟩
theorem lAZ {s:ByteArray}(h:2048<s.size):EC s.data.toList=false:=by
 unfold EC
 rw[zA8 (show¬(1<=s.data.toList.length/\s.data.toList.length<=2048) by rw[Oct.nA];omega)]
 simp
theorem lAY {s:ByteArray}(h:s.data.toList.head?≠some 47):EC s.data.toList=false:=by
 unfold EC
 rw[zA8 h]
 simp
theorem jO {s:ByteArray}{k:Nat}(hk:k<s.size)(h:MG s[k]=false):EC s.data.toList=false:=by
 unfold EC
 rw[Oct.zP s k hk h];rfl
theorem mA4 {s:ByteArray}{k:Nat}(hk:s.size<=k)(hl:s.size<=2048)(hh:s.data.toList.head?=some 47)(h:(s.data.toList.take k).all MG=true):EC s.data.toList=true:=by
 rw[Oct.vD s k hk]at h
 have hp:1<=s.data.toList.length:=by
  cases e:s.data.toList with
  |nil=>rw[e]at hh;cases hh
  |cons c r=>simp
 unfold EC
 rw[h,zA9 (show 1<=s.data.toList.length/\s.data.toList.length<=2048 from⟨hp,by rw[Oct.nA];exact hl⟩),zA9 hh];rfl
end Ur
theorem lAV(s:ByteArray)(w:World):
  Calls Tryz.prog 86 #[.string s] w fun e w'=>e= .returned (.bool (Ur.EC s.data.toList))/\w=w':=by
 have H1:=zA7 (fun W=>Tryz.strings_HasPrefix s ⟨#[47]⟩ W)
 have e1:(⟨#[47]⟩:ByteArray).data.toList= [47]:=rfl
 rw[e1,Ur.lO]at H1
 clear e1
 by_cases hl:2048<s.size
 ·have hl1:(2048:Int)<(s.size:Int):=by omega
  have HN:=zA7 (Ur.lAZ hl)
  clear hl
  go_enter Tryz.func86,Tryz.ntmps86
  go_wp2
  go_ret
  exact⟨vA HN.out.symm,rfl⟩
 have hl1: ¬(2048:Int)<(s.size:Int):=by omega
 by_cases hh:s.data.toList.head?=some 47
 ·rw[zA9 hh]at H1
  have HH:=zA7 hh
  clear hh
  go_enter Tryz.func86,Tryz.ntmps86
  go_wp2_with (go_at_call 72;refine(H1.out _).mono ?_;rintro e w' ⟨rfl,hq⟩;rw[hq])
  go_loop [3,14] (fun _ i=> ∃k:Nat,k<=s.size/\i= .int .i64 k/\(s.data.toList.take k).all Ur.MG=true) (fun _ i=>s.size- (intOf i).toNat)
  case atStart=>exact⟨0,Nat.zero_le _,rfl,by simp⟩
  case round=>
   obtain⟨k,hk,rfl,hall⟩:=hrel
   have HA:=zA7 hall
   clear hall
   by_cases hlt:k<s.size
   ·cases hq:Ur.MG s[k]with
    |true=>
     go_wp2_with (go_at_call 112;refine(bAE _ _).mono ?_;rintro e w' ⟨rfl,rfl⟩;rw[hq])
     go_round
     case rel=>exact⟨k+1,by omega,by go_num,Oct.DJ s k hlt HA.out hq⟩
     case measure=>simp[intOf];omega
    |false=>
     go_wp2_with (go_at_call 112;refine(bAE _ _).mono ?_;rintro e w' ⟨rfl,rfl⟩;rw[hq])
     go_ret
     exact⟨vA (Ur.jO hlt hq).symm,rfl⟩
   ·go_wp2
    go_ret
    exact⟨vA (Ur.mA4 (k:=k) (by omega) (by omega) HH.out HA.out).symm,rfl⟩
 ·rw[zA8 hh]at H1
  have HN:=zA7 (Ur.lAY hh)
  clear hh
  go_enter Tryz.func86,Tryz.ntmps86
  go_wp2_with (go_at_call 72;refine(H1.out _).mono ?_;rintro e w' ⟨rfl,hq⟩;rw[hq])
  go_ret
  exact⟨vA HN.out.symm,rfl⟩
namespace Ur
end Ur
namespace Ur
end Ur
namespace Ur
def sK(b:List UInt8):Bool:=decide (b≠ []/\b.head?≠some 58)
theorem oAk(b:List UInt8):sK b=((!decide (b= []))&& (!decide (b.head?=some 58))):=by
 unfold sK
 rw[Bool.eq_iff_iff]
 simp
end Ur
end Go.Proofs.YtabgoobcliijeaaGreatDoor
namespace Go.Proofs.YtabgoobcliijeaaGreatDoor
open Go.RowKit
namespace Ur
theorem hAv {s some:ByteArray}{i k:Nat}(hi:i<s.size)(hk:k<some.size)(hn: ∀c∈s.data.toList.take i,some.data.toList.contains c=false)(h:s[i]=some[k]):find s.data.toList some.data.toList=i:=by
 have hi2:i<s.data.toList.length:=by rw[Oct.nA];exact hi
 unfold find
 rw[List.findIdx_eq hi2]
 refine⟨?_,fun j hj=>?_⟩
 ·rw[List.contains_iff_mem,Oct.TF s i hi,h,<-Oct.TF some k hk]
  exact List.getElem_mem _
 ·have:=hn (s.data.toList[j]'(by omega)) (by
   rw[List.mem_take_iff_getElem]
   exact⟨j,by omega,rfl⟩)
  exact this
theorem hAt {s some:ByteArray}{i:Nat}(hi:s.size<=i)(hn: ∀c∈s.data.toList.take i,some.data.toList.contains c=false):find s.data.toList some.data.toList=s.size:=by
 rw[Oct.vD s i hi]at hn
 rw[jL hn,Oct.nA]
theorem hAx {s some:ByteArray}{i k:Nat}(hi:i<s.size)(hk:some.size<=k)(hn: ∀c∈s.data.toList.take i,some.data.toList.contains c=false)(h: ∀d∈some.data.toList.take k,d≠s[i]): ∀c∈s.data.toList.take (i+1),some.data.toList.contains c=false:=by
 intro c hc
 rw[Oct.fG s i hi]at hc
 rcases List.mem_append.1 hc with hc|hc
 ·exact hn c hc
 ·rw[List.mem_singleton.1 hc]
  rw[Oct.vD some k hk]at h
  cases e:some.data.toList.contains s[i]with
  |false=>rfl
  |true=>exact absurd rfl (h _ (List.contains_iff_mem.1 e))
end Ur
theorem cQ(s some:ByteArray)(w:World)(hs:s.size<=maxLen)(hz:some.size<=1000):
  Calls Tryz.prog 44 #[.string s,.string some] w fun e w'=>e= .returned (.int .i64 (Ur.find s.data.toList some.data.toList:Nat))/\pB w w':=by
 unfold maxLen at hs
 go_enter Tryz.func44,Tryz.ntmps44
 go_wp2
 go_loopw [5,6] (fun v _ wr=> ∃i:Nat,i<=s.size/\v= .int .i64 (i:Int)/\Hid (∀c∈s.data.toList.take i,some.data.toList.contains c=false)/\pB w wr) (fun v _ _=>s.size- (intOf v).toNat)
 case atStart=>exact⟨0,Nat.zero_le _,rfl,zA7 (by simp),pB.refl _⟩
 case round=>
  obtain⟨i,hi,rfl,HI,hd⟩:=hrel
  by_cases hlt:i<s.size
  ·go_wp2
   go_loopw [6] (fun v wr2=> ∃k:Nat,k<=some.size/\v= .int .i64 (k:Int)/\Hid (∀d∈some.data.toList.take k,d≠s[i])/\pB w wr2) (fun v _=>some.size- (intOf v).toNat)
   case atStart=>exact⟨0,Nat.zero_le _,rfl,zA7 (by simp),hd⟩
   case round=>
    clear hd
    obtain⟨k,hk,rfl,HK,hd⟩:=hrel
    by_cases hltk:k<some.size
    ·by_cases he:s[i]=some[k]
     ·have he1:((s[i].toNat:Int)==(some[k].toNat:Int))=true:=by rw[he];simp
      have HE:=zA7 he
      clear he
      go_wp2
      go_quiet (fail)
      go_wp2
      go_ret
      exact⟨uC (by rw[Ur.hAv hlt hltk HI.out HE.out]),hd.more _⟩
     ·have he1:((s[i].toNat:Int)==(some[k].toNat:Int))=false:=by rw[beq_eq_false_iff_ne];intro e;exact he (Oct.mB (by omega))
      have HE:=zA7 he
      clear he
      go_wp2
      go_quiet (fail)
      go_wp2
      go_roundw
      case rel=>exact⟨k+1,by omega,by go_num,zA7 (by
       intro d hd
       rw[Oct.fG some k hltk]at hd
       rcases List.mem_append.1 hd with hd|hd
       ·exact HK.out d hd
       ·rw[List.mem_singleton.1 hd];exact fun e=>HE.out e.symm),hd.more _⟩
      case measure=>simp[intOf];omega
    ·go_wp2
     go_roundw
     case rel=>exact⟨i+1,by omega,by go_num,zA7 (Ur.hAx hlt (by omega) HI.out HK.out),hd⟩
     case measure=>simp[intOf];omega
  ·go_wp2
   go_ret
   exact⟨uC (by rw[Ur.hAt (i:=i) (by omega) HI.out]),hd⟩
namespace Ur
theorem mA0 {s:ByteArray}(h:s.data.toList.all MG=true):EC s.data.toList=(decide (1<=s.size)&& (decide (s.size<=2048)&&decide (s.data.toList.head?=some 47))):=by
 unfold EC
 rw[h,Oct.nA,Bool.true_and,Bool.eq_iff_iff]
 simp[and_assoc]
end Ur
theorem cAr(s:ByteArray)(w:World)(hs:s.size<=maxLen):
  Calls Tryz.prog 46 #[.string s] w fun e w'=>e= .returned (.bool (Ur.EC s.data.toList))/\w=w':=by
 unfold maxLen at hs
 go_enter Tryz.func46,Tryz.ntmps46
 go_wp2
 go_loop [3] (fun i=> ∃k:Nat,k<=s.size/\i= .int .i64 k/\(s.data.toList.take k).all Ur.MG=true) (fun i=>s.size- (intOf i).toNat)
 case atStart=>exact⟨0,Nat.zero_le _,rfl,by simp⟩
 case round=>
  obtain⟨k,hk,rfl,hall⟩:=hrel
  have HA:=zA7 hall
  clear hall
  by_cases hlt:k<s.size
  ·have hq:Ur.MG s[k]= !((decide ((s[k].toNat:Int)<33))||((decide (126<(s[k].toNat:Int)))||(((s[k].toNat:Int)==63)||((s[k].toNat:Int)==35)))):=by
    rw[Bool.eq_iff_iff]
    simp[Ur.MG]
    omega
   have HQ:=zA7 hq
   clear hq
   by_cases h1:(s[k].toNat:Int)<33
   ·go_wp2
    go_ret
    exact⟨vA (Ur.jO hlt (by rw[HQ.out,zA9 h1];rfl)).symm,rfl⟩
   ·by_cases h2:(126:Int)<(s[k].toNat:Int)
    ·go_wp2
     go_ret
     exact⟨vA (Ur.jO hlt (by rw[HQ.out,zA9 h2];simp)).symm,rfl⟩
    ·cases h3:((s[k].toNat:Int)==63)with
     |true=>
      go_wp2
      go_ret
      exact⟨vA (Ur.jO hlt (by rw[HQ.out,h3];simp)).symm,rfl⟩
     |false=>
      cases h4:((s[k].toNat:Int)==35)with
      |true=>
       go_wp2
       go_ret
       exact⟨vA (Ur.jO hlt (by rw[HQ.out,h4];simp)).symm,rfl⟩
      |false=>
       go_wp2
       go_round
       case rel=>exact⟨k+1,by omega,by go_num,Oct.DJ s k hlt HA.out (by rw[HQ.out,zA8 h1,zA8 h2,h3,h4];rfl)⟩
       case measure=>simp[intOf];omega
  ·have hP:=Ur.mA0 (s:=s) (by rw[<-Oct.vD s k (by omega)];exact HA.out)
   by_cases hpos:1<=s.size
   ·have hb:=Oct.CE s (by omega)
    have h5:(s.data.toList.head?=some 47)↔ ((s[0].toNat:Int)==47)=true:=by
     rw[hb,beq_iff_eq,Option.some.injEq]
     exact⟨fun e=>by rw[e];rfl,fun e=>Oct.mB (by show _=47;omega)⟩
    have HP:Hid (Ur.EC s.data.toList=(decide ((s.size:Int)<=2048)&& ((s[0].toNat:Int)==47))):=zA7 (by
     rw[hP,zA9 hpos,Bool.true_and,Bool.eq_iff_iff]
     simp only[Bool.and_eq_true,decide_eq_true_eq,h5]
     refine and_congr (by omega) Iff.rfl)
    have aAd:(1:Int)<=(s.size:Int):=by omega
    clear hP h5 hb HA
    go_wp2
    all_goals
     go_ret
     exact⟨vA (by rw[HP.out];simp_all<;>omega),rfl⟩
   ·have HP:Hid (Ur.EC s.data.toList=false):=zA7 (by rw[hP,zA8 hpos];rfl)
    have aAd: ¬(1:Int)<=(s.size:Int):=by omega
    clear hP HA
    go_wp2
    go_ret
    exact⟨vA HP.out.symm,rfl⟩
end Go.Proofs.YtabgoobcliijeaaGreatDoor
