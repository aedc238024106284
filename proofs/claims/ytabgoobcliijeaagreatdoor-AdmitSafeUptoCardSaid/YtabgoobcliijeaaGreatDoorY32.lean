/- The walks of the reference's calls of layer 9 on paths. -/
import Derived.Test.YtabgoobcliijeaaGreatDoorY25
set_option maxHeartbeats 1000000
namespace Go.Proofs.YtabgoobcliijeaaGreatDoor
open Go.RowKit
namespace Ma
theorem dA9 {p f:ByteArray} :((p.extract 0 f.size).toList==f.toList)=decide (p.data.toList.take f.data.toList.length=f.data.toList):=by
 rw[Oct.SA,Oct.SA,EF,Oct.nA,Bool.eq_iff_iff]
 simp
theorem hAd {p f:ByteArray}(h:f.size<p.size):edge p.data.toList f.data.toList=(((p[f.size].toNat:Int)==47)||decide (f.data.toList.getLast?=some 47)):=by
 have hl:f.data.toList.length<p.data.toList.length:=by rw[Oct.nA,Oct.nA];exact h
 rw[hAc hl]
 congr 1
 have e:p.data.toList[f.data.toList.length]=p[f.size]:=by
  simp only[Oct.nA]
  exact Oct.TF p f.size h
 rw[e,Bool.eq_iff_iff,decide_eq_true_eq,beq_iff_eq]
 constructor
 ·intro k;rw[k];rfl
 ·intro k;exact Oct.mB (by have:(47:UInt8).toNat=47:=rfl;omega)
theorem kAc {f:ByteArray}(h:f.size-1<f.size):decide (f.data.toList.getLast?=some 47)=((f[f.size-1].toNat:Int)==47):=by
 rw[Oct.aAO f h,Bool.eq_iff_iff,decide_eq_true_eq,beq_iff_eq,Option.some.injEq]
 constructor
 ·intro k;rw[k];rfl
 ·intro k;exact Oct.mB (by have:(47:UInt8).toNat=47:=rfl;omega)
end Ma
theorem mAG(p f:ByteArray)(w:World)(hfs:f.size<=1099511627776):
  Calls Tryz.prog 37 #[.string p,.string f] w fun e w'=>e= .returned (.bool (Ma.path p.data.toList f.data.toList))/\w=w':=by
 by_cases he:p=f
 ·subst he
  have e1:(p.toList==p.toList)=true:=by simp
  have HR:=zA7 (Ma.bAS p.data.toList)
  generalize Ma.path p.data.toList p.data.toList=B at*
  go_enter Tryz.func37,Tryz.ntmps37
  go_wp2
  go_ret
  exact⟨vA HR.out.symm,rfl⟩
 have hne:p.data.toList≠f.data.toList:=fun k=>he (by rw[<-gE p,<-gE f,k])
 have e1:(p.toList==f.toList)=false:=by rw[Oct.SA,Oct.SA,beq_eq_false_iff_ne];exact hne
 by_cases hl:p.size<=f.size
 ·have HR:=zA7 (Ma.mA2 hne (by rw[Oct.nA,Oct.nA];exact hl))
  have e2:(p.size:Int)<=(f.size:Int):=by omega
  generalize Ma.path p.data.toList f.data.toList=B at*
  clear he hne hl
  go_enter Tryz.func37,Tryz.ntmps37
  go_wp2
  go_ret
  exact⟨vA HR.out.symm,rfl⟩
 have hlt:f.size<p.size:=by omega
 have hlen:f.data.toList.length<p.data.toList.length:=by rw[Oct.nA,Oct.nA];exact hlt
 have e2: ¬(p.size:Int)<=(f.size:Int):=by omega
 have e3:(f.size:Int)<=(p.size:Int):=by omega
 have e4:(f.size:Int)<(p.size:Int):=by omega
 by_cases ht:p.data.toList.take f.data.toList.length=f.data.toList
 ·have e5:((p.extract 0 f.size).toList==f.toList)=true:=by rw[Ma.dA9,zA9 ht]
  have HR:=zA7 ((Ma.lAW hlen ht).trans (Ma.hAd hlt))
  generalize Ma.path p.data.toList f.data.toList=B at*
  clear he hne hl hlen ht
  cases hb:((p[f.size].toNat:Int)==47)with
  |true=>
   rw[hb]at HR
   go_enter Tryz.func37,Tryz.ntmps37
   go_wp2
   go_ret
   exact⟨vA HR.out.symm,rfl⟩
  |false=>
   rw[hb]at HR
   by_cases hz:f.size=0
   ·have hf:f.data.toList= []:=(Oct.UC f).2 hz
    have HR2:Hid (B=false):=zA7 (by rw[HR.out,hf];rfl)
    have e6: ¬(0:Int)<(f.size:Int):=by omega
    clear HR hf hz
    go_enter Tryz.func37,Tryz.ntmps37
    go_wp2
    go_ret
    exact⟨vA HR2.out.symm,rfl⟩
   ·have e6:(0:Int)<(f.size:Int):=by omega
    have e7:((f.size:Int)-1).toNat=f.size-1:=by omega
    have e8:f.size-1<f.size:=by omega
    rw[Ma.kAc e8]at HR
    clear hz
    go_enter Tryz.func37,Tryz.ntmps37
    go_wp2
    go_ret
    exact⟨vA HR.out.symm,rfl⟩
 ·have e5:((p.extract 0 f.size).toList==f.toList)=false:=by rw[Ma.dA9,zA8 ht]
  have HR:=zA7 (Ma.mA1 hlen ht)
  generalize Ma.path p.data.toList f.data.toList=B at*
  clear he hne hl hlen ht
  go_enter Tryz.func37,Tryz.ntmps37
  go_wp2
  go_ret
  exact⟨vA HR.out.symm,rfl⟩
theorem cAp(p:ByteArray)(w:World)(hs:p.size<=1099511627776):
  Calls Tryz.prog 19 #[.string p] w fun e w'=>e= .returned (.string ⟨(Ma.default p.data.toList).toArray⟩)/\w=w':=by
 have hlp:=Oct.nA p
 go_enter Tryz.func19,Tryz.ntmps19
 go_wp2
 go_loop [3,4] (fun a i=> ∃k n:Nat,k<=p.size/\i= .int .i64 k/\a= .int .i64 n/\n=(Ma.vB (p.data.toList.take k)).length) (fun _ i=>p.size- (intOf i).toNat)
 case atStart=>exact⟨0,0,Nat.zero_le _,rfl,rfl,rfl⟩
 case round=>
  obtain⟨k,n,hk,rfl,rfl,hn⟩:=hrel
  have HN:=zA7 hn
  clear hn
  by_cases hlt:k<p.size
  ·have hb:=Ma.oAy p.data.toList (k:=k) (by rw[hlp];exact hlt)
   rw[Oct.TF p k hlt]at hb
   by_cases hc:p[k]=47
   ·have e1:((p[k].toNat:Int)==47)=true:=by rw[hc];rfl
    rw[if_pos hc]at hb
    have HB:=zA7 hb
    clear hb hc
    go_wp2
    go_round
    case rel=>exact⟨k+1,k,by omega,by go_num,rfl,HB.out.symm⟩
    case measure=>simp[intOf];omega
   ·have e1:((p[k].toNat:Int)==47)=false:=by
     rw[beq_eq_false_iff_ne];intro h;exact hc (Oct.mB (by have:(47:UInt8).toNat=47:=rfl;omega))
    rw[if_neg hc]at hb
    have HB:=zA7 hb
    clear hb hc
    go_wp2
    go_round
    case rel=>exact⟨k+1,n,by omega,by go_num,rfl,HN.out.trans HB.out.symm⟩
    case measure=>simp[intOf];omega
  ·have hn2:n=(Ma.vB p.data.toList).length:=by rw[HN.out,List.take_of_length_le (by rw[hlp];omega)]
   have hle:=Ma.pZ p.data.toList
   rw[hlp,<-hn2]at hle
   clear HN
   by_cases hz:n=0
   ·have e1:((n:Int)==0)=true:=by rw[hz];rfl
    have HR:Hid ((⟨#[47]⟩:ByteArray)=⟨(Ma.default p.data.toList).toArray⟩):=zA7 (by rw[Ma.TP (.inr (hn2.symm.trans hz))])
    clear hn2
    go_wp2
    go_ret
    exact⟨nB HR.out,rfl⟩
   ·have e1:((n:Int)==0)=false:=by rw[beq_eq_false_iff_ne];omega
    have hp0:0<p.size:=by omega
    have hh:=Oct.CE p hp0
    by_cases hc:p[0]=47
    ·have e2:((p[0].toNat:Int) !=47)=false:=by rw[hc];rfl
     have HR:Hid (p.extract 0 n=⟨(Ma.default p.data.toList).toArray⟩):=zA7 (by
      rw[Ma.KZ (by rw[hh,hc]) (by omega),<-hn2];exact EF p n)
     have hle1:(n:Int)<=(p.size:Int):=by omega
     have hp1:(0:Int)<(p.size:Int):=by omega
     clear hn2 hh hc
     go_wp2
     go_ret
     exact⟨nB HR.out,rfl⟩
    ·have e2:((p[0].toNat:Int) !=47)=true:=by
      rw[bne_iff_ne];intro h;exact hc (Oct.mB (by have:(47:UInt8).toNat=47:=rfl;omega))
     have HR:Hid ((⟨#[47]⟩:ByteArray)=⟨(Ma.default p.data.toList).toArray⟩):=zA7 (by
      rw[Ma.TP (.inl (by rw[hh];intro k;exact hc (zB2 k)))])
     have hp1:(0:Int)<(p.size:Int):=by omega
     clear hn2 hh hc
     go_wp2
     go_ret
     exact⟨nB HR.out,rfl⟩
end Go.Proofs.YtabgoobcliijeaaGreatDoor
