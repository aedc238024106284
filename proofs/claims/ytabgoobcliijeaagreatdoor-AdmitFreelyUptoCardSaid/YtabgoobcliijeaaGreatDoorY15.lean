/- The walk of date's Cookie. -/
import Derived.Test.YtabgoobcliijeaaGreatDoorY14
set_option maxHeartbeats 8000000
set_option maxRecDepth 100000
namespace Go.Proofs.YtabgoobcliijeaaGreatDoor
open Go.RowKit
theorem qAA: #[Value.bool false,.bool false,.bool false,.bool false,.int .i64 0,.int .i64 0,.int .i64 0,.int .i64 0,.int .i64 0,.int .i64 0]=RD Dt.untold:=by rfl
theorem gAr(u:ByteArray):(Dt.IB u.data.toList).1.length<=u.size/\(Dt.IB u.data.toList).2.length<=u.size-1:=by
 have:=Dt.sZ u.data.toList
 rw[Oct.nA]at this
 exact this
theorem gAj(s:ByteArray)(w:World)(hw:mC w)(hs:s.size<=maxLen):
  Calls Tryz.prog 149 #[.string s] w (BF (Dt.kB s.data.toList) w):=by
 have z0:=qAA
 have AA:Hid (∀T n b w',Dt.told s.data.toList=T->Dt.moment T=(n,b)->Below w.heap.size w w'->BF (Dt.kB s.data.toList) w (.returned (.tuple #[.int .i64 n,.bool b])) w'):=zA7 (fun T n b w' h1 h2 k=>lV (by unfold Dt.kB;rw[h1,h2]) k)
 generalize hpost:BF (Dt.kB s.data.toList) w=post at*
 clear hpost
 have HT0:Hid ((Dt.toks s.data.toList).foldl Dt.tell Dt.untold=Dt.told s.data.toList):=zA7 rfl
 generalize Dt.told s.data.toList=res at*
 have HS:=zA7 hs
 have HW:Hid (∀W,Below w.heap.size w W->mC W):=zA7 (fun W h=>hw.below h)
 clear hs hw
 go_enter Tryz.func149,Tryz.ntmps149
 go_wp2_with fail
 have R0:=Row.new w 195 (RD Dt.untold)
 have K0:WC w.heap.size Dt.untold w (w.alloc (.cells (RD Dt.untold) 195)):=⟨R0,(Below.refl w.heap.size w).alloc (zB3 _) _⟩
 generalize w.alloc (.cells (RD Dt.untold) 195)=w0 at*
 clear R0
 go_loopw [5] (fun v wr=> ∃(u:ByteArray)(T:Dt.Told),v= .string u/\u.size<=s.size/\(Dt.toks u.data.toList).foldl Dt.tell T=res/\WC w.heap.size T w wr) (fun v _=>match v with| .string u=>u.size|_=>0)
 case atStart=>exact⟨s,_,rfl,zB3 _,HT0.out,K0⟩
 case round=>
  clear K0
  obtain⟨u,T,rfl,cC,hT,K⟩:=hrel
  have AG:u.size<=maxLen:=Nat.le_trans cC HS.out
  by_cases hu:u.size=0
  ·have hn:u.data.toList= []:=(Oct.UC u).2 hu
   rw[hn,Dt.zN]at hT
   have hne:u.toList.isEmpty=true:=by rw[Oct.SA,hn];rfl
   have HM:=zA7 (kAT T w.heap.size wr (HW.out wr K.below) K.row)
   unfold BF at HM
   rcases hmo:Dt.moment T with⟨n,b⟩
   rw[hmo]at HM
   have HR:=zA7 (fun w' hb=>AA.out T n b w' hT.symm hmo hb)
   have B:=K.below
   clear hmo hT hn AG
   go_wp2_with (go_at_call 185;refine HM.out.mono ?_;rintro e w2 ⟨rfl,b2⟩)
   have h:=HR.out w2 (B.trans (b2.mono B.size))
   first|exact h|(go_ret2;exact h)
  ·have kS:=zA7 (fun W=>gAs u W AG)
   unfold wP at kS
   obtain⟨l1,l2⟩:=gAr u
   rw[Dt.hAI]at hT
   obtain⟨p,hp⟩: ∃x:ByteArray,(⟨(Dt.IB u.data.toList).1.toArray⟩:ByteArray)=x:=⟨_,rfl⟩
   obtain⟨r,hr⟩: ∃x:ByteArray,(⟨(Dt.IB u.data.toList).2.toArray⟩:ByteArray)=x:=⟨_,rfl⟩
   have KU:p.data.toList=(Dt.IB u.data.toList).1:=by rw[<-hp]
   have hrd:r.data.toList=(Dt.IB u.data.toList).2:=by rw[<-hr]
   rw[hp,hr]at kS
   rw[<-KU,<-hrd]at hT
   rw[<-KU,Oct.nA]at l1
   rw[<-hrd,Oct.nA]at l2
   have OX:=zA7 (fun g W hw0 hR=>pA1 T p g W hw0 hR (Nat.le_trans l1 AG))
   unfold vP at OX
   generalize Dt.tell T p.data.toList=T2 at*
   have hne:u.toList.isEmpty=false:=by
    rw[Oct.SA,Bool.eq_false_iff]
    intro h
    exact hu ((Oct.UC u).1 (List.isEmpty_iff.1 h))
   clear hp hr KU hrd AG
   have HT:=zA7 hT
   clear hT
   go_wp2_with fail
   refine(kS.out _).mono ?_
   rintro e w2 ⟨rfl,b2⟩
   have K2:=K.on b2
   go_wp2_with fail
   refine(OX.out _ _ (fun W hW=>HW.out W (K2.below.trans hW)) K2.row).mono ?_
   rintro e w3 ⟨rfl,k3⟩
   have K3:WC w.heap.size T2 w w3:=⟨k3.row,K2.below.trans k3.below⟩
   go_wp2
   go_roundw
   case rel=>exact⟨r,T2,rfl,by omega,HT.out,K3⟩
   case measure=>simp;omega
end Go.Proofs.YtabgoobcliijeaaGreatDoor
namespace Go.Proofs.YtabgoobcliijeaaGreatDoor
open Go.RowKit
namespace Hd
theorem cA2 {h:Head}{k v:List UInt8}{n:Int}(hv:v.length<=1024)(hk:k=GG)(hc:Dt.kB v=(n,true)):put h k v= {h with exp:=some n} :=by subst hk;rw[PV h hv,hc];rfl
theorem cA1 {h:Head}{k v:List UInt8}{n:Int}(hv:v.length<=1024)(hk:k=GG)(hc:Dt.kB v=(n,false)):put h k v=h:=by subst hk;rw[PV h hv,hc];rfl
theorem bAZ {h:Head}{k v:List UInt8}{n:Nat}(hv:v.length<=1024)(hk:k=EG)(hc:jD v=some n):put h k v= {h with age:=some n} :=by subst hk;rw[LV h hv,hc]
theorem bAY {h:Head}{k v:List UInt8}(hv:v.length<=1024)(hk:k=EG)(hc:jD v=none):put h k v=h:=by subst hk;rw[LV h hv,hc]
theorem mAj {h:Head}{k v:List UInt8}(hv:v.length<=1024)(hk:k=FG):put h k v= {h with domain:=(eC v).map Oct.low} :=by subst hk;rw[MV h hv,pAM]
theorem cA6 {h:Head}{k v:List UInt8}(hv:v.length<=1024)(hk:k=wH):put h k v= {h with path:=if v.head?=some 47 then v else []} :=by subst hk;exact cA5 h hv
theorem cA8 {h:Head}{k v:List UInt8}(hv:v.length<=1024)(hk:k=xH):put h k v= {h with secure:=true} :=by subst hk;exact cA7 h hv
theorem cA4 {h:Head}{k v:List UInt8}(hv:v.length<=1024)(hk:k=vH):put h k v= {h with only:=true} :=by subst hk;exact cA3 h hv
theorem cAa {h:Head}{k v:List UInt8}(hv:v.length<=1024)(hk:k=yH):put h k v= {h with same:=iF (v.map Oct.low)} :=by subst hk;exact cA9 h hv
end Hd
def tP(g:Nat)(h:Hd.Head)(w:World)(e:Ending)(w':World):Prop:=e= .returned (.tuple #[])/\QB g h w w'
theorem dK(k:ByteArray)(hk:k.size<=maxLen){W0:List UInt8}{x:List UInt8}(h:W0.map Oct.low=x)(W:World):Calls Tryz.prog 69 #[.string k,.string ⟨W0.toArray⟩] W (KH (decide (k.data.toList.map Oct.low=x)) W):=by
 have:=uR k ⟨W0.toArray⟩ W hk
 rw[show(⟨W0.toArray⟩:ByteArray).data.toList=W0 from rfl,Hd.jAZ _ h]at this
 exact this
theorem oAA(h:Hd.Head)(k v:ByteArray)(g:Nat)(w:World)(hw: ∀W,Below g w W->uB W)(hR:Row w g 35 (headA h))(hk:k.size<=maxLen)(hv:v.size<=1024):
  Calls Tryz.prog 117 #[.pointer (some ⟨g,0,none⟩),.string k,.string v] w (tP g (Hd.put h (k.data.toList.map Oct.low) v.data.toList) w):=by
 have K0:QB g h w w:=⟨hR,Below.refl _ _⟩
 have hvl:v.data.toList.length<=1024:=by rw[Oct.nA];exact hv
 have S1:=zA7 (fun W=>dK k hk (show([69,120,112,105,114,101,115]:List UInt8).map Oct.low=Hd.GG from by decide) W)
 have S2:=zA7 (fun W=>dK k hk (show([77,97,120,45,65,103,101]:List UInt8).map Oct.low=Hd.EG from by decide) W)
 have S3:=zA7 (fun W=>dK k hk (show([68,111,109,97,105,110]:List UInt8).map Oct.low=Hd.FG from by decide) W)
 have S4:=zA7 (fun W=>dK k hk (show([80,97,116,104]:List UInt8).map Oct.low=Hd.wH from by decide) W)
 have S5:=zA7 (fun W=>dK k hk (show([83,101,99,117,114,101]:List UInt8).map Oct.low=Hd.xH from by decide) W)
 have S6:=zA7 (fun W=>dK k hk (show([72,116,116,112,79,110,108,121]:List UInt8).map Oct.low=Hd.vH from by decide) W)
 have S7:=zA7 (fun W=>dK k hk (show([83,97,109,101,83,105,116,101]:List UInt8).map Oct.low=Hd.yH from by decide) W)
 unfold KH at S1 S2 S3 S4 S5 S6 S7
 have AA:Hid (∀h' w',Hd.put h (k.data.toList.map Oct.low) v.data.toList=h'->QB g h' w w'->tP g (Hd.put h (k.data.toList.map Oct.low) v.data.toList) w (.returned (.tuple #[])) w'):=zA7 (fun h' w' e kk=>by rw[e];exact⟨rfl,kk⟩)
 generalize hpost:tP g (Hd.put h (k.data.toList.map Oct.low) v.data.toList) w=post at*
 clear hpost
 have HW:=zA7 hw
 have C1:=zA7 (fun W hW=>gAj v W hW (by unfold maxLen;omega))
 have C2:=zA7 (fun W=>mAr v W (by omega))
 have C3:=zA7 (fun W=>Tryz.strings_TrimPrefix v ⟨#[46]⟩ W)
 have e3:(⟨#[46]⟩:ByteArray).data.toList= [46]:=rfl
 rw[e3,Hd.pAN]at C3
 have XW:Hid (∀W,Calls Tryz.prog 94 #[.string ⟨(Hd.eC v.data.toList).toArray⟩] W (XC W.heap.size ((Hd.eC v.data.toList).map Oct.low) W)):=zA7 (fun W=>by
  have:=aAW ⟨(Hd.eC v.data.toList).toArray⟩ W (by
   have e:(⟨(Hd.eC v.data.toList).toArray⟩:ByteArray).size=(Hd.eC v.data.toList).length:=by show(List.toArray _).size=_;simp
   have:=Hd.pAL v.data.toList
   omega)
  exact this)
 have C4:=zA7 (fun W=>mAu v W)
 have C7:=zA7 (fun W hW=>mAv v W hW (by unfold maxLen;omega))
 unfold BF at C1
 unfold nM at C2
 unfold XC at XW
 unfold xP at C7
 have P1:=zA7 (fun n=> @Hd.cA2 h (k.data.toList.map Oct.low) v.data.toList n hvl)
 have dY:=zA7 (fun n=> @Hd.cA1 h (k.data.toList.map Oct.low) v.data.toList n hvl)
 have P2:=zA7 (fun n=> @Hd.bAZ h (k.data.toList.map Oct.low) v.data.toList n hvl)
 have gY:=zA7 (@Hd.bAY h (k.data.toList.map Oct.low) v.data.toList hvl)
 have P3:=zA7 (@Hd.mAj h (k.data.toList.map Oct.low) v.data.toList hvl)
 have P4:=zA7 (@Hd.cA6 h (k.data.toList.map Oct.low) v.data.toList hvl)
 have P5:=zA7 (@Hd.cA8 h (k.data.toList.map Oct.low) v.data.toList hvl)
 have P6:=zA7 (@Hd.cA4 h (k.data.toList.map Oct.low) v.data.toList hvl)
 have P7:=zA7 (@Hd.cAa h (k.data.toList.map Oct.low) v.data.toList hvl)
 have PN:=zA7 (fun hh=> @Hd.QV h (k.data.toList.map Oct.low) v.data.toList hh)
 obtain⟨⟨mo,mb⟩,hmo⟩: ∃o,Dt.kB v.data.toList=o:=⟨_,rfl⟩
 obtain⟨ag,hag⟩: ∃o,Hd.jD v.data.toList=o:=⟨_,rfl⟩
 rw[hmo]at C1 P1 dY
 rw[hag]at C2 P2 gY
 generalize(if v.data.toList.head?=some 47 then v.data.toList else [])=pa at*
 generalize Hd.iF (v.data.toList.map Oct.low)=sm at*
 generalize(Hd.eC v.data.toList).map Oct.low=dm at*
 generalize(⟨(Hd.eC v.data.toList).toArray⟩:ByteArray)=ud at*
 generalize Hd.put h (k.data.toList.map Oct.low) v.data.toList=res at*
 generalize k.data.toList.map Oct.low=K at*
 clear hw hR hk hv hvl e3 hmo hag
 obtain⟨b1,hb1⟩: ∃b,decide (K=Hd.GG)=b:=⟨_,rfl⟩
 obtain⟨b2,hb2⟩: ∃b,decide (K=Hd.EG)=b:=⟨_,rfl⟩
 obtain⟨b3,hb3⟩: ∃b,decide (K=Hd.FG)=b:=⟨_,rfl⟩
 obtain⟨b4,hb4⟩: ∃b,decide (K=Hd.wH)=b:=⟨_,rfl⟩
 obtain⟨b5,hb5⟩: ∃b,decide (K=Hd.xH)=b:=⟨_,rfl⟩
 obtain⟨b6,hb6⟩: ∃b,decide (K=Hd.vH)=b:=⟨_,rfl⟩
 obtain⟨b7,WJ⟩: ∃b,decide (K=Hd.yH)=b:=⟨_,rfl⟩
 rw[hb1]at S1
 rw[hb2]at S2
 rw[hb3]at S3
 rw[hb4]at S4
 rw[hb5]at S5
 rw[hb6]at S6
 rw[WJ]at S7
 have B1:=zA7 hb1
 have B2:=zA7 hb2
 have B3:=zA7 hb3
 have B4:=zA7 hb4
 have B5:=zA7 hb5
 have B6:=zA7 hb6
 have B7:=zA7 WJ
 clear hb1 hb2 hb3 hb4 hb5 hb6 WJ
 go_enter Tryz.func117,Tryz.ntmps117
 go_wp2_with fail
 refine(S1.out _).mono ?_
 rintro e w1 ⟨rfl,d1⟩
 have K1:=K0.on (d1.below _)
 clear K0 d1 S1
 cases b1 with
 |true=>
  have hK:=zB1 B1.out
  have HW1:=(HW.out _ K1.below).UE
  go_wp2_with fail
  refine(C1.out _ HW1).mono ?_
  rintro e w2 ⟨rfl,d2⟩
  have K2:=K1.on d2
  cases mb with
  |true=>
   have HR:=zA7 (AA.out _ _ (P1.out mo hK rfl) (K2.two (Y8 h mo)))
   have q1:=K2.cell 4
   have f1:=K2.free 4
   have q2:=K2.cell 5
   have f2:=K2.free 5
   clear hK
   go_wp2
   go_end0
   exact HR.out
  |false=>
   have HR:=zA7 (AA.out _ _ (dY.out mo hK rfl) K2)
   clear hK
   go_wp2
   go_end0
   exact HR.out
 |false=>
 go_wp2_with fail
 refine(S2.out _).mono ?_
 rintro e w2 ⟨rfl,d1⟩
 have K2:=K1.on (d1.below _)
 clear K1 d1 S2
 cases b2 with
 |true=>
  have hK:=zB1 B2.out
  go_wp2_with fail
  refine(C2.out _).mono ?_
  rintro e w3 ⟨rfl,rfl⟩
  cases ag with
  |some n=>
   have HR:=zA7 (AA.out _ _ (P2.out n hK rfl) (K2.two (X8 h n)))
   have q1:=K2.cell 6
   have f1:=K2.free 6
   have q2:=K2.cell 7
   have f2:=K2.free 7
   clear hK
   go_wp2
   go_end0
   exact HR.out
  |none=>
   have HR:=zA7 (AA.out _ _ (gY.out hK rfl) K2)
   clear hK
   go_wp2
   go_end0
   exact HR.out
 |false=>
 go_wp2_with fail
 refine(S3.out _).mono ?_
 rintro e w3 ⟨rfl,d1⟩
 have K3:=K2.on (d1.below _)
 clear K2 d1 S3
 cases b3 with
 |true=>
  have hK:=zB1 B3.out
  go_wp2_with fail
  refine(C3.out _).mono ?_
  rintro e w4 ⟨rfl,rfl⟩
  go_wp2_with fail
  refine(XW.out _).mono ?_
  rintro e w5 ⟨rfl,d5⟩
  have K4:=K3.on d5
  have HR:=zA7 (AA.out _ _ (P3.out hK) (K4.one (iAM h dm)))
  have q1:=K4.cell 2
  have f1:=K4.free 2
  clear hK
  go_wp2
  go_end0
  exact HR.out
 |false=>
 go_wp2_with fail
 refine(S4.out _).mono ?_
 rintro e w4 ⟨rfl,d1⟩
 have K4:=K3.on (d1.below _)
 clear K3 d1 S4
 cases b4 with
 |true=>
  have hK:=zB1 B4.out
  go_wp2_with fail
  refine(C4.out _).mono ?_
  rintro e w5 ⟨rfl,rfl⟩
  have HR:=zA7 (AA.out _ _ (P4.out hK) (K4.one (iAP h pa)))
  have q1:=K4.cell 3
  have f1:=K4.free 3
  clear hK
  go_wp2
  go_end0
  exact HR.out
 |false=>
 go_wp2_with fail
 refine(S5.out _).mono ?_
 rintro e w5 ⟨rfl,d1⟩
 have K5:=K4.on (d1.below _)
 clear K4 d1 S5
 cases b5 with
 |true=>
  have hK:=zB1 B5.out
  have HR:=zA7 (AA.out _ _ (P5.out hK) (K5.one (G9 h)))
  have q1:=K5.cell 8
  have f1:=K5.free 8
  clear hK
  go_wp2
  go_end0
  exact HR.out
 |false=>
 go_wp2_with fail
 refine(S6.out _).mono ?_
 rintro e w6 ⟨rfl,d1⟩
 have K6:=K5.on (d1.below _)
 clear K5 d1 S6
 cases b6 with
 |true=>
  have hK:=zB1 B6.out
  have HR:=zA7 (AA.out _ _ (P6.out hK) (K6.one (D9 h)))
  have q1:=K6.cell 9
  have f1:=K6.free 9
  clear hK
  go_wp2
  go_end0
  exact HR.out
 |false=>
 go_wp2_with fail
 refine(S7.out _).mono ?_
 rintro e w7 ⟨rfl,d1⟩
 have K7:=K6.on (d1.below _)
 clear K6 d1 S7
 cases b7 with
 |true=>
  have hK:=zB1 B7.out
  have HW7:=HW.out _ K7.below
  go_wp2_with fail
  refine(C7.out _ HW7).mono ?_
  rintro e w8 ⟨rfl,d8⟩
  have K8:=K7.on d8
  have HR:=zA7 (AA.out _ _ (P7.out hK) (K8.one (iAQ h sm)))
  have q1:=K8.cell 10
  have f1:=K8.free 10
  clear hK
  go_wp2
  go_end0
  exact HR.out
 |false=>
 have HR:=zA7 (AA.out _ _ (PN.out ⟨of_decide_eq_false B1.out,of_decide_eq_false B2.out,of_decide_eq_false B3.out,of_decide_eq_false B4.out,of_decide_eq_false B5.out,of_decide_eq_false B6.out,of_decide_eq_false B7.out⟩) K7)
 go_wp2
 go_end0
 exact HR.out
end Go.Proofs.YtabgoobcliijeaaGreatDoor
namespace Go.Proofs.YtabgoobcliijeaaGreatDoor
open Go.RowKit
theorem F9 {o:Int×Hd.Head}{n:Int}{h:Hd.Head}(e:o=(n,h)){w w':World}(hb:Below w.heap.size w w'):JI o w (.returned (.tuple #[.agg (headA h),.int .i64 n])) w':=by subst e;exact⟨rfl,hb⟩
theorem size_mk(l:List UInt8):(⟨l.toArray⟩:ByteArray).size=l.length:=by show(List.toArray _).size=_;simp
theorem ZP(l:List UInt8):(⟨l.toArray⟩:ByteArray).toList.isEmpty=decide (l= []):=by
 rw[Oct.SA]
 show List.isEmpty l=_
 cases l<;>rfl
theorem W8(s:ByteArray)(w:World)(hw:uB w)(hs:s.size<=maxLen):
  Calls Tryz.prog 87 #[.string s] w (JI (Hd.parse s.data.toList) w):=by
 have z0:=jG
 have HZ:Hid (∀h:Hd.Head,(headA h).size=11):=zA7 (fun h=>rfl)
 have AA:Hid (∀n h w',Hd.parse s.data.toList=(n,h)->Below w.heap.size w w'->JI (Hd.parse s.data.toList) w (.returned (.tuple #[.agg (headA h),.int .i64 n])) w'):=zA7 (fun n h w' e hb=>F9 e hb)
 generalize hpost:JI (Hd.parse s.data.toList) w=post at*
 clear hpost
 have HW:Hid (∀W,Below w.heap.size w W->uB W):=zA7 (fun W h=>hw.below h)
 have C1:=zA7 (fun W=>iAC s W hs)
 cases hbad:s.data.toList.any Hd.kD with
 |true=>
  have HQ:=zA7 (fun w'=>AA.out 81 Hd.zero w' (by unfold Hd.parse;rw[if_pos hbad]))
  rw[hbad]at C1
  clear hbad AA hs
  go_enter Tryz.func87,Tryz.ntmps87
  go_wp2_with fail
  have R0:=Row.new w 35 (headA Hd.zero)
  have B0:=(Below.refl w.heap.size w).alloc (zB3 _) (.cells (headA Hd.zero) 35)
  generalize w.alloc (.cells (headA Hd.zero) 35)=w0 at*
  refine(C1.out _).mono ?_
  rintro e v1 ⟨rfl,rfl⟩
  go_wp2_with (refine wpList_store_row rfl 35 _ _ rfl w.heap.size (headA Hd.zero) rfl rfl 35 _ R0 (by rw[HZ.out];exact WA) rfl (DC _) ?_)
  exact bodyPost_ret (v:= .tuple #[.agg (headA Hd.zero),.int .i64 81]) (DA rfl _ _ w.heap.size _ _ _ rfl _ rfl (R0.whole _) Tryz.underlying35 rfl (by rw[HZ.out];exact WA)) rfl (HQ.out _ (below_setRow B0 (zB3 _) _))
 |false=>
 have tL:Hd.parse s.data.toList=Hd.said (Oct.split 59 s.data.toList):=by unfold Hd.parse;rw[if_neg (by rw[hbad];simp)]
 rw[Hd.nAH]at tL
 rw[hbad]at C1
 have C2:=zA7 (fun W=>DT s 59 W hs)
 unfold kG at C2
 obtain⟨q1,q2⟩:=Hd.xZ s.data.toList
 rw[q1,q2]at C2
 have l1:=Hd.bAT s.data.toList
 have l2:=Hd.cAA s.data.toList
 have l3:=Hd.bAN (Hd.qE s.data.toList)
 rw[Oct.nA]at l1 l2
 obtain⟨p,hp⟩: ∃p:ByteArray,(⟨(Hd.qE s.data.toList).toArray⟩:ByteArray)=p:=⟨_,rfl⟩
 obtain⟨r,hr⟩: ∃p:ByteArray,(⟨(Hd.gF s.data.toList).toArray⟩:ByteArray)=p:=⟨_,rfl⟩
 have hp2:p.data.toList=Hd.qE s.data.toList:=by rw[<-hp]
 have hr2:r.data.toList=Hd.gF s.data.toList:=by rw[<-hr]
 rw[hp,hr]at C2
 rw[<-hp2]at l1 l3 tL
 rw[<-hr2]at l2 tL
 rw[Oct.nA]at l1 l2 l3
 have C3:=zA7 (fun W=>mAt p W (Nat.le_trans l1 hs))
 unfold jN at C3
 obtain⟨n,hn⟩: ∃p2:ByteArray,(⟨(Hd.pair p.data.toList).1.toArray⟩:ByteArray)=p2:=⟨_,rfl⟩
 obtain⟨v,hv⟩: ∃p2:ByteArray,(⟨(Hd.pair p.data.toList).2.toArray⟩:ByteArray)=p2:=⟨_,rfl⟩
 rw[hn,hv]at C3
 have hn1:n.toList.isEmpty=decide ((Hd.pair p.data.toList).1= []):=by rw[<-hn,ZP]
 have hv1:v.toList.isEmpty=decide ((Hd.pair p.data.toList).2= []):=by rw[<-hv,ZP]
 have hn2:n.size=(Hd.pair p.data.toList).1.length:=by rw[<-hn,size_mk]
 have hv2:v.size=(Hd.pair p.data.toList).2.length:=by rw[<-hv,size_mk]
 rw[<-hn2,<-hv2]at l3 tL
 have HZ2:Hid (((headA Hd.zero).setIfInBounds 0 (.string n)).setIfInBounds 1 (.string v)=headA (Hd.start p.data.toList)):=zA7 (by rw[<-hn,<-hv];rfl)
 clear hn hv hp hr hp2 hr2 hn2 hv2 q1 q2 hbad
 obtain⟨bn,hbn⟩: ∃b,decide ((Hd.pair p.data.toList).1= [])=b:=⟨_,rfl⟩
 obtain⟨bv,hbv⟩: ∃b,decide ((Hd.pair p.data.toList).2= [])=b:=⟨_,rfl⟩
 rw[hbn]at hn1
 rw[hbv]at hv1
 have HE:Hid (((bn&&bv)=true↔ ((Hd.pair p.data.toList).1= []/\(Hd.pair p.data.toList).2= []))):=zA7 (by rw[<-hbn,<-hbv,Bool.and_eq_true,decide_eq_true_iff,decide_eq_true_iff])
 clear hbn hbv
 have LF:=zA7 tL
 clear tL
 generalize hst:Hd.start p.data.toList=st at*
 clear hst
 have hsm:s.size<=9223372036854775807:=hs
 have HS:=zA7 hs
 clear hs
 go_enter Tryz.func87,Tryz.ntmps87
 go_wp2_with fail
 have R0:=Row.new w 35 (headA Hd.zero)
 have B0:=(Below.refl w.heap.size w).alloc (zB3 _) (.cells (headA Hd.zero) 35)
 generalize w.alloc (.cells (headA Hd.zero) 35)=w0 at*
 refine(C1.out _).mono ?_
 rintro e v1 ⟨rfl,rfl⟩
 go_wp2_with fail
 refine(C2.out _).mono ?_
 rintro e v2 ⟨rfl,d2⟩
 have R2:=R0.stays d2
 have B2:=B0.trans (d2.mono B0.size)
 clear R0 B0 d2
 go_wp2_with fail
 refine(C3.out _).mono ?_
 rintro e v3 ⟨rfl,d3⟩
 have R3:=R2.stays d3
 have B3:=B2.trans (d3.mono B2.size)
 clear R2 B2 d3
 go_upto_region 5 with fail
 go_cut [33] (fun sx wx=>sx= .bool (bn&&bv)/\v3=wx)
 case first=>
  cases bn with
  |false=>go_wp2;go_meet;exact⟨rfl,rfl⟩
  |true=>
  cases bv with
  |false=>go_wp2;go_meet;exact⟨rfl,rfl⟩
  |true=>go_wp2;go_meet;exact⟨rfl,rfl⟩
 case rest=>
 obtain⟨rfl,rfl⟩:=hcut
 cases hB:(bn&&bv)with
 |true=>
  have HQ:=zA7 (fun w'=>AA.out 82 Hd.zero w' (by rw[LF.out,if_pos (HE.out.1 hB)]))
  clear hB HE LF AA
  go_wp2_with (refine wpList_store_row rfl 35 _ _ rfl w.heap.size (headA Hd.zero) rfl rfl 35 _ R3 (by rw[HZ.out];exact WA) rfl (DC _) ?_)
  exact bodyPost_ret (v:= .tuple #[.agg (headA Hd.zero),.int .i64 82]) (DA rfl _ _ w.heap.size _ _ _ rfl _ rfl (R3.whole _) Tryz.underlying35 rfl (by rw[HZ.out];exact WA)) rfl (HQ.out _ (below_setRow B3 (zB3 _) _))
 |false=>
 have yF:=zA7 (LF.out.trans (if_neg (fun h=>by rw[HE.out.2 h]at hB;cases hB)))
 clear hB HE LF
 by_cases hlong:4096<n.size+v.size
 ·have HQ:=zA7 (fun w'=>AA.out 83 Hd.zero w' (by rw[yF.out,if_pos hlong]))
  have GU:(4096:Int)<(n.size:Int)+(v.size:Int):=by omega
  have hwr:IntKind.i64.wrap ((n.size:Int)+(v.size:Int))=(n.size:Int)+(v.size:Int):=by rw[IntKind.wrap_i64];omega
  clear yF AA
  go_wp2_with (refine wpList_store_row rfl 35 _ _ rfl w.heap.size (headA Hd.zero) rfl rfl 35 _ R3 (by rw[HZ.out];exact WA) rfl (DC _) ?_)
  exact bodyPost_ret (v:= .tuple #[.agg (headA Hd.zero),.int .i64 83]) (DA rfl _ _ w.heap.size _ _ _ rfl _ rfl (R3.whole _) Tryz.underlying35 rfl (by rw[HZ.out];exact WA)) rfl (HQ.out _ (below_setRow B3 (zB3 _) _))
 have DX:=zA7 (yF.out.trans (if_neg hlong))
 have GU: ¬(4096:Int)<(n.size:Int)+(v.size:Int):=by omega
 have hwr:IntKind.i64.wrap ((n.size:Int)+(v.size:Int))=(n.size:Int)+(v.size:Int):=by rw[IntKind.wrap_i64];omega
 have hrs:r.size<=s.size:=by omega
 have HQ:Hid (∀res w',(Oct.split 59 r.data.toList).foldl Hd.attr st=res->Below w.heap.size w w'->post (.returned (.tuple #[.agg (headA res),.int .i64 0])) w'):=zA7 (fun res w' e hb=>AA.out 0 res w' (by rw[DX.out,e]) hb)
 clear yF DX AA hlong C1 C2 C3 l1 l2 l3
 obtain⟨T0,U0,V0,W0⟩:=JA 35 (headA Hd.zero) (headA st) B3 B3.size
 have z2:=HZ2.out
 go_wp2_with (refine wpList_store_row rfl 35 _ _ rfl v3.heap.size (headA st) rfl rfl 35 _ T0 (by rw[HZ.out];exact WA) rfl (DC _) ?_)
 have R4:=W0 _ _ _ R3
 have hlt:=R3.lt
 have hgs:=B3.size
 generalize(v3.alloc (.cells (headA Hd.zero) 35)).setRow v3.heap.size (headA st)=v4 at*
 have K0:QB v3.heap.size st v4 v4:=⟨U0,Below.refl _ _⟩
 generalize v3.heap.size=g at*
 have B4:=V0
 clear T0 U0 W0 V0 z2 HZ2 R3 B3
 obtain⟨res,hres⟩: ∃res,(Oct.split 59 r.data.toList).foldl Hd.attr st=res:=⟨_,rfl⟩
 have ES:=zA7 hres
 have pC:=zA7 (fun w'=>HQ.out res w' hres)
 have HG:=zA7 hgs
 clear hres HQ hgs
 simp only[Act.put]
 go_loopw [5] (fun x wr=> ∃(u:ByteArray)(T:Hd.Head),x= .string u/\u.size<=s.size/\(Oct.split 59 u.data.toList).foldl Hd.attr T=res/\QB g T v4 wr) (fun x _=>match x with| .string u=>u.size|_=>0)
 case atStart=>exact⟨r,st,rfl,hrs,ES.out,K0⟩
 case round=>
  clear K0
  obtain⟨u,T,rfl,cC,hT,K⟩:=hrel
  have AG:u.size<=maxLen:=Nat.le_trans cC HS.out
  by_cases hu:u.size=0
  ·have hnil:u.data.toList= []:=(Oct.UC u).2 hu
   rw[hnil,Hd.zN]at hT
   have hne:u.toList.isEmpty=true:=by rw[Oct.SA,hnil];rfl
   subst hT
   have R5:=K.row
   have R6:=R4.below K.below hlt
   have B6:=B4.trans (K.below.mono HG.out)
   clear hnil AG
   go_wp2_with (first
    |(refine iA 65 rfl ?_;refine qA rfl 35 _ rfl g rfl R5 Tryz.underlying35 rfl (by rw[HZ.out];exact WA) ?_)
    |(refine wpList_store_row rfl 35 _ _ rfl w.heap.size (headA T) rfl rfl 35 _ R6 (by rw[HZ.out];exact WA) rfl (DC _) ?_))
   exact bodyPost_ret (v:= .tuple #[.agg (headA T),.int .i64 0]) (DA rfl _ _ w.heap.size _ _ _ rfl _ rfl (R6.whole _) Tryz.underlying35 rfl (by rw[HZ.out];exact WA)) rfl (pC.out _ (below_setRow B6 (zB3 _) _))
  ·have hne:u.toList.isEmpty=false:=by
    rw[Oct.SA,Bool.eq_false_iff]
    intro h
    exact hu ((Oct.UC u).1 (List.isEmpty_iff.1 h))
   have D1:=zA7 (fun W=>DT u 59 W AG)
   unfold kG at D1
   obtain⟨q1,q2⟩:=Hd.xZ u.data.toList
   rw[q1,q2]at D1
   have m1:=Hd.bAT u.data.toList
   have m2:=Hd.cAA u.data.toList
   have m3:=Hd.vY (Hd.qE u.data.toList)
   rw[Oct.nA]at m1 m2
   rw[Hd.hAP]at hT
   obtain⟨pc,hp⟩: ∃p:ByteArray,(⟨(Hd.qE u.data.toList).toArray⟩:ByteArray)=p:=⟨_,rfl⟩
   obtain⟨rc,hr⟩: ∃p:ByteArray,(⟨(Hd.gF u.data.toList).toArray⟩:ByteArray)=p:=⟨_,rfl⟩
   have hp2:pc.data.toList=Hd.qE u.data.toList:=by rw[<-hp]
   have hr2:rc.data.toList=Hd.gF u.data.toList:=by rw[<-hr]
   rw[hp,hr]at D1
   rw[<-hp2]at m1 m3 hT
   rw[<-hr2]at m2 hT
   rw[Oct.nA]at m1 m2 m3
   have D2:=zA7 (fun W=>uZ pc W (Nat.le_trans m1 AG))
   unfold rP at D2
   obtain⟨k,hk⟩: ∃p2:ByteArray,(⟨(Hd.ahead pc.data.toList).toArray⟩:ByteArray)=p2:=⟨_,rfl⟩
   obtain⟨v,hv⟩: ∃p2:ByteArray,(⟨(Hd.behind pc.data.toList).toArray⟩:ByteArray)=p2:=⟨_,rfl⟩
   have hk2:k.data.toList=Hd.ahead pc.data.toList:=by rw[<-hk]
   have hv2:v.data.toList=Hd.behind pc.data.toList:=by rw[<-hv]
   rw[hk,hv]at D2
   have hks:k.size<=maxLen:=by rw[<-Oct.nA,hk2];exact Nat.le_trans m3 (Nat.le_trans m1 AG)
   have hvs:v.size=(Hd.behind pc.data.toList).length:=by rw[<-Oct.nA,hv2]
   by_cases hlong:1024<v.size
   ·rw[Hd.FY T (by rw[<-hvs];exact hlong)]at hT
    have HT:=zA7 hT
    have hl1: ¬(v.size:Int)<=1024:=by omega
    clear hT hp hr hp2 hr2 hk hv hk2 hv2 hvs hks q1 q2 m3 AG
    go_wp2_with fail
    refine(D1.out _).mono ?_
    rintro e w5 ⟨rfl,d5⟩
    have K5:=K.on d5
    clear d5 K
    go_wp2_with fail
    refine(D2.out _).mono ?_
    rintro e w6 ⟨rfl,d6⟩
    have K6:=K5.on d6
    clear d6 K5
    go_wp2
    go_roundw
    case rel=>exact⟨rc,T,rfl,by omega,HT.out,K6⟩
    case measure=>simp;omega
   ·have D3:=zA7 (fun W hW hR=>oAA T k v g W hW hR hks (by omega))
    unfold tP at D3
    rw[Hd.GY,<-hk2,<-hv2]at hT
    have HT:=zA7 hT
    have hl1:(v.size:Int)<=1024:=by omega
    have HWg:Hid (∀W,Below g v4 W->uB W):=zA7 (fun W h=>HW.out W (B4.trans (h.mono HG.out)))
    clear hT hp hr hp2 hr2 hk hv hk2 hv2 hvs hks q1 q2 m3 AG
    generalize Hd.put T (k.data.toList.map Oct.low) v.data.toList=T2 at*
    go_wp2_with fail
    refine(D1.out _).mono ?_
    rintro e w5 ⟨rfl,d5⟩
    have K5:=K.on d5
    clear d5 K
    go_wp2_with fail
    refine(D2.out _).mono ?_
    rintro e w6 ⟨rfl,d6⟩
    have K6:=K5.on d6
    clear d6 K5
    go_wp2_with fail
    refine(D3.out _ (fun W hW=>HWg.out W (K6.below.trans hW)) K6.row).mono ?_
    rintro e w7 ⟨rfl,k7⟩
    have K7:QB g T2 v4 w7:=⟨k7.row,K6.below.trans k7.below⟩
    go_wp2
    go_roundw
    case rel=>exact⟨rc,T2,rfl,by omega,HT.out,K7⟩
    case measure=>simp;omega
end Go.Proofs.YtabgoobcliijeaaGreatDoor
