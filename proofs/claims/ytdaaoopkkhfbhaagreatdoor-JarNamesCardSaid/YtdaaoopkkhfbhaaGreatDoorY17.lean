/- The walk of the reference's Parse. -/
import Derived.Test.YtdaaoopkkhfbhaaGreatDoorY16
set_option maxHeartbeats 8000000
set_option maxRecDepth 100000
namespace Go.Proofs.YtdaaoopkkhfbhaaGreatDoor
open Go.RowKit
theorem aAZ {P:Program}{ops:Array Oper}{rest:List Oper}{o:Oper}{a:Act}{w:World}{Q:Exit->Act->World->Prop}(hg:o.guard=none)(t:TypeId)(i:Nat)(x:Operand)(ho:o.op= .build t #[(i,x)])(u:Value)(hx:a.eval x=u)(cells:Array Value)
  (hc:P.built t [(i,u)]=some cells)(h:wpList P ops Q rest (a.put o.dst (.agg cells)) w):wpList P ops Q (o::rest) a w:=by
 have e:((#[(i,x)]:Array (Nat×Operand)).map fun(i,x)=>(i,a.eval x)).toList= [(i,u)]:=by simp[hx]
 refine wpList_build hg t #[(i,x)] ho ?_ ?_
 ·rw[e,hc];rfl
 ·rw[e,hc];exact h
namespace Ur
def first(b:Bool):URL:=⟨b,bA.zero,usual b,[]⟩
theorem kAa {s:ByteArray}(h:(s.data.toList.take 7).map Oct.low=http):scheme s.data.toList=some (false,(s.extract 7 s.size).data.toList):=by
 unfold scheme
 rw[if_pos h,extract_drop]
theorem kAb {s:ByteArray}(h7:(s.data.toList.take 7).map Oct.low≠http)(h:(s.data.toList.take 8).map Oct.low=https):scheme s.data.toList=some (true,(s.extract 8 s.size).data.toList):=by
 unfold scheme
 rw[if_neg h7,if_pos h,extract_drop]
theorem kAd {s:ByteArray}(h7:(s.data.toList.take 7).map Oct.low≠http)(h8:(s.data.toList.take 8).map Oct.low≠https):scheme s.data.toList=none:=by
 unfold scheme
 rw[if_neg h7,if_neg h8]
theorem sZ {s:ByteArray}(h: ¬7<=s.size):(s.data.toList.take 7).map Oct.low≠http:=by
 intro e
 have:=congrArg List.length e
 rw[List.length_map,List.length_take,Oct.oA]at this
 have e7:http.length=7:=rfl
 omega
theorem kAs {s:ByteArray}(h: ¬8<=s.size):(s.data.toList.take 8).map Oct.low≠https:=by
 intro e
 have:=congrArg List.length e
 rw[List.length_map,List.length_take,Oct.oA]at this
 have e8:https.length=8:=rfl
 omega
end Ur
theorem nX(s:ByteArray)(k:Nat)(l:List UInt8)(hs:s.size<=1048576): ∃x:ByteArray,(∀W,Calls Tryz.prog 62 #[.string (s.extract 0 k)] W fun e w'=>e= .returned (.string x)/\Below W.heap.size W w')/\(x.toList==l)=decide ((s.data.toList.take k).map Oct.low=l):=by
 refine⟨⟨((s.data.toList.take k).map Oct.low).toArray⟩,fun W=>?_,?_⟩
 ·have h:=WY (s.extract 0 k) W (by rw[ByteArray.size_extract];omega)
  have e:(s.extract 0 k).data.toList=s.data.toList.take k:=by rw[vH]
  rw[e]at h
  exact h
 ·rw[Oct.aB,Bool.eq_iff_iff]
  simp
theorem jAq(s:ByteArray)(w:World)(hs:s.size<=1048576):
  Calls Tryz.prog 32 #[.string s] w (ML (Ur.parse s.data.toList) w):=by
 have z0:=kS
 have z1:=WD
 have HZ:=zA7 (show(nA Ur.zero).size=21 from rfl)
 have HB0:Hid (Tryz.prog.built 34 [(2,.int .i64 80)]=some (nA (Ur.first false))):=zA7 (by kernel_rfl)
 have qI:=zA7 (show(nA (Ur.first false)).size=21 from rfl)
 obtain⟨x7,xL,hx7⟩:=nX s 7 [104,116,116,112,58,47,47] hs
 obtain⟨x8,MJ,yW⟩:=nX s 8 [104,116,116,112,115,58,47,47] hs
 have xL:=zA7 xL
 have MJ:=zA7 MJ
 have hl:=Oct.oA s
 have GA:Hid (∀o w',Ur.parse s.data.toList=o->Below w.heap.size w w'->ML (Ur.parse s.data.toList) w (.returned (.tuple #[.agg (nA o.2),.int .i64 o.1])) w'):=zA7 (fun o w' h hb=>by subst h;exact⟨rfl,hb⟩)
 generalize ML (Ur.parse s.data.toList) w=post at*
 obtain⟨b7,CH⟩: ∃b,decide ((s.data.toList.take 7).map Oct.low= [104,116,116,112,58,47,47])=b:=⟨_,rfl⟩
 obtain⟨b8,XP⟩: ∃b,decide ((s.data.toList.take 8).map Oct.low= [104,116,116,112,115,58,47,47])=b:=⟨_,rfl⟩
 rw[CH]at hx7
 rw[XP]at yW
 have EJ:=zA7 CH
 have rL:=zA7 XP
 clear CH XP
 have hne:w.heap.size≠w.heap.size+1:=by omega
 have hN:(w.alloc (.cells (nA Ur.zero) 34)).heap.size=w.heap.size+1:=by simp
 have K0:UB w.heap.size (w.heap.size+1) Ur.zero w ((w.alloc (.cells (nA Ur.zero) 34)).alloc (.cells (nA Ur.zero) 34)):=
  ⟨(Row.new w 34 (nA Ur.zero)).alloc _,by have:=Row.new (w.alloc (.cells (nA Ur.zero) 34)) 34 (nA Ur.zero);rw[hN]at this;exact this,hne,by omega,
    ((Below.refl w.heap.size w).alloc (zB3 _) _).alloc (by omega) _⟩
 have jT:=zA7 K0.var
 have K1:=K0.whole (Ur.first false)
 clear K0
 go_enter Tryz.func32,Tryz.ntmps32
 go_upto_region 3 with(first
  |(refine jA 14 rfl ?_;refine aAZ rfl 34 2 _ rfl _ rfl (nA (Ur.first false)) HB0.out ?_)
  |(refine wpList_store_row rfl 34 _ _ rfl (w.heap.size+1) (nA (Ur.first false)) rfl rfl 34 _ jT.out (by rw[qI.out];exact DB) rfl (KE _) ?_))
 generalize((w.alloc (.cells (nA Ur.zero) 34)).alloc (.cells (nA Ur.zero) 34)).setRow (w.heap.size+1) (nA (Ur.first false))=w1 at*
 clear jT
 go_cut [23] (fun s23 wx=>s23= .bool b7/\UB w.heap.size (w.heap.size+1) (Ur.first false) w wx)
 case first=>
  by_cases h7:7<=s.size
  ·have KV:(7:Int)<=(s.size:Int):=by omega
   go_wp2_with (go_at_call 62;refine(xL.out _).mono ?_;rintro e v2 ⟨rfl,d2⟩)
   go_meet
   exact⟨rfl,K1.on d2⟩
  ·have KV: ¬(7:Int)<=(s.size:Int):=by omega
   have hb:b7=false:=by rw[<-EJ.out];exact zA8 (Ur.sZ h7)
   go_wp2
   go_meet
   exact⟨by rw[hb],K1⟩
 case rest=>
 obtain⟨rfl,K2⟩:=hcut
 clear K1
 go_upto_if 23 with fail
 go_cut [5] (fun s5 wx=> ∃(b:Bool)(r:ByteArray),s5= .string r/\Hid (Ur.scheme s.data.toList=some (b,r.data.toList))/\UB w.heap.size (w.heap.size+1) (Ur.first b) w wx)
 case first=>
  cases b7 with
  |true=>
   have h7:7<=s.size:=Nat.le_of_not_lt fun k=>by
    have:=Ur.sZ (s:=s) (by omega)
    exact this (zB1 EJ.out)
   have KV:(7:Int)<=(s.size:Int):=by omega
   go_wp2
   go_meet
   exact⟨false,_,rfl,zA7 (Ur.kAa (zB1 EJ.out)),K2⟩
  |false=>
   have n7:=zA7 (of_decide_eq_false EJ.out)
   cases b8 with
   |true=>
    have h8:8<=s.size:=Nat.le_of_not_lt fun k=>by
     have:=Ur.kAs (s:=s) (by omega)
     exact this (zB1 rL.out)
    have LV:(8:Int)<=(s.size:Int):=by omega
    go_wp2_with fail
    refine(MJ.out _).mono ?_
    rintro e v2 ⟨rfl,d2⟩
    have K3:=K2.on d2
    have c0:=K3.cell 0
    have f0:=K3.free 0
    have c19:=K3.cell 19
    have f19:=K3.free 19
    rw[lAY]at c0
    rw[UR _ rfl]at c19
    have K4:=(K3.put (u':= {Ur.first false with secure:=true}) (mA0 _ true)).put (u':=Ur.first true) (I3 _ rfl 443)
    clear K2 d2
    go_wp2
    go_meet
    exact⟨true,_,rfl,zA7 (Ur.kAb n7.out (zB1 rL.out)),K4⟩
   |false=>
    have n8:=zA7 (of_decide_eq_false rL.out)
    have HN:Hid (Ur.parse s.data.toList=(41,Ur.zero)):=zA7 (Ur.iAf (Ur.kAd n7.out n8.out)).1
    by_cases h8:8<=s.size
    ·have LV:(8:Int)<=(s.size:Int):=by omega
     go_wp2_with fail
     refine(MJ.out _).mono ?_
     rintro e v2 ⟨rfl,d2⟩
     have Kx:=K2.on d2
     go_wp2_with (first
      |(refine wpList_store_row rfl 34 _ _ rfl w.heap.size (nA Ur.zero) rfl rfl 34 _ Kx.res (by rw[HZ.out];exact DB) rfl (KE _) ?_))
     exact bodyPost_ret (v:= .tuple #[.agg (nA Ur.zero),.int .i64 41]) (yA rfl _ _ w.heap.size _ _ _ rfl _ rfl (Kx.res.whole _) Tryz.underlying34 rfl (by rw[HZ.out];exact DB)) rfl (GA.out (41,Ur.zero) _ HN.out (below_setRow Kx.below (zB3 _) _))
    ·have LV: ¬(8:Int)<=(s.size:Int):=by omega
     have Kx:=K2
     go_wp2_with (first
      |(refine wpList_store_row rfl 34 _ _ rfl w.heap.size (nA Ur.zero) rfl rfl 34 _ Kx.res (by rw[HZ.out];exact DB) rfl (KE _) ?_))
     exact bodyPost_ret (v:= .tuple #[.agg (nA Ur.zero),.int .i64 41]) (yA rfl _ _ w.heap.size _ _ _ rfl _ rfl (Kx.res.whole _) Tryz.underlying34 rfl (by rw[HZ.out];exact DB)) rfl (GA.out (41,Ur.zero) _ HN.out (below_setRow Kx.below (zB3 _) _))
 case rest=>
 obtain⟨b,r,rfl,HS,K3⟩:=hcut
 obtain⟨p1,_,_,_⟩:=Ur.iAg HS.out
 have hrl:=Ur.kAc HS.out
 rw[hl,Oct.oA]at hrl
 have HP:=zA7 p1
 clear K2 xL MJ hx7 yW EJ rL hl HB0 qI p1 HS hN
 obtain⟨rest,hrest⟩: ∃l,r.data.toList=l:=⟨_,rfl⟩
 rw[hrest]at HP
 have sF:=fun W=>nM r ⟨#[47,63,35]⟩ W (by unfold maxLen;omega) (by show 3<=1000;omega)
 have e1:(⟨#[47,63,35]⟩:ByteArray).data.toList= [47,63,35]:=rfl
 rw[e1,hrest]at sF
 have hn1:=Ur.KI rest [47,63,35]
 rw[<-hrest,Oct.oA,hrest]at hn1
 have OF:(r.extract 0 (Ur.find rest [47,63,35])).data.toList=Ur.place rest:=by rw[vH,hrest];rfl
 have YP:(r.extract (Ur.find rest [47,63,35]) r.size).data.toList=Ur.behind rest:=by rw[extract_drop,hrest];rfl
 generalize Ur.find rest [47,63,35]=n1 at*
 obtain⟨pl,hpl⟩: ∃x,r.extract 0 n1=x:=⟨_,rfl⟩
 obtain⟨bh,aW⟩: ∃x,r.extract n1 r.size=x:=⟨_,rfl⟩
 rw[hpl]at OF
 rw[aW]at YP
 have nAp:(n1:Int)<=(r.size:Int):=by omega
 have nAs:pl.size<=1048576:=by rw[<-hpl,ByteArray.size_extract];omega
 have nAh:bh.size<=1048576:=by rw[<-aW,ByteArray.size_extract];omega
 obtain⟨P,hP⟩: ∃l,Ur.place rest=l:=⟨_,rfl⟩
 obtain⟨path,iF⟩: ∃l,Ur.pathOf rest=l:=⟨_,rfl⟩
 rw[hP,iF]at HP
 rw[hP]at OF
 have cH:=fun W=>nM pl ⟨#[58]⟩ W (by unfold maxLen;omega) (by show 1<=1000;omega)
 have e2:(⟨#[58]⟩:ByteArray).data.toList= [58]:=rfl
 rw[e2,OF]at cH
 have JJ:=fun W=>nM pl ⟨#[93]⟩ W (by unfold maxLen;omega) (by show 1<=1000;omega)
 have e3:(⟨#[93]⟩:ByteArray).data.toList= [93]:=rfl
 rw[e3,OF]at JJ
 have QV:P.length=pl.size:=by rw[<-OF,Oct.oA]
 have hend:Ur.jB P<=pl.size:=by
  unfold Ur.jB
  have h1:=Ur.KI P [58]
  split
  ·omega
  ·omega
 have rS:Hid (P.head?=some 91->Ur.jB P=min (Ur.find P [93]+1) pl.size):=zA7 (fun h=>by unfold Ur.jB;rw[if_pos h,QV])
 have sS:Hid (P.head?≠some 91->Ur.jB P=Ur.find P [58]):=zA7 (fun h=>Ur.cAN h)
 have DM:=Ur.KI P [93]
 rw[QV]at DM
 have hhead: ∀h:0<pl.size,P.head?=some 91↔ ((pl[0].toNat:Int)==91)=true:=fun h=>by
  rw[<-OF,Oct.NF pl h,beq_iff_eq,Option.some.injEq]
  exact⟨fun e=>by rw[e];rfl,fun e=>Oct.TB (by show _=91;omega)⟩
 have hnone: ¬0<pl.size->P.head?≠some 91:=fun h e=>by
  have:P= []:=by rw[<-OF,Oct.lD];omega
  rw[this]at e;cases e
 obtain⟨q,hq⟩: ∃q,decide (P.head?=some 91)=q:=⟨_,rfl⟩
 have wS:=zA7 hhead
 have IS:=zA7 hnone
 have HQ:=zA7 hq
 have hex: ∀e:Nat,(pl.extract 0 e).data.toList=P.take e/\(pl.extract e pl.size).data.toList=P.drop e:=fun e=>by
  rw[vH,extract_drop,OF];exact⟨rfl,rfl⟩
 have tS:=zA7 hex
 have sF:=zA7 sF
 have cH:=zA7 cH
 have JJ:=zA7 JJ
 have FJ:=zA7 YP
 have PS:=zA7 iF
 clear hrest e1 e2 e3 hP OF YP hhead hnone hq hex iF hrl
 generalize Ur.find P [93]=n3 at*
 generalize Ur.find P [58]=n2 at*
 go_upto_region 13 with(first
  |(go_at_call 63; (with_reducible refine(sF.out _).mono ?_);rintro e v1 ⟨rfl,d1⟩;have K4:=K3.on (d1.below _))
  |(go_at_call 63; (with_reducible refine(cH.out _).mono ?_);rintro e v2 ⟨rfl,d2⟩;have K5:=K4.on (d2.below _)))
 clear K3 K4 d1 d2
 go_cut [54] (fun s54 wx=>s54= .bool q/\UB w.heap.size (w.heap.size+1) (Ur.first b) w wx)
 case first=>
  by_cases hp:0<pl.size
  ·have hpi:(0:Int)<(pl.size:Int):=by omega
   have hq:((pl[0].toNat:Int)==91)=q:=by
    rw[<-HQ.out,Bool.eq_iff_iff,decide_eq_true_eq,wS.out hp]
   go_wp2
   go_meet
   exact⟨rfl,K5⟩
  ·have hpi: ¬(0:Int)<(pl.size:Int):=by omega
   have hq:q=false:=by rw[<-HQ.out];exact zA8 (IS.out hp)
   go_wp2
   go_meet
   exact⟨by rw[hq],K5⟩
 case rest=>
 obtain⟨rfl,K6⟩:=hcut
 clear K5
 go_upto_if 54 with fail
 go_cut [8] (fun s8 wx=>s8= .int .i64 ((Ur.jB P:Nat):Int)/\UB w.heap.size (w.heap.size+1) (Ur.first b) w wx)
 case first=>
  cases q with
  |true=>
   have he:=rS.out (zB1 HQ.out)
   go_wp2_with fail
   refine(JJ.out _).mono ?_
   rintro e v3 ⟨rfl,d3⟩
   have K7:=K6.on (d3.below _)
   go_wp2
   all_goals
    go_meet
    exact⟨dB (by rw[he];omega),K7⟩
  |false=>
   have he:=sS.out (of_decide_eq_false HQ.out)
   go_wp2
   go_meet
   exact⟨dB (by rw[he]),K6⟩
 case rest=>
 obtain⟨rfl,K7⟩:=hcut
 clear K6 rS sS wS IS HQ sF cH JJ
 have G1:=fun h=>Ur.dAN (b:=b) (pl:=P) (p:=path) h
 have G2:=Ur.dAR (b:=b) (pl:=P) (p:=path)
 have G3:=fun x=>Ur.dAQ (b:=b) (pl:=P) (p:=path) (x:=x)
 have G4:=fun x=>Ur.dAS (b:=b) (pl:=P) (p:=path) (x:=x)
 have G5:=fun x=>Ur.dAP (b:=b) (pl:=P) (p:=path) (x:=x)
 obtain⟨x1,x2⟩:=tS.out (Ur.jB P)
 have hx:=bA.XH (P.take (Ur.jB P))
 generalize Ur.jB P=k at*
 have hki:(k:Int)<=(pl.size:Int):=by omega
 obtain⟨nm,hnm⟩: ∃x,pl.extract 0 k=x:=⟨_,rfl⟩
 obtain⟨b2,hb2⟩: ∃x,pl.extract k pl.size=x:=⟨_,rfl⟩
 rw[hnm]at x1
 rw[hb2]at x2
 have eAV:nm.size<=1048576:=by rw[<-hnm,ByteArray.size_extract];omega
 have nAg:b2.size<=1048576:=by rw[<-hb2,ByteArray.size_extract];omega
 have H4:=fun W=>(jAn nm W eAV).mono fun e w' h=>dJ h
 rw[x1]at H4
 rw[<-x2]at G2 G3 G4 G5
 clear x1 x2 tS
 generalize Ur.go b P path=res at*
 cases ho:bA.parse (P.take k)with
 |none=>
  rw[ho]at H4
  have e1:bA.host none=bA.zero:=rfl
  have e3:bA.code none=31:=rfl
  rw[e1,e3]at H4
  have H4:=zA7 H4
  have HN:Hid (Ur.parse s.data.toList=(31,Ur.zero)):=zA7 (by rw[HP.out];exact G1 ho)
  have HX:=zA7 (show(cA bA.zero).size=18 from rfl)
  clear G1 G2 G3 G4 G5 ho hx e1 e3
  go_wp2_with fail
  refine(H4.out _).mono ?_
  rintro e v4 ⟨rfl,d4⟩
  have K8:=K7.on d4
  obtain⟨T,_,_,_⟩:=PA 32 (cA bA.zero) (cA bA.zero) K8.below K8.below.size
  have K9:=K8.lay 32 (cA bA.zero) (cA bA.zero)
  clear K7 K8 d4
  go_wp2_with (first
   |(refine wpList_store_row rfl 32 _ _ rfl v4.heap.size (cA bA.zero) rfl rfl 32 _ T (by rw[HX.out];exact mA) rfl (bB _) ?_)
   |(refine wpList_store_row rfl 34 _ _ rfl w.heap.size (nA Ur.zero) rfl rfl 34 _ K9.res (by rw[HZ.out];exact DB) rfl (KE _) ?_))
  exact bodyPost_ret (v:= .tuple #[.agg (nA Ur.zero),.int .i64 31]) (yA rfl _ _ w.heap.size _ _ _ rfl _ rfl (K9.res.whole _) Tryz.underlying34 rfl (by rw[HZ.out];exact DB)) rfl (GA.out _ _ HN.out (below_setRow K9.below (zB3 _) _))
 |some h=>
  rw[ho]at H4 hx
  have e1:bA.host (some h)=h:=rfl
  have e3:bA.code (some h)=0:=rfl
  rw[e1,e3]at H4
  rw[e1]at hx
  have H4:=zA7 H4
  have G3:=zA7 (G3 h ho)
  have G4:=zA7 (G4 h ho)
  have G5:=zA7 (G5 h ho)
  have G2:=zA7 G2
  have HX:=zA7 (XA h hx)
  have lB:=zA7 (bB h)
  have dT:=zA7 (lAZ (Ur.first b) rfl h hx)
  have VJ:=zA7 (show(nA (Ur.first b)).size=21 from rfl)
  clear G1 ho e1 e3
  generalize hX:cA h=X at*
  go_wp2_with fail
  refine(H4.out _).mono ?_
  rintro e v4 ⟨rfl,d4⟩
  have K8:=K7.on d4
  obtain⟨T,U,_,_⟩:=PA 32 (cA bA.zero) X K8.below K8.below.size
  have K9:=K8.lay 32 (cA bA.zero) X
  clear K7 K8 d4
  go_upto_region 17 with(first
   |(refine wpList_store_row rfl 32 _ _ rfl v4.heap.size X rfl rfl 32 _ T (by rw[HX.out];exact mA) (by rw[HX.out];rfl) lB.out ?_))
  generalize(v4.alloc (.cells (cA bA.zero) 32)).setRow v4.heap.size X=v5 at*
  generalize v4.heap.size=g4 at*
  clear T
  obtain⟨st,hst⟩: ∃st,Ur.gI b2.data.toList=st:=⟨_,rfl⟩
  rw[hst]at G2 G3 G4 G5
  have oQ:=hst
  rw[Ur.kAO]at oQ
  have HST:=zA7 oQ
  have HB2:Hid (∀h:0<b2.size,(b2.data.toList.head?=some 58↔ ((b2[0].toNat:Int) !=58)=false)):=zA7 (fun h=>by
   rw[Oct.NF b2 h,Option.some.injEq,bne_eq_false_iff_eq]
   exact⟨fun e=>by rw[e];rfl,fun e=>Oct.TB (by show _=58;omega)⟩)
  clear hst oQ
  go_cut [82] (fun s82 wx=>s82= .bool st/\wx=v5)
  case first=>
   by_cases hp:0<b2.size
   ·have hpi:(0:Int)<(b2.size:Int):=by omega
    have hne2:b2.data.toList≠ []:=fun e=>by have:=(Oct.lD b2).1 e;omega
    have hq:((b2[0].toNat:Int) !=58)=st:=by
     rw[<-HST.out,zA8 hne2,Bool.not_false,Bool.true_and]
     have:=HB2.out hp
     cases hh:((b2[0].toNat:Int) !=58)with
     |false=>rw[zA9 (this.2 hh)];rfl
     |true=>rw[zA8 (fun e=>by rw[this.1 e]at hh;cases hh)];rfl
    go_wp2
    go_meet
    exact⟨rfl,rfl⟩
   ·have hpi: ¬(0:Int)<(b2.size:Int):=by omega
    have hq:st=false:=by
     rw[<-HST.out,zA9 ((Oct.lD b2).2 (by omega))];rfl
    go_wp2
    go_meet
    exact⟨by rw[hq],rfl⟩
  case rest=>
  obtain⟨rfl,rfl⟩:=hcut
  cases st with
  |true=>
   have HN:Hid (Ur.parse s.data.toList=(31,Ur.zero)):=zA7 (by rw[HP.out];exact G2.out (by trivial))
   go_wp2_with (first
    |(refine wpList_store_row rfl 34 _ _ rfl w.heap.size (nA Ur.zero) rfl rfl 34 _ K9.res (by rw[HZ.out];exact DB) rfl (KE _) ?_))
   exact bodyPost_ret (v:= .tuple #[.agg (nA Ur.zero),.int .i64 31]) (yA rfl _ _ w.heap.size _ _ _ rfl _ rfl (K9.res.whole _) Tryz.underlying34 rfl (by rw[HZ.out];exact DB)) rfl (GA.out _ _ HN.out (below_setRow K9.below (zB3 _) _))
  |false=>
   have nC:=K9.whole {Ur.first b with host:=h}
   have HV:=zA7 K9.var
   go_upto_if 88 with(first
    |(refine jA 84 rfl ?_;refine pA rfl 32 _ rfl g4 rfl U Tryz.underlying32 rfl (by rw[HX.out];exact mA) ?_)
    |(refine EZ rfl 32 _ _ rfl (w.heap.size+1) 1 X rfl rfl 34 _ HV.out (by rw[HX.out];exact mA) (by rw[HX.out,VJ.out];decide) lB.out _ dT.out ?_))
   generalize wc.setRow (w.heap.size+1) (nA {Ur.first b with host:=h})=v6 at*
   have ea:({Ur.first b with host:=h} :Ur.URL)=⟨b,h,Ur.usual b,[]⟩:=rfl
   rw[ea]at nC
   clear HV U K9 ea dT VJ HX lB hX
   obtain⟨po,hpo⟩: ∃po,Ur.SD b b2.data.toList=po:=⟨_,rfl⟩
   rw[hpo]at G3 G4 G5
   have sG:=fun W=>XY (b2.extract 1 b2.size) W (by unfold maxLen;rw[ByteArray.size_extract];omega)
   have et:(b2.extract 1 b2.size).data.toList=b2.data.toList.tail:=by rw[extract_drop,List.drop_one]
   rw[et]at sG
   have sG:=zA7 sG
   have EO:Hid (b2.data.toList.head?=some 58->po=if Oct.isNum b2.data.toList.tail=true/\1<=Oct.number b2.data.toList.tail/\Oct.number b2.data.toList.tail<=65535 then some (Oct.number b2.data.toList.tail:Int)else none):=zA7 (fun hh=>by rw[<-hpo];exact Ur.iAE b hh)
   have DO:Hid (b2.data.toList= []->po=some (Ur.usual b)):=zA7 (fun hh=>by rw[<-hpo];exact Ur.iAF b hh)
   clear hpo et
   go_cut [] (fun wx=> ∃n:Int,Hid (po=some n)/\UB w.heap.size (w.heap.size+1) ⟨b,h,n,[]⟩ w wx)
   case first=>
    by_cases hp:0<b2.size
    ·have hpi:(0:Int)<(b2.size:Int):=by omega
     have hp1:(1:Int)<=(b2.size:Int):=by omega
     have hne2:b2.data.toList≠ []:=fun e=>by have:=(Oct.lD b2).1 e;omega
     have hh:b2.data.toList.head?=some 58:=by
      have:=HST.out
      rw[zA8 hne2,Bool.not_false,Bool.true_and,Bool.not_eq_false',decide_eq_true_eq]at this
      exact this
     have MS:=zA7 (EO.out hh)
     clear hh hne2 EO DO HB2 HST
     generalize Oct.number b2.data.toList.tail=n at*
     generalize Oct.isNum b2.data.toList.tail=ok at*
     by_cases hin:ok=true/\1<=n/\n<=65535
     ·have iH:Hid (po=some (n:Int)):=zA7 (by rw[MS.out,if_pos hin])
      obtain⟨rfl,h1,h2⟩:=hin
      have k1: ¬(n:Int)<1:=by omega
      have k2: ¬(65535:Int)<(n:Int):=by omega
      have c19:=nC.cell 19
      have f19:=nC.free 19
      rw[UR _ hx]at c19
      have xF:=nC.put (u':=⟨b,h,(n:Int),[]⟩) (I3 _ hx (n:Int))
      go_wp2_with (go_at_call 65;refine(sG.out _).mono ?_;rintro e v7 ⟨rfl,rfl⟩)
      go_meet
      exact⟨_,iH,xF⟩
     ·have HN:Hid (Ur.parse s.data.toList=(42,Ur.zero)):=zA7 (by rw[HP.out];exact G3.out (by trivial) (by rw[MS.out,if_neg hin];rfl))
      cases ok with
      |false=>
       clear hin
       go_wp2_with (first
        |(go_at_call 65;refine(sG.out _).mono ?_;rintro e v7 ⟨rfl,rfl⟩)
        |(refine wpList_store_row rfl 34 _ _ rfl w.heap.size (nA Ur.zero) rfl rfl 34 _ nC.res (by rw[HZ.out];exact DB) rfl (KE _) ?_))
       exact bodyPost_ret (v:= .tuple #[.agg (nA Ur.zero),.int .i64 42]) (yA rfl _ _ w.heap.size _ _ _ rfl _ rfl (nC.res.whole _) Tryz.underlying34 rfl (by rw[HZ.out];exact DB)) rfl (GA.out _ _ HN.out (below_setRow nC.below (zB3 _) _))
      |true=>
       by_cases h1:n<1
       ·have k1:(n:Int)<1:=by omega
        clear hin h1
        go_wp2_with (first
         |(go_at_call 65;refine(sG.out _).mono ?_;rintro e v7 ⟨rfl,rfl⟩)
         |(refine wpList_store_row rfl 34 _ _ rfl w.heap.size (nA Ur.zero) rfl rfl 34 _ nC.res (by rw[HZ.out];exact DB) rfl (KE _) ?_))
        exact bodyPost_ret (v:= .tuple #[.agg (nA Ur.zero),.int .i64 42]) (yA rfl _ _ w.heap.size _ _ _ rfl _ rfl (nC.res.whole _) Tryz.underlying34 rfl (by rw[HZ.out];exact DB)) rfl (GA.out _ _ HN.out (below_setRow nC.below (zB3 _) _))
       ·have k1: ¬(n:Int)<1:=by omega
        have k2:(65535:Int)<(n:Int):=by have: ¬n<=65535:=fun k=>hin ⟨rfl,by omega,k⟩;omega
        clear hin h1
        go_wp2_with (first
         |(go_at_call 65;refine(sG.out _).mono ?_;rintro e v7 ⟨rfl,rfl⟩)
         |(refine wpList_store_row rfl 34 _ _ rfl w.heap.size (nA Ur.zero) rfl rfl 34 _ nC.res (by rw[HZ.out];exact DB) rfl (KE _) ?_))
        exact bodyPost_ret (v:= .tuple #[.agg (nA Ur.zero),.int .i64 42]) (yA rfl _ _ w.heap.size _ _ _ rfl _ rfl (nC.res.whole _) Tryz.underlying34 rfl (by rw[HZ.out];exact DB)) rfl (GA.out _ _ HN.out (below_setRow nC.below (zB3 _) _))
    ·have hpi: ¬(0:Int)<(b2.size:Int):=by omega
     have iH:Hid (po=some (Ur.usual b)):=zA7 (DO.out ((Oct.lD b2).2 (by omega)))
     go_wp2
     go_meet
     exact⟨_,iH,nC⟩
   case rest=>
   obtain⟨n,iH,xF⟩:=hcut
   clear nC sG EO DO HB2 HST G3
   have KJ:=fun W=>nM bh ⟨#[63,35]⟩ W (by unfold maxLen;omega) (by show 2<=1000;omega)
   have e4:(⟨#[63,35]⟩:ByteArray).data.toList= [63,35]:=rfl
   rw[e4,FJ.out]at KJ
   have PI:=Ur.KI (Ur.behind rest) [63,35]
   rw[<-FJ.out,Oct.oA,FJ.out]at PI
   have hraw:(bh.extract 0 (Ur.find (Ur.behind rest) [63,35])).data.toList=Ur.raw rest:=by rw[vH,FJ.out];rfl
   generalize Ur.find (Ur.behind rest) [63,35]=n4 at*
   obtain⟨TD,hrw⟩: ∃x,bh.extract 0 n4=x:=⟨_,rfl⟩
   rw[hrw]at hraw
   have nAq:(n4:Int)<=(bh.size:Int):=by omega
   have nAu:TD.size<=1048576:=by rw[<-hrw,ByteArray.size_extract];omega
   have GO:Hid (path=if TD.data.toList= []then [47]else TD.data.toList):=zA7 (by rw[hraw,<-PS.out];rfl)
   have KJ:=zA7 KJ
   clear e4 hraw FJ PS
   have c20:=xF.cell 20
   have f20:=xF.free 20
   rw[yJ _ hx]at c20
   have UE:=xF.put (u':=⟨b,h,n,bh.data.toList⟩) (VR _ hx bh)
   go_upto_region 26 with fail
   clear c20 f20 xF
   generalize World.setCell _ _ _=v8 at*
   have c20:=UE.cell 20
   have f20:=UE.free 20
   rw[yJ _ hx,show gA bh.data.toList= .string bh by unfold gA;rw[DE]]at c20
   go_cut [] (fun wx=>UB w.heap.size (w.heap.size+1) ⟨b,h,n,TD.data.toList⟩ w wx)
   case first=>
    go_region_with (go_at_call 63;refine(KJ.out _).mono ?_;rintro e v9 ⟨rfl,⟨nn,rfl⟩⟩)
    all_goals
     go_wp2_with fail
     go_meet
     exact(UE.on (below_draws _ _ _)).put (u':=⟨b,h,n,TD.data.toList⟩) (VR _ hx TD)
   case rest=>
   have XD:=hcut
   clear hcut UE c20 f20 KJ
   have c20:=XD.cell 20
   have f20:=XD.free 20
   rw[yJ _ hx,show gA TD.data.toList= .string TD by unfold gA;rw[DE]]at c20
   obtain⟨q2,hq2⟩: ∃q,TD.toList.isEmpty=q:=⟨_,rfl⟩
   have kD:Hid (TD.data.toList= []↔q2=true):=zA7 (by
    rw[<-hq2,Oct.aB]
    cases TD.data.toList<;>simp)
   go_upto_if 121 with fail
   go_cut [] (fun wx=> ∃pb:ByteArray,Hid (pb.data.toList=path)/\pb.size<=1048577/\UB w.heap.size (w.heap.size+1) ⟨b,h,n,path⟩ w wx)
   case first=>
    cases q2 with
    |true=>
     have QE:Hid (path= [47]):=zA7 (by rw[GO.out,if_pos (kD.out.2 rfl)])
     have K14:=XD.put (u':=⟨b,h,n,[47]⟩) (VR _ hx ⟨#[47]⟩)
     go_wp2
     go_meet
     exact⟨⟨#[47]⟩,zA7 QE.out.symm,by decide,by rw[QE.out];exact K14⟩
    |false=>
     have QE:Hid (path=TD.data.toList):=zA7 (by rw[GO.out,if_neg (fun k=>by have:=kD.out.1 k;cases this)])
     go_wp2
     go_meet
     exact⟨TD,zA7 QE.out.symm,by omega,by rw[QE.out];exact XD⟩
   case rest=>
   obtain⟨pb,gH,nAr,AD⟩:=hcut
   clear XD c20 f20 kD hq2 GO
   have c20:=AD.cell 20
   have hsv:gA path= .string pb:=by unfold gA;rw[<-gH.out,DE]
   rw[yJ _ hx,hsv]at c20
   have H9:=fun W=>jAp pb W (by unfold maxLen;omega)
   rw[gH.out]at H9
   have HV:=zA7 AD.var
   have JL:=zA7 (VG ⟨b,h,n,path⟩ hx)
   cases hok:Ur.cC path with
   |true=>
    rw[hok]at H9
    have H9:=zA7 H9
    have HN:Hid (Ur.parse s.data.toList=(0,⟨b,h,n,path⟩)):=zA7 (by rw[HP.out,G4.out (by trivial) (by rw[iH.out];rfl) hok,iH.out];rfl)
    clear hok
    go_wp2_with fail
    refine(H9.out _).mono ?_
    rintro e v12 ⟨rfl,rfl⟩
    go_wp2_with (first
     |(refine jA 128 rfl ?_;refine pA rfl 34 _ rfl (w.heap.size+1) rfl HV.out Tryz.underlying34 rfl (by rw[JL.out];exact DB) ?_)
     |(refine wpList_store_row rfl 34 _ _ rfl w.heap.size (nA ⟨b,h,n,path⟩) rfl rfl 34 _ AD.res (by rw[JL.out];exact DB) (by rw[JL.out];rfl) (KE _) ?_))
    exact bodyPost_ret (v:= .tuple #[.agg (nA ⟨b,h,n,path⟩),.int .i64 0]) (yA rfl _ _ w.heap.size _ _ _ rfl _ rfl (AD.res.whole _) Tryz.underlying34 rfl (by rw[JL.out];exact DB)) rfl (GA.out _ _ HN.out (below_setRow AD.below (zB3 _) _))
   |false=>
    rw[hok]at H9
    have H9:=zA7 H9
    have HN:Hid (Ur.parse s.data.toList=(43,Ur.zero)):=zA7 (by rw[HP.out];exact G5.out (by trivial) (by rw[iH.out];rfl) hok)
    clear hok
    go_wp2_with fail
    refine(H9.out _).mono ?_
    rintro e v12 ⟨rfl,rfl⟩
    go_wp2_with (first
     |(refine wpList_store_row rfl 34 _ _ rfl w.heap.size (nA Ur.zero) rfl rfl 34 _ AD.res (by rw[HZ.out];exact DB) rfl (KE _) ?_))
    exact bodyPost_ret (v:= .tuple #[.agg (nA Ur.zero),.int .i64 43]) (yA rfl _ _ w.heap.size _ _ _ rfl _ rfl (AD.res.whole _) Tryz.underlying34 rfl (by rw[HZ.out];exact DB)) rfl (GA.out _ _ HN.out (below_setRow AD.below (zB3 _) _))
end Go.Proofs.YtdaaoopkkhfbhaaGreatDoor
