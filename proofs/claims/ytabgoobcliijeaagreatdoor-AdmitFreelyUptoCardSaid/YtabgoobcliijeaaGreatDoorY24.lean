/- The walk of the reference's Parse. -/
import Derived.Test.YtabgoobcliijeaaGreatDoorY23
import Derived.Deep.DeepCutAuto
set_option maxHeartbeats 8000000
set_option maxRecDepth 100000
namespace Go.Proofs.YtabgoobcliijeaaGreatDoor
open Go.RowKit
theorem fAA {P:Program}{ops:Array Oper}{rest:List Oper}{o:Oper}{a:Act}{w:World}{Q:Exit->Act->World->Prop}(hg:o.guard=none)(t:TypeId)(i:Nat)(x:Operand)(ho:o.op= .build t #[(i,x)])(u:Value)(hx:a.eval x=u)(cells:Array Value)
  (hc:P.built t [(i,u)]=some cells)(h:wpList P ops Q rest (a.put o.dst (.agg cells)) w):wpList P ops Q (o::rest) a w:=by
 have e:((#[(i,x)]:Array (Nat×Operand)).map fun(i,x)=>(i,a.eval x)).toList= [(i,u)]:=by simp[hx]
 refine wpList_build hg t #[(i,x)] ho ?_ ?_
 ·rw[e,hc];rfl
 ·rw[e,hc];exact h
namespace Ur
def first(b:Bool):URL:=⟨b,dA.zero,usual b,[]⟩
theorem nAQ {s:ByteArray}(h:(s.data.toList.take 7).map Oct.low=http):scheme s.data.toList=some (false,(s.extract 7 s.size).data.toList):=by
 unfold scheme
 rw[if_pos h,extract_drop]
theorem nAR {s:ByteArray}(h7:(s.data.toList.take 7).map Oct.low≠http)(h:(s.data.toList.take 8).map Oct.low=https):scheme s.data.toList=some (true,(s.extract 8 s.size).data.toList):=by
 unfold scheme
 rw[if_neg h7,if_pos h,extract_drop]
theorem nAT {s:ByteArray}(h7:(s.data.toList.take 7).map Oct.low≠http)(h8:(s.data.toList.take 8).map Oct.low≠https):scheme s.data.toList=none:=by
 unfold scheme
 rw[if_neg h7,if_neg h8]
theorem cAS {s:ByteArray}(h: ¬7<=s.size):(s.data.toList.take 7).map Oct.low≠http:=by
 intro e
 have:=congrArg List.length e
 rw[List.length_map,List.length_take,Oct.nA]at this
 have e7:http.length=7:=rfl
 omega
theorem nAX {s:ByteArray}(h: ¬8<=s.size):(s.data.toList.take 8).map Oct.low≠https:=by
 intro e
 have:=congrArg List.length e
 rw[List.length_map,List.length_take,Oct.nA]at this
 have e8:https.length=8:=rfl
 omega
end Ur
theorem aAV(s:ByteArray)(k:Nat)(l:List UInt8)(hs:s.size<=1048576): ∃x:ByteArray,(∀W,Calls Tryz.prog 43 #[.string (s.extract 0 k)] W fun e w'=>e= .returned (.string x)/\Below W.heap.size W w')/\(x.toList==l)=decide ((s.data.toList.take k).map Oct.low=l):=by
 refine⟨⟨((s.data.toList.take k).map Oct.low).toArray⟩,fun W=>?_,?_⟩
 ·have h:=UL (s.extract 0 k) W (by rw[ByteArray.size_extract];omega)
  have e:(s.extract 0 k).data.toList=s.data.toList.take k:=by rw[EF]
  rw[e]at h
  exact h
 ·rw[Oct.SA,Bool.eq_iff_iff]
  simp
theorem nA4(s:ByteArray)(w:World)(hs:s.size<=1048576):
  Calls Tryz.prog 22 #[.string s] w (iP (Ur.parse s.data.toList) w):=by
 have z0:=iJ
 have z1:=BD
 have HZ:=zA7 (show(pA Ur.zero).size=21 from rfl)
 have HB0:Hid (Tryz.prog.built 33 [(2,.int .i64 80)]=some (pA (Ur.first false))):=zA7 (by kernel_rfl)
 have IK:=zA7 (show(pA (Ur.first false)).size=21 from rfl)
 obtain⟨x7,SO,hx7⟩:=aAV s 7 [104,116,116,112,58,47,47] hs
 obtain⟨x8,GM,hx8⟩:=aAV s 8 [104,116,116,112,115,58,47,47] hs
 have SO:=zA7 SO
 have GM:=zA7 GM
 have hl:=Oct.nA s
 have AA:Hid (∀o w',Ur.parse s.data.toList=o->Below w.heap.size w w'->iP (Ur.parse s.data.toList) w (.returned (.tuple #[.agg (pA o.2),.int .i64 o.1])) w'):=zA7 (fun o w' h hb=>by subst h;exact⟨rfl,hb⟩)
 generalize iP (Ur.parse s.data.toList) w=post at*
 obtain⟨b7,WJ⟩: ∃b,decide ((s.data.toList.take 7).map Oct.low= [104,116,116,112,58,47,47])=b:=⟨_,rfl⟩
 obtain⟨b8,tU⟩: ∃b,decide ((s.data.toList.take 8).map Oct.low= [104,116,116,112,115,58,47,47])=b:=⟨_,rfl⟩
 rw[WJ]at hx7
 rw[tU]at hx8
 have tM:=zA7 WJ
 have JO:=zA7 tU
 clear WJ tU
 have hne:w.heap.size≠w.heap.size+1:=by omega
 have hN:(w.alloc (.cells (pA Ur.zero) 33)).heap.size=w.heap.size+1:=by simp
 have K0:yC w.heap.size (w.heap.size+1) Ur.zero w ((w.alloc (.cells (pA Ur.zero) 33)).alloc (.cells (pA Ur.zero) 33)):=
  ⟨(Row.new w 33 (pA Ur.zero)).alloc _,by have:=Row.new (w.alloc (.cells (pA Ur.zero) 33)) 33 (pA Ur.zero);rw[hN]at this;exact this,hne,by omega,
    ((Below.refl w.heap.size w).alloc (zB3 _) _).alloc (by omega) _⟩
 have QX:=zA7 K0.var
 have K1:=K0.whole (Ur.first false)
 clear K0
 go_enter Tryz.func22,Tryz.ntmps22
 go_upto_region 3 with(first
  |(refine iA 14 rfl ?_;refine fAA rfl 33 2 _ rfl _ rfl (pA (Ur.first false)) HB0.out ?_)
  |(refine wpList_store_row rfl 33 _ _ rfl (w.heap.size+1) (pA (Ur.first false)) rfl rfl 33 _ QX.out (by rw[IK.out];exact qB) rfl (kE _) ?_))
 generalize((w.alloc (.cells (pA Ur.zero) 33)).alloc (.cells (pA Ur.zero) 33)).setRow (w.heap.size+1) (pA (Ur.first false))=w1 at*
 clear QX
 go_cut [23] (fun s23 wx=>s23= .bool b7/\yC w.heap.size (w.heap.size+1) (Ur.first false) w wx)
 case first=>
  by_cases h7:7<=s.size
  ·have F7:(7:Int)<=(s.size:Int):=by omega
   go_wp2_with (go_at_call 43;refine(SO.out _).mono ?_;rintro e v2 ⟨rfl,d2⟩)
   go_meet
   exact⟨rfl,K1.on d2⟩
  ·have F7: ¬(7:Int)<=(s.size:Int):=by omega
   have hb:b7=false:=by rw[<-tM.out];exact zA8 (Ur.cAS h7)
   go_wp2
   go_meet
   exact⟨by rw[hb],K1⟩
 case rest=>
 obtain⟨rfl,K2⟩:=hcut
 clear K1
 go_upto_if 23 with fail
 go_cut [5] (fun s5 wx=> ∃(b:Bool)(r:ByteArray),s5= .string r/\Hid (Ur.scheme s.data.toList=some (b,r.data.toList))/\yC w.heap.size (w.heap.size+1) (Ur.first b) w wx)
 case first=>
  cases b7 with
  |true=>
   have h7:7<=s.size:=Nat.le_of_not_lt fun k=>by
    have:=Ur.cAS (s:=s) (by omega)
    exact this (zB1 tM.out)
   have F7:(7:Int)<=(s.size:Int):=by omega
   go_wp2
   go_meet
   exact⟨false,_,rfl,zA7 (Ur.nAQ (zB1 tM.out)),K2⟩
  |false=>
   have n7:=zA7 (of_decide_eq_false tM.out)
   cases b8 with
   |true=>
    have h8:8<=s.size:=Nat.le_of_not_lt fun k=>by
     have:=Ur.nAX (s:=s) (by omega)
     exact this (zB1 JO.out)
    have I7:(8:Int)<=(s.size:Int):=by omega
    go_wp2_with fail
    refine(GM.out _).mono ?_
    rintro e v2 ⟨rfl,d2⟩
    have K3:=K2.on d2
    have c0:=K3.cell 0
    have f0:=K3.free 0
    have c19:=K3.cell 19
    have f19:=K3.free 19
    rw[pAR]at c0
    rw[NR _ rfl]at c19
    have K4:=(K3.put (u':= {Ur.first false with secure:=true}) (pAT _ true)).put (u':=Ur.first true) (dAz _ rfl 443)
    clear K2 d2
    go_wp2
    go_meet
    exact⟨true,_,rfl,zA7 (Ur.nAR n7.out (zB1 JO.out)),K4⟩
   |false=>
    have n8:=zA7 (of_decide_eq_false JO.out)
    have HN:Hid (Ur.parse s.data.toList=(41,Ur.zero)):=zA7 (Ur.lAP (Ur.nAT n7.out n8.out)).1
    by_cases h8:8<=s.size
    ·have I7:(8:Int)<=(s.size:Int):=by omega
     go_wp2_with fail
     refine(GM.out _).mono ?_
     rintro e v2 ⟨rfl,d2⟩
     have Kx:=K2.on d2
     go_wp2_with (first
      |(refine wpList_store_row rfl 33 _ _ rfl w.heap.size (pA Ur.zero) rfl rfl 33 _ Kx.res (by rw[HZ.out];exact qB) rfl (kE _) ?_))
     exact bodyPost_ret (v:= .tuple #[.agg (pA Ur.zero),.int .i64 41]) (DA rfl _ _ w.heap.size _ _ _ rfl _ rfl (Kx.res.whole _) Tryz.underlying33 rfl (by rw[HZ.out];exact qB)) rfl (AA.out (41,Ur.zero) _ HN.out (below_setRow Kx.below (zB3 _) _))
    ·have I7: ¬(8:Int)<=(s.size:Int):=by omega
     have Kx:=K2
     go_wp2_with (first
      |(refine wpList_store_row rfl 33 _ _ rfl w.heap.size (pA Ur.zero) rfl rfl 33 _ Kx.res (by rw[HZ.out];exact qB) rfl (kE _) ?_))
     exact bodyPost_ret (v:= .tuple #[.agg (pA Ur.zero),.int .i64 41]) (DA rfl _ _ w.heap.size _ _ _ rfl _ rfl (Kx.res.whole _) Tryz.underlying33 rfl (by rw[HZ.out];exact qB)) rfl (AA.out (41,Ur.zero) _ HN.out (below_setRow Kx.below (zB3 _) _))
 case rest=>
 obtain⟨b,r,rfl,HS,K3⟩:=hcut
 obtain⟨p1,_,_,_⟩:=Ur.lAR HS.out
 have hrl:=Ur.nAS HS.out
 rw[hl,Oct.nA]at hrl
 have HP:=zA7 p1
 clear K2 SO GM hx7 hx8 tM JO hl HB0 IK p1 HS hN
 obtain⟨rest,hrest⟩: ∃l,r.data.toList=l:=⟨_,rfl⟩
 rw[hrest]at HP
 have NH:=fun W=>cQ r ⟨#[47,63,35]⟩ W (by unfold maxLen;omega) (by show 3<=1000;omega)
 have e1:(⟨#[47,63,35]⟩:ByteArray).data.toList= [47,63,35]:=rfl
 rw[e1,hrest]at NH
 have hn1:=Ur.iL rest [47,63,35]
 rw[<-hrest,Oct.nA,hrest]at hn1
 have fI:(r.extract 0 (Ur.find rest [47,63,35])).data.toList=Ur.place rest:=by rw[EF,hrest];rfl
 have vU:(r.extract (Ur.find rest [47,63,35]) r.size).data.toList=Ur.behind rest:=by rw[extract_drop,hrest];rfl
 generalize Ur.find rest [47,63,35]=n1 at*
 obtain⟨pl,hpl⟩: ∃x,r.extract 0 n1=x:=⟨_,rfl⟩
 obtain⟨bh,qL⟩: ∃x,r.extract n1 r.size=x:=⟨_,rfl⟩
 rw[hpl]at fI
 rw[qL]at vU
 have rAi:(n1:Int)<=(r.size:Int):=by omega
 have rAl:pl.size<=1048576:=by rw[<-hpl,ByteArray.size_extract];omega
 have rA8:bh.size<=1048576:=by rw[<-qL,ByteArray.size_extract];omega
 obtain⟨P,hP⟩: ∃l,Ur.place rest=l:=⟨_,rfl⟩
 obtain⟨path,JU⟩: ∃l,Ur.pathOf rest=l:=⟨_,rfl⟩
 rw[hP,JU]at HP
 rw[hP]at fI
 have CI:=fun W=>cQ pl ⟨#[58]⟩ W (by unfold maxLen;omega) (by show 1<=1000;omega)
 have e2:(⟨#[58]⟩:ByteArray).data.toList= [58]:=rfl
 rw[e2,fI]at CI
 have LE:=fun W=>cQ pl ⟨#[93]⟩ W (by unfold maxLen;omega) (by show 1<=1000;omega)
 have e3:(⟨#[93]⟩:ByteArray).data.toList= [93]:=rfl
 rw[e3,fI]at LE
 have G8:P.length=pl.size:=by rw[<-fI,Oct.nA]
 have hend:Ur.xB P<=pl.size:=by
  unfold Ur.xB
  have h1:=Ur.iL P [58]
  split
  ·omega
  ·omega
 have jX:Hid (P.head?=some 91->Ur.xB P=min (Ur.find P [93]+1) pl.size):=zA7 (fun h=>by unfold Ur.xB;rw[if_pos h,G8])
 have kX:Hid (P.head?≠some 91->Ur.xB P=Ur.find P [58]):=zA7 (fun h=>Ur.hAf h)
 have yQ:=Ur.iL P [93]
 rw[G8]at yQ
 have hhead: ∀h:0<pl.size,P.head?=some 91↔ ((pl[0].toNat:Int)==91)=true:=fun h=>by
  rw[<-fI,Oct.CE pl h,beq_iff_eq,Option.some.injEq]
  exact⟨fun e=>by rw[e];rfl,fun e=>Oct.mB (by show _=91;omega)⟩
 have hnone: ¬0<pl.size->P.head?≠some 91:=fun h e=>by
  have:P= []:=by rw[<-fI,Oct.UC];omega
  rw[this]at e;cases e
 obtain⟨q,hq⟩: ∃q,decide (P.head?=some 91)=q:=⟨_,rfl⟩
 have nX:=zA7 hhead
 have vX:=zA7 hnone
 have HQ:=zA7 hq
 have hex: ∀e:Nat,(pl.extract 0 e).data.toList=P.take e/\(pl.extract e pl.size).data.toList=P.drop e:=fun e=>by
  rw[EF,extract_drop,fI];exact⟨rfl,rfl⟩
 have mX:=zA7 hex
 have NH:=zA7 NH
 have CI:=zA7 CI
 have LE:=zA7 LE
 have vM:=zA7 vU
 have CX:=zA7 JU
 clear hrest e1 e2 e3 hP fI vU hhead hnone hq hex JU hrl
 generalize Ur.find P [93]=n3 at*
 generalize Ur.find P [58]=n2 at*
 go_upto_region 13 with(first
  |(go_at_call 44; (with_reducible refine(NH.out _).mono ?_);rintro e v1 ⟨rfl,d1⟩;have K4:=K3.on (d1.below _))
  |(go_at_call 44; (with_reducible refine(CI.out _).mono ?_);rintro e v2 ⟨rfl,d2⟩;have K5:=K4.on (d2.below _)))
 clear K3 K4 d1 d2
 go_cut [54] (fun s54 wx=>s54= .bool q/\yC w.heap.size (w.heap.size+1) (Ur.first b) w wx)
 case first=>
  by_cases hp:0<pl.size
  ·have hpi:(0:Int)<(pl.size:Int):=by omega
   have hq:((pl[0].toNat:Int)==91)=q:=by
    rw[<-HQ.out,Bool.eq_iff_iff,decide_eq_true_eq,nX.out hp]
   go_wp2
   go_meet
   exact⟨rfl,K5⟩
  ·have hpi: ¬(0:Int)<(pl.size:Int):=by omega
   have hq:q=false:=by rw[<-HQ.out];exact zA8 (vX.out hp)
   go_wp2
   go_meet
   exact⟨by rw[hq],K5⟩
 case rest=>
 obtain⟨rfl,K6⟩:=hcut
 clear K5
 go_upto_if 54 with fail
 go_cut [8] (fun s8 wx=>s8= .int .i64 ((Ur.xB P:Nat):Int)/\yC w.heap.size (w.heap.size+1) (Ur.first b) w wx)
 case first=>
  cases q with
  |true=>
   have he:=jX.out (zB1 HQ.out)
   go_wp2_with fail
   refine(LE.out _).mono ?_
   rintro e v3 ⟨rfl,d3⟩
   have K7:=K6.on (d3.below _)
   go_wp2
   all_goals
    go_meet
    exact⟨IA (by rw[he];omega),K7⟩
  |false=>
   have he:=kX.out (of_decide_eq_false HQ.out)
   go_wp2
   go_meet
   exact⟨IA (by rw[he]),K6⟩
 case rest=>
 obtain⟨rfl,K7⟩:=hcut
 clear K6 jX kX nX vX HQ NH CI LE
 have G1:=fun h=>Ur.iA1 (b:=b) (pl:=P) (p:=path) h
 have G2:=Ur.iA6 (b:=b) (pl:=P) (p:=path)
 have G3:=fun x=>Ur.iA4 (b:=b) (pl:=P) (p:=path) (x:=x)
 have G4:=fun x=>Ur.iA7 (b:=b) (pl:=P) (p:=path) (x:=x)
 have G5:=fun x=>Ur.iA3 (b:=b) (pl:=P) (p:=path) (x:=x)
 obtain⟨x1,x2⟩:=mX.out (Ur.xB P)
 have hx:=dA.GF (P.take (Ur.xB P))
 generalize Ur.xB P=k at*
 have hki:(k:Int)<=(pl.size:Int):=by omega
 obtain⟨nm,hnm⟩: ∃x,pl.extract 0 k=x:=⟨_,rfl⟩
 obtain⟨b2,hb2⟩: ∃x,pl.extract k pl.size=x:=⟨_,rfl⟩
 rw[hnm]at x1
 rw[hb2]at x2
 have jAb:nm.size<=1048576:=by rw[<-hnm,ByteArray.size_extract];omega
 have rA7:b2.size<=1048576:=by rw[<-hb2,ByteArray.size_extract];omega
 have H4:=fun W=>(oK nm W jAb).mono fun e w' h=>LG h
 rw[x1]at H4
 rw[<-x2]at G2 G3 G4 G5
 clear x1 x2 mX
 generalize Ur.go b P path=res at*
 cases ho:dA.parse (P.take k)with
 |none=>
  rw[ho]at H4
  have e1:dA.host none=dA.zero:=rfl
  have e3:dA.code none=31:=rfl
  rw[e1,e3]at H4
  have H4:=zA7 H4
  have HN:Hid (Ur.parse s.data.toList=(31,Ur.zero)):=zA7 (by rw[HP.out];exact G1 ho)
  have HX:=zA7 (show(fA dA.zero).size=18 from rfl)
  clear G1 G2 G3 G4 G5 ho hx e1 e3
  go_wp2_with fail
  refine(H4.out _).mono ?_
  rintro e v4 ⟨rfl,d4⟩
  have K8:=K7.on d4
  obtain⟨T,_,_,_⟩:=JA 31 (fA dA.zero) (fA dA.zero) K8.below K8.below.size
  have K9:=K8.lay 31 (fA dA.zero) (fA dA.zero)
  clear K7 K8 d4
  go_wp2_with (first
   |(refine wpList_store_row rfl 31 _ _ rfl v4.heap.size (fA dA.zero) rfl rfl 31 _ T (by rw[HX.out];exact tA) rfl (aB _) ?_)
   |(refine wpList_store_row rfl 33 _ _ rfl w.heap.size (pA Ur.zero) rfl rfl 33 _ K9.res (by rw[HZ.out];exact qB) rfl (kE _) ?_))
  exact bodyPost_ret (v:= .tuple #[.agg (pA Ur.zero),.int .i64 31]) (DA rfl _ _ w.heap.size _ _ _ rfl _ rfl (K9.res.whole _) Tryz.underlying33 rfl (by rw[HZ.out];exact qB)) rfl (AA.out _ _ HN.out (below_setRow K9.below (zB3 _) _))
 |some h=>
  rw[ho]at H4 hx
  have e1:dA.host (some h)=h:=rfl
  have e3:dA.code (some h)=0:=rfl
  rw[e1,e3]at H4
  rw[e1]at hx
  have H4:=zA7 H4
  have G3:=zA7 (G3 h ho)
  have G4:=zA7 (G4 h ho)
  have G5:=zA7 (G5 h ho)
  have G2:=zA7 G2
  have HX:=zA7 (QA h hx)
  have KB:=zA7 (aB h)
  have KX:=zA7 (pAS (Ur.first b) rfl h hx)
  have NF:=zA7 (show(pA (Ur.first b)).size=21 from rfl)
  clear G1 ho e1 e3
  generalize hX:fA h=X at*
  go_wp2_with fail
  refine(H4.out _).mono ?_
  rintro e v4 ⟨rfl,d4⟩
  have K8:=K7.on d4
  obtain⟨T,U,_,_⟩:=JA 31 (fA dA.zero) X K8.below K8.below.size
  have K9:=K8.lay 31 (fA dA.zero) X
  clear K7 K8 d4
  go_upto_region 17 with(first
   |(refine wpList_store_row rfl 31 _ _ rfl v4.heap.size X rfl rfl 31 _ T (by rw[HX.out];exact tA) (by rw[HX.out];rfl) KB.out ?_))
  generalize(v4.alloc (.cells (fA dA.zero) 31)).setRow v4.heap.size X=v5 at*
  generalize v4.heap.size=g4 at*
  clear T
  obtain⟨st,hst⟩: ∃st,Ur.sK b2.data.toList=st:=⟨_,rfl⟩
  rw[hst]at G2 G3 G4 G5
  have NU:=hst
  rw[Ur.oAk]at NU
  have HST:=zA7 NU
  have HB2:Hid (∀h:0<b2.size,(b2.data.toList.head?=some 58↔ ((b2[0].toNat:Int) !=58)=false)):=zA7 (fun h=>by
   rw[Oct.CE b2 h,Option.some.injEq,bne_eq_false_iff_eq]
   exact⟨fun e=>by rw[e];rfl,fun e=>Oct.mB (by show _=58;omega)⟩)
  clear hst NU
  go_cut [82] (fun s82 wx=>s82= .bool st/\wx=v5)
  case first=>
   by_cases hp:0<b2.size
   ·have hpi:(0:Int)<(b2.size:Int):=by omega
    have hne2:b2.data.toList≠ []:=fun e=>by have:=(Oct.UC b2).1 e;omega
    have hq:((b2[0].toNat:Int) !=58)=st:=by
     rw[<-HST.out,zA8 hne2,Bool.not_false,Bool.true_and]
     have:=HB2.out hp
     cases hh:((b2[0].toNat:Int) !=58)with
     |false=>rw[zA9 (this.2 hh)];rfl
     |true=>rw[zA8 (fun e=>by rw[this.1 e]at hh;cases hh)];rfl
    go_wp2
    go_meet
    exact⟨rfl,rfl⟩
   ·have hpi: ¬(0:Int)<(b2.size:Int):=by omega
    have hq:st=false:=by
     rw[<-HST.out,zA9 ((Oct.UC b2).2 (by omega))];rfl
    go_wp2
    go_meet
    exact⟨by rw[hq],rfl⟩
  case rest=>
  obtain⟨rfl,rfl⟩:=hcut
  cases st with
  |true=>
   have HN:Hid (Ur.parse s.data.toList=(31,Ur.zero)):=zA7 (by rw[HP.out];exact G2.out (by trivial))
   go_wp2_with (first
    |(refine wpList_store_row rfl 33 _ _ rfl w.heap.size (pA Ur.zero) rfl rfl 33 _ K9.res (by rw[HZ.out];exact qB) rfl (kE _) ?_))
   exact bodyPost_ret (v:= .tuple #[.agg (pA Ur.zero),.int .i64 31]) (DA rfl _ _ w.heap.size _ _ _ rfl _ rfl (K9.res.whole _) Tryz.underlying33 rfl (by rw[HZ.out];exact qB)) rfl (AA.out _ _ HN.out (below_setRow K9.below (zB3 _) _))
  |false=>
   have GB:=K9.whole {Ur.first b with host:=h}
   have HV:=zA7 K9.var
   go_upto_if 88 with(first
    |(refine iA 84 rfl ?_;refine qA rfl 31 _ rfl g4 rfl U Tryz.underlying31 rfl (by rw[HX.out];exact tA) ?_)
    |(refine AR rfl 31 _ _ rfl (w.heap.size+1) 1 X rfl rfl 33 _ HV.out (by rw[HX.out];exact tA) (by rw[HX.out,NF.out];decide) KB.out _ KX.out ?_))
   generalize wc.setRow (w.heap.size+1) (pA {Ur.first b with host:=h})=v6 at*
   have ea:({Ur.first b with host:=h} :Ur.URL)=⟨b,h,Ur.usual b,[]⟩:=rfl
   rw[ea]at GB
   clear HV U K9 ea KX NF HX KB hX
   obtain⟨po,hpo⟩: ∃po,Ur.fF b b2.data.toList=po:=⟨_,rfl⟩
   rw[hpo]at G3 G4 G5
   have FI:=fun W=>cAq (b2.extract 1 b2.size) W (by unfold maxLen;rw[ByteArray.size_extract];omega)
   have et:(b2.extract 1 b2.size).data.toList=b2.data.toList.tail:=by rw[extract_drop,List.drop_one]
   rw[et]at FI
   have FI:=zA7 FI
   have BS:Hid (b2.data.toList.head?=some 58->po=if Oct.isNum b2.data.toList.tail=true/\1<=Oct.number b2.data.toList.tail/\Oct.number b2.data.toList.tail<=65535 then some (Oct.number b2.data.toList.tail:Int)else none):=zA7 (fun hh=>by rw[<-hpo];exact Ur.mA9 b hh)
   have AS:Hid (b2.data.toList= []->po=some (Ur.usual b)):=zA7 (fun hh=>by rw[<-hpo];exact Ur.mAa b hh)
   clear hpo et
   go_cut [] (fun wx=> ∃n:Int,Hid (po=some n)/\yC w.heap.size (w.heap.size+1) ⟨b,h,n,[]⟩ w wx)
   case first=>
    by_cases hp:0<b2.size
    ·have hpi:(0:Int)<(b2.size:Int):=by omega
     have hp1:(1:Int)<=(b2.size:Int):=by omega
     have hne2:b2.data.toList≠ []:=fun e=>by have:=(Oct.UC b2).1 e;omega
     have hh:b2.data.toList.head?=some 58:=by
      have:=HST.out
      rw[zA8 hne2,Bool.not_false,Bool.true_and,Bool.not_eq_false',decide_eq_true_eq]at this
      exact this
     have RM:=zA7 (BS.out hh)
     clear hh hne2 BS AS HB2 HST
     generalize Oct.number b2.data.toList.tail=n at*
     generalize Oct.isNum b2.data.toList.tail=ok at*
     by_cases hin:ok=true/\1<=n/\n<=65535
     ·have wJ:Hid (po=some (n:Int)):=zA7 (by rw[RM.out,if_pos hin])
      obtain⟨rfl,h1,h2⟩:=hin
      have k1: ¬(n:Int)<1:=by omega
      have k2: ¬(65535:Int)<(n:Int):=by omega
      have c19:=GB.cell 19
      have f19:=GB.free 19
      rw[NR _ hx]at c19
      have KC:=GB.put (u':=⟨b,h,(n:Int),[]⟩) (dAz _ hx (n:Int))
      go_wp2_with (go_at_call 45;refine(FI.out _).mono ?_;rintro e v7 ⟨rfl,rfl⟩)
      go_meet
      exact⟨_,wJ,KC⟩
     ·have HN:Hid (Ur.parse s.data.toList=(42,Ur.zero)):=zA7 (by rw[HP.out];exact G3.out (by trivial) (by rw[RM.out,if_neg hin];rfl))
      cases ok with
      |false=>
       clear hin
       go_wp2_with (first
        |(go_at_call 45;refine(FI.out _).mono ?_;rintro e v7 ⟨rfl,rfl⟩)
        |(refine wpList_store_row rfl 33 _ _ rfl w.heap.size (pA Ur.zero) rfl rfl 33 _ GB.res (by rw[HZ.out];exact qB) rfl (kE _) ?_))
       exact bodyPost_ret (v:= .tuple #[.agg (pA Ur.zero),.int .i64 42]) (DA rfl _ _ w.heap.size _ _ _ rfl _ rfl (GB.res.whole _) Tryz.underlying33 rfl (by rw[HZ.out];exact qB)) rfl (AA.out _ _ HN.out (below_setRow GB.below (zB3 _) _))
      |true=>
       by_cases h1:n<1
       ·have k1:(n:Int)<1:=by omega
        clear hin h1
        go_wp2_with (first
         |(go_at_call 45;refine(FI.out _).mono ?_;rintro e v7 ⟨rfl,rfl⟩)
         |(refine wpList_store_row rfl 33 _ _ rfl w.heap.size (pA Ur.zero) rfl rfl 33 _ GB.res (by rw[HZ.out];exact qB) rfl (kE _) ?_))
        exact bodyPost_ret (v:= .tuple #[.agg (pA Ur.zero),.int .i64 42]) (DA rfl _ _ w.heap.size _ _ _ rfl _ rfl (GB.res.whole _) Tryz.underlying33 rfl (by rw[HZ.out];exact qB)) rfl (AA.out _ _ HN.out (below_setRow GB.below (zB3 _) _))
       ·have k1: ¬(n:Int)<1:=by omega
        have k2:(65535:Int)<(n:Int):=by have: ¬n<=65535:=fun k=>hin ⟨rfl,by omega,k⟩;omega
        clear hin h1
        go_wp2_with (first
         |(go_at_call 45;refine(FI.out _).mono ?_;rintro e v7 ⟨rfl,rfl⟩)
         |(refine wpList_store_row rfl 33 _ _ rfl w.heap.size (pA Ur.zero) rfl rfl 33 _ GB.res (by rw[HZ.out];exact qB) rfl (kE _) ?_))
        exact bodyPost_ret (v:= .tuple #[.agg (pA Ur.zero),.int .i64 42]) (DA rfl _ _ w.heap.size _ _ _ rfl _ rfl (GB.res.whole _) Tryz.underlying33 rfl (by rw[HZ.out];exact qB)) rfl (AA.out _ _ HN.out (below_setRow GB.below (zB3 _) _))
    ·have hpi: ¬(0:Int)<(b2.size:Int):=by omega
     have wJ:Hid (po=some (Ur.usual b)):=zA7 (AS.out ((Oct.UC b2).2 (by omega)))
     go_wp2
     go_meet
     exact⟨_,wJ,GB⟩
   case rest=>
   obtain⟨n,wJ,KC⟩:=hcut
   clear GB FI BS AS HB2 HST G3
   have DM:=fun W=>cQ bh ⟨#[63,35]⟩ W (by unfold maxLen;omega) (by show 2<=1000;omega)
   have e4:(⟨#[63,35]⟩:ByteArray).data.toList= [63,35]:=rfl
   rw[e4,vM.out]at DM
   have sL:=Ur.iL (Ur.behind rest) [63,35]
   rw[<-vM.out,Oct.nA,vM.out]at sL
   have hraw:(bh.extract 0 (Ur.find (Ur.behind rest) [63,35])).data.toList=Ur.raw rest:=by rw[EF,vM.out];rfl
   generalize Ur.find (Ur.behind rest) [63,35]=n4 at*
   obtain⟨IF,hrw⟩: ∃x,bh.extract 0 n4=x:=⟨_,rfl⟩
   rw[hrw]at hraw
   have rAj:(n4:Int)<=(bh.size:Int):=by omega
   have rAm:IF.size<=1048576:=by rw[<-hrw,ByteArray.size_extract];omega
   have FS_:Hid (path=if IF.data.toList= []then [47]else IF.data.toList):=zA7 (by rw[hraw,<-CX.out];rfl)
   have DM:=zA7 DM
   clear e4 hraw vM CX
   have c20:=KC.cell 20
   have f20:=KC.free 20
   rw[vI _ hx]at c20
   have pG:=KC.put (u':=⟨b,h,n,bh.data.toList⟩) (JW _ hx bh)
   go_upto_region 26 with fail
   clear c20 f20 KC
   generalize World.setCell _ _ _=v8 at*
   have c20:=pG.cell 20
   have f20:=pG.free 20
   rw[vI _ hx,show lA bh.data.toList= .string bh by unfold lA;rw[gE]]at c20
   go_cut [] (fun wx=>yC w.heap.size (w.heap.size+1) ⟨b,h,n,IF.data.toList⟩ w wx)
   case first=>
    go_region_with (go_at_call 44;refine(DM.out _).mono ?_;rintro e v9 ⟨rfl,⟨nn,rfl⟩⟩)
    all_goals
     go_wp2_with fail
     go_meet
     exact(pG.on (below_draws _ _ _)).put (u':=⟨b,h,n,IF.data.toList⟩) (JW _ hx IF)
   case rest=>
   have QH:=hcut
   clear hcut pG c20 f20 DM
   have c20:=QH.cell 20
   have f20:=QH.free 20
   rw[vI _ hx,show lA IF.data.toList= .string IF by unfold lA;rw[gE]]at c20
   obtain⟨q2,hq2⟩: ∃q,IF.toList.isEmpty=q:=⟨_,rfl⟩
   have pC:Hid (IF.data.toList= []↔q2=true):=zA7 (by
    rw[<-hq2,Oct.SA]
    cases IF.data.toList<;>simp)
   go_upto_if 121 with fail
   go_cut [] (fun wx=> ∃pb:ByteArray,Hid (pb.data.toList=path)/\pb.size<=1048577/\yC w.heap.size (w.heap.size+1) ⟨b,h,n,path⟩ w wx)
   case first=>
    cases q2 with
    |true=>
     have LF:Hid (path= [47]):=zA7 (by rw[FS_.out,if_pos (pC.out.2 rfl)])
     have K14:=QH.put (u':=⟨b,h,n,[47]⟩) (JW _ hx ⟨#[47]⟩)
     go_wp2
     go_meet
     exact⟨⟨#[47]⟩,zA7 LF.out.symm,by decide,by rw[LF.out];exact K14⟩
    |false=>
     have LF:Hid (path=IF.data.toList):=zA7 (by rw[FS_.out,if_neg (fun k=>by have:=pC.out.1 k;cases this)])
     go_wp2
     go_meet
     exact⟨IF,zA7 LF.out.symm,by omega,by rw[LF.out];exact QH⟩
   case rest=>
   obtain⟨pb,yF,aAc,MA⟩:=hcut
   clear QH c20 f20 pC hq2 FS_
   have c20:=MA.cell 20
   have hsv:lA path= .string pb:=by unfold lA;rw[<-yF.out,gE]
   rw[vI _ hx,hsv]at c20
   have H9:=fun W=>cAr pb W (by unfold maxLen;omega)
   rw[yF.out]at H9
   have HV:=zA7 MA.var
   have cP:=zA7 (aC ⟨b,h,n,path⟩ hx)
   cases hok:Ur.EC path with
   |true=>
    rw[hok]at H9
    have H9:=zA7 H9
    have HN:Hid (Ur.parse s.data.toList=(0,⟨b,h,n,path⟩)):=zA7 (by rw[HP.out,G4.out (by trivial) (by rw[wJ.out];rfl) hok,wJ.out];rfl)
    clear hok
    go_wp2_with fail
    refine(H9.out _).mono ?_
    rintro e v12 ⟨rfl,rfl⟩
    go_wp2_with (first
     |(refine iA 128 rfl ?_;refine qA rfl 33 _ rfl (w.heap.size+1) rfl HV.out Tryz.underlying33 rfl (by rw[cP.out];exact qB) ?_)
     |(refine wpList_store_row rfl 33 _ _ rfl w.heap.size (pA ⟨b,h,n,path⟩) rfl rfl 33 _ MA.res (by rw[cP.out];exact qB) (by rw[cP.out];rfl) (kE _) ?_))
    exact bodyPost_ret (v:= .tuple #[.agg (pA ⟨b,h,n,path⟩),.int .i64 0]) (DA rfl _ _ w.heap.size _ _ _ rfl _ rfl (MA.res.whole _) Tryz.underlying33 rfl (by rw[cP.out];exact qB)) rfl (AA.out _ _ HN.out (below_setRow MA.below (zB3 _) _))
   |false=>
    rw[hok]at H9
    have H9:=zA7 H9
    have HN:Hid (Ur.parse s.data.toList=(43,Ur.zero)):=zA7 (by rw[HP.out];exact G5.out (by trivial) (by rw[wJ.out];rfl) hok)
    clear hok
    go_wp2_with fail
    refine(H9.out _).mono ?_
    rintro e v12 ⟨rfl,rfl⟩
    go_wp2_with (first
     |(refine wpList_store_row rfl 33 _ _ rfl w.heap.size (pA Ur.zero) rfl rfl 33 _ MA.res (by rw[HZ.out];exact qB) rfl (kE _) ?_))
    exact bodyPost_ret (v:= .tuple #[.agg (pA Ur.zero),.int .i64 43]) (DA rfl _ _ w.heap.size _ _ _ rfl _ rfl (MA.res.whole _) Tryz.underlying33 rfl (by rw[HZ.out];exact qB)) rfl (AA.out _ _ HN.out (below_setRow MA.below (zB3 _) _))
end Go.Proofs.YtabgoobcliijeaaGreatDoor
