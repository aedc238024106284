/- The walks of readSame, sameName and marked. -/
import Derived.Test.YtdaaoopkkhfbhaaGreatDoorY15
set_option maxHeartbeats 8000000
set_option maxRecDepth 100000
namespace Go.Proofs.YtdaaoopkkhfbhaaGreatDoor
open Go.RowKit
namespace Hd
def kL(v:List UInt8)(k:Nat):Nat:=if k=0 then KD (v.map Oct.low)else if k=1 then(if Oct.NB v kI=true then 1 else if Oct.NB v WG=true then 2 else if Oct.NB v fG=true then 3 else 0)else if k=2 then(if Oct.NB v WG=true then 2 else if Oct.NB v fG=true then 3 else 0)else if k=3 then(if Oct.NB v fG=true then 3 else 0)else 0
theorem gS {k:Nat}(h:k<4): ∃x,FC[k]? =some x:=⟨_,List.getElem?_eq_getElem h⟩
theorem mAC(v:List UInt8){k:Nat}{x:List UInt8}(h:FC[k]? =some x):kL v k=if Oct.NB v x=true then k else kL v (k+1):=by
 have hk:k<4:=(List.getElem?_eq_some_iff.1 h).1
 have:k=0\/k=1\/k=2\/k=3:=by omega
 rcases this with rfl|rfl|rfl|rfl
 ·have e:x= []:=(zB2 h).symm
  subst e
  exact kA5 v
 ·have e:x=kI:=(zB2 h).symm
  subst e;rfl
 ·have e:x=WG:=(zB2 h).symm
  subst e;rfl
 ·have e:x=fG:=(zB2 h).symm
  subst e;rfl
theorem mAA(v:List UInt8):kL v 4=0:=rfl
end Hd
theorem fAw:(Tryz.prog.info? 248).map (·.size)=some (FA Hd.FC).size:=by kernel_rfl
theorem fAr(W:World):(Instr.index 248 (.agg (FA Hd.FC)) (.int .i64 0)).run Tryz.prog W= .ok (gA []) W:=by kernel_rfl
theorem fAs(W:World):(Instr.index 248 (.agg (FA Hd.FC)) (.int .i64 1)).run Tryz.prog W= .ok (gA [78,111,110,101]) W:=by kernel_rfl
theorem fAt(W:World):(Instr.index 248 (.agg (FA Hd.FC)) (.int .i64 2)).run Tryz.prog W= .ok (gA [76,97,120]) W:=by kernel_rfl
theorem fAu(W:World):(Instr.index 248 (.agg (FA Hd.FC)) (.int .i64 3)).run Tryz.prog W= .ok (gA [83,116,114,105,99,116]) W:=by kernel_rfl
theorem fAq {k:Nat}(hk:k<4){n:List UInt8}(hn:Hd.FC[k]? =some n)(W:World):(Instr.index 248 (.agg (FA Hd.FC)) (.int .i64 (k:Int))).run Tryz.prog W= .ok (gA n) W:=by
 have:k=0\/k=1\/k=2\/k=3:=by omega
 rcases this with rfl|rfl|rfl|rfl
 ·have e:=zB2 hn;rw[<-e];exact fAr W
 ·have e:=zB2 hn;rw[<-e];exact fAs W
 ·have e:=zB2 hn;rw[<-e];exact fAt W
 ·have e:=zB2 hn;rw[<-e];exact fAu W
def TL(n:Nat)(w:World)(e:Ending)(w':World):Prop:=e= .returned (.int .i64 (n:Int))/\Below w.heap.size w w'
theorem mAB {m n:Nat}(h:m=n){w w':World}(hb:Below w.heap.size w w'):TL m w (.returned (.int .i64 (n:Int))) w':=by subst h;exact⟨rfl,hb⟩
theorem jAd(s:ByteArray)(w:World)(hw:mB w)(hs:s.size<=maxLen):
  Calls Tryz.prog 152 #[.string s] w (TL (Hd.KD (s.data.toList.map Oct.low)) w):=by
 have HST:Hid (Hd.KD (s.data.toList.map Oct.low)=Hd.kL s.data.toList 0):=zA7 rfl
 have HP:=zA7 (fun n (h:Hd.KD (s.data.toList.map Oct.low)=n) w' (hb:Below w.heap.size w w')=>mAB h hb)
 generalize hpost:TL (Hd.KD (s.data.toList.map Oct.low)) w=post at*
 clear hpost
 have HC:Hid (∀(n:List UInt8) W,Calls Tryz.prog 147 #[.string s,gA n] W (qF (Oct.NB s.data.toList n) W)):=zA7 (fun n W=>DN s ⟨n.toArray⟩ W hs)
 have cT:=zA7 (fun k x (h:Hd.FC[k]? =some x)=>Hd.mAC s.data.toList h)
 generalize Hd.KD (s.data.toList.map Oct.low)=res at*
 obtain⟨t,fr,hrow⟩:=hw.row
 go_enter Tryz.func152,Tryz.ntmps152
 go_wp2_with (refine jA 5 rfl ?_;refine wpList_load_row rfl 248 _ rfl 0 rfl t _ fr _ hrow Tryz.underlying248 rfl fAw ?_)
 clear hrow
 go_loopw [6] (fun i wr=> ∃k:Nat,k<=4/\i= .int .i64 k/\res=Hd.kL s.data.toList k/\eC w wr) (fun i _=>4- (intOf i).toNat)
 case atStart=>exact⟨0,Nat.zero_le _,rfl,HST.out,eC.refl _⟩
 case round=>
  obtain⟨k,hk,rfl,hm,hd⟩:=hrel
  have HM:=zA7 hm
  clear hm
  by_cases hlt:k<4
  ·obtain⟨x,hx⟩:=Hd.gS hlt
   have hidx:=fAq hlt hx
   have tB:=cT.out k x hx
   rw[<-HM.out]at tB
   have hki:(k:Int)<4:=by omega
   have jE:=zA7 (HC.out x)
   unfold qF gA at jE
   unfold gA at hidx
   cases hb:Oct.NB s.data.toList x with
   |true=>
    rw[hb]at jE
    rw[hb,if_pos rfl]at tB
    have HR:=zA7 (HP.out k tB)
    generalize hnb:(⟨x.toArray⟩:ByteArray)=nb at*
    clear hnb hb tB hx cT HM
    go_wp2_with fail
    refine(jE.out _).mono ?_
    rintro e w2 ⟨rfl,d2⟩
    have HRR:=zA7 (HR.out w2 ((hd.below w.heap.size).trans (d2.below w.heap.size)))
    go_wp2
    first|exact HRR.out|(go_ret;exact HRR.out)
   |false=>
    rw[hb]at jE
    rw[hb,if_neg (by simp)]at tB
    have HR:=zA7 tB
    generalize hnb:(⟨x.toArray⟩:ByteArray)=nb at*
    clear hnb hb tB hx HM
    go_wp2_with fail
    refine(jE.out _).mono ?_
    rintro e w2 ⟨rfl,d2⟩
    have hD:eC w w2:=by
     obtain⟨a,rfl⟩:=hd
     obtain⟨b,rfl⟩:=d2
     exact⟨a+b,World.drewN_drewN _ _ _⟩
    go_wp2
    go_roundw
    case rel=>exact⟨k+1,by omega,by go_num,HR.out,hD⟩
    case measure=>simp[intOf];omega
  ·have hk4:k=4:=by omega
   subst hk4
   have HR:=zA7 (HP.out 0 (HM.out.trans (Hd.mAA _)) wr (hd.below _))
   go_wp2
   first|exact HR.out|(go_ret;exact HR.out)
theorem qZ(n:Nat)(w:World)(hw:mB w){x:List UInt8}(hx:Hd.FC[n]? =some x):
  Calls Tryz.prog 264 #[.int .i64 (n:Int)] w fun e w'=>e= .returned (.string ⟨x.toArray⟩)/\Below w.heap.size w w':=by
 have hn:n<4:=(List.getElem?_eq_some_iff.1 hx).1
 have hcell:=hw.word hx
 unfold gA at hcell
 generalize(⟨x.toArray⟩:ByteArray)=nb at*
 have h1: ¬(n:Int)<0:=by omega
 have h2: ¬(4:Int)<=(n:Int):=by omega
 have h3:(n:Int)<4:=by omega
 have h4:(0:Int)<=(n:Int):=by omega
 clear hx
 go_enter Tryz.func264,Tryz.ntmps264
 go_wp2
 go_ret
 exact⟨rfl,Below.refl _ _⟩
theorem lAB(s:ByteArray)(w:World):
  Calls Tryz.prog 280 #[.string s,.string ⟨#[46,32,9]⟩] w fun e w'=>e= .returned (.string ⟨(Lib.trimLeftS s.data.toList [46,32,9]).toArray⟩)/\Below w.heap.size w w':=
 (Any.strings_TrimLeft_laid Tryz.lays161 (by kernel_rfl) s ⟨#[46,32,9]⟩ w (by decide) (ascii_of_all (by decide))).mono fun _ _ ⟨h1,h2⟩=>⟨h1,h2⟩
theorem wX(s:ByteArray)(w:World)(hs:s.size<=1048576):
  Calls Tryz.prog 263 #[.string s] w (VC w.heap.size (Hd.bC s.data.toList) w):=by
 have HC:=zA7 (fun W=>lAB s W)
 have hl:=Hd.gAr s.data.toList
 have HP:Hid (∀a w',(⟨(Hd.bC s.data.toList).toArray⟩:ByteArray)=a->Below w.heap.size w w'->VC w.heap.size (Hd.bC s.data.toList) w (.returned (.string a)) w'):=zA7 (fun a w' h hb=>by subst h;exact⟨rfl,hb⟩)
 generalize hpost:VC w.heap.size (Hd.bC s.data.toList) w=post at*
 clear hpost
 obtain⟨a,ha⟩: ∃a:ByteArray,(⟨(Lib.trimLeftS s.data.toList [46,32,9]).toArray⟩:ByteArray)=a:=⟨_,rfl⟩
 have ha2:a.data.toList=Lib.trimLeftS s.data.toList [46,32,9]:=by rw[<-ha]
 rw[ha]at HC
 rw[<-ha2]at hl
 have hz:((⟨#[46]⟩:ByteArray).size)=1:=rfl
 have hne:(!(a.toList==s.toList))=Hd.IF s.data.toList:=by
  rw[Oct.aB,Oct.aB]
  cases hd:Hd.IF s.data.toList with
  |false=>rw[hl.2 hd];simp
  |true=>
   rw[Bool.not_eq_true',beq_eq_false_iff_ne]
   intro e
   rw[hl.1 e]at hd
   cases hd
 clear ha ha2 hl
 cases hd:Hd.IF s.data.toList with
 |true=>
  rw[hd]at hne
  have HQ:=zA7 (fun w'=>HP.out (⟨#[46]⟩++s) w' (by unfold Hd.bC;rw[if_pos hd];apply ByteArray.ext;simp[ByteArray.data_append]))
  clear hd HP
  have hsum: ¬9223372036854775807<(⟨#[46]⟩:ByteArray).size+s.size:=by rw[hz];omega
  have nAv: ¬9223372036854775807<1+s.size:=by omega
  go_enter Tryz.func263,Tryz.ntmps263
  go_wp2_with fail
  refine(HC.out _).mono ?_
  rintro e w1 ⟨rfl,b1⟩
  go_wp2
  first|exact HQ.out _ b1|(go_ret;exact HQ.out _ b1)
 |false=>
  rw[hd]at hne
  have HQ:=zA7 (fun w'=>HP.out s w' (by unfold Hd.bC;rw[if_neg (by rw[hd];simp),DE]))
  clear hd HP
  go_enter Tryz.func263,Tryz.ntmps263
  go_wp2_with fail
  refine(HC.out _).mono ?_
  rintro e w1 ⟨rfl,b1⟩
  go_wp2
  first|exact HQ.out _ b1|(go_ret;exact HQ.out _ b1)
end Go.Proofs.YtdaaoopkkhfbhaaGreatDoor
namespace Go.Proofs.YtdaaoopkkhfbhaaGreatDoor
open Go.RowKit
namespace Hd
theorem iAT {h:Head}{k v:List UInt8}{n:Int}(hv:v.length<=1024)(hk:k=KG)(hc:Dt.OA v=(n,true)):put h k v= {h with exp:=some n} :=by subst hk;rw[aR h hv,hc];rfl
theorem iAS {h:Head}{k v:List UInt8}{n:Int}(hv:v.length<=1024)(hk:k=KG)(hc:Dt.OA v=(n,false)):put h k v=h:=by subst hk;rw[aR h hv,hc];rfl
theorem iAQ {h:Head}{k v:List UInt8}{n:Nat}(hv:v.length<=1024)(hk:k=JG)(hc:XC v=some n):put h k v= {h with age:=some n} :=by subst hk;rw[YQ h hv,hc]
theorem iAP {h:Head}{k v:List UInt8}(hv:v.length<=1024)(hk:k=JG)(hc:XC v=none):put h k v=h:=by subst hk;rw[YQ h hv,hc]
theorem iAR {h:Head}{k v:List UInt8}(hv:v.length<=1024)(hk:k=KH):put h k v= {h with domain:=(pC v).map Oct.low} :=by subst hk;rw[LY h hv,lAT]
theorem jA0 {h:Head}{k v:List UInt8}(hv:v.length<=1024)(hk:k=MH):put h k v= {h with path:=if v.head?=some 47 then v else []} :=by subst hk;exact PY h hv
theorem jA1 {h:Head}{k v:List UInt8}(hv:v.length<=1024)(hk:k=NH):put h k v= {h with secure:=true} :=by subst hk;exact QY h hv
theorem iAZ {h:Head}{k v:List UInt8}(hv:v.length<=1024)(hk:k=LH):put h k v= {h with only:=true} :=by subst hk;exact NY h hv
theorem jA2 {h:Head}{k v:List UInt8}(hv:v.length<=1024)(hk:k=OH):put h k v= {h with same:=KD (v.map Oct.low)} :=by subst hk;exact RY h hv
end Hd
def QL(g:Nat)(h:Hd.Head)(w:World)(e:Ending)(w':World):Prop:=e= .returned (.tuple #[])/\vC g h w w'
theorem QH(k:ByteArray)(hk:k.size<=maxLen){W0:List UInt8}{x:List UInt8}(h:W0.map Oct.low=x)(W:World):Calls Tryz.prog 147 #[.string k,.string ⟨W0.toArray⟩] W (qF (decide (k.data.toList.map Oct.low=x)) W):=by
 have:=DN k ⟨W0.toArray⟩ W hk
 rw[show(⟨W0.toArray⟩:ByteArray).data.toList=W0 from rfl,Hd.fAN _ h]at this
 exact this
theorem lA0(h:Hd.Head)(k v:ByteArray)(g:Nat)(w:World)(hw: ∀W,Below g w W->mB W)(hR:Row w g 114 (headA h))(hk:k.size<=maxLen)(hv:v.size<=1024):
  Calls Tryz.prog 94 #[.pointer (some ⟨g,0,none⟩),.string k,.string v] w (QL g (Hd.put h (k.data.toList.map Oct.low) v.data.toList) w):=by
 have K0:vC g h w w:=⟨hR,Below.refl _ _⟩
 have hvl:v.data.toList.length<=1024:=by rw[Oct.oA];exact hv
 have S1:=zA7 (fun W=>QH k hk (show([69,120,112,105,114,101,115]:List UInt8).map Oct.low=Hd.KG from by decide) W)
 have S2:=zA7 (fun W=>QH k hk (show([77,97,120,45,65,103,101]:List UInt8).map Oct.low=Hd.JG from by decide) W)
 have S3:=zA7 (fun W=>QH k hk (show([68,111,109,97,105,110]:List UInt8).map Oct.low=Hd.KH from by decide) W)
 have S4:=zA7 (fun W=>QH k hk (show([80,97,116,104]:List UInt8).map Oct.low=Hd.MH from by decide) W)
 have S5:=zA7 (fun W=>QH k hk (show([83,101,99,117,114,101]:List UInt8).map Oct.low=Hd.NH from by decide) W)
 have S6:=zA7 (fun W=>QH k hk (show([72,116,116,112,79,110,108,121]:List UInt8).map Oct.low=Hd.LH from by decide) W)
 have S7:=zA7 (fun W=>QH k hk (show([83,97,109,101,83,105,116,101]:List UInt8).map Oct.low=Hd.OH from by decide) W)
 unfold qF at S1 S2 S3 S4 S5 S6 S7
 have GA:Hid (∀h' w',Hd.put h (k.data.toList.map Oct.low) v.data.toList=h'->vC g h' w w'->QL g (Hd.put h (k.data.toList.map Oct.low) v.data.toList) w (.returned (.tuple #[])) w'):=zA7 (fun h' w' e kk=>by rw[e];exact⟨rfl,kk⟩)
 generalize hpost:QL g (Hd.put h (k.data.toList.map Oct.low) v.data.toList) w=post at*
 clear hpost
 have HW:=zA7 hw
 have C1:=zA7 (fun W hW=>bAN v W hW (by unfold maxLen;omega))
 have C2:=zA7 (fun W=>jA9 v W (by omega))
 have C3:=zA7 (fun W=>Tryz.strings_TrimPrefix v ⟨#[46]⟩ W)
 have e3:(⟨#[46]⟩:ByteArray).data.toList= [46]:=rfl
 rw[e3,Hd.lAU]at C3
 have lS:Hid (∀W,Calls Tryz.prog 144 #[.string ⟨(Hd.pC v.data.toList).toArray⟩] W (VC W.heap.size ((Hd.pC v.data.toList).map Oct.low) W)):=zA7 (fun W=>by
  have:=oX ⟨(Hd.pC v.data.toList).toArray⟩ W (by
   have e:(⟨(Hd.pC v.data.toList).toArray⟩:ByteArray).size=(Hd.pC v.data.toList).length:=by show(List.toArray _).size=_;simp
   have:=Hd.lAS v.data.toList
   omega)
  exact this)
 have C4:=zA7 (fun W=>jAc v W)
 have C7:=zA7 (fun W hW=>jAd v W hW (by unfold maxLen;omega))
 unfold AF at C1
 unfold AJ at C2
 unfold VC at lS
 unfold TL at C7
 have P1:=zA7 (fun n=> @Hd.iAT h (k.data.toList.map Oct.low) v.data.toList n hvl)
 have rT:=zA7 (fun n=> @Hd.iAS h (k.data.toList.map Oct.low) v.data.toList n hvl)
 have P2:=zA7 (fun n=> @Hd.iAQ h (k.data.toList.map Oct.low) v.data.toList n hvl)
 have sT:=zA7 (@Hd.iAP h (k.data.toList.map Oct.low) v.data.toList hvl)
 have P3:=zA7 (@Hd.iAR h (k.data.toList.map Oct.low) v.data.toList hvl)
 have P4:=zA7 (@Hd.jA0 h (k.data.toList.map Oct.low) v.data.toList hvl)
 have P5:=zA7 (@Hd.jA1 h (k.data.toList.map Oct.low) v.data.toList hvl)
 have P6:=zA7 (@Hd.iAZ h (k.data.toList.map Oct.low) v.data.toList hvl)
 have P7:=zA7 (@Hd.jA2 h (k.data.toList.map Oct.low) v.data.toList hvl)
 have PN:=zA7 (fun hh=> @Hd.MY h (k.data.toList.map Oct.low) v.data.toList hh)
 obtain⟨⟨mo,mb⟩,hmo⟩: ∃o,Dt.OA v.data.toList=o:=⟨_,rfl⟩
 obtain⟨ag,hag⟩: ∃o,Hd.XC v.data.toList=o:=⟨_,rfl⟩
 rw[hmo]at C1 P1 rT
 rw[hag]at C2 P2 sT
 generalize(if v.data.toList.head?=some 47 then v.data.toList else [])=pa at*
 generalize Hd.KD (v.data.toList.map Oct.low)=sm at*
 generalize(Hd.pC v.data.toList).map Oct.low=dm at*
 generalize(⟨(Hd.pC v.data.toList).toArray⟩:ByteArray)=ud at*
 generalize Hd.put h (k.data.toList.map Oct.low) v.data.toList=res at*
 generalize k.data.toList.map Oct.low=K at*
 clear hw hR hk hv hvl e3 hmo hag
 obtain⟨b1,hb1⟩: ∃b,decide (K=Hd.KG)=b:=⟨_,rfl⟩
 obtain⟨b2,hb2⟩: ∃b,decide (K=Hd.JG)=b:=⟨_,rfl⟩
 obtain⟨b3,hb3⟩: ∃b,decide (K=Hd.KH)=b:=⟨_,rfl⟩
 obtain⟨b4,hb4⟩: ∃b,decide (K=Hd.MH)=b:=⟨_,rfl⟩
 obtain⟨b5,hb5⟩: ∃b,decide (K=Hd.NH)=b:=⟨_,rfl⟩
 obtain⟨b6,hb6⟩: ∃b,decide (K=Hd.LH)=b:=⟨_,rfl⟩
 obtain⟨b7,CH⟩: ∃b,decide (K=Hd.OH)=b:=⟨_,rfl⟩
 rw[hb1]at S1
 rw[hb2]at S2
 rw[hb3]at S3
 rw[hb4]at S4
 rw[hb5]at S5
 rw[hb6]at S6
 rw[CH]at S7
 have B1:=zA7 hb1
 have B2:=zA7 hb2
 have B3:=zA7 hb3
 have B4:=zA7 hb4
 have B5:=zA7 hb5
 have B6:=zA7 hb6
 have B7:=zA7 CH
 clear hb1 hb2 hb3 hb4 hb5 hb6 CH
 go_enter Tryz.func94,Tryz.ntmps94
 go_wp2_with fail
 refine(S1.out _).mono ?_
 rintro e w1 ⟨rfl,d1⟩
 have K1:=K0.on (d1.below _)
 clear K0 d1 S1
 cases b1 with
 |true=>
  have hK:=zB1 B1.out
  have HW1:=(HW.out _ K1.below).MC
  go_wp2_with fail
  refine(C1.out _ HW1).mono ?_
  rintro e w2 ⟨rfl,d2⟩
  have K2:=K1.on d2
  cases mb with
  |true=>
   have HR:=zA7 (GA.out _ _ (P1.out mo hK rfl) (K2.two (eAv h mo)))
   have q1:=K2.cell 4
   have f1:=K2.free 4
   have q2:=K2.cell 5
   have f2:=K2.free 5
   clear hK
   go_wp2
   go_end0
   exact HR.out
  |false=>
   have HR:=zA7 (GA.out _ _ (rT.out mo hK rfl) K2)
   clear hK
   go_wp2
   go_end0
   exact HR.out
 |false=>
 go_wp2_with fail
 refine(S2.out _).mono ?_
 rintro e w2 ⟨rfl,d1⟩
 have K2:=K1.on (d1.below _)
 clear K1 d1 S2
 cases b2 with
 |true=>
  have hK:=zB1 B2.out
  go_wp2_with fail
  refine(C2.out _).mono ?_
  rintro e w3 ⟨rfl,rfl⟩
  cases ag with
  |some n=>
   have HR:=zA7 (GA.out _ _ (P2.out n hK rfl) (K2.two (eAt h n)))
   have q1:=K2.cell 6
   have f1:=K2.free 6
   have q2:=K2.cell 7
   have f2:=K2.free 7
   clear hK
   go_wp2
   go_end0
   exact HR.out
  |none=>
   have HR:=zA7 (GA.out _ _ (sT.out hK rfl) K2)
   clear hK
   go_wp2
   go_end0
   exact HR.out
 |false=>
 go_wp2_with fail
 refine(S3.out _).mono ?_
 rintro e w3 ⟨rfl,d1⟩
 have K3:=K2.on (d1.below _)
 clear K2 d1 S3
 cases b3 with
 |true=>
  have hK:=zB1 B3.out
  go_wp2_with fail
  refine(C3.out _).mono ?_
  rintro e w4 ⟨rfl,rfl⟩
  go_wp2_with fail
  refine(lS.out _).mono ?_
  rintro e w5 ⟨rfl,d5⟩
  have K4:=K3.on d5
  have HR:=zA7 (GA.out _ _ (P3.out hK) (K4.one (eAu h dm)))
  have q1:=K4.cell 2
  have f1:=K4.free 2
  clear hK
  go_wp2
  go_end0
  exact HR.out
 |false=>
 go_wp2_with fail
 refine(S4.out _).mono ?_
 rintro e w4 ⟨rfl,d1⟩
 have K4:=K3.on (d1.below _)
 clear K3 d1 S4
 cases b4 with
 |true=>
  have hK:=zB1 B4.out
  go_wp2_with fail
  refine(C4.out _).mono ?_
  rintro e w5 ⟨rfl,rfl⟩
  have HR:=zA7 (GA.out _ _ (P4.out hK) (K4.one (eAz h pa)))
  have q1:=K4.cell 3
  have f1:=K4.free 3
  clear hK
  go_wp2
  go_end0
  exact HR.out
 |false=>
 go_wp2_with fail
 refine(S5.out _).mono ?_
 rintro e w5 ⟨rfl,d1⟩
 have K5:=K4.on (d1.below _)
 clear K4 d1 S5
 cases b5 with
 |true=>
  have hK:=zB1 B5.out
  have HR:=zA7 (GA.out _ _ (P5.out hK) (K5.one (eAC h)))
  have q1:=K5.cell 8
  have f1:=K5.free 8
  clear hK
  go_wp2
  go_end0
  exact HR.out
 |false=>
 go_wp2_with fail
 refine(S6.out _).mono ?_
 rintro e w6 ⟨rfl,d1⟩
 have K6:=K5.on (d1.below _)
 clear K5 d1 S6
 cases b6 with
 |true=>
  have hK:=zB1 B6.out
  have HR:=zA7 (GA.out _ _ (P6.out hK) (K6.one (eAy h)))
  have q1:=K6.cell 9
  have f1:=K6.free 9
  clear hK
  go_wp2
  go_end0
  exact HR.out
 |false=>
 go_wp2_with fail
 refine(S7.out _).mono ?_
 rintro e w7 ⟨rfl,d1⟩
 have K7:=K6.on (d1.below _)
 clear K6 d1 S7
 cases b7 with
 |true=>
  have hK:=zB1 B7.out
  have HW7:=HW.out _ K7.below
  go_wp2_with fail
  refine(C7.out _ HW7).mono ?_
  rintro e w8 ⟨rfl,d8⟩
  have K8:=K7.on d8
  have HR:=zA7 (GA.out _ _ (P7.out hK) (K8.one (eAB h sm)))
  have q1:=K8.cell 10
  have f1:=K8.free 10
  clear hK
  go_wp2
  go_end0
  exact HR.out
 |false=>
 have HR:=zA7 (GA.out _ _ (PN.out ⟨of_decide_eq_false B1.out,of_decide_eq_false B2.out,of_decide_eq_false B3.out,of_decide_eq_false B4.out,of_decide_eq_false B5.out,of_decide_eq_false B6.out,of_decide_eq_false B7.out⟩) K7)
 go_wp2
 go_end0
 exact HR.out
end Go.Proofs.YtdaaoopkkhfbhaaGreatDoor
namespace Go.Proofs.YtdaaoopkkhfbhaaGreatDoor
open Go.RowKit
theorem eAA {o:Int×Hd.Head}{n:Int}{h:Hd.Head}(e:o=(n,h)){w w':World}(hb:Below w.heap.size w w'):ZJ o w (.returned (.tuple #[.agg (headA h),.int .i64 n])) w':=by subst e;exact⟨rfl,hb⟩
theorem size_mk(l:List UInt8):(⟨l.toArray⟩:ByteArray).size=l.length:=by show(List.toArray _).size=_;simp
theorem VU(l:List UInt8):(⟨l.toArray⟩:ByteArray).toList.isEmpty=decide (l= []):=by
 rw[Oct.aB]
 show List.isEmpty l=_
 cases l<;>rfl
theorem aQ(s:ByteArray)(w:World)(hw:mB w)(hs:s.size<=maxLen):
  Calls Tryz.prog 49 #[.string s] w (ZJ (Hd.parse s.data.toList) w):=by
 have z0:=cO
 have HZ:Hid (∀h:Hd.Head,(headA h).size=11):=zA7 (fun h=>rfl)
 have GA:Hid (∀n h w',Hd.parse s.data.toList=(n,h)->Below w.heap.size w w'->ZJ (Hd.parse s.data.toList) w (.returned (.tuple #[.agg (headA h),.int .i64 n])) w'):=zA7 (fun n h w' e hb=>eAA e hb)
 generalize hpost:ZJ (Hd.parse s.data.toList) w=post at*
 clear hpost
 have HW:Hid (∀W,Below w.heap.size w W->mB W):=zA7 (fun W h=>hw.below h)
 have C1:=zA7 (fun W=>eAk s W hs)
 cases hbad:s.data.toList.any Hd.ED with
 |true=>
  have HQ:=zA7 (fun w'=>GA.out 81 Hd.zero w' (by unfold Hd.parse;rw[if_pos hbad]))
  rw[hbad]at C1
  clear hbad GA hs
  go_enter Tryz.func49,Tryz.ntmps49
  go_wp2_with fail
  have R0:=Row.new w 114 (headA Hd.zero)
  have B0:=(Below.refl w.heap.size w).alloc (zB3 _) (.cells (headA Hd.zero) 114)
  generalize w.alloc (.cells (headA Hd.zero) 114)=w0 at*
  refine(C1.out _).mono ?_
  rintro e v1 ⟨rfl,rfl⟩
  go_wp2_with (refine wpList_store_row rfl 114 _ _ rfl w.heap.size (headA Hd.zero) rfl rfl 114 _ R0 (by rw[HZ.out];exact CB) rfl (MF _) ?_)
  exact bodyPost_ret (v:= .tuple #[.agg (headA Hd.zero),.int .i64 81]) (yA rfl _ _ w.heap.size _ _ _ rfl _ rfl (R0.whole _) Tryz.underlying114 rfl (by rw[HZ.out];exact CB)) rfl (HQ.out _ (below_setRow B0 (zB3 _) _))
 |false=>
 have QI:Hd.parse s.data.toList=Hd.said (Oct.split 59 s.data.toList):=by unfold Hd.parse;rw[if_neg (by rw[hbad];simp)]
 rw[Hd.kA0]at QI
 rw[hbad]at C1
 have C2:=zA7 (fun W=>vP s 59 W hs)
 unfold gE at C2
 obtain⟨q1,q2⟩:=Hd.xU s.data.toList
 rw[q1,q2]at C2
 have l1:=Hd.AY s.data.toList
 have l2:=Hd.ZY s.data.toList
 have l3:=Hd.iAa (Hd.gD s.data.toList)
 rw[Oct.oA]at l1 l2
 obtain⟨p,hp⟩: ∃p:ByteArray,(⟨(Hd.gD s.data.toList).toArray⟩:ByteArray)=p:=⟨_,rfl⟩
 obtain⟨r,hr⟩: ∃p:ByteArray,(⟨(Hd.wD s.data.toList).toArray⟩:ByteArray)=p:=⟨_,rfl⟩
 have hp2:p.data.toList=Hd.gD s.data.toList:=by rw[<-hp]
 have hr2:r.data.toList=Hd.wD s.data.toList:=by rw[<-hr]
 rw[hp,hr]at C2
 rw[<-hp2]at l1 l3 QI
 rw[<-hr2]at l2 QI
 rw[Oct.oA]at l1 l2 l3
 have C3:=zA7 (fun W=>jAb p W (Nat.le_trans l1 hs))
 unfold dK at C3
 obtain⟨n,hn⟩: ∃p2:ByteArray,(⟨(Hd.pair p.data.toList).1.toArray⟩:ByteArray)=p2:=⟨_,rfl⟩
 obtain⟨v,hv⟩: ∃p2:ByteArray,(⟨(Hd.pair p.data.toList).2.toArray⟩:ByteArray)=p2:=⟨_,rfl⟩
 rw[hn,hv]at C3
 have hn1:n.toList.isEmpty=decide ((Hd.pair p.data.toList).1= []):=by rw[<-hn,VU]
 have hv1:v.toList.isEmpty=decide ((Hd.pair p.data.toList).2= []):=by rw[<-hv,VU]
 have hn2:n.size=(Hd.pair p.data.toList).1.length:=by rw[<-hn,size_mk]
 have hv2:v.size=(Hd.pair p.data.toList).2.length:=by rw[<-hv,size_mk]
 rw[<-hn2,<-hv2]at l3 QI
 have HZ2:Hid (((headA Hd.zero).setIfInBounds 0 (.string n)).setIfInBounds 1 (.string v)=headA (Hd.start p.data.toList)):=zA7 (by rw[<-hn,<-hv];rfl)
 clear hn hv hp hr hp2 hr2 hn2 hv2 q1 q2 hbad
 obtain⟨bn,hbn⟩: ∃b,decide ((Hd.pair p.data.toList).1= [])=b:=⟨_,rfl⟩
 obtain⟨bv,hbv⟩: ∃b,decide ((Hd.pair p.data.toList).2= [])=b:=⟨_,rfl⟩
 rw[hbn]at hn1
 rw[hbv]at hv1
 have HE:Hid (((bn&&bv)=true↔ ((Hd.pair p.data.toList).1= []/\(Hd.pair p.data.toList).2= []))):=zA7 (by rw[<-hbn,<-hbv,Bool.and_eq_true,decide_eq_true_iff,decide_eq_true_iff])
 clear hbn hbv
 have QE:=zA7 QI
 clear QI
 generalize hst:Hd.start p.data.toList=st at*
 clear hst
 have hsm:s.size<=9223372036854775807:=hs
 have HS:=zA7 hs
 clear hs
 go_enter Tryz.func49,Tryz.ntmps49
 go_wp2_with fail
 have R0:=Row.new w 114 (headA Hd.zero)
 have B0:=(Below.refl w.heap.size w).alloc (zB3 _) (.cells (headA Hd.zero) 114)
 generalize w.alloc (.cells (headA Hd.zero) 114)=w0 at*
 refine(C1.out _).mono ?_
 rintro e v1 ⟨rfl,rfl⟩
 go_wp2_with fail
 refine(C2.out _).mono ?_
 rintro e v2 ⟨rfl,d2⟩
 have R2:=R0.stays d2
 have B2:=B0.trans (d2.mono B0.size)
 clear R0 B0 d2
 go_wp2_with fail
 refine(C3.out _).mono ?_
 rintro e v3 ⟨rfl,d3⟩
 have R3:=R2.stays d3
 have B3:=B2.trans (d3.mono B2.size)
 clear R2 B2 d3
 go_upto_region 5 with fail
 go_cut [33] (fun sx wx=>sx= .bool (bn&&bv)/\v3=wx)
 case first=>
  cases bn with
  |false=>go_wp2;go_meet;exact⟨rfl,rfl⟩
  |true=>
  cases bv with
  |false=>go_wp2;go_meet;exact⟨rfl,rfl⟩
  |true=>go_wp2;go_meet;exact⟨rfl,rfl⟩
 case rest=>
 obtain⟨rfl,rfl⟩:=hcut
 cases hB:(bn&&bv)with
 |true=>
  have HQ:=zA7 (fun w'=>GA.out 82 Hd.zero w' (by rw[QE.out,if_pos (HE.out.1 hB)]))
  clear hB HE QE GA
  go_wp2_with (refine wpList_store_row rfl 114 _ _ rfl w.heap.size (headA Hd.zero) rfl rfl 114 _ R3 (by rw[HZ.out];exact CB) rfl (MF _) ?_)
  exact bodyPost_ret (v:= .tuple #[.agg (headA Hd.zero),.int .i64 82]) (yA rfl _ _ w.heap.size _ _ _ rfl _ rfl (R3.whole _) Tryz.underlying114 rfl (by rw[HZ.out];exact CB)) rfl (HQ.out _ (below_setRow B3 (zB3 _) _))
 |false=>
 have gH:=zA7 (QE.out.trans (if_neg (fun h=>by rw[HE.out.2 h]at hB;cases hB)))
 clear hB HE QE
 by_cases hlong:4096<n.size+v.size
 ·have HQ:=zA7 (fun w'=>GA.out 83 Hd.zero w' (by rw[gH.out,if_pos hlong]))
  have eAS:(4096:Int)<(n.size:Int)+(v.size:Int):=by omega
  have hwr:IntKind.i64.wrap ((n.size:Int)+(v.size:Int))=(n.size:Int)+(v.size:Int):=by rw[IntKind.wrap_i64];omega
  clear gH GA
  go_wp2_with (refine wpList_store_row rfl 114 _ _ rfl w.heap.size (headA Hd.zero) rfl rfl 114 _ R3 (by rw[HZ.out];exact CB) rfl (MF _) ?_)
  exact bodyPost_ret (v:= .tuple #[.agg (headA Hd.zero),.int .i64 83]) (yA rfl _ _ w.heap.size _ _ _ rfl _ rfl (R3.whole _) Tryz.underlying114 rfl (by rw[HZ.out];exact CB)) rfl (HQ.out _ (below_setRow B3 (zB3 _) _))
 have QS:=zA7 (gH.out.trans (if_neg hlong))
 have eAS: ¬(4096:Int)<(n.size:Int)+(v.size:Int):=by omega
 have hwr:IntKind.i64.wrap ((n.size:Int)+(v.size:Int))=(n.size:Int)+(v.size:Int):=by rw[IntKind.wrap_i64];omega
 have hrs:r.size<=s.size:=by omega
 have HQ:Hid (∀res w',(Oct.split 59 r.data.toList).foldl Hd.attr st=res->Below w.heap.size w w'->post (.returned (.tuple #[.agg (headA res),.int .i64 0])) w'):=zA7 (fun res w' e hb=>GA.out 0 res w' (by rw[QS.out,e]) hb)
 clear gH QS GA hlong C1 C2 C3 l1 l2 l3
 obtain⟨T0,U0,V0,W0⟩:=PA 114 (headA Hd.zero) (headA st) B3 B3.size
 have z2:=HZ2.out
 go_wp2_with (refine wpList_store_row rfl 114 _ _ rfl v3.heap.size (headA st) rfl rfl 114 _ T0 (by rw[HZ.out];exact CB) rfl (MF _) ?_)
 have R4:=W0 _ _ _ R3
 have hlt:=R3.lt
 have hgs:=B3.size
 generalize(v3.alloc (.cells (headA Hd.zero) 114)).setRow v3.heap.size (headA st)=v4 at*
 have K0:vC v3.heap.size st v4 v4:=⟨U0,Below.refl _ _⟩
 generalize v3.heap.size=g at*
 have B4:=V0
 clear T0 U0 W0 V0 z2 HZ2 R3 B3
 obtain⟨res,hres⟩: ∃res,(Oct.split 59 r.data.toList).foldl Hd.attr st=res:=⟨_,rfl⟩
 have M9:=zA7 hres
 have kD:=zA7 (fun w'=>HQ.out res w' hres)
 have HG:=zA7 hgs
 clear hres HQ hgs
 simp only[Act.put]
 go_loopw [5] (fun x wr=> ∃(u:ByteArray)(T:Hd.Head),x= .string u/\u.size<=s.size/\(Oct.split 59 u.data.toList).foldl Hd.attr T=res/\vC g T v4 wr) (fun x _=>match x with| .string u=>u.size|_=>0)
 case atStart=>exact⟨r,st,rfl,hrs,M9.out,K0⟩
 case round=>
  clear K0
  obtain⟨u,T,rfl,RI,hT,K⟩:=hrel
  have xE:u.size<=maxLen:=Nat.le_trans RI HS.out
  by_cases hu:u.size=0
  ·have hnil:u.data.toList= []:=(Oct.lD u).2 hu
   rw[hnil,Hd.vK]at hT
   have hne:u.toList.isEmpty=true:=by rw[Oct.aB,hnil];rfl
   subst hT
   have R5:=K.row
   have R6:=R4.below K.below hlt
   have B6:=B4.trans (K.below.mono HG.out)
   clear hnil xE
   go_wp2_with (first
    |(refine jA 65 rfl ?_;refine pA rfl 114 _ rfl g rfl R5 Tryz.underlying114 rfl (by rw[HZ.out];exact CB) ?_)
    |(refine wpList_store_row rfl 114 _ _ rfl w.heap.size (headA T) rfl rfl 114 _ R6 (by rw[HZ.out];exact CB) rfl (MF _) ?_))
   exact bodyPost_ret (v:= .tuple #[.agg (headA T),.int .i64 0]) (yA rfl _ _ w.heap.size _ _ _ rfl _ rfl (R6.whole _) Tryz.underlying114 rfl (by rw[HZ.out];exact CB)) rfl (kD.out _ (below_setRow B6 (zB3 _) _))
  ·have hne:u.toList.isEmpty=false:=by
    rw[Oct.aB,Bool.eq_false_iff]
    intro h
    exact hu ((Oct.lD u).1 (List.isEmpty_iff.1 h))
   have D1:=zA7 (fun W=>vP u 59 W xE)
   unfold gE at D1
   obtain⟨q1,q2⟩:=Hd.xU u.data.toList
   rw[q1,q2]at D1
   have m1:=Hd.AY u.data.toList
   have m2:=Hd.ZY u.data.toList
   have m3:=Hd.aAy (Hd.gD u.data.toList)
   rw[Oct.oA]at m1 m2
   rw[Hd.dAz]at hT
   obtain⟨pc,hp⟩: ∃p:ByteArray,(⟨(Hd.gD u.data.toList).toArray⟩:ByteArray)=p:=⟨_,rfl⟩
   obtain⟨rc,hr⟩: ∃p:ByteArray,(⟨(Hd.wD u.data.toList).toArray⟩:ByteArray)=p:=⟨_,rfl⟩
   have hp2:pc.data.toList=Hd.gD u.data.toList:=by rw[<-hp]
   have hr2:rc.data.toList=Hd.wD u.data.toList:=by rw[<-hr]
   rw[hp,hr]at D1
   rw[<-hp2]at m1 m3 hT
   rw[<-hr2]at m2 hT
   rw[Oct.oA]at m1 m2 m3
   have D2:=zA7 (fun W=>tU pc W (Nat.le_trans m1 xE))
   unfold PL at D2
   obtain⟨k,hk⟩: ∃p2:ByteArray,(⟨(Hd.ahead pc.data.toList).toArray⟩:ByteArray)=p2:=⟨_,rfl⟩
   obtain⟨v,hv⟩: ∃p2:ByteArray,(⟨(Hd.behind pc.data.toList).toArray⟩:ByteArray)=p2:=⟨_,rfl⟩
   have hk2:k.data.toList=Hd.ahead pc.data.toList:=by rw[<-hk]
   have hv2:v.data.toList=Hd.behind pc.data.toList:=by rw[<-hv]
   rw[hk,hv]at D2
   have hks:k.size<=maxLen:=by rw[<-Oct.oA,hk2];exact Nat.le_trans m3 (Nat.le_trans m1 xE)
   have hvs:v.size=(Hd.behind pc.data.toList).length:=by rw[<-Oct.oA,hv2]
   by_cases hlong:1024<v.size
   ·rw[Hd.aAM T (by rw[<-hvs];exact hlong)]at hT
    have HT:=zA7 hT
    have hl1: ¬(v.size:Int)<=1024:=by omega
    clear hT hp hr hp2 hr2 hk hv hk2 hv2 hvs hks q1 q2 m3 xE
    go_wp2_with fail
    refine(D1.out _).mono ?_
    rintro e w5 ⟨rfl,d5⟩
    have K5:=K.on d5
    clear d5 K
    go_wp2_with fail
    refine(D2.out _).mono ?_
    rintro e w6 ⟨rfl,d6⟩
    have K6:=K5.on d6
    clear d6 K5
    go_wp2
    go_roundw
    case rel=>exact⟨rc,T,rfl,by omega,HT.out,K6⟩
    case measure=>simp;omega
   ·have D3:=zA7 (fun W hW hR=>lA0 T k v g W hW hR hks (by omega))
    unfold QL at D3
    rw[Hd.aAO,<-hk2,<-hv2]at hT
    have HT:=zA7 hT
    have hl1:(v.size:Int)<=1024:=by omega
    have HWg:Hid (∀W,Below g v4 W->mB W):=zA7 (fun W h=>HW.out W (B4.trans (h.mono HG.out)))
    clear hT hp hr hp2 hr2 hk hv hk2 hv2 hvs hks q1 q2 m3 xE
    generalize Hd.put T (k.data.toList.map Oct.low) v.data.toList=T2 at*
    go_wp2_with fail
    refine(D1.out _).mono ?_
    rintro e w5 ⟨rfl,d5⟩
    have K5:=K.on d5
    clear d5 K
    go_wp2_with fail
    refine(D2.out _).mono ?_
    rintro e w6 ⟨rfl,d6⟩
    have K6:=K5.on d6
    clear d6 K5
    go_wp2_with fail
    refine(D3.out _ (fun W hW=>HWg.out W (K6.below.trans hW)) K6.row).mono ?_
    rintro e w7 ⟨rfl,k7⟩
    have K7:vC g T2 v4 w7:=⟨k7.row,K6.below.trans k7.below⟩
    go_wp2
    go_roundw
    case rel=>exact⟨rc,T2,rfl,by omega,HT.out,K7⟩
    case measure=>simp;omega
end Go.Proofs.YtdaaoopkkhfbhaaGreatDoor
namespace Go.Proofs.YtdaaoopkkhfbhaaGreatDoor
open Go.RowKit
theorem pY(c:UInt8)(w:World):
  Calls Tryz.prog 145 #[.int .u8 (c.toNat:Int)] w fun e w'=>e= .returned (.bool (Ur.EE c))/\w=w':=by
 have hc:c.toNat<256:=c.toNat_lt
 go_enter Tryz.func145,Tryz.ntmps145
 go_wp2
 all_goals
  go_ret
  exact⟨tA (by rw[Bool.eq_iff_iff];simp[Ur.EE];try omega),rfl⟩
namespace Ur
theorem VK(l:List UInt8)(c:UInt8):Lib.hasPrefix l [c]=decide (l.head?=some c):=by
 cases l with
 |nil=>rfl
 |cons d r=>
  show((c==d)&&true)=decide (some d=some c)
  rw[Bool.and_true,Bool.eq_iff_iff,beq_iff_eq,decide_eq_true_eq,Option.some.injEq]
  exact⟨fun h=>h.symm,fun h=>h.symm⟩
theorem iAv {s:ByteArray}(h:2048<s.size):cC s.data.toList=false:=by
 unfold cC
 rw[zA8 (show ¬(1<=s.data.toList.length/\s.data.toList.length<=2048) by rw[Oct.oA];omega)]
 simp
theorem iAu {s:ByteArray}(h:s.data.toList.head?≠some 47):cC s.data.toList=false:=by
 unfold cC
 rw[zA8 h]
 simp
theorem SK {s:ByteArray}{k:Nat}(hk:k<s.size)(h:EE s[k]=false):cC s.data.toList=false:=by
 unfold cC
 rw[Oct.VL s k hk h];rfl
theorem iAz {s:ByteArray}{k:Nat}(hk:s.size<=k)(hl:s.size<=2048)(hh:s.data.toList.head?=some 47)(h:(s.data.toList.take k).all EE=true):cC s.data.toList=true:=by
 rw[Oct.oD s k hk]at h
 have hp:1<=s.data.toList.length:=by
  cases e:s.data.toList with
  |nil=>rw[e]at hh;cases hh
  |cons c r=>simp
 unfold cC
 rw[h,zA9 (show 1<=s.data.toList.length/\s.data.toList.length<=2048 from⟨hp,by rw[Oct.oA];exact hl⟩),zA9 hh];rfl
end Ur
theorem iAr(s:ByteArray)(w:World):
  Calls Tryz.prog 89 #[.string s] w fun e w'=>e= .returned (.bool (Ur.cC s.data.toList))/\w=w':=by
 have H1:=zA7 (fun W=>Tryz.strings_HasPrefix s ⟨#[47]⟩ W)
 have e1:(⟨#[47]⟩:ByteArray).data.toList= [47]:=rfl
 rw[e1,Ur.VK]at H1
 clear e1
 by_cases hl:2048<s.size
 ·have hl1:(2048:Int)<(s.size:Int):=by omega
  have HN:=zA7 (Ur.iAv hl)
  clear hl
  go_enter Tryz.func89,Tryz.ntmps89
  go_wp2
  go_ret
  exact⟨tA HN.out.symm,rfl⟩
 have hl1: ¬(2048:Int)<(s.size:Int):=by omega
 by_cases hh:s.data.toList.head?=some 47
 ·rw[zA9 hh]at H1
  have HH:=zA7 hh
  clear hh
  go_enter Tryz.func89,Tryz.ntmps89
  go_wp2_with (go_at_call 82;refine(H1.out _).mono ?_;rintro e w' ⟨rfl,hq⟩;rw[hq])
  go_loop [3,14] (fun _ i=> ∃k:Nat,k<=s.size/\i= .int .i64 k/\(s.data.toList.take k).all Ur.EE=true) (fun _ i=>s.size- (intOf i).toNat)
  case atStart=>exact⟨0,Nat.zero_le _,rfl,by simp⟩
  case round=>
   obtain⟨k,hk,rfl,hall⟩:=hrel
   have HA:=zA7 hall
   clear hall
   by_cases hlt:k<s.size
   ·cases hq:Ur.EE s[k]with
    |true=>
     go_wp2_with (go_at_call 145;refine(pY _ _).mono ?_;rintro e w' ⟨rfl,rfl⟩;rw[hq])
     go_round
     case rel=>exact⟨k+1,by omega,by go_num,Oct.pH s k hlt HA.out hq⟩
     case measure=>simp[intOf];omega
    |false=>
     go_wp2_with (go_at_call 145;refine(pY _ _).mono ?_;rintro e w' ⟨rfl,rfl⟩;rw[hq])
     go_ret
     exact⟨tA (Ur.SK hlt hq).symm,rfl⟩
   ·go_wp2
    go_ret
    exact⟨tA (Ur.iAz (k:=k) (by omega) (by omega) HH.out HA.out).symm,rfl⟩
 ·rw[zA8 hh]at H1
  have HN:=zA7 (Ur.iAu hh)
  clear hh
  go_enter Tryz.func89,Tryz.ntmps89
  go_wp2_with (go_at_call 82;refine(H1.out _).mono ?_;rintro e w' ⟨rfl,hq⟩;rw[hq])
  go_ret
  exact⟨tA HN.out.symm,rfl⟩
namespace Ur
end Ur
namespace Ur
end Ur
namespace Ur
def gI(b:List UInt8):Bool:=decide (b≠ []/\b.head?≠some 58)
theorem kAO(b:List UInt8):gI b=((!decide (b= []))&& (!decide (b.head?=some 58))):=by
 unfold gI
 rw[Bool.eq_iff_iff]
 simp
end Ur
end Go.Proofs.YtdaaoopkkhfbhaaGreatDoor
namespace Go.Proofs.YtdaaoopkkhfbhaaGreatDoor
open Go.RowKit
namespace Ur
theorem dAb {s some:ByteArray}{i k:Nat}(hi:i<s.size)(hk:k<some.size)(hn: ∀c∈s.data.toList.take i,some.data.toList.contains c=false)(h:s[i]=some[k]):find s.data.toList some.data.toList=i:=by
 have hi2:i<s.data.toList.length:=by rw[Oct.oA];exact hi
 unfold find
 rw[List.findIdx_eq hi2]
 refine⟨?_,fun j hj=>?_⟩
 ·rw[List.contains_iff_mem,Oct.MI s i hi,h,<-Oct.MI some k hk]
  exact List.getElem_mem _
 ·have:=hn (s.data.toList[j]'(by omega)) (by
   rw[List.mem_take_iff_getElem]
   exact⟨j,by omega,rfl⟩)
  exact this
theorem dA9 {s some:ByteArray}{i:Nat}(hi:s.size<=i)(hn: ∀c∈s.data.toList.take i,some.data.toList.contains c=false):find s.data.toList some.data.toList=s.size:=by
 rw[Oct.oD s i hi]at hn
 rw[bF hn,Oct.oA]
theorem dAd {s some:ByteArray}{i k:Nat}(hi:i<s.size)(hk:some.size<=k)(hn: ∀c∈s.data.toList.take i,some.data.toList.contains c=false)(h: ∀d∈some.data.toList.take k,d≠s[i]): ∀c∈s.data.toList.take (i+1),some.data.toList.contains c=false:=by
 intro c hc
 rw[Oct.iI s i hi]at hc
 rcases List.mem_append.1 hc with hc|hc
 ·exact hn c hc
 ·rw[List.mem_singleton.1 hc]
  rw[Oct.oD some k hk]at h
  cases e:some.data.toList.contains s[i]with
  |false=>rfl
  |true=>exact absurd rfl (h _ (List.contains_iff_mem.1 e))
end Ur
theorem nM(s some:ByteArray)(w:World)(hs:s.size<=maxLen)(hz:some.size<=1000):
  Calls Tryz.prog 63 #[.string s,.string some] w fun e w'=>e= .returned (.int .i64 (Ur.find s.data.toList some.data.toList:Nat))/\eC w w':=by
 unfold maxLen at hs
 go_enter Tryz.func63,Tryz.ntmps63
 go_wp2
 go_loopw [5,6] (fun v _ wr=> ∃i:Nat,i<=s.size/\v= .int .i64 (i:Int)/\Hid (∀c∈s.data.toList.take i,some.data.toList.contains c=false)/\eC w wr) (fun v _ _=>s.size- (intOf v).toNat)
 case atStart=>exact⟨0,Nat.zero_le _,rfl,zA7 (by simp),eC.refl _⟩
 case round=>
  obtain⟨i,hi,rfl,HI,hd⟩:=hrel
  by_cases hlt:i<s.size
  ·go_wp2
   go_loopw [6] (fun v wr2=> ∃k:Nat,k<=some.size/\v= .int .i64 (k:Int)/\Hid (∀d∈some.data.toList.take k,d≠s[i])/\eC w wr2) (fun v _=>some.size- (intOf v).toNat)
   case atStart=>exact⟨0,Nat.zero_le _,rfl,zA7 (by simp),hd⟩
   case round=>
    clear hd
    obtain⟨k,hk,rfl,HK,hd⟩:=hrel
    by_cases hltk:k<some.size
    ·by_cases he:s[i]=some[k]
     ·have he1:((s[i].toNat:Int)==(some[k].toNat:Int))=true:=by rw[he];simp
      have HE:=zA7 he
      clear he
      go_wp2
      go_quiet (fail)
      go_wp2
      go_ret
      exact⟨BC (by rw[Ur.dAb hlt hltk HI.out HE.out]),hd.more _⟩
     ·have he1:((s[i].toNat:Int)==(some[k].toNat:Int))=false:=by rw[beq_eq_false_iff_ne];intro e;exact he (Oct.TB (by omega))
      have HE:=zA7 he
      clear he
      go_wp2
      go_quiet (fail)
      go_wp2
      go_roundw
      case rel=>exact⟨k+1,by omega,by go_num,zA7 (by
       intro d hd
       rw[Oct.iI some k hltk]at hd
       rcases List.mem_append.1 hd with hd|hd
       ·exact HK.out d hd
       ·rw[List.mem_singleton.1 hd];exact fun e=>HE.out e.symm),hd.more _⟩
      case measure=>simp[intOf];omega
    ·go_wp2
     go_roundw
     case rel=>exact⟨i+1,by omega,by go_num,zA7 (Ur.dAd hlt (by omega) HI.out HK.out),hd⟩
     case measure=>simp[intOf];omega
  ·go_wp2
   go_ret
   exact⟨BC (by rw[Ur.dA9 (i:=i) (by omega) HI.out]),hd⟩
namespace Ur
theorem iAx {s:ByteArray}(h:s.data.toList.all EE=true):cC s.data.toList=(decide (1<=s.size)&& (decide (s.size<=2048)&&decide (s.data.toList.head?=some 47))):=by
 unfold cC
 rw[h,Oct.oA,Bool.true_and,Bool.eq_iff_iff]
 simp[and_assoc]
end Ur
theorem jAp(s:ByteArray)(w:World)(hs:s.size<=maxLen):
  Calls Tryz.prog 66 #[.string s] w fun e w'=>e= .returned (.bool (Ur.cC s.data.toList))/\w=w':=by
 unfold maxLen at hs
 go_enter Tryz.func66,Tryz.ntmps66
 go_wp2
 go_loop [3] (fun i=> ∃k:Nat,k<=s.size/\i= .int .i64 k/\(s.data.toList.take k).all Ur.EE=true) (fun i=>s.size- (intOf i).toNat)
 case atStart=>exact⟨0,Nat.zero_le _,rfl,by simp⟩
 case round=>
  obtain⟨k,hk,rfl,hall⟩:=hrel
  have HA:=zA7 hall
  clear hall
  by_cases hlt:k<s.size
  ·have hq:Ur.EE s[k]= !((decide ((s[k].toNat:Int)<33))||((decide (126<(s[k].toNat:Int)))||(((s[k].toNat:Int)==63)||((s[k].toNat:Int)==35)))):=by
    rw[Bool.eq_iff_iff]
    simp[Ur.EE]
    omega
   have HQ:=zA7 hq
   clear hq
   by_cases h1:(s[k].toNat:Int)<33
   ·go_wp2
    go_ret
    exact⟨tA (Ur.SK hlt (by rw[HQ.out,zA9 h1];rfl)).symm,rfl⟩
   ·by_cases h2:(126:Int)<(s[k].toNat:Int)
    ·go_wp2
     go_ret
     exact⟨tA (Ur.SK hlt (by rw[HQ.out,zA9 h2];simp)).symm,rfl⟩
    ·cases h3:((s[k].toNat:Int)==63)with
     |true=>
      go_wp2
      go_ret
      exact⟨tA (Ur.SK hlt (by rw[HQ.out,h3];simp)).symm,rfl⟩
     |false=>
      cases h4:((s[k].toNat:Int)==35)with
      |true=>
       go_wp2
       go_ret
       exact⟨tA (Ur.SK hlt (by rw[HQ.out,h4];simp)).symm,rfl⟩
      |false=>
       go_wp2
       go_round
       case rel=>exact⟨k+1,by omega,by go_num,Oct.pH s k hlt HA.out (by rw[HQ.out,zA8 h1,zA8 h2,h3,h4];rfl)⟩
       case measure=>simp[intOf];omega
  ·have hP:=Ur.iAx (s:=s) (by rw[<-Oct.oD s k (by omega)];exact HA.out)
   by_cases hpos:1<=s.size
   ·have hb:=Oct.NF s (by omega)
    have h5:(s.data.toList.head?=some 47)↔ ((s[0].toNat:Int)==47)=true:=by
     rw[hb,beq_iff_eq,Option.some.injEq]
     exact⟨fun e=>by rw[e];rfl,fun e=>Oct.TB (by show _=47;omega)⟩
    have HP:Hid (Ur.cC s.data.toList=(decide ((s.size:Int)<=2048)&& ((s[0].toNat:Int)==47))):=zA7 (by
     rw[hP,zA9 hpos,Bool.true_and,Bool.eq_iff_iff]
     simp only[Bool.and_eq_true,decide_eq_true_eq,h5]
     refine and_congr (by omega) Iff.rfl)
    have rW:(1:Int)<=(s.size:Int):=by omega
    clear hP h5 hb HA
    go_wp2
    all_goals
     go_ret
     exact⟨tA (by rw[HP.out];simp_all<;>omega),rfl⟩
   ·have HP:Hid (Ur.cC s.data.toList=false):=zA7 (by rw[hP,zA8 hpos];rfl)
    have rW: ¬(1:Int)<=(s.size:Int):=by omega
    clear hP HA
    go_wp2
    go_ret
    exact⟨tA HP.out.symm,rfl⟩
end Go.Proofs.YtdaaoopkkhfbhaaGreatDoor
namespace Go.Proofs.YtdaaoopkkhfbhaaGreatDoor
open Go.RowKit
namespace Ur
theorem iAf {l:List UInt8}(h:scheme l=none):parse l=(41,zero)/\secure? l=false/\rest? l= []/\(scheme l).isSome=false:=by
 unfold parse secure? rest?
 rw[h];exact⟨rfl,rfl,rfl,rfl⟩
theorem iAg {l rest:List UInt8}{b:Bool}(h:scheme l=some (b,rest)):parse l=go b (place rest) (pathOf rest)/\secure? l=b/\rest? l=rest/\(scheme l).isSome=true:=by
 unfold parse secure? rest?
 rw[h];exact⟨rfl,rfl,rfl,rfl⟩
theorem kAc {l rest:List UInt8}{b:Bool}(h:scheme l=some (b,rest)):rest.length<=l.length:=by
 unfold scheme at h
 split at h
 ·obtain⟨_,rfl⟩:=Prod.mk.inj (zB2 h)
  rw[List.length_drop];omega
 ·split at h
  ·obtain⟨_,rfl⟩:=Prod.mk.inj (zB2 h)
   rw[List.length_drop];omega
  ·cases h
theorem dAO(b:Bool)(pl p:List UInt8):(go b pl p).2.host.addr.length=16:=by
 unfold go
 have hx:=bA.XH (pl.take (jB pl))
 cases e:bA.parse (pl.take (jB pl))with
 |none=>rfl
 |some h=>
  rw[e]at hx
  dsimp only
  split
  ·rfl
  ·split
   ·rfl
   ·split
    ·exact hx
    ·rfl
theorem iAe(l:List UInt8):(parse l).2.host.addr.length=16:=by
 unfold parse
 split
 ·rfl
 ·exact dAO _ _ _
theorem dAN {b:Bool}{pl p:List UInt8}(h:bA.parse (pl.take (jB pl))=none):go b pl p=(31,zero):=by
 unfold go
 rw[h]
theorem dAR {b:Bool}{pl p:List UInt8}(h:gI (pl.drop (jB pl))=true):go b pl p=(31,zero):=by
 unfold go
 split
 ·rfl
 ·rw[if_pos (zB1 h)]
theorem dAQ {b:Bool}{pl p:List UInt8}{x:bA.Host}(hx:bA.parse (pl.take (jB pl))=some x)(h:gI (pl.drop (jB pl))=false)(hp:(SD b (pl.drop (jB pl))).isSome=false):go b pl p=(42,zero):=by
 unfold go
 rw[hx]
 dsimp only
 rw[if_neg (of_decide_eq_false h)]
 cases e:SD b (pl.drop (jB pl))with
 |none=>rfl
 |some n=>rw[e]at hp;cases hp
theorem dAS {b:Bool}{pl p:List UInt8}{x:bA.Host}(hx:bA.parse (pl.take (jB pl))=some x)(h:gI (pl.drop (jB pl))=false)(hp:(SD b (pl.drop (jB pl))).isSome=true)(hq:cC p=true):go b pl p=(0,⟨b,x,(SD b (pl.drop (jB pl))).getD 0,p⟩):=by
 unfold go
 rw[hx]
 dsimp only
 rw[if_neg (of_decide_eq_false h)]
 cases e:SD b (pl.drop (jB pl))with
 |none=>rw[e]at hp;cases hp
 |some n=>dsimp only;rw[if_pos hq];rfl
theorem dAP {b:Bool}{pl p:List UInt8}{x:bA.Host}(hx:bA.parse (pl.take (jB pl))=some x)(h:gI (pl.drop (jB pl))=false)(hp:(SD b (pl.drop (jB pl))).isSome=true)(hq:cC p=false):go b pl p=(43,zero):=by
 unfold go
 rw[hx]
 dsimp only
 rw[if_neg (of_decide_eq_false h)]
 cases e:SD b (pl.drop (jB pl))with
 |none=>rw[e]at hp;cases hp
 |some n=>dsimp only;rw[if_neg (by rw[hq];simp)]
end Ur
end Go.Proofs.YtdaaoopkkhfbhaaGreatDoor
namespace Go.Proofs.YtdaaoopkkhfbhaaGreatDoor
open Go.RowKit
theorem mA0(u:Ur.URL)(b:Bool):(nA u).setIfInBounds 0 (.bool b)=nA {u with secure:=b} :=by
 unfold nA
 rw[zA1];rfl
theorem rZ {α:Type}{l m:List α}{i k:Nat}{v:α}(h:l.length+k=i):(l++m).set i v=l++m.set k v:=by
 rw[List.set_append_right _ _ (by omega)]
 congr 2
 omega
theorem I3(u:Ur.URL)(ha:u.host.addr.length=16)(n:Int):(nA u).setIfInBounds 19 (.int .i64 n)=nA {u with port:=n} :=by
 unfold nA
 rw[zA1]
 show(Value.bool u.secure::Value.int .i64 u.host.kind::gA u.host.name::(u.host.addr.map BA++ [Value.int .i64 u.port,gA u.path]).set 16 (.int .i64 n)).toArray=_
 rw[rZ (k:=0) (by simp[ha])];rfl
theorem VR(u:Ur.URL)(ha:u.host.addr.length=16)(s:ByteArray):(nA u).setIfInBounds 20 (.string s)=nA {u with path:=s.data.toList} :=by
 unfold nA
 rw[zA1]
 show(Value.bool u.secure::Value.int .i64 u.host.kind::gA u.host.name::(u.host.addr.map BA++ [Value.int .i64 u.port,gA u.path]).set 17 (.string s)).toArray=_
 rw[rZ (k:=1) (by simp[ha])];rfl
theorem lAZ(u:Ur.URL)(ha:u.host.addr.length=16)(h:bA.Host)(_hh:h.addr.length=16):((nA u).toList.take 1++(cA h).toList++(nA u).toList.drop (1+(cA h).size)).toArray=nA {u with host:=h} :=by
 have e:(nA u).toList=Value.bool u.secure::((cA u.host).toList++ [Value.int .i64 u.port,gA u.path]):=rfl
 have h1:(cA h).size=18:=XA h _hh
 have h2:(cA u.host).toList.length=18:=by rw[Array.length_toList,XA u.host ha]
 rw[e,h1]
 show([Value.bool u.secure]++(cA h).toList++((cA u.host).toList++ [Value.int .i64 u.port,gA u.path]).drop 18).toArray=_
 rw[List.drop_append_of_le_length (by omega),List.drop_of_length_le (by omega)];rfl
structure UB(r g:Nat)(u:Ur.URL)(w w':World):Prop where
 res:Row w' r 34 (nA Ur.zero)
 var:Row w' g 34 (nA u)
 ne:r≠g
 base:w.heap.size<=g
 below:Below w.heap.size w w'
section
variable {r g:Nat} {u u':Ur.URL} {w w' w'':World}
theorem UB.on (k:UB r g u w w')(hb:Below w'.heap.size w' w''):UB r g u w w'':=
 ⟨k.res.stays hb,k.var.stays hb,k.ne,k.base,k.below.trans (hb.mono k.below.size)⟩
theorem UB.put (k:UB r g u w w'){i:Nat}{v:Value}(hu:(nA u).setIfInBounds i v=nA u'):UB r g u' w (w'.setCell ⟨g,i,none⟩ v):=
 ⟨k.res.other (p:=⟨g,i,none⟩) k.ne v,by have:=k.var.set i v;rw[hu]at this;exact this,k.ne,k.base,k.below.setCell (p:=⟨g,i,none⟩) k.base v⟩
theorem UB.whole (k:UB r g u w w')(u':Ur.URL):UB r g u' w (w'.setRow g (nA u')):=
 ⟨k.res.aside k.ne (nA u'),k.var.whole (nA u'),k.ne,k.base,below_setRow k.below k.base _⟩
theorem UB.cell (k:UB r g u w w')(i:Nat):w'.cell? ⟨g,i,none⟩=(nA u)[i]? :=k.var.cell i
theorem UB.free (k:UB r g u w w')(i:Nat):w'.frozen? ⟨g,i,none⟩=false:=k.var.free i
theorem UB.lay (k:UB r g u w w')(t:TypeId)(zs cs:Array Value):UB r g u w ((w'.alloc (.cells zs t)).setRow w'.heap.size cs):=by
 obtain⟨_,_,C,L⟩:=PA t zs cs k.below k.below.size
 exact⟨L _ _ _ k.res,L _ _ _ k.var,k.ne,k.base,C⟩
end
end Go.Proofs.YtdaaoopkkhfbhaaGreatDoor
