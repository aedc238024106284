/- What the laws of layer 10 begin with: how long the parts are of what is read; texts in a row; a URL and a header laid in two variables; the chapter's examples. -/
import Derived.Test.YtabgoobcliijeaaGreatDoorY30
set_option maxHeartbeats 16000000
set_option maxRecDepth 100000
namespace Go.Proofs.YtabgoobcliijeaaGreatDoor
open Go.RowKit Go.Maps
theorem CP {P:Program}{ops:Array Oper}{rest:List Oper}{o:Oper}{a:Act}{w:World}{Q:Exit->Act->World->Prop}(hw:Region.wanted o (yielded ops a.tmps)=true)(t:TypeId)(ps:Array (Nat×Operand))(ho:o.op= .build t ps)(vs:List (Nat×Value))(hv:ps.toList.map (fun p=>(p.1,a.eval p.2))=vs)(cells:Array Value)
  (hc:P.built t vs=some cells)(h:wpList P ops Q rest (a.put o.dst (.agg cells)) w):wpList P ops Q (o::rest) a w:=by
 have e:(ps.map fun(i,x)=>(i,a.eval x)).toList=vs:=by rw[Array.toList_map];exact hv
 refine wpList_step fun K hK=>?_
 simp only[hw,if_true]
 refine wp_build t ps ho ?_ (hK _ _ ?_)
 ·rw[e,hc];rfl
 ·rw[e,hc];exact h
namespace Ur
theorem eR(s:List UInt8):(parse s).2.host.name.length<=s.length/\(parse s).2.path.length<=s.length+1:=by
 unfold parse
 cases hs:scheme s with
 |none=>exact⟨Nat.zero_le _,Nat.zero_le _⟩
 |some br=>
  obtain⟨b,rest⟩:=br
  have hr:rest.length<=s.length:=by
   unfold scheme at hs
   split at hs
   ·have e:s.drop 7=rest:=congrArg Prod.snd (zB2 hs)
    rw[<-e,List.length_drop];exact Nat.sub_le _ _
   ·split at hs
    ·have e:s.drop 8=rest:=congrArg Prod.snd (zB2 hs)
     rw[<-e,List.length_drop];exact Nat.sub_le _ _
    ·cases hs
  have h1:(place rest).length<=rest.length:=by unfold place;rw[List.length_take];exact Nat.min_le_right _ _
  have h2:(pathOf rest).length<=rest.length+1:=by
   unfold pathOf
   split
   ·simp
   ·unfold raw behind
    rw[List.length_take,List.length_drop];omega
  dsimp only
  generalize place rest=pl at*
  generalize pathOf rest=p at*
  unfold go
  split
  ·exact⟨Nat.zero_le _,Nat.zero_le _⟩
  ·rename_i x hx
   have hf:=dA.xN (pl.take (xB pl))
   rw[hx,List.length_take]at hf
   have hf:x.name.length<=min (xB pl) pl.length:=hf
   split
   ·exact⟨Nat.zero_le _,Nat.zero_le _⟩
   ·split
    ·exact⟨Nat.zero_le _,Nat.zero_le _⟩
    ·split
     ·exact⟨by show x.name.length<=_;omega,by show p.length<=_;omega⟩
     ·exact⟨Nat.zero_le _,Nat.zero_le _⟩
end Ur
namespace Hd
theorem lAF {s:List UInt8}{n:Int}{h:Head}(hp:parse s=(n,h)):Good h\/h=zero:=by
 by_cases hn:n=0
 ·subst hn;exact .inl (AD hp)
 ·exact .inr (lAQ hp hn)
end Hd
theorem Ad.BR (rs:List Ru.Rule)(u:Ur.URL)(r:Hd.Raw)(now:Int)(ha:u.host.addr.length=16):(Ad.bD rs u r now).2.host.addr.length=16:=by
 unfold Ad.bD
 split
 ·rfl
 ·split
  ·rfl
  ·unfold Ad.take
   split
   ·rfl
   ·split
    ·rfl
    ·split
     ·rfl
     ·split
      ·rfl
      ·split
       ·rfl
       ·exact Ad.QW rs u.host _ ha
theorem pI {h:Hd.Head}(hh:Hd.Good h\/h=Hd.zero):eH (Hd.Raw.of h):=by
 rcases hh with hg|rfl
 ·have h1:=hg.few
  have h2:=hg.lH
  have h3:=hg.ZI
  obtain⟨e1,e2,_⟩:=Hd.JT hg.exp
  have h4:h.age.getD 0<=34560000:=by
   cases ha:h.age with
   |none=>exact Nat.zero_le _
   |some a=>exact hg.age a ha
  exact⟨by show h.name.length<=_;omega,by show h.value.length<=_;omega,by show h.name.length+h.value.length<=_;omega,by show h.domain.length<=_;omega,by show h.path.length<=_;omega,⟨e1,e2⟩,by show _<=((h.age.getD 0:Nat):Int)/\((h.age.getD 0:Nat):Int)<=_;omega⟩
 ·exact⟨by decide,by decide,by decide,by decide,by decide,by decide,by decide⟩
theorem cAc {r:Hd.Raw}(h:eH r):lN r:=⟨Nat.le_trans h.name (by decide),Nat.le_trans h.value (by decide),Nat.le_trans h.domain (by decide),Nat.le_trans h.path (by decide),h.exp,h.age⟩
theorem ON {w:World}{g c:Nat}{t:TypeId}{ts:List ByteArray}(R:Row w g t (ts.map Value.string).toArray)(hc:ts.length<=c):cN w (.slice (some ⟨g,0,none⟩) ts.length c) ts:=by
 refine⟨some ⟨g,0,none⟩,c,rfl,fun _=>⟨g,rfl,R.lt,hc,fun k t hk=>?_⟩⟩
 rw[R.cell,List.getElem?_toArray,List.getElem?_map,hk];rfl
theorem WQ(w:World):ZD w (.slice none 0 0) []:=⟨none,0,rfl,fun h=>absurd h (by simp)⟩
theorem WF {w x:World}{B:Nat}(U H:Array Value)(hb:Below B w x)(hB:B<=x.heap.size):
  Row ((x.alloc (.cells (pA Ur.zero) 33)).alloc (.cells (headA Hd.zero) 35)) x.heap.size 33 (pA Ur.zero)/\
  Row (((x.alloc (.cells (pA Ur.zero) 33)).alloc (.cells (headA Hd.zero) 35)).setRow x.heap.size U) (x.heap.size+1) 35 (headA Hd.zero)/\
  Row ((((x.alloc (.cells (pA Ur.zero) 33)).alloc (.cells (headA Hd.zero) 35)).setRow x.heap.size U).setRow (x.heap.size+1) H) x.heap.size 33 U/\
  Row ((((x.alloc (.cells (pA Ur.zero) 33)).alloc (.cells (headA Hd.zero) 35)).setRow x.heap.size U).setRow (x.heap.size+1) H) (x.heap.size+1) 35 H/\
  Below B w ((((x.alloc (.cells (pA Ur.zero) 33)).alloc (.cells (headA Hd.zero) 35)).setRow x.heap.size U).setRow (x.heap.size+1) H)/\
  ∀g t c,Row x g t c->Row ((((x.alloc (.cells (pA Ur.zero) 33)).alloc (.cells (headA Hd.zero) 35)).setRow x.heap.size U).setRow (x.heap.size+1) H) g t c:=by
 generalize pA Ur.zero=Z
 generalize headA Hd.zero=Y
 have R0:=Row.new x 33 Z
 have hN:(x.alloc (.cells Z 33)).heap.size=x.heap.size+1:=by simp
 have S1:=Row.new (x.alloc (.cells Z 33)) 35 Y
 rw[hN]at S1
 have R1:=R0.alloc (.cells Y 35)
 have B1:=(hb.alloc hB (.cells Z 33)).alloc (by rw[hN];omega) (.cells Y 35)
 have n1:x.heap.size+1≠x.heap.size:=by omega
 have n2:x.heap.size≠x.heap.size+1:=by omega
 refine⟨R1,S1.aside n1 U,(R1.whole U).aside n2 H,(S1.aside n1 U).whole H,below_setRow (below_setRow B1 hB U) (by omega) H,fun g t c R=>?_⟩
 have hl:=R.lt
 exact(((R.alloc _).alloc _).aside (k:=x.heap.size) (by omega) U).aside (k:=x.heap.size+1) (by omega) H
def zJ(w:World)(e:Ending)(w':World):Prop:=e= .returned (.bool true)/\Below w.heap.size w w'
namespace Ad
theorem oAV:bD [] uS (Hd.Raw.of hA) 5=(0,⟨[95,95,72,111,115,116,45,97],[98],gJ,true,[47],true,false,0,never,5,5,0⟩):=by
 rw[FH (Ur.SL fR) (Hd.AD DV),oAI]
theorem oAW:bD [] uS (Hd.Raw.of hB) 5=(106,zero):=by
 rw[FH (Ur.SL fR) (Hd.AD EV),oAJ]
def cA:Ma.bB:=⟨[95,95,72,111,115,116,45,97],[98],gJ,true,[47],true,false,0,9223372036854775807,5,5,0⟩
end Ad
theorem NI(u h:ByteArray){n m:Int}{x:Ur.URL}{y:Hd.Head}(hx:Ur.parse u.data.toList=(n,x))(hy:Hd.parse h.data.toList=(m,y))(hu:u.size<=1048576)(hh:h.size<=1100000)(W:World):
  Calls Tryz.prog 11 #[.string u,.string h] W fun e w'=>e= .returned (.tuple #[.agg (pA x),.agg (headA y),.bool (decide (n=0)&&decide (m=0))])/\Below W.heap.size W w':=by
 have:=fAw u h W hu hh
 unfold GO at this
 rw[hx,hy]at this
 exact this
theorem JH(rs:List Ru.Rule)(u:Ur.URL)(ha:u.host.addr.length=16)(hn:u.host.name.length<=2900)(hp:u.path.length<=9000)(g:Hd.Head)(hr:eH (Hd.Raw.of g))(now:Int){n:Int}{c:Ma.bB}(ht:Ad.bD rs u (Hd.Raw.of g) now=(n,c))(n₀ tb mb:Nat)(W:World)(hW:uB W)(hT:TabAt W n₀ tb mb (Sx.new rs)):
  Calls Tryz.prog 12 #[.pointer (some ⟨tb,0,none⟩),.agg (pA u),.agg (headA g),.int .i64 now] W fun e w'=>e= .returned (.tuple #[.agg (gA c),.int .i64 n])/\Below W.heap.size W w':=by
 have:=rY rs u ha (by omega) hp (Hd.Raw.of g) (cAc hr) now n₀ tb mb W hW hT
 unfold yD at this
 rw[ht]at this
 exact this
theorem WK(w:World)(hw:uB w):Calls Tryz.prog 9 #[] w (zJ w):=by
 have z0:=iJ
 have z1:=jG
 have z2:=iG
 have IU:=zA7 (show(Tryz.prog.info? 33).map (·.size)=some (pA Ad.uS).size from qB)
 have SU:=zA7 (show(pA Ad.uS).size=(pA Ur.zero).size from rfl)
 have OU:=zA7 (kE Ad.uS)
 have HU:=zA7 (show(pA Ad.uS).extract 1 19=fA Ad.gJ from gG Ad.uS rfl)
 have LU:=zA7 (show 1+18<=(pA Ad.uS).size by decide)
 have IV:=zA7 (show(Tryz.prog.info? 35).map (·.size)=some (headA Hd.zero).size from WA)
 have SV:Hid (∀h:Hd.Head,(headA h).size=(headA Hd.zero).size):=zA7 (fun h=>rfl)
 have OV:=zA7 DC
 have IC:=zA7 (show(Tryz.prog.info? 39).map (·.size)=some (gA Ma.oA).size from rD)
 have SC:=zA7 (show(gA Ad.cA).size=(gA Ma.oA).size from rfl)
 have OC:=zA7 (zE Ad.cA)
 have HZC:=zA7 (zE Ma.oA)
 have HN:=zA7 (fun W hW=>gK [] (.slice none 0 0) W hW (WQ W) (by decide) (by simp))
 unfold dH at HN
 have HA:=zA7 (fun W=>NI ⟨#[104,116,116,112,115,58,47,47,120,46,99,111,109]⟩ ⟨#[95,95,72,111,115,116,45,97,61,98,59,32,83,101,99,117,114,101,59,32,80,97,116,104,61,47]⟩ Ad.fR Ad.DV (by decide) (by decide) W)
 have HB:=zA7 (fun W=>NI ⟨#[104,116,116,112,115,58,47,47,120,46,99,111,109]⟩ ⟨#[95,95,72,111,115,116,45,97,61,98,59,32,83,101,99,117,114,101,59,32,80,97,116,104,61,47,59,32,68,111,109,97,105,110,61,120,46,99,111,109]⟩ Ad.fR Ad.EV (by decide) (by decide) W)
 have T1:=zA7 (fun n₀ tb mb W hW hT=>JH [] Ad.uS rfl (by decide) (by decide) Ad.hA (pI (.inl (Hd.AD Ad.DV))) 5 (n:=0) (c:=Ad.cA) Ad.oAV n₀ tb mb W hW hT)
 have T2:=zA7 (fun n₀ tb mb W hW hT=>JH [] Ad.uS rfl (by decide) (by decide) Ad.hB (pI (.inl (Hd.AD Ad.EV))) 5 (n:=106) (c:=Ma.oA) Ad.oAW n₀ tb mb W hW hT)
 have eD:Tryz.prog.built 39 [(0,.string ⟨#[95,95,72,111,115,116,45,97]⟩),(1,.string ⟨#[98]⟩),(2,.agg (fA Ad.gJ)),(3,.bool true),(4,.string ⟨#[47]⟩),(5,.bool true),(8,.int .i64 9223372036854775807),(9,.int .i64 5),(10,.int .i64 5)]=some (gA Ad.cA):=by kernel_rfl
 have eD:=zA7 eD
 have wD: ∀W,(binOp .eql 39 (.agg (gA Ad.cA)) (.agg (gA Ad.cA))).run Tryz.prog W= .ok (.bool true) W:=fun W=>bQ Ad.cA rfl W
 generalize fA Ad.gJ=H at*
 generalize gA Ad.cA=CA at*
 generalize gA Ma.oA=CZ at*
 generalize pA Ad.uS=U at*
 generalize mQ:headA Ad.hA=VA at*
 generalize nQ:headA Ad.hB=VB at*
 go_enter Tryz.func9,Tryz.ntmps9
 go_wp2_with fail
 refine(HN.out _ hw.UE.std).mono ?_
 rintro e x1 ⟨tb,mb,rfl,K1,d1⟩
 go_wp2_with fail
 refine(HA.out _).mono ?_
 rintro e x2 ⟨rfl,d2⟩
 have C2:=d1.trans (d2.mono d1.size)
 have K2:=K1.stays d2
 obtain⟨Z3,Y3,U3,V3,C3,L3⟩:=WF U VA C2 C2.size
 have K3:=K2.stays (WF U VA (Below.refl x2.heap.size x2) (zB3 _)).2.2.2.2.1
 go_wp2_with (first
  |(refine wpList_store_row rfl 33 _ _ rfl x2.heap.size U rfl rfl 33 _ Z3 IU.out (by rw[SU.out]) OU.out ?_)
  |(refine wpList_store_row rfl 35 _ _ rfl (x2.heap.size+1) VA rfl rfl 35 _ Y3 (by rw[<-mQ,SV.out];exact IV.out) (by rw[<-mQ];exact(SV.out _).symm) (by rw[<-mQ];exact OV.out _) ?_))
 clear Z3 Y3 L3 K2 C2 d1 d2 K1
 generalize(((x2.alloc (.cells (pA Ur.zero) 33)).alloc (.cells (headA Hd.zero) 35)).setRow x2.heap.size U).setRow (x2.heap.size+1) VA=x3 at*
 generalize x2.heap.size=g2 at*
 refine(HB.out _).mono ?_
 rintro e x4 ⟨rfl,d4⟩
 have C4:=C3.trans (d4.mono C3.size)
 have K4:=K3.stays d4
 have U4:=U3.stays d4
 have V4:=V3.stays d4
 obtain⟨Z5,Y5,W5,V5,C5,L5⟩:=WF U VB C4 C4.size
 have K5:=K4.stays (WF U VB (Below.refl x4.heap.size x4) (zB3 _)).2.2.2.2.1
 have U5:=L5 _ _ _ U4
 have A5:=L5 _ _ _ V4
 clear L5 K4 C4 U4 V4 K3 U3 V3 C3 d4
 go_wp2_with (first
  |(refine wpList_store_row rfl 33 _ _ rfl x4.heap.size U rfl rfl 33 _ Z5 IU.out (by rw[SU.out]) OU.out ?_)
  |(refine wpList_store_row rfl 35 _ _ rfl (x4.heap.size+1) VB rfl rfl 35 _ Y5 (by rw[<-nQ,SV.out];exact IV.out) (by rw[<-nQ];exact(SV.out _).symm) (by rw[<-nQ];exact OV.out _) ?_)
  |(refine iA 25 rfl ?_;refine qA rfl 33 _ rfl g2 rfl U5 Tryz.underlying33 rfl IU.out ?_)
  |(refine iA 26 rfl ?_;refine qA rfl 35 _ rfl (g2+1) rfl A5 Tryz.underlying35 rfl (by rw[<-mQ,SV.out];exact IV.out) ?_))
 clear Z5 Y5 W5
 generalize(((x4.alloc (.cells (pA Ur.zero) 33)).alloc (.cells (headA Hd.zero) 35)).setRow x4.heap.size U).setRow (x4.heap.size+1) VB=x5 at*
 generalize x4.heap.size=g4 at*
 refine(T1.out _ tb mb _ (hw.below C5) K5).mono ?_
 rintro e x6 ⟨rfl,d6⟩
 have C6:=C5.trans (d6.mono C5.size)
 have K6:=K5.stays d6
 have U6:=U5.stays d6
 have V6:=V5.stays d6
 obtain⟨Z7,O7,C7,L7⟩:=JA 39 CZ CA C6 C6.size
 have K7:=K6.stays (JA 39 CZ CA (Below.refl x6.heap.size x6) (zB3 _)).2.2.1
 have U7:=L7 _ _ _ U6
 have V7:=L7 _ _ _ V6
 clear L7 K6 C6 U6 V6 K5 U5 V5 C5 d6 A5
 go_wp2_with (first
  |(refine wpList_store_row rfl 39 _ _ rfl x6.heap.size CA rfl rfl 39 _ Z7 (by rw[SC.out];exact IC.out) (by rw[SC.out]) OC.out ?_)
  |(refine iA 32 rfl ?_;refine qA rfl 33 _ rfl g2 rfl U7 Tryz.underlying33 rfl IU.out ?_)
  |(refine iA 33 rfl ?_;refine qA rfl 35 _ rfl (g4+1) rfl V7 Tryz.underlying35 rfl (by rw[<-nQ,SV.out];exact IV.out) ?_))
 clear Z7
 generalize(x6.alloc (.cells CZ 39)).setRow x6.heap.size CA=x7 at*
 generalize x6.heap.size=g6 at*
 refine(T2.out _ tb mb _ (hw.below C7) K7).mono ?_
 rintro e x8 ⟨rfl,d8⟩
 have C8:=C7.trans (d8.mono C7.size)
 have U8:=U7.stays d8
 have O8:=O7.stays d8
 obtain⟨Z9,O9,C9,L9⟩:=JA 39 CZ CZ C8 C8.size
 have U9:=L9 _ _ _ U8
 have P9:=L9 _ _ _ O8
 clear L9 K7 C8 U8 O8 U7 V7 O7 C7 d8
 go_wp2_with (first
  |(refine wpList_store_row rfl 39 _ _ rfl x8.heap.size CZ rfl rfl 39 _ Z9 IC.out rfl HZC.out ?_)
  |(refine iA 40 rfl ?_;refine qA rfl 39 _ rfl g6 rfl P9 Tryz.underlying39 rfl (by rw[SC.out];exact IC.out) ?_)
  |(refine iA 42 rfl ?_;refine QC rfl 31 _ rfl g2 1 18 rfl U9 Tryz.underlying31 rfl tA LU.out H HU.out ?_)
  |(refine iA 43 rfl ?_;refine CP rfl 39 _ rfl _ (by rfl) _ eD.out ?_))
 go_ret
 exact⟨rfl,C9⟩
end Go.Proofs.YtabgoobcliijeaaGreatDoor
namespace Go.Proofs.YtabgoobcliijeaaGreatDoor
open Go.RowKit Go.Maps
namespace Ad
def rK:Array Value:= #[.string ⟨#[97,61,98,59,32,68,111,109,97,105,110,61,97,46,49]⟩,.string ⟨#[97,61,98,59,32,68,111,109,97,105,110,61,99,111,109]⟩,.string ⟨#[97,61,98,59,32,68,111,109,97,105,110,61,121,46,99,111,109]⟩,.string ⟨#[97,61,98,59,32,83,101,99,117,114,101]⟩,.string ⟨#[97,61,98,59,32,83,97,109,101,83,105,116,101,61,78,111,110,101]⟩,.string ⟨#[95,95,83,101,99,117,114,101,45,97,61,98]⟩]
theorem oA6 {k:Nat}(h:k<6): ∃t g,rK[k]? =some (.string t)/\t.size<=100/\Hd.parse t.data.toList=(0,g)/\take sE uP g 0=(101+(k:Int),zero):=by
 have:k=0\/k=1\/k=2\/k=3\/k=4\/k=5:=by omega
 rcases this with rfl|rfl|rfl|rfl|rfl|rfl
 ·exact⟨_,_,rfl,by decide,lAJ,oAN⟩
 ·exact⟨_,_,rfl,by decide,lAK,oAO⟩
 ·exact⟨_,_,rfl,by decide,lAL,oAP⟩
 ·exact⟨_,_,rfl,by decide,lAM,oAQ⟩
 ·exact⟨_,_,rfl,by decide,lAN,oAR⟩
 ·exact⟨_,_,rfl,by decide,lAO,oAS⟩
end Ad
theorem lAv {w:World}{g:Nat}{t:TypeId}(R:Row w g t #[.int .i64 1,.string ⟨#[99,111,109]⟩]):ZD w (.slice (some ⟨g,0,none⟩) 1 1) Ad.sE:=by
 refine⟨some ⟨g,0,none⟩,1,rfl,fun _=>⟨g,0,rfl,R.lt,zB3 _,fun k r hk=>?_⟩⟩
 have hk0:k=0:=by
  have:=(List.getElem?_eq_some_iff.1 hk).1
  have h1:Ad.sE.length=1:=rfl
  omega
 subst hk0
 obtain rfl:=zB2 hk
 exact⟨R.cell 0,R.cell 1⟩
theorem fAd(w:World)(hw:uB w):
  Calls Tryz.prog 3 #[] w fun e w'=>e= .returned (.bool true)/\Below w.heap.size w w':=by
 have z0:=iJ
 have z1:=jG
 have z2:=iG
 have HA:=zA7 (fun W hW=>WK W hW)
 unfold zJ at HA
 have IU:=zA7 (show(Tryz.prog.info? 33).map (·.size)=some (pA Ad.uP).size from qB)
 have SU:=zA7 (show(pA Ad.uP).size=(pA Ur.zero).size from rfl)
 have OU:=zA7 (kE Ad.uP)
 have IV:Hid (∀h:Hd.Head,(Tryz.prog.info? 35).map (·.size)=some (headA h).size):=zA7 (fun h=>WA)
 have SV:Hid (∀h:Hd.Head,(headA h).size=(headA Hd.zero).size):=zA7 (fun h=>rfl)
 have OV:=zA7 DC
 have IC:=zA7 (show(Tryz.prog.info? 39).map (·.size)=some (gA Ma.oA).size from rD)
 have OC:=zA7 (zE Ma.oA)
 have HN:=zA7 (fun v W hW hV=>gK Ad.sE v W hW hV (by decide) (by decide))
 unfold dH at HN
 have JF:=zA7 (show Tryz.prog.built 26 [(0,.int .i64 1),(1,.string ⟨#[99,111,109]⟩)]=some #[.int .i64 1,.string ⟨#[99,111,109]⟩] by kernel_rfl)
 have HBU:=zA7 (show Tryz.prog.built 33 []=some (pA Ur.zero) from fAG)
 have HBV:=zA7 (show Tryz.prog.built 35 []=some (headA Hd.zero) from fAF)
 have eD:=zA7 (show Tryz.prog.built 39 []=some (gA Ma.oA) from fAE)
 have UO: ∀W,(binOp .neq 39 (.agg (gA Ma.oA)) (.agg (gA Ma.oA))).run Tryz.prog W= .ok (.bool false) W:=fun W=>lA9 Ma.oA rfl W
 have hright:=Ur.SL Ad.GV
 have HS:Hid (∀k:Nat,k<6-> ∃(t:ByteArray)(g:Hd.Head),Ad.rK[k]? =some (.string t)/\(∀W,Calls Tryz.prog 11 #[.string ⟨#[104,116,116,112,58,47,47,120,46,99,111,109]⟩,.string t] W fun e w'=>e= .returned (.tuple #[.agg (pA Ad.uP),.agg (headA g),.bool true])/\Below W.heap.size W w')/\
   (∀n₀ tb mb W,uB W->TabAt W n₀ tb mb (Sx.new Ad.sE)->Calls Tryz.prog 12 #[.pointer (some ⟨tb,0,none⟩),.agg (pA Ad.uP),.agg (headA g),.int .i64 0] W fun e w'=>e= .returned (.tuple #[.agg (gA Ma.oA),.int .i64 (101+(k:Int))])/\Below W.heap.size W w')):=zA7 (fun k hk=>by
  obtain⟨t,g,h1,h2,h3,h4⟩:=Ad.oA6 hk
  refine⟨t,g,h1,fun W=>NI ⟨#[104,116,116,112,58,47,47,120,46,99,111,109]⟩ t Ad.GV h3 (by decide) (by omega) W,fun n₀ tb mb W hW hT=>?_⟩
  exact JH Ad.sE Ad.uP rfl (by decide) (by decide) g (pI (.inl (Hd.AD h3))) 0 (n:=101+(k:Int)) (c:=Ma.oA) (by rw[Ad.FH hright (Hd.AD h3),h4];rfl) n₀ tb mb W hW hT)
 have HP:Hid (∀W,Calls Tryz.prog 11 #[.string ⟨#[104,116,116,112,58,47,47,120,46,99,111,109]⟩,.string ⟨#[97,61,98]⟩] W fun e w'=>e= .returned (.tuple #[.agg (pA Ad.uP),.agg (headA Ad.nP),.bool true])/\Below W.heap.size W w'):=zA7 (fun W=>NI ⟨#[104,116,116,112,58,47,47,120,46,99,111,109]⟩ ⟨#[97,61,98]⟩ Ad.GV Ad.FV (by decide) (by decide) W)
 have fP:=pI (.inl (Hd.AD Ad.FV))
 have T1:=zA7 (fun n₀ tb mb W hW hT=>JH Ad.sE Ur.zero rfl (by decide) (by decide) Ad.nP fP 0 (n:=41) (c:=Ma.oA) (Ad.dA7 Ad.qAD) n₀ tb mb W hW hT)
 have T2:=zA7 (fun n₀ tb mb W hW hT=>JH Ad.sE Ad.uP rfl (by decide) (by decide) Hd.zero (pI (.inr rfl)) 0 (n:=82) (c:=Ma.oA) (Ad.dA6 hright Hd.qAC) n₀ tb mb W hW hT)
 have T3:=zA7 (fun n₀ tb mb W hW hT=>JH Ad.sE Ad.uP rfl (by decide) (by decide) Ad.nP fP (-1) (n:=122) (c:=Ma.oA) (by rw[Ad.FH hright (Hd.AD Ad.FV),Ad.oAB];rfl) n₀ tb mb W hW hT)
 clear hright fP
 generalize pA Ad.uP=U at*
 generalize oQ:headA Ad.nP=VP at*
 have aT:=zA7 (show(Tryz.prog.info? 35).map (·.size)=some VP.size by rw[<-oQ];exact WA)
 have SVP:=zA7 (show(headA Hd.zero).size=VP.size by rw[<-oQ];rfl)
 have OVP:=zA7 (show VP.all (·.oneCell')=true by rw[<-oQ];exact DC _)
 clear oQ
 go_enter Tryz.func3,Tryz.ntmps3
 go_wp2_with fail
 refine(HA.out _ hw).mono ?_
 rintro e x1 ⟨rfl,C1⟩
 have R1:=Row.new x1 26 #[.int .i64 1,.string ⟨#[99,111,109]⟩]
 have D1:=C1.alloc C1.size (.cells #[.int .i64 1,.string ⟨#[99,111,109]⟩] 26)
 have RN:=zA7 (HN.out _ _ (hw.below D1).UE.std (lAv R1))
 clear R1 HA
 go_wp2_with (refine iA 21 rfl ?_;refine XK rfl 26 _ rfl _ (by rfl) _ JF.out ?_)
 generalize x1.alloc (.cells #[.int .i64 1,.string ⟨#[99,111,109]⟩] 26)=x2 at*
 refine RN.out.mono ?_
 rintro e x3 ⟨tb,mb,rfl,K3,d3⟩
 have C3:=D1.trans (d3.mono D1.size)
 have Q3:=Row.new x3 9 Ad.rK
 have C4:=C3.alloc C3.size (.cells Ad.rK 9)
 have K4:=K3.stays ((Below.refl x3.heap.size x3).alloc (zB3 _) (.cells Ad.rK 9))
 unfold Ad.rK at Q3 C4 K4
 clear RN D1 d3 C1 K3 HN JF
 go_wp2
 generalize hs6:(#[.string ⟨#[97,61,98,59,32,68,111,109,97,105,110,61,97,46,49]⟩,.string ⟨#[97,61,98,59,32,68,111,109,97,105,110,61,99,111,109]⟩,.string ⟨#[97,61,98,59,32,68,111,109,97,105,110,61,121,46,99,111,109]⟩,.string ⟨#[97,61,98,59,32,83,101,99,117,114,101]⟩,.string ⟨#[97,61,98,59,32,83,97,109,101,83,105,116,101,61,78,111,110,101]⟩,.string ⟨#[95,95,83,101,99,117,114,101,45,97,61,98]⟩]:Array Value)=X6 at*
 have UX:Hid (Ad.rK=X6):=zA7 hs6
 clear hs6
 generalize x3.alloc (.cells X6 9)=x4 at*
 generalize x3.heap.size=g3 at*
 go_loopw [27] (fun i wr=> ∃k:Nat,k<=6/\i= .int .i64 (k:Int)/\Row wr g3 9 X6/\(∃n₀,TabAt wr n₀ tb mb (Sx.new Ad.sE))/\Below w.heap.size w wr) (fun i _=>6- (intOf i).toNat)
 case atStart=>exact⟨0,Nat.zero_le _,rfl,Q3,⟨_,K4⟩,C4⟩
 case round=>
  clear Q3 K4 C4
  obtain⟨k,hk,rfl,R,⟨n₀,K⟩,C⟩:=hrel
  by_cases hlt:k<6
  ·obtain⟨t,g,h1,h2,h3⟩:=HS.out k hlt
   have H2:=zA7 h2
   have H3:=zA7 h3
   rw[UX.out]at h1
   have c0:=(R.cell k).trans h1
   have hki:(k:Int)<6:=by omega
   have hwk:IntKind.i64.wrap (101+(k:Int))=101+(k:Int):=by rw[IntKind.wrap_i64];omega
   have hnk:((101+(k:Int)) !=101+(k:Int))=false:=by simp
   have aY:=zA7 (IV.out g)
   have SVG:=zA7 (SV.out g)
   have OVG:=zA7 (OV.out g)
   clear h1 h2 h3
   generalize headA g=V at*
   go_wp2_with fail
   refine(H2.out _).mono ?_
   rintro e y1 ⟨rfl,d1⟩
   have E1:=C.trans (d1.mono C.size)
   have K1:=K.stays d1
   have R1:=R.stays d1
   obtain⟨Z2,Y2,U2,V2,E2,L2⟩:=WF U V E1 E1.size
   have K2:=K1.stays (WF U V (Below.refl y1.heap.size y1) (zB3 _)).2.2.2.2.1
   have R2:=L2 _ _ _ R1
   clear c0 R K C d1 L2 K1 R1 E1
   go_wp2_with (first
    |(refine wpList_store_row rfl 33 _ _ rfl y1.heap.size U rfl rfl 33 _ Z2 IU.out (by rw[SU.out]) OU.out ?_)
    |(refine wpList_store_row rfl 35 _ _ rfl (y1.heap.size+1) V rfl rfl 35 _ Y2 aY.out (by rw[SVG.out]) OVG.out ?_)
    |(refine iA 40 rfl ?_;refine qA rfl 33 _ rfl y1.heap.size rfl U2 Tryz.underlying33 rfl IU.out ?_)
    |(refine iA 41 rfl ?_;refine qA rfl 35 _ rfl (y1.heap.size+1) rfl V2 Tryz.underlying35 rfl aY.out ?_))
   clear Z2 Y2 U2 V2
   generalize(((y1.alloc (.cells (pA Ur.zero) 33)).alloc (.cells (headA Hd.zero) 35)).setRow y1.heap.size U).setRow (y1.heap.size+1) V=y2 at*
   refine(H3.out _ tb mb _ (hw.below E2) K2).mono ?_
   rintro e y3 ⟨rfl,d3⟩
   have E3:=E2.trans (d3.mono E2.size)
   have K3:=K2.stays d3
   have R3:=R2.stays d3
   obtain⟨Z4,O4,E4,L4⟩:=JA 39 (gA Ma.oA) (gA Ma.oA) E3 E3.size
   have K4:=K3.stays (JA 39 (gA Ma.oA) (gA Ma.oA) (Below.refl y3.heap.size y3) (zB3 _)).2.2.1
   have R4:=L4 _ _ _ R3
   clear E2 K2 R2 d3 L4 K3 R3 E3
   go_wp2_with (first
    |(refine wpList_store_row rfl 39 _ _ rfl y3.heap.size (gA Ma.oA) rfl rfl 39 _ Z4 IC.out rfl OC.out ?_)
    |(refine iA 54 rfl ?_;refine qA rfl 39 _ rfl y3.heap.size rfl O4 Tryz.underlying39 rfl IC.out ?_)
    |(refine iA 55 rfl ?_;refine CP rfl 39 _ rfl _ (by rfl) _ eD.out ?_))
   go_roundw
   case rel=>exact⟨k+1,by omega,by go_num,R4,⟨_,K4⟩,E4⟩
   case measure=>simp[intOf];omega
  ·obtain rfl:k=6:=by omega
   clear HS UX R hk hlt
   go_wp2_with fail
   refine(HP.out _).mono ?_
   rintro e y1 ⟨rfl,d1⟩
   have E1:=C.trans (d1.mono C.size)
   have K1:=K.stays d1
   obtain⟨Z2,Y2,U2,V2,E2,L2⟩:=WF U VP E1 E1.size
   have K2:=K1.stays (WF U VP (Below.refl y1.heap.size y1) (zB3 _)).2.2.2.2.1
   clear K C d1 L2 K1 E1 HP
   go_wp2_with (first
    |(refine wpList_store_row rfl 33 _ _ rfl y1.heap.size U rfl rfl 33 _ Z2 IU.out (by rw[SU.out]) OU.out ?_)
    |(refine wpList_store_row rfl 35 _ _ rfl (y1.heap.size+1) VP rfl rfl 35 _ Y2 aT.out SVP.out OVP.out ?_)
    |(refine iA 66 rfl ?_;refine XK rfl 33 _ rfl _ (by rfl) _ HBU.out ?_)
    |(refine iA 67 rfl ?_;refine qA rfl 35 _ rfl (y1.heap.size+1) rfl V2 Tryz.underlying35 rfl aT.out ?_))
   clear Z2 Y2
   generalize(((y1.alloc (.cells (pA Ur.zero) 33)).alloc (.cells (headA Hd.zero) 35)).setRow y1.heap.size U).setRow (y1.heap.size+1) VP=y2 at*
   generalize y1.heap.size=h1 at*
   refine(T1.out _ tb mb _ (hw.below E2) K2).mono ?_
   rintro e y3 ⟨rfl,d3⟩
   have E3:=E2.trans (d3.mono E2.size)
   have K3:=K2.stays d3
   have U3:=U2.stays d3
   have V3:=V2.stays d3
   obtain⟨Z4,O4,E4,L4⟩:=JA 39 (gA Ma.oA) (gA Ma.oA) E3 E3.size
   have K4:=K3.stays (JA 39 (gA Ma.oA) (gA Ma.oA) (Below.refl y3.heap.size y3) (zB3 _)).2.2.1
   have U4:=L4 _ _ _ U3
   have V4:=L4 _ _ _ V3
   clear E2 K2 d3 L4 K3 E3 U2 V2 U3 V3 T1 O4
   go_wp2_with (first
    |(refine wpList_store_row rfl 39 _ _ rfl y3.heap.size (gA Ma.oA) rfl rfl 39 _ Z4 IC.out rfl OC.out ?_)
    |(refine iA 73 rfl ?_;refine qA rfl 33 _ rfl h1 rfl U4 Tryz.underlying33 rfl IU.out ?_)
    |(refine iA 74 rfl ?_;refine XK rfl 35 _ rfl _ (by rfl) _ HBV.out ?_))
   clear Z4
   generalize(y3.alloc (.cells (gA Ma.oA) 39)).setRow y3.heap.size (gA Ma.oA)=y4 at*
   generalize y3.heap.size=h3 at*
   refine(T2.out _ tb mb _ (hw.below E4) K4).mono ?_
   rintro e y5 ⟨rfl,d5⟩
   have E5:=E4.trans (d5.mono E4.size)
   have K5:=K4.stays d5
   have U5:=U4.stays d5
   have V5:=V4.stays d5
   obtain⟨Z6,O6,E6,L6⟩:=JA 39 (gA Ma.oA) (gA Ma.oA) E5 E5.size
   have K6:=K5.stays (JA 39 (gA Ma.oA) (gA Ma.oA) (Below.refl y5.heap.size y5) (zB3 _)).2.2.1
   have U6:=L6 _ _ _ U5
   have V6:=L6 _ _ _ V5
   clear E4 K4 d5 L6 K5 E5 U4 V4 U5 V5 T2 O6
   go_wp2_with (first
    |(refine wpList_store_row rfl 39 _ _ rfl y5.heap.size (gA Ma.oA) rfl rfl 39 _ Z6 IC.out rfl OC.out ?_)
    |(refine iA 80 rfl ?_;refine qA rfl 33 _ rfl h1 rfl U6 Tryz.underlying33 rfl IU.out ?_)
    |(refine iA 81 rfl ?_;refine qA rfl 35 _ rfl (h1+1) rfl V6 Tryz.underlying35 rfl aT.out ?_))
   clear Z6 U6 V6
   generalize(y5.alloc (.cells (gA Ma.oA) 39)).setRow y5.heap.size (gA Ma.oA)=y6 at*
   generalize y5.heap.size=h5 at*
   refine(T3.out _ tb mb _ (hw.below E6) K6).mono ?_
   rintro e y7 ⟨rfl,d7⟩
   have E7:=E6.trans (d7.mono E6.size)
   obtain⟨Z8,O8,E8,L8⟩:=JA 39 (gA Ma.oA) (gA Ma.oA) E7 E7.size
   clear E6 K6 d7 L8 E7 T3 O8
   go_wp2_with (refine wpList_store_row rfl 39 _ _ rfl y7.heap.size (gA Ma.oA) rfl rfl 39 _ Z8 IC.out rfl OC.out ?_)
   go_ret
   exact⟨rfl,E8⟩
end Go.Proofs.YtabgoobcliijeaaGreatDoor
