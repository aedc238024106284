/- The walk of the reference's Cookie. -/
import Derived.Test.YtabgoobcliijeaaGreatDoorY18
import Derived.Test.YtabgoobcliijeaaGreatDoorY19
import Derived.Test.YtabgoobcliijeaaGreatDoorY14
import Derived.StillTailTactics
set_option maxHeartbeats 8000000
set_option maxRecDepth 100000
namespace Go.Proofs.YtabgoobcliijeaaGreatDoor
open Go.RowKit
namespace Dt
theorem dAq: ∀s:List UInt8,(toks s).length<=s.length+1
 | []=>zB3 _
 |c::r=>by
  have ih:=dAq r
  cases h:ZA c with
  |true=>rw[IH h];simp;omega
  |false=>
   rw[rI h]
   cases e:toks r with
   |nil=>exact absurd e (ER r)
   |cons p ps=>rw[e]at ih;simp at ih⊢;omega
theorem DW: ∀s:List UInt8,∀p∈toks s,p.length<=s.length
 | [],p,hp=>by
  rw[toks,List.mem_singleton]at hp
  rw[hp];exact Nat.zero_le _
 |c::r,p,hp=>by
  have ih:=DW r
  cases h:ZA c with
  |true=>
   rw[IH h]at hp
   rcases List.mem_cons.1 hp with rfl|hp
   ·exact Nat.zero_le _
   ·have:=ih p hp;simp;omega
  |false=>
   rw[rI h]at hp
   cases e:toks r with
   |nil=>exact absurd e (ER r)
   |cons q qs=>
    rw[e]at hp ih
    rcases List.mem_cons.1 hp with rfl|hp
    ·have:=ih q (by simp);simp;omega
    ·have:=ih p (by simp[hp]);simp;omega
def VC(o:Option Nat):Int:=match o with|some n=>n|none=> -1
theorem qAu(z:Nat):dD z=if 70<=(z:Int)/\(z:Int)<=99 then(z:Int)+1900 else if(z:Int)<=69 then(z:Int)+2000 else(z:Int):=by
 unfold dD
 by_cases k1:70<=z/\z<=99
 ·rw[if_pos k1,if_pos (show 70<=(z:Int)/\(z:Int)<=99 by omega)]
 ·rw[if_neg k1,if_neg (show¬(70<=(z:Int)/\(z:Int)<=99) by omega)]
  by_cases k2:z<=69
  ·rw[if_pos k2,if_pos (show(z:Int)<=69 by omega)]
  ·rw[if_neg k2,if_neg (show¬(z:Int)<=69 by omega)]
def WR(o:Option Nat):Int:=match o with|some y=>dD y|none=> -1
theorem kAW(T:Told):moment T=match T.time with
  |none=>(0,false)
  |some (h,mi,s)=>if Is (WR T.year) (VC T.month) (VC T.day)/\h<=23/\mi<=59/\s<=59 then(days (WR T.year) (VC T.month) (VC T.day)*86400+(h*3600+mi*60+s:Nat),true)else(0,false):=by
 obtain⟨t,d,m,y⟩:=T
 unfold moment
 dsimp only
 cases t with
 |none=>rfl
 |some t=>
  obtain⟨h,mi,s⟩:=t
  cases d with
  |none=>
   dsimp only
   rw[if_neg]
   rintro⟨⟨_,_,_,_,h5,_⟩,_⟩
   have:VC none= -1:=rfl
   omega
  |some d=>
   cases m with
   |none=>
    dsimp only
    rw[if_neg]
    rintro⟨⟨_,_,h3,_⟩,_⟩
    have:VC none= -1:=rfl
    omega
   |some m=>
    cases y with
    |none=>
     dsimp only
     rw[if_neg]
     rintro⟨⟨h1,_⟩,_⟩
     have:WR none= -1:=rfl
     omega
    |some y=>rfl
end Dt
namespace Dt
theorem oAX {T:Told}{x:List UInt8}(h0: ¬(T.time=none/\gB x≠none))(h:T.day=none/\1<=lead x/\lead x<=2):tell T x= {T with day:=some (Oct.numOf (x.take (lead x)))} :=by
 unfold tell;rw[if_neg h0,if_pos h]
theorem oAY {T:Told}{x:List UInt8}(h0: ¬(T.time=none/\gB x≠none))(h1: ¬(T.day=none/\1<=lead x/\lead x<=2))(h:T.month=none/\0<month x):tell T x= {T with month:=some (month x)} :=by
 unfold tell;rw[if_neg h0,if_neg h1,if_pos h]
theorem pA0 {T:Told}{x:List UInt8}(h0: ¬(T.time=none/\gB x≠none))(h1: ¬(T.day=none/\1<=lead x/\lead x<=2))(h2: ¬(T.month=none/\0<month x))(h:T.year=none/\2<=lead x/\lead x<=4):tell T x= {T with year:=some (Oct.numOf (x.take (lead x)))} :=by
 unfold tell;rw[if_neg h0,if_neg h1,if_neg h2,if_pos h]
theorem oAZ {T:Told}{x:List UInt8}(h0: ¬(T.time=none/\gB x≠none))(h1: ¬(T.day=none/\1<=lead x/\lead x<=2))(h2: ¬(T.month=none/\0<month x))(h3: ¬(T.year=none/\2<=lead x/\lead x<=4)):tell T x=T:=by
 unfold tell;rw[if_neg h0,if_neg h1,if_neg h2,if_neg h3]
theorem hAM {tks:List (List UInt8)}{k:Nat}{p:List UInt8}{T:Told}(h:(tks.take k).foldl tell untold=T)(hp:tks[k]? =some p):(tks.take (k+1)).foldl tell untold=tell T p:=by
 obtain⟨hl,e⟩:=List.getElem?_eq_some_iff.1 hp
 rw[List.take_succ_eq_append_getElem hl,List.foldl_append,h,e];rfl
theorem gA1(o:Option (Nat×Nat×Nat)):(cE o).length=if o.isSome then 3 else 0:=by cases o<;>rfl
end Dt
theorem DR {w:World}{B g cap:Nat}{ps:List (List UInt8)}{n:Nat}(h:w.ownsRow B 9 1 (.slice (some ⟨g,0,none⟩) n cap) n (ps.map lA)){k:Nat}{p:List UInt8}(hp:ps[k]? =some p)(hk:k<n):w.cell? ⟨g,k,none⟩=some (lA p):=by
 rw[h.cellAt k (by omega),List.getElem?_map,hp];rfl
theorem CV {w:World}{B n s:Nat}{t:TypeId}{v:Value}{xs:List Value}(h:w.ownsRow B t s v n xs)(hn:0<n): ∃g cap,v= .slice (some ⟨g,0,none⟩) n cap/\B<=g/\g<w.heap.size:=by
 rcases h.2 with⟨_,h0⟩|⟨g,cap,cur,rfl,hb,hg,_⟩
 ·omega
 ·exact⟨g,cap,rfl,hb,(Array.getElem?_eq_some_iff.1 hg).1⟩
theorem mAA(s:ByteArray)(w:World)(hs:s.size<=1024):Calls Tryz.prog 52 #[.string s] w (BF (Dt.kB s.data.toList) w):=by
 have AA:Hid (∀n b w',Dt.kB s.data.toList=(n,b)->Below w.heap.size w w'->BF (Dt.kB s.data.toList) w (.returned (.tuple #[.int .i64 n,.bool b])) w'):=zA7 (fun n b w' h k=>lV h k)
 generalize hpost:BF (Dt.kB s.data.toList) w=post at*
 clear hpost
 have hsl:=Oct.nA s
 have jS:Hid (Dt.kB s.data.toList=Dt.moment ((Dt.toks s.data.toList).foldl Dt.tell Dt.untold)):=zA7 rfl
 generalize Dt.kB s.data.toList=res at*
 obtain⟨i0,hi,hz0,hz1,hz2⟩:=info_parts UU
 go_enter Tryz.func52,Tryz.ntmps52
 go_wp2
 have O0:(w.alloc (.cells #[.string ⟨#[]⟩] 9)).ownsRow w.heap.size 9 1 (.slice (some ⟨w.heap.size,0,none⟩) 1 1) 1 (((Dt.toks []).map lA)):=World.ownsRow_lit w #[.string ⟨#[]⟩] 1 (zB3 _) (by simp only[maxLen];omega) rfl
 have B0:=(Below.refl w.heap.size w).alloc (zB3 _) (.cells #[.string ⟨#[]⟩] 9)
 go_loopw [4,5] (fun v i wr=> ∃(k n:Nat),k<=s.size/\i= .int .i64 k/\(Dt.toks (s.data.toList.take k)).length=n/\wr.ownsRow w.heap.size 9 1 v n ((Dt.toks (s.data.toList.take k)).map lA)/\Below w.heap.size w wr) (fun _ i _=>s.size- (intOf i).toNat)
 case atStart=>exact⟨0,1,Nat.zero_le _,rfl,by rw[List.take_zero];rfl,by rw[List.take_zero];exact O0,B0⟩
 case round=>
  clear O0 B0
  obtain⟨k,n,hk,rfl,hn,hown,hb⟩:=hrel
  have hnc:=Dt.dAq (s.data.toList.take k)
  rw[List.length_take,hsl,hn]at hnc
  have rAk:n<=1025:=by omega
  by_cases hlt:k<s.size
  ·have HC:=zA7 (fun W=>mAQ s[k] W)
   have htk:=Oct.fG s k hlt
   cases hsb:Dt.ZA s[k]with
   |true=>
    rw[hsb]at HC
    have DQ:=Dt.dAs (s.data.toList.take k) hsb
    rw[<-htk]at DQ
    have xE:=zA7 DQ
    have oC:Hid ((Dt.toks (s.data.toList.take (k+1))).length=n+1):=zA7 (by rw[DQ,zB4,hn];rfl)
    clear hsb htk DQ
    go_wp2_with (first
     |(go_at_call 79;refine(HC.out _).mono ?_;rintro e w' ⟨rfl,rfl⟩)
     |(at_builtin;refine wpList_append_own _ rfl _ _ 27 rfl w.heap.size 9 i0 (.string ⟨#[]⟩) 1 16 Tryz.underlying27 hi hz0 hz1 hz2 rfl (by decide) _ _ _ rfl (hown.alloc _) ⟨wr.heap.size,0,none⟩ 1 1 [.string ⟨#[]⟩] rfl rfl (cell_one_new _ _ _) ?c1a ?JJ ?KJ ?XH ?_))
    case c1a=>intro u hu;simp at hu;subst hu;rfl
    case JJ=>simp only[maxLen];omega
    case KJ=>omega
    case XH=>have:=hb.size;simp;omega
    intro v' w5 hown' hgrow _
    have R:w5.ownsRow w.heap.size 9 1 v' (n+1) ((Dt.toks (s.data.toList.take (k+1))).map lA):=by rw[xE.out,List.map_append];exact hown'
    have B:=hb.trans (((Below.refl _ wr).alloc hb.size (.cells #[.string ⟨#[]⟩] 9)).grown hgrow (by have:=hb.size;simp;omega) (fun g hg=>(hown.lt g hg).1))
    clear hown' hgrow hown
    go_wp2
    go_roundw
    case rel=>exact⟨k+1,n+1,by omega,by go_num,oC.out,R,B⟩
    case measure=>simp[intOf];omega
   |false=>
    rw[hsb]at HC
    obtain⟨ps,p,e1,e2⟩:=Dt.dAr (s.data.toList.take k) hsb
    rw[<-htk]at e2
    have hps:ps.length+1=n:=by rw[<-hn,e1,zB4];rfl
    obtain⟨g,cap,rfl,hg1,hg2⟩:=CV hown (by omega)
    have hpl:=Dt.DW (s.data.toList.take k) p (by rw[e1];simp)
    rw[List.length_take,hsl]at hpl
    rw[e1]at hown
    have hcell:=DR hown (k:=n-1) (p:=p) (by rw[List.getElem?_append_right (by omega)];have:n-1-ps.length=0:=by omega
                                            rw[this];rfl) (by omega)
    have hfr:=hown.frozenAt (n-1)
    obtain⟨pb,hpb⟩: ∃pb:ByteArray,(⟨p.toArray⟩:ByteArray)=pb:=⟨_,rfl⟩
    have aAc:pb.size=p.length:=by rw[<-hpb];exact(show(List.toArray p).size=_ by simp)
    obtain⟨cb,hcb⟩: ∃cb:ByteArray,s.extract k (k+1)=cb:=⟨_,rfl⟩
    have iAG:cb.size=1:=by rw[<-hcb,ByteArray.size_extract];omega
    have tQ:Value.string (pb++cb)=lA (p++ [s[k]]):=by
     unfold lA
     congr 1
     rw[<-hpb,<-hcb,Lib.extract_eq]
     have:(s.data.toList.drop k).take (k+1-k)= [s[k]]:=by
      rw[show k+1-k=1 by omega,List.drop_eq_getElem_cons (by rw[hsl];exact hlt),Oct.TF s k hlt];rfl
     rw[this]
     apply ByteArray.ext
     simp[ByteArray.data_append]
    unfold lA at hcell
    rw[hpb]at hcell
    have hst:=hown.stored (n-1) (.string (pb++cb))
    have hset:((ps++ [p]).map lA).set (n-1) (.string (pb++cb))=(Dt.toks (s.data.toList.take (k+1))).map lA:=by
     rw[tQ,e2,List.map_append,List.map_append,List.set_append_right _ _ (by rw[List.length_map];omega)]
     have:n-1- (ps.map lA).length=0:=by rw[List.length_map];omega
     rw[this];rfl
    rw[hset]at hst
    have HST:=zA7 hst.1
    have oC:Hid ((Dt.toks (s.data.toList.take (k+1))).length=n):=zA7 (by rw[e2,zB4];simp;omega)
    have B:=hb.setCell (p:=⟨g,n-1,none⟩) hg1 (.string (pb++cb))
    have hn1:(1:Int)<=(n:Int):=by omega
    have hn2:((n:Int)-1).toNat=n-1:=by omega
    have hp0: ¬9223372036854775807<pb.size+cb.size:=by omega
    have hw1:IntKind.i64.wrap ((n:Int)-1)=(n:Int)-1:=by rw[IntKind.wrap_i64];omega
    have hw2:IntKind.i64.wrap ((k:Int)+1)=(k:Int)+1:=by rw[IntKind.wrap_i64];omega
    have hw3:(0:Int)<=(n:Int)-1:=by omega
    have hw4:(n:Int)-1<(n:Int):=by omega
    have SN:(k:Int)+1<=(s.size:Int):=by omega
    have hw6:(k:Int)<=(k:Int)+1:=by omega
    have hw7:((k:Int)+1).toNat=k+1:=by omega
    have hw8:(0:Int)<=(k:Int)+1:=by omega
    clear hsb htk e1 e2 hst hset tQ hown hpl hn aAc iAG
    go_wp2_with (go_at_call 79;refine(HC.out _).mono ?_;rintro e w' ⟨rfl,rfl⟩)
    go_still_tail 13,(by kernel_rfl)
    change wpList _ _ _ _ _ wr.drew
    go_wp2
    go_roundw
    case rel=>exact⟨k+1,n,by omega,by go_num,oC.out,HST.out,B.drew⟩
    case measure=>simp[intOf];omega
  ·have hkk:k=s.size:=by omega
   subst hkk
   rw[Oct.vD s s.size (zB3 _)]at hn hown
   have hne:=Dt.ER s.data.toList
   have hsm:=Dt.DW s.data.toList
   rw[hsl]at hsm
   obtain⟨tks,aAi⟩: ∃t,Dt.toks s.data.toList=t:=⟨_,rfl⟩
   rw[aAi]at hn hown hne hsm jS
   have hn0:0<n:=by
    rw[<-hn]
    exact List.length_pos_iff.2 hne
   obtain⟨g,cap,rfl,hg1,hg2⟩:=CV hown hn0
   have JC:=zA7 hsm
   have LM:=zA7 hn
   clear aAi hne hsm hn hnc
   go_wp2
   have OT:(wr.alloc (.cells #[] 3)).ownsRow wr.heap.size 3 1 (.slice (some ⟨wr.heap.size,0,none⟩) 0 0) 0 []:=World.ownsRow_made wr #[] 0 (zB3 _) (Nat.zero_le _) rfl
   have OK:=hown.alloc (.cells #[] 3)
   have BK:=hb.alloc hb.size (.cells #[] 3)
   clear hown hb
   go_loopw [6,7,8,9,47] (fun tv y m d i wx=> ∃(k:Nat)(T:Dt.Told)(B6:Nat),k<=n/\i= .int .i64 k/\(tks.take k).foldl Dt.tell Dt.untold=T/\y= .int .i64 (Dt.VC T.year)/\m= .int .i64 (Dt.VC T.month)/\d= .int .i64 (Dt.VC T.day)/\
    wx.ownsRow B6 3 1 tv (cE T.time).length ((cE T.time).map yL)/\wx.ownsRow w.heap.size 9 1 (.slice (some ⟨g,0,none⟩) n cap) n (tks.map lA)/\Below w.heap.size w wx) (fun _ _ _ _ i _=>n- (intOf i).toNat)
   case atStart=>exact⟨0,Dt.untold,_,Nat.zero_le _,rfl,rfl,rfl,rfl,rfl,OT,OK,BK⟩
   case round=>
    clear OT OK BK
    obtain⟨k,T,B6,hk,rfl,hT,rfl,rfl,rfl,VF,AQ,hb⟩:=hrel
    by_cases hlt:k<n
    ·obtain⟨p,hp⟩: ∃p,tks[k]? =some p:=⟨_,List.getElem?_eq_getElem (by rw[LM.out];exact hlt)⟩
     have hpm:=JC.out p (List.mem_of_getElem? hp)
     have PK:=zA7 (Dt.hAM hT hp)
     have hcell:=DR AQ hp hlt
     obtain⟨x,hx⟩: ∃x:ByteArray,(⟨p.toArray⟩:ByteArray)=x:=⟨_,rfl⟩
     have hxd:x.data.toList=p:=by rw[<-hx]
     have hxs:x.size<=1024:=by rw[<-Oct.nA,hxd];omega
     unfold lA at hcell
     rw[hx]at hcell
     rw[<-hxd]at PK
     have HD:=zA7 (fun W=>cAi x W (by unfold maxLen;omega))
     have VM:=zA7 (fun W=>nA3 x W (by unfold maxLen;omega))
     have sJ:=zA7 (fun W=>mAH x W (by omega))
     have PS:=zA7 (fun h2 W=>cAm x h2 W)
     unfold VK at VM
     unfold yJ at sJ
     have hll:=Dt.WI x.data.toList
     rw[Oct.nA]at hll
     clear hx hp hxd hT
     obtain⟨o1,ho1⟩: ∃o,Dt.gB x.data.toList=o:=⟨_,rfl⟩
     obtain⟨m3,bK⟩: ∃o,Dt.month x.data.toList=o:=⟨_,rfl⟩
     obtain⟨n2,hn2⟩: ∃o,Oct.numOf (x.data.toList.take (Dt.lead x.data.toList))=o:=⟨_,rfl⟩
     obtain⟨L,hL⟩: ∃o,Dt.lead x.data.toList=o:=⟨_,rfl⟩
     have HX:=zA7 (And.intro ho1 (And.intro bK (And.intro hn2 hL)))
     rw[ho1]at VM
     rw[bK]at sJ
     rw[hn2,hL]at PS
     rw[hL]at HD hll
     have W1:Hid (o1.isSome=true->T.time=none-> ∀t,o1=some t->Dt.tell T x.data.toList= {T with time:=some t}):=zA7 (fun _ hT t ht=>Dt.dAd hT (by rw[ho1,ht]))
     have N1:Hid (¬(o1.isSome=true/\T.time=none)-> ¬(T.time=none/\Dt.gB x.data.toList≠none)):=zA7 (fun h k=>h ⟨by rw[Option.isSome_iff_ne_none,<-ho1];exact k.2,k.1⟩)
     have W2:Hid (¬(T.time=none/\Dt.gB x.data.toList≠none)->(T.day=none/\1<=L/\L<=2)->Dt.tell T x.data.toList= {T with day:=some n2}):=zA7 (fun h0 h=>by rw[<-hn2];exact Dt.oAX h0 (by rw[hL];exact h))
     have W3:Hid (¬(T.time=none/\Dt.gB x.data.toList≠none)-> ¬(T.day=none/\1<=L/\L<=2)->(T.month=none/\0<m3)->Dt.tell T x.data.toList= {T with month:=some m3}):=zA7 (fun h0 h1 h=>by rw[<-bK];exact Dt.oAY h0 (by rw[hL];exact h1) (by rw[bK];exact h))
     have W4:Hid (¬(T.time=none/\Dt.gB x.data.toList≠none)-> ¬(T.day=none/\1<=L/\L<=2)-> ¬(T.month=none/\0<m3)->(T.year=none/\2<=L/\L<=4)->Dt.tell T x.data.toList= {T with year:=some n2}):=zA7 (fun h0 h1 h2 h=>by rw[<-hn2];exact Dt.pA0 h0 (by rw[hL];exact h1) (by rw[bK];exact h2) (by rw[hL];exact h))
     have W5:Hid (¬(T.time=none/\Dt.gB x.data.toList≠none)-> ¬(T.day=none/\1<=L/\L<=2)-> ¬(T.month=none/\0<m3)-> ¬(T.year=none/\2<=L/\L<=4)->Dt.tell T x.data.toList=T):=zA7 (fun h0 h1 h2 h=>Dt.oAZ h0 (by rw[hL];exact h1) (by rw[bK];exact h2) (by rw[hL];exact h))
     clear ho1 bK hn2 hL
     obtain⟨A6,c6,rfl,_⟩:=YI VF
     have hlen:=Dt.gA1 T.time
     obtain⟨l6,FU⟩: ∃l,(cE T.time).length=l:=⟨_,rfl⟩
     rw[FU]at VF hlen⊢
     obtain⟨bt,hbt⟩: ∃b,T.time.isSome=b:=⟨_,rfl⟩
     rw[hbt]at hlen
     have cX:=zA7 hbt
     have RO:=zA7 FU
     have hl63:l6<=3:=by rw[hlen];split<;>omega
     have HLen:=zA7 hlen
     obtain⟨b1,hb1⟩: ∃b,o1.isSome=b:=⟨_,rfl⟩
     rw[hb1]at VM
     have HB1:=zA7 hb1
     clear hbt FU hlen hb1
     obtain⟨iy,sH⟩: ∃i,Dt.VC T.year=i:=⟨_,rfl⟩
     obtain⟨im,him⟩: ∃i,Dt.VC T.month=i:=⟨_,rfl⟩
     obtain⟨id',KN⟩: ∃i,Dt.VC T.day=i:=⟨_,rfl⟩
     rw[sH,him,KN]
     have HI:=zA7 (And.intro sH (And.intro him KN))
     have s1:(T.day=none/\id'= -1)\/(T.day≠none/\0<=id'):=by
      cases h:T.day with
      |none=>left;rw[<-KN,h];exact⟨rfl,rfl⟩
      |some z=>right;rw[<-KN,h];exact⟨by simp,by show(0:Int)<=(z:Int);omega⟩
     have s2:(T.month=none/\im= -1)\/(T.month≠none/\0<=im):=by
      cases h:T.month with
      |none=>left;rw[<-him,h];exact⟨rfl,rfl⟩
      |some z=>right;rw[<-him,h];exact⟨by simp,by show(0:Int)<=(z:Int);omega⟩
     have s3:(T.year=none/\iy= -1)\/(T.year≠none/\0<=iy):=by
      cases h:T.year with
      |none=>left;rw[<-sH,h];exact⟨rfl,rfl⟩
      |some z=>right;rw[<-sH,h];exact⟨by simp,by show(0:Int)<=(z:Int);omega⟩
     have S1:=zA7 s1
     have S2:=zA7 s2
     have S3:=zA7 s3
     clear sH him KN s1 s2 s3
     go_upto_region 15 with(first
      |(go_at_call 80;refine(HD.out _).mono ?_;rintro e w3 ⟨rfl,rfl⟩)
      |(go_at_call 81;refine(VM.out _).mono ?_;rintro e w3 ⟨v3,rfl,O3,d3⟩))
     have cT:=NG VF d3
     have jP:=NG AQ d3
     have B3:=hb.trans (d3.mono hb.size)
     clear VF AQ hb d3 hcell HD VM
     go_cut [63] (fun sx wx=>sx= .bool (b1&& !bt)/\w3=wx)
     case first=>
      cases b1 with
      |false=>
       go_wp2
       go_meet
       exact⟨rfl,rfl⟩
      |true=>
       have hx:=HLen.out
       cases bt with
       |false=>
        have h0:((l6:Int)==0)=true:=by rw[hx];rfl
        clear hx
        go_wp2
        go_meet
        exact⟨rfl,rfl⟩
       |true=>
        have h0:((l6:Int)==0)=false:=by rw[hx];rfl
        clear hx
        go_wp2
        go_meet
        exact⟨rfl,rfl⟩
     case rest=>
     obtain⟨rfl,rfl⟩:=hcut
     cases hB:(b1&& !bt)with
     |true=>
      rw[Bool.and_eq_true,Bool.not_eq_true']at hB
      have lQ:T.time=none:=by
       have:=cX.out
       rw[hB.2,Option.isSome_eq_false_iff,Option.isNone_iff_eq_none]at this
       exact this
      have ho:=HB1.out
      rw[hB.1]at ho
      obtain⟨t,rfl⟩:=Option.isSome_iff_exists.1 ho
      have HR:=zA7 (W1.out ho lQ t rfl)
      clear hB ho lQ
      go_wp2
      go_roundw
      case rel=>exact⟨k+1,_,_,by omega,by go_num,PK.out.trans HR.out,IA HI.out.1.symm,IA HI.out.2.1.symm,IA HI.out.2.2.symm,O3,jP,B3⟩
      case measure=>simp[intOf];omega
     |false=>
     have M1:=zA7 (N1.out (fun h=>by rw[HB1.out]at h;rw[h.1]at hB;have:=cX.out;rw[h.2]at this;rw[<-this]at hB;cases hB))
     clear hB N1 W1 O3
     go_upto_region 17 with fail
     go_cut [74] (fun sx wx=>sx= .bool (decide (T.day=none/\1<=L/\L<=2))/\w3=wx)
     case first=>
      rcases S1.out with⟨h1,rfl⟩|⟨h1,h2⟩
      ·by_cases k1:1<=L
       ·have UN:(1:Int)<=(L:Int):=by omega
        by_cases k2:L<=2
        ·have VU:(L:Int)<=2:=by omega
         have hd:=zA9 (show T.day=none/\1<=L/\L<=2 from⟨h1,k1,k2⟩)
         have CB:=zA7 hd
         clear hd k1 k2 h1
         go_wp2
         go_meet
         exact⟨by rw[CB.out],rfl⟩
        ·have VU: ¬(L:Int)<=2:=by omega
         have hd:=zA8 (show¬(T.day=none/\1<=L/\L<=2) from fun h=>k2 h.2.2)
         have CB:=zA7 hd
         clear hd k1 k2 h1
         go_wp2
         go_meet
         exact⟨by rw[CB.out],rfl⟩
       ·have UN: ¬(1:Int)<=(L:Int):=by omega
        have hd:=zA8 (show¬(T.day=none/\1<=L/\L<=2) from fun h=>k1 h.2.1)
        have CB:=zA7 hd
        clear hd k1 h1
        go_wp2
        go_meet
        exact⟨by rw[CB.out],rfl⟩
      ·have D7: ¬id'<0:=by omega
       have hd:=zA8 (show¬(T.day=none/\1<=L/\L<=2) from fun h=>h1 h.1)
       have CB:=zA7 hd
       clear hd h1 h2
       go_wp2
       go_meet
       exact⟨by rw[CB.out],rfl⟩
     case rest=>
     obtain⟨rfl,rfl⟩:=hcut
     by_cases hB:T.day=none/\1<=L/\L<=2
     ·have HR:=zA7 (W2.out M1.out hB)
      have hd:=zA9 hB
      obtain⟨_,hb1,hb2⟩:=hB
      have HV:=zA7 (PS.out (by omega))
      have hLx:(L:Int)<=(x.size:Int):=by omega
      generalize decide (T.day=none/\1<=L/\L<=2)=bb at*
      subst hd
      clear hb1 hb2
      go_wp2_with (go_at_call 82;refine(HV.out _).mono ?_;rintro e w4 ⟨rfl,rfl⟩)
      go_roundw
      case rel=>exact⟨k+1,_,_,by omega,by go_num,PK.out.trans HR.out,IA HI.out.1.symm,IA HI.out.2.1.symm,rfl,by rw[RO.out];exact cT,jP,B3⟩
      case measure=>simp[intOf];omega
     have M2:=zA7 hB
     have hd:=zA8 hB
     generalize decide (T.day=none/\1<=L/\L<=2)=bb at*
     subst hd
     clear hB W2
     go_upto_region 19 with fail
     go_cut [85] (fun sx wx=>sx= .bool (decide (T.month=none/\0<m3))/\Below w3.heap.size w3 wx)
     case first=>
      rcases S2.out with⟨h1,rfl⟩|⟨h1,h2⟩
      ·by_cases k1:0<m3
       ·have UN:(0:Int)<(m3:Int):=by omega
        have hd:=zA9 (show T.month=none/\0<m3 from⟨h1,k1⟩)
        have CB:=zA7 hd
        have nS:=zA7 (zA9 k1)
        clear hd k1 h1
        go_wp2_with (go_at_call 83;refine(sJ.out _).mono ?_;rintro e w4 ⟨rfl,d4⟩)
        go_meet
        exact⟨by rw[CB.out,nS.out],d4⟩
       ·have UN: ¬(0:Int)<(m3:Int):=by omega
        have hd:=zA8 (show¬(T.month=none/\0<m3) from fun h=>k1 h.2)
        have CB:=zA7 hd
        have nS:=zA7 (zA8 k1)
        clear hd k1 h1
        go_wp2_with (go_at_call 83;refine(sJ.out _).mono ?_;rintro e w4 ⟨rfl,d4⟩)
        go_meet
        exact⟨by rw[CB.out,nS.out],d4⟩
      ·have D7: ¬im<0:=by omega
       have hd:=zA8 (show¬(T.month=none/\0<m3) from fun h=>h1 h.1)
       have CB:=zA7 hd
       clear hd h1 h2
       go_wp2
       go_meet
       exact⟨by rw[CB.out],Below.refl _ _⟩
     case rest=>
     obtain⟨rfl,d4⟩:=hcut
     have lP:=NG cT d4
     have kP:=NG jP d4
     have B4:=B3.trans (d4.mono B3.size)
     clear cT jP B3 d4
     by_cases hB:T.month=none/\0<m3
     ·have HR:=zA7 (W3.out M1.out M2.out hB)
      have hd:=zA9 hB
      generalize decide (T.month=none/\0<m3)=bb at*
      subst hd
      clear hB
      go_wp2_with fail
      refine(sJ.out _).mono ?_
      rintro e w5 ⟨rfl,d5⟩
      have OT5:=NG lP d5
      have OK5:=NG kP d5
      have B5:=B4.trans (d5.mono B4.size)
      clear lP kP B4 d5
      go_wp2
      go_roundw
      case rel=>exact⟨k+1,_,_,by omega,by go_num,PK.out.trans HR.out,IA HI.out.1.symm,rfl,IA HI.out.2.2.symm,by rw[RO.out];exact OT5,OK5,B5⟩
      case measure=>simp[intOf];omega
     have M3:=zA7 hB
     have hd:=zA8 hB
     generalize decide (T.month=none/\0<m3)=bb at*
     subst hd
     clear hB W3
     go_upto_region 21 with fail
     go_cut [97] (fun sx wx=>sx= .bool (decide (T.year=none/\2<=L/\L<=4))/\wc=wx)
     case first=>
      rcases S3.out with⟨h1,rfl⟩|⟨h1,h2⟩
      ·by_cases k1:2<=L
       ·have UN:(2:Int)<=(L:Int):=by omega
        by_cases k2:L<=4
        ·have VU:(L:Int)<=4:=by omega
         have hd:=zA9 (show T.year=none/\2<=L/\L<=4 from⟨h1,k1,k2⟩)
         have CB:=zA7 hd
         clear hd k1 k2 h1
         go_wp2
         go_meet
         exact⟨by rw[CB.out],rfl⟩
        ·have VU: ¬(L:Int)<=4:=by omega
         have hd:=zA8 (show¬(T.year=none/\2<=L/\L<=4) from fun h=>k2 h.2.2)
         have CB:=zA7 hd
         clear hd k1 k2 h1
         go_wp2
         go_meet
         exact⟨by rw[CB.out],rfl⟩
       ·have UN: ¬(2:Int)<=(L:Int):=by omega
        have hd:=zA8 (show¬(T.year=none/\2<=L/\L<=4) from fun h=>k1 h.2.1)
        have CB:=zA7 hd
        clear hd k1 h1
        go_wp2
        go_meet
        exact⟨by rw[CB.out],rfl⟩
      ·have D7: ¬iy<0:=by omega
       have hd:=zA8 (show¬(T.year=none/\2<=L/\L<=4) from fun h=>h1 h.1)
       have CB:=zA7 hd
       clear hd h1 h2
       go_wp2
       go_meet
       exact⟨by rw[CB.out],rfl⟩
     case rest=>
     obtain⟨rfl,rfl⟩:=hcut
     by_cases hB:T.year=none/\2<=L/\L<=4
     ·have HR:=zA7 (W4.out M1.out M2.out M3.out hB)
      have hd:=zA9 hB
      obtain⟨_,hb1,hb2⟩:=hB
      have HV:=zA7 (PS.out (by omega))
      have hLx:(L:Int)<=(x.size:Int):=by omega
      generalize decide (T.year=none/\2<=L/\L<=4)=bb at*
      subst hd
      clear hb1 hb2
      go_wp2_with (go_at_call 82;refine(HV.out _).mono ?_;rintro e w4 ⟨rfl,rfl⟩)
      go_roundw
      case rel=>exact⟨k+1,_,_,by omega,by go_num,PK.out.trans HR.out,rfl,IA HI.out.2.1.symm,IA HI.out.2.2.symm,by rw[RO.out];exact lP,kP,B4⟩
      case measure=>simp[intOf];omega
     have HR:=zA7 (W5.out M1.out M2.out M3.out hB)
     have hd:=zA8 hB
     generalize decide (T.year=none/\2<=L/\L<=4)=bb at*
     subst hd
     clear hB W4 W5
     go_wp2
     go_roundw
     case rel=>exact⟨k+1,_,_,by omega,by go_num,PK.out.trans HR.out,IA HI.out.1.symm,IA HI.out.2.1.symm,IA HI.out.2.2.symm,by rw[RO.out];exact lP,kP,B4⟩
     case measure=>simp[intOf];omega
    ·have hkn:k=n:=by omega
     subst hkn
     rw[List.take_of_length_le (by rw[LM.out];exact zB3 _)]at hT
     have hm:=jS.out
     rw[hT,Dt.kAW]at hm
     have HM:=zA7 hm
     clear hT hm jS JC AQ
     obtain⟨iy,sH⟩: ∃i,Dt.VC T.year=i:=⟨_,rfl⟩
     obtain⟨Y,hY⟩: ∃i,Dt.WR T.year=i:=⟨_,rfl⟩
     have s3:(iy= -1/\Y= -1)\/(0<=iy/\Y=if 70<=iy/\iy<=99 then iy+1900 else if iy<=69 then iy+2000 else iy):=by
      cases h:T.year with
      |none=>left;rw[<-sH,<-hY,h];exact⟨rfl,rfl⟩
      |some z=>
       right
       rw[<-sH,<-hY,h]
       refine⟨by show(0:Int)<=(z:Int);omega,?_⟩
       exact Dt.qAu z
     rw[sH]
     rw[hY]at HM
     have S3:=zA7 s3
     clear sH hY s3
     obtain⟨A6,c6,rfl,_⟩:=YI VF
     go_upto_region 24 with fail
     go_cut [108] (fun sx wx=>sx= .bool (decide (70<=iy/\iy<=99))/\wr=wx)
     case first=>
      by_cases k1:(70:Int)<=iy
      ·by_cases k2:iy<=(99:Int)
       ·have CB:=zA7 (zA9 (And.intro k1 k2))
        go_wp2
        go_meet
        exact⟨by rw[CB.out],rfl⟩
       ·have CB:=zA7 (zA8 (show¬(70<=iy/\iy<=99) from fun h=>k2 h.2))
        go_wp2
        go_meet
        exact⟨by rw[CB.out],rfl⟩
      ·have CB:=zA7 (zA8 (show¬(70<=iy/\iy<=99) from fun h=>k1 h.1))
       go_wp2
       go_meet
       exact⟨by rw[CB.out],rfl⟩
     case rest=>
     obtain⟨rfl,rfl⟩:=hcut
     obtain⟨by1,xU⟩: ∃b,decide (70<=iy/\iy<=99)=b:=⟨_,rfl⟩
     rw[xU]
     have RK:=zA7 xU
     clear xU
     go_upto_if 108 with fail
     go_cut [7] (fun sx wx=>sx= .int .i64 Y/\wr=wx)
     case first=>
      cases by1 with
      |true=>
       have hr:=zB1 RK.out
       have hz:Y=iy+1900:=by
        rcases S3.out with⟨h1,_⟩|⟨_,h2⟩
        ·omega
        ·rw[h2,if_pos hr]
       have hw:=hr.2
       have hw':=hr.1
       clear hr
       go_wp2
       go_meet
       exact⟨IA hz.symm,rfl⟩
      |false=>
       have hr:=of_decide_eq_false RK.out
       by_cases k1:(0:Int)<=iy
       ·by_cases k2:iy<=(69:Int)
        ·have hz:Y=iy+2000:=by
          rcases S3.out with⟨h1,_⟩|⟨_,h2⟩
          ·omega
          ·rw[h2,if_neg hr,if_pos k2]
         clear hr
         go_wp2
         go_meet
         exact⟨IA hz.symm,rfl⟩
        ·have hz:Y=iy:=by
          rcases S3.out with⟨h1,_⟩|⟨_,h2⟩
          ·omega
          ·rw[h2,if_neg hr,if_neg k2]
         have HZ:=zA7 hz
         clear hr hz
         go_wp2
         go_meet
         exact⟨IA HZ.out.symm,rfl⟩
       ·have hz:Y=iy:=by
         rcases S3.out with⟨h1,h2⟩|⟨h1,h2⟩
         ·omega
         ·omega
        have HZ:=zA7 hz
        clear hr hz
        go_wp2
        go_meet
        exact⟨IA HZ.out.symm,rfl⟩
     case rest=>
     obtain⟨rfl,rfl⟩:=hcut
     clear S3 RK
     have HI:=zA7 (fun W=>cAn Y (Dt.VC T.month) (Dt.VC T.day) W)
     have MO:=zA7 (fun W=>XV Y (Dt.VC T.month) (Dt.VC T.day) W)
     unfold qM at MO
     have mS:=zA7 (fun h=>Dt.MJ (y:=Y) (m:=Dt.VC T.month) (d:=Dt.VC T.day) h)
     have HD1:=zA7 (fun h=>Dt.LT (y:=Y) (m:=Dt.VC T.month) (d:=Dt.VC T.day) h)
     generalize Dt.VC T.month=im at*
     generalize Dt.VC T.day=id' at*
     generalize T.time=tt at*
     cases tt with
     |none=>
      have HR:=zA7 (AA.out 0 false wr HM.out hb)
      have h0:(((cE none).length:Int)==0)=true:=by rfl
      have h1:(cE none).length=0:=rfl
      rw[h1]
      clear VF
      go_wp2
      exact HR.out
     |some t=>
     obtain⟨h,mi,sc⟩:=t
     have hm:=HM.out
     dsimp only at hm
     have KF:=zA7 hm
     clear hm HM
     have h3:(cE (some (h,mi,sc))).length=3:=rfl
     rw[h3]at VF⊢
     obtain⟨g6,c7,he,rAd,rAe⟩:=CV VF (by omega)
     obtain⟨rfl,rfl⟩:A6=some ⟨g6,0,none⟩/\c6=c7:=by
      injection he with e1 _ e3
      exact⟨e1,e3⟩
     have t0:wr.cell? ⟨g6,0,none⟩=some (.int .i64 (h:Int)):=VF.cellAt 0 (by omega)
     have t1:wr.cell? ⟨g6,1,none⟩=some (.int .i64 (mi:Int)):=VF.cellAt 1 (by omega)
     have t2:wr.cell? ⟨g6,2,none⟩=some (.int .i64 (sc:Int)):=VF.cellAt 2 (by omega)
     clear VF he h3
     have n0:((3:Int)==0)=false:=by rfl
     by_cases hIs:Dt.Is Y im id'
     ·have hI:=HI.out
      rw[zA9 hIs]at hI
      have HI2:=zA7 hI
      have hdy:=MO.out
      rw[HD1.out hIs]at hdy
      have eAg:=zA7 hdy
      have hdb:=mS.out hIs
      have HIs:=zA7 hIs
      generalize Dt.days Y im id'=N at*
      clear hI HI hdy MO HD1 mS hIs
      by_cases k1:(23:Int)<(h:Int)
      ·have HR:=zA7 (AA.out 0 false wr (KF.out.trans (if_neg (fun c=>by have:=c.2.1;omega))) hb)
       go_wp2_with (go_at_call 84;refine(HI2.out _).mono ?_;rintro e w' ⟨rfl,rfl⟩)
       exact HR.out
      by_cases k2:(59:Int)<(mi:Int)
      ·have HR:=zA7 (AA.out 0 false wr (KF.out.trans (if_neg (fun c=>by have:=c.2.2.1;omega))) hb)
       go_wp2_with (go_at_call 84;refine(HI2.out _).mono ?_;rintro e w' ⟨rfl,rfl⟩)
       exact HR.out
      by_cases k3:(59:Int)<(sc:Int)
      ·have HR:=zA7 (AA.out 0 false wr (KF.out.trans (if_neg (fun c=>by have:=c.2.2.2;omega))) hb)
       go_wp2_with (go_at_call 84;refine(HI2.out _).mono ?_;rintro e w' ⟨rfl,rfl⟩)
       exact HR.out
      have HR:=zA7 (fun W hW=>AA.out _ _ W (KF.out.trans (if_pos ⟨HIs.out,by omega,by omega,by omega⟩)) hW)
      go_wp2_with (first
       |(go_at_call 84;refine(HI2.out _).mono ?_;rintro e w' ⟨rfl,rfl⟩)
       |(go_at_call 85;refine(eAg.out _).mono ?_;rintro e w' ⟨rfl,rfl⟩))
      have F4:Hid (∀W,Below wr.heap.size wr W->W.cell? ⟨g6,0,none⟩=some (.int .i64 (h:Int))):=zA7 (fun W hC=>(hC.cell (block_lt_of_cell t0)).trans t0)
      have F5:Hid (∀W,Below wr.heap.size wr W->W.cell? ⟨g6,1,none⟩=some (.int .i64 (mi:Int))):=zA7 (fun W hC=>(hC.cell (block_lt_of_cell t1)).trans t1)
      have F6:Hid (∀W,Below wr.heap.size wr W->W.cell? ⟨g6,2,none⟩=some (.int .i64 (sc:Int))):=zA7 (fun W hC=>(hC.cell (block_lt_of_cell t2)).trans t2)
      have z1:IntKind.i64.wrap (N*86400)=N*86400:=by rw[IntKind.wrap_i64];omega
      have z2:IntKind.i64.wrap ((h:Int)*3600)=(h:Int)*3600:=by rw[IntKind.wrap_i64];omega
      have z3:IntKind.i64.wrap ((mi:Int)*60)=(mi:Int)*60:=by rw[IntKind.wrap_i64];omega
      have z4:IntKind.i64.wrap ((h:Int)*3600+(mi:Int)*60)=(h:Int)*3600+(mi:Int)*60:=by rw[IntKind.wrap_i64];omega
      have z5:IntKind.i64.wrap ((h:Int)*3600+(mi:Int)*60+(sc:Int))=(h:Int)*3600+(mi:Int)*60+(sc:Int):=by rw[IntKind.wrap_i64];omega
      have z6:IntKind.i64.wrap (N*86400+((h:Int)*3600+(mi:Int)*60+(sc:Int)))=N*86400+((h:Int)*3600+(mi:Int)*60+(sc:Int)):=by rw[IntKind.wrap_i64];omega
      clear t0 t1 t2 k1 k2 k3 hdb
      refine rE (C:=fun W=>Below wr.heap.size wr W) (by kernel_rfl) (by kernel_rfl) (Below.refl _ _).drew ?_
      refine kA ?_
      refine kA ?_
      refine kA ?_
      refine kA ?_
      refine kA ?_ (v:= .int .i64 (h:Int)) (hv:=fun wq hC=>by have hcell:=F4.out wq hC;go_simp;try with_reducible rfl)
      refine kA ?_
      refine kA ?_
      refine kA ?_
      refine kA ?_ (v:= .int .i64 (mi:Int)) (hv:=fun wq hC=>by have hcell:=F5.out wq hC;go_simp;try with_reducible rfl)
      refine kA ?_
      refine kA ?_
      refine kA ?_
      refine kA ?_
      refine kA ?_ (v:= .int .i64 (sc:Int)) (hv:=fun wq hC=>by have hcell:=F6.out wq hC;go_simp;try with_reducible rfl)
      refine kA ?_
      refine kA ?_
      refine kA ?_
      refine kA ?_
      refine wpQuiet_nil ?_
      intro w2 hC2
      go_wp2
      have hf:=HR.out w2 (hb.trans (hC2.mono hb.size))
      have ez:((h*3600+mi*60+sc:Nat):Int)=(h:Int)*3600+(mi:Int)*60+(sc:Int):=by omega
      rw[ez]at hf
      exact hf
     ·have hI:=HI.out
      rw[zA8 hIs]at hI
      have HI2:=zA7 hI
      have HR:=zA7 (AA.out 0 false wr (KF.out.trans (if_neg (fun c=>hIs c.1))) hb)
      clear hI HI hIs HD1 mS MO
      go_wp2_with (go_at_call 84;refine(HI2.out _).mono ?_;rintro e w' ⟨rfl,rfl⟩)
      exact HR.out
end Go.Proofs.YtabgoobcliijeaaGreatDoor
