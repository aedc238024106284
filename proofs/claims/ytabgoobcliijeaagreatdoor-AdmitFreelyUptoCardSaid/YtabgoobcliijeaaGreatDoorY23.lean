/- The walk of the reference's V4. -/
import Derived.Test.YtabgoobcliijeaaGreatDoorY22
import Derived.Test.YtabgoobcliijeaaGreatDoorY12
set_option maxHeartbeats 4000000
set_option maxRecDepth 100000
namespace Go.Proofs.YtabgoobcliijeaaGreatDoor
open Go.RowKit
namespace aA
theorem kAA {l:List UInt8}{k:Nat}{c:UInt8}(hl:l.length=4)(hk:k<4)(hc:l[k]? =some c):(List.replicate 12 0++fill l 0 4 k).set (12+k) c=List.replicate 12 0++fill l 0 4 (k+1):=by
 rw[List.set_append_right _ _ (by simp)]
 have e:12+k- (List.replicate 12 (0:UInt8)).length=k:=by simp
 rw[e,mH hl hk hc]
theorem kAB(l:List UInt8):List.replicate 12 0++fill l 0 4 0=List.replicate 16 0:=by rw[dI];rfl
end aA
theorem nA5(s:ByteArray)(w:World)(hs:s.size<=1048576):
  Calls Tryz.prog 66 #[.string s] w (iB (aA.FD (aA.v4 s.data.toList)) (aA.v4 s.data.toList).isSome w):=by
 have hp:=Oct.eG 46 s.data.toList
 have hsm:=Oct.dJ 46 s.data.toList
 rw[Oct.nA]at hsm
 have nC:=zA7 (fun W=>WL s 46 W (by omega))
 obtain⟨ps,hps⟩: ∃ps,ps=Oct.split 46 s.data.toList:=⟨_,rfl⟩
 rw[<-hps]at hp hsm nC
 have HP:=zA7 hps
 have JC:=zA7 hsm
 have yS:=zA7 hp
 clear hps hsm hp
 have z1:=OI
 go_enter Tryz.func66,Tryz.ntmps66
 have R0:=(Row.new w 29 (jA zA)).alloc (.cells (jA zA) 29)
 have F0:=Row.new (w.alloc (.cells (jA zA) 29)) 29 (jA zA)
 have eN:(w.alloc (.cells (jA zA) 29)).heap.size=w.heap.size+1:=by simp
 rw[eN]at F0
 have F1:=F0.whole (jA zA)
 have R1:=R0.aside (k:=w.heap.size+1) (by omega) (jA zA)
 have B0:=((Below.refl w.heap.size w).alloc (zB3 _) (.cells (jA zA) 29)).alloc (by simp) (.cells (jA zA) 29)
 have B1:=below_setRow B0 (g:=w.heap.size+1) (by omega) (jA zA)
 go_wp2_with (refine wpList_store_row rfl 29 _ _ rfl (w.heap.size+1) (jA zA) rfl rfl 29 _ F0 xA rfl (jB _) ?_)
 clear R0 F0 B0 eN
 generalize((w.alloc (.cells (jA zA) 29)).alloc (.cells (jA zA) 29)).setRow (w.heap.size+1) (jA zA)=w1 at*
 refine(nC.out _).mono ?_
 rintro e w2 ⟨v,rfl,hown,hb⟩
 obtain⟨A,cap,rfl,hA⟩:=YI hown
 obtain⟨g,rfl⟩:=hA yS.out
 clear hA
 have hgl:=(hown.lt g rfl)
 have R2:=R1.stays hb
 have F2:=F1.stays hb
 have B2:=B1.trans (hb.mono B1.size)
 have n1:=F1.lt
 generalize w1.heap.size=N at*
 clear R1 F1 B1 hb
 by_cases h4:ps.length=4
 ·have HL:=zA7 h4
  have eU:((ps.length:Int) !=4)=false:=by rw[h4];rfl
  clear h4
  go_wp2
  rw[show zA=List.replicate 16 0 from rfl,<-aA.kAB (aA.nums ps)]at F2
  have XD:=zA7 (show(aA.nums ps).length=4 by rw[aA.nums_length,HL.out])
  go_loopw [6] (fun i wr=> ∃k:Nat,k<=4/\i= .int .i64 k/\wr.ownsRow N 9 1 (.slice (some ⟨g,0,none⟩) ps.length cap) ps.length (ps.map lA)/\Row wr w.heap.size 29 (jA zA)/\Row wr (w.heap.size+1) 29 (jA (List.replicate 12 0++aA.fill (aA.nums ps) 0 4 k))/\(ps.take k).all aA.FE=true/\Below w.heap.size w wr) (fun i _=>4- (intOf i).toNat)
  case atStart=>exact⟨0,Nat.zero_le _,rfl,hown,R2,F2,by simp,B2⟩
  case round=>
   clear hown R2 F2 B2
   obtain⟨k,hk,rfl,hown,R,F,hall,hb⟩:=hrel
   have HA:=zA7 hall
   clear hall
   by_cases hlt:k<4
   ·have hkl:k<ps.length:=by rw[HL.out];exact hlt
    obtain⟨p,t,h1,hcell,h3,_,h5⟩:=PL hown hkl
    have hpl:=JC.out p (List.mem_of_getElem? h1)
    have ht:t.size<=maxLen:=by unfold maxLen;omega
    have HC:=zA7 (fun W=>cAq t W ht)
    rw[h3]at HC
    have H1:=zA7 h1
    have hbig:=aA.bAA p
    clear h1 h3 h5 hpl ht
    rcases aA.bAG p with⟨hk1,hk2⟩|⟨hk1,hk2,hk3⟩|⟨hk1,hk2,hk3⟩
    ·have HN:=zA7 (show iB (aA.FD (aA.v4 s.data.toList)) (aA.v4 s.data.toList).isSome=iB zA false by rw[aA.OR (by rw[<-HP.out];exact H1.out) hk1];rfl)
     rw[hk2]at HC
     clear hk1 hk2 hown F
     go_wp2_with (first
      |(go_at_call 45;refine(HC.out _).mono ?_;rintro e w' ⟨rfl,rfl⟩)
      |(refine wpList_store_row rfl 29 _ _ rfl w.heap.size (jA zA) rfl rfl 29 _ R xA rfl (jB _) ?_))
     rw[HN.out]
     exact bodyPost_ret (DA rfl _ _ w.heap.size _ _ _ rfl _ rfl (R.whole _) Tryz.underlying29 rfl xA) rfl ⟨rfl,below_setRow hb (zB3 _) _⟩
    ·have HN:=zA7 (show iB (aA.FD (aA.v4 s.data.toList)) (aA.v4 s.data.toList).isSome=iB zA false by rw[aA.OR (by rw[<-HP.out];exact H1.out) hk1];rfl)
     rw[hk2]at HC
     clear hk1 hk2 hown F
     go_wp2_with (first
      |(go_at_call 45;refine(HC.out _).mono ?_;rintro e w' ⟨rfl,rfl⟩)
      |(refine wpList_store_row rfl 29 _ _ rfl w.heap.size (jA zA) rfl rfl 29 _ R xA rfl (jB _) ?_))
     rw[HN.out]
     exact bodyPost_ret (DA rfl _ _ w.heap.size _ _ _ rfl _ rfl (R.whole _) Tryz.underlying29 rfl xA) rfl ⟨rfl,below_setRow hb (zB3 _) _⟩
    ·rw[hk2]at HC
     have kJ:=zA7 (aA.bAv HA.out H1.out hk1)
     have hw:=aA.bAB H1.out
     have hv:Value.int .u8 (Oct.number p:Int)=OA (UInt8.ofNat (Oct.number p)):=by unfold OA;rw[UInt8.toNat_ofNat'];exact IA (by omega)
     have hfl:(List.replicate 12 0++aA.fill (aA.nums ps) 0 4 k).length=16:=by rw[zB4,aA.QI XD.out hk,List.length_replicate]
     have e12:((12:Int)+(k:Int)).toNat=12+k:=by omega
     obtain⟨u1,c1⟩: ∃u,wr.cell? ⟨w.heap.size+1,12+k,none⟩=some u:=⟨_,by rw[F.cell];exact Array.getElem?_eq_getElem (by rw[BC,hfl];omega)⟩
     have f1:=F.free (12+k)
     have F3:=F.set (12+k) (OA (UInt8.ofNat (Oct.number p)))
     rw[IJ,aA.kAA XD.out hlt hw,<-hv]at F3
     have B3:=hb.setCell (p:=⟨w.heap.size+1,12+k,none⟩) (by simp) (.int .u8 (Oct.number p:Int))
     have R3:=R.other (p:=⟨w.heap.size+1,12+k,none⟩) (by simp) (.int .u8 (Oct.number p:Int))
     have O3:=QL hown (p:=⟨w.heap.size+1,12+k,none⟩) (by simp[Value.ownBlock];omega) (.int .u8 (Oct.number p:Int))
     clear hk1 hk2 hw hv hfl F hb R hown
     generalize Oct.number p=x at*
     go_wp2_with (go_at_call 45;refine(HC.out _).mono ?_;rintro e w' ⟨rfl,rfl⟩)
     go_roundw
     case rel=>exact⟨k+1,by omega,by go_num,O3,R3,F3,kJ.out,B3⟩
     case measure=>simp[intOf];omega
   ·have hkk:k=4:=by omega
    subst hkk
    rw[aA.PI XD.out]at F
    have HS:=zA7 (show aA.v4 s.data.toList=some (aA.nums ps) by
     have:=aA.dAE (s:=s.data.toList) (by rw[<-HP.out];exact HL.out) (by rw[<-HP.out];have:=HA.out;rw[List.take_of_length_le (by have:=HL.out;omega)]at this;exact this)
     rw[<-HP.out]at this
     exact this)
    have HZ:=zA7 (show(jA (List.replicate 12 0++aA.nums ps)).size=16 by rw[BC,zB4,XD.out,List.length_replicate])
    have HD:=zA7 (show aA.FD (some (aA.nums ps))=List.replicate 12 0++aA.nums ps from rfl)
    generalize List.replicate 12 0++aA.nums ps=G at*
    clear hown
    go_wp2_with (first
     |(refine iA 40 rfl ?_;refine qA rfl 29 _ rfl (w.heap.size+1) rfl F Tryz.underlying29 rfl (by rw[HZ.out];exact xA) ?_)
     |(refine wpList_store_row rfl 29 _ _ rfl w.heap.size (jA G) rfl rfl 29 _ R (by rw[HZ.out];exact xA) (by rw[HZ.out];rfl) (jB _) ?_))
    rw[HS.out,HD.out]
    exact bodyPost_ret (DA rfl _ _ w.heap.size _ _ _ rfl _ rfl (R.whole _) Tryz.underlying29 rfl (by rw[HZ.out];exact xA)) rfl ⟨rfl,below_setRow hb (zB3 _) _⟩
 ·have HN:=zA7 (show iB (aA.FD (aA.v4 s.data.toList)) (aA.v4 s.data.toList).isSome=iB zA false by rw[aA.dAD (by rw[<-HP.out];exact h4)];rfl)
  have eU:((ps.length:Int) !=4)=true:=by rw[bne_iff_ne];omega
  clear h4
  go_wp2_with (refine wpList_store_row rfl 29 _ _ rfl w.heap.size (jA zA) rfl rfl 29 _ R2 xA rfl (jB _) ?_)
  rw[HN.out]
  exact bodyPost_ret (DA rfl _ _ w.heap.size _ _ _ rfl _ rfl (R2.whole _) Tryz.underlying29 rfl xA) rfl ⟨rfl,below_setRow B2 (zB3 _) _⟩
end Go.Proofs.YtabgoobcliijeaaGreatDoor
namespace Go.Proofs.YtabgoobcliijeaaGreatDoor
open Go.RowKit
namespace aA
theorem hA7 {s:List UInt8}(h:(Oct.split 58 s).length≠8):e8 s=none:=by unfold e8;rw[if_neg fun h1=>h h1.1]
theorem hA8 {s:List UInt8}{k:Nat}{p:List UInt8}(hp:(Oct.split 58 s)[k]? =some p)(hn:fB p=false):e8 s=none:=by
 unfold e8
 rw[if_neg fun h1=>?_]
 have:=List.all_eq_true.1 h1.2 p (List.mem_of_getElem? hp)
 rw[hn]at this;cases this
theorem hAb {s:List UInt8}(h:(Oct.split 58 s).length=8)(ha:(Oct.split 58 s).all fB=true):e8 s=some ((Oct.split 58 s).map YB):=by unfold e8;rw[if_pos ⟨h,ha⟩]
theorem iAf {ps:List (List UInt8)}{k:Nat}{p:List UInt8}(h:(ps.take k).all fB=true)(hp:ps[k]? =some p)(hq:fB p=true):(ps.take (k+1)).all fB=true:=by
 rw[List.all_eq_true]at h⊢
 exact Oct.cM (Q:=fun p=>fB p=true) h hp hq
theorem gAU {c:UInt8}(h:aF c=true):eL c=((KD c:Nat):Int):=by unfold eL;rw[if_pos h]
theorem gAT {c:UInt8}(h:aF c=false):eL c= -1:=by unfold eL;rw[h];rfl
end aA
theorem E0(s:ByteArray)(w:World)(hs:s.size<=2200000):
  Calls Tryz.prog 102 #[.string s] w (iB (aA.addrOf (aA.e8 s.data.toList)) (aA.e8 s.data.toList).isSome w):=by
 have hp:=Oct.eG 58 s.data.toList
 have nC:=zA7 (fun W=>WL s 58 W (by omega))
 obtain⟨ps,hps⟩: ∃ps,ps=Oct.split 58 s.data.toList:=⟨_,rfl⟩
 rw[<-hps]at hp nC
 have HP:=zA7 hps
 have yS:=zA7 hp
 have tB:=zA7 (fun k p (h:ps[k]? =some p)(hn:aA.fB p=false)=>(show iB (aA.addrOf (aA.e8 s.data.toList)) (aA.e8 s.data.toList).isSome=iB zA false by rw[aA.hA8 (by rw[<-hps];exact h) hn];rfl))
 clear hps hp
 have z1:=OI
 go_enter Tryz.func102,Tryz.ntmps102
 have R0:=(Row.new w 29 (jA zA)).alloc (.cells (jA zA) 29)
 have F0:=Row.new (w.alloc (.cells (jA zA) 29)) 29 (jA zA)
 have eN:(w.alloc (.cells (jA zA) 29)).heap.size=w.heap.size+1:=by simp
 rw[eN]at F0
 have F1:=F0.whole (jA zA)
 have R1:=R0.aside (k:=w.heap.size+1) (by omega) (jA zA)
 have B0:=((Below.refl w.heap.size w).alloc (zB3 _) (.cells (jA zA) 29)).alloc (by simp) (.cells (jA zA) 29)
 have B1:=below_setRow B0 (g:=w.heap.size+1) (by omega) (jA zA)
 go_wp2_with (refine wpList_store_row rfl 29 _ _ rfl (w.heap.size+1) (jA zA) rfl rfl 29 _ F0 xA rfl (jB _) ?_)
 clear R0 F0 B0 eN
 generalize((w.alloc (.cells (jA zA) 29)).alloc (.cells (jA zA) 29)).setRow (w.heap.size+1) (jA zA)=w1 at*
 refine(nC.out _).mono ?_
 rintro e w2 ⟨v,rfl,hown,hb⟩
 obtain⟨A,cap,rfl,hA⟩:=YI hown
 obtain⟨g,rfl⟩:=hA yS.out
 clear hA
 have hgl:=(hown.lt g rfl)
 have R2:=R1.stays hb
 have F2:=F1.stays hb
 have B2:=B1.trans (hb.mono B1.size)
 have n1:=F1.lt
 generalize w1.heap.size=N at*
 clear R1 F1 B1 hb
 by_cases h8:ps.length=8
 ·have HL:=zA7 h8
  have h8b:((ps.length:Int) !=8)=false:=by rw[h8];rfl
  clear h8
  go_wp2
  obtain⟨gs,hgs⟩: ∃gs,gs=ps.map aA.YB:=⟨_,rfl⟩
  have HG:=zA7 hgs
  have XD:=zA7 (show(aA.from_ gs).length=16 by rw[aA.oH,hgs,List.length_map,HL.out])
  clear hgs
  rw[show zA=List.replicate 16 0 from rfl,<-aA.dI (aA.from_ gs)]at F2
  go_loopw [6] (fun i wr=> ∃k:Nat,k<=8/\i= .int .i64 k/\wr.ownsRow N 9 1 (.slice (some ⟨g,0,none⟩) ps.length cap) ps.length (ps.map lA)/\Row wr w.heap.size 29 (jA zA)/\Row wr (w.heap.size+1) 29 (jA (aA.fill (aA.from_ gs) 0 16 (2*k)))/\(ps.take k).all aA.fB=true/\Below w.heap.size w wr) (fun i _=>8- (intOf i).toNat)
  case atStart=>exact⟨0,Nat.zero_le _,rfl,hown,R2,F2,by simp,B2⟩
  case round=>
   clear hown R2 F2 B2
   obtain⟨k,hk,rfl,hown,R,F,hall,hb⟩:=hrel
   have HA:=zA7 hall
   clear hall
   by_cases hlt:k<8
   ·have hkl:k<ps.length:=by rw[HL.out];exact hlt
    obtain⟨p,t,h1,hcell,h3,_,h5⟩:=PL hown hkl
    subst h3
    have H1:=zA7 h1
    clear h1
    by_cases hout:t.size<1\/4<t.size
    ·have HN:=zA7 (tB.out k _ H1.out (aA.aAw hout))
     have hor:(t.size<1)\/(¬(t.size:Int)<1/\4<t.size):=by omega
     clear hout h5 hown F
     rcases hor with h1|⟨h1,h2⟩
     all_goals
      go_wp2_with (refine wpList_store_row rfl 29 _ _ rfl w.heap.size (jA zA) rfl rfl 29 _ R xA rfl (jB _) ?_)
      rw[HN.out]
      exact bodyPost_ret (DA rfl _ _ w.heap.size _ _ _ rfl _ rfl (R.whole _) Tryz.underlying29 rfl xA) rfl ⟨rfl,below_setRow hb (zB3 _) _⟩
    ·have t1:1<=t.size:=by omega
     have t4:t.size<=4:=by omega
     clear hout h5
     go_wp2
     go_loop [7,8] (fun v i=> ∃m:Nat,m<=t.size/\i= .int .i64 m/\v= .int .i64 ((aA.JD (t.data.toList.take m):Nat):Int)/\(t.data.toList.take m).all aA.aF=true) (fun _ i=>t.size- (intOf i).toNat)
     case atStart=>exact⟨0,Nat.zero_le _,rfl,by simp[aA.JD],by simp⟩
     case round=>
      obtain⟨m,hm,rfl,rfl,hall⟩:=hrel
      have HM:=zA7 hall
      clear hall
      by_cases hmt:m<t.size
      ·have hb4:=aA.J6 t t4 m hmt
       have HT:=zA7 (aA.M6 t m hmt)
       have hd:=aA.AU t[m]
       cases hh:aA.aF t[m]with
       |true=>
        have HY:=zA7 (Oct.DJ t m hmt HM.out hh)
        have hc:=fun W=>cAh t[m] W
        rw[aA.gAU hh]at hc
        have HC:=zA7 hc
        clear hh hc hown R F hb
        generalize aA.JD (t.data.toList.take m)=n at*
        generalize aA.KD t[m]=d at*
        go_wp2_with (go_at_call 139;refine(HC.out _).mono ?_;rintro e w' ⟨rfl,rfl⟩)
        go_round
        case rel=>exact⟨m+1,by omega,by go_num,IA (by rw[HT.out];omega),HY.out⟩
        case measure=>simp[intOf];omega
       |false=>
        have HN:=zA7 (tB.out k _ H1.out (aA.aAx m hmt hh))
        have hc:=fun W=>cAh t[m] W
        rw[aA.gAT hh]at hc
        have HC:=zA7 hc
        clear hh hc hown F
        go_wp2_with (first
         |(go_at_call 139;refine(HC.out _).mono ?_;rintro e w' ⟨rfl,rfl⟩)
         |(refine wpList_store_row rfl 29 _ _ rfl w.heap.size (jA zA) rfl rfl 29 _ R xA rfl (jB _) ?_))
        rw[HN.out]
        exact bodyPost_ret (DA rfl _ _ w.heap.size _ _ _ rfl _ rfl (R.whole _) Tryz.underlying29 rfl xA) rfl ⟨rfl,below_setRow hb (zB3 _) _⟩
      ·have hY:=aA.aAy m (by omega) HM.out t1 t4
       have hT:=Oct.vD t m (by omega)
       rw[hT]
       have hZ:=aA.cU (l:=t.data.toList) (by rw[Oct.nA];exact t4)
       have kJ:=zA7 (aA.iAf HA.out H1.out hY)
       obtain⟨x,hx⟩: ∃x,x=aA.YB t.data.toList:=⟨_,rfl⟩
       rw[<-hx]at hZ
       rw[<-hZ]
       have hx1:=aA.tK x
       have hgk:gs[k]? =some x:=by rw[HG.out,List.getElem?_map,H1.out,hx];rfl
       have HX:=zA7 (aA.XT gs k x hgk)
       have hl2:=aA.QI (z:=(0:UInt8)) (n:=16) (k:=2*k) XD.out (by omega)
       obtain⟨u1,c1⟩: ∃u,wr.cell? ⟨w.heap.size+1,2*k,none⟩=some u:=⟨_,by rw[F.cell];exact Array.getElem?_eq_getElem (by rw[BC,hl2];omega)⟩
       obtain⟨u2,c2⟩: ∃u,wr.cell? ⟨w.heap.size+1,2*k+1,none⟩=some u:=⟨_,by rw[F.cell];exact Array.getElem?_eq_getElem (by rw[BC,hl2];omega)⟩
       have f1:=F.free (2*k)
       have f2:=F.free (2*k+1)
       have e1:((2:Int)*(k:Int)).toNat=2*k:=by omega
       have e2:((2:Int)*(k:Int)+1).toNat=2*k+1:=by omega
       have R3:Row ((wr.setCell ⟨w.heap.size+1,2*k,none⟩ (.int .u8 ((x.toNat:Int)/256))).setCell ⟨w.heap.size+1,2*k+1,none⟩ (.int .u8 ((x.toNat:Int)%256))) (w.heap.size+1) 29 (jA (aA.fill (aA.from_ gs) 0 16 (2*(k+1)))):=by
        have h1:Value.int .u8 ((x.toNat:Int)/256)=OA (aA.hi x):=by unfold OA;rw[aA.wQ];exact IA (by omega)
        have h2:Value.int .u8 ((x.toNat:Int)%256)=OA (aA.lo x):=by unfold OA;rw[aA.QQ];exact IA (by omega)
        have R:=(F.set (2*k) (OA (aA.hi x))).set (2*k+1) (OA (aA.lo x))
        rw[IJ,IJ,aA.mH XD.out (by omega) HX.out.1,aA.mH XD.out (by omega) HX.out.2]at R
        rw[h1,h2]
        exact R
       have B3:=((hb.setCell (p:=⟨w.heap.size+1,2*k,none⟩) (by simp) (.int .u8 ((x.toNat:Int)/256))).setCell (p:=⟨w.heap.size+1,2*k+1,none⟩) (by simp) (.int .u8 ((x.toNat:Int)%256)))
       have S3:=((R.other (p:=⟨w.heap.size+1,2*k,none⟩) (by simp) (.int .u8 ((x.toNat:Int)/256))).other (p:=⟨w.heap.size+1,2*k+1,none⟩) (by simp) (.int .u8 ((x.toNat:Int)%256)))
       have O3:=QL (QL hown (p:=⟨w.heap.size+1,2*k,none⟩) (by simp[Value.ownBlock];omega) (.int .u8 ((x.toNat:Int)/256))) (p:=⟨w.heap.size+1,2*k+1,none⟩) (by simp[Value.ownBlock];omega) (.int .u8 ((x.toNat:Int)%256))
       clear hY hT hZ hx hgk hl2 F R hown hb
       go_wp2
       go_roundw
       case rel=>exact⟨k+1,by omega,by go_num,O3,S3,R3,kJ.out,B3⟩
       case measure=>simp[intOf];omega
   ·have hkk:k=8:=by omega
    subst hkk
    rw[aA.PI XD.out]at F
    have HS:=zA7 (show aA.e8 s.data.toList=some gs by
     have:=aA.hAb (s:=s.data.toList) (by rw[<-HP.out];exact HL.out) (by rw[<-HP.out];have:=HA.out;rw[List.take_of_length_le (by have:=HL.out;omega)]at this;exact this)
     rw[<-HP.out,<-HG.out]at this
     exact this)
    have HZ:=zA7 (show(jA (aA.from_ gs)).size=16 by rw[BC,XD.out])
    have HD:=zA7 (show aA.addrOf (some gs)=aA.from_ gs from rfl)
    generalize aA.from_ gs=G at*
    clear hown
    go_wp2_with (first
     |(refine iA 72 rfl ?_;refine qA rfl 29 _ rfl (w.heap.size+1) rfl F Tryz.underlying29 rfl (by rw[HZ.out];exact xA) ?_)
     |(refine wpList_store_row rfl 29 _ _ rfl w.heap.size (jA G) rfl rfl 29 _ R (by rw[HZ.out];exact xA) (by rw[HZ.out];rfl) (jB _) ?_))
    rw[HS.out,HD.out]
    exact bodyPost_ret (DA rfl _ _ w.heap.size _ _ _ rfl _ rfl (R.whole _) Tryz.underlying29 rfl (by rw[HZ.out];exact xA)) rfl ⟨rfl,below_setRow hb (zB3 _) _⟩
 ·have HN:=zA7 (show iB (aA.addrOf (aA.e8 s.data.toList)) (aA.e8 s.data.toList).isSome=iB zA false by rw[aA.hA7 (by rw[<-HP.out];exact h8)];rfl)
  have h8b:((ps.length:Int) !=8)=true:=by rw[bne_iff_ne];omega
  clear h8
  go_wp2_with (refine wpList_store_row rfl 29 _ _ rfl w.heap.size (jA zA) rfl rfl 29 _ R2 xA rfl (jB _) ?_)
  rw[HN.out]
  exact bodyPost_ret (DA rfl _ _ w.heap.size _ _ _ rfl _ rfl (R2.whole _) Tryz.underlying29 rfl xA) rfl ⟨rfl,below_setRow B2 (zB3 _) _⟩
end Go.Proofs.YtabgoobcliijeaaGreatDoor
namespace Go.Proofs.YtabgoobcliijeaaGreatDoor
open Go.RowKit
theorem nA6(s:ByteArray)(w:World)(hs:s.size<=1048576):
  Calls Tryz.prog 64 #[.string s] w (iB (aA.addrOf (aA.v6 s.data.toList)) (aA.v6 s.data.toList).isSome w):=by
 have HE:=zA7 E0
 have z1:=OI
 have WX:=zA7 (show(jA zA).size=16 from rfl)
 have hc8:=fun W=>E0 s W (by omega)
 go_enter Tryz.func64,Tryz.ntmps64
 go_wp2_with fail
 have R0:=Row.new w 29 (jA zA)
 have B0:=(Below.refl w.heap.size w).alloc (zB3 _) (.cells (jA zA) 29)
 generalize w.alloc (.cells (jA zA) 29)=w0 at*
 cases he:aA.e8 s.data.toList with
 |some gs=>
  rw[he]at hc8
  have HC:=zA7 hc8
  have HN:Hid (iB (aA.addrOf (aA.v6 s.data.toList)) (aA.v6 s.data.toList).isSome=iB (aA.from_ gs) true):=zA7 (by rw[aA.dAG he];rfl)
  have HG:=zA7 (show(jA (aA.from_ gs)).size=16 by rw[BC,aA.oH,aA.uK (aA.dAG he)])
  have HD:Hid (aA.addrOf (some gs)=aA.from_ gs):=zA7 rfl
  rw[HD.out]at HC
  generalize aA.from_ gs=G at*
  clear hc8 he HD
  refine(HC.out _).mono ?_
  rintro e w1 ⟨rfl,b1⟩
  have R1:=R0.stays b1
  have B1:=B0.trans (b1.mono B0.size)
  have s1:=B1.size
  have n1:w.heap.size≠w1.heap.size:=by have:=R1.lt;omega
  have T1:=Row.new w1 29 (jA zA)
  have T2:=T1.whole (jA G)
  have R2:=(R1.alloc (.cells (jA zA) 29)).aside n1 (jA G)
  have B2:=below_setRow (B1.alloc s1 (.cells (jA zA) 29)) s1 (jA G)
  clear R0 B0 b1 R1 B1
  go_wp2_with (first
   |(refine iA 19 rfl ?_;refine qA rfl 29 _ rfl w1.heap.size rfl T2 Tryz.underlying29 rfl (by rw[HG.out];exact xA) ?_)
   |(refine wpList_store_row rfl 29 _ _ rfl w1.heap.size (jA G) rfl rfl 29 _ T1 (by rw[HG.out];exact xA) (by rw[HG.out];rfl) (jB _) ?_)
   |(refine wpList_store_row rfl 29 _ _ rfl w.heap.size (jA G) rfl rfl 29 _ R2 (by rw[HG.out];exact xA) (by rw[HG.out];rfl) (jB _) ?_))
  rw[HN.out]
  exact bodyPost_ret (DA rfl _ _ w.heap.size _ _ _ rfl _ rfl (R2.whole _) Tryz.underlying29 rfl (by rw[HG.out];exact xA)) rfl ⟨rfl,below_setRow B2 (zB3 _) _⟩
 |none=>
  rw[he]at hc8
  have HC:Hid (∀W,Calls Tryz.prog 102 #[.string s] W (iB zA false W)):=zA7 hc8
  have HE8:=zA7 he
  clear hc8 he
  refine(HC.out _).mono ?_
  rintro e w1 ⟨rfl,b1⟩
  have R1:=R0.stays b1
  have B1:=B0.trans (b1.mono B0.size)
  have s1:=B1.size
  have n1:w.heap.size≠w1.heap.size:=by have:=R1.lt;omega
  have T1:=Row.new w1 29 (jA zA)
  have R2:=(R1.alloc (.cells (jA zA) 29)).aside n1 (jA zA)
  have B2:=below_setRow (B1.alloc s1 (.cells (jA zA) 29)) s1 (jA zA)
  clear R0 B0 b1 R1 B1
  go_wp2_with (refine wpList_store_row rfl 29 _ _ rfl w1.heap.size (jA zA) rfl rfl 29 _ T1 xA rfl (jB _) ?_)
  generalize(w1.alloc (.cells (jA zA) 29)).setRow w1.heap.size (jA zA)=w2 at*
  generalize w1.heap.size=n4 at*
  clear T1 s1 n1 HC
  go_loopw [6] (fun i wr=> ∃at_:Nat,at_<=s.size/\i= .int .i64 at_/\Hid (∀j,j<at_->aA.Two s.data.toList j->aA.cand (s.data.toList.take j) (s.data.toList.drop (j+2))=none)/\Row wr w.heap.size 29 (jA zA)/\Below w.heap.size w wr) (fun i _=>s.size+1- (intOf i).toNat)
  case atStart=>exact⟨0,Nat.zero_le _,rfl,fun j hj=>absurd hj (by omega),R2,B2⟩
  case round=>
   clear R2 B2
   obtain⟨at_,hat,rfl,HO,R,hb⟩:=hrel
   by_cases hle:at_+2<=s.size
   ·have l0:at_<s.size:=by omega
    have l1:at_+1<s.size:=by omega
    have e1:((at_:Int)+1).toNat=at_+1:=by omega
    have e2:((at_:Int)+2).toNat=at_+2:=by omega
    have t0:s.data.toList[at_]? =some s[at_]:=by rw[List.getElem?_eq_getElem (by rw[Oct.nA];exact l0)];rfl
    have t1:s.data.toList[at_+1]? =some s[at_+1]:=by rw[List.getElem?_eq_getElem (by rw[Oct.nA];exact l1)];rfl
    by_cases TI:(s[at_].toNat:Int)=58/\(s[at_+1].toNat:Int)=58
    ·have J8:aA.Two s.data.toList at_:=by
      unfold aA.Two
      rw[t0,t1,Oct.mB (a:=s[at_]) (b:=58) (by have:=TI.1;show _=58;omega),Oct.mB (a:=s[at_+1]) (b:=58) (by have:=TI.2;show _=58;omega)]
      exact⟨rfl,rfl⟩
     have HT:=zA7 J8
     have g1:((s[at_].toNat:Int) !=58)=false:=by rw[TI.1];rfl
     have g2:((s[at_+1].toNat:Int) !=58)=false:=by rw[TI.2];rfl
     obtain⟨A,hA⟩: ∃A,A=s.data.toList.take at_:=⟨_,rfl⟩
     obtain⟨B,hB⟩: ∃B,B=s.data.toList.drop (at_+2):=⟨_,rfl⟩
     have HAe:=zA7 hA
     have KO:=zA7 hB
     have HV:=zA7 (fun gs (h:aA.cand A B=some gs)=>aA.qA0 HT.out (by rw[<-hA,<-hB];exact h))
     have hlA:A.length=at_:=by rw[hA,List.length_take,Oct.nA];omega
     have hlB:B.length=s.size- (at_+2):=by rw[hB,List.length_drop,Oct.nA]
     have BG:(s.extract 0 at_).data.toList=A:=by rw[Lib.extract_data,hA];simp
     have CG:(s.extract (at_+2) s.size).data.toList=B:=by
      rw[Lib.extract_data,hB]
      exact List.take_of_length_le (by rw[List.length_drop,Oct.nA];exact zB3 _)
     have eA:(s.extract 0 at_).toList.isEmpty=decide (A= []):=by rw[Oct.SA,BG,Bool.eq_iff_iff,List.isEmpty_iff,decide_eq_true_iff]
     have eB:(s.extract (at_+2) s.size).toList.isEmpty=decide (B= []):=by rw[Oct.SA,CG,Bool.eq_iff_iff,List.isEmpty_iff,decide_eq_true_iff]
     clear hA hB TI J8 t0 t1
     by_cases hA0:A= []<;>by_cases hB0:B= []
     ·rw[zA9 hA0]at eA
      rw[zA9 hB0]at eB
      have hFf:(s.extract 0 at_:ByteArray).data.toList=aA.F A:=by unfold aA.F;rw[if_pos hA0];rw[BG,hA0]
      have hBb:(s.extract (at_+2) s.size:ByteArray).data.toList=aA.H B:=by unfold aA.H;rw[if_pos hB0];rw[CG,hB0]
      have hfs:(s.extract 0 at_:ByteArray).size<=1048576:=by rw[<-Oct.nA,hFf];unfold aA.F;split<;>simp<;>omega
      have hbs:(s.extract (at_+2) s.size:ByteArray).size<=1048576:=by rw[<-Oct.nA,hBb];unfold aA.H;split<;>simp<;>omega
      clear BG CG hlA hlB
      go_wp2
      generalize(s.extract 0 at_:ByteArray)=f at*
      generalize(s.extract (at_+2) s.size:ByteArray)=b at*
      have pJ:=zA7 hFf
      have lJ:=zA7 hBb
      clear hFf hBb
      go_loopw [9,10] (fun z i wv=> ∃(k:Nat)(o:ByteArray),k<=8/\i= .int .i64 (k:Int)/\z= .string o/\Hid (o.data.toList=aA.Z k)/\o.size<=17/\Hid (∀j,j<k->aA.e8 (aA.F A++aA.Z j++aA.H B)=none)/\Row wv w.heap.size 29 (jA zA)/\Below w.heap.size w wv) (fun _ i _=>8- (intOf i).toNat)
      case atStart=>exact⟨0,⟨#[48]⟩,Nat.zero_le _,rfl,rfl,rfl,by decide,fun j hj=>absurd hj (by omega),R,hb⟩
      case round=>
       clear R hb
       obtain⟨k,o,hk,rfl,rfl,OE,ho,tB,R,hb⟩:=hrel
       by_cases EU:k<8
       ·have q1: ¬9223372036854775807<f.size+o.size:=by omega
        have q2: ¬9223372036854775807<f.size+o.size+b.size:=by omega
        have q3: ¬9223372036854775807<o.size+2:=by omega
        have cs:(⟨#[58,48]⟩:ByteArray).size=2:=rfl
        have hsz:(f++o++b:ByteArray).size<=2200000:=by rw[ByteArray.size_append,ByteArray.size_append];omega
        have yG:(f++o++b:ByteArray).data.toList=aA.F A++aA.Z k++aA.H B:=by
         rw[ByteArray.data_append,ByteArray.data_append,Array.toList_append,Array.toList_append,pJ.out,lJ.out,OE.out]
        have hc:=fun W=>HE.out (f++o++b) W hsz
        rw[yG]at hc
        clear yG hsz
        cases he:aA.e8 (aA.F A++aA.Z k++aA.H B)with
        |some gs=>
         rw[he]at hc
         have HC:=zA7 hc
         have hv:=HV.out gs (aA.GP he)
         have HN:Hid (iB (aA.addrOf (aA.v6 s.data.toList)) (aA.v6 s.data.toList).isSome=iB (aA.from_ gs) true):=zA7 (by rw[hv];rfl)
         have HG:=zA7 (show(jA (aA.from_ gs)).size=16 by rw[BC,aA.oH,aA.uK hv])
         have HD:Hid (aA.addrOf (some gs)=aA.from_ gs):=zA7 rfl
         rw[HD.out]at HC
         generalize aA.from_ gs=G at*
         clear hc he HD hv
         go_wp2_with fail
         refine(HC.out _).mono ?_
         rintro e w3 ⟨rfl,b3⟩
         have R3:=R.stays b3
         have B3:=hb.trans (b3.mono hb.size)
         have s3:=B3.size
         have n3:w.heap.size≠w3.heap.size:=by have:=R3.lt;omega
         have T3:=Row.new w3 29 (jA zA)
         have T5:=T3.whole (jA G)
         have R5:=(R3.alloc (.cells (jA zA) 29)).aside n3 (jA G)
         have B5:=below_setRow (B3.alloc s3 (.cells (jA zA) 29)) s3 (jA G)
         clear R hb b3 R3 B3
         go_wp2_with (first
          |(refine iA 67 rfl ?_;refine qA rfl 29 _ rfl w3.heap.size rfl T5 Tryz.underlying29 rfl (by rw[HG.out];exact xA) ?_)
          |(refine wpList_store_row rfl 29 _ _ rfl w3.heap.size (jA G) rfl rfl 29 _ T3 (by rw[HG.out];exact xA) (by rw[HG.out];rfl) (jB _) ?_)
          |(refine wpList_store_row rfl 29 _ _ rfl w.heap.size (jA G) rfl rfl 29 _ R5 (by rw[HG.out];exact xA) (by rw[HG.out];rfl) (jB _) ?_))
         rw[HN.out]
         exact bodyPost_ret (DA rfl _ _ w.heap.size _ _ _ rfl _ rfl (R5.whole _) Tryz.underlying29 rfl (by rw[HG.out];exact xA)) rfl ⟨rfl,below_setRow B5 (zB3 _) _⟩
        |none=>
         rw[he]at hc
         have HC:Hid (∀W,Calls Tryz.prog 102 #[.string (f++o++b)] W (iB zA false W)):=zA7 hc
         have oC:Hid (∀j,j<k+1->aA.e8 (aA.F A++aA.Z j++aA.H B)=none):=zA7 fun j hj=>by
          by_cases e:j=k
          ·rw[e];exact he
          ·exact tB.out j (by omega)
         have oG:=zA7 (show(o++⟨#[58,48]⟩:ByteArray).data.toList=aA.Z (k+1) by rw[ByteArray.data_append,Array.toList_append,OE.out];rfl)
         have tJ:=zA7 (show(o++⟨#[58,48]⟩:ByteArray).size<=17 by rw[<-Oct.nA,oG.out,aA.yP];omega)
         clear hc he tB OE
         go_wp2_with fail
         refine(HC.out _).mono ?_
         rintro e w3 ⟨rfl,b3⟩
         have R3:=R.stays b3
         have B3:=hb.trans (b3.mono hb.size)
         have s3:=B3.size
         have n3:w.heap.size≠w3.heap.size:=by have:=R3.lt;omega
         have T3:=Row.new w3 29 (jA zA)
         have R5:=(R3.alloc (.cells (jA zA) 29)).aside n3 (jA zA)
         have B5:=below_setRow (B3.alloc s3 (.cells (jA zA) 29)) s3 (jA zA)
         clear R hb b3 R3 B3
         go_wp2_with (refine wpList_store_row rfl 29 _ _ rfl w3.heap.size (jA zA) rfl rfl 29 _ T3 xA rfl (jB _) ?_)
         go_roundw
         case rel=>exact⟨k+1,_,by omega,by go_num,rfl,oG.out,tJ.out,oC.out,R5,B5⟩
         case measure=>simp[intOf];omega
       ·have YJ:k=8:=by omega
        subst YJ
        have HK:Hid (∀j,j<at_+1->aA.Two s.data.toList j->aA.cand (s.data.toList.take j) (s.data.toList.drop (j+2))=none):=zA7 fun j hj h2=>by
         by_cases e:j=at_
         ·subst e
          have:=aA.FP tB.out
          rw[HAe.out,KO.out]at this
          exact this
         ·exact HO.out j (by omega) h2
        clear tB
        go_wp2
        go_roundw
        case rel=>exact⟨at_+1,by omega,by go_num,HK.out,R,hb⟩
        case measure=>simp[intOf];omega
     ·rw[zA9 hA0]at eA
      rw[zA8 hB0]at eB
      have hFf:(s.extract 0 at_:ByteArray).data.toList=aA.F A:=by unfold aA.F;rw[if_pos hA0];rw[BG,hA0]
      have hBb:(⟨#[58]⟩++s.extract (at_+2) s.size:ByteArray).data.toList=aA.H B:=by unfold aA.H;rw[if_neg hB0];rw[ByteArray.data_append,Array.toList_append,CG];rfl
      have hfs:(s.extract 0 at_:ByteArray).size<=1048576:=by rw[<-Oct.nA,hFf];unfold aA.F;split<;>simp<;>omega
      have hbs:(⟨#[58]⟩++s.extract (at_+2) s.size:ByteArray).size<=1048576:=by rw[<-Oct.nA,hBb];unfold aA.H;split<;>simp<;>omega
      have sb:(s.extract (at_+2) s.size).size=s.size- (at_+2):=by rw[<-Oct.nA,CG,hlB]
      have pb: ¬9223372036854775807<1+(s.extract (at_+2) s.size).size:=by omega
      clear sb
      clear BG CG hlA hlB
      go_wp2
      generalize(s.extract 0 at_:ByteArray)=f at*
      generalize(⟨#[58]⟩++s.extract (at_+2) s.size:ByteArray)=b at*
      have pJ:=zA7 hFf
      have lJ:=zA7 hBb
      clear hFf hBb
      go_loopw [9,10] (fun z i wv=> ∃(k:Nat)(o:ByteArray),k<=8/\i= .int .i64 (k:Int)/\z= .string o/\Hid (o.data.toList=aA.Z k)/\o.size<=17/\Hid (∀j,j<k->aA.e8 (aA.F A++aA.Z j++aA.H B)=none)/\Row wv w.heap.size 29 (jA zA)/\Below w.heap.size w wv) (fun _ i _=>8- (intOf i).toNat)
      case atStart=>exact⟨0,⟨#[48]⟩,Nat.zero_le _,rfl,rfl,rfl,by decide,fun j hj=>absurd hj (by omega),R,hb⟩
      case round=>
       clear R hb
       obtain⟨k,o,hk,rfl,rfl,OE,ho,tB,R,hb⟩:=hrel
       by_cases EU:k<8
       ·have q1: ¬9223372036854775807<f.size+o.size:=by omega
        have q2: ¬9223372036854775807<f.size+o.size+b.size:=by omega
        have q3: ¬9223372036854775807<o.size+2:=by omega
        have cs:(⟨#[58,48]⟩:ByteArray).size=2:=rfl
        have hsz:(f++o++b:ByteArray).size<=2200000:=by rw[ByteArray.size_append,ByteArray.size_append];omega
        have yG:(f++o++b:ByteArray).data.toList=aA.F A++aA.Z k++aA.H B:=by
         rw[ByteArray.data_append,ByteArray.data_append,Array.toList_append,Array.toList_append,pJ.out,lJ.out,OE.out]
        have hc:=fun W=>HE.out (f++o++b) W hsz
        rw[yG]at hc
        clear yG hsz
        cases he:aA.e8 (aA.F A++aA.Z k++aA.H B)with
        |some gs=>
         rw[he]at hc
         have HC:=zA7 hc
         have hv:=HV.out gs (aA.GP he)
         have HN:Hid (iB (aA.addrOf (aA.v6 s.data.toList)) (aA.v6 s.data.toList).isSome=iB (aA.from_ gs) true):=zA7 (by rw[hv];rfl)
         have HG:=zA7 (show(jA (aA.from_ gs)).size=16 by rw[BC,aA.oH,aA.uK hv])
         have HD:Hid (aA.addrOf (some gs)=aA.from_ gs):=zA7 rfl
         rw[HD.out]at HC
         generalize aA.from_ gs=G at*
         clear hc he HD hv
         go_wp2_with fail
         refine(HC.out _).mono ?_
         rintro e w3 ⟨rfl,b3⟩
         have R3:=R.stays b3
         have B3:=hb.trans (b3.mono hb.size)
         have s3:=B3.size
         have n3:w.heap.size≠w3.heap.size:=by have:=R3.lt;omega
         have T3:=Row.new w3 29 (jA zA)
         have T5:=T3.whole (jA G)
         have R5:=(R3.alloc (.cells (jA zA) 29)).aside n3 (jA G)
         have B5:=below_setRow (B3.alloc s3 (.cells (jA zA) 29)) s3 (jA G)
         clear R hb b3 R3 B3
         go_wp2_with (first
          |(refine iA 67 rfl ?_;refine qA rfl 29 _ rfl w3.heap.size rfl T5 Tryz.underlying29 rfl (by rw[HG.out];exact xA) ?_)
          |(refine wpList_store_row rfl 29 _ _ rfl w3.heap.size (jA G) rfl rfl 29 _ T3 (by rw[HG.out];exact xA) (by rw[HG.out];rfl) (jB _) ?_)
          |(refine wpList_store_row rfl 29 _ _ rfl w.heap.size (jA G) rfl rfl 29 _ R5 (by rw[HG.out];exact xA) (by rw[HG.out];rfl) (jB _) ?_))
         rw[HN.out]
         exact bodyPost_ret (DA rfl _ _ w.heap.size _ _ _ rfl _ rfl (R5.whole _) Tryz.underlying29 rfl (by rw[HG.out];exact xA)) rfl ⟨rfl,below_setRow B5 (zB3 _) _⟩
        |none=>
         rw[he]at hc
         have HC:Hid (∀W,Calls Tryz.prog 102 #[.string (f++o++b)] W (iB zA false W)):=zA7 hc
         have oC:Hid (∀j,j<k+1->aA.e8 (aA.F A++aA.Z j++aA.H B)=none):=zA7 fun j hj=>by
          by_cases e:j=k
          ·rw[e];exact he
          ·exact tB.out j (by omega)
         have oG:=zA7 (show(o++⟨#[58,48]⟩:ByteArray).data.toList=aA.Z (k+1) by rw[ByteArray.data_append,Array.toList_append,OE.out];rfl)
         have tJ:=zA7 (show(o++⟨#[58,48]⟩:ByteArray).size<=17 by rw[<-Oct.nA,oG.out,aA.yP];omega)
         clear hc he tB OE
         go_wp2_with fail
         refine(HC.out _).mono ?_
         rintro e w3 ⟨rfl,b3⟩
         have R3:=R.stays b3
         have B3:=hb.trans (b3.mono hb.size)
         have s3:=B3.size
         have n3:w.heap.size≠w3.heap.size:=by have:=R3.lt;omega
         have T3:=Row.new w3 29 (jA zA)
         have R5:=(R3.alloc (.cells (jA zA) 29)).aside n3 (jA zA)
         have B5:=below_setRow (B3.alloc s3 (.cells (jA zA) 29)) s3 (jA zA)
         clear R hb b3 R3 B3
         go_wp2_with (refine wpList_store_row rfl 29 _ _ rfl w3.heap.size (jA zA) rfl rfl 29 _ T3 xA rfl (jB _) ?_)
         go_roundw
         case rel=>exact⟨k+1,_,by omega,by go_num,rfl,oG.out,tJ.out,oC.out,R5,B5⟩
         case measure=>simp[intOf];omega
       ·have YJ:k=8:=by omega
        subst YJ
        have HK:Hid (∀j,j<at_+1->aA.Two s.data.toList j->aA.cand (s.data.toList.take j) (s.data.toList.drop (j+2))=none):=zA7 fun j hj h2=>by
         by_cases e:j=at_
         ·subst e
          have:=aA.FP tB.out
          rw[HAe.out,KO.out]at this
          exact this
         ·exact HO.out j (by omega) h2
        clear tB
        go_wp2
        go_roundw
        case rel=>exact⟨at_+1,by omega,by go_num,HK.out,R,hb⟩
        case measure=>simp[intOf];omega
     ·rw[zA8 hA0]at eA
      rw[zA9 hB0]at eB
      have hFf:(s.extract 0 at_++⟨#[58]⟩:ByteArray).data.toList=aA.F A:=by unfold aA.F;rw[if_neg hA0];rw[ByteArray.data_append,Array.toList_append,BG]
      have hBb:(s.extract (at_+2) s.size:ByteArray).data.toList=aA.H B:=by unfold aA.H;rw[if_pos hB0];rw[CG,hB0]
      have hfs:(s.extract 0 at_++⟨#[58]⟩:ByteArray).size<=1048576:=by rw[<-Oct.nA,hFf];unfold aA.F;split<;>simp<;>omega
      have hbs:(s.extract (at_+2) s.size:ByteArray).size<=1048576:=by rw[<-Oct.nA,hBb];unfold aA.H;split<;>simp<;>omega
      have sa:(s.extract 0 at_).size=at_:=by rw[<-Oct.nA,BG,hlA]
      have pa: ¬9223372036854775807<(s.extract 0 at_).size+1:=by omega
      clear sa
      clear BG CG hlA hlB
      go_wp2
      generalize(s.extract 0 at_++⟨#[58]⟩:ByteArray)=f at*
      generalize(s.extract (at_+2) s.size:ByteArray)=b at*
      have pJ:=zA7 hFf
      have lJ:=zA7 hBb
      clear hFf hBb
      go_loopw [9,10] (fun z i wv=> ∃(k:Nat)(o:ByteArray),k<=8/\i= .int .i64 (k:Int)/\z= .string o/\Hid (o.data.toList=aA.Z k)/\o.size<=17/\Hid (∀j,j<k->aA.e8 (aA.F A++aA.Z j++aA.H B)=none)/\Row wv w.heap.size 29 (jA zA)/\Below w.heap.size w wv) (fun _ i _=>8- (intOf i).toNat)
      case atStart=>exact⟨0,⟨#[48]⟩,Nat.zero_le _,rfl,rfl,rfl,by decide,fun j hj=>absurd hj (by omega),R,hb⟩
      case round=>
       clear R hb
       obtain⟨k,o,hk,rfl,rfl,OE,ho,tB,R,hb⟩:=hrel
       by_cases EU:k<8
       ·have q1: ¬9223372036854775807<f.size+o.size:=by omega
        have q2: ¬9223372036854775807<f.size+o.size+b.size:=by omega
        have q3: ¬9223372036854775807<o.size+2:=by omega
        have cs:(⟨#[58,48]⟩:ByteArray).size=2:=rfl
        have hsz:(f++o++b:ByteArray).size<=2200000:=by rw[ByteArray.size_append,ByteArray.size_append];omega
        have yG:(f++o++b:ByteArray).data.toList=aA.F A++aA.Z k++aA.H B:=by
         rw[ByteArray.data_append,ByteArray.data_append,Array.toList_append,Array.toList_append,pJ.out,lJ.out,OE.out]
        have hc:=fun W=>HE.out (f++o++b) W hsz
        rw[yG]at hc
        clear yG hsz
        cases he:aA.e8 (aA.F A++aA.Z k++aA.H B)with
        |some gs=>
         rw[he]at hc
         have HC:=zA7 hc
         have hv:=HV.out gs (aA.GP he)
         have HN:Hid (iB (aA.addrOf (aA.v6 s.data.toList)) (aA.v6 s.data.toList).isSome=iB (aA.from_ gs) true):=zA7 (by rw[hv];rfl)
         have HG:=zA7 (show(jA (aA.from_ gs)).size=16 by rw[BC,aA.oH,aA.uK hv])
         have HD:Hid (aA.addrOf (some gs)=aA.from_ gs):=zA7 rfl
         rw[HD.out]at HC
         generalize aA.from_ gs=G at*
         clear hc he HD hv
         go_wp2_with fail
         refine(HC.out _).mono ?_
         rintro e w3 ⟨rfl,b3⟩
         have R3:=R.stays b3
         have B3:=hb.trans (b3.mono hb.size)
         have s3:=B3.size
         have n3:w.heap.size≠w3.heap.size:=by have:=R3.lt;omega
         have T3:=Row.new w3 29 (jA zA)
         have T5:=T3.whole (jA G)
         have R5:=(R3.alloc (.cells (jA zA) 29)).aside n3 (jA G)
         have B5:=below_setRow (B3.alloc s3 (.cells (jA zA) 29)) s3 (jA G)
         clear R hb b3 R3 B3
         go_wp2_with (first
          |(refine iA 67 rfl ?_;refine qA rfl 29 _ rfl w3.heap.size rfl T5 Tryz.underlying29 rfl (by rw[HG.out];exact xA) ?_)
          |(refine wpList_store_row rfl 29 _ _ rfl w3.heap.size (jA G) rfl rfl 29 _ T3 (by rw[HG.out];exact xA) (by rw[HG.out];rfl) (jB _) ?_)
          |(refine wpList_store_row rfl 29 _ _ rfl w.heap.size (jA G) rfl rfl 29 _ R5 (by rw[HG.out];exact xA) (by rw[HG.out];rfl) (jB _) ?_))
         rw[HN.out]
         exact bodyPost_ret (DA rfl _ _ w.heap.size _ _ _ rfl _ rfl (R5.whole _) Tryz.underlying29 rfl (by rw[HG.out];exact xA)) rfl ⟨rfl,below_setRow B5 (zB3 _) _⟩
        |none=>
         rw[he]at hc
         have HC:Hid (∀W,Calls Tryz.prog 102 #[.string (f++o++b)] W (iB zA false W)):=zA7 hc
         have oC:Hid (∀j,j<k+1->aA.e8 (aA.F A++aA.Z j++aA.H B)=none):=zA7 fun j hj=>by
          by_cases e:j=k
          ·rw[e];exact he
          ·exact tB.out j (by omega)
         have oG:=zA7 (show(o++⟨#[58,48]⟩:ByteArray).data.toList=aA.Z (k+1) by rw[ByteArray.data_append,Array.toList_append,OE.out];rfl)
         have tJ:=zA7 (show(o++⟨#[58,48]⟩:ByteArray).size<=17 by rw[<-Oct.nA,oG.out,aA.yP];omega)
         clear hc he tB OE
         go_wp2_with fail
         refine(HC.out _).mono ?_
         rintro e w3 ⟨rfl,b3⟩
         have R3:=R.stays b3
         have B3:=hb.trans (b3.mono hb.size)
         have s3:=B3.size
         have n3:w.heap.size≠w3.heap.size:=by have:=R3.lt;omega
         have T3:=Row.new w3 29 (jA zA)
         have R5:=(R3.alloc (.cells (jA zA) 29)).aside n3 (jA zA)
         have B5:=below_setRow (B3.alloc s3 (.cells (jA zA) 29)) s3 (jA zA)
         clear R hb b3 R3 B3
         go_wp2_with (refine wpList_store_row rfl 29 _ _ rfl w3.heap.size (jA zA) rfl rfl 29 _ T3 xA rfl (jB _) ?_)
         go_roundw
         case rel=>exact⟨k+1,_,by omega,by go_num,rfl,oG.out,tJ.out,oC.out,R5,B5⟩
         case measure=>simp[intOf];omega
       ·have YJ:k=8:=by omega
        subst YJ
        have HK:Hid (∀j,j<at_+1->aA.Two s.data.toList j->aA.cand (s.data.toList.take j) (s.data.toList.drop (j+2))=none):=zA7 fun j hj h2=>by
         by_cases e:j=at_
         ·subst e
          have:=aA.FP tB.out
          rw[HAe.out,KO.out]at this
          exact this
         ·exact HO.out j (by omega) h2
        clear tB
        go_wp2
        go_roundw
        case rel=>exact⟨at_+1,by omega,by go_num,HK.out,R,hb⟩
        case measure=>simp[intOf];omega
     ·rw[zA8 hA0]at eA
      rw[zA8 hB0]at eB
      have hFf:(s.extract 0 at_++⟨#[58]⟩:ByteArray).data.toList=aA.F A:=by unfold aA.F;rw[if_neg hA0];rw[ByteArray.data_append,Array.toList_append,BG]
      have hBb:(⟨#[58]⟩++s.extract (at_+2) s.size:ByteArray).data.toList=aA.H B:=by unfold aA.H;rw[if_neg hB0];rw[ByteArray.data_append,Array.toList_append,CG];rfl
      have hfs:(s.extract 0 at_++⟨#[58]⟩:ByteArray).size<=1048576:=by rw[<-Oct.nA,hFf];unfold aA.F;split<;>simp<;>omega
      have hbs:(⟨#[58]⟩++s.extract (at_+2) s.size:ByteArray).size<=1048576:=by rw[<-Oct.nA,hBb];unfold aA.H;split<;>simp<;>omega
      have sa:(s.extract 0 at_).size=at_:=by rw[<-Oct.nA,BG,hlA]
      have pa: ¬9223372036854775807<(s.extract 0 at_).size+1:=by omega
      clear sa
      have sb:(s.extract (at_+2) s.size).size=s.size- (at_+2):=by rw[<-Oct.nA,CG,hlB]
      have pb: ¬9223372036854775807<1+(s.extract (at_+2) s.size).size:=by omega
      clear sb
      clear BG CG hlA hlB
      go_wp2
      generalize(s.extract 0 at_++⟨#[58]⟩:ByteArray)=f at*
      generalize(⟨#[58]⟩++s.extract (at_+2) s.size:ByteArray)=b at*
      have pJ:=zA7 hFf
      have lJ:=zA7 hBb
      clear hFf hBb
      go_loopw [9,10] (fun z i wv=> ∃(k:Nat)(o:ByteArray),k<=8/\i= .int .i64 (k:Int)/\z= .string o/\Hid (o.data.toList=aA.Z k)/\o.size<=17/\Hid (∀j,j<k->aA.e8 (aA.F A++aA.Z j++aA.H B)=none)/\Row wv w.heap.size 29 (jA zA)/\Below w.heap.size w wv) (fun _ i _=>8- (intOf i).toNat)
      case atStart=>exact⟨0,⟨#[48]⟩,Nat.zero_le _,rfl,rfl,rfl,by decide,fun j hj=>absurd hj (by omega),R,hb⟩
      case round=>
       clear R hb
       obtain⟨k,o,hk,rfl,rfl,OE,ho,tB,R,hb⟩:=hrel
       by_cases EU:k<8
       ·have q1: ¬9223372036854775807<f.size+o.size:=by omega
        have q2: ¬9223372036854775807<f.size+o.size+b.size:=by omega
        have q3: ¬9223372036854775807<o.size+2:=by omega
        have cs:(⟨#[58,48]⟩:ByteArray).size=2:=rfl
        have hsz:(f++o++b:ByteArray).size<=2200000:=by rw[ByteArray.size_append,ByteArray.size_append];omega
        have yG:(f++o++b:ByteArray).data.toList=aA.F A++aA.Z k++aA.H B:=by
         rw[ByteArray.data_append,ByteArray.data_append,Array.toList_append,Array.toList_append,pJ.out,lJ.out,OE.out]
        have hc:=fun W=>HE.out (f++o++b) W hsz
        rw[yG]at hc
        clear yG hsz
        cases he:aA.e8 (aA.F A++aA.Z k++aA.H B)with
        |some gs=>
         rw[he]at hc
         have HC:=zA7 hc
         have hv:=HV.out gs (aA.GP he)
         have HN:Hid (iB (aA.addrOf (aA.v6 s.data.toList)) (aA.v6 s.data.toList).isSome=iB (aA.from_ gs) true):=zA7 (by rw[hv];rfl)
         have HG:=zA7 (show(jA (aA.from_ gs)).size=16 by rw[BC,aA.oH,aA.uK hv])
         have HD:Hid (aA.addrOf (some gs)=aA.from_ gs):=zA7 rfl
         rw[HD.out]at HC
         generalize aA.from_ gs=G at*
         clear hc he HD hv
         go_wp2_with fail
         refine(HC.out _).mono ?_
         rintro e w3 ⟨rfl,b3⟩
         have R3:=R.stays b3
         have B3:=hb.trans (b3.mono hb.size)
         have s3:=B3.size
         have n3:w.heap.size≠w3.heap.size:=by have:=R3.lt;omega
         have T3:=Row.new w3 29 (jA zA)
         have T5:=T3.whole (jA G)
         have R5:=(R3.alloc (.cells (jA zA) 29)).aside n3 (jA G)
         have B5:=below_setRow (B3.alloc s3 (.cells (jA zA) 29)) s3 (jA G)
         clear R hb b3 R3 B3
         go_wp2_with (first
          |(refine iA 67 rfl ?_;refine qA rfl 29 _ rfl w3.heap.size rfl T5 Tryz.underlying29 rfl (by rw[HG.out];exact xA) ?_)
          |(refine wpList_store_row rfl 29 _ _ rfl w3.heap.size (jA G) rfl rfl 29 _ T3 (by rw[HG.out];exact xA) (by rw[HG.out];rfl) (jB _) ?_)
          |(refine wpList_store_row rfl 29 _ _ rfl w.heap.size (jA G) rfl rfl 29 _ R5 (by rw[HG.out];exact xA) (by rw[HG.out];rfl) (jB _) ?_))
         rw[HN.out]
         exact bodyPost_ret (DA rfl _ _ w.heap.size _ _ _ rfl _ rfl (R5.whole _) Tryz.underlying29 rfl (by rw[HG.out];exact xA)) rfl ⟨rfl,below_setRow B5 (zB3 _) _⟩
        |none=>
         rw[he]at hc
         have HC:Hid (∀W,Calls Tryz.prog 102 #[.string (f++o++b)] W (iB zA false W)):=zA7 hc
         have oC:Hid (∀j,j<k+1->aA.e8 (aA.F A++aA.Z j++aA.H B)=none):=zA7 fun j hj=>by
          by_cases e:j=k
          ·rw[e];exact he
          ·exact tB.out j (by omega)
         have oG:=zA7 (show(o++⟨#[58,48]⟩:ByteArray).data.toList=aA.Z (k+1) by rw[ByteArray.data_append,Array.toList_append,OE.out];rfl)
         have tJ:=zA7 (show(o++⟨#[58,48]⟩:ByteArray).size<=17 by rw[<-Oct.nA,oG.out,aA.yP];omega)
         clear hc he tB OE
         go_wp2_with fail
         refine(HC.out _).mono ?_
         rintro e w3 ⟨rfl,b3⟩
         have R3:=R.stays b3
         have B3:=hb.trans (b3.mono hb.size)
         have s3:=B3.size
         have n3:w.heap.size≠w3.heap.size:=by have:=R3.lt;omega
         have T3:=Row.new w3 29 (jA zA)
         have R5:=(R3.alloc (.cells (jA zA) 29)).aside n3 (jA zA)
         have B5:=below_setRow (B3.alloc s3 (.cells (jA zA) 29)) s3 (jA zA)
         clear R hb b3 R3 B3
         go_wp2_with (refine wpList_store_row rfl 29 _ _ rfl w3.heap.size (jA zA) rfl rfl 29 _ T3 xA rfl (jB _) ?_)
         go_roundw
         case rel=>exact⟨k+1,_,by omega,by go_num,rfl,oG.out,tJ.out,oC.out,R5,B5⟩
         case measure=>simp[intOf];omega
       ·have YJ:k=8:=by omega
        subst YJ
        have HK:Hid (∀j,j<at_+1->aA.Two s.data.toList j->aA.cand (s.data.toList.take j) (s.data.toList.drop (j+2))=none):=zA7 fun j hj h2=>by
         by_cases e:j=at_
         ·subst e
          have:=aA.FP tB.out
          rw[HAe.out,KO.out]at this
          exact this
         ·exact HO.out j (by omega) h2
        clear tB
        go_wp2
        go_roundw
        case rel=>exact⟨at_+1,by omega,by go_num,HK.out,R,hb⟩
        case measure=>simp[intOf];omega
    ·have HK:Hid (∀j,j<at_+1->aA.Two s.data.toList j->aA.cand (s.data.toList.take j) (s.data.toList.drop (j+2))=none):=zA7 fun j hj h2=>by
      by_cases e:j=at_
      ·subst e
       refine absurd ?_ TI
       rw[h2.1]at t0
       rw[h2.2]at t1
       rw[<-zB2 t0,<-zB2 t1]
       exact⟨rfl,rfl⟩
      ·exact HO.out j (by omega) h2
     have hor:((s[at_].toNat:Int) !=58)=true\/(((s[at_].toNat:Int) !=58)=false/\((s[at_+1].toNat:Int) !=58)=true):=by
      by_cases h:(s[at_].toNat:Int)=58
      ·right
       exact⟨by rw[h];rfl,by rw[bne_iff_ne];exact fun k=>TI ⟨h,k⟩⟩
      ·left;rw[bne_iff_ne];exact h
     clear TI t0 t1
     rcases hor with g1|⟨g1,g2⟩
     all_goals
      go_wp2
      go_roundw
      case rel=>exact⟨at_+1,by omega,by go_num,HK.out,R,hb⟩
      case measure=>simp[intOf];omega
   ·have HN:Hid (iB (aA.addrOf (aA.v6 s.data.toList)) (aA.v6 s.data.toList).isSome=iB zA false):=zA7 (by
     rw[aA.qA2 HE8.out fun j h2=>HO.out j (by have:=(List.getElem?_eq_some_iff.1 h2.2).1;rw[Oct.nA]at this;omega) h2];rfl)
    go_wp2_with (refine wpList_store_row rfl 29 _ _ rfl w.heap.size (jA zA) rfl rfl 29 _ R xA rfl (jB _) ?_)
    rw[HN.out]
    exact bodyPost_ret (DA rfl _ _ w.heap.size _ _ _ rfl _ rfl (R.whole _) Tryz.underlying29 rfl xA) rfl ⟨rfl,below_setRow hb (zB3 _) _⟩
end Go.Proofs.YtabgoobcliijeaaGreatDoor
namespace Go.Proofs.YtabgoobcliijeaaGreatDoor
open Go.RowKit
theorem mAE(s:ByteArray)(w:World)(hs:s.size<=1099511627776):
  Calls Tryz.prog 67 #[.string s] w fun e w'=>e= .returned (.bool (dA.iE s.data.toList))/\w=w':=by
 have HL:=zA7 (Oct.nA s)
 go_enter Tryz.func67,Tryz.ntmps67
 go_wp2
 go_loop [3,4] (fun i _=> ∃k:Nat,k<=s.size/\i= .int .i64 k/\(s.data.toList.take k).all dA.lK=true) (fun i _=>s.size- (intOf i).toNat)
 case atStart=>exact⟨0,Nat.zero_le _,rfl,by simp⟩
 case round=>
  obtain⟨k,hk,rfl,hall⟩:=hrel
  have HA:=zA7 hall
  clear hall
  by_cases hlt:k<s.size
  ·have hc:s[k].toNat<256:=s[k].toNat_lt
   cases hq:dA.lK s[k]with
   |true=>
    have hq2:=hq
    unfold dA.lK at hq2
    have hq3:=zB1 hq2
    have HS:=zA7 (Oct.DJ s k hlt HA.out hq)
    clear hq hq2
    rcases hq3 with h|h|h|h
    ·have h1: ¬(s[k].toNat:Int)<97:=by omega
     have h2: ¬(122:Int)<(s[k].toNat:Int):=by omega
     clear h
     go_wp2
     go_round
     case rel=>exact⟨k+1,by omega,by go_num,HS.out⟩
     case measure=>simp[intOf];omega
    ·have h1:(s[k].toNat:Int)<97:=by omega
     have h2: ¬(s[k].toNat:Int)<48:=by omega
     have h3: ¬(57:Int)<(s[k].toNat:Int):=by omega
     clear h
     go_wp2
     go_round
     case rel=>exact⟨k+1,by omega,by go_num,HS.out⟩
     case measure=>simp[intOf];omega
    ·have h1:(s[k].toNat:Int)<97:=by omega
     have h2:(s[k].toNat:Int)<48:=by omega
     have h3:(s[k].toNat:Int)=45:=by omega
     clear h
     go_wp2
     go_round
     case rel=>exact⟨k+1,by omega,by go_num,HS.out⟩
     case measure=>simp[intOf];omega
    ·have h1:(s[k].toNat:Int)<97:=by omega
     have h2: ¬(s[k].toNat:Int)<48:=by omega
     have h3:(57:Int)<(s[k].toNat:Int):=by omega
     have h4:(s[k].toNat:Int)=95:=by omega
     clear h
     go_wp2
     go_round
     case rel=>exact⟨k+1,by omega,by go_num,HS.out⟩
     case measure=>simp[intOf];omega
   |false=>
    have hq2:=hq
    unfold dA.lK at hq2
    have hq3:=of_decide_eq_false hq2
    have HS:=zA7 (Oct.zP s k hlt hq)
    clear hq hq2
    have h5:((s[k].toNat:Int) !=45)=true:=bne_iff_ne.2 (by omega)
    have h6:((s[k].toNat:Int) !=95)=true:=bne_iff_ne.2 (by omega)
    have hcase:((s[k].toNat:Int)<97/\(s[k].toNat:Int)<48)\/((s[k].toNat:Int)<97/\ ¬(s[k].toNat:Int)<48/\(57:Int)<(s[k].toNat:Int))\/(¬(s[k].toNat:Int)<97/\(122:Int)<(s[k].toNat:Int)/\ ¬(s[k].toNat:Int)<48/\(57:Int)<(s[k].toNat:Int)):=by omega
    clear hq3
    rcases hcase with⟨h1,h2⟩|⟨h1,h2,h3⟩|⟨h1,h2,h3,h4⟩
    all_goals
     go_wp2
     go_ret
     exact⟨vA (by unfold dA.iE;rw[HS.out];simp),rfl⟩
  ·by_cases h1:(1:Int)<=(s.size:Int)
   ·go_wp2
    go_ret
    exact⟨vA (by unfold dA.iE;rw[<-Oct.vD s k (by omega),HA.out,Oct.vD s k (by omega),HL.out,Bool.and_true,decide_eq_decide];omega),rfl⟩
   ·go_wp2
    go_ret
    exact⟨vA (by unfold dA.iE;rw[HL.out,zA8 (show¬(1<=s.size/\s.size<=63) by omega)];rfl),rfl⟩
namespace dA
theorem iAN {s:ByteArray}(hp:s.size-1<s.size)(h:s.data.toList.head?=some 91):(s[s.size-1]=93)↔s.data.toList.tail.getLast?=some 93:=by
 have hl:=Oct.aAO s hp
 generalize s[s.size-1]=c at*
 generalize s.data.toList=l at*
 cases l with
 |nil=>cases h
 |cons d r=>
  simp at h
  subst h
  cases r with
  |nil=>
   simp at hl
   subst hl
   simp
  |cons e r=>
   rw[List.getLast?_cons_cons]at hl
   show _↔ (e::r).getLast?=some 93
   rw[hl]
   exact⟨fun k=>by rw[k],fun k=>zB2 k⟩
theorem jAQ(s:ByteArray):(s.extract 1 (s.size-1)).data.toList=s.data.toList.tail.dropLast:=by
 rw[Lib.extract_eq,List.dropLast_eq_take,<-List.drop_one]
 show((s.data.toList.drop 1).take (s.size-1-1))=_
 rw[List.length_drop,Oct.nA]
end dA
end Go.Proofs.YtabgoobcliijeaaGreatDoor
namespace Go.Proofs.YtabgoobcliijeaaGreatDoor
open Go.RowKit
namespace dA
theorem pAX(l:List UInt8):IE l=if(aA.v4 l).isSome=true then some ⟨2,[],aA.FD (aA.v4 l)⟩else none:=PR l
theorem qA3 {l:List UInt8}(h:l.getLast?=some 93):VD l=if(aA.v6 l.dropLast).isSome=true then some ⟨3,[],aA.addrOf (aA.v6 l.dropLast)⟩else none:=by
 unfold VD
 rw[if_pos h]
 cases aA.v6 l.dropLast<;>rfl
end dA
theorem oK(s:ByteArray)(w:World)(hs:s.size<=1048576):
  Calls Tryz.prog 31 #[.string s] w (zC (dA.parse s.data.toList) w):=by
 rw[<-dA.mAO]
 have z0:=BD
 have z1:=OI
 have HZ0:=zA7 (show(fA dA.zero).size=18 from rfl)
 have hl:=Oct.nA s
 by_cases hhead:s.data.toList.head?=some 91
 ·have hpos:0<s.size:=by
   rcases Nat.eq_zero_or_pos s.size with h|h
   ·rw[(Oct.UC s).2 h]at hhead;cases hhead
   ·exact h
  have hp:s.size-1<s.size:=by omega
  have h0:((s[0].toNat:Int)==91)=true:=by
   have:=Oct.CE s hpos
   rw[hhead]at this
   rw[<-zB2 this];rfl
  have dU:(s[0].toNat:Int)=91:=by simpa using h0
  have aAd:(0:Int)<(s.size:Int):=by omega
  have hz:((s.size:Int)-1).toNat=s.size-1:=by omega
  have hiff:=dA.iAN hp hhead
  by_cases hc:s[s.size-1]=93
  ·have hc1:(s[s.size-1].toNat:Int)=93:=by rw[hc];rfl
   have hc2:((s[s.size-1].toNat:Int) !=93)=false:=by rw[hc];rfl
   have h2:2<=s.size:=by
    rcases Nat.lt_or_ge s.size 2 with h|h
    ·have:s.size-1=0:=by omega
     simp only[this]at hc1
     omega
    ·exact h
   have hlast:=hiff.1 hc
   have HN:Hid (dA.aJ s.data.toList=if(aA.v6 s.data.toList.tail.dropLast).isSome=true then some ⟨3,[],aA.addrOf (aA.v6 s.data.toList.tail.dropLast)⟩else none):=
    zA7 (by unfold dA.aJ;rw[if_pos hhead,dA.qA3 hlast])
   have H1: ∀W,Calls Tryz.prog 64 #[.string (s.extract 1 (s.size-1))] W (iB (aA.addrOf (aA.v6 s.data.toList.tail.dropLast)) (aA.v6 s.data.toList.tail.dropLast).isSome W):=fun W=>by
    have hb:=dA.jAQ s
    have hz:(s.extract 1 (s.size-1)).size<=1048576:=by
     have e:=congrArg List.length hb
     rw[Oct.nA,List.length_dropLast,List.length_tail,hl]at e
     omega
    have:=nA6 (s.extract 1 (s.size-1)) W hz
    rw[hb]at this
    exact this
   have H1:=zA7 H1
   have ha:(aA.addrOf (aA.v6 s.data.toList.tail.dropLast)).length=16:=aA.gT _
   rw[HN.out]
   clear HN hhead hiff hlast hc hl
   generalize aA.addrOf (aA.v6 s.data.toList.tail.dropLast)=a at*
   generalize(aA.v6 s.data.toList.tail.dropLast).isSome=ok at*
   have QE:=zA7 (show(jA a).size=16 by rw[BC,ha])
   have HH:=zA7 (QA ⟨3,[],a⟩ ha)
   have HB:=zA7 (DP 3 a ha)
   have HF:Hid (ok=false-> ∀w',Below w.heap.size w w'->zC (if ok=true then some ⟨3,[],a⟩else none) w (.returned (.tuple #[.agg (fA dA.zero),.int .i64 31])) w'):=zA7 (fun h w' hb=>by subst h;exact YF rfl rfl hb)
   have yE:Hid (ok=true-> ∀w',Below w.heap.size w w'->zC (if ok=true then some ⟨3,[],a⟩else none) w (.returned (.tuple #[.agg (fA ⟨3,[],a⟩),.int .i64 0])) w'):=zA7 (fun h w' hb=>by subst h;exact YF rfl rfl hb)
   generalize zC (if ok=true then some ⟨3,[],a⟩else none) w=post at*
   clear ha
   go_enter Tryz.func31,Tryz.ntmps31
   go_wp2_with fail
   have R0:=Row.new w 31 (fA dA.zero)
   have B0:=(Below.refl w.heap.size w).alloc (zB3 _) (.cells (fA dA.zero) 31)
   generalize w.alloc (.cells (fA dA.zero) 31)=w0 at*
   refine(H1.out _).mono ?_
   rintro e v2 ⟨rfl,d2⟩
   have R1:=R0.stays d2
   have B1:=B0.trans (d2.mono B0.size)
   obtain⟨T,U,C,L⟩:=JA 29 (jA zA) (jA a) B1 B1.size
   have R2:=L _ _ _ R1
   clear L R0 R1 B0 B1 d2
   cases ok
   all_goals
    go_wp2_with (first
     |(refine wpList_store_row rfl 29 _ _ rfl v2.heap.size (jA a) rfl rfl 29 _ T (by rw[QE.out];exact xA) (by rw[QE.out];rfl) (jB _) ?_)
     |(refine iA 39 rfl ?_;refine qA rfl 29 _ rfl v2.heap.size rfl U Tryz.underlying29 rfl (by rw[QE.out];exact xA) ?_)
     |(refine iA 40 rfl ?_;refine DF rfl 31 0 2 _ _ rfl _ _ rfl rfl (fA ⟨3,[],a⟩) HB.out ?_)
     |(refine wpList_store_row rfl 31 _ _ rfl w.heap.size (fA dA.zero) rfl rfl 31 _ R2 (by rw[HZ0.out];exact tA) rfl (aB _) ?_)
     |(refine wpList_store_row rfl 31 _ _ rfl w.heap.size (fA ⟨3,[],a⟩) rfl rfl 31 _ R2 (by rw[HH.out];exact tA) (by rw[HH.out];rfl) (aB _) ?_))
    first
     |exact bodyPost_ret (v:= .tuple #[.agg (fA dA.zero),.int .i64 31]) (DA rfl _ _ w.heap.size _ _ _ rfl _ rfl (R2.whole _) Tryz.underlying31 rfl (by rw[HZ0.out];exact tA)) rfl (HF.out (by trivial) _ (below_setRow C (zB3 _) _))
     |exact bodyPost_ret (v:= .tuple #[.agg (fA ⟨3,[],a⟩),.int .i64 0]) (DA rfl _ _ w.heap.size _ _ _ rfl _ rfl (R2.whole _) Tryz.underlying31 rfl (by rw[HH.out];exact tA)) rfl (yE.out (by trivial) _ (below_setRow C (zB3 _) _))
  ·have hc2:((s[s.size-1].toNat:Int) !=93)=true:=bne_iff_ne.2 (fun k=>hc (Oct.mB (by show _=93;omega)))
   have hc1: ¬(s[s.size-1].toNat:Int)=93:=fun k=>hc (Oct.mB (by show _=93;omega))
   have HN:Hid (dA.aJ s.data.toList=none):=zA7 (by unfold dA.aJ dA.VD;rw[if_pos hhead,if_neg (fun k=>hc (hiff.2 k))])
   rw[HN.out]
   clear HN hiff hhead hc hl
   have R0:=Row.new w 31 (fA dA.zero)
   have B0:=(Below.refl w.heap.size w).alloc (zB3 _) (.cells (fA dA.zero) 31)
   go_enter Tryz.func31,Tryz.ntmps31
   go_wp2_with (refine wpList_store_row rfl 31 _ _ rfl w.heap.size (fA dA.zero) rfl rfl 31 _ R0 (by rw[HZ0.out];exact tA) rfl (aB _) ?_)
   exact bodyPost_ret (v:= .tuple #[.agg (fA dA.zero),.int .i64 31]) (DA rfl _ _ w.heap.size _ _ _ rfl _ rfl (R0.whole _) Tryz.underlying31 rfl (by rw[HZ0.out];exact tA)) rfl (YF rfl rfl (below_setRow B0 (zB3 _) _))
 have H1:=zA7 (fun W=>UL s W (by omega))
 obtain⟨u,hu⟩: ∃u:ByteArray,u=⟨(s.data.toList.map Oct.low).toArray⟩:=⟨_,rfl⟩
 have AB:u.data.toList=s.data.toList.map Oct.low:=by rw[hu]
 have cC:u.size=s.size:=by rw[<-Oct.nA,AB,List.length_map,hl]
 unfold XC at H1
 rw[<-hu]at H1
 clear hu
 have hlen:=Oct.cJ 46 u.data.toList
 have hpos:=Oct.eG 46 u.data.toList
 have hsm:=Oct.dJ 46 u.data.toList
 rw[Oct.nA,cC]at hlen hsm
 have H3: ∀W,Calls Tryz.prog 47 #[.string u,.int .u8 46] W (LI W.heap.size (Oct.split 46 u.data.toList) W):=fun W=>(WL u 46 W (by omega)).mono fun _ _ h=>h.at_ (Oct.eG _ _)
 have H3:=zA7 H3
 obtain⟨p,hp⟩: ∃p,(Oct.split 46 u.data.toList)[(Oct.split 46 u.data.toList).length-1]? =some p:=⟨_,List.getElem?_eq_getElem (by omega)⟩
 have MN:dA.last u.data.toList=p:=by unfold dA.last;rw[hp];rfl
 have hps:p.length<=s.size:=hsm p (List.mem_of_getElem? hp)
 have HP:=zA7 hp
 have HN:Hid (dA.aJ s.data.toList=if Oct.digits p=true then dA.IE s.data.toList else if(Oct.split 46 u.data.toList).all dA.iE=true/\s.size<=253 then some ⟨1,u.data.toList,dA.BA⟩else none):=
  zA7 (by unfold dA.aJ;rw[if_neg hhead,<-AB,MN,hl])
 have hstart:(0<s.size/\ ∃h:0<s.size,((s[0].toNat:Int)==91)=false)\/s.size=0:=by
  rcases Nat.eq_zero_or_pos s.size with h|h
  ·exact .inr h
  ·refine .inl ⟨h,h,?_⟩
   have:=Oct.CE s h
   rw[beq_eq_false_iff_ne]
   intro e
   apply hhead
   rw[this]
   exact congrArg some (Oct.mB (by show _=91;omega))
 obtain⟨t,ht⟩: ∃t:ByteArray,t=⟨p.toArray⟩:=⟨_,rfl⟩
 have hts:t.size<=s.size:=by rw[ht];show(List.toArray _).size<=_;simp;omega
 have H4: ∀W,Calls Tryz.prog 65 #[.string t] W fun e w'=>e= .returned (.bool (Oct.digits p))/\W=w':=fun W=>by
  have:=mK t W (by unfold maxLen;omega)
  have e:t.data.toList=p:=by rw[ht]
  rw[e]at this
  exact this
 have H4:=zA7 H4
 have HT:=zA7 ht
 have H5:=zA7 (fun W=>nA5 s W (by omega))
 have HV:=zA7 (dA.pAX s.data.toList)
 have ha:=dA.fT s.data.toList
 rw[HN.out]
 have HB:=zA7 (EP 1 u)
 have JC:=zA7 hsm
 clear HN hp MN hhead hl AB ht hsm
 generalize Oct.split 46 u.data.toList=ps at*
 generalize u.data.toList=ul at*
 have hz:((ps.length:Int)-1).toNat=ps.length-1:=by omega
 have PH:=zA7 (QA ⟨1,ul,dA.BA⟩ rfl)
 cases hd:Oct.digits p with
 |true=>
  rw[hd]at H4
  rw[if_pos rfl,HV.out]
  generalize aA.FD (aA.v4 s.data.toList)=a at*
  generalize(aA.v4 s.data.toList).isSome=ok at*
  have QE:=zA7 (show(jA a).size=16 by rw[BC,ha])
  have HH:=zA7 (QA ⟨2,[],a⟩ ha)
  have HB2:=zA7 (DP 2 a ha)
  have HF:Hid (ok=false-> ∀w',Below w.heap.size w w'->zC (if ok=true then some ⟨2,[],a⟩else none) w (.returned (.tuple #[.agg (fA dA.zero),.int .i64 31])) w'):=zA7 (fun h w' hb=>by subst h;exact YF rfl rfl hb)
  have yE:Hid (ok=true-> ∀w',Below w.heap.size w w'->zC (if ok=true then some ⟨2,[],a⟩else none) w (.returned (.tuple #[.agg (fA ⟨2,[],a⟩),.int .i64 0])) w'):=zA7 (fun h w' hb=>by subst h;exact YF rfl rfl hb)
  generalize zC (if ok=true then some ⟨2,[],a⟩else none) w=post at*
  clear ha hd HV HB PH
  rcases hstart with⟨hs0,hs1,hs2⟩|hs0
  all_goals
   go_enter Tryz.func31,Tryz.ntmps31
   go_wp2_with fail
   have R0:=Row.new w 31 (fA dA.zero)
   have B0:=(Below.refl w.heap.size w).alloc (zB3 _) (.cells (fA dA.zero) 31)
   generalize w.alloc (.cells (fA dA.zero) 31)=w0 at*
   refine(H1.out _).mono ?_
   rintro e v1 ⟨rfl,d1⟩
   have R1:=R0.stays d1
   have B1:=B0.trans (d1.mono B0.size)
   go_wp2_with fail
   refine(H3.out _).mono ?_
   rintro e v2 ⟨g,cap,rfl,hown,d2⟩
   have R2:=R1.stays d2
   have B2:=B1.trans (d2.mono B1.size)
   have hcell:=RL (k:=ps.length-1) hown HP.out HT.out
   have hcap:=OL hown
   clear hown d2 R0 B0 d1 R1 B1
   go_wp2_with fail
   refine(H4.out _).mono ?_
   rintro e v3 ⟨rfl,rfl⟩
   go_wp2_with fail
   refine(H5.out _).mono ?_
   rintro e v4 ⟨rfl,d4⟩
   have R3:=R2.stays d4
   have B3:=B2.trans (d4.mono B2.size)
   obtain⟨T,U,C,L⟩:=JA 29 (jA zA) (jA a) B3 B3.size
   have R4:=L _ _ _ R3
   clear L R2 B2 R3 B3 d4 hcell
   cases ok
   all_goals
    go_wp2_with (first
     |(refine wpList_store_row rfl 29 _ _ rfl v4.heap.size (jA a) rfl rfl 29 _ T (by rw[QE.out];exact xA) (by rw[QE.out];rfl) (jB _) ?_)
     |(refine iA 60 rfl ?_;refine qA rfl 29 _ rfl v4.heap.size rfl U Tryz.underlying29 rfl (by rw[QE.out];exact xA) ?_)
     |(refine iA 61 rfl ?_;refine DF rfl 31 0 2 _ _ rfl _ _ rfl rfl (fA ⟨2,[],a⟩) HB2.out ?_)
     |(refine wpList_store_row rfl 31 _ _ rfl w.heap.size (fA dA.zero) rfl rfl 31 _ R4 (by rw[HZ0.out];exact tA) rfl (aB _) ?_)
     |(refine wpList_store_row rfl 31 _ _ rfl w.heap.size (fA ⟨2,[],a⟩) rfl rfl 31 _ R4 (by rw[HH.out];exact tA) (by rw[HH.out];rfl) (aB _) ?_))
    first
     |exact bodyPost_ret (v:= .tuple #[.agg (fA dA.zero),.int .i64 31]) (DA rfl _ _ w.heap.size _ _ _ rfl _ rfl (R4.whole _) Tryz.underlying31 rfl (by rw[HZ0.out];exact tA)) rfl (HF.out (by trivial) _ (below_setRow C (zB3 _) _))
     |exact bodyPost_ret (v:= .tuple #[.agg (fA ⟨2,[],a⟩),.int .i64 0]) (DA rfl _ _ w.heap.size _ _ _ rfl _ rfl (R4.whole _) Tryz.underlying31 rfl (by rw[HH.out];exact tA)) rfl (yE.out (by trivial) _ (below_setRow C (zB3 _) _))
 |false=>
  rw[hd]at H4
  rw[if_neg (by simp)]
  clear ha hd HV H5
  have HF:Hid ((ps.all dA.iE=false\/ ¬s.size<=253)-> ∀w',Below w.heap.size w w'->zC (if ps.all dA.iE=true/\s.size<=253 then some ⟨1,ul,dA.BA⟩else none) w (.returned (.tuple #[.agg (fA dA.zero),.int .i64 31])) w'):=zA7 (fun h w' hb=>by
   rw[if_neg (by rintro⟨a,b⟩;rcases h with h|h;·rw[h]at a;cases a
                 ·exact h b)]
   exact YF rfl rfl hb)
  have yE:Hid (ps.all dA.iE=true->s.size<=253-> ∀w',Below w.heap.size w w'->zC (if ps.all dA.iE=true/\s.size<=253 then some ⟨1,ul,dA.BA⟩else none) w (.returned (.tuple #[.agg (fA ⟨1,ul,dA.BA⟩),.int .i64 0])) w'):=zA7 (fun h k w' hb=>by rw[if_pos ⟨h,k⟩];exact YF rfl rfl hb)
  generalize zC (if ps.all dA.iE=true/\s.size<=253 then some ⟨1,ul,dA.BA⟩else none) w=post at*
  rcases hstart with⟨hs0,hs1,hs2⟩|hs0
  all_goals
   go_enter Tryz.func31,Tryz.ntmps31
   go_wp2_with fail
   have R0:=Row.new w 31 (fA dA.zero)
   have B0:=(Below.refl w.heap.size w).alloc (zB3 _) (.cells (fA dA.zero) 31)
   generalize w.alloc (.cells (fA dA.zero) 31)=w0 at*
   refine(H1.out _).mono ?_
   rintro e v1 ⟨rfl,d1⟩
   have R1:=R0.stays d1
   have B1:=B0.trans (d1.mono B0.size)
   go_wp2_with fail
   refine(H3.out _).mono ?_
   rintro e v2 ⟨g,cap,rfl,hown,d2⟩
   have R2:=R1.stays d2
   have B2:=B1.trans (d2.mono B1.size)
   have hcell:=RL (k:=ps.length-1) hown HP.out HT.out
   have hcap:=OL hown
   have HOWN:=zA7 hown
   clear hown d2 R0 B0 d1 R1 B1
   go_wp2_with fail
   refine(H4.out _).mono ?_
   rintro e v3 ⟨rfl,rfl⟩
   clear hcell
   go_wp2
   go_loop [11,64] (fun _ i=> ∃k:Nat,k<=ps.length/\i= .int .i64 k/\(∀q∈ps.take k,dA.iE q=true)) (fun _ i=>ps.length- (intOf i).toNat)
   case atStart=>exact⟨0,Nat.zero_le _,rfl,by simp⟩
   case round=>
    obtain⟨k,hk,rfl,hall⟩:=hrel
    have HA:=zA7 hall
    clear hall
    by_cases hlt:k<ps.length
    ·obtain⟨q,sq,hq,hcell,V8,_,hsz⟩:=PL HOWN.out hlt
     have hqs:=JC.out q (List.mem_of_getElem? hq)
     have HQ:=zA7 hq
     have hlab:=fun W=>mAE sq W (by omega)
     rw[V8]at hlab
     have TO:=zA7 hlab
     clear hq V8 hlab
     cases hr:dA.iE q with
     |true=>
      rw[hr]at TO
      go_wp2_with (go_at_call 67;refine(TO.out _).mono ?_;rintro e w' ⟨rfl,rfl⟩)
      go_round
      case rel=>exact⟨k+1,by omega,by go_num,Oct.cM HA.out HQ.out hr⟩
      case measure=>simp[intOf];omega
     |false=>
      rw[hr]at TO
      have hno:ps.all dA.iE=false:=by rw[List.all_eq_false];exact⟨q,List.mem_of_getElem? HQ.out,by rw[hr];simp⟩
      have tB:=zA7 hno
      clear hno
      go_wp2_with (first
       |(go_at_call 67;refine(TO.out _).mono ?_;rintro e w' ⟨rfl,rfl⟩)
       |(refine wpList_store_row rfl 31 _ _ rfl w.heap.size (fA dA.zero) rfl rfl 31 _ R2 (by rw[HZ0.out];exact tA) rfl (aB _) ?_))
      exact bodyPost_ret (v:= .tuple #[.agg (fA dA.zero),.int .i64 31]) (DA rfl _ _ w.heap.size _ _ _ rfl _ rfl (R2.whole _) Tryz.underlying31 rfl (by rw[HZ0.out];exact tA)) rfl (HF.out (.inl tB.out) _ (below_setRow B2 (zB3 _) _))
    ·have hyes:ps.all dA.iE=true:=by
      rw[List.all_eq_true]
      have:=HA.out
      rw[List.take_of_length_le (by omega)]at this
      exact this
     have xJ:=zA7 hyes
     clear hyes
     by_cases hbig:s.size<=253
     ·have wU: ¬(253:Int)<(s.size:Int):=by omega
      go_wp2_with (first
       |(refine iA 78 rfl ?_;refine DF rfl 31 0 1 _ _ rfl _ _ rfl rfl (fA ⟨1,ul,dA.BA⟩) HB.out ?_)
       |(refine wpList_store_row rfl 31 _ _ rfl w.heap.size (fA ⟨1,ul,dA.BA⟩) rfl rfl 31 _ R2 (by rw[PH.out];exact tA) rfl (aB _) ?_))
      exact bodyPost_ret (v:= .tuple #[.agg (fA ⟨1,ul,dA.BA⟩),.int .i64 0]) (DA rfl _ _ w.heap.size _ _ _ rfl _ rfl (R2.whole _) Tryz.underlying31 rfl (by rw[PH.out];exact tA)) rfl (yE.out xJ.out hbig _ (below_setRow B2 (zB3 _) _))
     ·first
      |(exfalso;omega)
      |(have wU:(253:Int)<(s.size:Int):=by omega
        go_wp2_with (first
         |(refine wpList_store_row rfl 31 _ _ rfl w.heap.size (fA dA.zero) rfl rfl 31 _ R2 (by rw[HZ0.out];exact tA) rfl (aB _) ?_))
        exact bodyPost_ret (v:= .tuple #[.agg (fA dA.zero),.int .i64 31]) (DA rfl _ _ w.heap.size _ _ _ rfl _ rfl (R2.whole _) Tryz.underlying31 rfl (by rw[HZ0.out];exact tA)) rfl (HF.out (.inr hbig) _ (below_setRow B2 (zB3 _) _)))
end Go.Proofs.YtabgoobcliijeaaGreatDoor
namespace Go.Proofs.YtabgoobcliijeaaGreatDoor
open Go.RowKit
theorem cAu(h:dA.Host)(hk:h.kind=1)(t:ByteArray)(ht:t=⟨h.name.toArray⟩)(w:World):
  Calls Tryz.prog 99 #[.agg (fA h)] w fun e w'=>e= .returned (.string t)/\Below w.heap.size w w':=by
 have R:=Row.new w 31 (fA h)
 have c0:(w.alloc (.cells (fA h) 31)).cell? ⟨w.heap.size,0,none⟩=some (.int .i64 1):=by rw[R.cell,tH,hk]
 have c1:(w.alloc (.cells (fA h) 31)).cell? ⟨w.heap.size,1,none⟩=some (.string t):=by rw[R.cell,uH,ht];rfl
 have B:=(Below.refl w.heap.size w).alloc (zB3 _) (.cells (fA h) 31)
 have HB:=zA7 B
 clear B R ht
 go_enter Tryz.func99,Tryz.ntmps99
 generalize fA h=H at*
 go_wp2
 go_ret
 exact⟨rfl,HB.out⟩
theorem mAR(h:dA.Host)(hk:h.kind=1)(ha:h.addr.length=16)(hs:h.name.length<=100000)(w:World):
  Calls Tryz.prog 61 #[.agg (fA h)] w fun e w'=>e= .returned (.bool (dA.right h))/\Below w.heap.size w w':=by
 have z0:=BD
 obtain⟨t,ht⟩: ∃t:ByteArray,t=⟨h.name.toArray⟩:=⟨_,rfl⟩
 have H1:=zA7 (fun W=>cAu h hk t ht W)
 have htl:t.data.toList=h.name:=by rw[ht]
 have hts:t.size=h.name.length:=by rw[<-htl,Oct.nA]
 have H2:=zA7 (fun W=>(oK t W (by omega)).mono fun e w' h=>LG h)
 rw[htl]at H2
 have hx:=dA.GF h.name
 have HR:Hid (dA.right h=decide (dA.parse h.name=some h)):=zA7 rfl
 have HZ0:=zA7 (show(fA dA.zero).size=18 from rfl)
 have HH:=zA7 (QA h ha)
 cases ho:dA.parse h.name with
 |none=>
  rw[ho]at H2 HR
  have HR2:Hid (dA.right h=false):=zA7 (by rw[HR.out];rfl)
  have e1:dA.host none=dA.zero:=rfl
  have e2:dA.code none=31:=rfl
  rw[e1,e2]at H2
  clear ho hx hts htl ht HR e1 e2
  rw[HR2.out]
  generalize fA h=H at*
  have R0:=Row.new w 31 H
  have B0:=(Below.refl w.heap.size w).alloc (zB3 _) (.cells H 31)
  go_enter Tryz.func61,Tryz.ntmps61
  go_wp2_with (refine iA 6 rfl ?_;refine qA rfl 31 _ rfl w.heap.size rfl R0 Tryz.underlying31 rfl (by rw[HH.out];exact tA) ?_)
  generalize w.alloc (.cells H 31)=w0 at*
  refine(H1.out _).mono ?_
  rintro e v1 ⟨rfl,d1⟩
  have B1:=B0.trans (d1.mono B0.size)
  go_wp2_with fail
  refine(H2.out _).mono ?_
  rintro e v2 ⟨rfl,d2⟩
  have B2:=B1.trans (d2.mono B1.size)
  obtain⟨T,U,C,L⟩:=JA 31 (fA dA.zero) (fA dA.zero) B2 B2.size
  clear B0 B1 B2 d1 d2 R0 L
  go_wp2_with (first
   |(refine wpList_store_row rfl 31 _ _ rfl v2.heap.size (fA dA.zero) rfl rfl 31 _ T (by rw[HZ0.out];exact tA) rfl (aB _) ?_))
  go_ret
  exact⟨rfl,C⟩
 |some g=>
  rw[ho]at H2 HR hx
  have hx:g.addr.length=16:=hx
  have HR2:Hid (dA.right h=decide (g=h)):=zA7 (by rw[HR.out,decide_eq_decide];exact⟨fun e=>zB2 e,fun e=>by rw[e]⟩)
  have e1:dA.host (some g)=g:=rfl
  have e2:dA.code (some g)=0:=rfl
  rw[e1,e2]at H2
  have q:=cI g h hx ha
  have HG:=zA7 (QA g hx)
  have FC:=zA7 (aB g)
  clear ho hx hts htl ht HR e1 e2
  rw[HR2.out]
  generalize fA h=H at*
  generalize fA g=G at*
  generalize decide (g=h)=b at*
  have R0:=Row.new w 31 H
  have B0:=(Below.refl w.heap.size w).alloc (zB3 _) (.cells H 31)
  go_enter Tryz.func61,Tryz.ntmps61
  go_wp2_with (refine iA 6 rfl ?_;refine qA rfl 31 _ rfl w.heap.size rfl R0 Tryz.underlying31 rfl (by rw[HH.out];exact tA) ?_)
  generalize w.alloc (.cells H 31)=w0 at*
  refine(H1.out _).mono ?_
  rintro e v1 ⟨rfl,d1⟩
  have B1:=B0.trans (d1.mono B0.size)
  have R1:=R0.stays d1
  go_wp2_with fail
  refine(H2.out _).mono ?_
  rintro e v2 ⟨rfl,d2⟩
  have R2:=R1.stays d2
  have B2:=B1.trans (d2.mono B1.size)
  obtain⟨T,U,C,L⟩:=JA 31 (fA dA.zero) G B2 B2.size
  have R3:=L _ _ _ R2
  clear B0 B1 B2 d1 d2 R0 R1 R2 L
  go_wp2_with (first
   |(refine wpList_store_row rfl 31 _ _ rfl v2.heap.size G rfl rfl 31 _ T (by rw[HG.out];exact tA) (by rw[HG.out];rfl) FC.out ?_)
   |(refine iA 14 rfl ?_;refine qA rfl 31 _ rfl v2.heap.size rfl U Tryz.underlying31 rfl (by rw[HG.out];exact tA) ?_)
   |(refine iA 15 rfl ?_;refine qA rfl 31 _ rfl w.heap.size rfl R3 Tryz.underlying31 rfl (by rw[HH.out];exact tA) ?_))
  go_ret
  exact⟨rfl,C⟩
end Go.Proofs.YtabgoobcliijeaaGreatDoor
namespace Go.Proofs.YtabgoobcliijeaaGreatDoor
open Go.RowKit
theorem nK(h:dA.Host)(ha:h.addr.length=16)(hs:h.name.length<=100000)(w:World):
  Calls Tryz.prog 35 #[.agg (fA h)] w (iD w.heap.size (dA.labels h) w):=by
 have HH:=zA7 (QA h ha)
 obtain⟨t,ht⟩: ∃t:ByteArray,t=⟨h.name.toArray⟩:=⟨_,rfl⟩
 have R0:=Row.new w 31 (fA h)
 have c0:(w.alloc (.cells (fA h) 31)).cell? ⟨w.heap.size,0,none⟩=some (.int .i64 h.kind):=by rw[R0.cell,tH]
 have c1:(w.alloc (.cells (fA h) 31)).cell? ⟨w.heap.size,1,none⟩=some (.string t):=by rw[R0.cell,uH,ht];rfl
 have B0:=(Below.refl w.heap.size w).alloc (zB3 _) (.cells (fA h) 31)
 by_cases hk:h.kind=1
 ·have htl:t.data.toList=h.name:=by rw[ht]
  have hts:t.size=h.name.length:=by rw[<-htl,Oct.nA]
  have H1:=zA7 (fun W=>mAR h hk ha hs W)
  have H2: ∀W,Calls Tryz.prog 47 #[.string t,.int .u8 46] W (iD W.heap.size (Oct.split 46 h.name) W):=fun W=>by
   have:=WL t 46 W (by omega)
   rw[htl]at this
   exact this
  have H2:=zA7 H2
  rw[hk]at c0
  cases hr:dA.right h with
  |false=>
   rw[hr]at H1
   have HL:Hid (dA.labels h= []):=zA7 (by unfold dA.labels;rw[if_neg (fun k=>by rw[hr]at k;simp at k)])
   rw[HL.out]
   generalize fA h=H at*
   clear hr htl hts ht hk ha HL
   go_enter Tryz.func35,Tryz.ntmps35
   go_wp2_with (refine iA 7 rfl ?_;refine qA rfl 31 _ rfl w.heap.size rfl R0 Tryz.underlying31 rfl (by rw[HH.out];exact tA) ?_)
   generalize w.alloc (.cells H 31)=w0 at*
   refine(H1.out _).mono ?_
   rintro e v1 ⟨rfl,d1⟩
   have B1:=B0.trans (d1.mono B0.size)
   go_wp2
   go_ret
   exact⟨_,rfl,World.ownsRow_nil _ _ _ _,B1⟩
  |true=>
   rw[hr]at H1
   have HL:Hid (dA.labels h=Oct.split 46 h.name):=zA7 (by unfold dA.labels;rw[if_pos ⟨hk,hr⟩])
   rw[HL.out]
   generalize Oct.split 46 h.name=ps at*
   generalize fA h=H at*
   clear hr htl hts ht hk ha HL
   go_enter Tryz.func35,Tryz.ntmps35
   go_wp2_with (refine iA 7 rfl ?_;refine qA rfl 31 _ rfl w.heap.size rfl R0 Tryz.underlying31 rfl (by rw[HH.out];exact tA) ?_)
   have hlt:=R0.lt
   generalize w.alloc (.cells H 31)=w0 at*
   refine(H1.out _).mono ?_
   rintro e v1 ⟨rfl,d1⟩
   have B1:=B0.trans (d1.mono B0.size)
   have c2:=(d1.cell (p:=⟨w.heap.size,1,none⟩) hlt).trans c1
   clear c0 c1 d1 R0 B0
   go_wp2_with fail
   refine(H2.out _).mono ?_
   rintro e v2 ⟨v,rfl,hown,d2⟩
   have B2:=B1.trans (d2.mono B1.size)
   have HO:=zA7 (bAL hown B1.size)
   clear hown
   go_wp2
   go_ret
   exact⟨_,rfl,HO.out,B2⟩
 ·have HL:Hid (dA.labels h= []):=zA7 (by unfold dA.labels;rw[if_neg (fun k=>hk k.1)])
  rw[HL.out]
  generalize fA h=H at*
  generalize h.kind=k at*
  clear HL ha
  go_enter Tryz.func35,Tryz.ntmps35
  go_wp2
  go_ret
  exact⟨_,rfl,World.ownsRow_nil _ _ _ _,B0⟩
end Go.Proofs.YtabgoobcliijeaaGreatDoor
namespace Go.Proofs.YtabgoobcliijeaaGreatDoor
open Go.RowKit
namespace Ur
theorem lAP {l:List UInt8}(h:scheme l=none):parse l=(41,zero)/\secure? l=false/\rest? l= []/\(scheme l).isSome=false:=by
 unfold parse secure? rest?
 rw[h];exact⟨rfl,rfl,rfl,rfl⟩
theorem lAR {l rest:List UInt8}{b:Bool}(h:scheme l=some (b,rest)):parse l=go b (place rest) (pathOf rest)/\secure? l=b/\rest? l=rest/\(scheme l).isSome=true:=by
 unfold parse secure? rest?
 rw[h];exact⟨rfl,rfl,rfl,rfl⟩
theorem nAS {l rest:List UInt8}{b:Bool}(h:scheme l=some (b,rest)):rest.length<=l.length:=by
 unfold scheme at h
 split at h
 ·obtain⟨_,rfl⟩:=Prod.mk.inj (zB2 h)
  rw[List.length_drop];omega
 ·split at h
  ·obtain⟨_,rfl⟩:=Prod.mk.inj (zB2 h)
   rw[List.length_drop];omega
  ·cases h
theorem iA2(b:Bool)(pl p:List UInt8):(go b pl p).2.host.addr.length=16:=by
 unfold go
 have hx:=dA.GF (pl.take (xB pl))
 cases e:dA.parse (pl.take (xB pl))with
 |none=>rfl
 |some h=>
  rw[e]at hx
  dsimp only
  split
  ·rfl
  ·split
   ·rfl
   ·split
    ·exact hx
    ·rfl
theorem gO(l:List UInt8):(parse l).2.host.addr.length=16:=by
 unfold parse
 split
 ·rfl
 ·exact iA2 _ _ _
theorem iA1 {b:Bool}{pl p:List UInt8}(h:dA.parse (pl.take (xB pl))=none):go b pl p=(31,zero):=by
 unfold go
 rw[h]
theorem iA6 {b:Bool}{pl p:List UInt8}(h:sK (pl.drop (xB pl))=true):go b pl p=(31,zero):=by
 unfold go
 split
 ·rfl
 ·rw[if_pos (zB1 h)]
theorem iA4 {b:Bool}{pl p:List UInt8}{x:dA.Host}(hx:dA.parse (pl.take (xB pl))=some x)(h:sK (pl.drop (xB pl))=false)(hp:(fF b (pl.drop (xB pl))).isSome=false):go b pl p=(42,zero):=by
 unfold go
 rw[hx]
 dsimp only
 rw[if_neg (of_decide_eq_false h)]
 cases e:fF b (pl.drop (xB pl))with
 |none=>rfl
 |some n=>rw[e]at hp;cases hp
theorem iA7 {b:Bool}{pl p:List UInt8}{x:dA.Host}(hx:dA.parse (pl.take (xB pl))=some x)(h:sK (pl.drop (xB pl))=false)(hp:(fF b (pl.drop (xB pl))).isSome=true)(hq:EC p=true):go b pl p=(0,⟨b,x,(fF b (pl.drop (xB pl))).getD 0,p⟩):=by
 unfold go
 rw[hx]
 dsimp only
 rw[if_neg (of_decide_eq_false h)]
 cases e:fF b (pl.drop (xB pl))with
 |none=>rw[e]at hp;cases hp
 |some n=>dsimp only;rw[if_pos hq];rfl
theorem iA3 {b:Bool}{pl p:List UInt8}{x:dA.Host}(hx:dA.parse (pl.take (xB pl))=some x)(h:sK (pl.drop (xB pl))=false)(hp:(fF b (pl.drop (xB pl))).isSome=true)(hq:EC p=false):go b pl p=(43,zero):=by
 unfold go
 rw[hx]
 dsimp only
 rw[if_neg (of_decide_eq_false h)]
 cases e:fF b (pl.drop (xB pl))with
 |none=>rw[e]at hp;cases hp
 |some n=>dsimp only;rw[if_neg (by rw[hq];simp)]
end Ur
end Go.Proofs.YtabgoobcliijeaaGreatDoor
namespace Go.Proofs.YtabgoobcliijeaaGreatDoor
open Go.RowKit
theorem pAT(u:Ur.URL)(b:Bool):(pA u).setIfInBounds 0 (.bool b)=pA {u with secure:=b} :=by
 unfold pA
 rw[zA1];rfl
theorem cAR {α:Type}{l m:List α}{i k:Nat}{v:α}(h:l.length+k=i):(l++m).set i v=l++m.set k v:=by
 rw[List.set_append_right _ _ (by omega)]
 congr 2
 omega
theorem dAz(u:Ur.URL)(ha:u.host.addr.length=16)(n:Int):(pA u).setIfInBounds 19 (.int .i64 n)=pA {u with port:=n} :=by
 unfold pA
 rw[zA1]
 show(Value.bool u.secure::Value.int .i64 u.host.kind::lA u.host.name::(u.host.addr.map OA++ [Value.int .i64 u.port,lA u.path]).set 16 (.int .i64 n)).toArray=_
 rw[cAR (k:=0) (by simp[ha])];rfl
theorem JW(u:Ur.URL)(ha:u.host.addr.length=16)(s:ByteArray):(pA u).setIfInBounds 20 (.string s)=pA {u with path:=s.data.toList} :=by
 unfold pA
 rw[zA1]
 show(Value.bool u.secure::Value.int .i64 u.host.kind::lA u.host.name::(u.host.addr.map OA++ [Value.int .i64 u.port,lA u.path]).set 17 (.string s)).toArray=_
 rw[cAR (k:=1) (by simp[ha])];rfl
theorem pAS(u:Ur.URL)(ha:u.host.addr.length=16)(h:dA.Host)(_hh:h.addr.length=16):((pA u).toList.take 1++(fA h).toList++(pA u).toList.drop (1+(fA h).size)).toArray=pA {u with host:=h} :=by
 have e:(pA u).toList=Value.bool u.secure::((fA u.host).toList++ [Value.int .i64 u.port,lA u.path]):=rfl
 have h1:(fA h).size=18:=QA h _hh
 have h2:(fA u.host).toList.length=18:=by rw[Array.length_toList,QA u.host ha]
 rw[e,h1]
 show([Value.bool u.secure]++(fA h).toList++((fA u.host).toList++ [Value.int .i64 u.port,lA u.path]).drop 18).toArray=_
 rw[List.drop_append_of_le_length (by omega),List.drop_of_length_le (by omega)];rfl
structure yC(r g:Nat)(u:Ur.URL)(w w':World):Prop where
 res:Row w' r 33 (pA Ur.zero)
 var:Row w' g 33 (pA u)
 ne:r≠g
 base:w.heap.size<=g
 below:Below w.heap.size w w'
section
variable {r g:Nat} {u u':Ur.URL} {w w' w'':World}
theorem yC.on (k:yC r g u w w')(hb:Below w'.heap.size w' w''):yC r g u w w'':=
 ⟨k.res.stays hb,k.var.stays hb,k.ne,k.base,k.below.trans (hb.mono k.below.size)⟩
theorem yC.put (k:yC r g u w w'){i:Nat}{v:Value}(hu:(pA u).setIfInBounds i v=pA u'):yC r g u' w (w'.setCell ⟨g,i,none⟩ v):=
 ⟨k.res.other (p:=⟨g,i,none⟩) k.ne v,by have:=k.var.set i v;rw[hu]at this;exact this,k.ne,k.base,k.below.setCell (p:=⟨g,i,none⟩) k.base v⟩
theorem yC.whole (k:yC r g u w w')(u':Ur.URL):yC r g u' w (w'.setRow g (pA u')):=
 ⟨k.res.aside k.ne (pA u'),k.var.whole (pA u'),k.ne,k.base,below_setRow k.below k.base _⟩
theorem yC.cell (k:yC r g u w w')(i:Nat):w'.cell? ⟨g,i,none⟩=(pA u)[i]? :=k.var.cell i
theorem yC.free (k:yC r g u w w')(i:Nat):w'.frozen? ⟨g,i,none⟩=false:=k.var.free i
theorem yC.lay (k:yC r g u w w')(t:TypeId)(zs cs:Array Value):yC r g u w ((w'.alloc (.cells zs t)).setRow w'.heap.size cs):=by
 obtain⟨_,_,C,L⟩:=JA t zs cs k.below k.below.size
 exact⟨L _ _ _ k.res,L _ _ _ k.var,k.ne,k.base,C⟩
end
end Go.Proofs.YtabgoobcliijeaaGreatDoor
