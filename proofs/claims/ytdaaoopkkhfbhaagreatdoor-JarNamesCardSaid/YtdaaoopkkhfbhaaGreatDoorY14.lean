/- The walk of the reference's V4. -/
import Derived.Test.YtdaaoopkkhfbhaaGreatDoorY13
set_option maxHeartbeats 4000000
set_option maxRecDepth 100000
namespace Go.Proofs.YtdaaoopkkhfbhaaGreatDoor
open Go.RowKit
namespace aA
theorem gAx {l:List UInt8}{k:Nat}{c:UInt8}(hl:l.length=4)(hk:k<4)(hc:l[k]? =some c):(List.replicate 12 0++fill l 0 4 k).set (12+k) c=List.replicate 12 0++fill l 0 4 (k+1):=by
 rw[List.set_append_right _ _ (by simp)]
 have e:12+k- (List.replicate 12 (0:UInt8)).length=k:=by simp
 rw[e,aF hl hk hc]
theorem gAy(l:List UInt8):List.replicate 12 0++fill l 0 4 0=List.replicate 16 0:=by rw[KF];rfl
end aA
theorem jAr(s:ByteArray)(w:World)(hs:s.size<=1048576):
  Calls Tryz.prog 113 #[.string s] w (SA (aA.WC (aA.v4 s.data.toList)) (aA.v4 s.data.toList).isSome w):=by
 have hp:=Oct.aG 46 s.data.toList
 have hsm:=Oct.fI 46 s.data.toList
 rw[Oct.oA]at hsm
 have uC:=zA7 (fun W=>dR s 46 W (by omega))
 obtain⟨ps,hps⟩: ∃ps,ps=Oct.split 46 s.data.toList:=⟨_,rfl⟩
 rw[<-hps]at hp hsm uC
 have HP:=zA7 hps
 have UC:=zA7 hsm
 have BO:=zA7 hp
 clear hps hsm hp
 have z1:=wG
 go_enter Tryz.func113,Tryz.ntmps113
 have R0:=(Row.new w 30 (fA zA)).alloc (.cells (fA zA) 30)
 have F0:=Row.new (w.alloc (.cells (fA zA) 30)) 30 (fA zA)
 have eN:(w.alloc (.cells (fA zA) 30)).heap.size=w.heap.size+1:=by simp
 rw[eN]at F0
 have F1:=F0.whole (fA zA)
 have R1:=R0.aside (k:=w.heap.size+1) (by omega) (fA zA)
 have B0:=((Below.refl w.heap.size w).alloc (zB3 _) (.cells (fA zA) 30)).alloc (by simp) (.cells (fA zA) 30)
 have B1:=below_setRow B0 (g:=w.heap.size+1) (by omega) (fA zA)
 go_wp2_with (refine wpList_store_row rfl 30 _ _ rfl (w.heap.size+1) (fA zA) rfl rfl 30 _ F0 vA rfl (WA _) ?_)
 clear R0 F0 B0 eN
 generalize((w.alloc (.cells (fA zA) 30)).alloc (.cells (fA zA) 30)).setRow (w.heap.size+1) (fA zA)=w1 at*
 refine(uC.out _).mono ?_
 rintro e w2 ⟨v,rfl,hown,hb⟩
 obtain⟨A,cap,rfl,hA⟩:=mN hown
 obtain⟨g,rfl⟩:=hA BO.out
 clear hA
 have hgl:=(hown.lt g rfl)
 have R2:=R1.stays hb
 have F2:=F1.stays hb
 have B2:=B1.trans (hb.mono B1.size)
 have n1:=F1.lt
 generalize w1.heap.size=N at*
 clear R1 F1 B1 hb
 by_cases h4:ps.length=4
 ·have HL:=zA7 h4
  have RP:((ps.length:Int) !=4)=false:=by rw[h4];rfl
  clear h4
  go_wp2
  rw[show zA=List.replicate 16 0 from rfl,<-aA.gAy (aA.nums ps)]at F2
  have qC:=zA7 (show(aA.nums ps).length=4 by rw[aA.nums_length,HL.out])
  go_loopw [6] (fun i wr=> ∃k:Nat,k<=4/\i= .int .i64 k/\wr.ownsRow N 9 1 (.slice (some ⟨g,0,none⟩) ps.length cap) ps.length (ps.map gA)/\Row wr w.heap.size 30 (fA zA)/\Row wr (w.heap.size+1) 30 (fA (List.replicate 12 0++aA.fill (aA.nums ps) 0 4 k))/\(ps.take k).all aA.JD=true/\Below w.heap.size w wr) (fun i _=>4- (intOf i).toNat)
  case atStart=>exact⟨0,Nat.zero_le _,rfl,hown,R2,F2,by simp,B2⟩
  case round=>
   clear hown R2 F2 B2
   obtain⟨k,hk,rfl,hown,R,F,hall,hb⟩:=hrel
   have HA:=zA7 hall
   clear hall
   by_cases hlt:k<4
   ·have hkl:k<ps.length:=by rw[HL.out];exact hlt
    obtain⟨p,t,h1,hcell,h3,_,h5⟩:=kJ hown hkl
    have hpl:=UC.out p (List.mem_of_getElem? h1)
    have ht:t.size<=maxLen:=by unfold maxLen;omega
    have HC:=zA7 (fun W=>XY t W ht)
    rw[h3]at HC
    have H1:=zA7 h1
    have hbig:=aA.lY p
    clear h1 h3 h5 hpl ht
    rcases aA.qY p with⟨hk1,hk2⟩|⟨hk1,hk2,hk3⟩|⟨hk1,hk2,hk3⟩
    ·have HN:=zA7 (show SA (aA.WC (aA.v4 s.data.toList)) (aA.v4 s.data.toList).isSome=SA zA false by rw[aA.VN (by rw[<-HP.out];exact H1.out) hk1];rfl)
     rw[hk2]at HC
     clear hk1 hk2 hown F
     go_wp2_with (first
      |(go_at_call 65;refine(HC.out _).mono ?_;rintro e w' ⟨rfl,rfl⟩)
      |(refine wpList_store_row rfl 30 _ _ rfl w.heap.size (fA zA) rfl rfl 30 _ R vA rfl (WA _) ?_))
     rw[HN.out]
     exact bodyPost_ret (yA rfl _ _ w.heap.size _ _ _ rfl _ rfl (R.whole _) Tryz.underlying30 rfl vA) rfl ⟨rfl,below_setRow hb (zB3 _) _⟩
    ·have HN:=zA7 (show SA (aA.WC (aA.v4 s.data.toList)) (aA.v4 s.data.toList).isSome=SA zA false by rw[aA.VN (by rw[<-HP.out];exact H1.out) hk1];rfl)
     rw[hk2]at HC
     clear hk1 hk2 hown F
     go_wp2_with (first
      |(go_at_call 65;refine(HC.out _).mono ?_;rintro e w' ⟨rfl,rfl⟩)
      |(refine wpList_store_row rfl 30 _ _ rfl w.heap.size (fA zA) rfl rfl 30 _ R vA rfl (WA _) ?_))
     rw[HN.out]
     exact bodyPost_ret (yA rfl _ _ w.heap.size _ _ _ rfl _ rfl (R.whole _) Tryz.underlying30 rfl vA) rfl ⟨rfl,below_setRow hb (zB3 _) _⟩
    ·rw[hk2]at HC
     have YG:=zA7 (aA.fY HA.out H1.out hk1)
     have hw:=aA.mY H1.out
     have hv:Value.int .u8 (Oct.number p:Int)=BA (UInt8.ofNat (Oct.number p)):=by unfold BA;rw[UInt8.toNat_ofNat'];exact dB (by omega)
     have hfl:(List.replicate 12 0++aA.fill (aA.nums ps) 0 4 k).length=16:=by rw[zB4,aA.DG qC.out hk,List.length_replicate]
     have e12:((12:Int)+(k:Int)).toNat=12+k:=by omega
     obtain⟨u1,c1⟩: ∃u,wr.cell? ⟨w.heap.size+1,12+k,none⟩=some u:=⟨_,by rw[F.cell];exact Array.getElem?_eq_getElem (by rw[gC,hfl];omega)⟩
     have f1:=F.free (12+k)
     have F3:=F.set (12+k) (BA (UInt8.ofNat (Oct.number p)))
     rw[qH,aA.gAx qC.out hlt hw,<-hv]at F3
     have B3:=hb.setCell (p:=⟨w.heap.size+1,12+k,none⟩) (by simp) (.int .u8 (Oct.number p:Int))
     have R3:=R.other (p:=⟨w.heap.size+1,12+k,none⟩) (by simp) (.int .u8 (Oct.number p:Int))
     have O3:=lJ hown (p:=⟨w.heap.size+1,12+k,none⟩) (by simp[Value.ownBlock];omega) (.int .u8 (Oct.number p:Int))
     clear hk1 hk2 hw hv hfl F hb R hown
     generalize Oct.number p=x at*
     go_wp2_with (go_at_call 65;refine(HC.out _).mono ?_;rintro e w' ⟨rfl,rfl⟩)
     go_roundw
     case rel=>exact⟨k+1,by omega,by go_num,O3,R3,F3,YG.out,B3⟩
     case measure=>simp[intOf];omega
   ·have hkk:k=4:=by omega
    subst hkk
    rw[aA.CG qC.out]at F
    have HS:=zA7 (show aA.v4 s.data.toList=some (aA.nums ps) by
     have:=aA.A4 (s:=s.data.toList) (by rw[<-HP.out];exact HL.out) (by rw[<-HP.out];have:=HA.out;rw[List.take_of_length_le (by have:=HL.out;omega)]at this;exact this)
     rw[<-HP.out]at this
     exact this)
    have HZ:=zA7 (show(fA (List.replicate 12 0++aA.nums ps)).size=16 by rw[gC,zB4,qC.out,List.length_replicate])
    have HD:=zA7 (show aA.WC (some (aA.nums ps))=List.replicate 12 0++aA.nums ps from rfl)
    generalize List.replicate 12 0++aA.nums ps=G at*
    clear hown
    go_wp2_with (first
     |(refine jA 40 rfl ?_;refine pA rfl 30 _ rfl (w.heap.size+1) rfl F Tryz.underlying30 rfl (by rw[HZ.out];exact vA) ?_)
     |(refine wpList_store_row rfl 30 _ _ rfl w.heap.size (fA G) rfl rfl 30 _ R (by rw[HZ.out];exact vA) (by rw[HZ.out];rfl) (WA _) ?_))
    rw[HS.out,HD.out]
    exact bodyPost_ret (yA rfl _ _ w.heap.size _ _ _ rfl _ rfl (R.whole _) Tryz.underlying30 rfl (by rw[HZ.out];exact vA)) rfl ⟨rfl,below_setRow hb (zB3 _) _⟩
 ·have HN:=zA7 (show SA (aA.WC (aA.v4 s.data.toList)) (aA.v4 s.data.toList).isSome=SA zA false by rw[aA.X3 (by rw[<-HP.out];exact h4)];rfl)
  have RP:((ps.length:Int) !=4)=true:=by rw[bne_iff_ne];omega
  clear h4
  go_wp2_with (refine wpList_store_row rfl 30 _ _ rfl w.heap.size (fA zA) rfl rfl 30 _ R2 vA rfl (WA _) ?_)
  rw[HN.out]
  exact bodyPost_ret (yA rfl _ _ w.heap.size _ _ _ rfl _ rfl (R2.whole _) Tryz.underlying30 rfl vA) rfl ⟨rfl,below_setRow B2 (zB3 _) _⟩
end Go.Proofs.YtdaaoopkkhfbhaaGreatDoor
namespace Go.Proofs.YtdaaoopkkhfbhaaGreatDoor
open Go.RowKit
namespace aA
theorem cAI {s:List UInt8}(h:(Oct.split 58 s).length≠8):e8 s=none:=by unfold e8;rw[if_neg fun h1=>h h1.1]
theorem cAJ {s:List UInt8}{k:Nat}{p:List UInt8}(hp:(Oct.split 58 s)[k]? =some p)(hn:UA p=false):e8 s=none:=by
 unfold e8
 rw[if_neg fun h1=>?_]
 have:=List.all_eq_true.1 h1.2 p (List.mem_of_getElem? hp)
 rw[hn]at this;cases this
theorem cAL {s:List UInt8}(h:(Oct.split 58 s).length=8)(ha:(Oct.split 58 s).all UA=true):e8 s=some ((Oct.split 58 s).map yB):=by unfold e8;rw[if_pos ⟨h,ha⟩]
theorem eA3 {ps:List (List UInt8)}{k:Nat}{p:List UInt8}(h:(ps.take k).all UA=true)(hp:ps[k]? =some p)(hq:UA p=true):(ps.take (k+1)).all UA=true:=by
 rw[List.all_eq_true]at h⊢
 exact Oct.qJ (Q:=fun p=>UA p=true) h hp hq
theorem cAu {c:UInt8}(h:RD c=true):GI c=((cD c:Nat):Int):=by unfold GI;rw[if_pos h]
theorem cAt {c:UInt8}(h:RD c=false):GI c= -1:=by unfold GI;rw[h];rfl
end aA
theorem SU(s:ByteArray)(w:World)(hs:s.size<=2200000):
  Calls Tryz.prog 165 #[.string s] w (SA (aA.addrOf (aA.e8 s.data.toList)) (aA.e8 s.data.toList).isSome w):=by
 have hp:=Oct.aG 58 s.data.toList
 have uC:=zA7 (fun W=>dR s 58 W (by omega))
 obtain⟨ps,hps⟩: ∃ps,ps=Oct.split 58 s.data.toList:=⟨_,rfl⟩
 rw[<-hps]at hp uC
 have HP:=zA7 hps
 have BO:=zA7 hp
 have JB:=zA7 (fun k p (h:ps[k]? =some p)(hn:aA.UA p=false)=>(show SA (aA.addrOf (aA.e8 s.data.toList)) (aA.e8 s.data.toList).isSome=SA zA false by rw[aA.cAJ (by rw[<-hps];exact h) hn];rfl))
 clear hps hp
 have z1:=wG
 go_enter Tryz.func165,Tryz.ntmps165
 have R0:=(Row.new w 30 (fA zA)).alloc (.cells (fA zA) 30)
 have F0:=Row.new (w.alloc (.cells (fA zA) 30)) 30 (fA zA)
 have eN:(w.alloc (.cells (fA zA) 30)).heap.size=w.heap.size+1:=by simp
 rw[eN]at F0
 have F1:=F0.whole (fA zA)
 have R1:=R0.aside (k:=w.heap.size+1) (by omega) (fA zA)
 have B0:=((Below.refl w.heap.size w).alloc (zB3 _) (.cells (fA zA) 30)).alloc (by simp) (.cells (fA zA) 30)
 have B1:=below_setRow B0 (g:=w.heap.size+1) (by omega) (fA zA)
 go_wp2_with (refine wpList_store_row rfl 30 _ _ rfl (w.heap.size+1) (fA zA) rfl rfl 30 _ F0 vA rfl (WA _) ?_)
 clear R0 F0 B0 eN
 generalize((w.alloc (.cells (fA zA) 30)).alloc (.cells (fA zA) 30)).setRow (w.heap.size+1) (fA zA)=w1 at*
 refine(uC.out _).mono ?_
 rintro e w2 ⟨v,rfl,hown,hb⟩
 obtain⟨A,cap,rfl,hA⟩:=mN hown
 obtain⟨g,rfl⟩:=hA BO.out
 clear hA
 have hgl:=(hown.lt g rfl)
 have R2:=R1.stays hb
 have F2:=F1.stays hb
 have B2:=B1.trans (hb.mono B1.size)
 have n1:=F1.lt
 generalize w1.heap.size=N at*
 clear R1 F1 B1 hb
 by_cases h8:ps.length=8
 ·have HL:=zA7 h8
  have h8b:((ps.length:Int) !=8)=false:=by rw[h8];rfl
  clear h8
  go_wp2
  obtain⟨gs,hgs⟩: ∃gs,gs=ps.map aA.yB:=⟨_,rfl⟩
  have HG:=zA7 hgs
  have qC:=zA7 (show(aA.from_ gs).length=16 by rw[aA.cF,hgs,List.length_map,HL.out])
  clear hgs
  rw[show zA=List.replicate 16 0 from rfl,<-aA.KF (aA.from_ gs)]at F2
  go_loopw [6] (fun i wr=> ∃k:Nat,k<=8/\i= .int .i64 k/\wr.ownsRow N 9 1 (.slice (some ⟨g,0,none⟩) ps.length cap) ps.length (ps.map gA)/\Row wr w.heap.size 30 (fA zA)/\Row wr (w.heap.size+1) 30 (fA (aA.fill (aA.from_ gs) 0 16 (2*k)))/\(ps.take k).all aA.UA=true/\Below w.heap.size w wr) (fun i _=>8- (intOf i).toNat)
  case atStart=>exact⟨0,Nat.zero_le _,rfl,hown,R2,F2,by simp,B2⟩
  case round=>
   clear hown R2 F2 B2
   obtain⟨k,hk,rfl,hown,R,F,hall,hb⟩:=hrel
   have HA:=zA7 hall
   clear hall
   by_cases hlt:k<8
   ·have hkl:k<ps.length:=by rw[HL.out];exact hlt
    obtain⟨p,t,h1,hcell,h3,_,h5⟩:=kJ hown hkl
    subst h3
    have H1:=zA7 h1
    clear h1
    by_cases hout:t.size<1\/4<t.size
    ·have HN:=zA7 (JB.out k _ H1.out (aA.JW hout))
     have hor:(t.size<1)\/(¬(t.size:Int)<1/\4<t.size):=by omega
     clear hout h5 hown F
     rcases hor with h1|⟨h1,h2⟩
     all_goals
      go_wp2_with (refine wpList_store_row rfl 30 _ _ rfl w.heap.size (fA zA) rfl rfl 30 _ R vA rfl (WA _) ?_)
      rw[HN.out]
      exact bodyPost_ret (yA rfl _ _ w.heap.size _ _ _ rfl _ rfl (R.whole _) Tryz.underlying30 rfl vA) rfl ⟨rfl,below_setRow hb (zB3 _) _⟩
    ·have t1:1<=t.size:=by omega
     have t4:t.size<=4:=by omega
     clear hout h5
     go_wp2
     go_loop [7,8] (fun v i=> ∃m:Nat,m<=t.size/\i= .int .i64 m/\v= .int .i64 ((aA.bD (t.data.toList.take m):Nat):Int)/\(t.data.toList.take m).all aA.RD=true) (fun _ i=>t.size- (intOf i).toNat)
     case atStart=>exact⟨0,Nat.zero_le _,rfl,by simp[aA.bD],by simp⟩
     case round=>
      obtain⟨m,hm,rfl,rfl,hall⟩:=hrel
      have HM:=zA7 hall
      clear hall
      by_cases hmt:m<t.size
      ·have hb4:=aA.EV t t4 m hmt
       have HT:=zA7 (aA.FV t m hmt)
       have hd:=aA.bQ t[m]
       cases hh:aA.RD t[m]with
       |true=>
        have HY:=zA7 (Oct.pH t m hmt HM.out hh)
        have hc:=fun W=>VY t[m] W
        rw[aA.cAu hh]at hc
        have HC:=zA7 hc
        clear hh hc hown R F hb
        generalize aA.bD (t.data.toList.take m)=n at*
        generalize aA.cD t[m]=d at*
        go_wp2_with (go_at_call 219;refine(HC.out _).mono ?_;rintro e w' ⟨rfl,rfl⟩)
        go_round
        case rel=>exact⟨m+1,by omega,by go_num,dB (by rw[HT.out];omega),HY.out⟩
        case measure=>simp[intOf];omega
       |false=>
        have HN:=zA7 (JB.out k _ H1.out (aA.KW m hmt hh))
        have hc:=fun W=>VY t[m] W
        rw[aA.cAt hh]at hc
        have HC:=zA7 hc
        clear hh hc hown F
        go_wp2_with (first
         |(go_at_call 219;refine(HC.out _).mono ?_;rintro e w' ⟨rfl,rfl⟩)
         |(refine wpList_store_row rfl 30 _ _ rfl w.heap.size (fA zA) rfl rfl 30 _ R vA rfl (WA _) ?_))
        rw[HN.out]
        exact bodyPost_ret (yA rfl _ _ w.heap.size _ _ _ rfl _ rfl (R.whole _) Tryz.underlying30 rfl vA) rfl ⟨rfl,below_setRow hb (zB3 _) _⟩
      ·have hY:=aA.LW m (by omega) HM.out t1 t4
       have hT:=Oct.oD t m (by omega)
       rw[hT]
       have hZ:=aA.JV (l:=t.data.toList) (by rw[Oct.oA];exact t4)
       have YG:=zA7 (aA.eA3 HA.out H1.out hY)
       obtain⟨x,hx⟩: ∃x,x=aA.yB t.data.toList:=⟨_,rfl⟩
       rw[<-hx]at hZ
       rw[<-hZ]
       have hx1:=aA.UN x
       have jW:gs[k]? =some x:=by rw[HG.out,List.getElem?_map,H1.out,hx];rfl
       have HX:=zA7 (aA.MP gs k x jW)
       have hl2:=aA.DG (z:=(0:UInt8)) (n:=16) (k:=2*k) qC.out (by omega)
       obtain⟨u1,c1⟩: ∃u,wr.cell? ⟨w.heap.size+1,2*k,none⟩=some u:=⟨_,by rw[F.cell];exact Array.getElem?_eq_getElem (by rw[gC,hl2];omega)⟩
       obtain⟨u2,c2⟩: ∃u,wr.cell? ⟨w.heap.size+1,2*k+1,none⟩=some u:=⟨_,by rw[F.cell];exact Array.getElem?_eq_getElem (by rw[gC,hl2];omega)⟩
       have f1:=F.free (2*k)
       have f2:=F.free (2*k+1)
       have e1:((2:Int)*(k:Int)).toNat=2*k:=by omega
       have e2:((2:Int)*(k:Int)+1).toNat=2*k+1:=by omega
       have R3:Row ((wr.setCell ⟨w.heap.size+1,2*k,none⟩ (.int .u8 ((x.toNat:Int)/256))).setCell ⟨w.heap.size+1,2*k+1,none⟩ (.int .u8 ((x.toNat:Int)%256))) (w.heap.size+1) 30 (fA (aA.fill (aA.from_ gs) 0 16 (2*(k+1)))):=by
        have h1:Value.int .u8 ((x.toNat:Int)/256)=BA (aA.hi x):=by unfold BA;rw[aA.BM];exact dB (by omega)
        have h2:Value.int .u8 ((x.toNat:Int)%256)=BA (aA.lo x):=by unfold BA;rw[aA.YM];exact dB (by omega)
        have R:=(F.set (2*k) (BA (aA.hi x))).set (2*k+1) (BA (aA.lo x))
        rw[qH,qH,aA.aF qC.out (by omega) HX.out.1,aA.aF qC.out (by omega) HX.out.2]at R
        rw[h1,h2]
        exact R
       have B3:=((hb.setCell (p:=⟨w.heap.size+1,2*k,none⟩) (by simp) (.int .u8 ((x.toNat:Int)/256))).setCell (p:=⟨w.heap.size+1,2*k+1,none⟩) (by simp) (.int .u8 ((x.toNat:Int)%256)))
       have S3:=((R.other (p:=⟨w.heap.size+1,2*k,none⟩) (by simp) (.int .u8 ((x.toNat:Int)/256))).other (p:=⟨w.heap.size+1,2*k+1,none⟩) (by simp) (.int .u8 ((x.toNat:Int)%256)))
       have O3:=lJ (lJ hown (p:=⟨w.heap.size+1,2*k,none⟩) (by simp[Value.ownBlock];omega) (.int .u8 ((x.toNat:Int)/256))) (p:=⟨w.heap.size+1,2*k+1,none⟩) (by simp[Value.ownBlock];omega) (.int .u8 ((x.toNat:Int)%256))
       clear hY hT hZ hx jW hl2 F R hown hb
       go_wp2
       go_roundw
       case rel=>exact⟨k+1,by omega,by go_num,O3,S3,R3,YG.out,B3⟩
       case measure=>simp[intOf];omega
   ·have hkk:k=8:=by omega
    subst hkk
    rw[aA.CG qC.out]at F
    have HS:=zA7 (show aA.e8 s.data.toList=some gs by
     have:=aA.cAL (s:=s.data.toList) (by rw[<-HP.out];exact HL.out) (by rw[<-HP.out];have:=HA.out;rw[List.take_of_length_le (by have:=HL.out;omega)]at this;exact this)
     rw[<-HP.out,<-HG.out]at this
     exact this)
    have HZ:=zA7 (show(fA (aA.from_ gs)).size=16 by rw[gC,qC.out])
    have HD:=zA7 (show aA.addrOf (some gs)=aA.from_ gs from rfl)
    generalize aA.from_ gs=G at*
    clear hown
    go_wp2_with (first
     |(refine jA 72 rfl ?_;refine pA rfl 30 _ rfl (w.heap.size+1) rfl F Tryz.underlying30 rfl (by rw[HZ.out];exact vA) ?_)
     |(refine wpList_store_row rfl 30 _ _ rfl w.heap.size (fA G) rfl rfl 30 _ R (by rw[HZ.out];exact vA) (by rw[HZ.out];rfl) (WA _) ?_))
    rw[HS.out,HD.out]
    exact bodyPost_ret (yA rfl _ _ w.heap.size _ _ _ rfl _ rfl (R.whole _) Tryz.underlying30 rfl (by rw[HZ.out];exact vA)) rfl ⟨rfl,below_setRow hb (zB3 _) _⟩
 ·have HN:=zA7 (show SA (aA.addrOf (aA.e8 s.data.toList)) (aA.e8 s.data.toList).isSome=SA zA false by rw[aA.cAI (by rw[<-HP.out];exact h8)];rfl)
  have h8b:((ps.length:Int) !=8)=true:=by rw[bne_iff_ne];omega
  clear h8
  go_wp2_with (refine wpList_store_row rfl 30 _ _ rfl w.heap.size (fA zA) rfl rfl 30 _ R2 vA rfl (WA _) ?_)
  rw[HN.out]
  exact bodyPost_ret (yA rfl _ _ w.heap.size _ _ _ rfl _ rfl (R2.whole _) Tryz.underlying30 rfl vA) rfl ⟨rfl,below_setRow B2 (zB3 _) _⟩
end Go.Proofs.YtdaaoopkkhfbhaaGreatDoor
namespace Go.Proofs.YtdaaoopkkhfbhaaGreatDoor
open Go.RowKit
theorem jAs(s:ByteArray)(w:World)(hs:s.size<=1048576):
  Calls Tryz.prog 110 #[.string s] w (SA (aA.addrOf (aA.v6 s.data.toList)) (aA.v6 s.data.toList).isSome w):=by
 have HE:=zA7 SU
 have z1:=wG
 have HZZ:=zA7 (show(fA zA).size=16 from rfl)
 have hc8:=fun W=>SU s W (by omega)
 go_enter Tryz.func110,Tryz.ntmps110
 go_wp2_with fail
 have R0:=Row.new w 30 (fA zA)
 have B0:=(Below.refl w.heap.size w).alloc (zB3 _) (.cells (fA zA) 30)
 generalize w.alloc (.cells (fA zA) 30)=w0 at*
 cases he:aA.e8 s.data.toList with
 |some gs=>
  rw[he]at hc8
  have HC:=zA7 hc8
  have HN:Hid (SA (aA.addrOf (aA.v6 s.data.toList)) (aA.v6 s.data.toList).isSome=SA (aA.from_ gs) true):=zA7 (by rw[aA.V4 he];rfl)
  have HG:=zA7 (show(fA (aA.from_ gs)).size=16 by rw[gC,aA.cF,aA.zJ (aA.V4 he)])
  have HD:Hid (aA.addrOf (some gs)=aA.from_ gs):=zA7 rfl
  rw[HD.out]at HC
  generalize aA.from_ gs=G at*
  clear hc8 he HD
  refine(HC.out _).mono ?_
  rintro e w1 ⟨rfl,b1⟩
  have R1:=R0.stays b1
  have B1:=B0.trans (b1.mono B0.size)
  have s1:=B1.size
  have n1:w.heap.size≠w1.heap.size:=by have:=R1.lt;omega
  have T1:=Row.new w1 30 (fA zA)
  have T2:=T1.whole (fA G)
  have R2:=(R1.alloc (.cells (fA zA) 30)).aside n1 (fA G)
  have B2:=below_setRow (B1.alloc s1 (.cells (fA zA) 30)) s1 (fA G)
  clear R0 B0 b1 R1 B1
  go_wp2_with (first
   |(refine jA 19 rfl ?_;refine pA rfl 30 _ rfl w1.heap.size rfl T2 Tryz.underlying30 rfl (by rw[HG.out];exact vA) ?_)
   |(refine wpList_store_row rfl 30 _ _ rfl w1.heap.size (fA G) rfl rfl 30 _ T1 (by rw[HG.out];exact vA) (by rw[HG.out];rfl) (WA _) ?_)
   |(refine wpList_store_row rfl 30 _ _ rfl w.heap.size (fA G) rfl rfl 30 _ R2 (by rw[HG.out];exact vA) (by rw[HG.out];rfl) (WA _) ?_))
  rw[HN.out]
  exact bodyPost_ret (yA rfl _ _ w.heap.size _ _ _ rfl _ rfl (R2.whole _) Tryz.underlying30 rfl (by rw[HG.out];exact vA)) rfl ⟨rfl,below_setRow B2 (zB3 _) _⟩
 |none=>
  rw[he]at hc8
  have HC:Hid (∀W,Calls Tryz.prog 165 #[.string s] W (SA zA false W)):=zA7 hc8
  have I8:=zA7 he
  clear hc8 he
  refine(HC.out _).mono ?_
  rintro e w1 ⟨rfl,b1⟩
  have R1:=R0.stays b1
  have B1:=B0.trans (b1.mono B0.size)
  have s1:=B1.size
  have n1:w.heap.size≠w1.heap.size:=by have:=R1.lt;omega
  have T1:=Row.new w1 30 (fA zA)
  have R2:=(R1.alloc (.cells (fA zA) 30)).aside n1 (fA zA)
  have B2:=below_setRow (B1.alloc s1 (.cells (fA zA) 30)) s1 (fA zA)
  clear R0 B0 b1 R1 B1
  go_wp2_with (refine wpList_store_row rfl 30 _ _ rfl w1.heap.size (fA zA) rfl rfl 30 _ T1 vA rfl (WA _) ?_)
  generalize(w1.alloc (.cells (fA zA) 30)).setRow w1.heap.size (fA zA)=w2 at*
  generalize w1.heap.size=n4 at*
  clear T1 s1 n1 HC
  go_loopw [6] (fun i wr=> ∃at_:Nat,at_<=s.size/\i= .int .i64 at_/\Hid (∀j,j<at_->aA.Two s.data.toList j->aA.cand (s.data.toList.take j) (s.data.toList.drop (j+2))=none)/\Row wr w.heap.size 30 (fA zA)/\Below w.heap.size w wr) (fun i _=>s.size+1- (intOf i).toNat)
  case atStart=>exact⟨0,Nat.zero_le _,rfl,fun j hj=>absurd hj (by omega),R2,B2⟩
  case round=>
   clear R2 B2
   obtain⟨at_,hat,rfl,HO,R,hb⟩:=hrel
   by_cases hle:at_+2<=s.size
   ·have l0:at_<s.size:=by omega
    have l1:at_+1<s.size:=by omega
    have e1:((at_:Int)+1).toNat=at_+1:=by omega
    have e2:((at_:Int)+2).toNat=at_+2:=by omega
    have t0:s.data.toList[at_]? =some s[at_]:=by rw[List.getElem?_eq_getElem (by rw[Oct.oA];exact l0)];rfl
    have t1:s.data.toList[at_+1]? =some s[at_+1]:=by rw[List.getElem?_eq_getElem (by rw[Oct.oA];exact l1)];rfl
    by_cases GG:(s[at_].toNat:Int)=58/\(s[at_+1].toNat:Int)=58
    ·have TV:aA.Two s.data.toList at_:=by
      unfold aA.Two
      rw[t0,t1,Oct.TB (a:=s[at_]) (b:=58) (by have:=GG.1;show _=58;omega),Oct.TB (a:=s[at_+1]) (b:=58) (by have:=GG.2;show _=58;omega)]
      exact⟨rfl,rfl⟩
     have HT:=zA7 TV
     have g1:((s[at_].toNat:Int) !=58)=false:=by rw[GG.1];rfl
     have g2:((s[at_+1].toNat:Int) !=58)=false:=by rw[GG.2];rfl
     obtain⟨A,hA⟩: ∃A,A=s.data.toList.take at_:=⟨_,rfl⟩
     obtain⟨B,hB⟩: ∃B,B=s.data.toList.drop (at_+2):=⟨_,rfl⟩
     have qL:=zA7 hA
     have sL:=zA7 hB
     have HV:=zA7 (fun gs (h:aA.cand A B=some gs)=>aA.mA9 HT.out (by rw[<-hA,<-hB];exact h))
     have hlA:A.length=at_:=by rw[hA,List.length_take,Oct.oA];omega
     have hlB:B.length=s.size- (at_+2):=by rw[hB,List.length_drop,Oct.oA]
     have yE:(s.extract 0 at_).data.toList=A:=by rw[Lib.extract_data,hA];simp
     have zE:(s.extract (at_+2) s.size).data.toList=B:=by
      rw[Lib.extract_data,hB]
      exact List.take_of_length_le (by rw[List.length_drop,Oct.oA];exact zB3 _)
     have eA:(s.extract 0 at_).toList.isEmpty=decide (A= []):=by rw[Oct.aB,yE,Bool.eq_iff_iff,List.isEmpty_iff,decide_eq_true_iff]
     have eB:(s.extract (at_+2) s.size).toList.isEmpty=decide (B= []):=by rw[Oct.aB,zE,Bool.eq_iff_iff,List.isEmpty_iff,decide_eq_true_iff]
     clear hA hB GG TV t0 t1
     by_cases hA0:A= []<;>by_cases hB0:B= []
     ·rw[zA9 hA0]at eA
      rw[zA9 hB0]at eB
      have hFf:(s.extract 0 at_:ByteArray).data.toList=aA.F A:=by unfold aA.F;rw[if_pos hA0];rw[yE,hA0]
      have hBb:(s.extract (at_+2) s.size:ByteArray).data.toList=aA.H B:=by unfold aA.H;rw[if_pos hB0];rw[zE,hB0]
      have hfs:(s.extract 0 at_:ByteArray).size<=1048576:=by rw[<-Oct.oA,hFf];unfold aA.F;split<;>simp<;>omega
      have hbs:(s.extract (at_+2) s.size:ByteArray).size<=1048576:=by rw[<-Oct.oA,hBb];unfold aA.H;split<;>simp<;>omega
      clear yE zE hlA hlB
      go_wp2
      generalize(s.extract 0 at_:ByteArray)=f at*
      generalize(s.extract (at_+2) s.size:ByteArray)=b at*
      have dH:=zA7 hFf
      have ZG:=zA7 hBb
      clear hFf hBb
      go_loopw [9,10] (fun z i wv=> ∃(k:Nat)(o:ByteArray),k<=8/\i= .int .i64 (k:Int)/\z= .string o/\Hid (o.data.toList=aA.Z k)/\o.size<=17/\Hid (∀j,j<k->aA.e8 (aA.F A++aA.Z j++aA.H B)=none)/\Row wv w.heap.size 30 (fA zA)/\Below w.heap.size w wv) (fun _ i _=>8- (intOf i).toNat)
      case atStart=>exact⟨0,⟨#[48]⟩,Nat.zero_le _,rfl,rfl,rfl,by decide,fun j hj=>absurd hj (by omega),R,hb⟩
      case round=>
       clear R hb
       obtain⟨k,o,hk,rfl,rfl,qD,ho,JB,R,hb⟩:=hrel
       by_cases fQ:k<8
       ·have q1: ¬9223372036854775807<f.size+o.size:=by omega
        have q2: ¬9223372036854775807<f.size+o.size+b.size:=by omega
        have q3: ¬9223372036854775807<o.size+2:=by omega
        have cs:(⟨#[58,48]⟩:ByteArray).size=2:=rfl
        have hsz:(f++o++b:ByteArray).size<=2200000:=by rw[ByteArray.size_append,ByteArray.size_append];omega
        have wE:(f++o++b:ByteArray).data.toList=aA.F A++aA.Z k++aA.H B:=by
         rw[ByteArray.data_append,ByteArray.data_append,Array.toList_append,Array.toList_append,dH.out,ZG.out,qD.out]
        have hc:=fun W=>HE.out (f++o++b) W hsz
        rw[wE]at hc
        clear wE hsz
        cases he:aA.e8 (aA.F A++aA.Z k++aA.H B)with
        |some gs=>
         rw[he]at hc
         have HC:=zA7 hc
         have hv:=HV.out gs (aA.cM he)
         have HN:Hid (SA (aA.addrOf (aA.v6 s.data.toList)) (aA.v6 s.data.toList).isSome=SA (aA.from_ gs) true):=zA7 (by rw[hv];rfl)
         have HG:=zA7 (show(fA (aA.from_ gs)).size=16 by rw[gC,aA.cF,aA.zJ hv])
         have HD:Hid (aA.addrOf (some gs)=aA.from_ gs):=zA7 rfl
         rw[HD.out]at HC
         generalize aA.from_ gs=G at*
         clear hc he HD hv
         go_wp2_with fail
         refine(HC.out _).mono ?_
         rintro e w3 ⟨rfl,b3⟩
         have R3:=R.stays b3
         have B3:=hb.trans (b3.mono hb.size)
         have s3:=B3.size
         have n3:w.heap.size≠w3.heap.size:=by have:=R3.lt;omega
         have T3:=Row.new w3 30 (fA zA)
         have T5:=T3.whole (fA G)
         have R5:=(R3.alloc (.cells (fA zA) 30)).aside n3 (fA G)
         have B5:=below_setRow (B3.alloc s3 (.cells (fA zA) 30)) s3 (fA G)
         clear R hb b3 R3 B3
         go_wp2_with (first
          |(refine jA 67 rfl ?_;refine pA rfl 30 _ rfl w3.heap.size rfl T5 Tryz.underlying30 rfl (by rw[HG.out];exact vA) ?_)
          |(refine wpList_store_row rfl 30 _ _ rfl w3.heap.size (fA G) rfl rfl 30 _ T3 (by rw[HG.out];exact vA) (by rw[HG.out];rfl) (WA _) ?_)
          |(refine wpList_store_row rfl 30 _ _ rfl w.heap.size (fA G) rfl rfl 30 _ R5 (by rw[HG.out];exact vA) (by rw[HG.out];rfl) (WA _) ?_))
         rw[HN.out]
         exact bodyPost_ret (yA rfl _ _ w.heap.size _ _ _ rfl _ rfl (R5.whole _) Tryz.underlying30 rfl (by rw[HG.out];exact vA)) rfl ⟨rfl,below_setRow B5 (zB3 _) _⟩
        |none=>
         rw[he]at hc
         have HC:Hid (∀W,Calls Tryz.prog 165 #[.string (f++o++b)] W (SA zA false W)):=zA7 hc
         have IB:Hid (∀j,j<k+1->aA.e8 (aA.F A++aA.Z j++aA.H B)=none):=zA7 fun j hj=>by
          by_cases e:j=k
          ·rw[e];exact he
          ·exact JB.out j (by omega)
         have mE:=zA7 (show(o++⟨#[58,48]⟩:ByteArray).data.toList=aA.Z (k+1) by rw[ByteArray.data_append,Array.toList_append,qD.out];rfl)
         have fH:=zA7 (show(o++⟨#[58,48]⟩:ByteArray).size<=17 by rw[<-Oct.oA,mE.out,aA.UL];omega)
         clear hc he JB qD
         go_wp2_with fail
         refine(HC.out _).mono ?_
         rintro e w3 ⟨rfl,b3⟩
         have R3:=R.stays b3
         have B3:=hb.trans (b3.mono hb.size)
         have s3:=B3.size
         have n3:w.heap.size≠w3.heap.size:=by have:=R3.lt;omega
         have T3:=Row.new w3 30 (fA zA)
         have R5:=(R3.alloc (.cells (fA zA) 30)).aside n3 (fA zA)
         have B5:=below_setRow (B3.alloc s3 (.cells (fA zA) 30)) s3 (fA zA)
         clear R hb b3 R3 B3
         go_wp2_with (refine wpList_store_row rfl 30 _ _ rfl w3.heap.size (fA zA) rfl rfl 30 _ T3 vA rfl (WA _) ?_)
         go_roundw
         case rel=>exact⟨k+1,_,by omega,by go_num,rfl,mE.out,fH.out,IB.out,R5,B5⟩
         case measure=>simp[intOf];omega
       ·have DH:k=8:=by omega
        subst DH
        have HK:Hid (∀j,j<at_+1->aA.Two s.data.toList j->aA.cand (s.data.toList.take j) (s.data.toList.drop (j+2))=none):=zA7 fun j hj h2=>by
         by_cases e:j=at_
         ·subst e
          have:=aA.bM JB.out
          rw[qL.out,sL.out]at this
          exact this
         ·exact HO.out j (by omega) h2
        clear JB
        go_wp2
        go_roundw
        case rel=>exact⟨at_+1,by omega,by go_num,HK.out,R,hb⟩
        case measure=>simp[intOf];omega
     ·rw[zA9 hA0]at eA
      rw[zA8 hB0]at eB
      have hFf:(s.extract 0 at_:ByteArray).data.toList=aA.F A:=by unfold aA.F;rw[if_pos hA0];rw[yE,hA0]
      have hBb:(⟨#[58]⟩++s.extract (at_+2) s.size:ByteArray).data.toList=aA.H B:=by unfold aA.H;rw[if_neg hB0];rw[ByteArray.data_append,Array.toList_append,zE];rfl
      have hfs:(s.extract 0 at_:ByteArray).size<=1048576:=by rw[<-Oct.oA,hFf];unfold aA.F;split<;>simp<;>omega
      have hbs:(⟨#[58]⟩++s.extract (at_+2) s.size:ByteArray).size<=1048576:=by rw[<-Oct.oA,hBb];unfold aA.H;split<;>simp<;>omega
      have sb:(s.extract (at_+2) s.size).size=s.size- (at_+2):=by rw[<-Oct.oA,zE,hlB]
      have pb: ¬9223372036854775807<1+(s.extract (at_+2) s.size).size:=by omega
      clear sb
      clear yE zE hlA hlB
      go_wp2
      generalize(s.extract 0 at_:ByteArray)=f at*
      generalize(⟨#[58]⟩++s.extract (at_+2) s.size:ByteArray)=b at*
      have dH:=zA7 hFf
      have ZG:=zA7 hBb
      clear hFf hBb
      go_loopw [9,10] (fun z i wv=> ∃(k:Nat)(o:ByteArray),k<=8/\i= .int .i64 (k:Int)/\z= .string o/\Hid (o.data.toList=aA.Z k)/\o.size<=17/\Hid (∀j,j<k->aA.e8 (aA.F A++aA.Z j++aA.H B)=none)/\Row wv w.heap.size 30 (fA zA)/\Below w.heap.size w wv) (fun _ i _=>8- (intOf i).toNat)
      case atStart=>exact⟨0,⟨#[48]⟩,Nat.zero_le _,rfl,rfl,rfl,by decide,fun j hj=>absurd hj (by omega),R,hb⟩
      case round=>
       clear R hb
       obtain⟨k,o,hk,rfl,rfl,qD,ho,JB,R,hb⟩:=hrel
       by_cases fQ:k<8
       ·have q1: ¬9223372036854775807<f.size+o.size:=by omega
        have q2: ¬9223372036854775807<f.size+o.size+b.size:=by omega
        have q3: ¬9223372036854775807<o.size+2:=by omega
        have cs:(⟨#[58,48]⟩:ByteArray).size=2:=rfl
        have hsz:(f++o++b:ByteArray).size<=2200000:=by rw[ByteArray.size_append,ByteArray.size_append];omega
        have wE:(f++o++b:ByteArray).data.toList=aA.F A++aA.Z k++aA.H B:=by
         rw[ByteArray.data_append,ByteArray.data_append,Array.toList_append,Array.toList_append,dH.out,ZG.out,qD.out]
        have hc:=fun W=>HE.out (f++o++b) W hsz
        rw[wE]at hc
        clear wE hsz
        cases he:aA.e8 (aA.F A++aA.Z k++aA.H B)with
        |some gs=>
         rw[he]at hc
         have HC:=zA7 hc
         have hv:=HV.out gs (aA.cM he)
         have HN:Hid (SA (aA.addrOf (aA.v6 s.data.toList)) (aA.v6 s.data.toList).isSome=SA (aA.from_ gs) true):=zA7 (by rw[hv];rfl)
         have HG:=zA7 (show(fA (aA.from_ gs)).size=16 by rw[gC,aA.cF,aA.zJ hv])
         have HD:Hid (aA.addrOf (some gs)=aA.from_ gs):=zA7 rfl
         rw[HD.out]at HC
         generalize aA.from_ gs=G at*
         clear hc he HD hv
         go_wp2_with fail
         refine(HC.out _).mono ?_
         rintro e w3 ⟨rfl,b3⟩
         have R3:=R.stays b3
         have B3:=hb.trans (b3.mono hb.size)
         have s3:=B3.size
         have n3:w.heap.size≠w3.heap.size:=by have:=R3.lt;omega
         have T3:=Row.new w3 30 (fA zA)
         have T5:=T3.whole (fA G)
         have R5:=(R3.alloc (.cells (fA zA) 30)).aside n3 (fA G)
         have B5:=below_setRow (B3.alloc s3 (.cells (fA zA) 30)) s3 (fA G)
         clear R hb b3 R3 B3
         go_wp2_with (first
          |(refine jA 67 rfl ?_;refine pA rfl 30 _ rfl w3.heap.size rfl T5 Tryz.underlying30 rfl (by rw[HG.out];exact vA) ?_)
          |(refine wpList_store_row rfl 30 _ _ rfl w3.heap.size (fA G) rfl rfl 30 _ T3 (by rw[HG.out];exact vA) (by rw[HG.out];rfl) (WA _) ?_)
          |(refine wpList_store_row rfl 30 _ _ rfl w.heap.size (fA G) rfl rfl 30 _ R5 (by rw[HG.out];exact vA) (by rw[HG.out];rfl) (WA _) ?_))
         rw[HN.out]
         exact bodyPost_ret (yA rfl _ _ w.heap.size _ _ _ rfl _ rfl (R5.whole _) Tryz.underlying30 rfl (by rw[HG.out];exact vA)) rfl ⟨rfl,below_setRow B5 (zB3 _) _⟩
        |none=>
         rw[he]at hc
         have HC:Hid (∀W,Calls Tryz.prog 165 #[.string (f++o++b)] W (SA zA false W)):=zA7 hc
         have IB:Hid (∀j,j<k+1->aA.e8 (aA.F A++aA.Z j++aA.H B)=none):=zA7 fun j hj=>by
          by_cases e:j=k
          ·rw[e];exact he
          ·exact JB.out j (by omega)
         have mE:=zA7 (show(o++⟨#[58,48]⟩:ByteArray).data.toList=aA.Z (k+1) by rw[ByteArray.data_append,Array.toList_append,qD.out];rfl)
         have fH:=zA7 (show(o++⟨#[58,48]⟩:ByteArray).size<=17 by rw[<-Oct.oA,mE.out,aA.UL];omega)
         clear hc he JB qD
         go_wp2_with fail
         refine(HC.out _).mono ?_
         rintro e w3 ⟨rfl,b3⟩
         have R3:=R.stays b3
         have B3:=hb.trans (b3.mono hb.size)
         have s3:=B3.size
         have n3:w.heap.size≠w3.heap.size:=by have:=R3.lt;omega
         have T3:=Row.new w3 30 (fA zA)
         have R5:=(R3.alloc (.cells (fA zA) 30)).aside n3 (fA zA)
         have B5:=below_setRow (B3.alloc s3 (.cells (fA zA) 30)) s3 (fA zA)
         clear R hb b3 R3 B3
         go_wp2_with (refine wpList_store_row rfl 30 _ _ rfl w3.heap.size (fA zA) rfl rfl 30 _ T3 vA rfl (WA _) ?_)
         go_roundw
         case rel=>exact⟨k+1,_,by omega,by go_num,rfl,mE.out,fH.out,IB.out,R5,B5⟩
         case measure=>simp[intOf];omega
       ·have DH:k=8:=by omega
        subst DH
        have HK:Hid (∀j,j<at_+1->aA.Two s.data.toList j->aA.cand (s.data.toList.take j) (s.data.toList.drop (j+2))=none):=zA7 fun j hj h2=>by
         by_cases e:j=at_
         ·subst e
          have:=aA.bM JB.out
          rw[qL.out,sL.out]at this
          exact this
         ·exact HO.out j (by omega) h2
        clear JB
        go_wp2
        go_roundw
        case rel=>exact⟨at_+1,by omega,by go_num,HK.out,R,hb⟩
        case measure=>simp[intOf];omega
     ·rw[zA8 hA0]at eA
      rw[zA9 hB0]at eB
      have hFf:(s.extract 0 at_++⟨#[58]⟩:ByteArray).data.toList=aA.F A:=by unfold aA.F;rw[if_neg hA0];rw[ByteArray.data_append,Array.toList_append,yE]
      have hBb:(s.extract (at_+2) s.size:ByteArray).data.toList=aA.H B:=by unfold aA.H;rw[if_pos hB0];rw[zE,hB0]
      have hfs:(s.extract 0 at_++⟨#[58]⟩:ByteArray).size<=1048576:=by rw[<-Oct.oA,hFf];unfold aA.F;split<;>simp<;>omega
      have hbs:(s.extract (at_+2) s.size:ByteArray).size<=1048576:=by rw[<-Oct.oA,hBb];unfold aA.H;split<;>simp<;>omega
      have sa:(s.extract 0 at_).size=at_:=by rw[<-Oct.oA,yE,hlA]
      have pa: ¬9223372036854775807<(s.extract 0 at_).size+1:=by omega
      clear sa
      clear yE zE hlA hlB
      go_wp2
      generalize(s.extract 0 at_++⟨#[58]⟩:ByteArray)=f at*
      generalize(s.extract (at_+2) s.size:ByteArray)=b at*
      have dH:=zA7 hFf
      have ZG:=zA7 hBb
      clear hFf hBb
      go_loopw [9,10] (fun z i wv=> ∃(k:Nat)(o:ByteArray),k<=8/\i= .int .i64 (k:Int)/\z= .string o/\Hid (o.data.toList=aA.Z k)/\o.size<=17/\Hid (∀j,j<k->aA.e8 (aA.F A++aA.Z j++aA.H B)=none)/\Row wv w.heap.size 30 (fA zA)/\Below w.heap.size w wv) (fun _ i _=>8- (intOf i).toNat)
      case atStart=>exact⟨0,⟨#[48]⟩,Nat.zero_le _,rfl,rfl,rfl,by decide,fun j hj=>absurd hj (by omega),R,hb⟩
      case round=>
       clear R hb
       obtain⟨k,o,hk,rfl,rfl,qD,ho,JB,R,hb⟩:=hrel
       by_cases fQ:k<8
       ·have q1: ¬9223372036854775807<f.size+o.size:=by omega
        have q2: ¬9223372036854775807<f.size+o.size+b.size:=by omega
        have q3: ¬9223372036854775807<o.size+2:=by omega
        have cs:(⟨#[58,48]⟩:ByteArray).size=2:=rfl
        have hsz:(f++o++b:ByteArray).size<=2200000:=by rw[ByteArray.size_append,ByteArray.size_append];omega
        have wE:(f++o++b:ByteArray).data.toList=aA.F A++aA.Z k++aA.H B:=by
         rw[ByteArray.data_append,ByteArray.data_append,Array.toList_append,Array.toList_append,dH.out,ZG.out,qD.out]
        have hc:=fun W=>HE.out (f++o++b) W hsz
        rw[wE]at hc
        clear wE hsz
        cases he:aA.e8 (aA.F A++aA.Z k++aA.H B)with
        |some gs=>
         rw[he]at hc
         have HC:=zA7 hc
         have hv:=HV.out gs (aA.cM he)
         have HN:Hid (SA (aA.addrOf (aA.v6 s.data.toList)) (aA.v6 s.data.toList).isSome=SA (aA.from_ gs) true):=zA7 (by rw[hv];rfl)
         have HG:=zA7 (show(fA (aA.from_ gs)).size=16 by rw[gC,aA.cF,aA.zJ hv])
         have HD:Hid (aA.addrOf (some gs)=aA.from_ gs):=zA7 rfl
         rw[HD.out]at HC
         generalize aA.from_ gs=G at*
         clear hc he HD hv
         go_wp2_with fail
         refine(HC.out _).mono ?_
         rintro e w3 ⟨rfl,b3⟩
         have R3:=R.stays b3
         have B3:=hb.trans (b3.mono hb.size)
         have s3:=B3.size
         have n3:w.heap.size≠w3.heap.size:=by have:=R3.lt;omega
         have T3:=Row.new w3 30 (fA zA)
         have T5:=T3.whole (fA G)
         have R5:=(R3.alloc (.cells (fA zA) 30)).aside n3 (fA G)
         have B5:=below_setRow (B3.alloc s3 (.cells (fA zA) 30)) s3 (fA G)
         clear R hb b3 R3 B3
         go_wp2_with (first
          |(refine jA 67 rfl ?_;refine pA rfl 30 _ rfl w3.heap.size rfl T5 Tryz.underlying30 rfl (by rw[HG.out];exact vA) ?_)
          |(refine wpList_store_row rfl 30 _ _ rfl w3.heap.size (fA G) rfl rfl 30 _ T3 (by rw[HG.out];exact vA) (by rw[HG.out];rfl) (WA _) ?_)
          |(refine wpList_store_row rfl 30 _ _ rfl w.heap.size (fA G) rfl rfl 30 _ R5 (by rw[HG.out];exact vA) (by rw[HG.out];rfl) (WA _) ?_))
         rw[HN.out]
         exact bodyPost_ret (yA rfl _ _ w.heap.size _ _ _ rfl _ rfl (R5.whole _) Tryz.underlying30 rfl (by rw[HG.out];exact vA)) rfl ⟨rfl,below_setRow B5 (zB3 _) _⟩
        |none=>
         rw[he]at hc
         have HC:Hid (∀W,Calls Tryz.prog 165 #[.string (f++o++b)] W (SA zA false W)):=zA7 hc
         have IB:Hid (∀j,j<k+1->aA.e8 (aA.F A++aA.Z j++aA.H B)=none):=zA7 fun j hj=>by
          by_cases e:j=k
          ·rw[e];exact he
          ·exact JB.out j (by omega)
         have mE:=zA7 (show(o++⟨#[58,48]⟩:ByteArray).data.toList=aA.Z (k+1) by rw[ByteArray.data_append,Array.toList_append,qD.out];rfl)
         have fH:=zA7 (show(o++⟨#[58,48]⟩:ByteArray).size<=17 by rw[<-Oct.oA,mE.out,aA.UL];omega)
         clear hc he JB qD
         go_wp2_with fail
         refine(HC.out _).mono ?_
         rintro e w3 ⟨rfl,b3⟩
         have R3:=R.stays b3
         have B3:=hb.trans (b3.mono hb.size)
         have s3:=B3.size
         have n3:w.heap.size≠w3.heap.size:=by have:=R3.lt;omega
         have T3:=Row.new w3 30 (fA zA)
         have R5:=(R3.alloc (.cells (fA zA) 30)).aside n3 (fA zA)
         have B5:=below_setRow (B3.alloc s3 (.cells (fA zA) 30)) s3 (fA zA)
         clear R hb b3 R3 B3
         go_wp2_with (refine wpList_store_row rfl 30 _ _ rfl w3.heap.size (fA zA) rfl rfl 30 _ T3 vA rfl (WA _) ?_)
         go_roundw
         case rel=>exact⟨k+1,_,by omega,by go_num,rfl,mE.out,fH.out,IB.out,R5,B5⟩
         case measure=>simp[intOf];omega
       ·have DH:k=8:=by omega
        subst DH
        have HK:Hid (∀j,j<at_+1->aA.Two s.data.toList j->aA.cand (s.data.toList.take j) (s.data.toList.drop (j+2))=none):=zA7 fun j hj h2=>by
         by_cases e:j=at_
         ·subst e
          have:=aA.bM JB.out
          rw[qL.out,sL.out]at this
          exact this
         ·exact HO.out j (by omega) h2
        clear JB
        go_wp2
        go_roundw
        case rel=>exact⟨at_+1,by omega,by go_num,HK.out,R,hb⟩
        case measure=>simp[intOf];omega
     ·rw[zA8 hA0]at eA
      rw[zA8 hB0]at eB
      have hFf:(s.extract 0 at_++⟨#[58]⟩:ByteArray).data.toList=aA.F A:=by unfold aA.F;rw[if_neg hA0];rw[ByteArray.data_append,Array.toList_append,yE]
      have hBb:(⟨#[58]⟩++s.extract (at_+2) s.size:ByteArray).data.toList=aA.H B:=by unfold aA.H;rw[if_neg hB0];rw[ByteArray.data_append,Array.toList_append,zE];rfl
      have hfs:(s.extract 0 at_++⟨#[58]⟩:ByteArray).size<=1048576:=by rw[<-Oct.oA,hFf];unfold aA.F;split<;>simp<;>omega
      have hbs:(⟨#[58]⟩++s.extract (at_+2) s.size:ByteArray).size<=1048576:=by rw[<-Oct.oA,hBb];unfold aA.H;split<;>simp<;>omega
      have sa:(s.extract 0 at_).size=at_:=by rw[<-Oct.oA,yE,hlA]
      have pa: ¬9223372036854775807<(s.extract 0 at_).size+1:=by omega
      clear sa
      have sb:(s.extract (at_+2) s.size).size=s.size- (at_+2):=by rw[<-Oct.oA,zE,hlB]
      have pb: ¬9223372036854775807<1+(s.extract (at_+2) s.size).size:=by omega
      clear sb
      clear yE zE hlA hlB
      go_wp2
      generalize(s.extract 0 at_++⟨#[58]⟩:ByteArray)=f at*
      generalize(⟨#[58]⟩++s.extract (at_+2) s.size:ByteArray)=b at*
      have dH:=zA7 hFf
      have ZG:=zA7 hBb
      clear hFf hBb
      go_loopw [9,10] (fun z i wv=> ∃(k:Nat)(o:ByteArray),k<=8/\i= .int .i64 (k:Int)/\z= .string o/\Hid (o.data.toList=aA.Z k)/\o.size<=17/\Hid (∀j,j<k->aA.e8 (aA.F A++aA.Z j++aA.H B)=none)/\Row wv w.heap.size 30 (fA zA)/\Below w.heap.size w wv) (fun _ i _=>8- (intOf i).toNat)
      case atStart=>exact⟨0,⟨#[48]⟩,Nat.zero_le _,rfl,rfl,rfl,by decide,fun j hj=>absurd hj (by omega),R,hb⟩
      case round=>
       clear R hb
       obtain⟨k,o,hk,rfl,rfl,qD,ho,JB,R,hb⟩:=hrel
       by_cases fQ:k<8
       ·have q1: ¬9223372036854775807<f.size+o.size:=by omega
        have q2: ¬9223372036854775807<f.size+o.size+b.size:=by omega
        have q3: ¬9223372036854775807<o.size+2:=by omega
        have cs:(⟨#[58,48]⟩:ByteArray).size=2:=rfl
        have hsz:(f++o++b:ByteArray).size<=2200000:=by rw[ByteArray.size_append,ByteArray.size_append];omega
        have wE:(f++o++b:ByteArray).data.toList=aA.F A++aA.Z k++aA.H B:=by
         rw[ByteArray.data_append,ByteArray.data_append,Array.toList_append,Array.toList_append,dH.out,ZG.out,qD.out]
        have hc:=fun W=>HE.out (f++o++b) W hsz
        rw[wE]at hc
        clear wE hsz
        cases he:aA.e8 (aA.F A++aA.Z k++aA.H B)with
        |some gs=>
         rw[he]at hc
         have HC:=zA7 hc
         have hv:=HV.out gs (aA.cM he)
         have HN:Hid (SA (aA.addrOf (aA.v6 s.data.toList)) (aA.v6 s.data.toList).isSome=SA (aA.from_ gs) true):=zA7 (by rw[hv];rfl)
         have HG:=zA7 (show(fA (aA.from_ gs)).size=16 by rw[gC,aA.cF,aA.zJ hv])
         have HD:Hid (aA.addrOf (some gs)=aA.from_ gs):=zA7 rfl
         rw[HD.out]at HC
         generalize aA.from_ gs=G at*
         clear hc he HD hv
         go_wp2_with fail
         refine(HC.out _).mono ?_
         rintro e w3 ⟨rfl,b3⟩
         have R3:=R.stays b3
         have B3:=hb.trans (b3.mono hb.size)
         have s3:=B3.size
         have n3:w.heap.size≠w3.heap.size:=by have:=R3.lt;omega
         have T3:=Row.new w3 30 (fA zA)
         have T5:=T3.whole (fA G)
         have R5:=(R3.alloc (.cells (fA zA) 30)).aside n3 (fA G)
         have B5:=below_setRow (B3.alloc s3 (.cells (fA zA) 30)) s3 (fA G)
         clear R hb b3 R3 B3
         go_wp2_with (first
          |(refine jA 67 rfl ?_;refine pA rfl 30 _ rfl w3.heap.size rfl T5 Tryz.underlying30 rfl (by rw[HG.out];exact vA) ?_)
          |(refine wpList_store_row rfl 30 _ _ rfl w3.heap.size (fA G) rfl rfl 30 _ T3 (by rw[HG.out];exact vA) (by rw[HG.out];rfl) (WA _) ?_)
          |(refine wpList_store_row rfl 30 _ _ rfl w.heap.size (fA G) rfl rfl 30 _ R5 (by rw[HG.out];exact vA) (by rw[HG.out];rfl) (WA _) ?_))
         rw[HN.out]
         exact bodyPost_ret (yA rfl _ _ w.heap.size _ _ _ rfl _ rfl (R5.whole _) Tryz.underlying30 rfl (by rw[HG.out];exact vA)) rfl ⟨rfl,below_setRow B5 (zB3 _) _⟩
        |none=>
         rw[he]at hc
         have HC:Hid (∀W,Calls Tryz.prog 165 #[.string (f++o++b)] W (SA zA false W)):=zA7 hc
         have IB:Hid (∀j,j<k+1->aA.e8 (aA.F A++aA.Z j++aA.H B)=none):=zA7 fun j hj=>by
          by_cases e:j=k
          ·rw[e];exact he
          ·exact JB.out j (by omega)
         have mE:=zA7 (show(o++⟨#[58,48]⟩:ByteArray).data.toList=aA.Z (k+1) by rw[ByteArray.data_append,Array.toList_append,qD.out];rfl)
         have fH:=zA7 (show(o++⟨#[58,48]⟩:ByteArray).size<=17 by rw[<-Oct.oA,mE.out,aA.UL];omega)
         clear hc he JB qD
         go_wp2_with fail
         refine(HC.out _).mono ?_
         rintro e w3 ⟨rfl,b3⟩
         have R3:=R.stays b3
         have B3:=hb.trans (b3.mono hb.size)
         have s3:=B3.size
         have n3:w.heap.size≠w3.heap.size:=by have:=R3.lt;omega
         have T3:=Row.new w3 30 (fA zA)
         have R5:=(R3.alloc (.cells (fA zA) 30)).aside n3 (fA zA)
         have B5:=below_setRow (B3.alloc s3 (.cells (fA zA) 30)) s3 (fA zA)
         clear R hb b3 R3 B3
         go_wp2_with (refine wpList_store_row rfl 30 _ _ rfl w3.heap.size (fA zA) rfl rfl 30 _ T3 vA rfl (WA _) ?_)
         go_roundw
         case rel=>exact⟨k+1,_,by omega,by go_num,rfl,mE.out,fH.out,IB.out,R5,B5⟩
         case measure=>simp[intOf];omega
       ·have DH:k=8:=by omega
        subst DH
        have HK:Hid (∀j,j<at_+1->aA.Two s.data.toList j->aA.cand (s.data.toList.take j) (s.data.toList.drop (j+2))=none):=zA7 fun j hj h2=>by
         by_cases e:j=at_
         ·subst e
          have:=aA.bM JB.out
          rw[qL.out,sL.out]at this
          exact this
         ·exact HO.out j (by omega) h2
        clear JB
        go_wp2
        go_roundw
        case rel=>exact⟨at_+1,by omega,by go_num,HK.out,R,hb⟩
        case measure=>simp[intOf];omega
    ·have HK:Hid (∀j,j<at_+1->aA.Two s.data.toList j->aA.cand (s.data.toList.take j) (s.data.toList.drop (j+2))=none):=zA7 fun j hj h2=>by
      by_cases e:j=at_
      ·subst e
       refine absurd ?_ GG
       rw[h2.1]at t0
       rw[h2.2]at t1
       rw[<-zB2 t0,<-zB2 t1]
       exact⟨rfl,rfl⟩
      ·exact HO.out j (by omega) h2
     have hor:((s[at_].toNat:Int) !=58)=true\/(((s[at_].toNat:Int) !=58)=false/\((s[at_+1].toNat:Int) !=58)=true):=by
      by_cases h:(s[at_].toNat:Int)=58
      ·right
       exact⟨by rw[h];rfl,by rw[bne_iff_ne];exact fun k=>GG ⟨h,k⟩⟩
      ·left;rw[bne_iff_ne];exact h
     clear GG t0 t1
     rcases hor with g1|⟨g1,g2⟩
     all_goals
      go_wp2
      go_roundw
      case rel=>exact⟨at_+1,by omega,by go_num,HK.out,R,hb⟩
      case measure=>simp[intOf];omega
   ·have HN:Hid (SA (aA.addrOf (aA.v6 s.data.toList)) (aA.v6 s.data.toList).isSome=SA zA false):=zA7 (by
     rw[aA.mAb I8.out fun j h2=>HO.out j (by have:=(List.getElem?_eq_some_iff.1 h2.2).1;rw[Oct.oA]at this;omega) h2];rfl)
    go_wp2_with (refine wpList_store_row rfl 30 _ _ rfl w.heap.size (fA zA) rfl rfl 30 _ R vA rfl (WA _) ?_)
    rw[HN.out]
    exact bodyPost_ret (yA rfl _ _ w.heap.size _ _ _ rfl _ rfl (R.whole _) Tryz.underlying30 rfl vA) rfl ⟨rfl,below_setRow hb (zB3 _) _⟩
end Go.Proofs.YtdaaoopkkhfbhaaGreatDoor
namespace Go.Proofs.YtdaaoopkkhfbhaaGreatDoor
open Go.RowKit
theorem jAh(s:ByteArray)(w:World)(hs:s.size<=1099511627776):
  Calls Tryz.prog 114 #[.string s] w fun e w'=>e= .returned (.bool (bA.PC s.data.toList))/\w=w':=by
 have HL:=zA7 (Oct.oA s)
 go_enter Tryz.func114,Tryz.ntmps114
 go_wp2
 go_loop [3,4] (fun i _=> ∃k:Nat,k<=s.size/\i= .int .i64 k/\(s.data.toList.take k).all bA.bI=true) (fun i _=>s.size- (intOf i).toNat)
 case atStart=>exact⟨0,Nat.zero_le _,rfl,by simp⟩
 case round=>
  obtain⟨k,hk,rfl,hall⟩:=hrel
  have HA:=zA7 hall
  clear hall
  by_cases hlt:k<s.size
  ·have hc:s[k].toNat<256:=s[k].toNat_lt
   cases hq:bA.bI s[k]with
   |true=>
    have hq2:=hq
    unfold bA.bI at hq2
    have hq3:=zB1 hq2
    have HS:=zA7 (Oct.pH s k hlt HA.out hq)
    clear hq hq2
    rcases hq3 with h|h|h|h
    ·have h1: ¬(s[k].toNat:Int)<97:=by omega
     have h2: ¬(122:Int)<(s[k].toNat:Int):=by omega
     clear h
     go_wp2
     go_round
     case rel=>exact⟨k+1,by omega,by go_num,HS.out⟩
     case measure=>simp[intOf];omega
    ·have h1:(s[k].toNat:Int)<97:=by omega
     have h2: ¬(s[k].toNat:Int)<48:=by omega
     have h3: ¬(57:Int)<(s[k].toNat:Int):=by omega
     clear h
     go_wp2
     go_round
     case rel=>exact⟨k+1,by omega,by go_num,HS.out⟩
     case measure=>simp[intOf];omega
    ·have h1:(s[k].toNat:Int)<97:=by omega
     have h2:(s[k].toNat:Int)<48:=by omega
     have h3:(s[k].toNat:Int)=45:=by omega
     clear h
     go_wp2
     go_round
     case rel=>exact⟨k+1,by omega,by go_num,HS.out⟩
     case measure=>simp[intOf];omega
    ·have h1:(s[k].toNat:Int)<97:=by omega
     have h2: ¬(s[k].toNat:Int)<48:=by omega
     have h3:(57:Int)<(s[k].toNat:Int):=by omega
     have h4:(s[k].toNat:Int)=95:=by omega
     clear h
     go_wp2
     go_round
     case rel=>exact⟨k+1,by omega,by go_num,HS.out⟩
     case measure=>simp[intOf];omega
   |false=>
    have hq2:=hq
    unfold bA.bI at hq2
    have hq3:=of_decide_eq_false hq2
    have HS:=zA7 (Oct.VL s k hlt hq)
    clear hq hq2
    have h5:((s[k].toNat:Int) !=45)=true:=bne_iff_ne.2 (by omega)
    have h6:((s[k].toNat:Int) !=95)=true:=bne_iff_ne.2 (by omega)
    have hcase:((s[k].toNat:Int)<97/\(s[k].toNat:Int)<48)\/((s[k].toNat:Int)<97/\ ¬(s[k].toNat:Int)<48/\(57:Int)<(s[k].toNat:Int))\/(¬(s[k].toNat:Int)<97/\(122:Int)<(s[k].toNat:Int)/\ ¬(s[k].toNat:Int)<48/\(57:Int)<(s[k].toNat:Int)):=by omega
    clear hq3
    rcases hcase with⟨h1,h2⟩|⟨h1,h2,h3⟩|⟨h1,h2,h3,h4⟩
    all_goals
     go_wp2
     go_ret
     exact⟨tA (by unfold bA.PC;rw[HS.out];simp),rfl⟩
  ·by_cases h1:(1:Int)<=(s.size:Int)
   ·go_wp2
    go_ret
    exact⟨tA (by unfold bA.PC;rw[<-Oct.oD s k (by omega),HA.out,Oct.oD s k (by omega),HL.out,Bool.and_true,decide_eq_decide];omega),rfl⟩
   ·go_wp2
    go_ret
    exact⟨tA (by unfold bA.PC;rw[HL.out,zA8 (show ¬(1<=s.size/\s.size<=63) by omega)];rfl),rfl⟩
namespace bA
theorem eAw {s:ByteArray}(hp:s.size-1<s.size)(h:s.data.toList.head?=some 91):(s[s.size-1]=93)↔s.data.toList.tail.getLast?=some 93:=by
 have hl:=Oct.gA3 s hp
 generalize s[s.size-1]=c at*
 generalize s.data.toList=l at*
 cases l with
 |nil=>cases h
 |cons d r=>
  simp at h
  subst h
  cases r with
  |nil=>
   simp at hl
   subst hl
   simp
  |cons e r=>
   rw[List.getLast?_cons_cons]at hl
   show _↔ (e::r).getLast?=some 93
   rw[hl]
   exact⟨fun k=>by rw[k],fun k=>zB2 k⟩
theorem fAC(s:ByteArray):(s.extract 1 (s.size-1)).data.toList=s.data.toList.tail.dropLast:=by
 rw[Lib.extract_eq,List.dropLast_eq_take,<-List.drop_one]
 show((s.data.toList.drop 1).take (s.size-1-1))=_
 rw[List.length_drop,Oct.oA]
end bA
end Go.Proofs.YtdaaoopkkhfbhaaGreatDoor
namespace Go.Proofs.YtdaaoopkkhfbhaaGreatDoor
open Go.RowKit
namespace bA
theorem mA7(l:List UInt8):yD l=if(aA.v4 l).isSome=true then some ⟨2,[],aA.WC (aA.v4 l)⟩else none:=WN l
theorem mAc {l:List UInt8}(h:l.getLast?=some 93):jD l=if(aA.v6 l.dropLast).isSome=true then some ⟨3,[],aA.addrOf (aA.v6 l.dropLast)⟩else none:=by
 unfold jD
 rw[if_pos h]
 cases aA.v6 l.dropLast<;>rfl
end bA
theorem jAn(s:ByteArray)(w:World)(hs:s.size<=1048576):
  Calls Tryz.prog 64 #[.string s] w (aC (bA.parse s.data.toList) w):=by
 rw[<-bA.jAo]
 have z0:=WD
 have z1:=wG
 have HZ0:=zA7 (show(cA bA.zero).size=18 from rfl)
 have hl:=Oct.oA s
 by_cases hhead:s.data.toList.head?=some 91
 ·have hpos:0<s.size:=by
   rcases Nat.eq_zero_or_pos s.size with h|h
   ·rw[(Oct.lD s).2 h]at hhead;cases hhead
   ·exact h
  have hp:s.size-1<s.size:=by omega
  have h0:((s[0].toNat:Int)==91)=true:=by
   have:=Oct.NF s hpos
   rw[hhead]at this
   rw[<-zB2 this];rfl
  have h0i:(s[0].toNat:Int)=91:=by simpa using h0
  have rW:(0:Int)<(s.size:Int):=by omega
  have hz:((s.size:Int)-1).toNat=s.size-1:=by omega
  have hiff:=bA.eAw hp hhead
  by_cases hc:s[s.size-1]=93
  ·have hc1:(s[s.size-1].toNat:Int)=93:=by rw[hc];rfl
   have hc2:((s[s.size-1].toNat:Int) !=93)=false:=by rw[hc];rfl
   have h2:2<=s.size:=by
    rcases Nat.lt_or_ge s.size 2 with h|h
    ·have:s.size-1=0:=by omega
     simp only[this]at hc1
     omega
    ·exact h
   have hlast:=hiff.1 hc
   have HN:Hid (bA.SG s.data.toList=if(aA.v6 s.data.toList.tail.dropLast).isSome=true then some ⟨3,[],aA.addrOf (aA.v6 s.data.toList.tail.dropLast)⟩else none):=
    zA7 (by unfold bA.SG;rw[if_pos hhead,bA.mAc hlast])
   have H1: ∀W,Calls Tryz.prog 110 #[.string (s.extract 1 (s.size-1))] W (SA (aA.addrOf (aA.v6 s.data.toList.tail.dropLast)) (aA.v6 s.data.toList.tail.dropLast).isSome W):=fun W=>by
    have hb:=bA.fAC s
    have hz:(s.extract 1 (s.size-1)).size<=1048576:=by
     have e:=congrArg List.length hb
     rw[Oct.oA,List.length_dropLast,List.length_tail,hl]at e
     omega
    have:=jAs (s.extract 1 (s.size-1)) W hz
    rw[hb]at this
    exact this
   have H1:=zA7 H1
   have ha:(aA.addrOf (aA.v6 s.data.toList.tail.dropLast)).length=16:=aA.XO _
   rw[HN.out]
   clear HN hhead hiff hlast hc hl
   generalize aA.addrOf (aA.v6 s.data.toList.tail.dropLast)=a at*
   generalize(aA.v6 s.data.toList.tail.dropLast).isSome=ok at*
   have sD:=zA7 (show(fA a).size=16 by rw[gC,ha])
   have HH:=zA7 (XA ⟨3,[],a⟩ ha)
   have HB:=zA7 (ZL 3 a ha)
   have HF:Hid (ok=false-> ∀w',Below w.heap.size w w'->aC (if ok=true then some ⟨3,[],a⟩else none) w (.returned (.tuple #[.agg (cA bA.zero),.int .i64 31])) w'):=zA7 (fun h w' hb=>by subst h;exact bE rfl rfl hb)
   have wF:Hid (ok=true-> ∀w',Below w.heap.size w w'->aC (if ok=true then some ⟨3,[],a⟩else none) w (.returned (.tuple #[.agg (cA ⟨3,[],a⟩),.int .i64 0])) w'):=zA7 (fun h w' hb=>by subst h;exact bE rfl rfl hb)
   generalize aC (if ok=true then some ⟨3,[],a⟩else none) w=post at*
   clear ha
   go_enter Tryz.func64,Tryz.ntmps64
   go_wp2_with fail
   have R0:=Row.new w 32 (cA bA.zero)
   have B0:=(Below.refl w.heap.size w).alloc (zB3 _) (.cells (cA bA.zero) 32)
   generalize w.alloc (.cells (cA bA.zero) 32)=w0 at*
   refine(H1.out _).mono ?_
   rintro e v2 ⟨rfl,d2⟩
   have R1:=R0.stays d2
   have B1:=B0.trans (d2.mono B0.size)
   obtain⟨T,U,C,L⟩:=PA 30 (fA zA) (fA a) B1 B1.size
   have R2:=L _ _ _ R1
   clear L R0 R1 B0 B1 d2
   cases ok
   all_goals
    go_wp2_with (first
     |(refine wpList_store_row rfl 30 _ _ rfl v2.heap.size (fA a) rfl rfl 30 _ T (by rw[sD.out];exact vA) (by rw[sD.out];rfl) (WA _) ?_)
     |(refine jA 39 rfl ?_;refine pA rfl 30 _ rfl v2.heap.size rfl U Tryz.underlying30 rfl (by rw[sD.out];exact vA) ?_)
     |(refine jA 40 rfl ?_;refine YD rfl 32 0 2 _ _ rfl _ _ rfl rfl (cA ⟨3,[],a⟩) HB.out ?_)
     |(refine wpList_store_row rfl 32 _ _ rfl w.heap.size (cA bA.zero) rfl rfl 32 _ R2 (by rw[HZ0.out];exact mA) rfl (bB _) ?_)
     |(refine wpList_store_row rfl 32 _ _ rfl w.heap.size (cA ⟨3,[],a⟩) rfl rfl 32 _ R2 (by rw[HH.out];exact mA) (by rw[HH.out];rfl) (bB _) ?_))
    first
     |exact bodyPost_ret (v:= .tuple #[.agg (cA bA.zero),.int .i64 31]) (yA rfl _ _ w.heap.size _ _ _ rfl _ rfl (R2.whole _) Tryz.underlying32 rfl (by rw[HZ0.out];exact mA)) rfl (HF.out (by trivial) _ (below_setRow C (zB3 _) _))
     |exact bodyPost_ret (v:= .tuple #[.agg (cA ⟨3,[],a⟩),.int .i64 0]) (yA rfl _ _ w.heap.size _ _ _ rfl _ rfl (R2.whole _) Tryz.underlying32 rfl (by rw[HH.out];exact mA)) rfl (wF.out (by trivial) _ (below_setRow C (zB3 _) _))
  ·have hc2:((s[s.size-1].toNat:Int) !=93)=true:=bne_iff_ne.2 (fun k=>hc (Oct.TB (by show _=93;omega)))
   have hc1: ¬(s[s.size-1].toNat:Int)=93:=fun k=>hc (Oct.TB (by show _=93;omega))
   have HN:Hid (bA.SG s.data.toList=none):=zA7 (by unfold bA.SG bA.jD;rw[if_pos hhead,if_neg (fun k=>hc (hiff.2 k))])
   rw[HN.out]
   clear HN hiff hhead hc hl
   have R0:=Row.new w 32 (cA bA.zero)
   have B0:=(Below.refl w.heap.size w).alloc (zB3 _) (.cells (cA bA.zero) 32)
   go_enter Tryz.func64,Tryz.ntmps64
   go_wp2_with (refine wpList_store_row rfl 32 _ _ rfl w.heap.size (cA bA.zero) rfl rfl 32 _ R0 (by rw[HZ0.out];exact mA) rfl (bB _) ?_)
   exact bodyPost_ret (v:= .tuple #[.agg (cA bA.zero),.int .i64 31]) (yA rfl _ _ w.heap.size _ _ _ rfl _ rfl (R0.whole _) Tryz.underlying32 rfl (by rw[HZ0.out];exact mA)) rfl (bE rfl rfl (below_setRow B0 (zB3 _) _))
 have H1:=zA7 (fun W=>WY s W (by omega))
 obtain⟨u,hu⟩: ∃u:ByteArray,u=⟨(s.data.toList.map Oct.low).toArray⟩:=⟨_,rfl⟩
 have AB:u.data.toList=s.data.toList.map Oct.low:=by rw[hu]
 have RI:u.size=s.size:=by rw[<-Oct.oA,AB,List.length_map,hl]
 unfold VC at H1
 rw[<-hu]at H1
 clear hu
 have hlen:=Oct.eI 46 u.data.toList
 have hpos:=Oct.aG 46 u.data.toList
 have hsm:=Oct.fI 46 u.data.toList
 rw[Oct.oA,RI]at hlen hsm
 have H3: ∀W,Calls Tryz.prog 111 #[.string u,.int .u8 46] W (AI W.heap.size (Oct.split 46 u.data.toList) W):=fun W=>(dR u 46 W (by omega)).mono fun _ _ h=>h.at_ (Oct.aG _ _)
 have H3:=zA7 H3
 obtain⟨p,hp⟩: ∃p,(Oct.split 46 u.data.toList)[(Oct.split 46 u.data.toList).length-1]? =some p:=⟨_,List.getElem?_eq_getElem (by omega)⟩
 have BK:bA.last u.data.toList=p:=by unfold bA.last;rw[hp];rfl
 have hps:p.length<=s.size:=hsm p (List.mem_of_getElem? hp)
 have HP:=zA7 hp
 have HN:Hid (bA.SG s.data.toList=if Oct.digits p=true then bA.yD s.data.toList else if(Oct.split 46 u.data.toList).all bA.PC=true/\s.size<=253 then some ⟨1,u.data.toList,bA.IA⟩else none):=
  zA7 (by unfold bA.SG;rw[if_neg hhead,<-AB,BK,hl])
 have hstart:(0<s.size/\ ∃h:0<s.size,((s[0].toNat:Int)==91)=false)\/s.size=0:=by
  rcases Nat.eq_zero_or_pos s.size with h|h
  ·exact .inr h
  ·refine .inl ⟨h,h,?_⟩
   have:=Oct.NF s h
   rw[beq_eq_false_iff_ne]
   intro e
   apply hhead
   rw[this]
   exact congrArg some (Oct.TB (by show _=91;omega))
 obtain⟨t,ht⟩: ∃t:ByteArray,t=⟨p.toArray⟩:=⟨_,rfl⟩
 have hts:t.size<=s.size:=by rw[ht];show(List.toArray _).size<=_;simp;omega
 have H4: ∀W,Calls Tryz.prog 112 #[.string t] W fun e w'=>e= .returned (.bool (Oct.digits p))/\W=w':=fun W=>by
  have:=WK t W (by unfold maxLen;omega)
  have e:t.data.toList=p:=by rw[ht]
  rw[e]at this
  exact this
 have H4:=zA7 H4
 have HT:=zA7 ht
 have H5:=zA7 (fun W=>jAr s W (by omega))
 have HV:=zA7 (bA.mA7 s.data.toList)
 have ha:=bA.WO s.data.toList
 rw[HN.out]
 have HB:=zA7 (fP 1 u)
 have UC:=zA7 hsm
 clear HN hp BK hhead hl AB ht hsm
 generalize Oct.split 46 u.data.toList=ps at*
 generalize u.data.toList=ul at*
 have hz:((ps.length:Int)-1).toNat=ps.length-1:=by omega
 have vB:=zA7 (XA ⟨1,ul,bA.IA⟩ rfl)
 cases hd:Oct.digits p with
 |true=>
  rw[hd]at H4
  rw[if_pos rfl,HV.out]
  generalize aA.WC (aA.v4 s.data.toList)=a at*
  generalize(aA.v4 s.data.toList).isSome=ok at*
  have sD:=zA7 (show(fA a).size=16 by rw[gC,ha])
  have HH:=zA7 (XA ⟨2,[],a⟩ ha)
  have HB2:=zA7 (ZL 2 a ha)
  have HF:Hid (ok=false-> ∀w',Below w.heap.size w w'->aC (if ok=true then some ⟨2,[],a⟩else none) w (.returned (.tuple #[.agg (cA bA.zero),.int .i64 31])) w'):=zA7 (fun h w' hb=>by subst h;exact bE rfl rfl hb)
  have wF:Hid (ok=true-> ∀w',Below w.heap.size w w'->aC (if ok=true then some ⟨2,[],a⟩else none) w (.returned (.tuple #[.agg (cA ⟨2,[],a⟩),.int .i64 0])) w'):=zA7 (fun h w' hb=>by subst h;exact bE rfl rfl hb)
  generalize aC (if ok=true then some ⟨2,[],a⟩else none) w=post at*
  clear ha hd HV HB vB
  rcases hstart with⟨hs0,hs1,hs2⟩|hs0
  all_goals
   go_enter Tryz.func64,Tryz.ntmps64
   go_wp2_with fail
   have R0:=Row.new w 32 (cA bA.zero)
   have B0:=(Below.refl w.heap.size w).alloc (zB3 _) (.cells (cA bA.zero) 32)
   generalize w.alloc (.cells (cA bA.zero) 32)=w0 at*
   refine(H1.out _).mono ?_
   rintro e v1 ⟨rfl,d1⟩
   have R1:=R0.stays d1
   have B1:=B0.trans (d1.mono B0.size)
   go_wp2_with fail
   refine(H3.out _).mono ?_
   rintro e v2 ⟨g,cap,rfl,hown,d2⟩
   have R2:=R1.stays d2
   have B2:=B1.trans (d2.mono B1.size)
   have hcell:=WH (k:=ps.length-1) hown HP.out HT.out
   have hcap:=jJ hown
   clear hown d2 R0 B0 d1 R1 B1
   go_wp2_with fail
   refine(H4.out _).mono ?_
   rintro e v3 ⟨rfl,rfl⟩
   go_wp2_with fail
   refine(H5.out _).mono ?_
   rintro e v4 ⟨rfl,d4⟩
   have R3:=R2.stays d4
   have B3:=B2.trans (d4.mono B2.size)
   obtain⟨T,U,C,L⟩:=PA 30 (fA zA) (fA a) B3 B3.size
   have R4:=L _ _ _ R3
   clear L R2 B2 R3 B3 d4 hcell
   cases ok
   all_goals
    go_wp2_with (first
     |(refine wpList_store_row rfl 30 _ _ rfl v4.heap.size (fA a) rfl rfl 30 _ T (by rw[sD.out];exact vA) (by rw[sD.out];rfl) (WA _) ?_)
     |(refine jA 60 rfl ?_;refine pA rfl 30 _ rfl v4.heap.size rfl U Tryz.underlying30 rfl (by rw[sD.out];exact vA) ?_)
     |(refine jA 61 rfl ?_;refine YD rfl 32 0 2 _ _ rfl _ _ rfl rfl (cA ⟨2,[],a⟩) HB2.out ?_)
     |(refine wpList_store_row rfl 32 _ _ rfl w.heap.size (cA bA.zero) rfl rfl 32 _ R4 (by rw[HZ0.out];exact mA) rfl (bB _) ?_)
     |(refine wpList_store_row rfl 32 _ _ rfl w.heap.size (cA ⟨2,[],a⟩) rfl rfl 32 _ R4 (by rw[HH.out];exact mA) (by rw[HH.out];rfl) (bB _) ?_))
    first
     |exact bodyPost_ret (v:= .tuple #[.agg (cA bA.zero),.int .i64 31]) (yA rfl _ _ w.heap.size _ _ _ rfl _ rfl (R4.whole _) Tryz.underlying32 rfl (by rw[HZ0.out];exact mA)) rfl (HF.out (by trivial) _ (below_setRow C (zB3 _) _))
     |exact bodyPost_ret (v:= .tuple #[.agg (cA ⟨2,[],a⟩),.int .i64 0]) (yA rfl _ _ w.heap.size _ _ _ rfl _ rfl (R4.whole _) Tryz.underlying32 rfl (by rw[HH.out];exact mA)) rfl (wF.out (by trivial) _ (below_setRow C (zB3 _) _))
 |false=>
  rw[hd]at H4
  rw[if_neg (by simp)]
  clear ha hd HV H5
  have HF:Hid ((ps.all bA.PC=false\/ ¬s.size<=253)-> ∀w',Below w.heap.size w w'->aC (if ps.all bA.PC=true/\s.size<=253 then some ⟨1,ul,bA.IA⟩else none) w (.returned (.tuple #[.agg (cA bA.zero),.int .i64 31])) w'):=zA7 (fun h w' hb=>by
   rw[if_neg (by rintro⟨a,b⟩;rcases h with h|h;·rw[h]at a;cases a
                 ·exact h b)]
   exact bE rfl rfl hb)
  have wF:Hid (ps.all bA.PC=true->s.size<=253-> ∀w',Below w.heap.size w w'->aC (if ps.all bA.PC=true/\s.size<=253 then some ⟨1,ul,bA.IA⟩else none) w (.returned (.tuple #[.agg (cA ⟨1,ul,bA.IA⟩),.int .i64 0])) w'):=zA7 (fun h k w' hb=>by rw[if_pos ⟨h,k⟩];exact bE rfl rfl hb)
  generalize aC (if ps.all bA.PC=true/\s.size<=253 then some ⟨1,ul,bA.IA⟩else none) w=post at*
  rcases hstart with⟨hs0,hs1,hs2⟩|hs0
  all_goals
   go_enter Tryz.func64,Tryz.ntmps64
   go_wp2_with fail
   have R0:=Row.new w 32 (cA bA.zero)
   have B0:=(Below.refl w.heap.size w).alloc (zB3 _) (.cells (cA bA.zero) 32)
   generalize w.alloc (.cells (cA bA.zero) 32)=w0 at*
   refine(H1.out _).mono ?_
   rintro e v1 ⟨rfl,d1⟩
   have R1:=R0.stays d1
   have B1:=B0.trans (d1.mono B0.size)
   go_wp2_with fail
   refine(H3.out _).mono ?_
   rintro e v2 ⟨g,cap,rfl,hown,d2⟩
   have R2:=R1.stays d2
   have B2:=B1.trans (d2.mono B1.size)
   have hcell:=WH (k:=ps.length-1) hown HP.out HT.out
   have hcap:=jJ hown
   have HOWN:=zA7 hown
   clear hown d2 R0 B0 d1 R1 B1
   go_wp2_with fail
   refine(H4.out _).mono ?_
   rintro e v3 ⟨rfl,rfl⟩
   clear hcell
   go_wp2
   go_loop [11,64] (fun _ i=> ∃k:Nat,k<=ps.length/\i= .int .i64 k/\(∀q∈ps.take k,bA.PC q=true)) (fun _ i=>ps.length- (intOf i).toNat)
   case atStart=>exact⟨0,Nat.zero_le _,rfl,by simp⟩
   case round=>
    obtain⟨k,hk,rfl,hall⟩:=hrel
    have HA:=zA7 hall
    clear hall
    by_cases hlt:k<ps.length
    ·obtain⟨q,sq,hq,hcell,bW,_,hsz⟩:=kJ HOWN.out hlt
     have hqs:=UC.out q (List.mem_of_getElem? hq)
     have HQ:=zA7 hq
     have hlab:=fun W=>jAh sq W (by omega)
     rw[bW]at hlab
     have yL:=zA7 hlab
     clear hq bW hlab
     cases hr:bA.PC q with
     |true=>
      rw[hr]at yL
      go_wp2_with (go_at_call 114;refine(yL.out _).mono ?_;rintro e w' ⟨rfl,rfl⟩)
      go_round
      case rel=>exact⟨k+1,by omega,by go_num,Oct.qJ HA.out HQ.out hr⟩
      case measure=>simp[intOf];omega
     |false=>
      rw[hr]at yL
      have hno:ps.all bA.PC=false:=by rw[List.all_eq_false];exact⟨q,List.mem_of_getElem? HQ.out,by rw[hr];simp⟩
      have JB:=zA7 hno
      clear hno
      go_wp2_with (first
       |(go_at_call 114;refine(yL.out _).mono ?_;rintro e w' ⟨rfl,rfl⟩)
       |(refine wpList_store_row rfl 32 _ _ rfl w.heap.size (cA bA.zero) rfl rfl 32 _ R2 (by rw[HZ0.out];exact mA) rfl (bB _) ?_))
      exact bodyPost_ret (v:= .tuple #[.agg (cA bA.zero),.int .i64 31]) (yA rfl _ _ w.heap.size _ _ _ rfl _ rfl (R2.whole _) Tryz.underlying32 rfl (by rw[HZ0.out];exact mA)) rfl (HF.out (.inl JB.out) _ (below_setRow B2 (zB3 _) _))
    ·have hyes:ps.all bA.PC=true:=by
      rw[List.all_eq_true]
      have:=HA.out
      rw[List.take_of_length_le (by omega)]at this
      exact this
     have aA8:=zA7 hyes
     clear hyes
     by_cases hbig:s.size<=253
     ·have ZP: ¬(253:Int)<(s.size:Int):=by omega
      go_wp2_with (first
       |(refine jA 78 rfl ?_;refine YD rfl 32 0 1 _ _ rfl _ _ rfl rfl (cA ⟨1,ul,bA.IA⟩) HB.out ?_)
       |(refine wpList_store_row rfl 32 _ _ rfl w.heap.size (cA ⟨1,ul,bA.IA⟩) rfl rfl 32 _ R2 (by rw[vB.out];exact mA) rfl (bB _) ?_))
      exact bodyPost_ret (v:= .tuple #[.agg (cA ⟨1,ul,bA.IA⟩),.int .i64 0]) (yA rfl _ _ w.heap.size _ _ _ rfl _ rfl (R2.whole _) Tryz.underlying32 rfl (by rw[vB.out];exact mA)) rfl (wF.out aA8.out hbig _ (below_setRow B2 (zB3 _) _))
     ·first
      |(exfalso;omega)
      |(have ZP:(253:Int)<(s.size:Int):=by omega
        go_wp2_with (first
         |(refine wpList_store_row rfl 32 _ _ rfl w.heap.size (cA bA.zero) rfl rfl 32 _ R2 (by rw[HZ0.out];exact mA) rfl (bB _) ?_))
        exact bodyPost_ret (v:= .tuple #[.agg (cA bA.zero),.int .i64 31]) (yA rfl _ _ w.heap.size _ _ _ rfl _ rfl (R2.whole _) Tryz.underlying32 rfl (by rw[HZ0.out];exact mA)) rfl (HF.out (.inr hbig) _ (below_setRow B2 (zB3 _) _)))
end Go.Proofs.YtdaaoopkkhfbhaaGreatDoor
namespace Go.Proofs.YtdaaoopkkhfbhaaGreatDoor
open Go.RowKit
end Go.Proofs.YtdaaoopkkhfbhaaGreatDoor
namespace Go.Proofs.YtdaaoopkkhfbhaaGreatDoor
open Go.RowKit
end Go.Proofs.YtdaaoopkkhfbhaaGreatDoor
namespace Go.Proofs.YtdaaoopkkhfbhaaGreatDoor
open Go.RowKit
theorem DX(h d:bA.Host)(ha:h.addr.length=16)(hda:d.addr.length=16)(hs:h.name.length<=1048000)(w:World)(hw:Std w):
  Calls Tryz.prog 103 #[.agg (cA h),.agg (cA d)] w fun e w'=>e= .returned (.bool (decide (h=d)&&bA.can h))/\Below w.heap.size w w':=by
 have HH:=zA7 (XA h ha)
 have HD:=zA7 (XA d hda)
 have H1:=zA7 (fun W hW=>jR h ha hs W hW)
 have q:=lM h d ha hda
 generalize decide (h=d)=b at*
 generalize bA.can h=k at*
 generalize cA h=H at*
 generalize cA d=D at*
 have R0:=Row.new w 32 H
 have B0:=(Below.refl w.heap.size w).alloc (zB3 _) (.cells H 32)
 have hN:(w.alloc (.cells H 32)).heap.size=w.heap.size+1:=by simp
 have S0:=Row.new (w.alloc (.cells H 32)) 32 D
 rw[hN]at S0
 have R1:=R0.alloc (.cells D 32)
 have C0:=B0.alloc B0.size (.cells D 32)
 clear hN R0 B0 ha hda hs
 cases b
 ·go_enter Tryz.func103,Tryz.ntmps103
  go_wp2_with (first
   |(refine jA 5 rfl ?_;refine pA rfl 32 _ rfl w.heap.size rfl R1 Tryz.underlying32 rfl (by rw[HH.out];exact mA) ?_)
   |(refine jA 6 rfl ?_;refine pA rfl 32 _ rfl (w.heap.size+1) rfl S0 Tryz.underlying32 rfl (by rw[HD.out];exact mA) ?_))
  go_ret
  exact⟨rfl,C0⟩
 ·go_enter Tryz.func103,Tryz.ntmps103
  go_wp2_with (first
   |(refine jA 5 rfl ?_;refine pA rfl 32 _ rfl w.heap.size rfl R1 Tryz.underlying32 rfl (by rw[HH.out];exact mA) ?_)
   |(refine jA 6 rfl ?_;refine pA rfl 32 _ rfl (w.heap.size+1) rfl S0 Tryz.underlying32 rfl (by rw[HD.out];exact mA) ?_)
   |(refine jA 9 rfl ?_;refine pA rfl 32 _ rfl w.heap.size rfl R1 Tryz.underlying32 rfl (by rw[HH.out];exact mA) ?_)
   |(go_at_call 87;refine(H1.out _ (hw.below C0)).mono ?_;rintro e v1 ⟨rfl,d1⟩))
  go_ret
  exact⟨rfl,C0.trans (d1.mono C0.size)⟩
theorem dN(h d:bA.Host)(ha:h.addr.length=16)(hda:d.addr.length=16)(hs:h.name.length<=1048000)(hds:d.name.length<=1048000)(w:World)(hw:Std w):
  Calls Tryz.prog 54 #[.agg (cA h),.agg (cA d)] w fun e w'=>e= .returned (.bool (Ma.domain h d))/\Below w.heap.size w w':=by
 have HH:=zA7 (XA h ha)
 have HD:=zA7 (XA d hda)
 have H1:=zA7 (fun W hW=>DX h d ha hda hs W hW)
 have H2:=zA7 (fun W hW=>lAN h d ha hda (by omega) (by omega) W hW)
 have HR:=zA7 (Ma.cAx h d)
 generalize Ma.domain h d=g at*
 generalize(decide (h=d)&&bA.can h)=b at*
 generalize bA.under h d=u at*
 generalize cA h=H at*
 generalize cA d=D at*
 have R0:=Row.new w 32 H
 have B0:=(Below.refl w.heap.size w).alloc (zB3 _) (.cells H 32)
 have hN:(w.alloc (.cells H 32)).heap.size=w.heap.size+1:=by simp
 have S0:=Row.new (w.alloc (.cells H 32)) 32 D
 rw[hN]at S0
 have R1:=R0.alloc (.cells D 32)
 have C0:=B0.alloc B0.size (.cells D 32)
 clear hN R0 B0 ha hda hs hds
 go_enter Tryz.func54,Tryz.ntmps54
 go_wp2_with (first
  |(refine jA 5 rfl ?_;refine pA rfl 32 _ rfl w.heap.size rfl R1 Tryz.underlying32 rfl (by rw[HH.out];exact mA) ?_)
  |(refine jA 6 rfl ?_;refine pA rfl 32 _ rfl (w.heap.size+1) rfl S0 Tryz.underlying32 rfl (by rw[HD.out];exact mA) ?_))
 generalize(w.alloc (.cells H 32)).alloc (.cells D 32)=x0 at*
 refine(H1.out _ (hw.below C0)).mono ?_
 rintro e v1 ⟨rfl,d1⟩
 have C1:=C0.trans (d1.mono C0.size)
 have R2:=R1.stays d1
 have S2:=S0.stays d1
 clear R1 S0 C0 d1 H1
 cases b
 ·have HR2:Hid (g=u):=zA7 (by rw[HR.out,Bool.false_or])
  go_wp2_with (first
   |(refine jA 9 rfl ?_;refine pA rfl 32 _ rfl w.heap.size rfl R2 Tryz.underlying32 rfl (by rw[HH.out];exact mA) ?_)
   |(refine jA 10 rfl ?_;refine pA rfl 32 _ rfl (w.heap.size+1) rfl S2 Tryz.underlying32 rfl (by rw[HD.out];exact mA) ?_)
   |(go_at_call 104;refine(H2.out _ (hw.below C1)).mono ?_;rintro e v2 ⟨rfl,d2⟩))
  go_ret
  exact⟨tA HR2.out.symm,C1.trans (d2.mono C1.size)⟩
 ·have HR2:Hid (g=true):=zA7 (by rw[HR.out,Bool.true_or])
  go_wp2
  go_ret
  exact⟨tA HR2.out.symm,C1⟩
theorem dAT(c:Ma.iA)(h:bA.Host)(hca:c.host.addr.length=16)(ha:h.addr.length=16)(hcs:c.host.name.length<=1048000)(hs:h.name.length<=1048000)(w:World)(hw:Std w):
  Calls Tryz.prog 130 #[.agg (dA c),.agg (cA h)] w fun e w'=>e= .returned (.bool (Ma.NI c h))/\Below w.heap.size w w':=by
 have HC:=zA7 (TA c hca)
 have HX:=zA7 (pK c hca)
 have HH:=zA7 (XA h ha)
 have H1:=zA7 (fun W hW=>DX h c.host ha hca hs W hW)
 have H2:=zA7 (fun W hW=>dN h c.host ha hca hs hcs W hW)
 have k0:=eU c hca
 have HR:Hid (Ma.NI c h=if c.only=true then decide (h=c.host)&&bA.can h else Ma.domain h c.host):=zA7 rfl
 generalize Ma.NI c h=g at*
 generalize(decide (h=c.host)&&bA.can h)=b at*
 generalize Ma.domain h c.host=u at*
 generalize c.only=oc at*
 generalize cA c.host=X at*
 generalize cA h=H at*
 clear hca ha hcs hs
 generalize dA c=U at*
 have R0:=Row.new w 64 U
 have B0:=(Below.refl w.heap.size w).alloc (zB3 _) (.cells U 64)
 have hN:(w.alloc (.cells U 64)).heap.size=w.heap.size+1:=by simp
 have S0:=Row.new (w.alloc (.cells U 64)) 32 H
 rw[hN]at S0
 have R1:=R0.alloc (.cells H 32)
 have C0:=B0.alloc B0.size (.cells H 32)
 have c0:=(R1.cell 20).trans k0
 clear hN R0 B0 k0
 cases oc
 ·have HR2:Hid (g=u):=zA7 (by rw[HR.out,if_neg (by decide)])
  clear HR
  go_enter Tryz.func130,Tryz.ntmps130
  go_wp2_with (first
   |(refine jA 11 rfl ?_;refine pA rfl 32 _ rfl (w.heap.size+1) rfl S0 Tryz.underlying32 rfl (by rw[HH.out];exact mA) ?_)
   |(refine jA 13 rfl ?_;refine eD rfl 32 _ rfl w.heap.size 2 18 rfl R1 Tryz.underlying32 rfl mA (by rw[HC.out];decide) X HX.out ?_)
   |(go_at_call 54;refine(H2.out _ (hw.below C0)).mono ?_;rintro e v2 ⟨rfl,d2⟩))
  go_ret
  exact⟨tA HR2.out.symm,C0.trans (d2.mono C0.size)⟩
 ·have HR2:Hid (g=b):=zA7 (by rw[HR.out,if_pos rfl])
  clear HR
  go_enter Tryz.func130,Tryz.ntmps130
  go_wp2_with (first
   |(refine jA 7 rfl ?_;refine pA rfl 32 _ rfl (w.heap.size+1) rfl S0 Tryz.underlying32 rfl (by rw[HH.out];exact mA) ?_)
   |(refine jA 9 rfl ?_;refine eD rfl 32 _ rfl w.heap.size 2 18 rfl R1 Tryz.underlying32 rfl mA (by rw[HC.out];decide) X HX.out ?_)
   |(go_at_call 103;refine(H1.out _ (hw.below C0)).mono ?_;rintro e v2 ⟨rfl,d2⟩))
  go_ret
  exact⟨tA HR2.out.symm,C0.trans (d2.mono C0.size)⟩
theorem bAS(same cross:Int)(w:World):
  Calls Tryz.prog 131 #[.int .i64 same,.int .i64 cross] w fun e w'=>e= .returned (.bool (Ma.sH same cross))/\w=w':=by
 have HR:Hid (Ma.sH same cross=(decide (cross=0)||(decide (cross=1)&& !decide (same=3))||(decide (cross=2)&&decide (same=1)))):=zA7 rfl
 generalize Ma.sH same cross=g at*
 have h4:cross=0\/cross=1\/cross=2\/(cross≠0/\cross≠1/\cross≠2):=by omega
 rcases h4 with rfl|rfl|rfl|⟨h0,h1,h2⟩
 ·have HR2:Hid (g=true):=zA7 (by rw[HR.out];simp)
  clear HR
  go_enter Tryz.func131,Tryz.ntmps131
  go_wp2
  go_ret
  exact⟨tA HR2.out.symm,rfl⟩
 ·have HR2:Hid (g=(same !=3)):=zA7 (by rw[HR.out,Bool.eq_iff_iff];simp)
  clear HR
  go_enter Tryz.func131,Tryz.ntmps131
  go_wp2
  go_ret
  exact⟨tA HR2.out.symm,rfl⟩
 ·have HR2:Hid (g=(same==1)):=zA7 (by rw[HR.out,Bool.eq_iff_iff];simp)
  clear HR
  go_enter Tryz.func131,Tryz.ntmps131
  go_wp2
  go_ret
  exact⟨tA HR2.out.symm,rfl⟩
 ·have e0:(cross==0)=false:=by rw[beq_eq_false_iff_ne];exact h0
  have e1:(cross==1)=false:=by rw[beq_eq_false_iff_ne];exact h1
  have e2:(cross==2)=false:=by rw[beq_eq_false_iff_ne];exact h2
  have HR2:Hid (g=false):=zA7 (by rw[HR.out,zA8 h0,zA8 h1,zA8 h2];rfl)
  clear HR h0 h1 h2
  go_enter Tryz.func131,Tryz.ntmps131
  go_wp2
  go_ret
  exact⟨tA HR2.out.symm,rfl⟩
end Go.Proofs.YtdaaoopkkhfbhaaGreatDoor
namespace Go.Proofs
open Go.Shelf
def Tryz.lays100_ren:Go.Shelf.Ren:=⟨fun|100=>102|207=>158|n=>n,fun|9=>9|4=>4|3=>3|n=>n,fun|n=>n⟩
theorem Tryz.lays100:Go.Proofs.Lays.n100 Tryz.prog Tryz.lays100_ren:= {
 mixed:=by kernel_rfl
 f100:=Tryz.func102.trans (congrArg some (by kernel_rfl))
 f207:=Tryz.func158.trans (congrArg some (by kernel_rfl))
 t3:=Tryz.underlying3
 a3:=Tryz.isAgg3
 z3:=Tryz.sizeOf3
 v3:=Tryz.zeroValue3
 t4:=Tryz.underlying4
 a4:=Tryz.isAgg4
 z4:=Tryz.sizeOf4
 v4:=Tryz.zeroValue4
 t9:=Tryz.underlying9
 a9:=Tryz.isAgg9
 z9:=Tryz.sizeOf9
 v9:=Tryz.zeroValue9}
open Go.RowKit Go.Lib in
theorem Tryz.strings_HasSuffix (s p:ByteArray)(w:World)(hs:s.size<=9223372036854775807):
  Calls Tryz.prog 102 #[.string s,.string p] w fun e w'=>e= .returned (.bool (Lib.hasSuffix s.data.toList p.data.toList))/\w'=w:=Any.strings_HasSuffix Tryz.lays100 s p w hs
end Go.Proofs
namespace Go.Proofs.YtdaaoopkkhfbhaaGreatDoor
open Go.RowKit
theorem sK(l:List UInt8):(⟨l.toArray⟩:ByteArray).toList.isEmpty=decide (l= []):=by
 rw[Oct.aB]
 cases l<;>simp
theorem JX(p f:ByteArray)(w:World)(hf:f.size<=9223372036854775807):
  Calls Tryz.prog 53 #[.string p,.string f] w fun e w'=>e= .returned (.bool (Ma.path p.data.toList f.data.toList))/\w=w':=by
 have H1:=zA7 (fun W=>Tryz.strings_CutPrefix p f W)
 have H2:=zA7 (fun W=>Tryz.strings_HasSuffix f ⟨#[47]⟩ W hf)
 have e1:(⟨#[47]⟩:ByteArray).data.toList= [47]:=rfl
 rw[e1,Ma.kAP]at H2
 cases hp:Lib.hasPrefix p.data.toList f.data.toList with
 |false=>
  rw[hp]at H1
  have HR:=zA7 (Ma.iAw hp)
  clear hp H2 e1
  go_enter Tryz.func53,Tryz.ntmps53
  go_wp2_with (go_at_call 101;refine(H1.out _).mono ?_;rintro e w' ⟨rfl,hq⟩;rw[hq])
  go_ret
  exact⟨tA HR.out.symm,rfl⟩
 |true=>
  rw[hp]at H1
  have HR:=zA7 (Ma.iAt hp)
  generalize Lib.trimPrefix p.data.toList f.data.toList=t at*
  have H3:=zA7 (fun W=>Tryz.strings_HasPrefix ⟨t.toArray⟩ ⟨#[47]⟩ W)
  have ht:(⟨t.toArray⟩:ByteArray).data.toList=t:=rfl
  rw[e1,ht,Ma.GY]at H3
  have he:=sK t
  clear hp e1 ht
  generalize Ma.path p.data.toList f.data.toList=B at*
  generalize decide (t= [])=b1 at*
  generalize decide (f.data.toList.getLast?=some 47)=b2 at*
  generalize decide (t.head?=some 47)=b3 at*
  generalize(⟨t.toArray⟩:ByteArray)=T at*
  cases b1
  ·cases b2
   ·go_enter Tryz.func53,Tryz.ntmps53
    go_wp2_with (first
     |(go_at_call 101;refine(H1.out _).mono ?_;rintro e w' ⟨rfl,hq⟩;rw[hq])
     |(go_at_call 102;refine(H2.out _).mono ?_;rintro e w' ⟨rfl,hq⟩;rw[hq])
     |(go_at_call 82;refine(H3.out _).mono ?_;rintro e w' ⟨rfl,hq⟩;rw[hq]))
    go_ret
    exact⟨tA HR.out.symm,rfl⟩
   ·go_enter Tryz.func53,Tryz.ntmps53
    go_wp2_with (first
     |(go_at_call 101;refine(H1.out _).mono ?_;rintro e w' ⟨rfl,hq⟩;rw[hq])
     |(go_at_call 102;refine(H2.out _).mono ?_;rintro e w' ⟨rfl,hq⟩;rw[hq]))
    go_ret
    exact⟨tA HR.out.symm,rfl⟩
  ·go_enter Tryz.func53,Tryz.ntmps53
   go_wp2_with (go_at_call 101;refine(H1.out _).mono ?_;rintro e w' ⟨rfl,hq⟩;rw[hq])
   go_ret
   exact⟨tA HR.out.symm,rfl⟩
theorem gAG(p:ByteArray)(w:World)(hs:p.size<4611686018427387904):
  Calls Tryz.prog 156 #[.string p] w fun e w'=>e= .returned (.string ⟨(Ma.default p.data.toList).toArray⟩)/\w=w':=by
 have H1:=zA7 (fun W=>Tryz.strings_LastIndex_one p ⟨#[47]⟩ rfl hs W)
 have H2:=zA7 (fun W=>Tryz.strings_HasPrefix p ⟨#[47]⟩ W)
 have e1:(⟨#[47]⟩:ByteArray).data.toList= [47]:=rfl
 have e2:((((⟨#[47]⟩:ByteArray)[0]'(by decide)).toNat:Nat):Int)=47:=rfl
 rw[e2]at H1
 rw[e1,Ma.GY]at H2
 have hle:=Ma.bAT p.data.toList
 rw[Oct.oA]at hle
 by_cases hz:(Ma.MB p.data.toList).length=0
 ·have hz1:=Ma.gA5.2 hz
  have HR:Hid ((⟨#[47]⟩:ByteArray)=⟨(Ma.default p.data.toList).toArray⟩):=zA7 (by rw[Ma.BU (.inr hz)])
  clear hz e1 e2 hle
  generalize Lib.lastIndexByte p 47=i at*
  generalize Ma.default p.data.toList=D at*
  go_enter Tryz.func156,Tryz.ntmps156
  go_wp2_with (go_at_call 213;refine(H1.out _).mono ?_;rintro e w' ⟨rfl,hq⟩;rw[hq])
  go_ret
  exact⟨iD HR.out,rfl⟩
 ·have hp:0<(Ma.MB p.data.toList).length:=by omega
  rw[Ma.gA4 hp]at H1
  by_cases hh:p.data.toList.head?=some 47
  ·have HA:Hid (p.extract 0 (Ma.MB p.data.toList).length=⟨(Ma.default p.data.toList).toArray⟩):=zA7 (by rw[Ma.cAr hh hp];exact vH p _)
   rw[zA9 hh]at H2
   clear hh e1 e2 hz
   generalize Ma.default p.data.toList=D at*
   generalize(Ma.MB p.data.toList).length=n at*
   have hn: ¬(n:Int)<1:=by omega
   have hle1:(n:Int)<=(p.size:Int):=by omega
   go_enter Tryz.func156,Tryz.ntmps156
   go_wp2_with (first
    |(go_at_call 213;refine(H1.out _).mono ?_;rintro e w' ⟨rfl,hq⟩;rw[hq])
    |(go_at_call 82;refine(H2.out _).mono ?_;rintro e w' ⟨rfl,hq⟩;rw[hq]))
   go_ret
   exact⟨iD HA.out,rfl⟩
  ·have HR:Hid ((⟨#[47]⟩:ByteArray)=⟨(Ma.default p.data.toList).toArray⟩):=zA7 (by rw[Ma.BU (.inl hh)])
   rw[zA8 hh]at H2
   clear hh e1 e2 hz
   generalize Ma.default p.data.toList=D at*
   generalize(Ma.MB p.data.toList).length=n at*
   have hn: ¬(n:Int)<1:=by omega
   go_enter Tryz.func156,Tryz.ntmps156
   go_wp2_with (first
    |(go_at_call 213;refine(H1.out _).mono ?_;rintro e w' ⟨rfl,hq⟩;rw[hq])
    |(go_at_call 82;refine(H2.out _).mono ?_;rintro e w' ⟨rfl,hq⟩;rw[hq]))
   go_ret
   exact⟨iD HR.out,rfl⟩
end Go.Proofs.YtdaaoopkkhfbhaaGreatDoor
