/- The walk of the law AdmitTakes. -/
import Derived.Test.YtabgoobcliijeaaGreatDoorY31
import Derived.Test.YtabgoobcliijeaaGreatDoorY35
set_option maxHeartbeats 16000000
set_option maxRecDepth 100000
namespace Go.Proofs.YtabgoobcliijeaaGreatDoor
open Go.RowKit Go.Maps
theorem fAk(rs:List Ru.Rule)(a b:ByteArray)(now:Int)(w:World)(v:Value)(hv:ZD w v rs/\rs.length<=maxLen/\ ∀r∈rs,r.name.length<=maxLen)(_ha:a.size<=maxLen)(_hb:b.size<=maxLen)(_hn:(Lit.int .i64 now).wf=true)(hw:uB w):
  Calls Tryz.prog 4 #[v,.agg (eF a b),.int .i64 now] w fun e w'=>e= .returned (.bool true)/\Below w.heap.size w w':=by
 have HA:=zA7 (fun W hW=>WK W hW)
 unfold zJ at HA
 have z0:=iJ
 have z1:=jG
 have z2:=iG
 obtain⟨hv,hrl,hrn⟩:=hv
 have R0:=Row.new w 44 (eF a b)
 have C0:=(Below.refl w.heap.size w).alloc (zB3 _) (.cells (eF a b) 44)
 go_enter Tryz.func4,Tryz.ntmps4
 go_wp2_with fail
 generalize w.alloc (.cells (eF a b) 44)=x0 at*
 refine(HA.out _ (hw.below C0)).mono ?_
 rintro e x1 ⟨rfl,d1⟩
 have C1:=C0.trans (d1.mono C0.size)
 have R1:=R0.stays d1
 have V1:=hv.stays C1
 clear R0 C0 d1 HA
 have c0:x1.cell? ⟨w.heap.size,0,none⟩=some (.string a):=R1.cell 0
 have c1:x1.cell? ⟨w.heap.size,1,none⟩=some (.string b):=R1.cell 1
 have Q1:=Row.new x1 9 #[.string a,.string b]
 have hq:=ON (ts:= [a,b]) (c:=2) Q1 (by simp)
 have D1:=C1.alloc C1.size (.cells #[.string a,.string b] 9)
 have RF:=wN rs [a,b] v (.slice (some ⟨x1.heap.size,0,none⟩) 2 2) (x1.alloc (.cells #[.string a,.string b] 9)) (hv.stays D1) hq hrl hrn (by simp)
 have RF:=zA7 RF
 have R2:=R1.alloc (.cells #[.string a,.string b] 9)
 clear Q1 hq
 go_wp2_with fail
 generalize x1.alloc (.cells #[.string a,.string b] 9)=x2 at*
 refine RF.out.mono ?_
 rintro e x3 ⟨rfl,d3⟩
 have C3:=D1.trans (d3.mono D1.size)
 have R3:=R2.stays d3
 clear RF D1 R2 d3 R1 c0 c1 C1 V1
 cases hf:VE rs [a,b]with
 |false=>
  clear hf
  go_wp2
  go_ret
  exact⟨rfl,C3⟩
 |true=>
 obtain⟨f1,f2,f3⟩:=yN hf
 have fa:=f2 a (by simp)
 have fb:=f2 b (by simp)
 have pF: ∀r∈rs,r.name.length<=1000:=fun r hr=>by have:=f1 r hr;omega
 clear hf
 obtain⟨⟨n,u⟩,hu⟩: ∃o,Ur.parse a.data.toList=o:=⟨_,rfl⟩
 obtain⟨⟨m,h⟩,hh⟩: ∃o,Hd.parse b.data.toList=o:=⟨_,rfl⟩
 have HB:=zA7 (fun W=>NI a b hu hh (by omega) (by omega) W)
 have ul:u.host.addr.length=16:=by have:=Ur.gO a.data.toList;rw[hu]at this;exact this
 have cC:=Ur.eR a.data.toList
 rw[hu,Oct.nA]at cC
 have RG:u.host.name.length<=2900:=Nat.le_trans (show u.host.name.length<=a.size from cC.1) (by omega)
 have SG:u.path.length<=9000:=Nat.le_trans (show u.path.length<=a.size+1 from cC.2) (by omega)
 have UF:=pI (Hd.lAF hh)
 obtain⟨⟨k,c⟩,hk⟩: ∃o,Ad.bD rs u (Hd.Raw.of h) now=o:=⟨_,rfl⟩
 have cl:c.host.addr.length=16:=by have:=Ad.BR rs u (Hd.Raw.of h) now ul;rw[hk]at this;exact this
 have HN:=zA7 (fun W hW hV=>gK rs v W hW hV (by omega) pF)
 unfold dH at HN
 have HT:=zA7 (fun n₀ tb mb W hW hT=>JH rs u ul RG SG h UF now hk n₀ tb mb W hW hT)
 have HR:=zA7 (fun W hV=>cAt rs v u ul RG SG (Hd.Raw.of h) UF now W hV (by omega) pF)
 unfold yD at HR
 rw[hk,TL]at HR
 have IU:=zA7 (show(Tryz.prog.info? 33).map (·.size)=some (pA u).size by rw[aC u ul];exact qB)
 have SU:=zA7 (show(pA u).size=(pA Ur.zero).size by rw[aC u ul];rfl)
 have OU:=zA7 (kE u)
 have LU:=zA7 (show 1+18<=(pA u).size by rw[aC u ul];decide)
 have gD:=zA7 (gG u ul)
 have IC:=zA7 (show(Tryz.prog.info? 39).map (·.size)=some (gA c).size by rw[GD c cl];exact rD)
 have SC:=zA7 (show(gA c).size=(gA Ma.oA).size by rw[GD c cl];rfl)
 have OC:=zA7 (zE c)
 have IV:=zA7 (show(Tryz.prog.info? 35).map (·.size)=some (headA h).size from WA)
 have SV:=zA7 (show(headA h).size=(headA Hd.zero).size from rfl)
 have OV:=zA7 (DC h)
 have wD: ∀W,(binOp .eql 39 (.agg (gA c)) (.agg (gA c))).run Tryz.prog W= .ok (.bool true) W:=fun W=>bQ c cl W
 have V3:=hv.stays C3
 clear hu hh ul cC RG SG UF hk cl f1 f2 f3 fa fb pF hrl hrn gD LU
 generalize(decide (n=0)&&decide (m=0))=ok at*
 generalize gA c=CC at*
 generalize pA u=U at*
 generalize headA h=V at*
 have c0:x3.cell? ⟨w.heap.size,0,none⟩=some (.string a):=R3.cell 0
 have c1:x3.cell? ⟨w.heap.size,1,none⟩=some (.string b):=R3.cell 1
 go_wp2_with fail
 refine(HB.out _).mono ?_
 rintro e x4 ⟨rfl,d4⟩
 have C4:=C3.trans (d4.mono C3.size)
 obtain⟨Z5,Y5,U5,W5,C5,L5⟩:=WF U V C4 C4.size
 clear c0 c1 R3 C3 d4 HB L5
 go_upto_region 6 with(first
  |(refine wpList_store_row rfl 33 _ _ rfl x4.heap.size U rfl rfl 33 _ Z5 IU.out (by rw[SU.out]) OU.out ?_)
  |(refine wpList_store_row rfl 35 _ _ rfl (x4.heap.size+1) V rfl rfl 35 _ Y5 IV.out (by rw[SV.out]) OV.out ?_))
 clear Z5 Y5 C4
 generalize(((x4.alloc (.cells (pA Ur.zero) 33)).alloc (.cells (headA Hd.zero) 35)).setRow x4.heap.size U).setRow (x4.heap.size+1) V=x5 at*
 generalize x4.heap.size=g4 at*
 have WE:=hw.below C5
 have V5:=hv.stays C5
 have CN:=zA7 (fun W (hC:Below x5.heap.size x5 W)=>HN.out W (WE.below hC).UE.std (V5.stays hC))
 have CT:=zA7 (fun n₀ tb mb W (hC:Below x5.heap.size x5 W) hT=>HT.out n₀ tb mb W (WE.below hC) hT)
 clear HN HT V3
 have RR:=zA7 (fun W (hC:Below x5.heap.size x5 W)=>U5.stays hC)
 have SS:=zA7 (fun W (hC:Below x5.heap.size x5 W)=>W5.stays hC)
 go_cut [10,11] (fun sa sb wx=> ∃g,sa= .pointer (some ⟨g,0,none⟩)/\sb= .int .i64 k/\Row wx g 39 CC/\Below x5.heap.size x5 wx)
 case first=>as_aux_lemma=>
  refine wp_region_held_drew (S:=(fun W=>Below x5.heap.size x5 W)) (by kernel_rfl) (Below.refl _ _).drew (fun hS=>?_)
  generalize x5.drew=u0 at*
  refine mA (i:=0) rfl ?_
  refine uD (i:=2) rfl (lC (by rfl) _ _ rfl _ rfl RR.out Tryz.underlying33 rfl IU.out) ?_
  refine uD (i:=3) rfl (lC (by rfl) _ _ rfl _ rfl SS.out Tryz.underlying35 rfl IV.out) ?_
  refine mA (i:=4) rfl ?_
  refine wpAnyH_ready (rs:= [1,9]) (by kernel_rfl) (by simp) (AllReadyH.cons rfl (fun K hK=>?_) (AllReadyH.cons rfl (fun K hK=>?_) AllReadyH.nil))
  ·rw[if_pos (by rfl)]
   go_simp
   refine(CN.out u0 hS).mono ?_
   rintro e y1 ⟨tb,mb,rfl,T1,d1⟩
   have S1:=Below.trans hS (d1.mono (Below.size hS))
   go_wp2_with fail
   refine hK.out _ _ S1 (fun _=>?_)
   clear hK K
   refine wpAnyH_ready (rs:= [5,9]) (by kernel_rfl) (by simp) (AllReadyH.cons rfl (fun K hK=>?_) (AllReadyH.cons rfl (fun K hK=>?_) AllReadyH.nil))
   ·rw[if_pos (by rfl)]
    go_simp
    refine(CT.out _ tb mb y1 S1 T1).mono ?_
    rintro e y2 ⟨rfl,d2⟩
    have S2:=Below.trans S1 (d2.mono (Below.size S1))
    go_wp2_with fail
    refine hK.out _ _ S2 (fun _=>?_)
    clear hK K
    refine mA (i:=6) rfl ?_
    refine mA (i:=7) rfl ?_
    refine mA (i:=8) rfl ?_
    refine wpAnyH_ready (rs:= [9]) (by kernel_rfl) (by simp) (AllReadyH.cons rfl (fun K hK=>?_) AllReadyH.nil)
    have Z3:=Row.new y2 39 (gA Ma.oA)
    rw[if_pos (by rfl)]
    go_simp
    have S3:=Below.alloc S2 (Below.size S2) (.cells (gA Ma.oA) 39)
    refine hK.out _ _ S3 (fun _=>?_)
    clear hK K
    refine yA (i:=10) fun K hK=>?_
    refine wp_store_row 39 _ _ rfl y2.heap.size CC rfl rfl 39 _ Z3 IC.out (by rw[SC.out]) OC.out ?_
    have S4:=below_setRow S3 (Below.size S2) CC
    have O4:=Row.whole Z3 CC
    refine hK.out _ _ S4 (fun _=>?_)
    clear hK K
    refine mA (i:=11) rfl ?_
    refine wpAnyH_done (by kernel_rfl) ?_ _
    go_wp2
    go_meet
    exact⟨y2.heap.size,rfl,rfl,O4,S4⟩
   ·have Z2:=Row.new y1 39 (gA Ma.oA)
    have T2:=T1.stays ((Below.refl y1.heap.size y1).alloc (zB3 _) (.cells (gA Ma.oA) 39))
    have zH:=Below.size S1
    rw[if_pos (by rfl)]
    go_simp
    have S2:=Below.alloc S1 (Below.size S1) (.cells (gA Ma.oA) 39)
    refine hK.out _ _ S2 (fun _=>?_)
    clear hK K
    generalize hy1:y1.alloc (.cells (gA Ma.oA) 39)=y2 at*
    generalize y1.heap.size=g1 at*
    refine yA (i:=5) fun K hK=>?_
    go_simp
    refine(CT.out _ tb mb y2 S2 T2).mono ?_
    rintro e y3 ⟨rfl,d3⟩
    have S3:=Below.trans S2 (d3.mono (Below.size S2))
    go_wp2_with fail
    refine hK.out _ _ S3 (fun _=>?_)
    clear hK K
    refine mA (i:=6) rfl ?_
    refine mA (i:=7) rfl ?_
    refine mA (i:=8) rfl ?_
    have Z3:=Z2.stays d3
    refine yA (i:=10) fun K hK=>?_
    refine wp_store_row 39 _ _ rfl g1 CC rfl rfl 39 _ Z3 IC.out (by rw[SC.out]) OC.out ?_
    have S4:=below_setRow S3 zH CC
    have O4:=Row.whole Z3 CC
    refine hK.out _ _ S4 (fun _=>?_)
    clear hK K
    refine mA (i:=11) rfl ?_
    refine wpAnyH_done (by kernel_rfl) ?_ _
    go_wp2
    go_meet
    exact⟨g1,rfl,rfl,O4,S4⟩
  ·have Z1:=Row.new u0 39 (gA Ma.oA)
   have jI:=Below.size hS
   rw[if_pos (by rfl)]
   go_simp
   have S1:=Below.alloc hS (Below.size hS) (.cells (gA Ma.oA) 39)
   refine hK.out _ _ S1 (fun _=>?_)
   clear hK K
   generalize u0.alloc (.cells (gA Ma.oA) 39)=y1 at*
   generalize u0.heap.size=g1 at*
   refine yA (i:=1) fun K hK=>?_
   go_simp
   refine(CN.out y1 S1).mono ?_
   rintro e y2 ⟨tb,mb,rfl,T2,d2⟩
   have S2:=Below.trans S1 (d2.mono (Below.size S1))
   go_wp2_with fail
   refine hK.out _ _ S2 (fun _=>?_)
   clear hK K
   have Z2:=Z1.stays d2
   refine yA (i:=5) fun K hK=>?_
   go_simp
   refine(CT.out _ tb mb y2 S2 T2).mono ?_
   rintro e y3 ⟨rfl,d3⟩
   have S3:=Below.trans S2 (d3.mono (Below.size S2))
   go_wp2_with fail
   refine hK.out _ _ S3 (fun _=>?_)
   clear hK K
   refine mA (i:=6) rfl ?_
   refine mA (i:=7) rfl ?_
   refine mA (i:=8) rfl ?_
   have Z3:=Z2.stays d3
   refine yA (i:=10) fun K hK=>?_
   refine wp_store_row 39 _ _ rfl g1 CC rfl rfl 39 _ Z3 IC.out (by rw[SC.out]) OC.out ?_
   have S4:=below_setRow S3 jI CC
   have O4:=Row.whole Z3 CC
   refine hK.out _ _ S4 (fun _=>?_)
   clear hK K
   refine mA (i:=11) rfl ?_
   refine wpAnyH_done (by kernel_rfl) ?_ _
   go_wp2
   go_meet
   exact⟨g1,rfl,rfl,O4,S4⟩
 case rest=>
 obtain⟨g6,rfl,rfl,O6,D6⟩:=hcut
 clear RR SS CN CT
 have C6:=C5.trans (D6.mono C5.size)
 have U6:=U5.stays D6
 have W6:=W5.stays D6
 have V6:=V5.stays D6
 clear U5 W5 V5 C5 WE
 go_wp2_with (first|(refine iA 44 rfl ?_;refine qA rfl 33 _ rfl g4 rfl U6 Tryz.underlying33 rfl IU.out ?_)|(refine iA 45 rfl ?_;refine qA rfl 35 _ rfl (g4+1) rfl W6 Tryz.underlying35 rfl IV.out ?_))
 refine(HR.out _ V6).mono ?_
 rintro e x7 ⟨rfl,d7⟩
 have C7:=C6.trans (d7.mono C6.size)
 have O7:=O6.stays d7
 obtain⟨Z8,P8,C8,L8⟩:=JA 39 (gA Ma.oA) CC C7 C7.size
 have O8:=L8 _ _ _ O7
 clear L8 O7 C7 d7 O6 C6 U6 W6 V6 D6 HR
 go_wp2_with (first
  |(refine wpList_store_row rfl 39 _ _ rfl x7.heap.size CC rfl rfl 39 _ Z8 IC.out (by rw[SC.out]) OC.out ?_)
  |(refine iA 50 rfl ?_;refine qA rfl 39 _ rfl g6 rfl O8 Tryz.underlying39 rfl IC.out ?_)
  |(refine iA 51 rfl ?_;refine qA rfl 39 _ rfl x7.heap.size rfl P8 Tryz.underlying39 rfl IC.out ?_))
 go_ret
 exact⟨rfl,C8⟩
end Go.Proofs.YtabgoobcliijeaaGreatDoor
