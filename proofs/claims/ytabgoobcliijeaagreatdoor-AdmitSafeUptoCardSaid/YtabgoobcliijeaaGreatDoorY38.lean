/- The walk of the law AdmitSafe. -/
import Derived.Test.YtabgoobcliijeaaGreatDoorY31
import Derived.Test.YtabgoobcliijeaaGreatDoorY35
set_option maxHeartbeats 16000000
set_option maxRecDepth 100000
namespace Go.Proofs.YtabgoobcliijeaaGreatDoor
open Go.RowKit Go.Maps
theorem fAj(rs:List Ru.Rule)(a b:ByteArray)(now:Int)(w:World)(v:Value)(hv:ZD w v rs/\rs.length<=maxLen/\ ∀r∈rs,r.name.length<=maxLen)(_ha:a.size<=maxLen)(_hb:b.size<=maxLen)(_hn:(Lit.int .i64 now).wf=true)(ha:a.size<=1048576)(hb:b.size<=1048576)(hw:uB w):
  Calls Tryz.prog 6 #[v,.agg (eF a b),.int .i64 now] w fun e w'=>e= .returned (.bool true)/\Below w.heap.size w w':=by
 have HA:=zA7 (fun W hW=>WK W hW)
 unfold zJ at HA
 have z0:=iJ
 have z1:=jG
 have z2:=iG
 obtain⟨hv,hrl,hrn⟩:=hv
 have R0:=Row.new w 44 (eF a b)
 have C0:=(Below.refl w.heap.size w).alloc (zB3 _) (.cells (eF a b) 44)
 obtain⟨⟨n,u⟩,hu⟩: ∃o,Ur.parse a.data.toList=o:=⟨_,rfl⟩
 obtain⟨⟨m,h⟩,hh⟩: ∃o,Hd.parse b.data.toList=o:=⟨_,rfl⟩
 have HB:=zA7 (fun W=>NI a b hu hh ha (by omega) W)
 have ul:u.host.addr.length=16:=by have:=Ur.gO a.data.toList;rw[hu]at this;exact this
 have IU:=zA7 (show(Tryz.prog.info? 33).map (·.size)=some (pA u).size by rw[aC u ul];exact qB)
 have SU:=zA7 (show(pA u).size=(pA Ur.zero).size by rw[aC u ul];rfl)
 have OU:=zA7 (kE u)
 have IV:=zA7 (show(Tryz.prog.info? 35).map (·.size)=some (headA h).size from WA)
 have SV:=zA7 (show(headA h).size=(headA Hd.zero).size from rfl)
 have OV:=zA7 (DC h)
 obtain⟨U,hU⟩: ∃U,pA u=U:=⟨_,rfl⟩
 obtain⟨V,hV⟩: ∃V,headA h=V:=⟨_,rfl⟩
 rw[hU]at IU SU OU HB
 rw[hV]at IV SV OV HB
 have HU:=zA7 hU
 have HV:=zA7 hV
 have EI:=zA7 hu
 have DI:=zA7 hh
 clear hU hV hu hh ha hb
 go_enter Tryz.func6,Tryz.ntmps6
 go_wp2_with fail
 generalize w.alloc (.cells (eF a b) 44)=x0 at*
 refine(HA.out _ (hw.below C0)).mono ?_
 rintro e x1 ⟨rfl,d1⟩
 have C1:=C0.trans (d1.mono C0.size)
 have R1:=R0.stays d1
 have V1:=hv.stays C1
 clear R0 C0 d1 HA
 have c0:x1.cell? ⟨w.heap.size,0,none⟩=some (.string a):=R1.cell 0
 have c1:x1.cell? ⟨w.heap.size,1,none⟩=some (.string b):=R1.cell 1
 go_wp2_with fail
 refine(HB.out _).mono ?_
 rintro e x2 ⟨rfl,d2⟩
 have C2:=C1.trans (d2.mono C1.size)
 have R2:=R1.stays d2
 obtain⟨Z3,Y3,U3,W3,C3,L3⟩:=WF U V C2 C2.size
 have R3:=L3 _ _ _ R2
 clear c0 c1 R1 C1 d2 HB L3 R2 V1
 go_upto_region 4 with(first
  |(refine wpList_store_row rfl 33 _ _ rfl x2.heap.size U rfl rfl 33 _ Z3 IU.out (by rw[SU.out]) OU.out ?_)
  |(refine wpList_store_row rfl 35 _ _ rfl (x2.heap.size+1) V rfl rfl 35 _ Y3 IV.out (by rw[SV.out]) OV.out ?_))
 clear Z3 Y3 C2
 generalize(((x2.alloc (.cells (pA Ur.zero) 33)).alloc (.cells (headA Hd.zero) 35)).setRow x2.heap.size U).setRow (x2.heap.size+1) V=x3 at*
 generalize x2.heap.size=g4 at*
 have V3:=hv.stays C3
 have c0:x3.cell? ⟨w.heap.size,0,none⟩=some (.string a):=R3.cell 0
 have c1:x3.cell? ⟨w.heap.size,1,none⟩=some (.string b):=R3.cell 1
 have Q1:=Row.new x3 9 #[.string a,.string b]
 have hq:=ON (ts:= [a,b]) (c:=2) Q1 (by simp)
 have D1:=C3.alloc C3.size (.cells #[.string a,.string b] 9)
 have RF:=zA7 (wN rs [a,b] v (.slice (some ⟨x3.heap.size,0,none⟩) 2 2) (x3.alloc (.cells #[.string a,.string b] 9)) (hv.stays D1) hq hrl hrn (by simp))
 have U4:=U3.alloc (.cells #[.string a,.string b] 9)
 have W4:=W3.alloc (.cells #[.string a,.string b] 9)
 clear Q1 hq U3 W3
 go_wp2_with fail
 generalize x3.alloc (.cells #[.string a,.string b] 9)=x4 at*
 refine RF.out.mono ?_
 rintro e x5 ⟨rfl,d5⟩
 have C5:=D1.trans (d5.mono D1.size)
 have U5:=U4.stays d5
 have W5:=W4.stays d5
 clear RF D1 U4 W4 d5 c0 c1 R3 V3 C3
 cases hf:VE rs [a,b]with
 |false=>
  clear hf
  go_wp2
  go_ret
  exact⟨rfl,C5⟩
 |true=>
 obtain⟨ok,hok⟩: ∃b,(decide (n=0)&&decide (m=0))=b:=⟨_,rfl⟩
 rw[hok]
 cases ok with
 |false=>
  clear hf hok
  go_wp2
  go_ret
  exact⟨rfl,C5⟩
 |true=>
 obtain⟨hn0,hm0⟩:n=0/\m=0:=by simpa using hok
 subst hn0 hm0
 have hu:=EI.out
 have hh:=DI.out
 obtain⟨f1,f2,f3⟩:=yN hf
 have fa:=f2 a (by simp)
 have fb:=f2 b (by simp)
 have pF: ∀r∈rs,r.name.length<=1000:=fun r hr=>by have:=f1 r hr;omega
 have cC:=Ur.eR a.data.toList
 rw[hu,Oct.nA]at cC
 have RG:u.host.name.length<=2500:=Nat.le_trans (show u.host.name.length<=a.size from cC.1) (by omega)
 have SG:u.path.length<=2501:=Nat.le_trans (show u.path.length<=a.size+1 from cC.2) (by omega)
 have hg:=Hd.AD hh
 have hright:=Ur.SL hu
 have htk:=Ad.FH (rs:=rs) (now:=now) hright hg
 obtain⟨⟨k,c⟩,hk⟩: ∃o,Ad.take rs u h now=o:=⟨_,rfl⟩
 rw[hk]at htk
 have cl:c.host.addr.length=16:=by have:=Ad.BR rs u (Hd.Raw.of h) now ul;rw[htk]at this;exact this
 have HN:=zA7 (fun W hW hV=>gK rs v W hW hV (by omega) pF)
 unfold dH at HN
 have HT:=zA7 (fun n₀ tb mb W hW hT=>JH rs u ul (by omega) (by omega) h (pI (.inl hg)) now htk n₀ tb mb W hW hT)
 rw[HU.out,HV.out]at HT
 have IC:=zA7 (show(Tryz.prog.info? 39).map (·.size)=some (gA c).size by rw[GD c cl];exact rD)
 have SC:=zA7 (show(gA c).size=(gA Ma.oA).size by rw[GD c cl];rfl)
 have OC:=zA7 (zE c)
 obtain⟨CC,qH⟩: ∃C,gA c=C:=⟨_,rfl⟩
 rw[qH]at IC SC OC HT
 have nC:=zA7 qH
 have WE:=hw.below C5
 have V5:=hv.stays C5
 have CN:=zA7 (fun W (hC:Below x5.heap.size x5 W)=>HN.out W (WE.below hC).UE.std (V5.stays hC))
 have CT:=zA7 (fun n₀ tb mb W (hC:Below x5.heap.size x5 W) hT=>HT.out n₀ tb mb W (WE.below hC) hT)
 have xE:=zA7 hk
 have NF:=zA7 (And.intro RG SG)
 have HG:=zA7 hg
 have MF:=zA7 hright
 have WG:=zA7 pF
 have LE:=zA7 f3
 clear hf hok qH HN HT hu hh EI DI cC RG SG hg hright htk hk f1 f2 f3 fa fb pF hrl hrn
 go_upto_region 6 with fail
 have RR:=zA7 (fun W (hC:Below x5.heap.size x5 W)=>U5.stays hC)
 have SS:=zA7 (fun W (hC:Below x5.heap.size x5 W)=>W5.stays hC)
 go_cut [10,11] (fun sa sb wx=> ∃g,sa= .pointer (some ⟨g,0,none⟩)/\sb= .int .i64 k/\Row wx g 39 CC/\Below x5.heap.size x5 wx)
 case first=>as_aux_lemma=>
  refine wp_region_held_drew (S:=(fun W=>Below x5.heap.size x5 W)) (by kernel_rfl) (Below.refl _ _).drew (fun hS=>?_)
  generalize x5.drew=u0 at*
  refine mA (i:=0) rfl ?_
  refine uD (i:=2) rfl (lC (by rfl) _ _ rfl _ rfl RR.out Tryz.underlying33 rfl IU.out) ?_
  refine uD (i:=3) rfl (lC (by rfl) _ _ rfl _ rfl SS.out Tryz.underlying35 rfl IV.out) ?_
  refine mA (i:=4) rfl ?_
  refine wpAnyH_ready (rs:= [1,9]) (by kernel_rfl) (by simp) (AllReadyH.cons rfl (fun K hK=>?_) (AllReadyH.cons rfl (fun K hK=>?_) AllReadyH.nil))
  ·rw[if_pos (by rfl)]
   go_simp
   refine(CN.out u0 hS).mono ?_
   rintro e y1 ⟨tb,mb,rfl,T1,d1⟩
   have S1:=Below.trans hS (d1.mono (Below.size hS))
   go_wp2_with fail
   refine hK.out _ _ S1 (fun _=>?_)
   clear hK K
   refine wpAnyH_ready (rs:= [5,9]) (by kernel_rfl) (by simp) (AllReadyH.cons rfl (fun K hK=>?_) (AllReadyH.cons rfl (fun K hK=>?_) AllReadyH.nil))
   ·rw[if_pos (by rfl)]
    go_simp
    refine(CT.out _ tb mb y1 S1 T1).mono ?_
    rintro e y2 ⟨rfl,d2⟩
    have S2:=Below.trans S1 (d2.mono (Below.size S1))
    go_wp2_with fail
    refine hK.out _ _ S2 (fun _=>?_)
    clear hK K
    refine mA (i:=6) rfl ?_
    refine mA (i:=7) rfl ?_
    refine mA (i:=8) rfl ?_
    refine wpAnyH_ready (rs:= [9]) (by kernel_rfl) (by simp) (AllReadyH.cons rfl (fun K hK=>?_) AllReadyH.nil)
    have Z3:=Row.new y2 39 (gA Ma.oA)
    rw[if_pos (by rfl)]
    go_simp
    have S3:=Below.alloc S2 (Below.size S2) (.cells (gA Ma.oA) 39)
    refine hK.out _ _ S3 (fun _=>?_)
    clear hK K
    refine yA (i:=10) fun K hK=>?_
    refine wp_store_row 39 _ _ rfl y2.heap.size CC rfl rfl 39 _ Z3 IC.out (by rw[SC.out]) OC.out ?_
    have S4:=below_setRow S3 (Below.size S2) CC
    have O4:=Row.whole Z3 CC
    refine hK.out _ _ S4 (fun _=>?_)
    clear hK K
    refine mA (i:=11) rfl ?_
    refine wpAnyH_done (by kernel_rfl) ?_ _
    go_wp2
    go_meet
    exact⟨y2.heap.size,rfl,rfl,O4,S4⟩
   ·have Z2:=Row.new y1 39 (gA Ma.oA)
    have T2:=T1.stays ((Below.refl y1.heap.size y1).alloc (zB3 _) (.cells (gA Ma.oA) 39))
    have zH:=Below.size S1
    rw[if_pos (by rfl)]
    go_simp
    have S2:=Below.alloc S1 (Below.size S1) (.cells (gA Ma.oA) 39)
    refine hK.out _ _ S2 (fun _=>?_)
    clear hK K
    generalize hy1:y1.alloc (.cells (gA Ma.oA) 39)=y2 at*
    generalize y1.heap.size=g1 at*
    refine yA (i:=5) fun K hK=>?_
    go_simp
    refine(CT.out _ tb mb y2 S2 T2).mono ?_
    rintro e y3 ⟨rfl,d3⟩
    have S3:=Below.trans S2 (d3.mono (Below.size S2))
    go_wp2_with fail
    refine hK.out _ _ S3 (fun _=>?_)
    clear hK K
    refine mA (i:=6) rfl ?_
    refine mA (i:=7) rfl ?_
    refine mA (i:=8) rfl ?_
    have Z3:=Z2.stays d3
    refine yA (i:=10) fun K hK=>?_
    refine wp_store_row 39 _ _ rfl g1 CC rfl rfl 39 _ Z3 IC.out (by rw[SC.out]) OC.out ?_
    have S4:=below_setRow S3 zH CC
    have O4:=Row.whole Z3 CC
    refine hK.out _ _ S4 (fun _=>?_)
    clear hK K
    refine mA (i:=11) rfl ?_
    refine wpAnyH_done (by kernel_rfl) ?_ _
    go_wp2
    go_meet
    exact⟨g1,rfl,rfl,O4,S4⟩
  ·have Z1:=Row.new u0 39 (gA Ma.oA)
   have jI:=Below.size hS
   rw[if_pos (by rfl)]
   go_simp
   have S1:=Below.alloc hS (Below.size hS) (.cells (gA Ma.oA) 39)
   refine hK.out _ _ S1 (fun _=>?_)
   clear hK K
   generalize u0.alloc (.cells (gA Ma.oA) 39)=y1 at*
   generalize u0.heap.size=g1 at*
   refine yA (i:=1) fun K hK=>?_
   go_simp
   refine(CN.out y1 S1).mono ?_
   rintro e y2 ⟨tb,mb,rfl,T2,d2⟩
   have S2:=Below.trans S1 (d2.mono (Below.size S1))
   go_wp2_with fail
   refine hK.out _ _ S2 (fun _=>?_)
   clear hK K
   have Z2:=Z1.stays d2
   refine yA (i:=5) fun K hK=>?_
   go_simp
   refine(CT.out _ tb mb y2 S2 T2).mono ?_
   rintro e y3 ⟨rfl,d3⟩
   have S3:=Below.trans S2 (d3.mono (Below.size S2))
   go_wp2_with fail
   refine hK.out _ _ S3 (fun _=>?_)
   clear hK K
   refine mA (i:=6) rfl ?_
   refine mA (i:=7) rfl ?_
   refine mA (i:=8) rfl ?_
   have Z3:=Z2.stays d3
   refine yA (i:=10) fun K hK=>?_
   refine wp_store_row 39 _ _ rfl g1 CC rfl rfl 39 _ Z3 IC.out (by rw[SC.out]) OC.out ?_
   have S4:=below_setRow S3 jI CC
   have O4:=Row.whole Z3 CC
   refine hK.out _ _ S4 (fun _=>?_)
   clear hK K
   refine mA (i:=11) rfl ?_
   refine wpAnyH_done (by kernel_rfl) ?_ _
   go_wp2
   go_meet
   exact⟨g1,rfl,rfl,O4,S4⟩
 case rest=>
 obtain⟨g6,rfl,rfl,O6,D6⟩:=hcut
 clear RR SS CN CT
 have C6:=C5.trans (D6.mono C5.size)
 have U6:=U5.stays D6
 have W6:=W5.stays D6
 have V6:=V5.stays D6
 clear U5 W5 V5 C5 WE D6
 by_cases hk0:k=0
 ·subst hk0
  obtain⟨s1,s2,s3,s4⟩:=Ad.oAU xE.out
  obtain⟨t1,t2,t3⟩:=Ad.oAL xE.out
  have cw:=(Ad.qAk rs u.host h.domain)
  have hcn:c.name.length<=5000/\c.value.length<=5000/\c.host.name.length<=9000:=by
   obtain⟨_,_,_,_,_,rfl⟩:=Ad.take_zero xE.out
   have h1:=HG.out.few
   have h2:=HG.out.lH
   have h3:=NF.out.1
   exact⟨by show h.name.length<=_;omega,by show h.value.length<=_;omega,by show(Ad.whose rs u.host h.domain).2.1.name.length<=_;omega⟩
  have OH:=zA7 (fun W hV=>cAs rs v c.host W cl (by omega) hV (by have:=LE.out;omega) WG.out)
  rw[Sx.cAx,show Sx.isPublic (Sx.suffix (Sx.new rs) c.host) c.host=Ad.sD rs c.host from rfl]at OH
  obtain⟨nb,hnb⟩: ∃t:ByteArray,t=⟨c.name.toArray⟩:=⟨_,rfl⟩
  obtain⟨vb,hvb⟩: ∃t:ByteArray,t=⟨c.value.toArray⟩:=⟨_,rfl⟩
  obtain⟨pb,hpb⟩: ∃t:ByteArray,t=⟨c.path.toArray⟩:=⟨_,rfl⟩
  have xC:Hid (∀W,Calls Tryz.prog 16 #[.string nb] W fun e w'=>e= .returned (.int .i64 (Ad.pre c.name))/\Below W.heap.size W w'):=zA7 (fun W=>by
   have:=VL nb W (by rw[hnb,SE];omega)
   rw[hnb]at this⊢
   exact this)
  have OM:Hid (∀W,Calls Tryz.prog 16 #[.string vb] W fun e w'=>e= .returned (.int .i64 (Ad.pre c.value))/\Below W.heap.size W w'):=zA7 (fun W=>by
   have:=VL vb W (by rw[hvb,SE];omega)
   rw[hvb]at this⊢
   exact this)
  have UO: ∀W,(binOp .neq 31 (.agg (fA c.host)) (.agg (fA u.host))).run Tryz.prog W= .ok (.bool (!decide (c.host=u.host))) W:=fun W=>aO c.host u.host cl ul W
  have LU:=zA7 (show 1+18<=(pA u).size by rw[aC u ul];decide)
  have gD:=zA7 (gG u ul)
  have LC:=zA7 (show 2+18<=(gA c).size by rw[GD c cl];decide)
  have zI:=zA7 (MP c cl)
  have k0:=uT c
  have k1:=iZ c
  have k20:=aL c cl
  have k21:=bL c cl
  have k22:=NP c cl
  have k24:=wT c cl
  have p0:(pA u)[0]? =some (.bool u.secure):=rfl
  unfold lA at k0 k1 k21
  rw[<-hnb]at k0
  rw[<-hvb]at k1
  rw[<-hpb]at k21
  rw[nC.out]at LC zI k0 k1 k20 k21 k22 k24
  rw[HU.out]at LU gD p0
  have hne:nb.toList.isEmpty=decide (c.name= []):=by rw[hnb,bI]
  have hps:(pb.toList== [47])=decide (c.path= [47]):=by rw[hpb,Oct.SA,Bool.eq_iff_iff];simp
  have hpc:=Ad.kO c.name
  obtain⟨sm,hsm⟩: ∃b,(c.same==1)=b:=⟨_,rfl⟩
  have aAg:sm=true->c.same=1:=fun e=>by rw[e]at hsm;simpa using hsm
  have q2: ¬(sm=true/\c.secure=false):=fun e=>s2 ⟨aAg e.1,e.2⟩
  have q4: ¬(c.only=true/\decide (c.host=u.host)=false):=fun e=>s4 ⟨e.1,of_decide_eq_false e.2⟩
  have q6:Ad.pre c.name=2->c.secure=true/\c.only=true/\decide (c.path= [47])=true:=fun e=>⟨(t2 e).1,(t2 e).2.1,zA9 (t2 e).2.2⟩
  have q7:decide (c.name= [])=false\/Ad.pre c.value=0\/c.secure=true:=t3.imp (fun e=>zA8 e) id
  have GC:=zA7 s1
  have HS2:=zA7 q2
  have YO:=zA7 s3
  have ZO:=zA7 q4
  have HT1:=zA7 t1
  have HT2:=zA7 q6
  have HT3:=zA7 q7
  have YD:=zA7 hpc
  clear s1 s2 s3 s4 t1 t2 t3 q2 q4 q6 q7 aAg hpc hcn cw hnb hvb hpb ul cl xE HG MF WG LE NF z0 z1
  generalize hdn:decide (c.name= [])=dn at*
  generalize hdp:decide (c.path= [47])=dp at*
  generalize hdh:decide (c.host=u.host)=dh at*
  clear hdn hdp hdh
  generalize Ad.pre c.name=pn at*
  generalize Ad.pre c.value=pv at*
  generalize Ad.sD rs c.host=pub at*
  generalize fA c.host=CH at*
  generalize fA u.host=UH at*
  generalize c.secure=cs at*
  generalize c.only=co at*
  generalize c.same=cm at*
  generalize u.secure=us at*
  have c20:=(O6.cell 20).trans k20
  have mT:=(O6.cell 22).trans k22
  have c24:=(O6.cell 24).trans k24
  have b0:=(U6.cell 0).trans p0
  go_upto_region 9 with fail
  go_cut [87] (fun sx wx=>sx= .bool false/\Row wx g6 39 CC/\Below w.heap.size w wx)
  case first=>as_aux_lemma=>
   have key: ∀cs us:Bool,¬(cs=true/\us=false)->(cs=true/\us=true)\/cs=false:=by decide
   have hx:=GC.out
   have hx2:=HS2.out
   have hx3:=YO.out
   have hx4:=ZO.out
   by_cases hco:co=true
   ·subst hco
    cases cs<;>cases us<;>cases sm<;>cases pub<;>cases dh<;>simp at hx hx2 hx3 hx4
    all_goals
     clear GC HS2 YO ZO HT1 HT2 HT3 YD key
     go_wp2_with (first
      |(refine iA 69 rfl ?_;refine QC rfl 31 _ rfl g6 2 18 rfl O6 Tryz.underlying31 rfl tA LC.out CH zI.out ?_)
      |fail)
     refine(OH.out _ V6).mono ?_
     rintro e x7 ⟨rfl,d7⟩
     have C7:=C6.trans (d7.mono C6.size)
     have O7:=O6.stays d7
     have U7:=U6.stays d7
     have c20:=(O7.cell 20).trans k20
     go_wp2_with (first
      |(refine iA 82 rfl ?_;refine QC rfl 31 _ rfl g6 2 18 rfl O7 Tryz.underlying31 rfl tA LC.out CH zI.out ?_)
      |(refine iA 84 rfl ?_;refine QC rfl 31 _ rfl g4 1 18 rfl U7 Tryz.underlying31 rfl tA LU.out UH gD.out ?_))
     go_meet
     exact⟨rfl,O7,C7⟩
   ·have AI:Hid (co=false):=zA7 (by simpa using hco)
    have CQ:pub=false:=by
     cases pub with
     |false=>rfl
     |true=>exact absurd ⟨rfl,AI.out⟩ hx3
    subst CQ
    clear hco hx3 hx4
    cases cs<;>cases us<;>cases sm<;>simp at hx hx2
    all_goals
     clear GC HS2 YO ZO HT1 HT2 HT3 YD key
     go_wp2_with (first
      |(refine iA 69 rfl ?_;refine QC rfl 31 _ rfl g6 2 18 rfl O6 Tryz.underlying31 rfl tA LC.out CH zI.out ?_)
      |fail)
     refine(OH.out _ V6).mono ?_
     rintro e x7 ⟨rfl,d7⟩
     have C7:=C6.trans (d7.mono C6.size)
     have O7:=O6.stays d7
     have U7:=U6.stays d7
     have c20:=(O7.cell 20).trans k20
     go_wp2_with (first
      |(refine iA 81 rfl ?_;refine FA (by have h:=AI.out;subst h;rfl) ?_;go_simp;refine FA (by have h:=AI.out;subst h;rfl) ?_;go_simp;refine FA (by have h:=AI.out;subst h;rfl) ?_;go_simp;refine FA (by have h:=AI.out;subst h;rfl) ?_;go_simp;refine FA (by have h:=AI.out;subst h;rfl) ?_;go_simp)
      |(refine iA 86 rfl ?_;refine rAx (by rfl) _ _ _ rfl (by have h:=AI.out;subst h;rfl) (.bool false) rfl ?_))
     all_goals first
      |(go_meet;exact⟨rfl,O7,C7⟩)
      |exact absurd (AI.out.symm.trans (by assumption:co=true)) (by decide)
  case rest=>
  obtain⟨rfl,O8,C8⟩:=hcut
  clear c20 mT c24 b0 O6 U6 W6 V6 C6 GC HS2 YO ZO OH LC zI LU gD UO p0
  have c0:=(O8.cell 0).trans k0
  go_wp2_with fail
  refine(xC.out _).mono ?_
  rintro e x9 ⟨rfl,d9⟩
  have C9:=C8.trans (d9.mono C8.size)
  have O9:=O8.stays d9
  have c0:=(O9.cell 0).trans k0
  have c1:=(O9.cell 1).trans k1
  have c20:=(O9.cell 20).trans k20
  have c21:=(O9.cell 21).trans k21
  have mT:=(O9.cell 22).trans k22
  clear O8 C8 d9 xC
  rcases YD.out with rfl|rfl|rfl
  ·have h3:=HT3.out
   clear HT1 HT2 HT3 YD
   cases dn
   ·clear h3
    go_wp2
    go_ret
    exact⟨rfl,C9⟩
   ·obtain⟨pz,hpz⟩: ∃b,(pv==0)=b:=⟨_,rfl⟩
    have hor:pz=true\/cs=true:=by
     rcases h3 with e|e|e
     ·cases e
     ·left;rw[<-hpz,e];rfl
     ·exact .inr e
    clear h3
    go_wp2_with fail
    refine(OM.out _).mono ?_
    rintro e xa ⟨rfl,da⟩
    have Ca:=C9.trans (da.mono C9.size)
    have mT:=((O9.stays da).cell 22).trans k22
    cases pz<;>cases cs<;>simp at hor
    all_goals
     go_wp2
     go_ret
     exact⟨rfl,Ca⟩
  ·have h3:=HT1.out rfl
   subst h3
   clear HT1 HT2 HT3 YD
   go_wp2
   go_ret
   exact⟨rfl,C9⟩
  ·obtain⟨e1,e2,e3⟩:=HT2.out rfl
   subst e1 e2 e3
   clear HT1 HT2 HT3 YD
   go_wp2
   go_ret
   exact⟨rfl,C9⟩
 ·have hkn:(k !=0)=true:=by simpa using hk0
  have hz:CC=gA Ma.oA:=by
   have e:=xE.out
   have:=Ad.oAF (rs:=rs) (u:=u) (h:=h) (now:=now) (by rw[e];exact hk0)
   rw[e]at this
   rw[<-nC.out]
   exact congrArg gA this
  subst hz
  have wD: ∀W,(binOp .eql 39 (.agg (gA Ma.oA)) (.agg (gA Ma.oA))).run Tryz.prog W= .ok (.bool true) W:=fun W=>bQ Ma.oA rfl W
  clear xE HG MF WG LE NF hk0 ul cl nC
  go_wp2_with (refine iA 46 rfl ?_;refine qA rfl 39 _ rfl g6 rfl O6 Tryz.underlying39 rfl IC.out ?_)
  go_ret
  exact⟨rfl,C6⟩
end Go.Proofs.YtabgoobcliijeaaGreatDoor
