/- The walk of the law AdmitFreely. -/
import Derived.Test.YtabgoobcliijeaaGreatDoorY31
import Derived.Test.YtabgoobcliijeaaGreatDoorY35
set_option maxHeartbeats 16000000
set_option maxRecDepth 100000
namespace Go.Proofs.YtabgoobcliijeaaGreatDoor
open Go.RowKit Go.Maps
theorem eA3 {P:Program}{ops:Array Oper}{S:World->Prop}{o:Oper}{a:Act}(hw:Region.wanted o (yielded ops a.tmps)=true)(ty:TypeId)(x:Operand)(ho:o.op= .load ty x)
  (g off n:Nat)(hx:a.eval x= .pointer (some ⟨g,off,none⟩)){t:TypeId}{cs:Array Value}{d:TypeDesc}(hS: ∀w,S w->Row w g t cs)
  (hu:P.underlying ty=some d)(hd:(match d with| .struct _| .array _ _=>true|_=>false)=true)(hi:(P.info? ty).map (·.size)=some n)(hle:off+n<=cs.size)(ds:Array Value)(hds:cs.extract off (off+n)=ds):YieldsIf P ops S o (.agg ds) a:=
 .inl ⟨hw,fun w hs=>by
  have hg:=hS w hs
  have hlen:(cs.extract off (off+n)).toList.length=n:=by rw[Array.length_toList,Array.size_extract];omega
  have hl:(loadCells ⟨g,off,none⟩ (cs.extract off (off+n)).toList.length).run P w= .ok (cs.extract off (off+n)).toList.toArray w:=
   run_loadCells_list (P:=P) w ⟨g,off,none⟩ (cs.extract off (off+n)).toList (fun j v hv=>by
    have hadd:(⟨g,off,none⟩:Addr).add j=⟨g,off+j,none⟩:=by unfold Addr.add;split<;>simp_all
    rw[hadd,hg.cell]
    rw[Array.getElem?_toList]at hv
    rw[Array.getElem?_extract]at hv
    split at hv
    ·exact hv
    ·cases hv)
  rw[hlen,Array.toArray_toList,hds]at hl
  have hagg:(isAgg ty).run P w= .ok true w:=by
   unfold isAgg
   rw[Sem.run_bind,run_underlying hu w]
   cases d<;>simp_all
  have hv:(loadVar ty ⟨g,off,none⟩).run P w= .ok (.agg ds) w:=by
   cases hq:P.info? ty with
   |none=>simp[hq]at hi
   |some i=>
    have hs:i.size=n:=by simpa[hq]using hi
    simp[loadVar,Sem.run_bind,hagg,sizeOf,typeInfo,hq,hs,hl]
  unfold execOp
  simp only[ho,hx,Instr.loadAt,Instr.sureAddr,Sem.run_bind,Sem.run_pure,Result.andThen_ok,hv]⟩
theorem fA3(rs:List Ru.Rule)(a nm:ByteArray)(w:World)(v:Value)(hv:ZD w v rs/\rs.length<=maxLen/\ ∀r∈rs,r.name.length<=maxLen)(_ha:a.size<=maxLen)(_hb:nm.size<=maxLen)(ha:a.size<=1048576)(hb:nm.size<=1048576)(hw:uB w):
  Calls Tryz.prog 8 #[v,.string a,.string nm] w fun e w'=>e= .returned (.bool true)/\Below w.heap.size w w':=by
 have HA:=zA7 (fun W hW=>WK W hW)
 unfold zJ at HA
 have z0:=iJ
 have z1:=jG
 have z2:=iG
 obtain⟨hv,hrl,hrn⟩:=hv
 have l2:(⟨#[61,49]⟩:ByteArray).size=2:=rfl
 have ov: ¬9223372036854775807<nm.size+2:=by omega
 obtain⟨⟨n,u⟩,hu⟩: ∃o,Ur.parse a.data.toList=o:=⟨_,rfl⟩
 obtain⟨⟨m,h⟩,hh⟩: ∃o,Hd.parse (nm++(⟨#[61,49]⟩:ByteArray)).data.toList=o:=⟨_,rfl⟩
 have HB:=zA7 (fun W=>NI a (nm++(⟨#[61,49]⟩:ByteArray)) hu hh ha (by rw[ByteArray.size_append,l2];omega) W)
 have ul:u.host.addr.length=16:=by have:=Ur.gO a.data.toList;rw[hu]at this;exact this
 have IU:=zA7 (show(Tryz.prog.info? 33).map (·.size)=some (pA u).size by rw[aC u ul];exact qB)
 have SU:=zA7 (show(pA u).size=(pA Ur.zero).size by rw[aC u ul];rfl)
 have OU:=zA7 (kE u)
 have IV:=zA7 (show(Tryz.prog.info? 35).map (·.size)=some (headA h).size from WA)
 have SV:=zA7 (show(headA h).size=(headA Hd.zero).size from rfl)
 have OV:=zA7 (DC h)
 obtain⟨nb,hnb⟩: ∃t:ByteArray,t=⟨h.name.toArray⟩:=⟨_,rfl⟩
 obtain⟨vb,hvb⟩: ∃t:ByteArray,t=⟨h.value.toArray⟩:=⟨_,rfl⟩
 have g0:(headA h)[0]? =some (.string nb):=by rw[hnb];rfl
 have g1:(headA h)[1]? =some (.string vb):=by rw[hvb];rfl
 have VG:=SY nb vb
 have hnl:nb.data.toList=h.name:=by rw[hnb]
 have hvl:vb.data.toList=h.value:=by rw[hvb]
 rw[hnl,hvl]at VG
 obtain⟨h2,DU⟩: ∃x:Hd.Head,{Hd.zero with name:=h.name,value:=h.value} =x:=⟨_,rfl⟩
 rw[DU]at VG
 have vS: ∀W,(binOp .neq 35 (.agg (headA h)) (.agg (headA h2))).run Tryz.prog W= .ok (.bool (!decide (Hd.Raw.of h=Hd.Raw.of h2))) W:=fun W=>bAk (Hd.Raw.of h) (Hd.Raw.of h2) W
 have BI:nb.toList.isEmpty=decide (h.name= []):=by rw[hnb,bI]
 obtain⟨U,hU⟩: ∃U,pA u=U:=⟨_,rfl⟩
 obtain⟨V,hV⟩: ∃V,headA h=V:=⟨_,rfl⟩
 obtain⟨V2,hV2⟩: ∃V,headA h2=V:=⟨_,rfl⟩
 rw[hU]at IU SU OU HB
 rw[hV]at IV SV OV HB g0 g1
 rw[hV,hV2]at vS
 rw[hV2]at VG
 have VG:=zA7 VG
 have HU:=zA7 hU
 have HV:=zA7 hV
 have EI:=zA7 hu
 have DI:=zA7 hh
 have HH2:=zA7 DU
 have rX:=zA7 hnb
 obtain⟨dn,hdn⟩: ∃b,decide (h.name= [])=b:=⟨_,rfl⟩
 obtain⟨de,hde⟩: ∃b,decide (Hd.Raw.of h=Hd.Raw.of h2)=b:=⟨_,rfl⟩
 rw[hdn]at BI
 rw[hde]at vS
 have iX:=zA7 hdn
 have xM:=zA7 hde
 have PM:Hid (nb.size<=1048576-> ∀W,Calls Tryz.prog 16 #[.string nb] W fun e w'=>e= .returned (.int .i64 (Ad.pre h.name))/\Below W.heap.size W w'):=zA7 (fun hs W=>by
  have:=VL nb W hs
  rw[hnl]at this
  exact this)
 have YD:=zA7 (Ad.kO h.name)
 obtain⟨pn,hpn⟩: ∃n,Ad.pre h.name=n:=⟨_,rfl⟩
 rw[hpn]at PM YD
 have RM:=zA7 hpn
 clear hU hV hV2 hu hh ha hb hnb hvb hnl hvl DU hdn hde hpn
 go_enter Tryz.func8,Tryz.ntmps8
 go_wp2_with fail
 refine(HA.out _ hw).mono ?_
 rintro e x1 ⟨rfl,C1⟩
 clear HA
 go_wp2_with fail
 refine(HB.out _).mono ?_
 rintro e x2 ⟨rfl,d2⟩
 have C2:=C1.trans (d2.mono C1.size)
 obtain⟨Z3,Y3,U3,W3,C3,L3⟩:=WF U V C2 C2.size
 clear C1 d2 HB L3 ov l2
 go_upto_region 4 with(first
  |(refine wpList_store_row rfl 33 _ _ rfl x2.heap.size U rfl rfl 33 _ Z3 IU.out (by rw[SU.out]) OU.out ?_)
  |(refine wpList_store_row rfl 35 _ _ rfl (x2.heap.size+1) V rfl rfl 35 _ Y3 IV.out (by rw[SV.out]) OV.out ?_))
 clear Z3 Y3 C2
 generalize(((x2.alloc (.cells (pA Ur.zero) 33)).alloc (.cells (headA Hd.zero) 35)).setRow x2.heap.size U).setRow (x2.heap.size+1) V=x3 at*
 generalize x2.heap.size=g4 at*
 have Q1:=Row.new x3 9 #[.string a,.string nm]
 have hq:=ON (ts:= [a,nm]) (c:=2) Q1 (by simp)
 have D1:=C3.alloc C3.size (.cells #[.string a,.string nm] 9)
 have RF:=zA7 (wN rs [a,nm] v (.slice (some ⟨x3.heap.size,0,none⟩) 2 2) (x3.alloc (.cells #[.string a,.string nm] 9)) (hv.stays D1) hq hrl hrn (by simp))
 have U4:=U3.alloc (.cells #[.string a,.string nm] 9)
 have W4:=W3.alloc (.cells #[.string a,.string nm] 9)
 clear Q1 hq U3 W3
 go_wp2_with fail
 generalize x3.alloc (.cells #[.string a,.string nm] 9)=x4 at*
 refine RF.out.mono ?_
 rintro e x5 ⟨rfl,d5⟩
 have C5:=D1.trans (d5.mono D1.size)
 have U5:=U4.stays d5
 have W5:=W4.stays d5
 clear RF D1 U4 W4 d5 C3
 cases hf:VE rs [a,nm]with
 |false=>
  clear hf
  go_wp2
  go_ret
  exact⟨rfl,C5⟩
 |true=>
 obtain⟨ok,hok⟩: ∃b,(decide (n=0)&&decide (m=0))=b:=⟨_,rfl⟩
 rw[hok]
 cases ok with
 |false=>
  clear hf hok
  go_wp2
  go_ret
  exact⟨rfl,C5⟩
 |true=>
 obtain⟨hn0,hm0⟩:n=0/\m=0:=by simpa using hok
 subst hn0 hm0
 have hu:=EI.out
 have hh:=DI.out
 obtain⟨f1,f2,f3⟩:=yN hf
 have fa:=f2 a (by simp)
 have pF: ∀r∈rs,r.name.length<=1000:=fun r hr=>by have:=f1 r hr;omega
 have cC:=Ur.eR a.data.toList
 rw[hu,Oct.nA]at cC
 have RG:u.host.name.length<=2500:=Nat.le_trans (show u.host.name.length<=a.size from cC.1) (by omega)
 have SG:u.path.length<=2501:=Nat.le_trans (show u.path.length<=a.size+1 from cC.2) (by omega)
 have hg:=Hd.AD hh
 have hright:=Ur.SL hu
 have BX:=zA7 (PM.out (by rw[rX.out,SE];have:=hg.few;omega))
 clear hf hok hu hh EI DI PM
 have c0:=(W5.cell 0).trans g0
 have c1:=(W5.cell 1).trans g1
 cases de with
 |false=>
  go_wp2_with (first
   |(refine iA 33 rfl ?_;refine qA rfl 35 _ rfl (g4+1) rfl W5 Tryz.underlying35 rfl IV.out ?_)
   |(refine iA 38 rfl ?_;refine CP rfl 35 _ rfl _ (by rfl) _ VG.out ?_))
  go_ret
  exact⟨rfl,C5⟩
 |true=>
 go_wp2_with (first
  |(refine iA 33 rfl ?_;refine qA rfl 35 _ rfl (g4+1) rfl W5 Tryz.underlying35 rfl IV.out ?_)
  |(refine iA 38 rfl ?_;refine CP rfl 35 _ rfl _ (by rfl) _ VG.out ?_))
 refine(BX.out _).mono ?_
 rintro e x6 ⟨rfl,d6⟩
 have C6:=C5.trans (d6.mono C5.size)
 have U6:=U5.stays d6
 have W6:=W5.stays d6
 clear C5 U5 W5 d6 c0 c1 BX
 have c0:=(W6.cell 0).trans g0
 rcases YD.out with hp0|hp0|hp0
 rotate_left
 ·subst hp0
  clear YD
  go_wp2
  go_ret
  exact⟨rfl,C6⟩
 ·subst hp0
  clear YD
  go_wp2
  go_ret
  exact⟨rfl,C6⟩
 subst hp0
 cases dn with
 |true=>
  go_wp2
  go_ret
  exact⟨rfl,C6⟩
 |false=>
 have heq:h= {Hd.zero with name:=h.name,value:=h.value} :=(Hd.bAF (zB1 xM.out)).trans HH2.out.symm
 obtain⟨ht,hen,hpa⟩:=Ad.oAG (rs:=rs) (u:=u) (now:=7) heq (of_decide_eq_false iX.out) RM.out (by decide) (by decide)
 have gI:h.secure=false:=by rw[heq];rfl
 have htk:=Ad.FH (rs:=rs) (now:=7) hright hg
 rw[ht]at htk
 obtain⟨k,hk⟩: ∃k:Int,k=0:=⟨_,rfl⟩
 obtain⟨c,hc⟩: ∃c,Ad.kB u h 7 u.host true=c:=⟨_,rfl⟩
 rw[hc,<-hk]at htk
 have HK:=zA7 hk
 clear hk
 have cl:c.host.addr.length=16:=by rw[<-hc];exact ul
 have HN:=zA7 (fun W hW hV=>gK rs v W hW hV (by omega) pF)
 unfold dH at HN
 have HT:=zA7 (fun n₀ tb mb W hW hT=>JH rs u ul (by omega) (by omega) h (pI (.inl hg)) 7 htk n₀ tb mb W hW hT)
 rw[HU.out,HV.out]at HT
 have IC:=zA7 (show(Tryz.prog.info? 39).map (·.size)=some (gA c).size by rw[GD c cl];exact rD)
 have SC:=zA7 (show(gA c).size=(gA Ma.oA).size by rw[GD c cl];rfl)
 have OC:=zA7 (zE c)
 have LC:=zA7 (show 2+18<=(gA c).size by rw[GD c cl];decide)
 have zI:=zA7 (show(gA c).extract 2 (2+18)=fA u.host by rw[MP c cl,<-hc];rfl)
 have LU:=zA7 (show 1+18<=(pA u).size by rw[aC u ul];decide)
 have gD:=zA7 (gG u ul)
 have HQH: ∀W,(binOp .eql 31 (.agg (fA u.host)) (.agg (fA u.host))).run Tryz.prog W= .ok (.bool true) W:=fun W=>by
  have:=cI u.host u.host ul ul W
  rw[zA9 rfl]at this
  exact this
 obtain⟨pb,hpb⟩: ∃t:ByteArray,t=⟨(Ma.default u.path).toArray⟩:=⟨_,rfl⟩
 obtain⟨ub,hub⟩: ∃t:ByteArray,t=⟨u.path.toArray⟩:=⟨_,rfl⟩
 have gX:Hid (∀W,Calls Tryz.prog 19 #[.string ub] W fun e w'=>e= .returned (.string pb)/\W=w'):=zA7 (fun W=>by
  have:=cAp ub W (by rw[<-Oct.nA,hub];show u.path.length<=_;omega)
  rw[hub]at this⊢
  rw[hpb]
  exact this)
 have k0:(gA c)[0]? =some (.string nb):=by rw[uT,<-hc,rX.out];rfl
 have k20:(gA c)[20]? =some (.bool true):=by rw[aL c cl,<-hc];rfl
 have k21:(gA c)[21]? =some (.string pb):=by rw[bL c cl,<-hc,hpb,<-hpa];rfl
 have k22:(gA c)[22]? =some (.bool false):=by rw[NP c cl,<-hc,<-gI];rfl
 have k25:(gA c)[25]? =some (.int .i64 9223372036854775807):=by
  rw[ZK c cl,<-hc]
  show some (Value.int .i64 (Ad.ends h 7))=_
  rw[hen];rfl
 have eO:(pA u)[20]? =some (.string ub):=by rw[hub];exact vI u ul
 rw[HU.out]at LU gD eO
 obtain⟨CC,qH⟩: ∃C,gA c=C:=⟨_,rfl⟩
 rw[qH]at IC SC OC HT LC zI k0 k20 k21 k22 k25
 have WE:=hw.below C6
 have V5:=hv.stays C6
 have CN:=zA7 (fun W (hC:Below x6.heap.size x6 W)=>HN.out W (WE.below hC).UE.std (V5.stays hC))
 have CT:=zA7 (fun n₀ tb mb W (hC:Below x6.heap.size x6 W) hT=>HT.out n₀ tb mb W (WE.below hC) hT)
 clear HN HT heq ht hen hpa gI htk cl qH f1 f2 f3 fa pF cC RG SG hg hright ul hpb hub YD iX xM RM vS hrl hrn
 generalize fA u.host=UH at*
 go_upto_region 6 with fail
 have RR:=zA7 (fun W (hC:Below x6.heap.size x6 W)=>U6.stays hC)
 have SS:=zA7 (fun W (hC:Below x6.heap.size x6 W)=>W6.stays hC)
 go_cut [10,11] (fun sa sb wx=> ∃g,sa= .pointer (some ⟨g,0,none⟩)/\sb= .int .i64 k/\Row wx g 39 CC/\Below x6.heap.size x6 wx)
 case first=>as_aux_lemma=>
  refine wp_region_held_drew (S:=(fun W=>Below x6.heap.size x6 W)) (by kernel_rfl) (Below.refl _ _).drew (fun hS=>?_)
  generalize x6.drew=u0 at*
  refine mA (i:=0) rfl ?_
  refine uD (i:=2) rfl (lC (by rfl) _ _ rfl _ rfl RR.out Tryz.underlying33 rfl IU.out) ?_
  refine uD (i:=3) rfl (lC (by rfl) _ _ rfl _ rfl SS.out Tryz.underlying35 rfl IV.out) ?_
  refine wpAnyH_ready (rs:= [1,8]) (by kernel_rfl) (by simp) (AllReadyH.cons rfl (fun K hK=>?_) (AllReadyH.cons rfl (fun K hK=>?_) AllReadyH.nil))
  ·rw[if_pos (by rfl)]
   go_simp
   refine(CN.out u0 hS).mono ?_
   rintro e y1 ⟨tb,mb,rfl,T1,d1⟩
   have S1:=Below.trans hS (d1.mono (Below.size hS))
   go_wp2_with fail
   refine hK.out _ _ S1 (fun _=>?_)
   clear hK K
   refine wpAnyH_ready (rs:= [4,8]) (by kernel_rfl) (by simp) (AllReadyH.cons rfl (fun K hK=>?_) (AllReadyH.cons rfl (fun K hK=>?_) AllReadyH.nil))
   ·rw[if_pos (by rfl)]
    go_simp
    refine(CT.out _ tb mb y1 S1 T1).mono ?_
    rintro e y2 ⟨rfl,d2⟩
    have S2:=Below.trans S1 (d2.mono (Below.size S1))
    go_wp2_with fail
    refine hK.out _ _ S2 (fun _=>?_)
    clear hK K
    refine mA (i:=5) rfl ?_
    refine mA (i:=6) rfl ?_
    refine mA (i:=7) rfl ?_
    refine wpAnyH_ready (rs:= [8]) (by kernel_rfl) (by simp) (AllReadyH.cons rfl (fun K hK=>?_) AllReadyH.nil)
    have Z3:=Row.new y2 39 (gA Ma.oA)
    rw[if_pos (by rfl)]
    go_simp
    have S3:=Below.alloc S2 (Below.size S2) (.cells (gA Ma.oA) 39)
    refine hK.out _ _ S3 (fun _=>?_)
    clear hK K
    refine yA (i:=9) fun K hK=>?_
    refine wp_store_row 39 _ _ rfl y2.heap.size CC rfl rfl 39 _ Z3 IC.out (by rw[SC.out]) OC.out ?_
    have S4:=below_setRow S3 (Below.size S2) CC
    have O4:=Row.whole Z3 CC
    refine hK.out _ _ S4 (fun _=>?_)
    clear hK K
    refine mA (i:=10) rfl ?_
    refine wpAnyH_done (by kernel_rfl) ?_ _
    go_wp2
    go_meet
    exact⟨y2.heap.size,rfl,rfl,O4,S4⟩
   ·have Z2:=Row.new y1 39 (gA Ma.oA)
    have T2:=T1.stays ((Below.refl y1.heap.size y1).alloc (zB3 _) (.cells (gA Ma.oA) 39))
    have zH:=Below.size S1
    rw[if_pos (by rfl)]
    go_simp
    have S2:=Below.alloc S1 (Below.size S1) (.cells (gA Ma.oA) 39)
    refine hK.out _ _ S2 (fun _=>?_)
    clear hK K
    generalize hy1:y1.alloc (.cells (gA Ma.oA) 39)=y2 at*
    generalize y1.heap.size=g1 at*
    refine yA (i:=4) fun K hK=>?_
    go_simp
    refine(CT.out _ tb mb y2 S2 T2).mono ?_
    rintro e y3 ⟨rfl,d3⟩
    have S3:=Below.trans S2 (d3.mono (Below.size S2))
    go_wp2_with fail
    refine hK.out _ _ S3 (fun _=>?_)
    clear hK K
    refine mA (i:=5) rfl ?_
    refine mA (i:=6) rfl ?_
    refine mA (i:=7) rfl ?_
    have Z3:=Z2.stays d3
    refine yA (i:=9) fun K hK=>?_
    refine wp_store_row 39 _ _ rfl g1 CC rfl rfl 39 _ Z3 IC.out (by rw[SC.out]) OC.out ?_
    have S4:=below_setRow S3 zH CC
    have O4:=Row.whole Z3 CC
    refine hK.out _ _ S4 (fun _=>?_)
    clear hK K
    refine mA (i:=10) rfl ?_
    refine wpAnyH_done (by kernel_rfl) ?_ _
    go_wp2
    go_meet
    exact⟨g1,rfl,rfl,O4,S4⟩
  ·have Z1:=Row.new u0 39 (gA Ma.oA)
   have jI:=Below.size hS
   rw[if_pos (by rfl)]
   go_simp
   have S1:=Below.alloc hS (Below.size hS) (.cells (gA Ma.oA) 39)
   refine hK.out _ _ S1 (fun _=>?_)
   clear hK K
   generalize u0.alloc (.cells (gA Ma.oA) 39)=y1 at*
   generalize u0.heap.size=g1 at*
   refine yA (i:=1) fun K hK=>?_
   go_simp
   refine(CN.out y1 S1).mono ?_
   rintro e y2 ⟨tb,mb,rfl,T2,d2⟩
   have S2:=Below.trans S1 (d2.mono (Below.size S1))
   go_wp2_with fail
   refine hK.out _ _ S2 (fun _=>?_)
   clear hK K
   have Z2:=Z1.stays d2
   refine yA (i:=4) fun K hK=>?_
   go_simp
   refine(CT.out _ tb mb y2 S2 T2).mono ?_
   rintro e y3 ⟨rfl,d3⟩
   have S3:=Below.trans S2 (d3.mono (Below.size S2))
   go_wp2_with fail
   refine hK.out _ _ S3 (fun _=>?_)
   clear hK K
   refine mA (i:=5) rfl ?_
   refine mA (i:=6) rfl ?_
   refine mA (i:=7) rfl ?_
   have Z3:=Z2.stays d3
   refine yA (i:=9) fun K hK=>?_
   refine wp_store_row 39 _ _ rfl g1 CC rfl rfl 39 _ Z3 IC.out (by rw[SC.out]) OC.out ?_
   have S4:=below_setRow S3 jI CC
   have O4:=Row.whole Z3 CC
   refine hK.out _ _ S4 (fun _=>?_)
   clear hK K
   refine mA (i:=10) rfl ?_
   refine wpAnyH_done (by kernel_rfl) ?_ _
   go_wp2
   go_meet
   exact⟨g1,rfl,rfl,O4,S4⟩
 case rest=>
 obtain⟨g6,rfl,rfl,O6,D6⟩:=hcut
 clear RR SS CN CT
 have C7:=C6.trans (D6.mono C6.size)
 have U7:=U6.stays D6
 have W7:=W6.stays D6
 have hk:=HK.out
 subst hk
 have RC:=zA7 (fun W (hC:Below wc.heap.size wc W)=>O6.stays hC)
 have RU:=zA7 (fun W (hC:Below wc.heap.size wc W)=>U7.stays hC)
 have RV:=zA7 (fun W (hC:Below wc.heap.size wc W)=>W7.stays hC)
 have DD:Hid (∀W,Below wc.heap.size wc W->Calls Tryz.prog 19 #[.string ub] W fun e w'=>e= .returned (.string pb)/\Below wc.heap.size wc w'):=zA7 (fun W hC=>(gX.out W).mono (fun e w' ⟨e1,e2⟩=>⟨e1,by rw[<-e2];exact hC⟩))
 clear C6 U6 W6 U7 W7 O6 WE V5 D6 gX
 go_wp2_with fail
 refine rE (C:=fun W=>Below wc.heap.size wc W) (by kernel_rfl) (by kernel_rfl) (Below.refl _ _).drew ?_
 refine kA ?_
 refine kA ?_
 refine kA ?_
 refine kA ?_
 refine kA ?_ (v:= .bool true) (hv:=fun wq hC=>by have hcell:=((RC.out wq hC).cell 20).trans k20;go_simp;try with_reducible rfl)
 refine kA ?_
 refine kA ?_
 refine kA ?_
 refine oB (eA3 (by rfl) _ _ rfl g6 2 18 rfl RC.out Tryz.underlying31 rfl tA LC.out UH zI.out) ?_
 refine kA ?_
 refine oB (eA3 (by rfl) _ _ rfl g4 1 18 rfl RU.out Tryz.underlying31 rfl tA LU.out UH gD.out) ?_
 refine kA ?_
 refine kA ?_
 refine kA ?_
 refine kA ?_
 refine kA ?_ (v:= .int .i64 9223372036854775807) (hv:=fun wq hC=>by have hcell:=((RC.out wq hC).cell 25).trans k25;go_simp;try with_reducible rfl)
 refine kA ?_
 refine kA ?_
 refine kA ?_
 refine kA ?_
 refine kA ?_ (v:= .string pb) (hv:=fun wq hC=>by have hcell:=((RC.out wq hC).cell 21).trans k21;go_simp;try with_reducible rfl)
 refine kA ?_
 refine kA ?_ (v:= .string ub) (hv:=fun wq hC=>by have hcell:=((RU.out wq hC).cell 20).trans eO;go_simp;try with_reducible rfl)
 refine QD (.string pb) (fun wq hC=>by unfold Oper.quietAt;go_simp;exact DD.out wq hC) ?_
 refine kA ?_
 refine kA ?_
 refine kA ?_
 refine kA ?_
 refine kA ?_ (v:= .bool false) (hv:=fun wq hC=>by have hcell:=((RC.out wq hC).cell 22).trans k22;go_simp;try with_reducible rfl)
 refine kA ?_
 refine kA ?_
 refine kA ?_
 refine kA ?_
 refine kA ?_ (v:= .string nb) (hv:=fun wq hC=>by have hcell:=((RC.out wq hC).cell 0).trans k0;go_simp;try with_reducible rfl)
 refine kA ?_
 refine kA ?_ (v:= .string nb) (hv:=fun wq hC=>by have hcell:=((RV.out wq hC).cell 0).trans g0;go_simp;try with_reducible rfl)
 refine kA ?_
 refine kA ?_
 refine kA ?_
 refine wpQuiet_nil ?_
 intro w' hC
 go_wp2
 go_ret
 exact⟨rfl,C7.trans (hC.mono C7.size)⟩
end Go.Proofs.YtabgoobcliijeaaGreatDoor
