/- The walk of the law AdmitRaw. -/
import Derived.Test.YtabgoobcliijeaaGreatDoorY31
import Derived.Test.YtabgoobcliijeaaGreatDoorY35
set_option maxHeartbeats 16000000
set_option maxRecDepth 100000
namespace Go.Proofs.YtabgoobcliijeaaGreatDoor
open Go.RowKit Go.Maps
theorem aAo {n:Int}(h:(Lit.int .i64 n).wf=true): -9223372036854775808<=n/\n<=9223372036854775807:=by
 simp only[Lit.wf,Bool.and_eq_true,decide_eq_true_eq]at h
 exact h
theorem fAi(u:Ur.URL)(r:Hd.Raw)(s:ByteArray)(w:World)(ul:u.host.addr.length=16)(_hk:(Lit.int .i64 u.host.kind).wf=true/\u.host.name.length<=maxLen)(_ho:(Lit.int .i64 u.port).wf=true)(_hp:u.path.length<=maxLen)(hr:YS r)(_hs:s.size<=maxLen)(hw:uB w):
  Calls Tryz.prog 5 #[.agg (pA u),.agg (uA r),.string s] w fun e w'=>e= .returned (.bool true)/\Below w.heap.size w w':=by
 have HA:=zA7 (fun W hW=>WK W hW)
 unfold zJ at HA
 have z2:=iG
 have VX:=zA7 (aAo hr.exp)
 have XM:=zA7 (aAo hr.age)
 clear hr
 obtain⟨t0,e0⟩: ∃t:ByteArray,t=⟨u.host.name.toArray⟩:=⟨_,rfl⟩
 obtain⟨t1,e1⟩: ∃t:ByteArray,t=⟨u.path.toArray⟩:=⟨_,rfl⟩
 obtain⟨t2,e2⟩: ∃t:ByteArray,t=⟨r.name.toArray⟩:=⟨_,rfl⟩
 obtain⟨t3,e3⟩: ∃t:ByteArray,t=⟨r.value.toArray⟩:=⟨_,rfl⟩
 obtain⟨t4,e4⟩: ∃t:ByteArray,t=⟨r.domain.toArray⟩:=⟨_,rfl⟩
 obtain⟨t5,e5⟩: ∃t:ByteArray,t=⟨r.path.toArray⟩:=⟨_,rfl⟩
 have q0:(pA u)[2]? =some (.string t0):=by rw[e0];rfl
 have q1:(pA u)[20]? =some (.string t1):=by rw[e1];exact vI u ul
 have q2:(uA r)[0]? =some (.string t2):=by rw[e2];rfl
 have q3:(uA r)[1]? =some (.string t3):=by rw[e3];rfl
 have q4:(uA r)[2]? =some (.string t4):=by rw[e4];rfl
 have q5:(uA r)[3]? =some (.string t5):=by rw[e5];rfl
 obtain⟨⟨k,c⟩,hk⟩: ∃o,Ad.bD [] u r 9=o:=⟨_,rfl⟩
 have cl:c.host.addr.length=16:=by have:=Ad.BR [] u r 9 ul;rw[hk]at this;exact this
 have uM:Hid (VE [] [t0,t1,t2,t3,t4,t5,s]=true->(u.host.name.length<=2500/\u.path.length<=2500)/\eH r/\s.size<=2500):=zA7 (fun h=>by
  obtain⟨_,f2,_⟩:=yN h
  have g0:=f2 t0 (by simp)
  have g1:=f2 t1 (by simp)
  have g2:=f2 t2 (by simp)
  have g3:=f2 t3 (by simp)
  have g4:=f2 t4 (by simp)
  have g5:=f2 t5 (by simp)
  rw[e0,SE]at g0
  rw[e1,SE]at g1
  rw[e2,SE]at g2
  rw[e3,SE]at g3
  rw[e4,SE]at g4
  rw[e5,SE]at g5
  exact⟨⟨g0,g1⟩,⟨by omega,by omega,by omega,g4,g5,VX.out,XM.out⟩,f2 s (by simp)⟩)
 have HN:=zA7 (fun W hW=>gK [] (.slice none 0 0) W hW (WQ W) (by decide) (by simp))
 unfold dH at HN
 have HT:Hid (VE [] [t0,t1,t2,t3,t4,t5,s]=true-> ∀n₀ tb mb W,uB W->TabAt W n₀ tb mb (Sx.new [])->Calls Tryz.prog 12 #[.pointer (some ⟨tb,0,none⟩),.agg (pA u),.agg (uA r),.int .i64 9] W fun e w'=>e= .returned (.tuple #[.agg (gA c),.int .i64 k])/\Below W.heap.size W w'):=zA7 (fun h n₀ tb mb W hW hT=>by
  obtain⟨⟨g0,g1⟩,g2,g3⟩:=uM.out h
  have:=rY [] u ul (by omega) (by omega) r (cAc g2) 9 n₀ tb mb W hW hT
  unfold yD at this
  rw[hk]at this
  exact this)
 have HR:Hid (VE [] [t0,t1,t2,t3,t4,t5,s]=true-> ∀W,Calls Tryz.prog 14 #[.slice none 0 0,.agg (pA u),.agg (uA r),.int .i64 9] W fun e w'=>e= .returned (.tuple #[.agg (gA c),.int .i64 k])/\Below W.heap.size W w'):=zA7 (fun h W=>by
  obtain⟨⟨g0,g1⟩,g2,g3⟩:=uM.out h
  have:=cAt [] (.slice none 0 0) u ul (by omega) (by omega) r g2 9 W (WQ W) (by decide) (by simp)
  unfold yD at this
  rw[hk]at this
  exact this)
 have xC:Hid (VE [] [t0,t1,t2,t3,t4,t5,s]=true-> ∀W,Calls Tryz.prog 15 #[.string s] W fun e w'=>e= .returned (.int .i64 (Ad.pre s.data.toList))/\Below W.heap.size W w'):=zA7 (fun h W=>JV s W (by have:=(uM.out h).2.2;omega))
 have OM:Hid (VE [] [t0,t1,t2,t3,t4,t5,s]=true-> ∀W,Calls Tryz.prog 16 #[.string s] W fun e w'=>e= .returned (.int .i64 (Ad.pre s.data.toList))/\Below W.heap.size W w'):=zA7 (fun h W=>VL s W (by have:=(uM.out h).2.2;omega))
 have IU:=zA7 (show(Tryz.prog.info? 33).map (·.size)=some (pA u).size by rw[aC u ul];exact qB)
 have SU:=zA7 (show(pA u).size=(pA Ur.zero).size by rw[aC u ul];rfl)
 have OU:=zA7 (kE u)
 have IC:=zA7 (show(Tryz.prog.info? 39).map (·.size)=some (gA c).size by rw[GD c cl];exact rD)
 have SC:=zA7 (show(gA c).size=(gA Ma.oA).size by rw[GD c cl];rfl)
 have OC:=zA7 (zE c)
 have IV:=zA7 (show(Tryz.prog.info? 35).map (·.size)=some (uA r).size from WA)
 have wD: ∀W,(binOp .eql 39 (.agg (gA c)) (.agg (gA c))).run Tryz.prog W= .ok (.bool true) W:=fun W=>bQ c cl W
 have R0:=Row.new w 33 (pA u)
 have B0:=(Below.refl w.heap.size w).alloc (zB3 _) (.cells (pA u) 33)
 have hN:(w.alloc (.cells (pA u) 33)).heap.size=w.heap.size+1:=by simp
 have S0:=Row.new (w.alloc (.cells (pA u) 33)) 35 (uA r)
 rw[hN]at S0
 have R0:=R0.alloc (.cells (uA r) 35)
 have C0:=B0.alloc B0.size (.cells (uA r) 35)
 clear B0 hN hk cl uM VX XM e0 e1 e2 e3 e4 e5 _hk _ho _hp _hs ul
 generalize Ad.pre s.data.toList=pr at*
 generalize gA c=CC at*
 generalize pA u=U at*
 generalize uA r=V at*
 go_enter Tryz.func5,Tryz.ntmps5
 go_wp2_with fail
 generalize(w.alloc (.cells U 33)).alloc (.cells V 35)=x0 at*
 refine(HA.out _ (hw.below C0)).mono ?_
 rintro e x1 ⟨rfl,d1⟩
 have C1:=C0.trans (d1.mono C0.size)
 have R1:=R0.stays d1
 have S1:=S0.stays d1
 clear R0 S0 C0 d1 HA
 have c0:=(R1.cell 2).trans q0
 have c1:=(R1.cell 20).trans q1
 have c2:=(S1.cell 0).trans q2
 have c3:=(S1.cell 1).trans q3
 have c4:=(S1.cell 2).trans q4
 have c5:=(S1.cell 3).trans q5
 have Q1:=Row.new x1 9 #[.string t0,.string t1,.string t2,.string t3,.string t4,.string t5,.string s]
 have hq:=ON (ts:= [t0,t1,t2,t3,t4,t5,s]) (c:=7) Q1 (by simp)
 have D1:=C1.alloc C1.size (.cells #[.string t0,.string t1,.string t2,.string t3,.string t4,.string t5,.string s] 9)
 have RF:=zA7 (wN [] [t0,t1,t2,t3,t4,t5,s] (.slice none 0 0) (.slice (some ⟨x1.heap.size,0,none⟩) 7 7) (x1.alloc (.cells #[.string t0,.string t1,.string t2,.string t3,.string t4,.string t5,.string s] 9)) (WQ _) hq (by decide) (by simp) (by simp))
 have R2:=R1.alloc (.cells #[.string t0,.string t1,.string t2,.string t3,.string t4,.string t5,.string s] 9)
 have S2:=S1.alloc (.cells #[.string t0,.string t1,.string t2,.string t3,.string t4,.string t5,.string s] 9)
 clear Q1 hq q0 q1 q2 q3 q4 q5
 go_wp2_with fail
 generalize x1.alloc (.cells #[.string t0,.string t1,.string t2,.string t3,.string t4,.string t5,.string s] 9)=x2 at*
 refine RF.out.mono ?_
 rintro e x3 ⟨rfl,d3⟩
 have C3:=D1.trans (d3.mono D1.size)
 have R3:=R2.stays d3
 have S3:=S2.stays d3
 clear RF D1 R2 S2 d3 R1 S1 c0 c1 c2 c3 c4 c5 C1
 generalize VE [] [t0,t1,t2,t3,t4,t5,s]=ff at*
 cases ff with
 |false=>
  clear HT HR xC OM
  go_wp2
  go_ret
  exact⟨rfl,C3⟩
 |true=>
 have NX:=zA7 (HT.out rfl)
 have GX:=zA7 (HR.out rfl)
 have LF:=zA7 (xC.out rfl)
 have yF:=zA7 (OM.out rfl)
 clear HT HR xC OM
 have nU:=hw.below C3
 have CN:=zA7 (fun W (hC:Below x3.heap.size x3 W)=>HN.out W (nU.below hC).UE.std)
 have CT:=zA7 (fun n₀ tb mb W (hC:Below x3.heap.size x3 W) hT=>NX.out n₀ tb mb W (nU.below hC) hT)
 clear HN NX
 go_upto_region 5 with fail
 have RR:=zA7 (fun W (hC:Below x3.heap.size x3 W)=>R3.stays hC)
 have SS:=zA7 (fun W (hC:Below x3.heap.size x3 W)=>S3.stays hC)
 go_cut [7,8] (fun sa sb wx=> ∃g,sa= .pointer (some ⟨g,0,none⟩)/\sb= .int .i64 k/\Row wx g 39 CC/\Below x3.heap.size x3 wx)
 case first=>as_aux_lemma=>
  refine wp_region_held_drew (S:=(fun W=>Below x3.heap.size x3 W)) (by kernel_rfl) (Below.refl _ _).drew (fun hS=>?_)
  generalize x3.drew=u0 at*
  refine uD (i:=1) rfl (lC (by rfl) _ _ rfl _ rfl RR.out Tryz.underlying33 rfl IU.out) ?_
  refine uD (i:=2) rfl (lC (by rfl) _ _ rfl _ rfl SS.out Tryz.underlying35 rfl IV.out) ?_
  refine wpAnyH_ready (rs:= [0,7]) (by kernel_rfl) (by simp) (AllReadyH.cons rfl (fun K hK=>?_) (AllReadyH.cons rfl (fun K hK=>?_) AllReadyH.nil))
  ·rw[if_pos (by rfl)]
   go_simp
   refine(CN.out u0 hS).mono ?_
   rintro e y1 ⟨tb,mb,rfl,T1,d1⟩
   have S1:=Below.trans hS (d1.mono (Below.size hS))
   go_wp2_with fail
   refine hK.out _ _ S1 (fun _=>?_)
   clear hK K
   refine wpAnyH_ready (rs:= [3,7]) (by kernel_rfl) (by simp) (AllReadyH.cons rfl (fun K hK=>?_) (AllReadyH.cons rfl (fun K hK=>?_) AllReadyH.nil))
   ·rw[if_pos (by rfl)]
    go_simp
    refine(CT.out _ tb mb y1 S1 T1).mono ?_
    rintro e y2 ⟨rfl,d2⟩
    have S2:=Below.trans S1 (d2.mono (Below.size S1))
    go_wp2_with fail
    refine hK.out _ _ S2 (fun _=>?_)
    clear hK K
    refine mA (i:=4) rfl ?_
    refine mA (i:=5) rfl ?_
    refine mA (i:=6) rfl ?_
    refine wpAnyH_ready (rs:= [7]) (by kernel_rfl) (by simp) (AllReadyH.cons rfl (fun K hK=>?_) AllReadyH.nil)
    have Z3:=Row.new y2 39 (gA Ma.oA)
    rw[if_pos (by rfl)]
    go_simp
    have S3:=Below.alloc S2 (Below.size S2) (.cells (gA Ma.oA) 39)
    refine hK.out _ _ S3 (fun _=>?_)
    clear hK K
    refine yA (i:=8) fun K hK=>?_
    refine wp_store_row 39 _ _ rfl y2.heap.size CC rfl rfl 39 _ Z3 IC.out (by rw[SC.out]) OC.out ?_
    have S4:=below_setRow S3 (Below.size S2) CC
    have O4:=Row.whole Z3 CC
    refine hK.out _ _ S4 (fun _=>?_)
    clear hK K
    refine mA (i:=9) rfl ?_
    refine wpAnyH_done (by kernel_rfl) ?_ _
    go_wp2
    go_meet
    exact⟨y2.heap.size,rfl,rfl,O4,S4⟩
   ·have Z2:=Row.new y1 39 (gA Ma.oA)
    have T2:=T1.stays ((Below.refl y1.heap.size y1).alloc (zB3 _) (.cells (gA Ma.oA) 39))
    have zH:=Below.size S1
    rw[if_pos (by rfl)]
    go_simp
    have S2:=Below.alloc S1 (Below.size S1) (.cells (gA Ma.oA) 39)
    refine hK.out _ _ S2 (fun _=>?_)
    clear hK K
    generalize hy1:y1.alloc (.cells (gA Ma.oA) 39)=y2 at*
    generalize y1.heap.size=g1 at*
    refine yA (i:=3) fun K hK=>?_
    go_simp
    refine(CT.out _ tb mb y2 S2 T2).mono ?_
    rintro e y3 ⟨rfl,d3⟩
    have S3:=Below.trans S2 (d3.mono (Below.size S2))
    go_wp2_with fail
    refine hK.out _ _ S3 (fun _=>?_)
    clear hK K
    refine mA (i:=4) rfl ?_
    refine mA (i:=5) rfl ?_
    refine mA (i:=6) rfl ?_
    have Z3:=Z2.stays d3
    refine yA (i:=8) fun K hK=>?_
    refine wp_store_row 39 _ _ rfl g1 CC rfl rfl 39 _ Z3 IC.out (by rw[SC.out]) OC.out ?_
    have S4:=below_setRow S3 zH CC
    have O4:=Row.whole Z3 CC
    refine hK.out _ _ S4 (fun _=>?_)
    clear hK K
    refine mA (i:=9) rfl ?_
    refine wpAnyH_done (by kernel_rfl) ?_ _
    go_wp2
    go_meet
    exact⟨g1,rfl,rfl,O4,S4⟩
  ·have Z1:=Row.new u0 39 (gA Ma.oA)
   have jI:=Below.size hS
   rw[if_pos (by rfl)]
   go_simp
   have S1:=Below.alloc hS (Below.size hS) (.cells (gA Ma.oA) 39)
   refine hK.out _ _ S1 (fun _=>?_)
   clear hK K
   generalize u0.alloc (.cells (gA Ma.oA) 39)=y1 at*
   generalize u0.heap.size=g1 at*
   refine yA (i:=0) fun K hK=>?_
   go_simp
   refine(CN.out y1 S1).mono ?_
   rintro e y2 ⟨tb,mb,rfl,T2,d2⟩
   have S2:=Below.trans S1 (d2.mono (Below.size S1))
   go_wp2_with fail
   refine hK.out _ _ S2 (fun _=>?_)
   clear hK K
   have Z2:=Z1.stays d2
   refine yA (i:=3) fun K hK=>?_
   go_simp
   refine(CT.out _ tb mb y2 S2 T2).mono ?_
   rintro e y3 ⟨rfl,d3⟩
   have S3:=Below.trans S2 (d3.mono (Below.size S2))
   go_wp2_with fail
   refine hK.out _ _ S3 (fun _=>?_)
   clear hK K
   refine mA (i:=4) rfl ?_
   refine mA (i:=5) rfl ?_
   refine mA (i:=6) rfl ?_
   have Z3:=Z2.stays d3
   refine yA (i:=8) fun K hK=>?_
   refine wp_store_row 39 _ _ rfl g1 CC rfl rfl 39 _ Z3 IC.out (by rw[SC.out]) OC.out ?_
   have S4:=below_setRow S3 jI CC
   have O4:=Row.whole Z3 CC
   refine hK.out _ _ S4 (fun _=>?_)
   clear hK K
   refine mA (i:=9) rfl ?_
   refine wpAnyH_done (by kernel_rfl) ?_ _
   go_wp2
   go_meet
   exact⟨g1,rfl,rfl,O4,S4⟩
 case rest=>
 obtain⟨g6,rfl,rfl,O6,D6⟩:=hcut
 clear RR SS CN CT
 have C6:=C3.trans (D6.mono C3.size)
 have U6:=R3.stays D6
 have W6:=S3.stays D6
 clear R3 S3 C3 nU D6
 go_wp2_with (first|(refine iA 38 rfl ?_;refine qA rfl 33 _ rfl w.heap.size rfl U6 Tryz.underlying33 rfl IU.out ?_)|(refine iA 39 rfl ?_;refine qA rfl 35 _ rfl (w.heap.size+1) rfl W6 Tryz.underlying35 rfl IV.out ?_))
 refine(GX.out _).mono ?_
 rintro e x7 ⟨rfl,d7⟩
 have C7:=C6.trans (d7.mono C6.size)
 have O7:=O6.stays d7
 obtain⟨Z8,P8,C8,L8⟩:=JA 39 (gA Ma.oA) CC C7 C7.size
 have O8:=L8 _ _ _ O7
 clear L8 O7 C7 d7 O6 C6 U6 W6 GX
 go_wp2_with (first
  |(refine wpList_store_row rfl 39 _ _ rfl x7.heap.size CC rfl rfl 39 _ Z8 IC.out (by rw[SC.out]) OC.out ?_)
  |(refine iA 43 rfl ?_;refine qA rfl 39 _ rfl g6 rfl O8 Tryz.underlying39 rfl IC.out ?_)
  |(refine iA 44 rfl ?_;refine qA rfl 39 _ rfl x7.heap.size rfl P8 Tryz.underlying39 rfl IC.out ?_))
 clear Z8 O8 P8
 generalize(x7.alloc (.cells (gA Ma.oA) 39)).setRow x7.heap.size CC=x8 at*
 refine(LF.out _).mono ?_
 rintro e x9 ⟨rfl,d9⟩
 have C9:=C8.trans (d9.mono C8.size)
 go_wp2_with fail
 refine(yF.out _).mono ?_
 rintro e xa ⟨rfl,da⟩
 have Ca:=C9.trans (da.mono C9.size)
 go_wp2
 go_ret
 exact⟨rfl,Ca⟩
end Go.Proofs.YtabgoobcliijeaaGreatDoor
