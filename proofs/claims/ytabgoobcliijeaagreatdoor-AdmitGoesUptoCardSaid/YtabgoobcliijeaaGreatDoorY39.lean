/- Which requests a cookie goes with: the walks of package match, and of the reference. -/
import Derived.Test.YtabgoobcliijeaaGreatDoorY31
import Derived.Test.YtabgoobcliijeaaGreatDoorY35
set_option maxHeartbeats 16000000
set_option maxRecDepth 100000
namespace Go.Proofs.YtabgoobcliijeaaGreatDoor
open Go.RowKit
theorem kAr(l:List UInt8):(⟨l.toArray⟩:ByteArray).size=l.length:=List.size_toArray ..
end Go.Proofs.YtabgoobcliijeaaGreatDoor
namespace Go.Proofs.YtabgoobcliijeaaGreatDoor
open Go.RowKit
theorem mAU(c:Ma.bB)(r:Ma.Request)(now:Int)(ha:c.host.addr.length=16)(hra:r.host.addr.length=16)(hcs:c.host.name.length<=2900)(hrs:r.host.name.length<=2900)(hp:c.path.length<=1099511627776)(w:World):
  Calls Tryz.prog 18 #[.agg (gA c),.agg (tC r),.int .i64 now] w fun e w'=>e= .returned (.bool (Ma.sends c r now))/\Below w.heap.size w w':=by
 have HC:=zA7 (GD c ha)
 have iS:=zA7 (MP c ha)
 have HQ:=zA7 (cW r hra)
 have HX:=zA7 (nAb r hra)
 have H1:=zA7 (fun W=>cAj r.host c.host hra ha hrs hcs W)
 have H2:=zA7 (fun W=>mAG ⟨r.path.toArray⟩ ⟨c.path.toArray⟩ W (by rw[kAr];exact hp))
 have HR:=zA7 (Ma.nAV c r now)
 have lG:Hid (Ma.rN c.same r.cross=(decide (r.cross=0)||(decide (r.cross=1)&& !decide (c.same=3))||(decide (r.cross=2)&&decide (c.same=1)))):=zA7 rfl
 have q:=aO c.host r.host ha hra
 have k0:=aL c ha
 have k1:=bL c ha
 have k2:=NP c ha
 have k3:=wT c ha
 have k4:=ZK c ha
 have l0:=nAe r
 have l1:=nAd r hra
 have l2:=nAa r hra
 unfold lA at k1 l1
 generalize Ma.sends c r now=g at*
 change Hid (∀W,Calls Tryz.prog 37 #[.string ⟨r.path.toArray⟩,.string ⟨c.path.toArray⟩] W fun e w'=>e= .returned (.bool (Ma.path r.path c.path))/\W=w')at H2
 generalize Ma.path r.path c.path=b2 at*
 generalize Ma.rN c.same r.cross=b3 at*
 generalize Ma.domain r.host c.host=b1 at*
 generalize decide (c.host=r.host)=b4 at*
 generalize(⟨c.path.toArray⟩:ByteArray)=cp at*
 generalize(⟨r.path.toArray⟩:ByteArray)=rp at*
 generalize c.only=oc at*
 generalize c.secure=cs at*
 generalize r.secure=rs at*
 generalize c.same=sm at*
 generalize r.cross=cr at*
 generalize c.expires=ex at*
 generalize fA r.host=X at*
 generalize fA c.host=Y at*
 have R0:=Row.new w 39 (gA c)
 have B0:=(Below.refl w.heap.size w).alloc (zB3 _) (.cells (gA c) 39)
 have hN:(w.alloc (.cells (gA c) 39)).heap.size=w.heap.size+1:=by simp
 have S0:=Row.new (w.alloc (.cells (gA c) 39)) 53 (tC r)
 rw[hN]at S0
 have R1:=R0.alloc (.cells (tC r) 53)
 have C1:=B0.alloc B0.size (.cells (tC r) 53)
 clear R0 B0 hN ha hra hcs hrs hp
 generalize gA c=U at*
 generalize tC r=V at*
 have c0:=(R1.cell 20).trans k0
 have jAa:oc=false\/(oc=true/\b4=true)\/(oc=true/\b4=false):=by cases oc<;>cases b4<;>simp
 rcases jAa with rfl|⟨rfl,rfl⟩|⟨rfl,rfl⟩
 case inr.inr=>
  have HG2:Hid (g=false):=zA7 (by rw[HR.out];rfl)
  clear HR lG
  go_enter Tryz.func18,Tryz.ntmps18
  go_wp2_with (first
   |(refine iA 11 rfl ?_;refine QC rfl 31 _ rfl w.heap.size 2 18 rfl R1 Tryz.underlying31 rfl tA (by rw[HC.out];decide) Y iS.out ?_)
   |(refine iA 13 rfl ?_;refine QC rfl 31 _ rfl (w.heap.size+1) 1 18 rfl S0 Tryz.underlying31 rfl tA (by rw[HQ.out];decide) X HX.out ?_))
  go_ret
  exact⟨vA HG2.out.symm,C1⟩
 all_goals
  have FC:Hid (g=(b1&& (b2&& ((!cs||rs)&& (decide (now<ex)&&b3))))):=zA7 (by rw[HR.out];rfl)
  clear HR
  go_enter Tryz.func18,Tryz.ntmps18
  go_wp2_with (first
   |(refine iA 11 rfl ?_;refine QC rfl 31 _ rfl w.heap.size 2 18 rfl R1 Tryz.underlying31 rfl tA (by rw[HC.out];decide) Y iS.out ?_)
   |(refine iA 13 rfl ?_;refine QC rfl 31 _ rfl (w.heap.size+1) 1 18 rfl S0 Tryz.underlying31 rfl tA (by rw[HQ.out];decide) X HX.out ?_)
   |(refine iA 18 rfl ?_;refine QC rfl 31 _ rfl (w.heap.size+1) 1 18 rfl S0 Tryz.underlying31 rfl tA (by rw[HQ.out];decide) X HX.out ?_)
   |(refine iA 20 rfl ?_;refine QC rfl 31 _ rfl w.heap.size 2 18 rfl R1 Tryz.underlying31 rfl tA (by rw[HC.out];decide) Y iS.out ?_))
  generalize(w.alloc (.cells U 39)).alloc (.cells V 53)=x0 at*
  refine(H1.out _).mono ?_
  rintro e v1 ⟨rfl,d1⟩
  have C2:=C1.trans (d1.mono C1.size)
  have R2:=R1.stays d1
  have S2:=S0.stays d1
  have c1:=(R2.cell 21).trans k1
  have c2:=(R2.cell 22).trans k2
  have c3:=(R2.cell 24).trans k3
  have c4:=(R2.cell 25).trans k4
  have e0:=(S2.cell 0).trans l0
  have e1:=(S2.cell 19).trans l1
  have e2:=(S2.cell 20).trans l2
  clear R1 S0 C1 d1 k0 k1 k2 k3 k4 l0 l1 l2 R2 S2 H1 c0
  by_cases hx:now<ex
  ·have hx1: ¬ex<=now:=by omega
   rw[zA9 hx]at FC
   have hcase:b1=false\/(b1=true/\b2=false)\/(b1=true/\b2=true/\cs=true/\rs=false)\/(b1=true/\b2=true/\cs=true/\rs=true)\/(b1=true/\b2=true/\cs=false):=by cases b1<;>cases b2<;>cases cs<;>cases rs<;>simp
   clear hx
   rcases hcase with rfl|⟨rfl,rfl⟩|⟨rfl,rfl,rfl,rfl⟩|⟨rfl,rfl,rfl,rfl⟩|⟨rfl,rfl,rfl⟩
   case inl=>
    have HG2:Hid (g=false):=zA7 (by rw[FC.out];rfl)
    clear FC lG
    go_wp2
    go_ret
    exact⟨vA HG2.out.symm,C2⟩
   case inr.inl=>
    have HG2:Hid (g=false):=zA7 (by rw[FC.out];rfl)
    clear FC lG
    go_wp2_with (go_at_call 37;refine(H2.out _).mono ?_;rintro e w' ⟨rfl,rfl⟩)
    go_ret
    exact⟨vA HG2.out.symm,C2⟩
   case inr.inr.inl=>
    have HG2:Hid (g=false):=zA7 (by rw[FC.out];rfl)
    clear FC lG
    go_wp2_with (go_at_call 37;refine(H2.out _).mono ?_;rintro e w' ⟨rfl,rfl⟩)
    go_ret
    exact⟨vA HG2.out.symm,C2⟩
   all_goals
    have JK:Hid (g=b3):=zA7 (by rw[FC.out];rfl)
    clear FC
    have h4:cr=1\/cr=2\/(cr≠1/\cr≠2):=by omega
    rcases h4 with rfl|rfl|⟨h1,h2⟩
    ·have HG2:Hid (g=(sm !=3)):=zA7 (by rw[JK.out,lG.out,Bool.eq_iff_iff];simp)
     clear JK lG
     go_wp2_with (go_at_call 37;refine(H2.out _).mono ?_;rintro e w' ⟨rfl,rfl⟩)
     go_ret
     exact⟨vA HG2.out.symm,C2⟩
    ·have HG2:Hid (g=(sm==1)):=zA7 (by rw[JK.out,lG.out,Bool.eq_iff_iff];simp)
     clear JK lG
     go_wp2_with (go_at_call 37;refine(H2.out _).mono ?_;rintro e w' ⟨rfl,rfl⟩)
     go_ret
     exact⟨vA HG2.out.symm,C2⟩
    ·have HG2:Hid (g=(cr==0)):=zA7 (by rw[JK.out,lG.out,zA8 h1,zA8 h2,Bool.eq_iff_iff];simp)
     have f1:(cr==1)=false:=by rw[beq_eq_false_iff_ne];exact h1
     have f2:(cr==2)=false:=by rw[beq_eq_false_iff_ne];exact h2
     clear JK lG h1 h2
     go_wp2_with (go_at_call 37;refine(H2.out _).mono ?_;rintro e w' ⟨rfl,rfl⟩)
     go_ret
     exact⟨vA HG2.out.symm,C2⟩
  ·have hx1:ex<=now:=by omega
   have HG2:Hid (g=false):=zA7 (by rw[FC.out,zA8 hx,Bool.false_and,Bool.and_false,Bool.and_false,Bool.and_false])
   clear FC lG hx
   cases b1
   ·go_wp2
    go_ret
    exact⟨vA HG2.out.symm,C2⟩
   ·cases b2<;>cases cs<;>cases rs
    all_goals
     go_wp2_with (go_at_call 37;refine(H2.out _).mono ?_;rintro e w' ⟨rfl,rfl⟩)
     go_ret
     exact⟨vA HG2.out.symm,C2⟩
end Go.Proofs.YtabgoobcliijeaaGreatDoor
namespace Go.Proofs.YtabgoobcliijeaaGreatDoor
open Go.RowKit Go.Maps
theorem Ma.gAP (p:List UInt8):(Ma.default p).length<=p.length+1:=by
 by_cases h:p.head?=some 47
 ·have:=Ma.gAR h;omega
 ·unfold Ma.default
  rw[if_neg (fun e=>h e.1)]
  simp
theorem fAC(b:Bool)(h:dA.Host)(ha:h.addr.length=16)(s:ByteArray):Tryz.prog.built 53 [(0,.bool b),(1,.agg (fA h)),(2,.string s)]=some (tC ⟨b,h,s.data.toList,0⟩):=by
 obtain⟨k,m,a⟩:=h
 obtain⟨x0,x1,x2,x3,x4,x5,x6,x7,x8,x9,x10,wK,xK,yK,zK,AK,rfl⟩:=sixteen ha
 kernel_rfl
theorem Ad.qAl (rs:List Ru.Rule)(host:dA.Host)(dom:List UInt8):(Ad.whose rs host dom).2.1.name.length<=host.name.length\/(Ad.whose rs host dom).2.1.name.length<=dom.length:=by
 unfold Ad.whose
 split
 ·exact .inl (zB3 _)
 ·have hp:=dA.xN dom
  cases h:dA.parse dom with
  |none=>exact .inl (Nat.zero_le _)
  |some d=>
   rw[h]at hp
   have hp:d.name.length<=dom.length:=hp
   dsimp only
   split
   ·exact .inl (Nat.zero_le _)
   ·split
    ·exact .inl (Nat.zero_le _)
    ·split
     ·exact .inl (zB3 _)
     ·exact .inr hp
theorem fA5(rs:List Ru.Rule)(a b:ByteArray)(now:Int)(w:World)(v:Value)(hv:ZD w v rs/\rs.length<=maxLen/\ ∀r∈rs,r.name.length<=maxLen)(_ha:a.size<=maxLen)(_hb:b.size<=maxLen)(_hn:(Lit.int .i64 now).wf=true)(ha:a.size<=1048576)(hb:b.size<=1048576)(hw:uB w):
  Calls Tryz.prog 7 #[v,.agg (eF a b),.int .i64 now] w fun e w'=>e= .returned (.bool true)/\Below w.heap.size w w':=by
 have HA:=zA7 (fun W hW=>WK W hW)
 unfold zJ at HA
 have z0:=iJ
 have z1:=jG
 have z2:=iG
 obtain⟨hv,hrl,hrn⟩:=hv
 have R0:=Row.new w 44 (eF a b)
 have C0:=(Below.refl w.heap.size w).alloc (zB3 _) (.cells (eF a b) 44)
 obtain⟨⟨n,u⟩,hu⟩: ∃o,Ur.parse a.data.toList=o:=⟨_,rfl⟩
 obtain⟨⟨m,h⟩,hh⟩: ∃o,Hd.parse b.data.toList=o:=⟨_,rfl⟩
 have HB:=zA7 (fun W=>NI a b hu hh ha (by omega) W)
 have ul:u.host.addr.length=16:=by have:=Ur.gO a.data.toList;rw[hu]at this;exact this
 have IU:=zA7 (show(Tryz.prog.info? 33).map (·.size)=some (pA u).size by rw[aC u ul];exact qB)
 have SU:=zA7 (show(pA u).size=(pA Ur.zero).size by rw[aC u ul];rfl)
 have OU:=zA7 (kE u)
 have IV:=zA7 (show(Tryz.prog.info? 35).map (·.size)=some (headA h).size from WA)
 have SV:=zA7 (show(headA h).size=(headA Hd.zero).size from rfl)
 have OV:=zA7 (DC h)
 obtain⟨U,hU⟩: ∃U,pA u=U:=⟨_,rfl⟩
 obtain⟨V,hV⟩: ∃V,headA h=V:=⟨_,rfl⟩
 rw[hU]at IU SU OU HB
 rw[hV]at IV SV OV HB
 have HU:=zA7 hU
 have HV:=zA7 hV
 have EI:=zA7 hu
 have DI:=zA7 hh
 clear hU hV hu hh ha hb
 go_enter Tryz.func7,Tryz.ntmps7
 go_wp2_with fail
 generalize w.alloc (.cells (eF a b) 44)=x0 at*
 refine(HA.out _ (hw.below C0)).mono ?_
 rintro e x1 ⟨rfl,d1⟩
 have C1:=C0.trans (d1.mono C0.size)
 have R1:=R0.stays d1
 have V1:=hv.stays C1
 clear R0 C0 d1 HA
 have c0:x1.cell? ⟨w.heap.size,0,none⟩=some (.string a):=R1.cell 0
 have c1:x1.cell? ⟨w.heap.size,1,none⟩=some (.string b):=R1.cell 1
 go_wp2_with fail
 refine(HB.out _).mono ?_
 rintro e x2 ⟨rfl,d2⟩
 have C2:=C1.trans (d2.mono C1.size)
 have R2:=R1.stays d2
 obtain⟨Z3,Y3,U3,W3,C3,L3⟩:=WF U V C2 C2.size
 have R3:=L3 _ _ _ R2
 clear c0 c1 R1 C1 d2 HB L3 R2 V1
 go_upto_region 4 with(first
  |(refine wpList_store_row rfl 33 _ _ rfl x2.heap.size U rfl rfl 33 _ Z3 IU.out (by rw[SU.out]) OU.out ?_)
  |(refine wpList_store_row rfl 35 _ _ rfl (x2.heap.size+1) V rfl rfl 35 _ Y3 IV.out (by rw[SV.out]) OV.out ?_))
 clear Z3 Y3 C2
 generalize(((x2.alloc (.cells (pA Ur.zero) 33)).alloc (.cells (headA Hd.zero) 35)).setRow x2.heap.size U).setRow (x2.heap.size+1) V=x3 at*
 generalize x2.heap.size=g4 at*
 have V3:=hv.stays C3
 have c0:x3.cell? ⟨w.heap.size,0,none⟩=some (.string a):=R3.cell 0
 have c1:x3.cell? ⟨w.heap.size,1,none⟩=some (.string b):=R3.cell 1
 have Q1:=Row.new x3 9 #[.string a,.string b]
 have hq:=ON (ts:= [a,b]) (c:=2) Q1 (by simp)
 have D1:=C3.alloc C3.size (.cells #[.string a,.string b] 9)
 have RF:=zA7 (wN rs [a,b] v (.slice (some ⟨x3.heap.size,0,none⟩) 2 2) (x3.alloc (.cells #[.string a,.string b] 9)) (hv.stays D1) hq hrl hrn (by simp))
 have U4:=U3.alloc (.cells #[.string a,.string b] 9)
 have W4:=W3.alloc (.cells #[.string a,.string b] 9)
 clear Q1 hq U3 W3
 go_wp2_with fail
 generalize x3.alloc (.cells #[.string a,.string b] 9)=x4 at*
 refine RF.out.mono ?_
 rintro e x5 ⟨rfl,d5⟩
 have C5:=D1.trans (d5.mono D1.size)
 have U5:=U4.stays d5
 have W5:=W4.stays d5
 clear RF D1 U4 W4 d5 c0 c1 R3 V3 C3
 cases hf:VE rs [a,b]with
 |false=>
  clear hf
  go_wp2
  go_ret
  exact⟨rfl,C5⟩
 |true=>
 obtain⟨ok,hok⟩: ∃b,(decide (n=0)&&decide (m=0))=b:=⟨_,rfl⟩
 rw[hok]
 cases ok with
 |false=>
  clear hf hok
  go_wp2
  go_ret
  exact⟨rfl,C5⟩
 |true=>
 obtain⟨hn0,hm0⟩:n=0/\m=0:=by simpa using hok
 subst hn0 hm0
 have hu:=EI.out
 have hh:=DI.out
 obtain⟨f1,f2,f3⟩:=yN hf
 have fa:=f2 a (by simp)
 have fb:=f2 b (by simp)
 have pF: ∀r∈rs,r.name.length<=1000:=fun r hr=>by have:=f1 r hr;omega
 have cC:=Ur.eR a.data.toList
 rw[hu,Oct.nA]at cC
 have RG:u.host.name.length<=2500:=Nat.le_trans (show u.host.name.length<=a.size from cC.1) (by omega)
 have SG:u.path.length<=2501:=Nat.le_trans (show u.path.length<=a.size+1 from cC.2) (by omega)
 have hg:=Hd.AD hh
 have hright:=Ur.SL hu
 have htk:=Ad.FH (rs:=rs) (now:=now) hright hg
 obtain⟨⟨k,c⟩,hk⟩: ∃o,Ad.take rs u h now=o:=⟨_,rfl⟩
 rw[hk]at htk
 have cl:c.host.addr.length=16:=by have:=Ad.BR rs u (Hd.Raw.of h) now ul;rw[htk]at this;exact this
 have HN:=zA7 (fun W hW hV=>gK rs v W hW hV (by omega) pF)
 unfold dH at HN
 have HT:=zA7 (fun n₀ tb mb W hW hT=>JH rs u ul (by omega) (by omega) h (pI (.inl hg)) now htk n₀ tb mb W hW hT)
 rw[HU.out,HV.out]at HT
 have IC:=zA7 (show(Tryz.prog.info? 39).map (·.size)=some (gA c).size by rw[GD c cl];exact rD)
 have SC:=zA7 (show(gA c).size=(gA Ma.oA).size by rw[GD c cl];rfl)
 have OC:=zA7 (zE c)
 obtain⟨CC,qH⟩: ∃C,gA c=C:=⟨_,rfl⟩
 rw[qH]at IC SC OC HT
 have nC:=zA7 qH
 have WE:=hw.below C5
 have V5:=hv.stays C5
 have CN:=zA7 (fun W (hC:Below x5.heap.size x5 W)=>HN.out W (WE.below hC).UE.std (V5.stays hC))
 have CT:=zA7 (fun n₀ tb mb W (hC:Below x5.heap.size x5 W) hT=>HT.out n₀ tb mb W (WE.below hC) hT)
 have xE:=zA7 hk
 have NF:=zA7 (And.intro RG SG)
 have HG:=zA7 hg
 have MF:=zA7 hright
 have WG:=zA7 pF
 have LE:=zA7 f3
 clear hf hok qH HN HT hu hh EI DI cC RG SG hg hright htk hk f1 f2 f3 fa fb pF hrl hrn
 go_upto_region 6 with fail
 have RR:=zA7 (fun W (hC:Below x5.heap.size x5 W)=>U5.stays hC)
 have SS:=zA7 (fun W (hC:Below x5.heap.size x5 W)=>W5.stays hC)
 go_cut [10,11] (fun sa sb wx=> ∃g,sa= .pointer (some ⟨g,0,none⟩)/\sb= .int .i64 k/\Row wx g 39 CC/\Below x5.heap.size x5 wx)
 case first=>as_aux_lemma=>
  refine wp_region_held_drew (S:=(fun W=>Below x5.heap.size x5 W)) (by kernel_rfl) (Below.refl _ _).drew (fun hS=>?_)
  generalize x5.drew=u0 at*
  refine mA (i:=0) rfl ?_
  refine uD (i:=2) rfl (lC (by rfl) _ _ rfl _ rfl RR.out Tryz.underlying33 rfl IU.out) ?_
  refine uD (i:=3) rfl (lC (by rfl) _ _ rfl _ rfl SS.out Tryz.underlying35 rfl IV.out) ?_
  refine mA (i:=4) rfl ?_
  refine wpAnyH_ready (rs:= [1,9]) (by kernel_rfl) (by simp) (AllReadyH.cons rfl (fun K hK=>?_) (AllReadyH.cons rfl (fun K hK=>?_) AllReadyH.nil))
  ·rw[if_pos (by rfl)]
   go_simp
   refine(CN.out u0 hS).mono ?_
   rintro e y1 ⟨tb,mb,rfl,T1,d1⟩
   have S1:=Below.trans hS (d1.mono (Below.size hS))
   go_wp2_with fail
   refine hK.out _ _ S1 (fun _=>?_)
   clear hK K
   refine wpAnyH_ready (rs:= [5,9]) (by kernel_rfl) (by simp) (AllReadyH.cons rfl (fun K hK=>?_) (AllReadyH.cons rfl (fun K hK=>?_) AllReadyH.nil))
   ·rw[if_pos (by rfl)]
    go_simp
    refine(CT.out _ tb mb y1 S1 T1).mono ?_
    rintro e y2 ⟨rfl,d2⟩
    have S2:=Below.trans S1 (d2.mono (Below.size S1))
    go_wp2_with fail
    refine hK.out _ _ S2 (fun _=>?_)
    clear hK K
    refine mA (i:=6) rfl ?_
    refine mA (i:=7) rfl ?_
    refine mA (i:=8) rfl ?_
    refine wpAnyH_ready (rs:= [9]) (by kernel_rfl) (by simp) (AllReadyH.cons rfl (fun K hK=>?_) AllReadyH.nil)
    have Z3:=Row.new y2 39 (gA Ma.oA)
    rw[if_pos (by rfl)]
    go_simp
    have S3:=Below.alloc S2 (Below.size S2) (.cells (gA Ma.oA) 39)
    refine hK.out _ _ S3 (fun _=>?_)
    clear hK K
    refine yA (i:=10) fun K hK=>?_
    refine wp_store_row 39 _ _ rfl y2.heap.size CC rfl rfl 39 _ Z3 IC.out (by rw[SC.out]) OC.out ?_
    have S4:=below_setRow S3 (Below.size S2) CC
    have O4:=Row.whole Z3 CC
    refine hK.out _ _ S4 (fun _=>?_)
    clear hK K
    refine mA (i:=11) rfl ?_
    refine wpAnyH_done (by kernel_rfl) ?_ _
    go_wp2
    go_meet
    exact⟨y2.heap.size,rfl,rfl,O4,S4⟩
   ·have Z2:=Row.new y1 39 (gA Ma.oA)
    have T2:=T1.stays ((Below.refl y1.heap.size y1).alloc (zB3 _) (.cells (gA Ma.oA) 39))
    have zH:=Below.size S1
    rw[if_pos (by rfl)]
    go_simp
    have S2:=Below.alloc S1 (Below.size S1) (.cells (gA Ma.oA) 39)
    refine hK.out _ _ S2 (fun _=>?_)
    clear hK K
    generalize hy1:y1.alloc (.cells (gA Ma.oA) 39)=y2 at*
    generalize y1.heap.size=g1 at*
    refine yA (i:=5) fun K hK=>?_
    go_simp
    refine(CT.out _ tb mb y2 S2 T2).mono ?_
    rintro e y3 ⟨rfl,d3⟩
    have S3:=Below.trans S2 (d3.mono (Below.size S2))
    go_wp2_with fail
    refine hK.out _ _ S3 (fun _=>?_)
    clear hK K
    refine mA (i:=6) rfl ?_
    refine mA (i:=7) rfl ?_
    refine mA (i:=8) rfl ?_
    have Z3:=Z2.stays d3
    refine yA (i:=10) fun K hK=>?_
    refine wp_store_row 39 _ _ rfl g1 CC rfl rfl 39 _ Z3 IC.out (by rw[SC.out]) OC.out ?_
    have S4:=below_setRow S3 zH CC
    have O4:=Row.whole Z3 CC
    refine hK.out _ _ S4 (fun _=>?_)
    clear hK K
    refine mA (i:=11) rfl ?_
    refine wpAnyH_done (by kernel_rfl) ?_ _
    go_wp2
    go_meet
    exact⟨g1,rfl,rfl,O4,S4⟩
  ·have Z1:=Row.new u0 39 (gA Ma.oA)
   have jI:=Below.size hS
   rw[if_pos (by rfl)]
   go_simp
   have S1:=Below.alloc hS (Below.size hS) (.cells (gA Ma.oA) 39)
   refine hK.out _ _ S1 (fun _=>?_)
   clear hK K
   generalize u0.alloc (.cells (gA Ma.oA) 39)=y1 at*
   generalize u0.heap.size=g1 at*
   refine yA (i:=1) fun K hK=>?_
   go_simp
   refine(CN.out y1 S1).mono ?_
   rintro e y2 ⟨tb,mb,rfl,T2,d2⟩
   have S2:=Below.trans S1 (d2.mono (Below.size S1))
   go_wp2_with fail
   refine hK.out _ _ S2 (fun _=>?_)
   clear hK K
   have Z2:=Z1.stays d2
   refine yA (i:=5) fun K hK=>?_
   go_simp
   refine(CT.out _ tb mb y2 S2 T2).mono ?_
   rintro e y3 ⟨rfl,d3⟩
   have S3:=Below.trans S2 (d3.mono (Below.size S2))
   go_wp2_with fail
   refine hK.out _ _ S3 (fun _=>?_)
   clear hK K
   refine mA (i:=6) rfl ?_
   refine mA (i:=7) rfl ?_
   refine mA (i:=8) rfl ?_
   have Z3:=Z2.stays d3
   refine yA (i:=10) fun K hK=>?_
   refine wp_store_row 39 _ _ rfl g1 CC rfl rfl 39 _ Z3 IC.out (by rw[SC.out]) OC.out ?_
   have S4:=below_setRow S3 jI CC
   have O4:=Row.whole Z3 CC
   refine hK.out _ _ S4 (fun _=>?_)
   clear hK K
   refine mA (i:=11) rfl ?_
   refine wpAnyH_done (by kernel_rfl) ?_ _
   go_wp2
   go_meet
   exact⟨g1,rfl,rfl,O4,S4⟩
 case rest=>
 obtain⟨g6,rfl,rfl,O6,D6⟩:=hcut
 clear RR SS CN CT
 have C6:=C5.trans (D6.mono C5.size)
 have U6:=U5.stays D6
 have W6:=W5.stays D6
 have V6:=V5.stays D6
 clear U5 W5 V5 C5 WE D6
 by_cases hk0:k=0
 ·subst hk0
  have z3:=qAz
  obtain⟨hn0,_⟩:=Ad.take_zero xE.out
  have uL:=Ad.oAT HG.out xE.out
  obtain⟨R9,V9⟩:=Ad.oAE HG.out xE.out
  have hgo:=Ad.oAH MF.out xE.out now
  have hcb:c.host.name.length<=2500/\c.path.length<=2502:=by
   obtain⟨_,_,_,_,_,rfl⟩:=Ad.take_zero xE.out
   have h2:=HG.out.lH
   have h3:=NF.out.1
   have h4:=NF.out.2
   have h5:=HG.out.ZI
   refine⟨?_,?_⟩
   ·show(Ad.whose rs u.host h.domain).2.1.name.length<=_
    rcases Ad.qAl rs u.host h.domain with e|e<;>omega
   ·show(Ad.pathOf u h).length<=_
    unfold Ad.pathOf
    split
    ·exact Nat.le_trans (Ma.gAP u.path) (by omega)
    ·omega
  have aH:Hid (∀W,Calls Tryz.prog 18 #[.agg (gA c),.agg (tC ⟨true,u.host,c.path,0⟩),.int .i64 now] W fun e w'=>e= .returned (.bool (decide (now<c.expires)))/\Below W.heap.size W w'):=zA7 (fun W=>by
   have:=mAU c ⟨true,u.host,c.path,0⟩ now cl ul (by omega) (by have:=NF.out.1;show u.host.name.length<=_;omega) (by show c.path.length<=_;omega) W
   rw[hgo]at this
   exact this)
  have gS:=zA7 (fAC true u.host ul ⟨c.path.toArray⟩)
  have IQ:=zA7 (show(Tryz.prog.info? 53).map (·.size)=some (tC ⟨true,u.host,c.path,0⟩).size by rw[cW _ ul];exact jAN)
  have SQ:=zA7 (show(tC Ma.XR).size=(tC ⟨true,u.host,c.path,0⟩).size by rw[cW ⟨true,u.host,c.path,0⟩ ul];rfl)
  have OQ:=zA7 (nAc ⟨true,u.host,c.path,0⟩)
  have hbl:(⟨c.path.toArray⟩:ByteArray).data.toList=c.path:=rfl
  rw[hbl]at gS
  have LU:=zA7 (show 1+18<=(pA u).size by rw[aC u ul];decide)
  have gD:=zA7 (gG u ul)
  have k21:=bL c cl
  have k25:=ZK c cl
  have pH:(headA h)[6]? =some (.bool h.age.isSome):=rfl
  have lL:(headA h)[7]? =some (.int .i64 ((h.age.getD 0:Nat):Int)):=rfl
  unfold lA at k21
  rw[nC.out]at aH k21 k25
  rw[HU.out]at LU gD
  rw[HV.out]at pH lL
  obtain⟨pb,hpb⟩: ∃t:ByteArray,t=⟨c.path.toArray⟩:=⟨_,rfl⟩
  have BQ:pb.data.toList=c.path:=by rw[hpb]
  have h0:0<pb.size:=by
   rw[<-Oct.nA,BQ]
   cases hc:c.path with
   |nil=>rw[hc]at uL;cases uL
   |cons=>simp
  have hb0:((pb[0].toNat:Int) !=47)=false:=by
   have hh:=Oct.CE pb h0
   rw[BQ,uL]at hh
   have:(47:UInt8)=pb[0]:=zB2 hh
   rw[<-this];rfl
  have hpe:pb.toList.isEmpty=false:=by
   rw[Oct.SA,BQ]
   cases hc:c.path with
   |nil=>rw[hc]at uL;cases uL
   |cons=>rfl
  rw[<-hpb]at k21 gS
  have hw1:IntKind.i64.wrap (now+34560000)=now+34560000:=by rw[IntKind.wrap_i64];omega
  have rM:=zA7 (fun(x:Nat) hx=>(⟨V9 x hx,HG.out.age x hx⟩:c.expires=now+(x:Int)/\x<=34560000))
  have tS:=zA7 hn0
  have oJ:Hid (c.expires=9223372036854775807\/c.expires<=now+34560000):=zA7 R9
  clear hn0 uL R9 V9 hgo hcb hbl hpb BQ xE MF WG LE NF z0 z1 ul cl HG
  generalize fA u.host=UH at*
  generalize tC ⟨true,u.host,c.path,0⟩=Q at*
  generalize hex:c.expires=ex at*
  clear hex
  obtain⟨bn,hbn⟩: ∃b,(ex !=9223372036854775807)=b:=⟨_,rfl⟩
  have c21:=(O6.cell 21).trans k21
  obtain⟨T7,Q7,C7,L7⟩:=JA 53 (tC Ma.XR) Q C6 C6.size
  have O7:=L7 _ _ _ O6
  have W7:=L7 _ _ _ W6
  clear L7
  go_upto_region 10 with(first
   |(refine iA 48 rfl ?_;refine QC rfl 31 _ rfl g4 1 18 rfl U6 Tryz.underlying31 rfl tA LU.out UH gD.out ?_)
   |(refine iA 51 rfl ?_;refine XK rfl 53 _ rfl _ (by rfl) _ gS.out ?_)
   |(refine wpList_store_row rfl 53 _ _ rfl wc.heap.size Q rfl rfl 53 _ T7 IQ.out SQ.out OQ.out ?_))
  clear T7 c21 C6 O6 U6 W6 V6
  generalize(wc.alloc (.cells (tC Ma.XR) 53)).setRow wc.heap.size Q=x7 at*
  generalize wc.heap.size=g7 at*
  have c21:=(O7.cell 21).trans k21
  have c25:=(O7.cell 25).trans k25
  simp only[Act.put]
  go_cut [72] (fun sx wx=>sx= .bool false/\wx=x7)
  case first=>as_aux_lemma=>
   cases bn with
   |true=>
    have hle: ¬now+34560000<ex:=by
     rcases oJ.out with e|e
     ·rw[e]at hbn;exact absurd hbn (by decide)
     ·omega
    go_wp2
    go_meet
    exact⟨rfl,rfl⟩
   |false=>
    go_wp2
    go_meet
    exact⟨rfl,rfl⟩
  case rest=>
  obtain⟨rfl,rfl⟩:=hcut
  clear c21 c25 hw1 hbn oJ hpe hb0 h0
  have RC:=zA7 (fun W (hC:Below wc.heap.size wc W)=>O7.stays hC)
  have RQ:=zA7 (fun W (hC:Below wc.heap.size wc W)=>Q7.stays hC)
  have RV:=zA7 (fun W (hC:Below wc.heap.size wc W)=>W7.stays hC)
  have DS:=zA7 (fun W (hC:Below wc.heap.size wc W)=>QU hC (aH.out W))
  clear O7 Q7 W7 aH
  cases hx:h.age with
  |none=>
   rw[hx]at pH
   simp only[Option.isSome_none]at pH
   clear rM hx lL
   obtain⟨ag,hag⟩: ∃b:Bool,b=false:=⟨_,rfl⟩
   rw[<-hag]at pH
   have vE:=zA7 hag
   clear hag
   by_cases hlt:now<ex
   ·have hd:decide (now<ex)=true:=zA9 hlt
    rw[hd]at DS
    go_wp2_with fail
    refine rE (C:=fun W=>Below wc.heap.size wc W) (by kernel_rfl) (by kernel_rfl) (Below.refl _ _).drew ?_
    refine oB (lC (by rfl) _ _ rfl _ rfl RC.out Tryz.underlying39 rfl IC.out) ?_
    refine oB (lC (by rfl) _ _ rfl _ rfl RQ.out Tryz.underlying53 rfl IQ.out) ?_
    refine kA ?_
    refine QD (.bool true) (fun wq hC=>by unfold Oper.quietAt;go_simp;exact DS.out wq hC) ?_
    refine kA ?_
    refine kA ?_
    refine kA ?_ (v:= .int .i64 ex) (hv:=fun wq hC=>by have hcell:=((RC.out wq hC).cell 25).trans k25;go_simp;try with_reducible rfl)
    refine kA ?_
    refine kA ?_
    refine kA ?_
    refine kA ?_
    refine kA ?_ (v:= .bool ag) (hv:=fun wq hC=>by have hcell:=((RV.out wq hC).cell 6).trans pH;go_simp;try with_reducible rfl)
    refine kA ?_
    refine kA ?_
    refine oB (Or.inr ⟨by have h:=vE.out;subst h;rfl,rfl⟩) ?_
    refine oB (Or.inr ⟨by have h:=vE.out;subst h;rfl,rfl⟩) ?_
    refine oB (Or.inr ⟨by have h:=vE.out;subst h;rfl,rfl⟩) ?_
    refine oB (Or.inr ⟨by have h:=vE.out;subst h;rfl,rfl⟩) ?_
    refine oB (Or.inr ⟨by have h:=vE.out;subst h;rfl,rfl⟩) ?_
    refine oB (Or.inr ⟨by have h:=vE.out;subst h;rfl,rfl⟩) ?_
    refine oB (Or.inr ⟨by have h:=vE.out;subst h;rfl,rfl⟩) ?_
    refine kA ?_ (v:= .bool true) (hv:=fun _ _=>by have h:=vE.out;subst h;go_simp;try with_reducible rfl)
    refine kA ?_
    refine kA ?_
    refine wpQuiet_nil ?_
    intro w' hC
    go_wp2
    go_ret
    exact⟨rfl,C7.trans (hC.mono C7.size)⟩
   ·have hd:decide (now<ex)=false:=zA8 hlt
    rw[hd]at DS
    go_wp2_with fail
    refine rE (C:=fun W=>Below wc.heap.size wc W) (by kernel_rfl) (by kernel_rfl) (Below.refl _ _).drew ?_
    refine oB (lC (by rfl) _ _ rfl _ rfl RC.out Tryz.underlying39 rfl IC.out) ?_
    refine oB (lC (by rfl) _ _ rfl _ rfl RQ.out Tryz.underlying53 rfl IQ.out) ?_
    refine kA ?_
    refine QD (.bool false) (fun wq hC=>by unfold Oper.quietAt;go_simp;exact DS.out wq hC) ?_
    refine kA ?_
    refine kA ?_
    refine kA ?_ (v:= .int .i64 ex) (hv:=fun wq hC=>by have hcell:=((RC.out wq hC).cell 25).trans k25;go_simp;try with_reducible rfl)
    refine kA ?_
    refine kA ?_
    refine kA ?_
    refine kA ?_
    refine kA ?_ (v:= .bool ag) (hv:=fun wq hC=>by have hcell:=((RV.out wq hC).cell 6).trans pH;go_simp;try with_reducible rfl)
    refine kA ?_
    refine kA ?_
    refine oB (Or.inr ⟨by have h:=vE.out;subst h;rfl,rfl⟩) ?_
    refine oB (Or.inr ⟨by have h:=vE.out;subst h;rfl,rfl⟩) ?_
    refine oB (Or.inr ⟨by have h:=vE.out;subst h;rfl,rfl⟩) ?_
    refine oB (Or.inr ⟨by have h:=vE.out;subst h;rfl,rfl⟩) ?_
    refine oB (Or.inr ⟨by have h:=vE.out;subst h;rfl,rfl⟩) ?_
    refine oB (Or.inr ⟨by have h:=vE.out;subst h;rfl,rfl⟩) ?_
    refine oB (Or.inr ⟨by have h:=vE.out;subst h;rfl,rfl⟩) ?_
    refine kA ?_ (v:= .bool true) (hv:=fun _ _=>by have h:=vE.out;subst h;go_simp;try with_reducible rfl)
    refine kA ?_
    refine kA ?_
    refine wpQuiet_nil ?_
    intro w' hC
    go_wp2
    go_ret
    exact⟨rfl,C7.trans (hC.mono C7.size)⟩
  |some x=>
   obtain⟨hex,hxl⟩:=rM.out x hx
   rw[hx]at pH lL
   simp only[Option.isSome_some,Option.getD_some]at pH lL
   have hn0:=tS.out
   have hw2:IntKind.i64.wrap (now+(x:Int))=ex:=by rw[IntKind.wrap_i64];omega
   have hee:(ex==ex)=true:=by simp
   clear rM hx hex
   by_cases hlt:now<ex
   ·have hd:decide (now<ex)=true:=zA9 hlt
    rw[hd]at DS
    go_wp2_with fail
    refine rE (C:=fun W=>Below wc.heap.size wc W) (by kernel_rfl) (by kernel_rfl) (Below.refl _ _).drew ?_
    refine oB (lC (by rfl) _ _ rfl _ rfl RC.out Tryz.underlying39 rfl IC.out) ?_
    refine oB (lC (by rfl) _ _ rfl _ rfl RQ.out Tryz.underlying53 rfl IQ.out) ?_
    refine kA ?_
    refine QD (.bool true) (fun wq hC=>by unfold Oper.quietAt;go_simp;exact DS.out wq hC) ?_
    refine kA ?_
    refine kA ?_
    refine kA ?_ (v:= .int .i64 ex) (hv:=fun wq hC=>by have hcell:=((RC.out wq hC).cell 25).trans k25;go_simp;try with_reducible rfl)
    refine kA ?_
    refine kA ?_
    refine kA ?_
    refine kA ?_
    refine kA ?_ (v:= .bool true) (hv:=fun wq hC=>by have hcell:=((RV.out wq hC).cell 6).trans pH;go_simp;try with_reducible rfl)
    refine kA ?_
    refine kA ?_
    refine kA ?_
    refine kA ?_ (v:= .int .i64 ex) (hv:=fun wq hC=>by have hcell:=((RC.out wq hC).cell 25).trans k25;go_simp;try with_reducible rfl)
    refine kA ?_
    refine kA ?_
    refine kA ?_ (v:= .int .i64 (x:Int)) (hv:=fun wq hC=>by have hcell:=((RV.out wq hC).cell 7).trans lL;go_simp;try with_reducible rfl)
    refine kA ?_
    refine kA ?_
    refine kA ?_
    refine kA ?_
    refine kA ?_
    refine wpQuiet_nil ?_
    intro w' hC
    go_wp2
    go_ret
    exact⟨rfl,C7.trans (hC.mono C7.size)⟩
   ·have hd:decide (now<ex)=false:=zA8 hlt
    rw[hd]at DS
    go_wp2_with fail
    refine rE (C:=fun W=>Below wc.heap.size wc W) (by kernel_rfl) (by kernel_rfl) (Below.refl _ _).drew ?_
    refine oB (lC (by rfl) _ _ rfl _ rfl RC.out Tryz.underlying39 rfl IC.out) ?_
    refine oB (lC (by rfl) _ _ rfl _ rfl RQ.out Tryz.underlying53 rfl IQ.out) ?_
    refine kA ?_
    refine QD (.bool false) (fun wq hC=>by unfold Oper.quietAt;go_simp;exact DS.out wq hC) ?_
    refine kA ?_
    refine kA ?_
    refine kA ?_ (v:= .int .i64 ex) (hv:=fun wq hC=>by have hcell:=((RC.out wq hC).cell 25).trans k25;go_simp;try with_reducible rfl)
    refine kA ?_
    refine kA ?_
    refine kA ?_
    refine kA ?_
    refine kA ?_ (v:= .bool true) (hv:=fun wq hC=>by have hcell:=((RV.out wq hC).cell 6).trans pH;go_simp;try with_reducible rfl)
    refine kA ?_
    refine kA ?_
    refine kA ?_
    refine kA ?_ (v:= .int .i64 ex) (hv:=fun wq hC=>by have hcell:=((RC.out wq hC).cell 25).trans k25;go_simp;try with_reducible rfl)
    refine kA ?_
    refine kA ?_
    refine kA ?_ (v:= .int .i64 (x:Int)) (hv:=fun wq hC=>by have hcell:=((RV.out wq hC).cell 7).trans lL;go_simp;try with_reducible rfl)
    refine kA ?_
    refine kA ?_
    refine kA ?_
    refine kA ?_
    refine kA ?_
    refine wpQuiet_nil ?_
    intro w' hC
    go_wp2
    go_ret
    exact⟨rfl,C7.trans (hC.mono C7.size)⟩
 ·have hkn:(k !=0)=true:=by simpa using hk0
  clear xE HG MF WG LE NF hk0 ul cl nC
  go_wp2
  go_ret
  exact⟨rfl,C6⟩
end Go.Proofs.YtabgoobcliijeaaGreatDoor
