/- The walks of: would a cookie stand beside a Secure one? Of a jar's, and of the reference's. -/
import Derived.Test.YtdaaoopkkhfbhaaGreatDoorY14
import Derived.Deep.LoopGhost
set_option maxHeartbeats 8000000
set_option maxRecDepth 100000
namespace Go.Proofs.YtdaaoopkkhfbhaaGreatDoor
open Go.RowKit Go.Maps
theorem XM(l:List UInt8):(⟨l.toArray⟩:ByteArray).size=l.length:=List.size_toArray ..
theorem hAd(a b:List UInt8):((⟨a.toArray⟩:ByteArray).toList==(⟨b.toArray⟩:ByteArray).toList)=decide (a=b):=by
 rw[Oct.aB,Oct.aB,Bool.eq_iff_iff];simp
theorem hAZ(o c:Ma.iA)(ho:Jr.ZB o)(hc:Jr.ZB c)(g0:Nat)(w:World)(hw:Std w)(RC:Row w g0 64 (dA c)):
  Calls Tryz.prog 52 #[.agg (dA o),.pointer (some ⟨g0,0,none⟩)] w fun e w'=>e= .returned (.bool (Jr.vD o c))/\Below w.heap.size w w':=by
 have hoa:=ho.addr
 have hca:=hc.addr
 have hon:=(bA.DI ho.host).1
 have hcn:=(bA.DI hc.host).1
 have hop:=ho.path
 have H3:=zA7 (fun W=>JX ⟨c.path.toArray⟩ ⟨o.path.toArray⟩ W (by rw[XM];omega))
 change Hid (∀W,Calls Tryz.prog 53 #[.string ⟨c.path.toArray⟩,.string ⟨o.path.toArray⟩] W fun e w'=>e= .returned (.bool (Ma.path c.path o.path))/\W=w')at H3
 have H4:=zA7 (fun W hW=>dN o.host c.host hoa hca (by omega) (by omega) W hW)
 have H5:=zA7 (fun W hW=>dN c.host o.host hca hoa (by omega) (by omega) W hW)
 have HQ:Hid (Jr.vD o c=(o.secure&& (decide (o.name=c.name)&& (Ma.path c.path o.path&& (Ma.domain o.host c.host||Ma.domain c.host o.host))))):=zA7 (by
  unfold Jr.vD
  cases o.secure<;>cases decide (o.name=c.name)<;>cases Ma.path c.path o.path<;>cases Ma.domain o.host c.host<;>cases Ma.domain c.host o.host<;>rfl)
 have he:=hAd o.name c.name
 have k0:=pP o
 have k1:=FI o hoa
 have k2:=fU o hoa
 have l0:=pP c
 have l1:=FI c hca
 unfold gA at k0 k1 l0 l1
 have MO:=zA7 (show(dA o).extract 2 (2+18)=cA o.host from pK o hoa)
 have yI:=zA7 (show(dA c).extract 2 (2+18)=cA c.host from pK c hca)
 have rO:=zA7 (show 2+18<=(dA o).size by rw[TA o hoa];decide)
 have rI:=zA7 (show 2+18<=(dA c).size by rw[TA c hca];decide)
 generalize Jr.vD o c=g at*
 generalize Ma.path c.path o.path=b3 at*
 generalize Ma.domain o.host c.host=b4 at*
 generalize Ma.domain c.host o.host=b5 at*
 generalize decide (o.name=c.name)=b2 at*
 generalize o.secure=b1 at*
 generalize(⟨c.path.toArray⟩:ByteArray)=cp at*
 generalize(⟨o.path.toArray⟩:ByteArray)=op at*
 generalize(⟨c.name.toArray⟩:ByteArray)=cn at*
 generalize(⟨o.name.toArray⟩:ByteArray)=on at*
 generalize cA o.host=X at*
 generalize cA c.host=Y at*
 have RO:=Row.new w 64 (dA o)
 have R1:=RC.alloc (.cells (dA o) 64)
 have C0:=(Below.refl w.heap.size w).alloc (zB3 _) (.cells (dA o) 64)
 have HS:=zA7 (hw.below C0)
 have c0:=(RO.cell 0).trans k0
 have c1:=(RO.cell 21).trans k1
 have c2:=(RO.cell 22).trans k2
 have d0:=(R1.cell 0).trans l0
 have d1:=(R1.cell 21).trans l1
 clear hoa hca hon hcn hop ho hc k0 k1 k2 l0 l1 RC hw
 generalize dA o=U at*
 generalize dA c=V at*
 go_enter Tryz.func52,Tryz.ntmps52
 cases b1
 ·have HG:Hid (g=false):=zA7 (by rw[HQ.out];rfl)
  clear HQ
  go_wp2
  go_ret
  exact⟨tA HG.out.symm,C0⟩
 cases b2
 ·have HG:Hid (g=false):=zA7 (by rw[HQ.out];rfl)
  clear HQ
  go_wp2
  go_ret
  exact⟨tA HG.out.symm,C0⟩
 cases b3
 ·have HG:Hid (g=false):=zA7 (by rw[HQ.out];rfl)
  clear HQ
  go_wp2_with (go_at_call 53;refine(H3.out _).mono ?_;rintro e w' ⟨rfl,rfl⟩)
  go_ret
  exact⟨tA HG.out.symm,C0⟩
 cases b4
 ·have HG:Hid (g=b5):=zA7 (by rw[HQ.out];rfl)
  clear HQ
  go_wp2_with (first
   |(go_at_call 53;refine(H3.out _).mono ?_;rintro e w' ⟨rfl,rfl⟩)
   |(refine jA 22 rfl ?_;refine eD rfl 32 _ rfl w.heap.size 2 18 rfl RO Tryz.underlying32 rfl mA rO.out X MO.out ?_)
   |(refine jA 24 rfl ?_;refine eD rfl 32 _ rfl g0 2 18 rfl R1 Tryz.underlying32 rfl mA rI.out Y yI.out ?_))
  refine(H4.out _ HS.out).mono ?_
  rintro e w2 ⟨rfl,e2⟩
  have R2:=R1.stays e2
  have RO2:=RO.stays e2
  have HS2:=zA7 (HS.out.below e2)
  have C2:=C0.trans (e2.mono C0.size)
  clear R1 RO HS C0 e2 c0 c1 c2 d0 d1
  go_wp2_with (first
   |(refine jA 28 rfl ?_;refine eD rfl 32 _ rfl g0 2 18 rfl R2 Tryz.underlying32 rfl mA rI.out Y yI.out ?_)
   |(refine jA 30 rfl ?_;refine eD rfl 32 _ rfl w.heap.size 2 18 rfl RO2 Tryz.underlying32 rfl mA rO.out X MO.out ?_))
  refine(H5.out _ HS2.out).mono ?_
  rintro e w3 ⟨rfl,e3⟩
  have C3:=C2.trans (e3.mono C2.size)
  go_wp2
  go_ret
  exact⟨tA HG.out.symm,C3⟩
 ·have HG:Hid (g=true):=zA7 (by rw[HQ.out];rfl)
  clear HQ
  go_wp2_with (first
   |(go_at_call 53;refine(H3.out _).mono ?_;rintro e w' ⟨rfl,rfl⟩)
   |(refine jA 22 rfl ?_;refine eD rfl 32 _ rfl w.heap.size 2 18 rfl RO Tryz.underlying32 rfl mA rO.out X MO.out ?_)
   |(refine jA 24 rfl ?_;refine eD rfl 32 _ rfl g0 2 18 rfl R1 Tryz.underlying32 rfl mA rI.out Y yI.out ?_))
  refine(H4.out _ HS.out).mono ?_
  rintro e w2 ⟨rfl,e2⟩
  have C2:=C0.trans (e2.mono C0.size)
  go_wp2
  go_ret
  exact⟨tA HG.out.symm,C2⟩
theorem sP {w:World}{A:Option Addr}{c:Nat}{cs:List Ma.iA}(hv:QB dA w (.slice A cs.length c) cs)(hs: ∀x∈cs,x.host.addr.length=16){k:Nat}{x:Ma.iA}(hx:cs[k]? =some x):
  ∃g off,A=some ⟨g,off,none⟩/\ ∀W,Below w.heap.size w W-> ∀j u,(dA x)[j]? =some u->W.cell? ⟨g,off+k*29+j,none⟩=some u:=by
 have hl:=(List.getElem?_eq_some_iff.1 hx).1
 obtain⟨g,off,rfl,hg⟩:=hv.block.2.2 (by omega)
 exact⟨g,off,rfl,fun W hW=>(hv.stays hW).one (fun y hy=>TA y (hs y hy)) hx⟩
theorem aAK {α:Type}{p:α->Bool}{l:List α}{k:Nat}{x:α}(h:(l.take k).any p=false)(hx:l[k]? =some x):(l.take (k+1)).any p=p x:=by
 rw[List.take_add_one,hx,List.any_append,h]
 simp
theorem fAa(cs:List Ma.iA)(c:Ma.iA)(hcs: ∀x∈cs,Jr.ZB x)(hc:Jr.ZB c)(hn:cs.length<=1000000)(g0:Nat)(w:World)(hw:Std w)(RC:Row w g0 64 (dA c))(v:Value)(hv:QB dA w v cs):
  Calls Tryz.prog 100 #[v,.func (.func 52) #[] #[.pointer (some ⟨g0,0,none⟩)]] w fun e w'=>(∃r:Int,e= .returned (.int .i64 r)/\decide (0<=r)=cs.any fun o=>Jr.vD o c)/\Below w.heap.size w w':=by
 have HV:=zA7 hv
 have HR:=zA7 RC
 have HS:=zA7 hw
 have HF:=zA7 (fun o ho W hW k=>hAZ o c ho hc g0 W hW k)
 have HN:=zA7 hcs
 have HA:=zA7 (fun x hx=>(hcs x hx).addr)
 obtain⟨A,cp,rfl,hcp,_⟩:=hv
 obtain⟨n,hnn⟩: ∃n,cs.length=n:=⟨_,rfl⟩
 have IB:=zA7 hnn
 rw[hnn]at HV hn hcp⊢
 clear hnn hcs hc hw RC
 go_enter Tryz.func100,Tryz.ntmps100
 go_wp2
 go_loopw [5,8] (fun _ i wr=> ∃k:Nat,k<=n/\i= .int .i64 k/\(cs.take k).any (fun o=>Jr.vD o c)=false/\Below w.heap.size w wr) (fun _ i _=>n- (intOf i).toNat)
 case atStart=>exact⟨0,Nat.zero_le _,rfl,by simp,Below.refl _ _⟩
 case round=>
  obtain⟨k,hk,rfl,hall,hb⟩:=hrel
  have MD:=zA7 hall
  clear hall
  by_cases hlt:k<n
  ·obtain⟨x,hx⟩: ∃x,cs[k]? =some x:=⟨_,List.getElem?_eq_getElem (by rw[IB.out];exact hlt)⟩
   have hxm:=List.mem_of_getElem? hx
   obtain⟨g,off,rfl,hcell⟩:=sP (by rw[IB.out];exact HV.out) HA.out hx
   have ME:=zA7 (hcell wr hb)
   have HAT:=zA7 (aAK MD.out hx)
   have vS:=zA7 (HF.out x (HN.out x hxm) wr (HS.out.below hb) (HR.out.stays hb))
   have zS:=zA7 (show(Tryz.prog.info? 64).map (·.size)=some (dA x).size by rw[TA x (HA.out x hxm)];exact uB)
   have HYE:Hid (Jr.vD x c=true->decide (0<=(k:Int))=cs.any fun o=>Jr.vD o c):=zA7 (fun e=>by
    rw[zA9 (by omega)]
    symm
    rw[List.any_eq_true]
    exact⟨x,hxm,e⟩)
   clear hcell hx hxm MD
   generalize Jr.vD x c=b at*
   generalize dA x=X at*
   cases b with
   |false=>
    go_wp2_with (first
     |(refine jA 15 rfl ?_;refine ZM rfl 64 _ rfl g (off+k*29) rfl X ME.out Tryz.underlying64 rfl zS.out ?_)
     |(go_at_call 52;refine vS.out.mono ?_;rintro e w' ⟨rfl,hb2⟩))
    go_roundw
    case rel=>exact⟨k+1,by omega,by go_num,HAT.out,hb.trans (hb2.mono hb.size)⟩
    case measure=>simp[intOf];omega
   |true=>
    go_wp2_with (first
     |(refine jA 15 rfl ?_;refine ZM rfl 64 _ rfl g (off+k*29) rfl X ME.out Tryz.underlying64 rfl zS.out ?_)
     |(go_at_call 52;refine vS.out.mono ?_;rintro e w' ⟨rfl,hb2⟩))
    go_ret
    exact⟨⟨k,rfl,HYE.out (by trivial)⟩,hb.trans (hb2.mono hb.size)⟩
  ·obtain rfl:k=n:=by omega
   have hno:(cs.any fun o=>Jr.vD o c)=false:=by
    have:=MD.out
    rwa [List.take_of_length_le (by rw[IB.out];exact zB3 _)]at this
   have JB:=zA7 hno
   clear hno
   go_wp2
   go_ret
   exact⟨⟨-1,rfl,by rw[JB.out];rfl⟩,hb⟩
theorem bAJ(cs:List Ma.iA)(c:Ma.iA)(hcs: ∀x∈cs,Jr.ZB x)(hc:Jr.ZB c)(hn:cs.length<=1000000)(g0:Nat)(w:World)(hw:Std w)(RC:Row w g0 64 (dA c))(v:Value)(hv:QB dA w v cs):
  Calls Tryz.prog 51 #[v,.func (.func 52) #[] #[.pointer (some ⟨g0,0,none⟩)]] w fun e w'=>e= .returned (.bool (cs.any fun o=>Jr.vD o c))/\Below w.heap.size w w':=by
 have HC:=zA7 (fAa cs c hcs hc hn g0 w hw RC v hv)
 clear hv RC
 go_enter Tryz.func51,Tryz.ntmps51
 go_wp2_with (go_at_call 100;refine HC.out.mono ?_;rintro e w' ⟨⟨r,rfl,hr⟩,hb⟩)
 go_ret
 exact⟨rfl,hb⟩
theorem iA0 {B jb tb sb mb:Nat}{j:Jr.MA}(c:Ma.iA)(hc:Jr.ZB c)(w:World)(hw:Std w)(h:pB w B jb tb sb mb j):
  Calls Tryz.prog 30 #[.pointer (some ⟨jb,0,none⟩),.agg (dA c)] w fun e w'=>e= .returned (.bool ((Sh.all j.s).any fun o=>Jr.vD o c))/\Below w.heap.size w w':=by
 have R0:=Row.new w 64 (dA c)
 have C0:=(Below.refl w.heap.size w).alloc (zB3 _) (.cells (dA c) 64)
 have J0:=h.stays C0
 have c2:=J0.WE
 have HA:=zA7 (YO _ J0.shelf)
 unfold VE at HA
 have hlen:=J0.shelf.length
 have HC:=zA7 (fun W hW R v hv=>bAJ (Sh.all j.s) c (Jr.NX h.TH) hc (by unfold Sh.all;rw[List.length_map];exact hlen) w.heap.size W hW R v hv)
 have HS:=zA7 (hw.below C0)
 clear h J0 hlen hw
 generalize Sh.all j.s=l at*
 generalize l.any (fun o=>Jr.vD o c)=b at*
 generalize dA c=X at*
 go_enter Tryz.func30,Tryz.ntmps30
 go_wp2_with fail
 refine HA.out.mono ?_
 rintro e w1 ⟨v,rfl,hl,d1⟩
 have uC:=zA7 (HC.out w1 (HS.out.below d1) (R0.stays d1) v hl)
 have C1:=C0.trans (d1.mono C0.size)
 clear HC HA hl R0 C0 d1
 go_wp2_with fail
 refine uC.out.mono ?_
 rintro e w2 ⟨rfl,d2⟩
 have C2:=C1.trans (d2.mono C1.size)
 go_wp2
 go_ret
 exact⟨rfl,C2⟩
end Go.Proofs.YtdaaoopkkhfbhaaGreatDoor
namespace Go.Proofs.YtdaaoopkkhfbhaaGreatDoor
open Go.RowKit Go.Maps
theorem iAO(c:Ma.iA)(hc:wB c)(site:ByteArray)(uW:site.size<=maxLen){sb mb:Nat}{s:Sh.Shelf}(w:World)(h:NA w sb mb s)(hlast:s.last<1000000):
  Calls Tryz.prog 56 #[.pointer (some ⟨sb,0,none⟩),.agg (dA c),.string site] w fun e w'=>e= .returned (.bool (Sh.put s c site.data.toList).2)/\NA w' sb mb (Sh.put s c site.data.toList).1/\LB sb mb w w':=by
 have z0:=nL
 have z1:=lI
 have ha:=hc.host.addr
 have uF:=zA7 (fun W=>XQ c ha W)
 have HC:=zA7 (show(Tryz.prog.info? 64).map (·.size)=some (dA c).size by rw[TA c ha];exact uB)
 have HP:=zA7 (show(Tryz.prog.info? 134).map (·.size)=some (uA c).size by rw[FE c ha];exact TI)
 have PE:=zA7 (show(uA Ma.zero).size=(uA c).size by rw[FE c ha];rfl)
 have mC:=zA7 (TK c)
 obtain⟨X,hX⟩: ∃X,rA ((Sh.oF s c).getD Sh.JA)=X:=⟨_,rfl⟩
 have HX:=zA7 (show(Tryz.prog.info? 136).map (·.size)=some X.size by rw[<-hX,zC _ (h.pJ c)];exact PF)
 have vB:=zA7 (show(rA Sh.JA).size=X.size by rw[<-hX,zC _ (h.pJ c)];rfl)
 have lB:=zA7 (show X.all (·.oneCell')=true by rw[<-hX];exact PH _)
 cases hs:Sh.oF s c with
 |some k0=>
  have hk0:=List.mem_of_find?_eq_some hs
  have hp:=Sh.jA3 h.well hs site.data.toList
  have ko:=(h.okay k0 hk0).addr
  have hX2:X=rA k0:=by rw[<-hX,hs];rfl
  have WV:X[26]? =some (.int .i64 k0.c.born):=by rw[hX2];exact LG (cU k0.c ko)
  have XV:X[28]? =some (.int .i64 k0.c.seq):=by rw[hX2];exact LG (GF k0.c ko)
  obtain⟨CN,LF⟩: ∃CN:Ma.iA,CN= {c with born:=k0.c.born,seq:=k0.c.seq} :=⟨_,rfl⟩
  obtain⟨KN,hKN⟩: ∃KN:Sh.Kept,KN=Sh.old c site.data.toList k0:=⟨_,rfl⟩
  have yH:KN=⟨CN,site.data.toList⟩:=by rw[hKN,LF];rfl
  have hcn:wB CN:=by rw[LF];exact⟨hc.host,hc.name,hc.path⟩
  have jH:Hid (((dA c).setIfInBounds 26 (.int .i64 k0.c.born)).setIfInBounds 28 (.int .i64 k0.c.seq)=dA CN):=zA7 (by rw[LF,bAM c ha];exact gU {c with born:=k0.c.born} ha _)
  rw[<-hKN]at hp
  have HL:=zA7 (fun W (hW:NA W sb mb s)=>by have:=hW.look hc;rw[hX,hs]at this;exact this)
  have HW:=zA7 (Sh.eS h.well c site.data.toList)
  obtain⟨t,ht⟩: ∃t,(Sh.put s c site.data.toList).1=t:=⟨_,rfl⟩
  rw[ht]at hp HW⊢
  rw[hp.1]
  have HN:=zA7 (show(Tryz.prog.info? 64).map (·.size)=some (dA CN).size by rw[TA CN hcn.host.addr];exact uB)
  have lG:=zA7 (OT CN hcn.host.addr site)
  rw[<-yH]at lG
  have oG:Hid (zI KN):=zA7 (by rw[yH];exact⟨hcn,by rw[Oct.oA];exact uW⟩)
  have oE:=zA7 hp.2.2.1
  have HKK:=zA7 hp.2.2.2
  have hla:=hp.2.1
  have mG:Hid (t.last<=1000000):=zA7 (by rw[hla];exact h.few)
  have TC:=zA7 hla
  clear hX hs hp ht hKN yH LF hcn hla hX2 ko hk0
  have R0:=Row.new w 64 (dA c)
  have C0:=(Below.refl w.heap.size w).alloc (zB3 _) (.cells (dA c) 64)
  go_enter Tryz.func56,Tryz.ntmps56
  go_wp2_with (refine jA 10 rfl ?_;refine pA rfl 64 _ rfl w.heap.size rfl R0 Tryz.underlying64 rfl HC.out ?_)
  generalize w.alloc (.cells (dA c) 64)=x0 at*
  refine(uF.out _).mono ?_
  rintro e x1 ⟨rfl,d1⟩
  have C1:=C0.trans (d1.mono C0.size)
  have K1:=R0.stays d1
  obtain⟨Z1,P2,C2,L2⟩:=PA 134 (uA Ma.zero) (uA c) C1 C1.size
  have K2:=L2 _ _ _ K1
  have yF:=K1.lt
  clear L2 d1 C0 R0 K1
  go_wp2_with (refine wpList_store_row rfl 134 _ _ rfl x1.heap.size (uA c) rfl rfl 134 _ Z1 HP.out PE.out mC.out ?_)
  have hgw1:x1.heap.size≠w.heap.size:=by have:=yF;omega
  have hg1:=P2.lt
  have hw1:=C1.size
  generalize(x1.alloc (.cells (uA Ma.zero) 134)).setRow x1.heap.size (uA c)=x2 at*
  generalize x1.heap.size=g1 at*
  have H2:=h.stays C2
  clear Z1 C1
  have AP:=zA7 (fun W (hW:Below x2.heap.size x2 W)=>P2.stays hW)
  have AH:=zA7 (fun W (hW:Below x2.heap.size x2 W)=>H2.stays hW)
  have AK:=zA7 (fun W (hW:Below x2.heap.size x2 W)=>K2.stays hW)
  refine wp_region_held_drew (S:=(fun W=>Below x2.heap.size x2 W)) (by kernel_rfl) (Below.refl _ _).drew (fun hS=>?_)
  generalize x2.drew=u0 at*
  refine lA (i:=0) rfl ?_
  refine lA (i:=1) rfl ?_
  refine lA (i:=2) rfl ?_
  refine wpAnyH_take (i:=3) (v:= .map (some mb)) rfl (by kernel_rfl) (by kernel_rfl) (by kernel_rfl) (fun _ _ _ h=>h) (Or.inl ⟨by rfl,fun wq hC=>by have hcell:=(AH.out wq hC).cell0;go_simp;try with_reducible rfl⟩) (by assumption) ?_
  simp only[Act.put,zA1,zA3,zA2,zA6,zA4,zA5]
  refine bG (i:=4) rfl (GB (by rfl) _ _ rfl _ rfl AP.out Tryz.underlying134 rfl HP.out) ?_
  refine wpAnyH_take (i:=5) (v:= .tuple #[.agg X,.bool true]) rfl (by kernel_rfl) (by kernel_rfl) (by kernel_rfl) (fun _ _ _ h=>h) (Or.inl ⟨by rfl,fun wq hC=>by have hcell:=HL.out wq (AH.out wq hC);go_simp;try with_reducible rfl⟩) (by assumption) ?_
  simp only[Act.put,zA1,zA3,zA2,zA6,zA4,zA5]
  refine lA (i:=6) rfl ?_
  refine lA (i:=7) rfl ?_
  refine lA (i:=8) rfl ?_
  have QF:=Below.size hS
  have Z3:=Row.new u0 136 (rA Sh.JA)
  refine QA (i:=9) fun K hK=>?_
  go_simp
  have S1:=Below.alloc hS (Below.size hS) (.cells (rA Sh.JA) 136)
  refine hK.out _ _ S1 (fun _=>?_)
  clear hK K
  refine QA (i:=10) fun K hK=>?_
  refine wp_store_row 136 _ _ rfl u0.heap.size X rfl rfl 136 _ Z3 HX.out vB.out lB.out ?_
  have S2:=below_setRow (g:=u0.heap.size) S1 (by first|exact Below.size S1|(have:=Below.size S1;simp at this;omega)|assumption|omega) X
  have Z4:=Row.whole Z3 X
  refine hK.out _ _ S2 (fun _=>?_)
  clear hK K
  refine lA (i:=11) rfl ?_
  refine wpAnyH_done (by kernel_rfl) ?_ _
  generalize(u0.alloc (.cells (rA Sh.JA) 136)).setRow u0.heap.size X=x3 at*
  have hg3:x2.heap.size<=u0.heap.size:=QF
  generalize u0.heap.size=g3 at*
  have C3:=C2.trans (S2.mono C2.size)
  have H3:=AH.out _ S2
  have P3:=AP.out _ S2
  have K3:=AK.out _ S2
  clear AH AP AK Z3 hS S1 S2 C2 H2 P2 K2
  go_wp2_with fail
  have e26:x3.drew.cell? ⟨g3,26,none⟩=some (.int .i64 k0.c.born):=(Z4.drew.cell 26).trans WV
  have e28:x3.drew.cell? ⟨g3,28,none⟩=some (.int .i64 k0.c.seq):=(Z4.drew.cell 28).trans XV
  have hwg:w.heap.size≠g3:=by omega
  have C4:=C3.trans (Below.drew (Below.refl _ _))
  have R4:Row x3.drew sb 101 _:=H3.row
  have M4:MapAt x3.drew mb s.l:=H3.map
  have K4:=K3.drew
  have P4:=P3.drew
  have Z5:=Z4.drew
  have hne1:g1≠w.heap.size:=hgw1
  have hne2:sb≠w.heap.size:=by have:=h.row.lt;omega
  have EM:mb≠w.heap.size:=by have:=h.map.lt;omega
  generalize k0.c.born=vb at*
  generalize k0.c.seq=vs at*
  refine wp_region_held_drew (S:=(fun W=>W.cell? ⟨g3,26,none⟩=some (.int .i64 vb)/\W.cell? ⟨g3,28,none⟩=some (.int .i64 vs))) (by kernel_rfl) ⟨e26,e28⟩ (fun hS=>?_)
  generalize x3.drew=u1 at*
  refine lA (i:=0) rfl ?_
  refine lA (i:=1) rfl ?_
  refine wpAnyH_take (i:=2) (v:= .int .i64 vb) rfl (by kernel_rfl) (by kernel_rfl) (by kernel_rfl) (fun _ _ _ h=>h) (Or.inl ⟨by rfl,fun wq hC=>by have hcell:=hC.1;go_simp;try with_reducible rfl⟩) (by assumption) ?_
  simp only[Act.put,zA1,zA3,zA2,zA6,zA4,zA5]
  refine lA (i:=3) rfl ?_
  refine lA (i:=4) rfl ?_
  refine wpAnyH_take (i:=5) (v:= .int .i64 vs) rfl (by kernel_rfl) (by kernel_rfl) (by kernel_rfl) (fun _ _ _ h=>h) (Or.inl ⟨by rfl,fun wq hC=>by have hcell:=hC.2;go_simp;try with_reducible rfl⟩) (by assumption) ?_
  simp only[Act.put,zA1,zA3,zA2,zA6,zA4,zA5]
  refine lA (i:=6) rfl ?_
  have q0:=K4.free 26
  have q1:=(K4.cell 26).trans (cU c ha)
  refine QA (i:=7) fun K hK=>?_
  go_simp
  have S1:(u1.setCell ⟨w.heap.size,26,none⟩ (.int .i64 vb)).cell? ⟨g3,26,none⟩=some (.int .i64 vb)/\(u1.setCell ⟨w.heap.size,26,none⟩ (.int .i64 vb)).cell? ⟨g3,28,none⟩=some (.int .i64 vs):=
   ⟨((Z5.other (p:=⟨w.heap.size,26,none⟩) (Ne.symm hwg) (.int .i64 vb)).cell 26).trans WV,((Z5.other (p:=⟨w.heap.size,26,none⟩) (Ne.symm hwg) (.int .i64 vb)).cell 28).trans XV⟩
  refine hK.out _ _ S1 (fun _=>?_)
  clear hK K q0 q1
  have K5:=K4.set 26 (.int .i64 vb)
  have R5:=R4.other (p:=⟨w.heap.size,26,none⟩) hne2 (.int .i64 vb)
  have P5:=P4.other (p:=⟨w.heap.size,26,none⟩) hne1 (.int .i64 vb)
  have M5:=M4.kept (vM u1 w.heap.size 26 (.int .i64 vb)) (fun e=>EM (zB2 e))
  have C5:=C4.setCell (p:=⟨w.heap.size,26,none⟩) (zB3 _) (.int .i64 vb)
  clear K4 R4 P4 M4 C4 Z5
  generalize u1.setCell ⟨w.heap.size,26,none⟩ (.int .i64 vb)=u2 at*
  refine lA (i:=8) rfl ?_
  have q0:=K5.free 28
  have q1:u2.cell? ⟨w.heap.size,28,none⟩=some (.int .i64 c.seq):=(K5.cell 28).trans (by rw[Array.getElem?_setIfInBounds_ne (by decide)];exact GF c ha)
  refine QA (i:=9) fun K hK=>?_
  go_simp
  have S2:(u2.setCell ⟨w.heap.size,28,none⟩ (.int .i64 vs)).cell? ⟨g3,26,none⟩=some (.int .i64 vb)/\(u2.setCell ⟨w.heap.size,28,none⟩ (.int .i64 vs)).cell? ⟨g3,28,none⟩=some (.int .i64 vs):=
   ⟨(World.cell?_setCell_other _ _ _ _ (fun e=>hwg (congrArg Addr.block e))).trans S1.1,(World.cell?_setCell_other _ _ _ _ (fun e=>hwg (congrArg Addr.block e))).trans S1.2⟩
  refine hK.out _ _ S2 (fun _=>?_)
  clear hK K q0 q1
  have K6:=K5.set 28 (.int .i64 vs)
  have R6:=R5.other (p:=⟨w.heap.size,28,none⟩) hne2 (.int .i64 vs)
  have P6:=P5.other (p:=⟨w.heap.size,28,none⟩) hne1 (.int .i64 vs)
  have M6:=M5.kept (vM u2 w.heap.size 28 (.int .i64 vs)) (fun e=>EM (zB2 e))
  have C6:=C5.setCell (p:=⟨w.heap.size,28,none⟩) (zB3 _) (.int .i64 vs)
  rw[jH.out]at K6
  refine wpAnyH_done (by kernel_rfl) ?_ _
  rw[<-TC.out]at R6
  have C5:=LB.of (sb:=sb) (mb:=mb) C6 (zB3 _)
  have K5:=K6
  have R5:=R6
  have P5:=P6
  have M5:=M6
  clear K6 R6 P6 M6 C6 S1 S2 hS e26 e28
  go_wp2_with fail
  generalize u2.setCell ⟨w.heap.size,28,none⟩ (.int .i64 vs)=x5 at*
  have AP:=zA7 (fun W (hW:Below x5.heap.size x5 W)=>P5.stays hW)
  have AM:=zA7 (fun W (hW:Below x5.heap.size x5 W)=>M5.stays hW)
  have AR:=zA7 (fun W (hW:Below x5.heap.size x5 W)=>R5.stays hW)
  have AK:=zA7 (fun W (hW:Below x5.heap.size x5 W)=>K5.stays hW)
  have AC:=zA7 (fun W (hW:Below x5.heap.size x5 W)=>show W.cell? ⟨sb,0,none⟩=some (.map (some mb)) by rw[(AR.out W hW).cell];rfl)
  refine dE (C:=(fun W=>Below x5.heap.size x5 W)) 8 (by kernel_rfl) (by kernel_rfl) (Below.refl _ _).drew ?_
  simp only[List.take_succ_cons,List.take_zero]
  refine kA ?_
  refine kA ?_
  refine kA ?_
  refine kA ?_ (v:= .map (some mb)) (hv:=fun wq hC=>by have hcell:=AC.out wq hC;go_simp;try with_reducible rfl)
  refine WB (GB (by rfl) _ _ rfl _ rfl AP.out Tryz.underlying134 rfl HP.out) ?_
  refine WB (GB (by rfl) _ _ rfl _ rfl AK.out Tryz.underlying64 rfl HN.out) ?_
  refine kA ?_
  refine WB (W6 (by rfl) 136 0 1 (.tmp 47) (.tmp 48) rfl (.agg (dA CN)) (.string site) rfl rfl (rA KN) lG.out) ?_
  refine wpQuiet_nil ?_
  intro x6 hC
  have M6:=AM.out x6 hC
  have R6:=AR.out x6 hC
  have C6:=C5.trans (.of hC (zB3 _))
  clear AP AM AR AK AC C5 M5 R5 P5 K5 hC
  simp only[List.drop_succ_cons,List.drop_zero]
  go_wp2_with (at_mapUpdate;refine xR rfl _ _ _ rfl rfl M6 h.okay hc rfl rfl HKK.out oG.out.OA oE.out (by have:=h.length;omega) ?_;intro x7 hM hT)
  go_ret
  have hR:Row x7 sb 101 #[.map (some mb),.int .i64 t.last]:=(hT.grown.block sb R6.lt (fun e=>h.apart (zB2 e).symm)).trans R6
  refine⟨rfl,⟨HW.out,fun k hk=>?_,mG.out,h.apart,hR,hM⟩,C6.trans (.turned hT)⟩
  rcases List.mem_cons.1 (oE.out.mem_iff.1 hk)with e|e
  ·rw[e];exact oG.out
  ·exact h.okay k (List.mem_filter.1 e).1
 |none=>
  have hp:=Sh.iAY hs site.data.toList
  obtain⟨CN,LF⟩: ∃CN:Ma.iA,CN= {c with seq:=s.last+1} :=⟨_,rfl⟩
  obtain⟨KN,hKN⟩: ∃KN:Sh.Kept,KN=⟨{c with seq:=s.last+1},site.data.toList⟩:=⟨_,rfl⟩
  have yH:KN=⟨CN,site.data.toList⟩:=by rw[hKN,LF]
  have hl0:=h.well.last
  have hcn:wB CN:=by rw[LF];exact⟨hc.host,hc.name,hc.path⟩
  have jH:Hid ((dA c).setIfInBounds 28 (.int .i64 (s.last+1))=dA CN):=zA7 (by rw[LF,gU _ ha])
  have hkc:Ma.key KN.c c=true:=by rw[hKN];exact hp.2.2.2
  rw[<-hKN]at hp
  have HL:=zA7 (fun W (hW:NA W sb mb s)=>by have:=hW.look hc;rw[hX,hs]at this;exact this)
  have HW:=zA7 (Sh.eS h.well c site.data.toList)
  obtain⟨t,ht⟩: ∃t,(Sh.put s c site.data.toList).1=t:=⟨_,rfl⟩
  rw[ht]at hp HW⊢
  rw[hp.1]
  have HN:=zA7 (show(Tryz.prog.info? 64).map (·.size)=some (dA CN).size by rw[TA CN hcn.host.addr];exact uB)
  have lG:=zA7 (OT CN hcn.host.addr site)
  rw[<-yH]at lG
  have oG:Hid (zI KN):=zA7 (by rw[yH];exact⟨hcn,by rw[Oct.oA];exact uW⟩)
  have oE:=zA7 hp.2.2.1
  have HKK:=zA7 hkc
  have hla:=hp.2.1
  have mG:Hid (t.last<=1000000):=zA7 (by rw[hla];omega)
  have TC:=zA7 hla
  clear hX hs hp ht hKN yH LF hcn hla hkc
  have R0:=Row.new w 64 (dA c)
  have C0:=(Below.refl w.heap.size w).alloc (zB3 _) (.cells (dA c) 64)
  go_enter Tryz.func56,Tryz.ntmps56
  go_wp2_with (refine jA 10 rfl ?_;refine pA rfl 64 _ rfl w.heap.size rfl R0 Tryz.underlying64 rfl HC.out ?_)
  generalize w.alloc (.cells (dA c) 64)=x0 at*
  refine(uF.out _).mono ?_
  rintro e x1 ⟨rfl,d1⟩
  have C1:=C0.trans (d1.mono C0.size)
  have K1:=R0.stays d1
  obtain⟨Z1,P2,C2,L2⟩:=PA 134 (uA Ma.zero) (uA c) C1 C1.size
  have K2:=L2 _ _ _ K1
  have yF:=K1.lt
  clear L2 d1 C0 R0 K1
  go_wp2_with (refine wpList_store_row rfl 134 _ _ rfl x1.heap.size (uA c) rfl rfl 134 _ Z1 HP.out PE.out mC.out ?_)
  have hgw1:x1.heap.size≠w.heap.size:=by have:=yF;omega
  have hg1:=P2.lt
  have hw1:=C1.size
  generalize(x1.alloc (.cells (uA Ma.zero) 134)).setRow x1.heap.size (uA c)=x2 at*
  generalize x1.heap.size=g1 at*
  have H2:=h.stays C2
  clear Z1 C1
  have AP:=zA7 (fun W (hW:Below x2.heap.size x2 W)=>P2.stays hW)
  have AH:=zA7 (fun W (hW:Below x2.heap.size x2 W)=>H2.stays hW)
  have AK:=zA7 (fun W (hW:Below x2.heap.size x2 W)=>K2.stays hW)
  refine wp_region_held_drew (S:=(fun W=>Below x2.heap.size x2 W)) (by kernel_rfl) (Below.refl _ _).drew (fun hS=>?_)
  generalize x2.drew=u0 at*
  refine lA (i:=0) rfl ?_
  refine lA (i:=1) rfl ?_
  refine lA (i:=2) rfl ?_
  refine wpAnyH_take (i:=3) (v:= .map (some mb)) rfl (by kernel_rfl) (by kernel_rfl) (by kernel_rfl) (fun _ _ _ h=>h) (Or.inl ⟨by rfl,fun wq hC=>by have hcell:=(AH.out wq hC).cell0;go_simp;try with_reducible rfl⟩) (by assumption) ?_
  simp only[Act.put,zA1,zA3,zA2,zA6,zA4,zA5]
  refine bG (i:=4) rfl (GB (by rfl) _ _ rfl _ rfl AP.out Tryz.underlying134 rfl HP.out) ?_
  refine wpAnyH_take (i:=5) (v:= .tuple #[.agg X,.bool false]) rfl (by kernel_rfl) (by kernel_rfl) (by kernel_rfl) (fun _ _ _ h=>h) (Or.inl ⟨by rfl,fun wq hC=>by have hcell:=HL.out wq (AH.out wq hC);go_simp;try with_reducible rfl⟩) (by assumption) ?_
  simp only[Act.put,zA1,zA3,zA2,zA6,zA4,zA5]
  refine lA (i:=6) rfl ?_
  refine lA (i:=7) rfl ?_
  refine lA (i:=8) rfl ?_
  have QF:=Below.size hS
  have Z3:=Row.new u0 136 (rA Sh.JA)
  refine QA (i:=9) fun K hK=>?_
  go_simp
  have S1:=Below.alloc hS (Below.size hS) (.cells (rA Sh.JA) 136)
  refine hK.out _ _ S1 (fun _=>?_)
  clear hK K
  refine QA (i:=10) fun K hK=>?_
  refine wp_store_row 136 _ _ rfl u0.heap.size X rfl rfl 136 _ Z3 HX.out vB.out lB.out ?_
  have S2:=below_setRow (g:=u0.heap.size) S1 (by first|exact Below.size S1|(have:=Below.size S1;simp at this;omega)|assumption|omega) X
  have Z4:=Row.whole Z3 X
  refine hK.out _ _ S2 (fun _=>?_)
  clear hK K
  refine lA (i:=11) rfl ?_
  refine wpAnyH_done (by kernel_rfl) ?_ _
  generalize(u0.alloc (.cells (rA Sh.JA) 136)).setRow u0.heap.size X=x3 at*
  have hg3:x2.heap.size<=u0.heap.size:=QF
  generalize u0.heap.size=g3 at*
  have C3:=C2.trans (S2.mono C2.size)
  have H3:=AH.out _ S2
  have P3:=AP.out _ S2
  have K3:=AK.out _ S2
  clear AH AP AK Z3 hS S1 S2 C2 H2 P2 K2
  have c1:=H3.cell1
  have f1:=H3.row.free 1
  have q0:=K3.free 28
  have q1:=(K3.cell 28).trans (GF c ha)
  have hne1:g1≠w.heap.size:=hgw1
  have hne2:sb≠w.heap.size:=by have:=h.row.lt;omega
  have EM:mb≠w.heap.size:=by have:=h.map.lt;omega
  have eAU:sb≠g1:=by have:=h.row.lt;omega
  have K4:=K3.other (p:=⟨sb,1,none⟩) (Ne.symm hne2) (.int .i64 (s.last+1))
  have P4:=P3.other (p:=⟨sb,1,none⟩) (Ne.symm eAU) (.int .i64 (s.last+1))
  have M4:=H3.map.kept (vM x3 sb 1 (.int .i64 (s.last+1))) (fun e=>H3.apart (zB2 e))
  have R4:=H3.row.set 1 (.int .i64 (s.last+1))
  have K5:=K4.set 28 (.int .i64 (s.last+1))
  have P5:=P4.other (p:=⟨w.heap.size,28,none⟩) hne1 (.int .i64 (s.last+1))
  have M5:=M4.kept (vM _ w.heap.size 28 (.int .i64 (s.last+1))) (fun e=>EM (zB2 e))
  have R5:=R4.other (p:=⟨w.heap.size,28,none⟩) hne2 (.int .i64 (s.last+1))
  have C5:=((LB.of (sb:=sb) (mb:=mb) C3 (zB3 _)).setCell (p:=⟨sb,1,none⟩) (.inr rfl) (.int .i64 (s.last+1))).setCell (p:=⟨w.heap.size,28,none⟩) (.inl (zB3 _)) (.int .i64 (s.last+1))
  rw[jH.out]at K5
  have R6:Row ((x3.setCell ⟨sb,1,none⟩ (.int .i64 (s.last+1))).setCell ⟨w.heap.size,28,none⟩ (.int .i64 (s.last+1))) sb 101 #[.map (some mb),.int .i64 t.last]:=by rw[TC.out];exact R5
  clear R5
  have R5:=R6
  clear R6
  clear K4 P4 M4 R4 K3 P3 C3 Z4 H3
  go_wp2_with fail
  generalize(x3.setCell ⟨sb,1,none⟩ (.int .i64 (s.last+1))).setCell ⟨w.heap.size,28,none⟩ (.int .i64 (s.last+1))=x5 at*
  have AP:=zA7 (fun W (hW:Below x5.heap.size x5 W)=>P5.stays hW)
  have AM:=zA7 (fun W (hW:Below x5.heap.size x5 W)=>M5.stays hW)
  have AR:=zA7 (fun W (hW:Below x5.heap.size x5 W)=>R5.stays hW)
  have AK:=zA7 (fun W (hW:Below x5.heap.size x5 W)=>K5.stays hW)
  have AC:=zA7 (fun W (hW:Below x5.heap.size x5 W)=>show W.cell? ⟨sb,0,none⟩=some (.map (some mb)) by rw[(AR.out W hW).cell];rfl)
  refine dE (C:=(fun W=>Below x5.heap.size x5 W)) 8 (by kernel_rfl) (by kernel_rfl) (Below.refl _ _).drew ?_
  simp only[List.take_succ_cons,List.take_zero]
  refine kA ?_
  refine kA ?_
  refine kA ?_
  refine kA ?_ (v:= .map (some mb)) (hv:=fun wq hC=>by have hcell:=AC.out wq hC;go_simp;try with_reducible rfl)
  refine WB (GB (by rfl) _ _ rfl _ rfl AP.out Tryz.underlying134 rfl HP.out) ?_
  refine WB (GB (by rfl) _ _ rfl _ rfl AK.out Tryz.underlying64 rfl HN.out) ?_
  refine kA ?_
  refine WB (W6 (by rfl) 136 0 1 (.tmp 47) (.tmp 48) rfl (.agg (dA CN)) (.string site) rfl rfl (rA KN) lG.out) ?_
  refine wpQuiet_nil ?_
  intro x6 hC
  have M6:=AM.out x6 hC
  have R6:=AR.out x6 hC
  have C6:=C5.trans (.of hC (zB3 _))
  clear AP AM AR AK AC C5 M5 R5 P5 K5 hC
  simp only[List.drop_succ_cons,List.drop_zero]
  go_wp2_with (at_mapUpdate;refine xR rfl _ _ _ rfl rfl M6 h.okay hc rfl rfl HKK.out oG.out.OA oE.out (by have:=h.length;omega) ?_;intro x7 hM hT)
  go_ret
  have hR:Row x7 sb 101 #[.map (some mb),.int .i64 t.last]:=(hT.grown.block sb R6.lt (fun e=>h.apart (zB2 e).symm)).trans R6
  refine⟨rfl,⟨HW.out,fun k hk=>?_,mG.out,h.apart,hR,hM⟩,C6.trans (.turned hT)⟩
  rcases List.mem_cons.1 (oE.out.mem_iff.1 hk)with e|e
  ·rw[e];exact oG.out
  ·exact h.okay k (List.mem_filter.1 e).1
end Go.Proofs.YtdaaoopkkhfbhaaGreatDoor
namespace Go.Proofs.YtdaaoopkkhfbhaaGreatDoor
open Go.RowKit Go.Maps
theorem cAy(c:Ma.iA)(hc:wB c){sb mb:Nat}{s:Sh.Shelf}(w:World)(h:NA w sb mb s):
  Calls Tryz.prog 59 #[.pointer (some ⟨sb,0,none⟩),.agg (dA c)] w fun e w'=>e= .returned (.bool (Sh.drop s c).2)/\NA w' sb mb (Sh.drop s c).1/\LB sb mb w w':=by
 have z0:=nL
 have z1:=lI
 have ha:=hc.host.addr
 have uF:=zA7 (fun W=>XQ c ha W)
 have HC:=zA7 (show(Tryz.prog.info? 64).map (·.size)=some (dA c).size by rw[TA c ha];exact uB)
 have HP:=zA7 (show(Tryz.prog.info? 134).map (·.size)=some (uA c).size by rw[FE c ha];exact TI)
 have PE:=zA7 (show(uA Ma.zero).size=(uA c).size by rw[FE c ha];rfl)
 have mC:=zA7 (TK c)
 obtain⟨X,hX⟩: ∃X,rA ((Sh.oF s c).getD Sh.JA)=X:=⟨_,rfl⟩
 have HX:=zA7 (show(Tryz.prog.info? 136).map (·.size)=some X.size by rw[<-hX,zC _ (h.pJ c)];exact PF)
 have vB:=zA7 (show(rA Sh.JA).size=X.size by rw[<-hX,zC _ (h.pJ c)];rfl)
 have lB:=zA7 (show X.all (·.oneCell')=true by rw[<-hX];exact PH _)
 have hp:=Sh.cAE h.well c
 have HW:=zA7 (Sh.N5 h.well c)
 obtain⟨t,ht⟩: ∃t,(Sh.drop s c).1=t:=⟨_,rfl⟩
 have hb:(Sh.oF s c).isSome=(Sh.drop s c).2:=hp.2.2.symm
 obtain⟨b,hb2⟩: ∃b,(Sh.drop s c).2=b:=⟨_,rfl⟩
 rw[ht]at hp HW
 rw[hb2]at hb
 have HL:=zA7 (fun W (hW:NA W sb mb s)=>by have:=hW.look hc;rw[hX,hb]at this;exact this)
 rw[ht,hb2]
 have oE:=zA7 hp.1
 have TC:=zA7 hp.2.1
 clear hb hb2 ht hX hp
 have R0:=Row.new w 64 (dA c)
 have C0:=(Below.refl w.heap.size w).alloc (zB3 _) (.cells (dA c) 64)
 go_enter Tryz.func59,Tryz.ntmps59
 go_wp2_with (refine jA 8 rfl ?_;refine pA rfl 64 _ rfl w.heap.size rfl R0 Tryz.underlying64 rfl HC.out ?_)
 generalize w.alloc (.cells (dA c) 64)=x0 at*
 refine(uF.out _).mono ?_
 rintro e x1 ⟨rfl,d1⟩
 have C1:=C0.trans (d1.mono C0.size)
 have K1:=R0.stays d1
 obtain⟨Z1,P2,C2,L2⟩:=PA 134 (uA Ma.zero) (uA c) C1 C1.size
 have K2:=L2 _ _ _ K1
 have yF:=K1.lt
 clear L2 d1 C0 R0 K1
 go_wp2_with (refine wpList_store_row rfl 134 _ _ rfl x1.heap.size (uA c) rfl rfl 134 _ Z1 HP.out PE.out mC.out ?_)
 have hgw1:x1.heap.size≠w.heap.size:=by have:=yF;omega
 have hg1:=P2.lt
 have hw1:=C1.size
 generalize(x1.alloc (.cells (uA Ma.zero) 134)).setRow x1.heap.size (uA c)=x2 at*
 generalize x1.heap.size=g1 at*
 have H2:=h.stays C2
 clear Z1 C1
 have AP:=zA7 (fun W (hW:Below x2.heap.size x2 W)=>P2.stays hW)
 have AH:=zA7 (fun W (hW:Below x2.heap.size x2 W)=>H2.stays hW)
 have AK:=zA7 (fun W (hW:Below x2.heap.size x2 W)=>K2.stays hW)
 refine wp_region_held_drew (S:=(fun W=>Below x2.heap.size x2 W)) (by kernel_rfl) (Below.refl _ _).drew (fun hS=>?_)
 generalize x2.drew=u0 at*
 refine lA (i:=0) rfl ?_
 refine lA (i:=1) rfl ?_
 refine lA (i:=2) rfl ?_
 refine wpAnyH_take (i:=3) (v:= .map (some mb)) rfl (by kernel_rfl) (by kernel_rfl) (by kernel_rfl) (fun _ _ _ h=>h) (Or.inl ⟨by rfl,fun wq hC=>by have hcell:=(AH.out wq hC).cell0;go_simp;try with_reducible rfl⟩) (by assumption) ?_
 simp only[Act.put,zA1,zA3,zA2,zA6,zA4,zA5]
 refine bG (i:=4) rfl (GB (by rfl) _ _ rfl _ rfl AP.out Tryz.underlying134 rfl HP.out) ?_
 refine wpAnyH_take (i:=5) (v:= .tuple #[.agg X,.bool b]) rfl (by kernel_rfl) (by kernel_rfl) (by kernel_rfl) (fun _ _ _ h=>h) (Or.inl ⟨by rfl,fun wq hC=>by have hcell:=HL.out wq (AH.out wq hC);go_simp;try with_reducible rfl⟩) (by assumption) ?_
 simp only[Act.put,zA1,zA3,zA2,zA6,zA4,zA5]
 refine lA (i:=6) rfl ?_
 refine lA (i:=7) rfl ?_
 refine lA (i:=8) rfl ?_
 have QF:=Below.size hS
 have Z3:=Row.new u0 136 (rA Sh.JA)
 refine QA (i:=9) fun K hK=>?_
 go_simp
 have S1:=Below.alloc hS (Below.size hS) (.cells (rA Sh.JA) 136)
 refine hK.out _ _ S1 (fun _=>?_)
 clear hK K
 refine QA (i:=10) fun K hK=>?_
 refine wp_store_row 136 _ _ rfl u0.heap.size X rfl rfl 136 _ Z3 HX.out vB.out lB.out ?_
 have S2:=below_setRow (g:=u0.heap.size) S1 (by first|exact Below.size S1|(have:=Below.size S1;simp at this;omega)|assumption|omega) X
 have Z4:=Row.whole Z3 X
 refine hK.out _ _ S2 (fun _=>?_)
 clear hK K
 refine lA (i:=11) rfl ?_
 refine wpAnyH_done (by kernel_rfl) ?_ _
 generalize(u0.alloc (.cells (rA Sh.JA) 136)).setRow u0.heap.size X=x3 at*
 have hg3:x2.heap.size<=u0.heap.size:=QF
 generalize u0.heap.size=g3 at*
 have C3:=C2.trans (S2.mono C2.size)
 have H3:=AH.out _ S2
 have P3:=AP.out _ S2
 have K3:=AK.out _ S2
 clear AH AP AK Z3 hS S1 S2 C2 H2 P2 K2
 clear Z4 K3 hg1 hw1 hg3
 have AP:=zA7 (fun W (hW:Below x3.heap.size x3 W)=>P3.stays hW)
 have AH:=zA7 (fun W (hW:Below x3.heap.size x3 W)=>H3.stays hW)
 go_wp2_with fail
 refine dE (C:=(fun W=>Below x3.heap.size x3 W)) 5 (by kernel_rfl) (by kernel_rfl) (Below.refl _ _).drew ?_
 simp only[List.take_succ_cons,List.take_zero]
 refine kA ?_
 refine kA ?_
 refine kA ?_
 refine kA ?_ (v:= .map (some mb)) (hv:=fun wq hC=>by have hcell:=(AH.out wq hC).cell0;go_simp;try with_reducible rfl)
 refine WB (GB (by rfl) _ _ rfl _ rfl AP.out Tryz.underlying134 rfl HP.out) ?_
 refine wpQuiet_nil ?_
 intro x4 hC
 have H4:=AH.out x4 hC
 have C4:=C3.trans (hC.mono C3.size)
 clear AH AP C3 H3 P3 hC
 simp only[List.drop_succ_cons,List.drop_zero]
 go_wp2_with (at_delete;refine cAG rfl _ _ rfl rfl H4.map H4.okay hc rfl oE.out ?_;intro x5 hM hT)
 go_ret
 have hR:Row x5 sb 101 #[.map (some mb),.int .i64 s.last]:=(hT.grown.block sb H4.row.lt (fun e=>H4.apart (zB2 e).symm)).trans H4.row
 refine⟨rfl,⟨HW.out,fun k hk=>?_,by rw[TC.out];exact h.few,h.apart,by rw[TC.out];exact hR,hM⟩,(LB.of C4 (zB3 _)).trans (.turned hT)⟩
 exact h.okay k (List.mem_filter.1 (oE.out.mem_iff.1 hk)).1
end Go.Proofs.YtdaaoopkkhfbhaaGreatDoor
namespace Go.Proofs.YtdaaoopkkhfbhaaGreatDoor
open Go.RowKit Go.Maps
theorem kAu(rs:List Ru.Rule)(h:bA.Host)(ha:h.addr.length=16):(Jr.QC rs h).length<=h.name.length+84:=by
 unfold Jr.QC
 split
 ·exact bA.rJ h ha
 ·unfold Sx.site
  split
  ·have:=bA.kAX h (((Sx.suffix (Sx.new rs) h:Nat):Int)+1)
   cases e:bA.XB h (((Sx.suffix (Sx.new rs) h:Nat):Int)+1)with
   |none=>exact Nat.zero_le _
   |some d=>
    rw[e]at this
    have this:d.name.length<=h.name.length:=this
    dsimp only
    omega
  ·split
   ·exact bA.rJ h ha
   ·exact Nat.zero_le _
theorem PX {c:Ma.iA}(h:Jr.ZB c):wB c:=by
 have h1:=(bA.DI h.host).1
 have h2:=h.name
 have h3:=h.path
 refine⟨⟨h.addr,?_,by unfold maxLen;omega⟩,by unfold maxLen;omega,by unfold maxLen;omega⟩
 rcases(bA.DI h.host).2 with e|e|e<;>(rw[e];rfl)
theorem kAt(d:bA.Host)(ha:d.addr.length=16)(hs:d.name.length<=1000000)(t:ByteArray){B jb tb sb mb:Nat}{j:Jr.MA}(ht:t=⟨(Jr.QC j.rules d).toArray⟩)(w:World)(hw:Std w)(h:ZA w B jb tb sb mb j):
  Calls Tryz.prog 55 #[.pointer (some ⟨jb,0,none⟩),.agg (cA d)] w fun e w'=>e= .returned (.string t)/\Below w.heap.size w w':=by
 have R0:=Row.new w 32 (cA d)
 have C0:=(Below.refl w.heap.size w).alloc (zB3 _) (.cells (cA d) 32)
 have J0:=h.stays C0
 have HS:=zA7 (hw.below C0)
 have yS:=zA7 (show(Tryz.prog.info? 32).map (·.size)=some (cA d).size by rw[XA d ha];exact mA)
 obtain⟨S,hS⟩: ∃S:ByteArray,S=⟨(Sx.site (Sx.suffix (Sx.new j.rules) d) d).toArray⟩:=⟨_,rfl⟩
 have RJ:Hid (∀W,Std W->ZA W B jb tb sb mb j->Calls Tryz.prog 105 #[.pointer (some ⟨tb,0,none⟩),.agg (cA d)] W fun e w'=>e= .returned (.string S)/\Below W.heap.size W w'):=zA7 (fun W hW k=>by
  obtain⟨n₀,tm,hT,_⟩:=k.table
  rw[hS]
  exact kAv (Sx.new j.rules) d n₀ tb tm W hW ha hs hT)
 have hE:S.toList.isEmpty=decide (Sx.site (Sx.suffix (Sx.new j.rules) d) d= []):=by
  rw[hS,Oct.aB]
  cases Sx.site (Sx.suffix (Sx.new j.rules) d) d<;>rfl
 have HT:Hid (Sx.site (Sx.suffix (Sx.new j.rules) d) d= []-> ∀W,Std W->Calls Tryz.prog 106 #[.agg (cA d)] W fun e w'=>e= .returned (.string t)/\Below W.heap.size W w'):=zA7 (fun e W hW=>ER d ha t (by rw[ht];unfold Jr.QC;rw[if_pos e]) W hW)
 have HN:Hid (Sx.site (Sx.suffix (Sx.new j.rules) d) d≠ []->S=t):=zA7 (fun e=>by rw[ht,hS];unfold Jr.QC;rw[if_neg e])
 obtain⟨b,hb⟩: ∃b,decide (Sx.site (Sx.suffix (Sx.new j.rules) d) d= [])=b:=⟨_,rfl⟩
 have HB:=zA7 hb
 rw[hb]at hE
 generalize cA d=X at*
 clear hS ht hb h hw ha hs
 go_enter Tryz.func55,Tryz.ntmps55
 go_wp2_with fail
 generalize w.alloc (.cells X 32)=x0 at*
 refine nF (C:=(fun W=>Below x0.heap.size x0 W)) (by kernel_rfl) (by kernel_rfl) (Below.refl _ _).drew ?_
 refine kA ?_
 refine kA ?_
 refine kA ?_
 refine kA ?_ (v:= .pointer (some ⟨tb,0,none⟩)) (hv:=fun wq hC=>by have hcell:=(J0.stays hC).cell1;go_simp;try with_reducible rfl)
 refine WB (GB (by rfl) _ _ rfl _ rfl (fun _ hC=>R0.stays hC) Tryz.underlying32 rfl yS.out) ?_
 refine rC (.string S) (fun wq hC=>by unfold Oper.quietAt;go_simp;exact(RJ.out wq (HS.out.below hC) (J0.stays hC)).mono (fun e w2 ⟨h1,h2⟩=>⟨h1,hC.trans (h2.mono hC.size)⟩)) ?_
 refine kA ?_
 refine wpQuiet_nil ?_
 intro x1 uE
 have R1:=R0.stays uE
 have tB:=zA7 (HS.out.below uE)
 have C1:=C0.trans (uE.mono C0.size)
 clear R0 J0 C0 uE HS RJ
 cases b with
 |true=>
  have HT1:=zA7 (HT.out (zB1 HB.out))
  clear HT HN HB
  go_wp2_with (refine pA rfl 32 _ rfl w.heap.size rfl R1 Tryz.underlying32 rfl yS.out ?_)
  refine(HT1.out _ tB.out).mono ?_
  rintro e x2 ⟨rfl,d2⟩
  have C2:=C1.trans (d2.mono C1.size)
  go_wp2
  go_ret
  exact⟨rfl,C2⟩
 |false=>
  have uI:=zA7 (HN.out (of_decide_eq_false HB.out))
  clear HT HN HB
  go_wp2
  go_ret
  exact⟨by rw[uI.out];rfl,C1⟩
theorem iAN(c:Ma.iA)(hc:Jr.ZB c){B jb tb sb mb:Nat}{j:Jr.MA}(w:World)(hw:Std w)(h:pB w B jb tb sb mb j)(hlast:j.s.last<1000000)(hlen:j.s.l.length<3000):
  Calls Tryz.prog 31 #[.pointer (some ⟨jb,0,none⟩),.agg (dA c)] w fun e w'=>e= .returned (.tuple #[])/\ZA w' B jb tb sb mb ⟨j.rules,Jr.store j c,j.now⟩/\AA jb sb mb w w':=by
 have hca:=hc.addr
 have hcn:=(bA.DI hc.host).1
 have uF:=zA7 (PX hc)
 have R0:=Row.new w 64 (dA c)
 have C0:=(Below.refl w.heap.size w).alloc (zB3 _) (.cells (dA c) 64)
 have J0:=h.toZA.stays C0
 have HS:=zA7 (hw.below C0)
 have Y8:=zA7 (Jr.gA2 j c)
 have yI:=zA7 (show(dA c).extract 2 (2+18)=cA c.host from pK c hca)
 have rI:=zA7 (show 2+18<=(dA c).size by rw[TA c hca];decide)
 have xS:=zA7 (show(Tryz.prog.info? 64).map (·.size)=some (dA c).size by rw[TA c hca];exact uB)
 have ZC:=zA7 (show(dA Ma.xA).size=29 from rfl)
 have z2:=XG
 obtain⟨t,ht⟩: ∃t:ByteArray,t=⟨(Jr.QC j.rules c.host).toArray⟩:=⟨_,rfl⟩
 have htd:t.data.toList=Jr.QC j.rules c.host:=by rw[ht]
 have HSL:Hid (t.size<=maxLen):=zA7 (by
  have h1:=kAu j.rules c.host hca
  have h2:t.size=(Jr.QC j.rules c.host).length:=by rw[ht];exact XM _
  rw[h2];unfold maxLen;omega)
 have RJ:=zA7 (fun W hW k=>kAt c.host hca (by omega) t ht W hW (k:ZA W B jb tb sb mb j))
 have vI:=zA7 (fun W (k:ZA W B jb tb sb mb j)=>iAO c uF.out t HSL.out W k.shelf hlast)
 obtain⟨tl,htl⟩: ∃tl,Jr.QC j.rules c.host=tl:=⟨_,rfl⟩
 have hlaid:(Sh.expire (Sh.put j.s c tl).1 j.now).1=Jr.laid j c:=by rw[<-htl];rfl
 have HST:Hid (∀s:Sh.Shelf,Jr.few tl s=Jr.few tl (Jr.laid j c)->Sh.count s tl<=50->s.l.length<=3000->s=Jr.store j c):=zA7 (fun s h1 h2 h3=>by
  have e:Jr.store j c=Jr.fewer (Jr.few tl (Jr.laid j c)):=by rw[<-htl];rfl
  rw[e,<-h1,Jr.dA0 h2,Jr.dA3 h3])
 rw[htl]at htd
 rw[htd]at vI
 have eT:=zA7 htd
 generalize Jr.store j c=st at*
 clear ht htd htl hca hcn h hw hlast
 go_enter Tryz.func31,Tryz.ntmps31
 go_wp2_with (refine eD rfl 32 _ rfl w.heap.size 2 18 rfl R0 Tryz.underlying32 rfl mA rI.out _ yI.out ?_)
 generalize w.alloc (.cells (dA c) 64)=x0 at*
 refine(RJ.out _ HS.out J0).mono ?_
 rintro e x1 ⟨rfl,d1⟩
 have R1:=R0.stays d1
 have J1:=J0.stays d1
 have C1:=C0.trans (d1.mono C0.size)
 clear R0 J0 C0 d1 HS RJ
 go_wp2_with fail
 refine dE (C:=(fun W=>Below x1.heap.size x1 W)) 6 (by kernel_rfl) (by kernel_rfl) (Below.refl _ _).drew ?_
 refine kA ?_
 refine kA ?_
 refine kA ?_
 refine kA ?_ (v:= .pointer (some ⟨sb,0,none⟩)) (hv:=fun wq hC=>by have hcell:=(J1.stays hC).WE;go_simp;try with_reducible rfl)
 refine WB (GB (by rfl) _ _ rfl _ rfl (fun _ hC=>R1.stays hC) Tryz.underlying64 rfl xS.out) ?_
 refine kA ?_
 refine wpQuiet_nil ?_
 intro x2 hC2
 have J2:=J1.stays hC2
 have C2:=C1.trans (hC2.mono C1.size)
 have OS:=zA7 (vI.out x2 J2)
 have HJ2:=zA7 J2
 have T2:=AA.of (jb:=jb) (sb:=sb) (mb:=mb) C2 (zB3 _)
 clear R1 J1 C1 hC2 vI C2 J2 xS yI rI
 go_wp2_with (go_at_call 56;refine OS.out.mono ?_;rintro e x3 ⟨rfl,K3,t3⟩)
 have J3:ZA x3 B jb tb sb mb ⟨j.rules,(Sh.put j.s c tl).1,j.now⟩:=HJ2.out.turned t3 K3
 have T3:=T2.trans (AA.shelf t3)
 clear K3 t3 HJ2 OS T2
 refine dE (C:=(fun W=>Below x3.heap.size x3 W)) 8 (by kernel_rfl) (by kernel_rfl) (Below.refl _ _).drew ?_
 refine kA ?_
 refine kA ?_
 refine kA ?_
 refine kA ?_ (v:= .pointer (some ⟨sb,0,none⟩)) (hv:=fun wq hC=>by have hcell:=(J3.stays hC).WE;go_simp;try with_reducible rfl)
 refine kA ?_
 refine kA ?_
 refine kA ?_
 refine rC (.int .i64 j.now) (fun wq hC=>by unfold Oper.quietAt;go_simp;exact(fJ (now:=j.now) wq (J3.stays hC).cell0).mono (fun e w2 ⟨h1,h2⟩=>⟨h1,by rw[<-h2];exact hC⟩)) ?_
 refine wpQuiet_nil ?_
 intro x4 iC
 have J4:=J3.stays iC
 have T4:=T3.trans (AA.of iC (zB3 _))
 have HE:=zA7 (fV j.now x4 J4.shelf)
 have nG:=zA7 J4
 clear J3 T3 iC J4
 go_wp2_with (go_at_call 34;refine HE.out.mono ?_;rintro e x5 ⟨rfl,K5,t5⟩)
 have J5:ZA x5 B jb tb sb mb ⟨j.rules,(Sh.expire (Sh.put j.s c tl).1 j.now).1,j.now⟩:=nG.out.turned t5 K5
 have T5:=T4.trans (AA.shelf t5)
 rw[hlaid]at J5
 clear K5 t5 nG HE T4 hlaid
 have eAR:(Jr.laid j c).l.length<=3000:=by have:=Y8.out;omega
 generalize Jr.laid j c=wQ at*
 go_loopg [6] (Sh.count wQ tl) (fun g _ wr=> ∃s:Sh.Shelf,ZA wr B jb tb sb mb ⟨j.rules,s,j.now⟩/\Jr.few tl s=Jr.few tl wQ/\s.l.length<=3000/\g=Sh.count s tl/\AA jb sb mb w wr)
 case atStart=>exact⟨wQ,J5,rfl,eAR,rfl,T5⟩
 case round=>
  obtain⟨s,Js,OI,hle,hg,Ts⟩:=hrel
  clear J5 T5
  have mG:=zA7 OI
  have HG:=zA7 hg
  have GJ:=zA7 (bAR t wr Js.shelf)
  rw[eT.out]at GJ
  have c2:=Js.WE
  clear OI hg
  by_cases hgt:50<Sh.count s tl
  ·have eAN:(50:Int)<(Sh.count s tl:Int):=by omega
   obtain⟨x,ho,hf2,hc2⟩:=Jr.dA2 Js.shelf.well hgt
   have HOL:=zA7 (fun W (k:NA W sb mb s)=>hAP t W k)
   unfold nH at HOL
   rw[eT.out]at HOL
   have ho2:Sh.oldest (iJ tl) s=some x:=ho
   rw[ho2]at HOL
   have IM:wB x:=by
    obtain⟨⟨k,hk,_,rfl⟩,_⟩:=Sh.lN ho2
    exact(Js.shelf.okay k hk).OA
   have HDR:=zA7 (fun W (k:NA W sb mb s)=>cAy x IM W k)
   have cH:=zA7 (hf2.symm.trans mG.out)
   have iE:=zA7 hc2
   have A8:Hid ((Sh.drop s x).1.l.length<=3000):=zA7 (Nat.le_trans (Jr.QU s x).length_le hle)
   have IX:=zA7 (show(Tryz.prog.info? 64).map (·.size)=some (dA x).size by rw[TA x IM.host.addr];exact uB)
   have SX:=zA7 (show(dA Ma.xA).size=(dA x).size by rw[TA x IM.host.addr];rfl)
   have OX:=zA7 (FD x)
   change Hid (∀W,NA W sb mb s->Calls Tryz.prog 58 #[.pointer (some ⟨sb,0,none⟩),.string t] W fun e w'=>e= .returned (.tuple #[.agg (dA x),.bool true])/\Below W.heap.size W w')at HOL
   clear hf2 hc2 ho ho2 IM hle hgt mG
   generalize dA x=X at*
   go_wp2_with fail
   refine GJ.out.mono ?_
   rintro e y1 ⟨rfl,d1⟩
   have J1:=Js.stays d1
   have T1:=Ts.trans (AA.of d1 (zB3 _))
   have c21:=J1.WE
   clear Js Ts d1 c2 GJ
   go_wp2_with fail
   refine(HOL.out _ J1.shelf).mono ?_
   rintro e y2 ⟨rfl,d2⟩
   have J2:=J1.stays d2
   have T2:=T1.trans (AA.of d2 (zB3 _))
   obtain⟨Z3,R3,D3,_⟩:=PA 64 (dA Ma.xA) X (Below.refl y2.heap.size y2) (zB3 _)
   have J3:=J2.stays D3
   have T3:=T2.trans (AA.of D3 (zB3 _))
   clear J1 T1 d2 c21 J2 T2 D3 HOL
   go_wp2_with (refine YC 64 (.tmp 5) (.tmp 43) rfl ?_;refine wpList_store_row rfl 64 _ _ rfl y2.heap.size X rfl rfl 64 _ Z3 IX.out SX.out OX.out ?_)
   clear Z3
   generalize(y2.alloc (.cells (dA Ma.xA) 64)).setRow y2.heap.size X=y3 at*
   refine dE (C:=(fun W=>Below y3.heap.size y3 W)) 5 (by kernel_rfl) (by kernel_rfl) (Below.refl _ _).drew ?_
   refine kA ?_
   refine kA ?_
   refine kA ?_
   refine kA ?_ (v:= .pointer (some ⟨sb,0,none⟩)) (hv:=fun wq hC=>by have hcell:=(J3.stays hC).WE;go_simp;try with_reducible rfl)
   refine WB (GB (by rfl) _ _ rfl _ rfl (fun _ hC=>R3.stays hC) Tryz.underlying64 rfl IX.out) ?_
   refine wpQuiet_nil ?_
   intro y4 iC
   have J4:=J3.stays iC
   have T4:=T3.trans (AA.of iC (zB3 _))
   have F8:=zA7 (HDR.out y4 J4.shelf)
   have nG:=zA7 J4
   clear J3 T3 R3 iC HDR J4
   go_wp2_with (go_at_call 59;refine F8.out.mono ?_;rintro e y5 ⟨rfl,K5,t5⟩)
   go_roundg (Sh.count (Sh.drop s x).1 tl)
   case measure=>have:=iE.out;have:=HG.out;omega
   case rel=>exact⟨(Sh.drop s x).1,nG.out.turned t5 K5,cH.out,A8.out,rfl,T4.trans (AA.shelf t5)⟩
  ·have eAN: ¬((50:Int)<(Sh.count s tl:Int)):=by omega
   have pI:=zA7 (HST.out s mG.out (by omega) hle)
   have nAn: ¬((3000:Int)<(s.l.length:Int)):=by omega
   clear hgt mG HG
   go_wp2_with fail
   refine GJ.out.mono ?_
   rintro e y1 ⟨rfl,d1⟩
   have J1:=Js.stays d1
   have T1:=Ts.trans (AA.of d1 (zB3 _))
   clear Js Ts d1 c2 GJ
   go_wp2_with fail
   go_loopg [8] 0 (fun _ _ wx=>ZA wx B jb tb sb mb ⟨j.rules,s,j.now⟩/\AA jb sb mb w wx)
   case atStart=>exact⟨J1,T1⟩
   case round=>
    obtain⟨J2,T2⟩:=hrel
    have c2:=J2.WE
    clear J1 T1
    have qC:=zA7 (fun W (k:NA W sb mb s)=>gAg W k)
    go_wp2_with fail
    refine(qC.out _ J2.shelf).mono ?_
    rintro e y3 ⟨rfl,d3⟩
    have J3:=J2.stays d3
    have T3:=T2.trans (AA.of d3 (zB3 _))
    rw[pI.out]at J3
    clear J2 T2 d3 c2
    go_wp2
    exact bodyPost_end (results_none rfl _ _ _) rfl ⟨rfl,J3,T3⟩
end Go.Proofs.YtdaaoopkkhfbhaaGreatDoor
namespace Go.Proofs.YtdaaoopkkhfbhaaGreatDoor
open Go.RowKit
theorem fA9(s:ByteArray)(c:UInt8)(w:World):
  Calls Tryz.prog 206 #[.string s,.string ⟨#[c]⟩] w fun e w'=>e= .returned (.int .i64 (Lib.indexByte s.data.toList c))/\w'=w:=
 Any.stringslite_Index_one {Tryz.lays145 with} s c w
theorem fAp(s:ByteArray)(c:UInt8):Lib.indexByte s.data.toList c=Lib.indexB s ⟨#[c]⟩:=by
 show _=Lib.index s.data.toList [c]
 rw[Lib.index_one]
def gE(s:ByteArray)(c:UInt8)(w:World)(e:Ending)(w':World):Prop:=e= .returned (.tuple #[.string ⟨(Lib.cut s.data.toList [c]).1.toArray⟩,.string ⟨(Lib.cut s.data.toList [c]).2.1.toArray⟩,.bool (Lib.cut s.data.toList [c]).2.2])/\Below w.heap.size w w'
theorem yU {s a b:ByteArray}{c:UInt8}{x:Bool}{w w':World}(ha:(⟨(Lib.cut s.data.toList [c]).1.toArray⟩:ByteArray)=a)(hb:(⟨(Lib.cut s.data.toList [c]).2.1.toArray⟩:ByteArray)=b)(hx:(Lib.cut s.data.toList [c]).2.2=x)(h:Below w.heap.size w w'):
  gE s c w (.returned (.tuple #[.string a,.string b,.bool x])) w':=by
 subst ha hb hx
 exact⟨rfl,h⟩
theorem gAp(s:ByteArray)(c:UInt8)(w:World)(hs:s.size<=maxLen):
  Calls Tryz.prog 146 #[.string s,.string ⟨#[c]⟩] w (gE s c w):=by
 unfold maxLen at hs
 have HI:=zA7 (fun W=>fA9 s c W)
 have HE:=zA7 (fAp s c)
 have hsz:(⟨#[c]⟩:ByteArray).size=1:=rfl
 rcases Lib.indexB_cases s ⟨#[c]⟩with hix|⟨i,hix,hroom⟩
 ·obtain⟨e1,e2,e3⟩:=Lib.cutB_miss s ⟨#[c]⟩ hix
  have HQ:Hid (∀w',Below w.heap.size w w'->gE s c w (.returned (.tuple #[.string s,.string ByteArray.empty,.bool false])) w'):=zA7 (fun w' h=>yU e1 e2 e3 h)
  rw[HE.out,hix]at HI
  clear e1 e2 e3 hix HE
  generalize gE s c w=post at*
  go_enter Tryz.func146,Tryz.ntmps146
  go_wp2_with (go_at_call 206;refine(HI.out _).mono ?_;rintro e w' ⟨rfl,rfl⟩)
  have h:=HQ.out _ (Below.refl _ _)
  first|exact h|(go_ret3;exact h)
 ·obtain⟨e1,e2,e3⟩:=Lib.cutB_hit s ⟨#[c]⟩ i hix
  rw[hsz]at hroom e2
  have HQ:Hid (∀w',Below w.heap.size w w'->gE s c w (.returned (.tuple #[.string (s.extract 0 i),.string (s.extract (i+1) s.size),.bool true])) w'):=zA7 (fun w' h=>yU e1 e2 e3 h)
  rw[HE.out,hix]at HI
  have c1:(0:Int)<= ↑i:=by omega
  have c2:(↑i:Int)<= ↑s.size:=by omega
  have c3:(0:Int)<= ↑i+1:=by omega
  have c4:(↑i+1:Int)<= ↑s.size:=by omega
  clear e1 e2 e3 hix HE
  generalize gE s c w=post at*
  go_enter Tryz.func146,Tryz.ntmps146
  go_wp2_with (go_at_call 206;refine(HI.out _).mono ?_;rintro e w' ⟨rfl,rfl⟩)
  go_region
  go_wp2
  have h:=HQ.out _ (Below.refl _ _).drew
  first|exact h|(go_ret3;exact h)
theorem vP(s:ByteArray)(c:UInt8)(w:World)(hs:s.size<=maxLen):
  Calls Tryz.prog 91 #[.string s,.string ⟨#[c]⟩] w (gE s c w):=by
 have HI:=zA7 (fun W=>gAp s c W hs)
 unfold gE at HI⊢
 generalize(Lib.cut s.data.toList [c]).1=a at*
 generalize(Lib.cut s.data.toList [c]).2.1=b at*
 generalize(Lib.cut s.data.toList [c]).2.2=x at*
 go_enter Tryz.func91,Tryz.ntmps91
 go_wp2_with (go_at_call 146;refine(HI.out _).mono ?_;rintro e w1 ⟨rfl,b1⟩)
 first|exact⟨rfl,b1⟩|(go_ret3;exact⟨rfl,b1⟩)
end Go.Proofs.YtdaaoopkkhfbhaaGreatDoor
namespace Go.Proofs.YtdaaoopkkhfbhaaGreatDoor
open Go.RowKit
theorem eAk(s:ByteArray)(w:World)(hs:s.size<=maxLen):
  Calls Tryz.prog 90 #[.string s] w fun e w'=>e= .returned (.bool (s.data.toList.any Hd.ED))/\w=w':=by
 unfold maxLen at hs
 obtain⟨B,hB⟩: ∃B,s.data.toList.any Hd.ED=B:=⟨_,rfl⟩
 rw[hB]
 have oS:=zA7 hB
 clear hB
 go_enter Tryz.func90,Tryz.ntmps90
 go_wp2
 go_loop [7] (fun i=> ∃k:Nat,k<=s.size/\i= .int .i64 k/\(s.data.toList.take k).any Hd.ED=false) (fun i=>s.size- (intOf i).toNat)
 case atStart=>exact⟨0,Nat.zero_le _,rfl,by simp⟩
 case round=>
  obtain⟨k,hk,rfl,hall⟩:=hrel
  have HA:=zA7 hall
  clear hall
  by_cases hlt:k<s.size
  ·have hl:k<s.data.toList.length:=by rw[Oct.oA];exact hlt
   have HT:=zA7 (Oct.iI s k hlt)
   have HB:=zA7 (show Hd.ED s[k]=true->B=true from fun h=>oS.out▸List.any_eq_true.2 ⟨s[k],by rw[<-Oct.MI s k hlt];exact List.getElem_mem hl,h⟩)
   have HN:=zA7 (show Hd.ED s[k]=false->(s.data.toList.take (k+1)).any Hd.ED=false from fun h=>by rw[HT.out,List.any_append,HA.out,List.any_cons,h];rfl)
   have hbd:Hd.ED s[k]=decide (s[k].toNat<=8\/(10<=s[k].toNat/\s[k].toNat<=31)\/s[k].toNat=127):=rfl
   have HD:=zA7 hbd
   clear hbd HT HA
   have hor:((s[k].toNat:Int)<32/\((s[k].toNat:Int) !=9)=true)\/(¬(s[k].toNat:Int)<32/\((s[k].toNat:Int)==127)=true)\/(¬(s[k].toNat:Int)<32/\((s[k].toNat:Int)==127)=false)\/((s[k].toNat:Int)<32/\((s[k].toNat:Int) !=9)=false/\((s[k].toNat:Int)==127)=false):=by
    by_cases h1:(s[k].toNat:Int)<32
    ·by_cases h2:s[k].toNat=9
     ·exact .inr (.inr (.inr ⟨h1,by rw[h2];rfl,by rw[h2];rfl⟩))
     ·exact .inl ⟨h1,by rw[bne_iff_ne];omega⟩
    ·by_cases h2:s[k].toNat=127
     ·exact .inr (.inl ⟨h1,by rw[h2];rfl⟩)
     ·exact .inr (.inr (.inl ⟨h1,by rw[beq_eq_false_iff_ne];omega⟩))
   rcases hor with⟨h1,h2⟩|⟨h1,h2⟩|⟨h1,h2⟩|⟨h1,h2,h3⟩
   ·have HR:=zA7 (HB.out (by rw[HD.out];rw[bne_iff_ne]at h2;exact zA9 (by omega)))
    go_wp2
    go_ret
    exact⟨tA (by rw[HR.out]),rfl⟩
   ·have HR:=zA7 (HB.out (by rw[HD.out];rw[beq_iff_eq]at h2;exact zA9 (by omega)))
    go_wp2
    go_ret
    exact⟨tA (by rw[HR.out]),rfl⟩
   ·have HR:=zA7 (HN.out (by rw[HD.out];rw[beq_eq_false_iff_ne]at h2;exact zA8 (by omega)))
    go_wp2
    go_round
    case rel=>exact⟨k+1,by omega,by go_num,HR.out⟩
    case measure=>simp[intOf];omega
   ·have HR:=zA7 (HN.out (by rw[HD.out];rw[bne_eq_false_iff_eq]at h2;exact zA8 (by omega)))
    go_wp2
    go_round
    case rel=>exact⟨k+1,by omega,by go_num,HR.out⟩
    case measure=>simp[intOf];omega
  ·have HR:=zA7 (show B=false from by have:=HA.out;rw[Oct.oD s k (by omega)]at this;rw[<-oS.out];exact this)
   go_wp2
   go_ret
   exact⟨tA (by rw[HR.out]),rfl⟩
def PL(l:List UInt8)(w:World)(e:Ending)(w':World):Prop:=e= .returned (.tuple #[.string ⟨(Hd.ahead l).toArray⟩,.string ⟨(Hd.behind l).toArray⟩,.bool (decide (61∈l))])/\Below w.heap.size w w'
theorem kAZ(s:ByteArray):(⟨(Lib.cut s.data.toList [61]).1.toArray⟩:ByteArray).size<=s.size/\(⟨(Lib.cut s.data.toList [61]).2.1.toArray⟩:ByteArray).size<=s.size:=by
 have e: ∀l:List UInt8,(⟨l.toArray⟩:ByteArray).size=l.length:=fun l=>by show(List.toArray _).size=_;simp
 rw[e (Lib.cut s.data.toList [61]).1,e (Lib.cut s.data.toList [61]).2.1,Hd.wP,<-Oct.oA s]
 have h1:=(List.takeWhile_prefix (Hd.kC 61) (l:=s.data.toList)).length_le
 have h2:=(List.dropWhile_suffix (Hd.kC 61) (l:=s.data.toList)).length_le
 exact⟨h1,by show(List.drop 1 _).length<=_;rw[List.length_drop];omega⟩
theorem tU(s:ByteArray)(w:World)(hs:s.size<=maxLen):
  Calls Tryz.prog 93 #[.string s] w (PL s.data.toList w):=by
 have HC:=zA7 (fun W=>vP s 61 W hs)
 unfold gE at HC
 obtain⟨z1,z2⟩:=kAZ s
 obtain⟨a,ha⟩: ∃a:ByteArray,(⟨(Lib.cut s.data.toList [61]).1.toArray⟩:ByteArray)=a:=⟨_,rfl⟩
 obtain⟨b,hb⟩: ∃b:ByteArray,(⟨(Lib.cut s.data.toList [61]).2.1.toArray⟩:ByteArray)=b:=⟨_,rfl⟩
 obtain⟨e1,e2,e3⟩:=Hd.cA4 s.data.toList
 rw[ha,hb,e3]at HC
 rw[ha]at z1
 rw[hb]at z2
 have ha2:a.data.toList=(Lib.cut s.data.toList [61]).1:=by rw[<-ha]
 have hb2:b.data.toList=(Lib.cut s.data.toList [61]).2.1:=by rw[<-hb]
 have T1:=zA7 (fun W=>OR a W (Nat.le_trans z1 hs))
 have T2:=zA7 (fun W=>OR b W (Nat.le_trans z2 hs))
 rw[ha2,e1]at T1
 rw[hb2,e2]at T2
 clear ha hb ha2 hb2 e1 e2 e3 z1 z2
 unfold PL
 generalize decide (61∈s.data.toList)=x at*
 generalize Hd.ahead s.data.toList=p at*
 generalize Hd.behind s.data.toList=q at*
 go_enter Tryz.func93,Tryz.ntmps93
 go_wp2_with fail
 refine(HC.out _).mono ?_
 rintro e w1 ⟨rfl,b1⟩
 go_wp2_with fail
 refine(T1.out _).mono ?_
 rintro e w2 ⟨rfl,rfl⟩
 go_wp2_with fail
 refine(T2.out _).mono ?_
 rintro e w3 ⟨rfl,rfl⟩
 go_wp2
 first|exact⟨rfl,b1⟩|(go_ret3;exact⟨rfl,b1⟩)
def dK(l:List UInt8)(w:World)(e:Ending)(w':World):Prop:=e= .returned (.tuple #[.string ⟨(Hd.pair l).1.toArray⟩,.string ⟨(Hd.pair l).2.toArray⟩])/\Below w.heap.size w w'
theorem jAb(s:ByteArray)(w:World)(hs:s.size<=maxLen):
  Calls Tryz.prog 92 #[.string s] w (dK s.data.toList w):=by
 have HC:=zA7 (fun W=>tU s W hs)
 unfold PL at HC
 have HP:Hid (∀a b w',Hd.pair s.data.toList=(a,b)->Below w.heap.size w w'->dK s.data.toList w (.returned (.tuple #[.string ⟨a.toArray⟩,.string ⟨b.toArray⟩])) w'):=zA7 (fun a b w' h k=>by unfold dK;rw[h];exact⟨rfl,k⟩)
 generalize hpost:dK s.data.toList w=post at*
 clear hpost
 by_cases h:61∈s.data.toList
 ·have HQ:=zA7 (fun w'=>HP.out _ _ w' (Hd.iAb h))
  rw[zA9 h]at HC
  clear h HP
  generalize Hd.ahead s.data.toList=p at*
  generalize Hd.behind s.data.toList=q at*
  go_enter Tryz.func92,Tryz.ntmps92
  go_wp2_with fail
  refine(HC.out _).mono ?_
  rintro e w1 ⟨rfl,b1⟩
  go_wp2
  first|exact HQ.out _ b1|(go_ret2;exact HQ.out _ b1)
 ·have HQ:=zA7 (fun w'=>HP.out _ _ w' (Hd.iA8 h))
  rw[zA8 h]at HC
  clear h HP
  generalize Hd.ahead s.data.toList=p at*
  generalize Hd.behind s.data.toList=q at*
  go_enter Tryz.func92,Tryz.ntmps92
  go_wp2_with fail
  refine(HC.out _).mono ?_
  rintro e w1 ⟨rfl,b1⟩
  go_wp2
  first|exact HQ.out _ b1|(go_ret2;exact HQ.out _ b1)
def AJ(v:List UInt8)(w:World)(e:Ending)(w':World):Prop:=e= .returned (.tuple #[.int .i64 (((Hd.XC v).getD 0:Nat):Int),.bool (Hd.XC v).isSome])/\w=w'
theorem jA9(s:ByteArray)(w:World)(hs:s.size<=1048576):
  Calls Tryz.prog 149 #[.string s] w (AJ s.data.toList w):=by
 have HC:=zA7 (fun W=>Tryz.strings_CutPrefix s ⟨#[45]⟩ W)
 have e1:(⟨#[45]⟩:ByteArray).data.toList= [45]:=rfl
 rw[e1,Hd.U2,Hd.UP]at HC
 have HD:=zA7 (fun W=>II s W (by unfold maxLen;omega))
 have HP:Hid (∀o:Option Nat,Hd.XC s.data.toList=o->AJ s.data.toList w (.returned (.tuple #[.int .i64 ((o.getD 0:Nat):Int),.bool o.isSome])) w):=zA7 (fun o h=>by unfold AJ;rw[h];exact⟨rfl,rfl⟩)
 generalize hpost:AJ s.data.toList w=post at*
 clear hpost e1
 by_cases h:s.data.toList.head?=some 45
 ·have HA:=Hd.aAw h
  rw[if_pos h,zA9 h]at HC
  have HE:=zA7 (fun W=>II ⟨(s.data.toList.drop 1).toArray⟩ W (by
   unfold maxLen
   have:(⟨(s.data.toList.drop 1).toArray⟩:ByteArray).size=(s.data.toList.drop 1).length:=by show(List.toArray _).size=_;simp
   rw[this,List.length_drop,Oct.oA];omega))
  have e2:(⟨(s.data.toList.drop 1).toArray⟩:ByteArray).data.toList=s.data.toList.drop 1:=rfl
  rw[e2]at HE
  have HQ:Hid (post (.returned (.tuple #[.int .i64 0,.bool (Oct.digits (s.data.toList.drop 1))])) w):=zA7 (by
   cases hd:Oct.digits (s.data.toList.drop 1)with
   |true=>rw[hd,if_pos rfl]at HA;exact HP.out _ HA
   |false=>rw[hd,if_neg (by simp)]at HA;exact HP.out _ HA)
  clear HP HA HD e2 h
  generalize Oct.digits (s.data.toList.drop 1)=d at*
  generalize(⟨(s.data.toList.drop 1).toArray⟩:ByteArray)=r at*
  go_enter Tryz.func149,Tryz.ntmps149
  go_wp2_with fail
  refine(HC.out _).mono ?_
  rintro e w1 ⟨rfl,rfl⟩
  go_wp2_with fail
  refine(HE.out _).mono ?_
  rintro e w2 ⟨rfl,rfl⟩
  go_wp2
  first|exact HQ.out|(go_ret2;exact HQ.out)
 ·have HA:=Hd.aAx h
  rw[if_neg h,zA8 h,DE]at HC
  clear h
  cases hd:Oct.digits s.data.toList with
  |false=>
   rw[hd,if_neg (by simp)]at HA
   have HQ:=zA7 (HP.out _ HA)
   rw[hd]at HD
   clear HA HP hd
   go_enter Tryz.func149,Tryz.ntmps149
   go_wp2_with fail
   refine(HC.out _).mono ?_
   rintro e w1 ⟨rfl,rfl⟩
   go_wp2_with fail
   refine(HD.out _).mono ?_
   rintro e w2 ⟨rfl,rfl⟩
   go_wp2
   first|exact HQ.out|(go_ret2;exact HQ.out)
  |true=>
   rw[hd,if_pos rfl]at HA
   have HQ:Hid (post (.returned (.tuple #[.int .i64 ((min (Oct.numOf s.data.toList) 34560000:Nat):Int),.bool true])) w):=zA7 (HP.out _ HA)
   have Z7:=zA7 hd
   rw[hd]at HD
   clear HA HP hd
   go_enter Tryz.func149,Tryz.ntmps149
   go_wp2_with fail
   refine(HC.out _).mono ?_
   rintro e w1 ⟨rfl,rfl⟩
   go_wp2_with fail
   refine(HD.out _).mono ?_
   rintro e w2 ⟨rfl,rfl⟩
   go_wp2
   go_loop [6,21] (fun n i=> ∃k:Nat,k<=s.size/\i= .int .i64 k/\n= .int .i64 ((Hd.held s.data.toList k:Nat):Int)) (fun _ i=>s.size- (intOf i).toNat)
   case atStart=>exact⟨0,Nat.zero_le _,rfl,by rw[Hd.eAG];rfl⟩
   case round=>
    obtain⟨k,hk,rfl,rfl⟩:=hrel
    by_cases hlt:k<s.size
    ·have hc:=Oct.fM Z7.out k hlt
     have HT:=zA7 (Hd.eAF s k hlt)
     have hb:=Hd.eAE s.data.toList k
     generalize Hd.held s.data.toList k=n at*
     go_wp2
     go_round
     case rel=>exact⟨k+1,by omega,by go_num,dB (by have:=HT.out;omega)⟩
     case measure=>simp[intOf];omega
    ·have e:=Hd.eAD s k (by omega)
     rw[<-e]at HQ
     have HR:=HQ
     clear e HQ
     generalize Hd.held s.data.toList k=n at*
     go_wp2
     first|exact HR.out|(go_ret2;exact HR.out)
theorem jAc(s:ByteArray)(w:World):
  Calls Tryz.prog 151 #[.string s] w fun e w'=>e= .returned (.string ⟨(if s.data.toList.head?=some 47 then s.data.toList else []).toArray⟩)/\w=w':=by
 have HC:=zA7 (fun W=>Tryz.strings_HasPrefix s ⟨#[47]⟩ W)
 have e1:(⟨#[47]⟩:ByteArray).data.toList= [47]:=rfl
 rw[e1,Hd.UP]at HC
 clear e1
 by_cases h:s.data.toList.head?=some 47
 ·rw[if_pos h,DE]
  rw[zA9 h]at HC
  clear h
  go_enter Tryz.func151,Tryz.ntmps151
  go_wp2_with fail
  refine(HC.out _).mono ?_
  rintro e w1 ⟨rfl,rfl⟩
  go_wp2
  go_ret
  exact⟨rfl,rfl⟩
 ·rw[if_neg h]
  rw[zA8 h]at HC
  clear h
  go_enter Tryz.func151,Tryz.ntmps151
  go_wp2_with fail
  refine(HC.out _).mono ?_
  rintro e w1 ⟨rfl,rfl⟩
  go_wp2
  go_ret
  exact⟨rfl,rfl⟩
end Go.Proofs.YtdaaoopkkhfbhaaGreatDoor
