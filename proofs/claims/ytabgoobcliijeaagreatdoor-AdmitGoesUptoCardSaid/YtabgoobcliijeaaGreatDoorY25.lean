/- The walk of what the laws of layer 10 begin with: a URL and a header, of texts. -/
import Derived.Test.YtabgoobcliijeaaGreatDoorY21
import Derived.Test.YtabgoobcliijeaaGreatDoorY24
import Derived.Lib.LastIndexByte
set_option maxHeartbeats 8000000
set_option maxRecDepth 100000
namespace Go.Proofs.YtabgoobcliijeaaGreatDoor
open Go.RowKit
theorem cAC {P:Program}{fn:Func}{p q u:Tmp}{ty tz:TypeId}(h:fn.results= #[.cell p ty,.cell q tz,.tmp u])(tmps:Array Value)(w:World)(g k:Nat)(t t':TypeId)(cs ds:Array Value)(d d':TypeDesc)
  (hp:tmps.getD p undef= .pointer (some ⟨g,0,none⟩))(hq:tmps.getD q undef= .pointer (some ⟨k,0,none⟩))(v:Value)(hv:tmps.getD u undef=v)(hg:Row w g t cs)(hk:Row w k t' ds)
  (hu:P.underlying ty=some d)(hd:(match d with| .struct _| .array _ _=>true|_=>false)=true)(hi:(P.info? ty).map (·.size)=some cs.size)
  (hu':P.underlying tz=some d')(hd':(match d' with| .struct _| .array _ _=>true|_=>false)=true)(hi':(P.info? tz).map (·.size)=some ds.size):
  (results fn tmps).run P w= .ok (.tuple #[.agg cs,.agg ds,v]) w:=by
 have hp':(asAddr (tmps.getD p undef)).run P w= .ok ⟨g,0,none⟩ w:=by rw[hp];rfl
 have hq':(asAddr (tmps.getD q undef)).run P w= .ok ⟨k,0,none⟩ w:=by rw[hq];rfl
 have e:(results fn tmps).run P w=((asAddr (tmps.getD p undef)).run P w).andThen fun a w₁=>((loadVar ty a).run P w₁).andThen fun x w₂=>((asAddr (tmps.getD q undef)).run P w₂).andThen fun b w₃=>((loadVar tz b).run P w₃).andThen fun y w₄=> .ok (.tuple #[x,y,tmps.getD u undef]) w₄:=by
  simp only[results,h]
  simp[Sem.run_bind,Result.andThen]
 rw[e,hp',Result.andThen_ok,run_loadVar_row (P:=P) w g t ty cs (0,0) d hg hu hd hi,Result.andThen_ok,hq',Result.andThen_ok,run_loadVar_row (P:=P) w k t' tz ds (0,0) d' hk hu' hd' hi',Result.andThen_ok,hv]
structure ZM(a b:Nat)(U H:Array Value)(w w':World):Prop where
 row0:Row w' a 33 U
 NB:Row w' b 35 H
 below:Below w.heap.size w w'
theorem ZM.setRow {a b g:Nat}{U H cs:Array Value}{w w':World}(k:ZM a b U H w w')(hg:w.heap.size<=g)(h1:a≠g)(h2:b≠g):ZM a b U H w (w'.setRow g cs):=
 ⟨k.row0.aside h1 cs,k.NB.aside h2 cs,below_setRow k.below hg cs⟩
def GO(u:Int×Ur.URL)(h:Int×Hd.Head)(w:World)(e:Ending)(w':World):Prop:=
 e= .returned (.tuple #[.agg (pA u.2),.agg (headA h.2),.bool (decide (u.1=0)&&decide (h.1=0))])/\Below w.heap.size w w'
theorem fAw(u h:ByteArray)(w:World)(hu:u.size<=1048576)(hh:h.size<=1100000):
  Calls Tryz.prog 11 #[.string u,.string h] w (GO (Ur.parse u.data.toList) (Hd.parse h.data.toList) w):=by
 have z0:=iJ
 have z1:=jG
 obtain⟨⟨n,x⟩,hx⟩: ∃o,Ur.parse u.data.toList=o:=⟨_,rfl⟩
 obtain⟨⟨m,y⟩,hy⟩: ∃o,Hd.parse h.data.toList=o:=⟨_,rfl⟩
 have hxl:x.host.addr.length=16:=by have:=Ur.gO u.data.toList;rw[hx]at this;exact this
 have H1:=fun W=>nA4 u W hu
 have H2:=fun W=>cAl h W hh
 rw[hx]at H1
 rw[hy]at H2
 unfold iP at H1
 unfold JI at H2
 have H1:=zA7 H1
 have H2:=zA7 H2
 rw[hx,hy]
 have HU:=zA7 (aC x hxl)
 have NS:=zA7 (kE x)
 have VS:=zA7 (show(pA Ur.zero).size=21 from rfl)
 have HH:=zA7 (show(headA y).size=11 from rfl)
 have EM:=zA7 (DC y)
 have SK:=zA7 (show(headA Hd.zero).size=11 from rfl)
 have e1:(n==0)=decide (n=0):=by rw[Bool.eq_iff_iff];simp
 have e2:(m==0)=decide (m=0):=by rw[Bool.eq_iff_iff];simp
 have HP:Hid (∀b w',b=(decide (n=0)&&decide (m=0))->Below w.heap.size w w'->GO (n,x) (m,y) w (.returned (.tuple #[.agg (pA x),.agg (headA y),.bool b])) w'):=zA7 (fun b w' e hb=>⟨by rw[e],hb⟩)
 generalize GO (n,x) (m,y) w=post at*
 generalize decide (n=0)=b1 at*
 generalize decide (m=0)=b2 at*
 generalize pA x=U at*
 generalize headA y=V at*
 generalize pA Ur.zero=ZU at*
 generalize headA Hd.zero=ZH at*
 clear hx hy hxl hu hh
 have A0:=Row.new w 33 ZU
 have hN:(w.alloc (.cells ZU 33)).heap.size=w.heap.size+1:=by simp
 have A1:=Row.new (w.alloc (.cells ZU 33)) 35 ZH
 rw[hN]at A1
 have A2:=A0.alloc (.cells ZH 35)
 have C0:=((Below.refl w.heap.size w).alloc (zB3 _) (.cells ZU 33)).alloc (by omega) (.cells ZH 35)
 clear A0 hN
 go_enter Tryz.func11,Tryz.ntmps11
 go_wp2_with fail
 generalize(w.alloc (.cells ZU 33)).alloc (.cells ZH 35)=x0 at*
 refine(H1.out _).mono ?_
 rintro e v1 ⟨rfl,d1⟩
 have C1:=C0.trans (d1.mono C0.size)
 have A3:=A2.stays d1
 have A4:=A1.stays d1
 obtain⟨T1,U1,C2,L1⟩:=JA 33 ZU U C1 C1.size
 have A5:=L1 _ _ _ A3
 have A6:=L1 _ _ _ A4
 have zH:=A4.lt
 clear L1 A3 A4 C1 d1 A1 A2 C0
 go_wp2_with (refine wpList_store_row rfl 33 _ _ rfl v1.heap.size U rfl rfl 33 _ T1 (by rw[HU.out];exact qB) (by rw[HU.out,VS.out]) NS.out ?_)
 generalize(v1.alloc (.cells ZU 33)).setRow v1.heap.size U=y1 at*
 generalize v1.heap.size=g1 at*
 refine(H2.out _).mono ?_
 rintro e v2 ⟨rfl,d2⟩
 have C3:=C2.trans (d2.mono C2.size)
 have A7:=A5.stays d2
 have A8:=A6.stays d2
 have U2:=U1.stays d2
 obtain⟨T2,V2,C4,L2⟩:=JA 35 ZH V C3 C3.size
 have A9:=L2 _ _ _ A7
 have Aa:=L2 _ _ _ A8
 have U3:=L2 _ _ _ U2
 have le2:=U2.lt
 have le3:=A8.lt
 clear L2 A7 A8 U2 C3 d2 A5 A6 U1 C2 T1
 go_wp2_with (refine wpList_store_row rfl 35 _ _ rfl v2.heap.size V rfl rfl 35 _ T2 (by rw[HH.out];exact WA) (by rw[HH.out,SK.out]) EM.out ?_)
 generalize(v2.alloc (.cells ZH 35)).setRow v2.heap.size V=y2 at*
 generalize v2.heap.size=g2 at*
 clear T2 H1 H2
 have ne1:g1≠w.heap.size:=by omega
 have ne2:g1≠w.heap.size+1:=by omega
 have ne3:g2≠w.heap.size:=by omega
 have ne4:g2≠w.heap.size+1:=by omega
 have VQ:w.heap.size≠w.heap.size+1:=by omega
 have K0:ZM g1 g2 U V w y2.drew:=⟨U3.drew,V2.drew,C4.drew⟩
 have Z1:=A9.drew
 have Z2:=Aa.drew
 have IU:=zA7 (show(Tryz.prog.info? 33).map (·.size)=some U.size by rw[HU.out];exact qB)
 have IV:=zA7 (show(Tryz.prog.info? 35).map (·.size)=some V.size by rw[HH.out];exact WA)
 refine wp_region_held_drew (S:=ZM g1 g2 U V w) (by kernel_rfl) K0 (fun _=>?_)
 refine uD (i:=0) rfl (lC (by rfl) _ _ rfl _ rfl (fun _ h=>h.row0) Tryz.underlying33 rfl IU.out) ?_
 refine uD (i:=1) rfl (lC (by rfl) _ _ rfl _ rfl (fun _ h=>h.NB) Tryz.underlying35 rfl IV.out) ?_
 refine mA (i:=2) rfl ?_
 refine mA (i:=3) rfl ?_
 refine mA (i:=4) rfl ?_
 cases b1
 case false=>
  refine uD (i:=5) rfl (Or.inr ⟨by rfl,rfl⟩) ?_
  refine uD (i:=6) rfl (Or.inr ⟨by rfl,rfl⟩) ?_
  refine mA (i:=7) rfl ?_
  refine yA (i:=8) fun K hK=>?_
  refine wp_store_row 33 _ _ rfl w.heap.size U rfl rfl 33 _ Z1 IU.out (by rw[HU.out,VS.out]) NS.out ?_
  have K1:=K0.setRow (g:=w.heap.size) (cs:=U) (zB3 _) ne1 ne3
  have A1:=Z1.whole U
  have A2:=Z2.aside (Ne.symm VQ) U
  refine hK.out _ _ K1 (fun _=>?_)
  clear hK K
  refine yA (i:=9) fun K hK=>?_
  refine wp_store_row 35 _ _ rfl (w.heap.size+1) V rfl rfl 35 _ A2 IV.out (by rw[HH.out,SK.out]) EM.out ?_
  have K2:=K1.setRow (g:=w.heap.size+1) (cs:=V) (by omega) ne2 ne4
  have E1:=A1.aside VQ V
  have E2:=A2.whole V
  refine hK.out _ _ K2 (fun _=>?_)
  clear hK K
  refine mA (i:=10) rfl ?_
  refine wpAnyH_done (by kernel_rfl) ?_ _
  go_wp2
  exact bodyPost_ret (v:= .tuple #[.agg U,.agg V,.bool false]) (cAC rfl _ _ w.heap.size (w.heap.size+1) _ _ _ _ _ _ rfl rfl _ rfl E1 E2 Tryz.underlying33 rfl IU.out Tryz.underlying35 rfl IV.out) rfl (HP.out _ _ (by cases b2<;>rfl) K2.below)
 case true=>
  refine mA (i:=5) rfl ?_
  refine mA (i:=6) rfl ?_
  refine mA (i:=7) rfl ?_
  refine yA (i:=8) fun K hK=>?_
  refine wp_store_row 33 _ _ rfl w.heap.size U rfl rfl 33 _ Z1 IU.out (by rw[HU.out,VS.out]) NS.out ?_
  have K1:=K0.setRow (g:=w.heap.size) (cs:=U) (zB3 _) ne1 ne3
  have A1:=Z1.whole U
  have A2:=Z2.aside (Ne.symm VQ) U
  refine hK.out _ _ K1 (fun _=>?_)
  clear hK K
  refine yA (i:=9) fun K hK=>?_
  refine wp_store_row 35 _ _ rfl (w.heap.size+1) V rfl rfl 35 _ A2 IV.out (by rw[HH.out,SK.out]) EM.out ?_
  have K2:=K1.setRow (g:=w.heap.size+1) (cs:=V) (by omega) ne2 ne4
  have E1:=A1.aside VQ V
  have E2:=A2.whole V
  refine hK.out _ _ K2 (fun _=>?_)
  clear hK K
  refine mA (i:=10) rfl ?_
  refine wpAnyH_done (by kernel_rfl) ?_ _
  go_wp2
  exact bodyPost_ret (v:= .tuple #[.agg U,.agg V,.bool b2]) (cAC rfl _ _ w.heap.size (w.heap.size+1) _ _ _ _ _ _ rfl rfl _ rfl E1 E2 Tryz.underlying33 rfl IU.out Tryz.underlying35 rfl IV.out) rfl (HP.out _ _ (by cases b2<;>rfl) K2.below)
end Go.Proofs.YtabgoobcliijeaaGreatDoor
namespace Go.Proofs.YtabgoobcliijeaaGreatDoor
open Go.RowKit Go.Maps
def cN(w:World)(v:Value)(ts:List ByteArray):Prop:=
 ∃A c,v= .slice A ts.length c/\(0<ts.length-> ∃g,A=some ⟨g,0,none⟩/\g<w.heap.size/\ts.length<=c/\ ∀(k:Nat)(t:ByteArray),ts[k]? =some t->w.cell? ⟨g,k,none⟩=some (.string t))
theorem cN.stays {w w':World}{v:Value}{ts:List ByteArray}(h:cN w v ts)(hb:Below w.heap.size w w'):cN w' v ts:=by
 obtain⟨A,c,hv,hh⟩:=h
 refine⟨A,c,hv,fun h0=>?_⟩
 obtain⟨g,hA,hg,hc,hcell⟩:=hh h0
 exact⟨g,hA,Nat.lt_of_lt_of_le hg hb.size,hc,fun k t hk=>(hb.cell (p:=⟨g,k,none⟩) hg).trans (hcell k t hk)⟩
def VE(rs:List Ru.Rule)(ts:List ByteArray):Bool:=rs.all (fun r=>decide (r.name.length<=300))&& (ts.all (fun t=>decide (t.size<=2500))&&decide (rs.length<=30))
theorem yN {rs:List Ru.Rule}{ts:List ByteArray}(h:VE rs ts=true):(∀r∈rs,r.name.length<=300)/\(∀t∈ts,t.size<=2500)/\rs.length<=30:=by
 unfold VE at h
 simp only[Bool.and_eq_true,List.all_eq_true,decide_eq_true_eq]at h
 exact⟨h.1,h.2.1,h.2.2⟩
theorem wN(rs:List Ru.Rule)(ts:List ByteArray)(v v2:Value)(w:World)(hv:ZD w v rs)(ht:cN w v2 ts)(hn:rs.length<=maxLen)(hrm: ∀r∈rs,r.name.length<=maxLen)(hm:ts.length<=1000):
  Calls Tryz.prog 13 #[v,v2] w fun e w'=>e= .returned (.bool (VE rs ts))/\Below w.heap.size w w':=by
 have z0:=CK
 have HV:=zA7 hv
 have HT:=zA7 ht
 obtain⟨A,c,rfl,hcells⟩:=hv
 obtain⟨A2,c2,rfl,iAH⟩:=ht
 have HP:Hid (∀b w',b=(rs.all (fun r=>decide (r.name.length<=300))&& (ts.all (fun t=>decide (t.size<=2500))&&decide (rs.length<=30)))->Below w.heap.size w w'->(fun(e:Ending)(w':World)=>e= .returned (.bool (VE rs ts))/\Below w.heap.size w w') (.returned (.bool b)) w'):=zA7 (fun b w' e hb=>⟨by rw[e];rfl,hb⟩)
 generalize hpost:(fun(e:Ending)(w':World)=>e= .returned (.bool (VE rs ts))/\Below w.heap.size w w')=post at*
 clear hpost
 obtain⟨n,hnn⟩: ∃n,rs.length=n:=⟨_,rfl⟩
 obtain⟨m,hmm⟩: ∃m,ts.length=m:=⟨_,rfl⟩
 have oC:=zA7 hnn
 have xD:=zA7 hmm
 have HRM:=zA7 hrm
 rw[hnn]at hn⊢HP
 rw[hmm]at hm⊢
 unfold maxLen at hn
 clear hnn hmm hcells iAH hrm
 go_enter Tryz.func13,Tryz.ntmps13
 go_wp2
 go_loopw [11] (fun i wr=> ∃k:Nat,k<=n/\i= .int .i64 (k:Int)/\(∀j r,j<k->rs[j]? =some r->r.name.length<=300)/\Below w.heap.size w wr) (fun i _=>n- (intOf i).toNat)
 case atStart=>exact⟨0,Nat.zero_le _,rfl,fun j r hj=>absurd hj (Nat.not_lt_zero _),Below.refl _ _⟩
 case round=>
  obtain⟨k,hk,rfl,hall,hbe⟩:=hrel
  by_cases hlt:k<n
  ·obtain⟨r,hr⟩: ∃r,rs[k]? =some r:=⟨_,List.getElem?_eq_getElem (by rw[oC.out];exact hlt)⟩
   obtain⟨A',c',he,hc'⟩:=HV.out.stays hbe
   have he:=Value.slice.inj he
   obtain⟨rfl,_,rfl⟩:=he
   obtain⟨g,off,rfl,hgl,hcc,hcell⟩:=hc' (by rw[oC.out];omega)
   obtain⟨h0,h1⟩:=hcell k r hr
   rw[oC.out]at hcc
   have hrl:=HRM.out r (List.mem_of_getElem? hr)
   unfold maxLen at hrl
   have HX:=zA7 (show(Tryz.prog.info? 26).map (·.size)=some (rA r).size from KA)
   have OF:=zA7 (show(rA Ru.zero).size=(rA r).size from rfl)
   have ME:=zA7 (vC r)
   obtain⟨T,U,C,_⟩:=JA 26 (rA Ru.zero) (rA r) (Below.refl wr.heap.size wr) (zB3 _)
   have fE:=hbe.trans (C.mono hbe.size)
   obtain⟨t,ht⟩: ∃t:ByteArray,t=⟨r.name.toArray⟩:=⟨_,rfl⟩
   have hts:r.name.length=t.size:=by rw[<-Oct.nA,ht]
   have u1:((wr.alloc (.cells (rA Ru.zero) 26)).setRow wr.heap.size (rA r)).cell? ⟨wr.heap.size,1,none⟩=some (.string t):=by rw[U.cell,ht];rfl
   rw[hts]at hrl
   by_cases h4:300<t.size
   ·have fU:(300:Int)<(t.size:Int):=by omega
    have HF:=zA7 (HP.out false _ (by
     have:rs.all (fun r=>decide (r.name.length<=300))=false:=by
      rw[List.all_eq_false]
      exact⟨r,List.mem_of_getElem? hr,by simp;omega⟩
     rw[this];rfl) fE)
    clear hall hts ht hr hc' hcell C
    go_wp2_with (first
     |(refine iA 14 rfl ?_;refine IL rfl _ rfl g (off+k*2) rfl r h0 h1 ?_)
     |(refine wpList_store_row rfl 26 _ _ rfl wr.heap.size (rA r) rfl rfl 26 _ T HX.out OF.out ME.out ?_))
    exact HF.out
   ·have fU: ¬(300:Int)<(t.size:Int):=by omega
    have FN: ∀j q,j<k+1->rs[j]? =some q->q.name.length<=300:=by
     intro j q hj hq
     rcases Nat.lt_or_ge j k with hjk|hjk
     ·exact hall j q hjk hq
     ·obtain rfl:j=k:=by omega
      rw[hr]at hq
      obtain rfl:=zB2 hq
      omega
    have HA2:=zA7 FN
    clear hall hts ht hr hc' hcell C FN
    go_wp2_with (first
     |(refine iA 14 rfl ?_;refine IL rfl _ rfl g (off+k*2) rfl r h0 h1 ?_)
     |(refine wpList_store_row rfl 26 _ _ rfl wr.heap.size (rA r) rfl rfl 26 _ T HX.out OF.out ME.out ?_))
    go_roundw
    case rel=>exact⟨k+1,by omega,by go_num,HA2.out,fE⟩
    case measure=>simp[intOf];omega
  ·obtain rfl:k=n:=by omega
   have hany:rs.all (fun r=>decide (r.name.length<=300))=true:=by
    rw[List.all_eq_true]
    intro r hr
    obtain⟨j,hj⟩:=List.getElem?_of_mem hr
    have hjl:=(List.getElem?_eq_some_iff.1 hj).1
    have:=hall j r (by rw[<-oC.out];exact hjl) hj
    simp;omega
   rw[hany,Bool.true_and]at HP
   clear hall hany hlt HV
   go_wp2
   go_loopw [22] (fun i wx=> ∃j:Nat,j<=m/\i= .int .i64 (j:Int)/\(∀a t,a<j->ts[a]? =some t->t.size<=2500)/\Below w.heap.size w wx) (fun i _=>m- (intOf i).toNat)
   case atStart=>exact⟨0,Nat.zero_le _,rfl,fun j r hj=>absurd hj (Nat.not_lt_zero _),hbe⟩
   case round=>
    obtain⟨j,hj,rfl,hall,hbx⟩:=hrel
    by_cases hlt:j<m
    ·obtain⟨t,hr⟩: ∃r,ts[j]? =some r:=⟨_,List.getElem?_eq_getElem (by rw[xD.out];exact hlt)⟩
     obtain⟨A',c',he,hc'⟩:=HT.out.stays hbx
     have he:=Value.slice.inj he
     obtain⟨rfl,_,rfl⟩:=he
     obtain⟨g,rfl,hgl,hcc,hcell⟩:=hc' (by rw[xD.out];omega)
     have h0:=hcell j t hr
     rw[xD.out]at hcc
     by_cases h4:2500<t.size
     ·have fU:(2500:Int)<(t.size:Int):=by omega
      have HF:=zA7 (HP.out false _ (by
       have:ts.all (fun t=>decide (t.size<=2500))=false:=by
        rw[List.all_eq_false]
        exact⟨t,List.mem_of_getElem? hr,by simp;omega⟩
       rw[this];rfl) hbx)
      clear hall hr hc' hcell
      go_wp2
      exact HF.out
     ·have fU: ¬(2500:Int)<(t.size:Int):=by omega
      have FN: ∀a q,a<j+1->ts[a]? =some q->q.size<=2500:=by
       intro a q ha hq
       rcases Nat.lt_or_ge a j with hjk|hjk
       ·exact hall a q hjk hq
       ·obtain rfl:a=j:=by omega
        rw[hr]at hq
        obtain rfl:=zB2 hq
        omega
      have HA2:=zA7 FN
      clear hall hr hc' hcell FN
      go_wp2
      go_roundw
      case rel=>exact⟨j+1,by omega,by go_num,HA2.out,hbx⟩
      case measure=>simp[intOf];omega
    ·obtain rfl:j=m:=by omega
     have hany:ts.all (fun t=>decide (t.size<=2500))=true:=by
      rw[List.all_eq_true]
      intro r hr
      obtain⟨a,ha⟩:=List.getElem?_of_mem hr
      have hjl:=(List.getElem?_eq_some_iff.1 ha).1
      have:=hall a r (by rw[<-xD.out];exact hjl) ha
      simp;omega
     rw[hany,Bool.true_and]at HP
     have HF:=zA7 (HP.out (decide ((k:Int)<=30)) _ (decide_eq_decide.2 (by omega)) hbx)
     clear hall hany hlt
     go_wp2
     exact HF.out
end Go.Proofs.YtabgoobcliijeaaGreatDoor
namespace Go.Proofs.YtabgoobcliijeaaGreatDoor
namespace dA
theorem dL(c:UInt8):Oct.digits (Lib.decDigits c.toNat)=true/\ ∀d∈Lib.decDigits c.toNat,d≠46:=by
 have hc:c.toNat<256:=by have:=c.toNat_lt;omega
 rw[aA.EZ _ hc]
 obtain⟨h1,_,h3⟩:=aA.RP c.toNat hc
 refine⟨?_,fun d hd=>?_⟩
 ·unfold aA.FE Oct.isNum at h1
  simp only[Bool.and_eq_true]at h1
  exact h1.1.1.1
 ·have:=List.all_eq_true.1 h3 d hd;simpa using this
theorem pAW {s q:List UInt8}(h:aA.v4 s=some q):q.length=4:=by
 unfold aA.v4 at h
 split at h
 ·rename_i k
  rw[<-zB2 h,List.length_map];exact k.1
 ·cases h
theorem pAz {q:List UInt8}(hq:q.length=4):(aA.UD q).length<=20/\(aA.UD q).head?≠some 91/\Oct.digits (last (aA.UD q))=true:=by
 obtain⟨a,b,c,d,rfl⟩: ∃a b c d,q= [a,b,c,d]:=by
  match q,hq with
  | [a,b,c,d],_=>exact⟨a,b,c,d,rfl⟩
 have hs:Oct.split 46 (aA.UD [a,b,c,d])= [a,b,c,d].map fun c=>Lib.decDigits c.toNat:=aA.nO 46 _ (by simp) (by
  intro p hp
  obtain⟨x,_,rfl⟩:=List.mem_map.1 hp
  exact(dL x).2)
 refine⟨?_,?_,?_⟩
 ·have h1:=aA.join_length [46] rfl 3 ([a,b,c,d].map fun c=>Lib.decDigits c.toNat) (aA.JZ _)
  have h2:([a,b,c,d].map fun c=>Lib.decDigits c.toNat).length=4:=rfl
  rw[h2]at h1
  unfold aA.UD
  omega
 ·have h1:=(dL a).1
  have he:aA.UD [a,b,c,d]=Lib.decDigits a.toNat++46::Lib.join ([b,c,d].map fun c=>Lib.decDigits c.toNat) [46]:=aA.join_step _ _ _ _
  rw[he]
  unfold Oct.digits at h1
  cases hl:Lib.decDigits a.toNat with
  |nil=>rw[hl]at h1;exact absurd h1 (by decide)
  |cons x r=>
   rw[hl]at h1
   intro e
   have e:x=91:=by simpa using e
   subst e
   simp at h1
   exact absurd h1.1 (by decide)
 ·unfold last
  rw[hs]
  exact(dL d).1
theorem pAB {g:List UInt16}(hg:g.length=8):(aA.OB g).length<=100:=by
 have h1:=aA.EH g
 have h2:=aA.EH (g.take (aA.nf g))
 have h3:=aA.EH (g.drop (aA.nt g))
 rw[List.length_take]at h2
 rw[List.length_drop]at h3
 unfold aA.OB
 split
 ·omega
 ·rw[zB4,zB5,zB5];omega
theorem lAH {l:List UInt8}{h:Host}(hp:parse l=some h):can h=true:=by
 by_cases hk:h.kind=1
 ·obtain⟨hg,e,_⟩:=AD hp hk
  rw[XY hk,e];exact M5 hg
 ·unfold can
  refine zA9 ?_
  unfold parse at hp
  split at hp
  ·cases hp
  ·split at hp
   ·unfold VD at hp
    split at hp
    ·cases hv:aA.v6 l.tail.dropLast with
     |none=>rw[hv]at hp;cases hp
     |some g=>
      rw[hv]at hp
      have e:(⟨3,[],aA.from_ g⟩:Host)=h:=zB2 hp
      have hg:=aA.uK hv
      subst e
      have et:text ⟨3,[],aA.from_ g⟩=91::(aA.OB g++ [93]):=by
       unfold text
       rw[if_neg (by show¬(3:Int)=1;omega),if_neg (by show¬(3:Int)=2;omega),if_pos rfl,aA.Q5]
      rw[et]
      have hl:=pAB hg
      unfold parse
      rw[if_neg (by simp;omega),if_pos (show(91::(aA.OB g++ [93])).head?=some 91 from rfl)]
      show VD (aA.OB g++ [93])=_
      unfold VD
      rw[if_pos (by simp),List.dropLast_concat,aA.qA6 hg];rfl
    ·cases hp
   ·split at hp
    ·unfold IE at hp
     cases hv:aA.v4 l with
     |none=>rw[hv]at hp;cases hp
     |some q=>
      rw[hv]at hp
      have e:(⟨2,[],aA.FD (some q)⟩:Host)=h:=zB2 hp
      have hq:=pAW hv
      subst e
      have et:text ⟨2,[],aA.FD (some q)⟩=aA.UD q:=by
       unfold text
       rw[if_neg (by show¬(2:Int)=1;omega),if_pos rfl]
       rfl
      rw[et]
      obtain⟨h1,h2,h3⟩:=pAz hq
      unfold parse
      rw[if_neg (by omega),if_neg h2,if_pos h3]
      unfold IE
      rw[aA.pAZ hq];rfl
    ·split at hp
     ·exfalso
      have:=congrArg Host.kind (zB2 hp)
      exact hk this.symm
     ·cases hp
end dA
namespace Sx
open dA
end Sx
end Go.Proofs.YtabgoobcliijeaaGreatDoor
namespace Go.Proofs.YtabgoobcliijeaaGreatDoor
namespace Ur
theorem mA8 {b:Bool}{r:List UInt8}{n:Int}(h:fF b r=some n):1<=n/\n<=65535:=by
 unfold fF at h
 split at h
 ·rw[<-zB2 h]
  unfold usual
  cases b<;>decide
 ·split at h
  ·rename_i k
   rw[<-zB2 h]
   omega
  ·cases h
theorem iA5 {b:Bool}{pl p:List UInt8}{u:URL}(h:go b pl p=(0,u)):right u=true/\u.secure=b:=by
 unfold go at h
 split at h
 ·cases congrArg Prod.fst h
 ·rename_i x hx
  split at h
  ·cases congrArg Prod.fst h
  ·split at h
   ·cases congrArg Prod.fst h
   ·rename_i n hn
    split at h
    ·rename_i hp
     have e:(⟨b,x,n,p⟩:URL)=u:=congrArg Prod.snd h
     subst e
     refine⟨?_,rfl⟩
     unfold right
     rw[dA.lAH hx,zA9 (mA8 hn),hp];rfl
    ·cases congrArg Prod.fst h
theorem SL {s:List UInt8}{u:URL}(h:parse s=(0,u)):right u=true:=by
 unfold parse at h
 split at h
 ·cases congrArg Prod.fst h
 ·exact(iA5 h).1
theorem nAj {u:URL}(h:right u=true):dA.can u.host=true/\(1<=u.port/\u.port<=65535)/\EC u.path=true:=by
 unfold right at h
 simp only[Bool.and_eq_true,decide_eq_true_eq]at h
 exact⟨h.1,h.2.1,h.2.2⟩
end Ur
namespace Ad
open Oct
def never:Int:=9223372036854775807
def zero:Ma.bB:=⟨[],[],dA.zero,false,[],false,false,0,0,0,0,0⟩
def sD(rs:List Ru.Rule)(h:dA.Host):Bool:=Sx.isPublic (Sx.suffix (Sx.new rs) h) h
def aM:List UInt8:= [95,95,115,101,99,117,114,101,45]
def ZL:List UInt8:= [95,95,104,111,115,116,45]
def pre(n:List UInt8):Int:=if(n.take 9).map low=aM then 1 else if(n.take 7).map low=ZL then 2 else 0
def whose(rs:List Ru.Rule)(host:dA.Host)(dom:List UInt8):Int×dA.Host×Bool:=
 if dom= []then(0,host,true)
 else match dA.parse dom with
  |none=>(101,dA.zero,false)
  |some d=>if sD rs d=true/\d≠host then(102,dA.zero,false)else if Ma.domain host d=false then(103,dA.zero,false)else if sD rs d=true then(0,host,true)else(0,d,false)
def ends(h:Hd.Head)(now:Int):Int:=match h.age with
 |some a=>now+(a:Int)
 |none=>match h.exp with
  |some e=>min e (now+34560000)
  |none=>never
def told(h:Hd.Head):List UInt8:=if h.name= []then h.value else h.name
def breaks(h:Hd.Head)(only:Bool):Bool:=(decide (pre (told h)=1)&& !h.secure)||(decide (pre (told h)=2)&& (!h.secure|| !only|| !decide (h.path= [47])))
def pathOf(u:Ur.URL)(h:Hd.Head):List UInt8:=if h.path= []then Ma.default u.path else h.path
def kB(u:Ur.URL)(h:Hd.Head)(now:Int)(host:dA.Host)(only:Bool):Ma.bB:=⟨h.name,h.value,host,only,pathOf u h,h.secure,h.only,h.same,ends h now,now,now,0⟩
def take(rs:List Ru.Rule)(u:Ur.URL)(h:Hd.Head)(now:Int):Int×Ma.bB:=
 if now<0\/1099511627776<now then(122,zero)
 else if(whose rs u.host h.domain).1≠0 then((whose rs u.host h.domain).1,zero)
 else if h.secure=true/\u.secure=false then(104,zero)
 else if h.same=1/\h.secure=false then(105,zero)
 else if breaks h (whose rs u.host h.domain).2.2=true then(106,zero)
 else(0,kB u h now (whose rs u.host h.domain).2.1 (whose rs u.host h.domain).2.2)
theorem VR {rs:List Ru.Rule}{host:dA.Host}{dom:List UInt8}(hw:(whose rs host dom).1=0):
  ((whose rs host dom).2.2=true/\(whose rs host dom).2.1=host)\/((whose rs host dom).2.2=false/\Ma.domain host (whose rs host dom).2.1=true/\sD rs (whose rs host dom).2.1=false):=by
 unfold whose at hw⊢
 split
 ·exact .inl ⟨rfl,rfl⟩
 ·rename_i hd
  rw[if_neg hd]at hw
  cases hp:dA.parse dom with
  |none=>rw[hp]at hw;cases hw
  |some d=>
   rw[hp]at hw
   dsimp only at hw⊢
   by_cases k1:sD rs d=true/\d≠host
   ·rw[if_pos k1]at hw;cases hw
   ·rw[if_neg k1]at hw⊢
    by_cases k2:Ma.domain host d=false
    ·rw[if_pos k2]at hw;cases hw
    ·rw[if_neg k2]
     by_cases k3:sD rs d=true
     ·rw[if_pos k3];exact .inl ⟨rfl,rfl⟩
     ·rw[if_neg k3]
      exact .inr ⟨rfl,by simpa using k2,by simpa using k3⟩
theorem take_zero {rs:List Ru.Rule}{u:Ur.URL}{h:Hd.Head}{now:Int}{c:Ma.bB}(ht:take rs u h now=(0,c)):
  (0<=now/\now<=1099511627776)/\(whose rs u.host h.domain).1=0/\ ¬(h.secure=true/\u.secure=false)/\ ¬(h.same=1/\h.secure=false)/\breaks h (whose rs u.host h.domain).2.2=false/\c=kB u h now (whose rs u.host h.domain).2.1 (whose rs u.host h.domain).2.2:=by
 unfold take at ht
 split at ht
 ·cases congrArg Prod.fst ht
 rename_i h1
 split at ht
 ·rename_i h2
  exact absurd (congrArg Prod.fst ht) h2
 rename_i h2
 split at ht
 ·cases congrArg Prod.fst ht
 rename_i h3
 split at ht
 ·cases congrArg Prod.fst ht
 rename_i h4
 split at ht
 ·cases congrArg Prod.fst ht
 rename_i h5
 exact⟨by omega,Decidable.byContradiction h2,h3,h4,by simpa using h5,(congrArg Prod.snd ht).symm⟩
theorem oAF {rs:List Ru.Rule}{u:Ur.URL}{h:Hd.Head}{now:Int}(ht:(take rs u h now).1≠0):(take rs u h now).2=zero:=by
 unfold take at ht⊢
 split
 ·rfl
 rename_i h1
 rw[if_neg h1]at ht
 split
 ·rfl
 rename_i h2
 rw[if_neg h2]at ht
 split
 ·rfl
 rename_i h3
 rw[if_neg h3]at ht
 split
 ·rfl
 rename_i h4
 rw[if_neg h4]at ht
 split
 ·rfl
 rename_i h5
 rw[if_neg h5]at ht
 exact absurd rfl ht
theorem oAU {rs:List Ru.Rule}{u:Ur.URL}{h:Hd.Head}{now:Int}{c:Ma.bB}(ht:take rs u h now=(0,c)):
  ¬(c.secure=true/\u.secure=false)/\ ¬(c.same=1/\c.secure=false)/\ ¬(sD rs c.host=true/\c.only=false)/\ ¬(c.only=true/\c.host≠u.host):=by
 obtain⟨_,hw,h3,h4,_,rfl⟩:=take_zero ht
 refine⟨h3,?_,?_,?_⟩
 ·rintro⟨e1,e2⟩
  exact h4 ⟨Int.ofNat.inj e1,e2⟩
 ·rintro⟨e1,e2⟩
  rcases VR hw with⟨k,_⟩|⟨_,_,k⟩
  ·have e2':(whose rs u.host h.domain).2.2=false:=e2
   rw[k]at e2';cases e2'
  ·have uN:sD rs (whose rs u.host h.domain).2.1=true:=e1
   rw[k]at uN;cases uN
 ·rintro⟨e1,e2⟩
  rcases VR hw with⟨_,k⟩|⟨k,_⟩
  ·exact e2 k
  ·have uN:(whose rs u.host h.domain).2.2=true:=e1
   rw[k]at uN;cases uN
theorem zY {a:Prop} [Decidable a] {b:Bool}(h:(decide a&&b)=false)(ha:a):b=false:=by
 rw[zA9 ha,Bool.true_and]at h
 exact h
theorem XQ {b:Bool}(h:(!b)=false):b=true:=by
 cases b with
 |true=>rfl
 |false=>cases h
theorem fAz {h:Hd.Head}{only:Bool}(hb:breaks h only=false):(pre (told h)=1->h.secure=true)/\(pre (told h)=2->h.secure=true/\only=true/\h.path= [47]):=by
 unfold breaks at hb
 obtain⟨h6,h7⟩:=Bool.or_eq_false_iff.1 hb
 refine⟨fun e=>XQ (zY h6 e),fun e=>?_⟩
 obtain⟨h8,h9⟩:=Bool.or_eq_false_iff.1 (zY h7 e)
 obtain⟨h10,h11⟩:=Bool.or_eq_false_iff.1 h8
 exact⟨XQ h10,XQ h11,zB1 (XQ h9)⟩
theorem kO(n:List UInt8):pre n=0\/pre n=1\/pre n=2:=by
 unfold pre
 split
 ·exact .inr (.inl rfl)
 ·split
  ·exact .inr (.inr rfl)
  ·exact .inl rfl
theorem oAL {rs:List Ru.Rule}{u:Ur.URL}{h:Hd.Head}{now:Int}{c:Ma.bB}(ht:take rs u h now=(0,c)):
  (pre c.name=1->c.secure=true)/\(pre c.name=2->c.secure=true/\c.only=true/\c.path= [47])/\(c.name≠ []\/pre c.value=0\/c.secure=true):=by
 obtain⟨_,_,_,_,h5,rfl⟩:=take_zero ht
 obtain⟨h6,h7⟩:=fAz h5
 have hnil:pre ([]:List UInt8)=0:=by decide
 have hne: ∀k:Int,k≠0->pre h.name=k->told h=h.name:=fun k hk e=>by
  unfold told
  rw[if_neg]
  intro en
  rw[en,hnil]at e
  exact hk e.symm
 refine⟨?_,?_,?_⟩
 ·intro e
  have e':pre h.name=1:=e
  rw[hne 1 (by decide) e']at h6
  exact h6 e'
 ·intro e
  have e':pre h.name=2:=e
  rw[hne 2 (by decide) e']at h7
  obtain⟨k1,k2,k3⟩:=h7 e'
  refine⟨k1,k2,?_⟩
  show pathOf u h= [47]
  unfold pathOf
  rw[if_neg (by rw[k3];simp),k3]
 ·by_cases hn:h.name= []
  ·right
   have et:told h=h.value:=by unfold told;rw[if_pos hn]
   rw[et]at h6 h7
   show pre h.value=0\/h.secure=true
   rcases kO h.value with e|e|e
   ·exact .inl e
   ·exact .inr (h6 e)
   ·exact .inr (h7 e).1
  ·exact .inl hn
theorem oAT {rs:List Ru.Rule}{u:Ur.URL}{h:Hd.Head}{now:Int}{c:Ma.bB}(hg:Hd.Good h)(ht:take rs u h now=(0,c)):c.path.head?=some 47:=by
 obtain⟨_,_,_,_,_,rfl⟩:=take_zero ht
 show(pathOf u h).head?=some 47
 unfold pathOf
 split
 ·exact Ma.gAQ _
 ·rename_i k
  exact hg.iO.resolve_left k
theorem oAE {rs:List Ru.Rule}{u:Ur.URL}{h:Hd.Head}{now:Int}{c:Ma.bB}(hg:Hd.Good h)(ht:take rs u h now=(0,c)):
  (c.expires=never\/c.expires<=now+34560000)/\(∀a,h.age=some a->c.expires=now+(a:Int)):=by
 obtain⟨_,_,_,_,_,rfl⟩:=take_zero ht
 show(ends h now=never\/ends h now<=now+34560000)/\(∀a,h.age=some a->ends h now=now+(a:Int))
 unfold ends
 cases ha:h.age with
 |some a=>
  have:=hg.age a ha
  refine⟨.inr (by dsimp only;omega),fun b hb=>by rw[zB2 hb]⟩
 |none=>
  refine⟨?_,fun b hb=>by cases hb⟩
  cases h.exp with
  |some e=>right;dsimp only;omega
  |none=>left;rfl
theorem oAH {rs:List Ru.Rule}{u:Ur.URL}{h:Hd.Head}{now:Int}{c:Ma.bB}(hu:Ur.right u=true)(ht:take rs u h now=(0,c))(at_:Int):
  Ma.sends c ⟨true,u.host,c.path,0⟩ at_=decide (at_<c.expires):=by
 obtain⟨_,hw,_,_,_,hc⟩:=take_zero ht
 have hcan:=(Ur.nAj hu).1
 rw[Bool.eq_iff_iff,Ma.sends_iff,decide_eq_true_iff]
 constructor
 ·intro k;exact k.2.2.2.2.1
 ·intro k
  refine⟨?_,?_,Ma.bAS _,fun _=>rfl,k,rfl⟩
  ·intro ho
   rcases VR hw with⟨_,e⟩|⟨e,_⟩
   ·rw[hc];exact e
   ·rw[hc]at ho
    have ho':(whose rs u.host h.domain).2.2=true:=ho
    rw[e]at ho';cases ho'
  ·show Ma.domain u.host c.host=true
   rw[hc]
   show Ma.domain u.host (whose rs u.host h.domain).2.1=true
   rcases VR hw with⟨_,e⟩|⟨_,e,_⟩
   ·rw[e,Ma.TZ];exact hcan
   ·exact e
theorem oAG {rs:List Ru.Rule}{u:Ur.URL}{h:Hd.Head}{now:Int}(hh:h= {Hd.zero with name:=h.name,value:=h.value})(hn:h.name≠ [])(hp:pre h.name=0)(h0:0<=now)(h1:now<=1099511627776):
  take rs u h now=(0,kB u h now u.host true)/\ends h now=never/\pathOf u h=Ma.default u.path:=by
 have e1:h.domain= []:=by rw[hh];rfl
 have e2:h.secure=false:=by rw[hh];rfl
 have e3:h.same=0:=by rw[hh];rfl
 have e4:h.path= []:=by rw[hh];rfl
 have e5:h.age=none:=by rw[hh];rfl
 have e6:h.exp=none:=by rw[hh];rfl
 have ew:whose rs u.host h.domain=(0,u.host,true):=by unfold whose;rw[if_pos e1]
 refine⟨?_,?_,?_⟩
 ·unfold take
  rw[if_neg (by omega),ew]
  dsimp only
  rw[if_neg (by simp),if_neg (by rw[e2];simp),if_neg (by rw[e3];simp),if_neg]
  unfold breaks told
  rw[if_neg hn,hp]
  simp
 ·unfold ends;rw[e5,e6]
 ·unfold pathOf;rw[if_pos e4]
end Ad
end Go.Proofs.YtabgoobcliijeaaGreatDoor
namespace Go.Proofs.YtabgoobcliijeaaGreatDoor
open Go.RowKit
theorem iAL(h:Hd.Head)(hg:Hd.Good h)(w:World)(hw:uB w):
  Calls Tryz.prog 55 #[.agg (headA h)] w fun e w'=>e= .returned (.bool true)/\Below w.heap.size w w':=by
 have z0:=jG
 have HZ:Hid (∀h:Hd.Head,(headA h).size=11):=zA7 (fun h=>rfl)
 have H1:=zA7 (fun W hW=>qAs h hg W hW)
 unfold XC at H1
 have H2:Hid (∀W,uB W->Calls Tryz.prog 87 #[.string ⟨(Hd.text h).toArray⟩] W fun e w'=>e= .returned (.tuple #[.agg (headA h),.int .i64 0])/\Below W.heap.size W w'):=zA7 (fun W hW=>by
  have hl:=Hd.dAh hg
  have:=W8 ⟨(Hd.text h).toArray⟩ W hW (by rw[size_mk];unfold maxLen;omega)
  have e:(⟨(Hd.text h).toArray⟩:ByteArray).data.toList=Hd.text h:=rfl
  rw[e,Hd.bAP hg]at this
  exact this)
 have HE:=zA7 (fun W=>hAm h W)
 have R0:=Row.new w 35 (headA h)
 have B0:=(Below.refl w.heap.size w).alloc (zB3 _) (.cells (headA h) 35)
 have HW0:=hw.below B0
 generalize(⟨(Hd.text h).toArray⟩:ByteArray)=t at*
 go_enter Tryz.func55,Tryz.ntmps55
 go_wp2_with (refine iA 6 rfl ?_;refine qA rfl 35 _ rfl w.heap.size rfl R0 Tryz.underlying35 rfl (by rw[HZ.out];exact WA) ?_)
 generalize w.alloc (.cells (headA h) 35)=w0 at*
 refine(H1.out _ HW0).mono ?_
 rintro e w1 ⟨rfl,b1⟩
 have R1:=R0.stays b1
 have B1:=B0.trans (b1.mono B0.size)
 go_wp2_with fail
 refine(H2.out _ (hw.below B1)).mono ?_
 rintro e w2 ⟨rfl,b2⟩
 have R2:=R1.stays b2
 have B2:=B1.trans (b2.mono B1.size)
 clear R0 R1 B0 B1 b1 b2 HW0
 obtain⟨T0,U0,V0,W0⟩:=JA 35 (headA Hd.zero) (headA h) B2 B2.size
 have R3:=W0 _ _ _ R2
 have HE2:=HE.out
 go_wp2_with (first
  |(refine wpList_store_row rfl 35 _ _ rfl w2.heap.size (headA h) rfl rfl 35 _ T0 (by rw[HZ.out];exact WA) rfl (DC _) ?_)
  |(refine iA 14 rfl ?_;refine qA rfl 35 _ rfl w2.heap.size rfl U0 Tryz.underlying35 rfl (by rw[HZ.out];exact WA) ?_)
  |(refine iA 15 rfl ?_;refine qA rfl 35 _ rfl w.heap.size rfl R3 Tryz.underlying35 rfl (by rw[HZ.out];exact WA) ?_))
 go_ret
 exact⟨rfl,V0⟩
theorem lAQ {s:List UInt8}{n:Int}{h:Hd.Head}(hp:Hd.parse s=(n,h))(hn:n≠0):h=Hd.zero:=by
 have:=Hd.lAI (s:=s) (by rw[hp];exact hn)
 rw[hp]at this
 exact this
theorem lAG(s:ByteArray){n:Int}{h:Hd.Head}(hp:Hd.parse s.data.toList=(n,h))(W:World)(hW:uB W)(hs:s.size<=maxLen):Calls Tryz.prog 87 #[.string s] W fun e w'=>e= .returned (.tuple #[.agg (headA h),.int .i64 n])/\Below W.heap.size W w':=by
 have:=W8 s W hW hs
 rw[hp]at this
 exact this
end Go.Proofs.YtabgoobcliijeaaGreatDoor
namespace Go.Proofs.YtabgoobcliijeaaGreatDoor
open Go.RowKit
namespace Hd
open Classical in
noncomputable def jC(r:Raw):Bool:=decide (∃h,Good h/\r=Raw.of h)
open Classical in
theorem rT {r:Raw} :jC r=true↔ ∃h,Good h/\r=Raw.of h:=by unfold jC;exact decide_eq_true_iff
theorem WY {h:Head}(hg:Good h):jC (Raw.of h)=true:=rT.2 ⟨h,hg,rfl⟩
theorem VY {r:Raw}(h:jC r=false){X:List UInt8}{g:Head}(hp:parse X=(0,g)):Raw.of g≠r:=fun e=>by
 have:=rT.2 ⟨g,AD hp,e.symm⟩
 rw[h]at this
 cases this
theorem YK {r:Raw}(h:jC r=true): ∃g,Good g/\r=Raw.of g:=rT.1 h
end Hd
theorem nAh(r:Hd.Raw)(hr:lN r)(w:World)(hw:uB w):
  Calls Tryz.prog 55 #[.agg (uA r)] w fun e w'=>e= .returned (.bool (Hd.jC r))/\Below w.heap.size w w':=by
 cases hc:Hd.jC r with
 |true=>
  obtain⟨g,hg,rfl⟩:=Hd.YK hc
  rw[TL]
  exact iAL g hg w hw
 |false=>
  have z0:=jG
  have HZ:Hid (∀h:Hd.Head,(headA h).size=11):=zA7 (fun h=>rfl)
  have WS:Hid ((uA r).size=11):=zA7 rfl
  have H1:=zA7 (fun W hW=>qAr r hr W hW)
  unfold qY at H1
  have HN:=zA7 (fun X g=> @Hd.VY r hc X g)
  have R0:=Row.new w 35 (uA r)
  have B0:=(Below.refl w.heap.size w).alloc (zB3 _) (.cells (uA r) 35)
  have HW0:=hw.below B0
  clear hc
  go_enter Tryz.func55,Tryz.ntmps55
  go_wp2_with (refine iA 6 rfl ?_;refine qA rfl 35 _ rfl w.heap.size rfl R0 Tryz.underlying35 rfl (by rw[WS.out];exact WA) ?_)
  generalize w.alloc (.cells (uA r) 35)=w0 at*
  refine(H1.out _ HW0).mono ?_
  rintro e w1 ⟨X,rfl,hX,b1⟩
  have R1:=R0.stays b1
  have B1:=B0.trans (b1.mono B0.size)
  obtain⟨⟨n,g⟩,hp⟩: ∃o,Hd.parse X.data.toList=o:=⟨_,rfl⟩
  have H2:=zA7 (fun W hW=>lAG X hp W hW (by unfold maxLen;omega))
  go_wp2_with fail
  refine(H2.out _ (hw.below B1)).mono ?_
  rintro e w2 ⟨rfl,b2⟩
  have R2:=R1.stays b2
  have B2:=B1.trans (b2.mono B1.size)
  clear R0 R1 B0 B1 b1 b2 HW0 H1 H2
  obtain⟨T0,U0,V0,W0⟩:=JA 35 (headA Hd.zero) (headA g) B2 B2.size
  have R3:=W0 _ _ _ R2
  by_cases hn:n=0
  ·subst hn
   have HE2:(binOp .eql 35 (.agg (headA g)) (.agg (uA r))).run Tryz.prog=fun W=> .ok (.bool false) W:=by
    funext W
    have:=hAn (Hd.Raw.of g) r W
    rw[zA8 (HN.out _ _ hp)]at this
    exact this
   have HE3: ∀W,(binOp .eql 35 (.agg (headA g)) (.agg (uA r))).run Tryz.prog W= .ok (.bool false) W:=fun W=>by rw[HE2]
   clear HE2 HN hp
   go_wp2_with (first
    |(refine wpList_store_row rfl 35 _ _ rfl w2.heap.size (headA g) rfl rfl 35 _ T0 (by rw[HZ.out];exact WA) rfl (DC _) ?_)
    |(refine iA 14 rfl ?_;refine qA rfl 35 _ rfl w2.heap.size rfl U0 Tryz.underlying35 rfl (by rw[HZ.out];exact WA) ?_)
    |(refine iA 15 rfl ?_;refine qA rfl 35 _ rfl w.heap.size rfl R3 Tryz.underlying35 rfl (by rw[WS.out];exact WA) ?_))
   go_ret
   exact⟨rfl,V0⟩
  ·have hn1:(n==0)=false:=by rw[beq_eq_false_iff_ne];exact hn
   clear HN hp hn
   go_wp2_with (refine wpList_store_row rfl 35 _ _ rfl w2.heap.size (headA g) rfl rfl 35 _ T0 (by rw[HZ.out];exact WA) rfl (DC _) ?_)
   go_ret
   exact⟨rfl,V0⟩
end Go.Proofs.YtabgoobcliijeaaGreatDoor
namespace Go.Proofs.YtabgoobcliijeaaGreatDoor
namespace Hd
def Raw.head (r:Raw):Head:=⟨r.name,r.value,r.domain,r.path,if r.ZE=true then some r.exp else none,if r.BE=true then some r.age.toNat else none,r.secure,r.only,r.same.toNat⟩
theorem iAO(h:Head):(Raw.of h).head=h:=by
 obtain⟨a1,a2,a3,a4,a5,a6,a7,a8,a9⟩:=h
 unfold Raw.of Raw.head
 cases a5<;>cases a6<;>simp
theorem qAC:jC (Raw.of zero)=false:=by
 cases h:jC (Raw.of zero)with
 |false=>rfl
 |true=>
  obtain⟨g,hg,e⟩:=YK h
  have e2:=bAF e
  rw[<-e2]at hg
  exact absurd ⟨rfl,rfl⟩ hg.some_
end Hd
namespace Ad
noncomputable def bD(rs:List Ru.Rule)(u:Ur.URL)(r:Hd.Raw)(now:Int):Int×Ma.bB:=
 if Ur.right u=false then(41,zero)else if Hd.jC r=false then(82,zero)else take rs u r.head now
variable {rs:List Ru.Rule} {u:Ur.URL} {r:Hd.Raw} {now:Int}
theorem dA7(h:Ur.right u=false):bD rs u r now=(41,zero):=by unfold bD;rw[if_pos h]
theorem dA6(h:Ur.right u=true)(h2:Hd.jC r=false):bD rs u r now=(82,zero):=by
 unfold bD;rw[if_neg (by rw[h];simp),if_pos h2]
theorem FH {g:Hd.Head}(h:Ur.right u=true)(hg:Hd.Good g):bD rs u (Hd.Raw.of g) now=take rs u g now:=by
 unfold bD;rw[if_neg (by rw[h];simp),if_neg (by rw[Hd.WY hg];simp),Hd.iAO]
end Ad
end Go.Proofs.YtabgoobcliijeaaGreatDoor
namespace Go.Proofs.YtabgoobcliijeaaGreatDoor
open Go.RowKit
theorem vT(c:Ma.bB)(ha:c.host.addr.length=16)(k:Nat)(v:Value):(gA c).setIfInBounds (20+k) v=(lA c.name::lA c.value::((fA c.host).toList++([.bool c.only,lA c.path,.bool c.secure,.bool c.http,.int .i64 c.same,.int .i64 c.expires,.int .i64 c.born,.int .i64 c.used,.int .i64 c.seq]:List Value).set k v)).toArray:=by
 unfold gA
 rw[zA1,show 20+k=(18+k)+1+1 by omega,zA2,zA2,List.set_append_right _ _ (by rw[eI _ ha];omega),eI _ ha,Nat.add_sub_cancel_left]
theorem gAg(c:Ma.bB)(ha:c.host.addr.length=16)(b:Bool):(gA c).setIfInBounds 20 (.bool b)=gA {c with only:=b} :=vT c ha 0 (.bool b)
def Ma.XR:Ma.Request:=⟨false,dA.zero,[],0⟩
def Ma.oA:Ma.bB:=⟨[],[],dA.zero,false,[],false,false,0,0,0,0,0⟩
theorem qAz: #[Value.bool false,.int .i64 0,.string ⟨#[]⟩,.int .u8 0,.int .u8 0,.int .u8 0,.int .u8 0,.int .u8 0,.int .u8 0,.int .u8 0,.int .u8 0,.int .u8 0,.int .u8 0,.int .u8 0,.int .u8 0,.int .u8 0,.int .u8 0,.int .u8 0,.int .u8 0,.string ⟨#[]⟩,.int .i64 0]=tC Ma.XR:=by rfl
theorem iG: #[Value.string ⟨#[]⟩,.string ⟨#[]⟩,.int .i64 0,.string ⟨#[]⟩,.int .u8 0,.int .u8 0,.int .u8 0,.int .u8 0,.int .u8 0,.int .u8 0,.int .u8 0,.int .u8 0,.int .u8 0,.int .u8 0,.int .u8 0,.int .u8 0,.int .u8 0,.int .u8 0,.int .u8 0,.int .u8 0,.bool false,.string ⟨#[]⟩,.bool false,.bool false,.int .i64 0,.int .i64 0,.int .i64 0,.int .i64 0,.int .i64 0]=gA Ma.oA:=by rfl
end Go.Proofs.YtabgoobcliijeaaGreatDoor
namespace Go.Proofs.YtabgoobcliijeaaGreatDoor
open Go.RowKit
theorem XK {P:Program}{ops:Array Oper}{rest:List Oper}{o:Oper}{a:Act}{w:World}{Q:Exit->Act->World->Prop}(hg:o.guard=none)(t:TypeId)(ps:Array (Nat×Operand))(ho:o.op= .build t ps)(vs:List (Nat×Value))(hv:ps.toList.map (fun p=>(p.1,a.eval p.2))=vs)(cells:Array Value)
  (hc:P.built t vs=some cells)(h:wpList P ops Q rest (a.put o.dst (.agg cells)) w):wpList P ops Q (o::rest) a w:=by
 have e:(ps.map fun(i,x)=>(i,a.eval x)).toList=vs:=by rw[Array.toList_map];exact hv
 refine wpList_build hg t ps ho ?_ ?_
 ·rw[e,hc];rfl
 ·rw[e,hc];exact h
theorem fAE:Tryz.prog.built 39 []=some (gA Ma.oA):=by kernel_rfl
def xT(c:Ma.bB):List (Nat×Value):= [(0,lA c.name),(1,lA c.value),(2,.agg (fA c.host)),(3,.bool c.only),(4,lA c.path),(5,.bool c.secure),(6,.bool c.http),(7,.int .i64 c.same),(8,.int .i64 c.expires),(9,.int .i64 c.born),(10,.int .i64 c.used)]
theorem RY(c:Ma.bB)(ha:c.host.addr.length=16)(hs:c.seq=0):Tryz.prog.built 39 (xT c)=some (gA c):=by
 obtain⟨n,v,⟨k,m,a⟩,o,p,s,h,sm,ex,bo,us,sq⟩:=c
 obtain rfl:sq=0:=hs
 obtain⟨x0,x1,x2,x3,x4,x5,x6,x7,x8,x9,x10,wK,xK,yK,zK,AK,rfl⟩:=sixteen ha
 kernel_rfl
theorem gAh(c:Ma.bB)(ha:c.host.addr.length=16)(p:List UInt8):(gA c).setIfInBounds 21 (.string ⟨p.toArray⟩)=gA {c with path:=p} :=vT c ha 1 (lA p)
theorem gZ(c:Ma.bB)(ha:c.host.addr.length=16)(n:Int):(gA c).setIfInBounds 25 (.int .i64 n)=gA {c with expires:=n} :=vT c ha 5 (.int .i64 n)
theorem gAf(c:Ma.bB)(ha:c.host.addr.length=16)(d:dA.Host)(hd:d.addr.length=16):((gA c).toList.take 2++(fA d).toList++(gA c).toList.drop (2+(fA d).size)).toArray=gA {c with host:=d} :=by
 rw[QA d hd]
 have e:(gA c).toList=lA c.name::lA c.value::((fA c.host).toList++ [.bool c.only,lA c.path,.bool c.secure,.bool c.http,.int .i64 c.same,.int .i64 c.expires,.int .i64 c.born,.int .i64 c.used,.int .i64 c.seq]):=rfl
 rw[e,show(2+18:Nat)=18+1+1 by omega,List.drop_succ_cons,List.drop_succ_cons,show(18:Nat)=(fA c.host).toList.length from(eI _ ha).symm,List.drop_left]
 rfl
theorem I1(c:Ma.bB)(ha:c.host.addr.length=16)(W:World):(Op.equalIn 10000 39 (.agg (gA c)) (.agg (gA c))).run Tryz.prog W= .ok true W:=by
 obtain⟨ih,hih⟩:=jAO
 have ks: ∀a:List UInt8,(Op.equalIn 9999 9 (lA a) (lA a)).run Tryz.prog W= .ok true W:=fun a=>by
  unfold lA
  rw[run_equalIn_string W 9998 9 _ _ Tryz.underlying9]
  simp
 have kb: ∀a:Bool,(Op.equalIn 9999 4 (.bool a) (.bool a)).run Tryz.prog W= .ok true W:=fun a=>by
  rw[run_equalIn_bool' W 9998 4 _ _ Tryz.underlying4];simp
 have ki: ∀a:Int,(Op.equalIn 9999 2 (.int .i64 a) (.int .i64 a)).run Tryz.prog W= .ok true W:=fun a=>by
  rw[run_equalIn_int W 9998 2 .i64 .i64 _ _ Tryz.underlying2];simp
 have kn: ∀a:Int,(Op.equalIn 9999 3 (.int .i64 a) (.int .i64 a)).run Tryz.prog W= .ok true W:=fun a=>by
  rw[run_equalIn_int W 9998 3 .i64 .i64 _ _ Tryz.underlying3];simp
 have kh:(Op.equalIn 9999 31 (.agg (fA c.host)) (.agg (fA c.host))).run Tryz.prog W= .ok true W:=by
  have:=hAk c.host c.host ha ha 9996 W
  rw[zA9 rfl]at this
  exact this
 have ps: ∀i v,(gA c)[i]? =some v->(part 9 (gA c) i).run Tryz.prog W= .ok v W:=fun i v hv=>run_part_plain W (by kernel_rfl) hv
 have pb: ∀i v,(gA c)[i]? =some v->(part 4 (gA c) i).run Tryz.prog W= .ok v W:=fun i v hv=>run_part_plain W (by kernel_rfl) hv
 have pi: ∀i v,(gA c)[i]? =some v->(part 2 (gA c) i).run Tryz.prog W= .ok v W:=fun i v hv=>run_part_plain W (by kernel_rfl) hv
 have pn: ∀i v,(gA c)[i]? =some v->(part 3 (gA c) i).run Tryz.prog W= .ok v W:=fun i v hv=>run_part_plain W (by kernel_rfl) hv
 have ph:(part 31 (gA c) 2).run Tryz.prog W= .ok (.agg (fA c.host)) W:=by
  rw[nAA Tryz.underlying31 hih,fAQ,MP c ha]
 obtain⟨f0,f1,f2,f3,f4,f5,f6,f7,f8,f9,f10,f11,hs,hn,⟨o0,o1,o2,o3,o4,o5,o6,o7,o8,o9,iK,o11⟩,⟨t0,t1,t2,t3,t4,t5,t6,t7,t8,t9,t10,t11⟩⟩: ∃f0 f1 f2 f3 f4 f5 f6 f7 f8 f9 f10 f11:Field,Tryz.prog.underlying 39=some (.struct #[f0,f1,f2,f3,f4,f5,f6,f7,f8,f9,f10,f11])/\
   (f0.name≠ "_" /\f1.name≠ "_" /\f2.name≠ "_" /\f3.name≠ "_" /\f4.name≠ "_" /\f5.name≠ "_" /\f6.name≠ "_" /\f7.name≠ "_" /\f8.name≠ "_" /\f9.name≠ "_" /\f10.name≠ "_" /\f11.name≠ "_")/\
   (f0.offset=0/\f1.offset=1/\f2.offset=2/\f3.offset=20/\f4.offset=21/\f5.offset=22/\f6.offset=23/\f7.offset=24/\f8.offset=25/\f9.offset=26/\f10.offset=27/\f11.offset=28)/\
   (f0.type=9/\f1.type=9/\f2.type=31/\f3.type=4/\f4.type=9/\f5.type=4/\f6.type=4/\f7.type=3/\f8.type=2/\f9.type=2/\f10.type=2/\f11.type=3):=
  ⟨_,_,_,_,_,_,_,_,_,_,_,_,Tryz.underlying39,⟨by decide,by decide,by decide,by decide,by decide,by decide,by decide,by decide,by decide,by decide,by decide,by decide⟩,⟨rfl,rfl,rfl,rfl,rfl,rfl,rfl,rfl,rfl,rfl,rfl,rfl⟩,⟨rfl,rfl,rfl,rfl,rfl,rfl,rfl,rfl,rfl,rfl,rfl,rfl⟩⟩
 obtain⟨n0,n1,n2,n3,n4,n5,n6,n7,n8,n9,n10,n11⟩:=hn
 have hl:Tryz.prog.fieldsOf 39= #[f0,f1,f2,f3,f4,f5,f6,f7,f8,f9,f10,f11]:=by unfold Program.fieldsOf;rw[hs]
 rw[run_equalIn_struct W 9999 39 _ _ (by rw[hl];exact hs) (by kernel_rfl),hl]
 refine UT _ ?_
 intro q hq
 simp only[List.mem_cons,List.not_mem_nil,or_false]at hq
 rcases hq with rfl|rfl|rfl|rfl|rfl|rfl|rfl|rfl|rfl|rfl|rfl|rfl
 ·rw[t0,o0];exact⟨n0,_,ps 0 _ (uT c),ks _⟩
 ·rw[t1,o1];exact⟨n1,_,ps 1 _ (iZ c),ks _⟩
 ·rw[t2,o2];exact⟨n2,_,ph,kh⟩
 ·rw[t3,o3];exact⟨n3,_,pb 20 _ (aL c ha),kb _⟩
 ·rw[t4,o4];exact⟨n4,_,ps 21 _ (bL c ha),ks _⟩
 ·rw[t5,o5];exact⟨n5,_,pb 22 _ (NP c ha),kb _⟩
 ·rw[t6,o6];exact⟨n6,_,pb 23 _ (gAd c ha),kb _⟩
 ·rw[t7,o7];exact⟨n7,_,pn 24 _ (wT c ha),kn _⟩
 ·rw[t8,o8];exact⟨n8,_,pi 25 _ (ZK c ha),ki _⟩
 ·rw[t9,o9];exact⟨n9,_,pi 26 _ (gAc c ha),ki _⟩
 ·rw[t10,iK];exact⟨n10,_,pi 27 _ (gAi c ha),ki _⟩
 ·rw[t11,o11];exact⟨n11,_,pn 28 _ (gAe c ha),kn _⟩
theorem bQ(c:Ma.bB)(ha:c.host.addr.length=16)(W:World):(binOp .eql 39 (.agg (gA c)) (.agg (gA c))).run Tryz.prog W= .ok (.bool true) W:=by
 rw[run_eql_struct,I1 c ha W];rfl
theorem lA9(c:Ma.bB)(ha:c.host.addr.length=16)(W:World):(binOp .neq 39 (.agg (gA c)) (.agg (gA c))).run Tryz.prog W= .ok (.bool false) W:=by
 rw[run_neq_struct,I1 c ha W];rfl
def yD(o:Int×Ma.bB)(w:World)(e:Ending)(w':World):Prop:=e= .returned (.tuple #[.agg (gA o.2),.int .i64 o.1])/\Below w.heap.size w w'
end Go.Proofs.YtabgoobcliijeaaGreatDoor
namespace Go.Proofs.YtabgoobcliijeaaGreatDoor
namespace Ma
theorem mAc(l:List UInt8)(c:UInt8):Lib.hasPrefix l [c]=decide (l.head?=some c):=by
 cases l with
 |nil=>rfl
 |cons d r=>
  show((c==d)&&true)=decide (some d=some c)
  rw[Bool.and_true,Bool.eq_iff_iff,beq_iff_eq,decide_eq_true_eq,Option.some.injEq]
  exact⟨fun h=>h.symm,fun h=>h.symm⟩
theorem mA2 {p f:List UInt8}(hne:p≠f)(h:p.length<=f.length):path p f=false:=by
 unfold path
 rw[zA8 hne,zA8 (by omega)];rfl
theorem mA1 {p f:List UInt8}(h:f.length<p.length)(hne:p.take f.length≠f):path p f=false:=by
 unfold path
 rw[zA8 (fun e=>by rw[e]at h;omega),zA9 h,zA8 hne];rfl
theorem lAW {p f:List UInt8}(h:f.length<p.length)(ht:p.take f.length=f):path p f=edge p f:=by
 unfold path
 rw[zA8 (fun e=>by rw[e]at h;omega),zA9 h,zA9 ht];rfl
theorem hAc {p f:List UInt8}(h:f.length<p.length):edge p f=(decide (p[f.length]=47)||decide (f.getLast?=some 47)):=by
 unfold edge
 rw[List.getElem?_eq_getElem h]
 simp
theorem yT {p:List UInt8}(h:(47:UInt8)∉p):vB p= []:=by
 unfold vB
 have:p.reverse.dropWhile (fun c=>decide (c≠47))= []:=by
  have hp: ∀c∈p.reverse,decide (c≠47)=true:=by
   intro c hc
   have:c≠47:=fun e=>h (by rw[<-e];exact List.mem_reverse.1 hc)
   simp[this]
  have:=List.dropWhile_append_of_pos (l₂:= []) hp
  rw[List.append_nil]at this
  rw[this];rfl
 rw[this];rfl
theorem gAm(l:List UInt8):vB (l++ [47])=l:=zT (by simp)
theorem gAn(l:List UInt8){c:UInt8}(h:c≠47):vB (l++ [c])=vB l:=by
 unfold vB
 rw[List.reverse_append,List.reverse_singleton,List.singleton_append,List.dropWhile_cons_of_pos (by simp[h])]
theorem qZ(p:List UInt8):p.take (vB p).length=vB p:=by
 by_cases h:(47:UInt8)∈p
 ·obtain⟨r,e,_⟩:=AT h
  conv=>lhs;rw[e]
  rw[zT (by assumption),List.take_left]
 ·rw[yT h];rfl
theorem pZ(p:List UInt8):(vB p).length<=p.length:=by
 rw[<-qZ p,List.length_take];exact Nat.min_le_right _ _
theorem oZ {p:List UInt8} :vB p≠ []↔0<(vB p).length:=by
 rw[List.length_pos_iff]
theorem oAy(l:List UInt8){k:Nat}(hk:k<l.length):(vB (l.take (k+1))).length=if l[k]=47 then k else(vB (l.take k)).length:=by
 rw[List.take_succ_eq_append_getElem hk]
 split
 ·rename_i h
  rw[h,gAm,List.length_take];omega
 ·rename_i h
  rw[gAn _ h]
theorem KZ {p:List UInt8}(h1:p.head?=some 47)(h2:0<(vB p).length):default p=p.take (vB p).length:=by
 unfold default
 rw[if_pos ⟨h1,oZ.2 h2⟩,qZ]
theorem TP {p:List UInt8}(h:p.head?≠some 47\/(vB p).length=0):default p= [47]:=by
 unfold default
 rw[if_neg]
 rintro⟨h1,h2⟩
 have:=oZ.1 h2
 rcases h with h|h
 ·exact h h1
 ·omega
theorem aAP(s:ByteArray):Lib.lastIndexByte s 47=if(47:UInt8)∈s.data.toList then((vB s.data.toList).length:Int)else-1:=by
 have hb: ∀j,j<s.size-> ∃h:j<s.data.toList.length,s.data[j]! =s.data.toList[j]:=by
  intro j hj
  have hj':j<s.data.size:=hj
  refine⟨by rw[Array.length_toList];exact hj',?_⟩
  rw[getElem!_pos s.data j hj',Array.getElem_toList]
 rcases Lib.lastIndexByte_spec s 47 with⟨e,hn⟩|⟨i,hi,e,hc,hn⟩
 ·rw[e,if_neg]
  intro hm
  obtain⟨j,hj,hx⟩:=List.getElem_of_mem hm
  have hj2:j<s.size:=by rw[Array.length_toList]at hj;exact hj
  obtain⟨_,h2⟩:=hb j hj2
  exact hn j hj2 (by rw[h2,hx];rfl)
 ·obtain⟨hl,h2⟩:=hb i hi
  rw[h2]at hc
  have hx:s.data.toList[i]=47:=by
   apply UInt8.toNat_inj.1
   have:(s.data.toList[i]).toNat=47:=by omega
   rw[this];rfl
  have hs:s.data.toList=s.data.toList.take i++47::s.data.toList.drop (i+1):=by
   rw[<-hx,<-List.drop_eq_getElem_cons hl,List.take_append_drop]
  have hr: ∀c∈s.data.toList.drop (i+1),c≠47:=by
   intro c hc2 hc3
   obtain⟨j,hj,hy⟩:=List.getElem_of_mem hc2
   rw[List.getElem_drop]at hy
   have hj2:i+1+j<s.size:=by
    rw[List.length_drop,Array.length_toList]at hj
    have:s.size=s.data.size:=rfl
    omega
   obtain⟨_,h3⟩:=hb (i+1+j) hj2
   exact hn (i+1+j) (by omega) hj2 (by rw[h3,hy,hc3];rfl)
  have hcut:vB s.data.toList=s.data.toList.take i:=by
   conv=>lhs;rw[hs]
   exact zT hr
  rw[e,if_pos (by rw[<-hx];exact List.getElem_mem hl),hcut,List.length_take]
  omega
theorem kAe {s:ByteArray} :Lib.lastIndexByte s 47<1↔ (vB s.data.toList).length=0:=by
 rw[aAP]
 split
 ·omega
 ·rename_i h
  rw[yT h]
  simp
theorem kAd {s:ByteArray}(h:0<(vB s.data.toList).length):Lib.lastIndexByte s 47=((vB s.data.toList).length:Int):=by
 rw[aAP]
 split
 ·rfl
 ·rename_i k
  rw[yT k]at h
  cases h
theorem aAL {h:dA.Host}(hl:dA.labels h≠ []):dA.can h=true:=by
 unfold dA.labels at hl
 split at hl
 ·rename_i k
  rw[dA.XY k.1];exact k.2
 ·exact absurd rfl hl
theorem pAI {h d:dA.Host}(k:dA.under h d=true):dA.can h=true/\dA.can d=true:=by
 rw[dA.IW]at k
 unfold dA.qI at k
 simp only[Bool.and_eq_true,decide_eq_true_eq]at k
 exact⟨aAL k.1.1,aAL k.1.2⟩
theorem gAY(h d:dA.Host):domain h d=((decide (h=d)&&dA.can h)||dA.under h d):=by
 unfold domain
 rw[Bool.eq_iff_iff]
 simp only[Bool.and_eq_true,Bool.or_eq_true,decide_eq_true_eq]
 constructor
 ·rintro⟨⟨h1,_⟩,h3|h3⟩
  ·exact .inl ⟨h3,h1⟩
  ·exact .inr h3
 ·rintro(⟨rfl,h1⟩|h1)
  ·exact⟨⟨h1,h1⟩,.inl rfl⟩
  ·exact⟨pAI h1,.inr h1⟩
theorem nAV(c:bB)(r:Request)(now:Int):sends c r now=((!c.only||decide (c.host=r.host))&& (domain r.host c.host&& (path r.path c.path&& ((!c.secure||r.secure)&& (decide (now<c.expires)&&rN c.same r.cross))))):=by
 rw[Bool.eq_iff_iff,sends_iff]
 simp only[Bool.and_eq_true,Bool.or_eq_true,decide_eq_true_eq,Bool.not_eq_true']
 constructor
 ·rintro⟨h1,h2,h3,h4,h5,h6⟩
  refine⟨?_,h2,h3,?_,h5,h6⟩
  ·cases ho:c.only with
   |true=>exact .inr (h1 ho)
   |false=>exact .inl rfl
  ·cases hs:c.secure with
   |true=>exact .inr (h4 hs)
   |false=>exact .inl rfl
 ·rintro⟨h1,h2,h3,h4,h5,h6⟩
  refine⟨?_,h2,h3,?_,h5,h6⟩
  ·intro ho
   rcases h1 with k|k
   ·rw[ho]at k;cases k
   ·exact k
  ·intro hs
   rcases h4 with k|k
   ·rw[hs]at k;cases k
   ·exact k
end Ma
end Go.Proofs.YtabgoobcliijeaaGreatDoor
namespace Go.Proofs.YtabgoobcliijeaaGreatDoor
open Go.RowKit
theorem dA.pAJ (h d:dA.Host):dA.under h d=((dA.jE h ((dA.labels d).length:Int)).isSome&& (decide (dA.host (dA.jE h ((dA.labels d).length:Int))=d)&& !decide (dA.host (dA.jE h ((dA.labels d).length:Int))=h))):=by
 unfold dA.under
 cases dA.jE h ((dA.labels d).length:Int)<;>rfl
theorem pAH(h d:dA.Host)(ha:h.addr.length=16)(hda:d.addr.length=16)(hs:h.name.length<=1048576)(hds:d.name.length<=1048576)(w:World)(hw:Std w):
  Calls Tryz.prog 97 #[.agg (fA h),.agg (fA d)] w fun e w'=>e= .returned (.bool (dA.under h d))/\Below w.heap.size w w':=by
 have z0:=BD
 have HZ0:=zA7 (show(fA dA.zero).size=18 from rfl)
 have HH:=zA7 (QA h ha)
 have HD:=zA7 (QA d hda)
 have H1:=zA7 (fun W hW=>DL d hda hds W hW)
 have hU:=dA.pAJ h d
 have DE:=dA.oAs h ((dA.labels d).length:Int)
 have H2: ∀W,Std W->Calls Tryz.prog 134 #[.agg (fA h),.int .i64 ((dA.labels d).length:Int)] W (BJ (dA.jE h ((dA.labels d).length:Int)) W):=
  fun W hW=>oAq h ha hs _ W hW
 have H2:=zA7 H2
 unfold BJ at H2
 unfold iD at H1
 generalize dA.labels d=ps at*
 generalize hL:ps.length=L at*
 generalize dA.jE h (L:Int)=o at*
 generalize dA.host o=T at*
 have HT:=zA7 (QA T DE)
 have HT1:=zA7 (aB T)
 have q1:=cI T d DE hda
 have q2:=aO T h DE ha
 generalize o.isSome=ok at*
 generalize dA.under h d=b at*
 generalize decide (T=d)=b1 at*
 generalize decide (T=h)=b2 at*
 generalize fA h=H at*
 generalize fA d=D at*
 generalize fA T=TT at*
 clear ha hda DE hds hs
 have R0:=Row.new w 31 H
 have B0:=(Below.refl w.heap.size w).alloc (zB3 _) (.cells H 31)
 have hN:(w.alloc (.cells H 31)).heap.size=w.heap.size+1:=by simp
 have S0:=(Row.new (w.alloc (.cells H 31)) 31 D)
 rw[hN]at S0
 go_enter Tryz.func97,Tryz.ntmps97
 go_wp2_with (refine iA 8 rfl ?_;refine qA rfl 31 _ rfl (w.heap.size+1) rfl S0 Tryz.underlying31 rfl (by rw[HD.out];exact tA) ?_)
 generalize w.alloc (.cells H 31)=w0 at*
 have C0:=B0.alloc B0.size (.cells D 31)
 have R1:=R0.alloc (.cells D 31)
 generalize w0.alloc (.cells D 31)=x0 at*
 clear R0 B0 hN
 refine(H1.out _ (hw.below C0)).mono ?_
 rintro e v1 ⟨v,rfl,hown,d1⟩
 have S1:=S0.stays d1
 have R2:=R1.stays d1
 have C1:=C0.trans (d1.mono C0.size)
 have hv: ∃A c,v= .slice A L c:=by
  rcases hown.2 with⟨rfl,h0⟩|⟨g,cap,cur,rfl,_⟩
  ·exact⟨none,0,by rw[h0]⟩
  ·exact⟨_,_,rfl⟩
 obtain⟨A,c,rfl⟩:=hv
 clear hown d1 S0 R1 C0
 go_wp2_with (refine iA 12 rfl ?_;refine qA rfl 31 _ rfl w.heap.size rfl R2 Tryz.underlying31 rfl (by rw[HH.out];exact tA) ?_)
 refine(H2.out _ (hw.below C1)).mono ?_
 rintro e v2 ⟨rfl,d2⟩
 have S2:=S1.stays d2
 have R3:=R2.stays d2
 have C2:=C1.trans (d2.mono C1.size)
 obtain⟨T0,U,C,L⟩:=JA 31 (fA dA.zero) TT C2 C2.size
 have S3:=L _ _ _ S2
 have R4:=L _ _ _ R3
 clear L S1 R2 C1 S2 R3 C2 d2
 cases ok
 ·go_wp2_with (first
   |(refine wpList_store_row rfl 31 _ _ rfl v2.heap.size TT rfl rfl 31 _ T0 (by rw[HT.out];exact tA) (by rw[HT.out];rfl) HT1.out ?_))
  go_ret
  exact⟨vA (by rw[hU];rfl),C⟩
 ·cases b1
  all_goals
   go_wp2_with (first
    |(refine wpList_store_row rfl 31 _ _ rfl v2.heap.size TT rfl rfl 31 _ T0 (by rw[HT.out];exact tA) (by rw[HT.out];rfl) HT1.out ?_)
    |(refine iA 19 rfl ?_;refine qA rfl 31 _ rfl v2.heap.size rfl U Tryz.underlying31 rfl (by rw[HT.out];exact tA) ?_)
    |(refine iA 20 rfl ?_;refine qA rfl 31 _ rfl (w.heap.size+1) rfl S3 Tryz.underlying31 rfl (by rw[HD.out];exact tA) ?_)
    |(refine iA 24 rfl ?_;refine qA rfl 31 _ rfl v2.heap.size rfl U Tryz.underlying31 rfl (by rw[HT.out];exact tA) ?_)
    |(refine iA 25 rfl ?_;refine qA rfl 31 _ rfl w.heap.size rfl R4 Tryz.underlying31 rfl (by rw[HH.out];exact tA) ?_))
   go_ret
   exact⟨vA (by rw[hU];rfl),C⟩
end Go.Proofs.YtabgoobcliijeaaGreatDoor
namespace Go.Proofs.YtabgoobcliijeaaGreatDoor
open Go.RowKit
theorem cAv(h d:dA.Host)(ha:h.addr.length=16)(hda:d.addr.length=16)(hs:h.name.length<=100000)(hds:d.name.length<=100000)(w:World):
  Calls Tryz.prog 68 #[.agg (fA h),.agg (fA d)] w fun e w'=>e= .returned (.bool (dA.qI h d))/\Below w.heap.size w w':=by
 have HH:=zA7 (QA h ha)
 have HD:=zA7 (QA d hda)
 have H1:=zA7 (fun W=>nK h ha hs W)
 have H2:=zA7 (fun W=>nK d hda hds W)
 have hll:=dA.XU h
 have hlm:=dA.XU d
 obtain⟨th,hth⟩: ∃t:ByteArray,t=⟨h.name.toArray⟩:=⟨_,rfl⟩
 obtain⟨td,htd⟩: ∃t:ByteArray,t=⟨d.name.toArray⟩:=⟨_,rfl⟩
 obtain⟨E,hE⟩: ∃E:ByteArray,(⟨#[46]⟩:ByteArray)++td=E:=⟨_,rfl⟩
 have wL:th.data.toList=h.name:=by rw[hth]
 have vL:td.data.toList=d.name:=by rw[htd]
 have aAh:th.size=h.name.length:=by rw[<-wL,Oct.nA]
 have rAp:td.size=d.name.length:=by rw[<-vL,Oct.nA]
 have hEl:E.data.toList=46::d.name:=by rw[<-hE,ByteArray.data_append,Array.toList_append,vL];rfl
 have oL:E.size=d.name.length+1:=by rw[<-Oct.nA,hEl];rfl
 have HU:Hid (dA.qI h d=(decide (dA.labels h≠ []/\dA.labels d≠ [])&& (decide (d.name.length+1<h.name.length)&&decide (h.name.drop (h.name.length- (d.name.length+1))=46::d.name)))):=zA7 rfl
 obtain⟨b,hb⟩: ∃b,decide (h.name.drop (h.name.length- (d.name.length+1))=46::d.name)=b:=⟨_,rfl⟩
 have heq:((th.extract (th.size-E.size) th.size).toList==E.toList)=b:=by
  rw[<-hb,Oct.SA,Oct.SA,hEl,Lib.extract_eq]
  show(((th.data.toList.drop (th.size-E.size)).take (th.size- (th.size-E.size)))==46::d.name)=_
  rw[List.take_of_length_le (by rw[List.length_drop,Oct.nA];exact zB3 _),wL,aAh,oL,Bool.eq_iff_iff,beq_iff_eq,decide_eq_true_eq]
 rw[hb]at HU
 have R0:=Row.new w 31 (fA h)
 have hN:(w.alloc (.cells (fA h) 31)).heap.size=w.heap.size+1:=by simp
 have S0:=Row.new (w.alloc (.cells (fA h) 31)) 31 (fA d)
 rw[hN]at S0
 have R1:=R0.alloc (.cells (fA d) 31)
 have C0:=((Below.refl w.heap.size w).alloc (zB3 _) (.cells (fA h) 31)).alloc (by omega) (.cells (fA d) 31)
 have SX:=S0
 have c0:((w.alloc (.cells (fA h) 31)).alloc (.cells (fA d) 31)).cell? ⟨w.heap.size,1,none⟩=some (.string th):=by rw[R1.cell,uH,hth];rfl
 have e0:((w.alloc (.cells (fA h) 31)).alloc (.cells (fA d) 31)).cell? ⟨w.heap.size+1,1,none⟩=some (.string td):=by rw[S0.cell,uH,htd];rfl
 have hcase:dA.labels h= []\/(dA.labels h≠ []/\dA.labels d= [])\/(dA.labels h≠ []/\dA.labels d≠ []/\E.size<th.size)\/(dA.labels h≠ []/\dA.labels d≠ []/\ ¬E.size<th.size):=by
  by_cases k1:dA.labels h= []
  ·exact .inl k1
  ·by_cases k2:dA.labels d= []
   ·exact .inr (.inl ⟨k1,k2⟩)
   ·by_cases k3:E.size<th.size
    ·exact .inr (.inr (.inl ⟨k1,k2,k3⟩))
    ·exact .inr (.inr (.inr ⟨k1,k2,k3⟩))
 unfold iD at H1 H2
 rcases hcase with k1|⟨k1,k2⟩|⟨k1,k2,k3⟩|⟨k1,k2,k3⟩
 ·have HV:Hid (dA.qI h d=false):=zA7 (by rw[HU.out,k1];rfl)
  rw[k1]at H1
  rw[HV.out]
  generalize fA h=H at*
  generalize fA d=D at*
  clear HU hb heq hE hEl oL hth htd wL vL ha hda hs hds HV
  go_enter Tryz.func68,Tryz.ntmps68
  go_wp2_with (refine iA 6 rfl ?_;refine qA rfl 31 _ rfl w.heap.size rfl R1 Tryz.underlying31 rfl (by rw[HH.out];exact tA) ?_)
  generalize(w.alloc (.cells H 31)).alloc (.cells D 31)=x0 at*
  refine(H1.out _).mono ?_
  rintro e v1 ⟨v,rfl,hown,d1⟩
  have hv: ∃A c,v= .slice A 0 c:=by
   rcases hown.2 with⟨rfl,h0⟩|⟨g,cap,cur,rfl,_⟩
   ·exact⟨none,0,rfl⟩
   ·exact⟨_,_,rfl⟩
  obtain⟨A,c,rfl⟩:=hv
  clear hown
  go_wp2
  go_ret
  exact⟨rfl,C0.trans (d1.mono C0.size)⟩
 ·have HV:Hid (dA.qI h d=false):=zA7 (by rw[HU.out,zA8 (fun k=>k.2 k2)];rfl)
  have hL:0<(dA.labels h).length:=List.length_pos_iff.2 k1
  rw[k2]at H2
  rw[HV.out]
  generalize dA.labels h=ps at*
  generalize ps.length=L at*
  generalize fA h=H at*
  generalize fA d=D at*
  have hL0:((L:Int)==0)=false:=beq_eq_false_iff_ne.2 (by omega)
  clear HU hb heq hE hEl oL hth htd wL vL ha hda hs hds HV
  go_enter Tryz.func68,Tryz.ntmps68
  go_wp2_with (refine iA 6 rfl ?_;refine qA rfl 31 _ rfl w.heap.size rfl R1 Tryz.underlying31 rfl (by rw[HH.out];exact tA) ?_)
  generalize(w.alloc (.cells H 31)).alloc (.cells D 31)=x0 at*
  refine(H1.out _).mono ?_
  rintro e v1 ⟨v,rfl,hown,d1⟩
  have hv: ∃A c,v= .slice A L c:=by
   rcases hown.2 with⟨rfl,h0⟩|⟨g,cap,cur,rfl,_⟩
   ·exact⟨none,0,by rw[h0]⟩
   ·exact⟨_,_,rfl⟩
  obtain⟨A,c,rfl⟩:=hv
  have C1:=C0.trans (d1.mono C0.size)
  have S2:=SX.stays d1
  clear hown
  go_wp2_with (refine iA 11 rfl ?_;refine qA rfl 31 _ rfl (w.heap.size+1) rfl S2 Tryz.underlying31 rfl (by rw[HD.out];exact tA) ?_)
  refine(H2.out _).mono ?_
  rintro e v2 ⟨v,rfl,hown,d2⟩
  have hv: ∃A c,v= .slice A 0 c:=by
   rcases hown.2 with⟨rfl,h0⟩|⟨g,cap,cur,rfl,_⟩
   ·exact⟨none,0,rfl⟩
   ·exact⟨_,_,rfl⟩
  obtain⟨A2,c2,rfl⟩:=hv
  clear hown
  go_wp2
  go_ret
  exact⟨rfl,C1.trans (d2.mono C1.size)⟩
 ·have HV:Hid (dA.qI h d=b):=zA7 (by rw[HU.out,zA9 (show dA.labels h≠ []/\dA.labels d≠ [] from⟨k1,k2⟩),zA9 (show d.name.length+1<h.name.length by omega)];rfl)
  have hL:0<(dA.labels h).length:=List.length_pos_iff.2 k1
  have hM:0<(dA.labels d).length:=List.length_pos_iff.2 k2
  rw[HV.out]
  generalize dA.labels h=ps at*
  generalize dA.labels d=qs at*
  generalize ps.length=L at*
  generalize qs.length=M at*
  generalize fA h=H at*
  generalize fA d=D at*
  have hL0:((L:Int)==0)=false:=beq_eq_false_iff_ne.2 (by omega)
  have hM0:((M:Int)==0)=false:=beq_eq_false_iff_ne.2 (by omega)
  have tQ: ¬9223372036854775807<(⟨#[46]⟩:ByteArray).size+td.size:=by
   show¬9223372036854775807<1+td.size
   omega
  have h46:(⟨#[46]⟩:ByteArray).size=1:=rfl
  have hz:((th.size:Int)- (E.size:Int)).toNat=th.size-E.size:=by omega
  have k4:(E.size:Int)<(th.size:Int):=by omega
  have wD:=zA7 heq
  rw[aAh,oL]at wD
  clear heq
  have aK:=R1.lt
  have hlt1:=SX.lt
  clear HU hb hEl hth htd wL vL ha hda HV
  go_enter Tryz.func68,Tryz.ntmps68
  go_wp2_with (refine iA 6 rfl ?_;refine qA rfl 31 _ rfl w.heap.size rfl R1 Tryz.underlying31 rfl (by rw[HH.out];exact tA) ?_)
  generalize(w.alloc (.cells H 31)).alloc (.cells D 31)=x0 at*
  refine(H1.out _).mono ?_
  rintro e v1 ⟨v,rfl,hown,d1⟩
  have hv: ∃A c,v= .slice A L c:=by
   rcases hown.2 with⟨rfl,h0⟩|⟨g,cap,cur,rfl,_⟩
   ·exact⟨none,0,by rw[h0]⟩
   ·exact⟨_,_,rfl⟩
  obtain⟨A,c,rfl⟩:=hv
  have C1:=C0.trans (d1.mono C0.size)
  have S2:=SX.stays d1
  have c1:=(d1.cell (p:=⟨w.heap.size,1,none⟩) aK).trans c0
  have e1:=(d1.cell (p:=⟨w.heap.size+1,1,none⟩) hlt1).trans e0
  have hlt2:=Nat.lt_of_lt_of_le aK d1.size
  have hlt3:=Nat.lt_of_lt_of_le hlt1 d1.size
  clear hown c0 e0
  go_wp2_with (refine iA 11 rfl ?_;refine qA rfl 31 _ rfl (w.heap.size+1) rfl S2 Tryz.underlying31 rfl (by rw[HD.out];exact tA) ?_)
  refine(H2.out _).mono ?_
  rintro e v2 ⟨v,rfl,hown,d2⟩
  have hv: ∃A c,v= .slice A M c:=by
   rcases hown.2 with⟨rfl,h0⟩|⟨g,cap,cur,rfl,_⟩
   ·exact⟨none,0,by rw[h0]⟩
   ·exact⟨_,_,rfl⟩
  obtain⟨A2,cp2,rfl⟩:=hv
  have c2:=(d2.cell (p:=⟨w.heap.size,1,none⟩) hlt2).trans c1
  have e2:=(d2.cell (p:=⟨w.heap.size+1,1,none⟩) hlt3).trans e1
  have C2:=C1.trans (d2.mono C1.size)
  clear hown c1 e1 d1 d2 C1 S2 C0 R0 R1 S0 SX
  go_wp2
  go_ret
  exact⟨vA wD.out,C2⟩
 ·have HV:Hid (dA.qI h d=false):=zA7 (by rw[HU.out,zA9 (show dA.labels h≠ []/\dA.labels d≠ [] from⟨k1,k2⟩),zA8 (show¬d.name.length+1<h.name.length by omega)];rfl)
  have hL:0<(dA.labels h).length:=List.length_pos_iff.2 k1
  have hM:0<(dA.labels d).length:=List.length_pos_iff.2 k2
  rw[HV.out]
  generalize dA.labels h=ps at*
  generalize dA.labels d=qs at*
  generalize ps.length=L at*
  generalize qs.length=M at*
  generalize fA h=H at*
  generalize fA d=D at*
  have hL0:((L:Int)==0)=false:=beq_eq_false_iff_ne.2 (by omega)
  have hM0:((M:Int)==0)=false:=beq_eq_false_iff_ne.2 (by omega)
  have tQ: ¬9223372036854775807<(⟨#[46]⟩:ByteArray).size+td.size:=by
   show¬9223372036854775807<1+td.size
   omega
  have h46:(⟨#[46]⟩:ByteArray).size=1:=rfl
  have k4: ¬(E.size:Int)<(th.size:Int):=by omega
  have aK:=R1.lt
  have hlt1:=SX.lt
  clear HU hb hEl hth htd wL vL ha hda HV
  go_enter Tryz.func68,Tryz.ntmps68
  go_wp2_with (refine iA 6 rfl ?_;refine qA rfl 31 _ rfl w.heap.size rfl R1 Tryz.underlying31 rfl (by rw[HH.out];exact tA) ?_)
  generalize(w.alloc (.cells H 31)).alloc (.cells D 31)=x0 at*
  refine(H1.out _).mono ?_
  rintro e v1 ⟨v,rfl,hown,d1⟩
  have hv: ∃A c,v= .slice A L c:=by
   rcases hown.2 with⟨rfl,h0⟩|⟨g,cap,cur,rfl,_⟩
   ·exact⟨none,0,by rw[h0]⟩
   ·exact⟨_,_,rfl⟩
  obtain⟨A,c,rfl⟩:=hv
  have C1:=C0.trans (d1.mono C0.size)
  have S2:=SX.stays d1
  have c1:=(d1.cell (p:=⟨w.heap.size,1,none⟩) aK).trans c0
  have e1:=(d1.cell (p:=⟨w.heap.size+1,1,none⟩) hlt1).trans e0
  have hlt2:=Nat.lt_of_lt_of_le aK d1.size
  have hlt3:=Nat.lt_of_lt_of_le hlt1 d1.size
  clear hown c0 e0
  go_wp2_with (refine iA 11 rfl ?_;refine qA rfl 31 _ rfl (w.heap.size+1) rfl S2 Tryz.underlying31 rfl (by rw[HD.out];exact tA) ?_)
  refine(H2.out _).mono ?_
  rintro e v2 ⟨v,rfl,hown,d2⟩
  have hv: ∃A c,v= .slice A M c:=by
   rcases hown.2 with⟨rfl,h0⟩|⟨g,cap,cur,rfl,_⟩
   ·exact⟨none,0,by rw[h0]⟩
   ·exact⟨_,_,rfl⟩
  obtain⟨A2,cp2,rfl⟩:=hv
  have c2:=(d2.cell (p:=⟨w.heap.size,1,none⟩) hlt2).trans c1
  have e2:=(d2.cell (p:=⟨w.heap.size+1,1,none⟩) hlt3).trans e1
  have C2:=C1.trans (d2.mono C1.size)
  clear hown c1 e1 d1 d2 C1 S2 C0 R0 R1 S0 SX
  go_wp2
  go_ret
  exact⟨rfl,C2⟩
end Go.Proofs.YtabgoobcliijeaaGreatDoor
