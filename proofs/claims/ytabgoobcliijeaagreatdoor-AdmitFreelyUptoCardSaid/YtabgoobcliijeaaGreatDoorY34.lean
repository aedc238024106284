/- The walk of what tells whether a rule can be: the reference's. -/
import Derived.Test.YtabgoobcliijeaaGreatDoorY33
import Derived.Test.YtabgoobcliijeaaGreatDoorY26
set_option maxHeartbeats 8000000
set_option maxRecDepth 100000
namespace Go.Proofs.YtabgoobcliijeaaGreatDoor
open Go.RowKit
theorem mAS(r:Ru.Rule)(hr:r.name.length<=90000)(w:World):
  Calls Tryz.prog 70 #[.agg (rA r)] w fun e w'=>e= .returned (.bool (Sx.right r))/\Below w.heap.size w w':=by
 have z0:=CK
 have htl:=Sx.dAj r
 obtain⟨t,ht⟩: ∃t:ByteArray,t=⟨(Ru.text r).toArray⟩:=⟨_,rfl⟩
 have htd:t.data.toList=Ru.text r:=by rw[ht]
 have hts:t.size<=100000:=by rw[<-Oct.nA,htd];omega
 have H1:=zA7 (fun W=>mAT r W (by omega))
 have H2:=zA7 (fun W=>mAF t W hts)
 unfold XC at H1
 rw[<-ht]at H1
 rw[htd]at H2
 unfold KI at H2
 have HS:=zA7 (Sx.cAE r)
 have R0:=Row.new w 26 (rA r)
 have B0:=(Below.refl w.heap.size w).alloc (zB3 _) (.cells (rA r) 26)
 have HX0:=zA7 (show(Tryz.prog.info? 26).map (·.size)=some (rA r).size from KA)
 rcases Ru.PQ (Ru.text r)with⟨x,h1,_⟩|h1|h1
 ·rw[h1]at H2 HS
  dsimp only at H2 HS
  rw[Bool.true_and]at HS
  rw[HS.out]
  have q:=fun W=>J2 x r W
  obtain⟨b,hb⟩: ∃b,decide (x=r)=b:=⟨_,rfl⟩
  rw[hb]at q⊢
  have KB:=zA7 (show(Tryz.prog.info? 26).map (·.size)=some (rA x).size from KA)
  have OF:=zA7 (show(rA Ru.zero).size=(rA x).size from rfl)
  have ME:=zA7 (vC x)
  generalize rA r=R at*
  generalize rA x=X at*
  clear ht htd hts h1 HS htl hb
  go_enter Tryz.func70,Tryz.ntmps70
  go_wp2_with (refine iA 7 rfl ?_;refine qA rfl 26 _ rfl w.heap.size rfl R0 Tryz.underlying26 rfl HX0.out ?_)
  generalize w.alloc (.cells R 26)=w0 at*
  refine(H1.out _).mono ?_
  rintro e v1 ⟨rfl,d1⟩
  have R1:=R0.stays d1
  have B1:=B0.trans (d1.mono B0.size)
  clear R0 d1
  go_wp2_with fail
  refine(H2.out _).mono ?_
  rintro e v2 ⟨rfl,d2⟩
  have R2:=R1.stays d2
  have B2:=B1.trans (d2.mono B1.size)
  obtain⟨T,U,C,L⟩:=JA 26 (rA Ru.zero) X B2 B2.size
  have R3:=L _ _ _ R2
  clear L R1 R2 B1 d2 B0
  go_wp2_with (first
   |(refine wpList_store_row rfl 26 _ _ rfl v2.heap.size X rfl rfl 26 _ T KB.out OF.out ME.out ?_)
   |(refine iA 19 rfl ?_;refine qA rfl 26 _ rfl v2.heap.size rfl U Tryz.underlying26 rfl KB.out ?_)
   |(refine iA 20 rfl ?_;refine qA rfl 26 _ rfl w.heap.size rfl R3 Tryz.underlying26 rfl HX0.out ?_))
  go_ret
  exact⟨rfl,C⟩
 ·rw[h1]at H2 HS
  dsimp only at H2 HS
  rw[Bool.false_and]at HS
  rw[HS.out]
  generalize rA r=R at*
  clear ht htd hts h1 HS htl
  go_enter Tryz.func70,Tryz.ntmps70
  go_wp2_with (refine iA 7 rfl ?_;refine qA rfl 26 _ rfl w.heap.size rfl R0 Tryz.underlying26 rfl HX0.out ?_)
  generalize w.alloc (.cells R 26)=w0 at*
  refine(H1.out _).mono ?_
  rintro e v1 ⟨rfl,d1⟩
  have B1:=B0.trans (d1.mono B0.size)
  clear R0 d1
  go_wp2_with fail
  refine(H2.out _).mono ?_
  rintro e v2 ⟨rfl,d2⟩
  have B2:=B1.trans (d2.mono B1.size)
  obtain⟨T,U,C,L⟩:=JA 26 (rA Ru.zero) (rA Ru.zero) B2 B2.size
  clear L B1 d2 B0
  go_wp2_with (first
   |(refine wpList_store_row rfl 26 _ _ rfl v2.heap.size (rA Ru.zero) rfl rfl 26 _ T KA rfl (vC _) ?_))
  go_ret
  exact⟨rfl,C⟩
 ·rw[h1]at H2 HS
  dsimp only at H2 HS
  rw[Bool.false_and]at HS
  rw[HS.out]
  generalize rA r=R at*
  clear ht htd hts h1 HS htl
  go_enter Tryz.func70,Tryz.ntmps70
  go_wp2_with (refine iA 7 rfl ?_;refine qA rfl 26 _ rfl w.heap.size rfl R0 Tryz.underlying26 rfl HX0.out ?_)
  generalize w.alloc (.cells R 26)=w0 at*
  refine(H1.out _).mono ?_
  rintro e v1 ⟨rfl,d1⟩
  have B1:=B0.trans (d1.mono B0.size)
  clear R0 d1
  go_wp2_with fail
  refine(H2.out _).mono ?_
  rintro e v2 ⟨rfl,d2⟩
  have B2:=B1.trans (d2.mono B1.size)
  obtain⟨T,U,C,L⟩:=JA 26 (rA Ru.zero) (rA Ru.zero) B2 B2.size
  clear L B1 d2 B0
  go_wp2_with (first
   |(refine wpList_store_row rfl 26 _ _ rfl v2.heap.size (rA Ru.zero) rfl rfl 26 _ T KA rfl (vC _) ?_))
  go_ret
  exact⟨rfl,C⟩
end Go.Proofs.YtabgoobcliijeaaGreatDoor
namespace Go.Proofs.YtabgoobcliijeaaGreatDoor
open Go.RowKit Go.Maps
def pP(n:Nat)(w:World)(e:Ending)(w':World):Prop:=e= .returned (.int .i64 (n:Int))/\Below w.heap.size w w'
theorem mAV(rs:List Ru.Rule)(v:Value)(h:dA.Host)(w:World)(ha:h.addr.length=16)(hs:h.name.length<=90000)(hv:ZD w v rs)(hn:rs.length<=1000)(hr: ∀r∈rs,r.name.length<=1000):
  Calls Tryz.prog 36 #[v,.agg (fA h)] w (pP (Sx.bG rs h) w):=by
 have z0:=CK
 have z1:=BD
 have HH:=zA7 (show(Tryz.prog.info? 31).map (·.size)=some (fA h).size by rw[QA h ha];exact tA)
 have HHZ:=zA7 (show(fA dA.zero).size=(fA h).size by rw[QA h ha];rfl)
 have H1:=zA7 (fun W=>nK h ha (by omega) W)
 unfold iD at H1
 have R0:=Row.new w 31 (fA h)
 have B0:=(Below.refl w.heap.size w).alloc (zB3 _) (.cells (fA h) 31)
 have HP:Hid (∀n w',Sx.bG rs h=n->Below w.heap.size w w'->pP (Sx.bG rs h) w (.returned (.int .i64 (n:Int))) w'):=zA7 (fun n w' e b=>by rw[e];exact⟨rfl,b⟩)
 generalize pP (Sx.bG rs h) w=post at*
 have HV:=zA7 hv
 obtain⟨A,c,rfl,hcells⟩:=hv
 clear hcells
 by_cases hz:dA.labels h= []
 ·have HZ:=zA7 (HP.out 0 · (by unfold Sx.bG;rw[if_pos hz]))
  rw[hz]at H1
  generalize fA h=X at*
  clear hz
  go_enter Tryz.func36,Tryz.ntmps36
  go_wp2_with (refine iA 12 rfl ?_;refine qA rfl 31 _ rfl w.heap.size rfl R0 Tryz.underlying31 rfl HH.out ?_)
  generalize w.alloc (.cells X 31)=w0 at*
  refine(H1.out _).mono ?_
  rintro e v1 ⟨v,rfl,hown,d1⟩
  have B1:=B0.trans (d1.mono B0.size)
  obtain⟨_,⟨rfl,_⟩|⟨g,cap,rfl,_⟩⟩:=sO (ls:= []) hown
  ·go_wp2
   exact HZ.out _ B1
  ·go_wp2
   exact HZ.out _ B1
 ·have hsu:Sx.bG rs h=Sx.pick (rs.foldl (Sx.aD h) (1,0)):=by unfold Sx.bG;rw[if_neg hz]
  have hpos:=List.length_pos_iff.2 hz
  obtain⟨nl,hnl⟩: ∃nl,(dA.labels h).length=nl:=⟨_,rfl⟩
  rw[hnl]at hpos H1
  have hnz:((nl:Int)==0)=false:=by simp;omega
  have HN:Hid (∀k r,rs[k]? =some r->(rs.take (k+1)).foldl (Sx.aD h) (1,0)=Sx.aD h ((rs.take k).foldl (Sx.aD h) (1,0)) r):=zA7 (fun k r hk=>by
   rw[List.take_add_one,hk,List.foldl_append];rfl)
  obtain⟨n,hnn⟩: ∃n,rs.length=n:=⟨_,rfl⟩
  have oC:=zA7 hnn
  have JS:=zA7 hsu
  have HRN:=zA7 hr
  rw[hnn]at hn⊢
  clear hz hnl hsu hnn hr
  go_enter Tryz.func36,Tryz.ntmps36
  go_wp2_with (refine iA 12 rfl ?_;refine qA rfl 31 _ rfl w.heap.size rfl R0 Tryz.underlying31 rfl HH.out ?_)
  have aK:=R0.lt
  generalize w.alloc (.cells (fA h) 31)=w0 at*
  refine(H1.out _).mono ?_
  rintro e v1 ⟨v,rfl,hown,d1⟩
  have B1:=B0.trans (d1.mono B0.size)
  have R1:=R0.stays d1
  obtain⟨A2,c2,rfl⟩: ∃A2 c2,v= .slice A2 nl c2:=by
   rcases hown.2 with⟨rfl,h0⟩|⟨g,cap,cur,rfl,_⟩
   ·exact⟨none,0,by rw[h0]⟩
   ·exact⟨_,_,rfl⟩
  clear hown d1 B0 R0 H1 aK
  go_wp2_with fail
  go_loopw [5,6,18] (fun p s i wr=> ∃(k a b:Nat),k<=n/\p= .int .i64 (a:Int)/\s= .int .i64 (b:Int)/\i= .int .i64 (k:Int)/\(rs.take k).foldl (Sx.aD h) (1,0)=(a,b)/\Below w.heap.size w wr/\Row wr w.heap.size 31 (fA h)) (fun _ _ i _=>n- (intOf i).toNat)
  case atStart=>exact⟨0,1,0,Nat.zero_le _,rfl,rfl,rfl,rfl,B1,R1⟩
  case round=>
   obtain⟨k,a,b,hk,rfl,rfl,rfl,DE,hbe,hrow⟩:=hrel
   by_cases hlt:k<n
   ·obtain⟨r,hr⟩: ∃r,rs[k]? =some r:=⟨_,List.getElem?_eq_getElem (by rw[oC.out];exact hlt)⟩
    obtain⟨A',c',he,hc'⟩:=HV.out.stays hbe
    have he:=Value.slice.inj he
    obtain⟨rfl,_,rfl⟩:=he
    obtain⟨g,off,rfl,hgl,hcc,hcell⟩:=hc' (by rw[oC.out];omega)
    obtain⟨h0,h1⟩:=hcell k r hr
    rw[oC.out]at hcc
    have hrn:=HRN.out r (List.mem_of_getElem? hr)
    have MM:=zA7 ((HN.out k r hr).trans (by rw[DE]))
    have ZG:=zA7 (fun W=>mAS r (by omega) W)
    clear hc' hcell DE hr
    have HX:=zA7 (show(Tryz.prog.info? 26).map (·.size)=some (rA r).size from KA)
    have OF:=zA7 (show(rA Ru.zero).size=(rA r).size from rfl)
    have ME:=zA7 (vC r)
    obtain⟨T,U,C,_⟩:=JA 26 (rA Ru.zero) (rA r) (Below.refl wr.heap.size wr) (zB3 _)
    have fE:=hbe.trans (C.mono hbe.size)
    have hrow2:=hrow.stays C
    have wE:Hid (∀(pi si:Int)(w':World),pi=((Sx.aD h (a,b) r).1:Int)->si=((Sx.aD h (a,b) r).2:Int)->Below w.heap.size w w'->Row w' w.heap.size 31 (fA h)-> ∃(k' a' b':Nat),k'<=n/\Value.int .i64 pi= .int .i64 (a':Int)/\Value.int .i64 si= .int .i64 (b':Int)/\Value.int .i64 ((k:Int)+1)= .int .i64 (k':Int)/\(rs.take k').foldl (Sx.aD h) (1,0)=(a',b')/\Below w.heap.size w w'/\Row w' w.heap.size 31 (fA h)):=
     zA7 (fun pi si w' h1 h2 hb hR=>⟨k+1,_,_,by omega,(by rw[h1];rfl),(by rw[h2];rfl),by go_num,MM.out,hb,hR⟩)
    clear MM hbe
    by_cases hb:Sx.right r=true
    ·have hcan:=Sx.pK.1 hb
     have hsl:=Oct.eG 46 r.name
     have hsf:(Oct.split 46 r.name).length<=254:=by have:=Sx.xR r.name;have:=hcan.good.few;omega
     obtain⟨u,hu⟩: ∃u:ByteArray,u=⟨r.name.toArray⟩:=⟨_,rfl⟩
     have hud:u.data.toList=r.name:=by rw[hu]
     have aP:Hid (∀W,Calls Tryz.prog 47 #[.string u,.int .u8 46] W (LI W.heap.size (Oct.split 46 r.name) W)):=zA7 (fun W=>by
      have:=(WL u 46 W (by have:=Oct.nA u;rw[hud]at this;omega)).mono fun _ _ h=>h.at_ (Oct.eG _ _)
      rw[hud]at this
      exact this)
     have qL:=EP 1 u
     rw[hud]at qL
     have VG:=zA7 qL
     have bH:=zA7 (fun W=>cAv h ⟨1,r.name,dA.BA⟩ ha rfl (by omega) (by show r.name.length<=_;omega) W)
     rw[<-dA.IW]at bH
     have wD:=zA7 (fun W=>cI h ⟨1,r.name,dA.BA⟩ ha rfl W)
     have HD:=zA7 (show(Tryz.prog.info? 31).map (·.size)=some (fA ⟨1,r.name,dA.BA⟩).size by rw[QA _ rfl];exact tA)
     have HDZ:=zA7 (show(fA dA.zero).size=(fA ⟨1,r.name,dA.BA⟩).size by rw[QA _ rfl];rfl)
     have GK:=zA7 (aB ⟨1,r.name,dA.BA⟩)
     have HK:=zA7 hcan.kind
     have FX:Hid (Sx.aD h (a,b) r=(if r.kind=2/\dA.under h ⟨1,r.name,dA.BA⟩=true then max (if r.kind=1/\(dA.under h ⟨1,r.name,dA.BA⟩=true\/h=⟨1,r.name,dA.BA⟩)then max a (Oct.split 46 r.name).length else a) ((Oct.split 46 r.name).length+1)
       else if r.kind=1/\(dA.under h ⟨1,r.name,dA.BA⟩=true\/h=⟨1,r.name,dA.BA⟩)then max a (Oct.split 46 r.name).length else a,
      if r.kind=3/\(dA.under h ⟨1,r.name,dA.BA⟩=true\/h=⟨1,r.name,dA.BA⟩)then max b ((Oct.split 46 r.name).length-1)else b)):=zA7 (by unfold Sx.aD;rw[if_pos hb])
     rw[FX.out]at wE
     obtain⟨un,hun⟩: ∃un,dA.under h ⟨1,r.name,dA.BA⟩=un:=⟨_,rfl⟩
     obtain⟨eq,heq⟩: ∃eq,decide (h=⟨1,r.name,dA.BA⟩)=eq:=⟨_,rfl⟩
     have heq2:(h=⟨1,r.name,dA.BA⟩)↔eq=true:=by rw[<-heq,decide_eq_true_eq]
     rw[heq]at wD
     rw[hun]at bH
     simp only[hun,heq2]at wE
     obtain⟨sc,hsc⟩: ∃sc,(Oct.split 46 r.name).length=sc:=⟨_,rfl⟩
     unfold LI at aP
     rw[hsc]at aP wE hsl hsf
     have Y6:(rA r)[1]? =some (.string u):=by rw[hu];rfl
     have hku:(rA r)[0]? =some (.int .i64 r.kind):=rfl
     rw[hb]at ZG
     have u0:=(U.cell 0).trans hku
     have u1:=(U.cell 1).trans Y6
     clear hun heq heq2 hsc hu hud hcan hb hrow Y6 hku qL FX
     generalize fA ⟨1,r.name,dA.BA⟩=D at*
     go_wp2_with (first
      |(refine iA 21 rfl ?_;refine IL rfl _ rfl g (off+k*2) rfl r h0 h1 ?_)
      |(refine wpList_store_row rfl 26 _ _ rfl wr.heap.size (rA r) rfl rfl 26 _ T HX.out OF.out ME.out ?_)
      |(refine iA 22 rfl ?_;refine qA rfl 26 _ rfl wr.heap.size rfl U Tryz.underlying26 rfl HX.out ?_))
     have BU:=U.lt
     generalize(wr.alloc (.cells (rA Ru.zero) 26)).setRow wr.heap.size (rA r)=w3 at*
     generalize wr.heap.size=g8 at*
     refine(ZG.out _).mono ?_
     rintro e w4 ⟨rfl,d4⟩
     have tG:=fE.trans (d4.mono fE.size)
     have hrow4:=hrow2.stays d4
     have v0:=(d4.cell (p:=⟨g8,0,none⟩) BU).trans u0
     have v1':=(d4.cell (p:=⟨g8,1,none⟩) BU).trans u1
     have CU:g8<w4.heap.size:=by have:=d4.size;omega
     clear T U C fE d4 hrow2 u0 u1 BU
     go_wp2_with fail
     refine(aP.out _).mono ?_
     rintro e w5 ⟨gs,cs,rfl,hown5,d5⟩
     have GN:=tG.trans (d5.mono tG.size)
     have aAf:=hrow4.stays d5
     have x0:=(d5.cell (p:=⟨g8,0,none⟩) CU).trans v0
     have x1:=(d5.cell (p:=⟨g8,1,none⟩) CU).trans v1'
     have aA4:g8<w5.heap.size:=by have:=d5.size;omega
     clear tG d5 hrow4 v0 v1' hown5 CU
     obtain⟨T,U,C,L⟩:=JA 31 (fA dA.zero) D (Below.refl w5.heap.size w5) (zB3 _)
     have uU:=GN.trans (C.mono GN.size)
     have MU:=aAf.stays C
     have y0:=(C.cell (p:=⟨g8,0,none⟩) aA4).trans x0
     have aA5:g8<((w5.alloc (.cells (fA dA.zero) 31)).setRow w5.heap.size D).heap.size:=by have:=C.size;omega
     go_wp2_with (first
      |(refine iA 31 rfl ?_;refine DF rfl 31 0 1 _ _ rfl _ _ rfl rfl D VG.out ?_)
      |(refine wpList_store_row rfl 31 _ _ rfl w5.heap.size D rfl rfl 31 _ T HD.out HDZ.out GK.out ?_)
      |(refine iA 32 rfl ?_;refine qA rfl 31 _ rfl w.heap.size rfl MU Tryz.underlying31 rfl HH.out ?_)
      |(refine iA 33 rfl ?_;refine qA rfl 31 _ rfl w5.heap.size rfl U Tryz.underlying31 rfl HD.out ?_))
     have iAW:=U.lt
     generalize(w5.alloc (.cells (fA dA.zero) 31)).setRow w5.heap.size D=w6 at*
     generalize w5.heap.size=g10 at*
     refine(bH.out _).mono ?_
     rintro e w7 ⟨rfl,d7⟩
     have SI:=uU.trans (d7.mono uU.size)
     have sF:=MU.stays d7
     have U7:=U.stays d7
     have q0:=(d7.cell (p:=⟨g8,0,none⟩) aA5).trans y0
     clear T U C L uU d7 MU y0 x0 x1 aAf GN iAW aA5 aA4 aP ZG bH VG
     have q:=wD.out
     rcases HK.out with hk|hk|hk
     ·rw[hk]at q0
      simp only[hk]at wE
      cases un
      ·cases eq
       ·go_wp2_with (first
         |(refine iA 41 rfl ?_;refine qA rfl 31 _ rfl w.heap.size rfl sF Tryz.underlying31 rfl HH.out ?_)
         |(refine iA 42 rfl ?_;refine qA rfl 31 _ rfl g10 rfl U7 Tryz.underlying31 rfl HD.out ?_))
        go_roundw
        case rel=>exact wE.out _ _ _ (by simp<;>omega) (by simp<;>omega) SI sF
        case measure=>simp[intOf];omega
       ·go_wp2_with (first
         |(refine iA 41 rfl ?_;refine qA rfl 31 _ rfl w.heap.size rfl sF Tryz.underlying31 rfl HH.out ?_)
         |(refine iA 42 rfl ?_;refine qA rfl 31 _ rfl g10 rfl U7 Tryz.underlying31 rfl HD.out ?_))
        go_roundw
        case rel=>exact wE.out _ _ _ (by simp<;>omega) (by simp<;>omega) SI sF
        case measure=>simp[intOf];omega
      ·go_wp2_with (first
        |(refine iA 41 rfl ?_;refine qA rfl 31 _ rfl w.heap.size rfl sF Tryz.underlying31 rfl HH.out ?_)
        |(refine iA 42 rfl ?_;refine qA rfl 31 _ rfl g10 rfl U7 Tryz.underlying31 rfl HD.out ?_))
       go_roundw
       case rel=>exact wE.out _ _ _ (by simp<;>omega) (by simp<;>omega) SI sF
       case measure=>simp[intOf];omega
     ·rw[hk]at q0
      simp only[hk]at wE
      cases un
      ·go_wp2_with fail
       go_roundw
       case rel=>exact wE.out _ _ _ (by simp<;>omega) (by simp<;>omega) SI sF
       case measure=>simp[intOf];omega
      ·go_wp2_with fail
       go_roundw
       case rel=>exact wE.out _ _ _ (by simp<;>omega) (by simp<;>omega) SI sF
       case measure=>simp[intOf];omega
     ·rw[hk]at q0
      simp only[hk]at wE
      cases un
      ·cases eq
       ·go_wp2_with (first
         |(refine iA 65 rfl ?_;refine qA rfl 31 _ rfl w.heap.size rfl sF Tryz.underlying31 rfl HH.out ?_)
         |(refine iA 66 rfl ?_;refine qA rfl 31 _ rfl g10 rfl U7 Tryz.underlying31 rfl HD.out ?_))
        go_roundw
        case rel=>exact wE.out _ _ _ (by simp<;>omega) (by simp<;>omega) SI sF
        case measure=>simp[intOf];omega
       ·go_wp2_with (first
         |(refine iA 65 rfl ?_;refine qA rfl 31 _ rfl w.heap.size rfl sF Tryz.underlying31 rfl HH.out ?_)
         |(refine iA 66 rfl ?_;refine qA rfl 31 _ rfl g10 rfl U7 Tryz.underlying31 rfl HD.out ?_))
        go_roundw
        case rel=>exact wE.out _ _ _ (by simp<;>omega) (by simp<;>omega) SI sF
        case measure=>simp[intOf];omega
      ·go_wp2_with (first
        |(refine iA 65 rfl ?_;refine qA rfl 31 _ rfl w.heap.size rfl sF Tryz.underlying31 rfl HH.out ?_)
        |(refine iA 66 rfl ?_;refine qA rfl 31 _ rfl g10 rfl U7 Tryz.underlying31 rfl HD.out ?_))
       go_roundw
       case rel=>exact wE.out _ _ _ (by simp<;>omega) (by simp<;>omega) SI sF
       case measure=>simp[intOf];omega
    ·have tB:Hid (Sx.aD h (a,b) r=(a,b)):=zA7 (by unfold Sx.aD;rw[if_neg hb])
     rw[show Sx.right r=false by simpa using hb]at ZG
     rw[tB.out]at wE
     clear hb tB hrow
     go_wp2_with (first
      |(refine iA 21 rfl ?_;refine IL rfl _ rfl g (off+k*2) rfl r h0 h1 ?_)
      |(refine wpList_store_row rfl 26 _ _ rfl wr.heap.size (rA r) rfl rfl 26 _ T HX.out OF.out ME.out ?_)
      |(refine iA 22 rfl ?_;refine qA rfl 26 _ rfl wr.heap.size rfl U Tryz.underlying26 rfl HX.out ?_))
     generalize(wr.alloc (.cells (rA Ru.zero) 26)).setRow wr.heap.size (rA r)=w3 at*
     refine(ZG.out _).mono ?_
     rintro e w4 ⟨rfl,d4⟩
     have tG:=fE.trans (d4.mono fE.size)
     have hrow4:=hrow2.stays d4
     clear T U C fE d4 hrow2
     go_wp2
     go_roundw
     case rel=>exact wE.out _ _ _ rfl rfl tG hrow4
     case measure=>simp[intOf];omega
   ·obtain rfl:k=n:=by omega
    have hfin:Sx.bG rs h=Sx.pick (a,b):=by
     rw[JS.out,<-DE,List.take_of_length_le (by rw[oC.out];exact zB3 _)]
    by_cases hb0:0<b
    ·have hb1:(0:Int)<(b:Int):=by omega
     have HF:=zA7 (HP.out b wr (by rw[hfin];unfold Sx.pick;rw[if_pos hb0]) hbe)
     clear hfin DE
     go_wp2
     exact HF.out
    ·have hb1: ¬(0:Int)<(b:Int):=by omega
     have HF:=zA7 (HP.out a wr (by rw[hfin];unfold Sx.pick;rw[if_neg hb0]) hbe)
     clear hfin DE
     go_wp2
     exact HF.out
end Go.Proofs.YtabgoobcliijeaaGreatDoor
namespace Go.Proofs.YtabgoobcliijeaaGreatDoor
open Go.RowKit
namespace dA
end dA
end Go.Proofs.YtabgoobcliijeaaGreatDoor
namespace Go.Proofs.YtabgoobcliijeaaGreatDoor
open Go.RowKit Go.Maps
theorem cAs(rs:List Ru.Rule)(v:Value)(h:dA.Host)(w:World)(ha:h.addr.length=16)(hs:h.name.length<=90000)(hv:ZD w v rs)(hn:rs.length<=1000)(hr: ∀r∈rs,r.name.length<=1000):
  Calls Tryz.prog 17 #[v,.agg (fA h)] w fun e w'=>e= .returned (.bool (Sx.isPublic (Sx.bG rs h) h))/\Below w.heap.size w w':=by
 have HH:=zA7 (show(Tryz.prog.info? 31).map (·.size)=some (fA h).size by rw[QA h ha];exact tA)
 have H1:=zA7 (fun W=>nK h ha (by omega) W)
 unfold iD at H1
 have H2:=zA7 (fun W hV=>mAV rs v h W ha hs hV hn hr)
 unfold pP at H2
 have R0:=Row.new w 31 (fA h)
 have B0:=(Below.refl w.heap.size w).alloc (zB3 _) (.cells (fA h) 31)
 unfold Sx.isPublic
 generalize Sx.bG rs h=sn at*
 generalize dA.labels h=ls at*
 obtain⟨n,hnl⟩: ∃n,ls.length=n:=⟨_,rfl⟩
 rw[hnl]at H1⊢
 generalize fA h=X at*
 by_cases hz:0<n
 ·have hz1:(0:Int)<(n:Int):=by omega
  have HE:Hid (((sn:Int)==(n:Int))=decide (n=sn)):=zA7 (by rw[Bool.eq_iff_iff];simp;omega)
  rw[zA9 hz,Bool.true_and,<-HE.out]
  clear hz hnl
  go_enter Tryz.func17,Tryz.ntmps17
  go_wp2_with (refine iA 6 rfl ?_;refine qA rfl 31 _ rfl w.heap.size rfl R0 Tryz.underlying31 rfl HH.out ?_)
  generalize w.alloc (.cells X 31)=w0 at*
  refine(H1.out _).mono ?_
  rintro e v1 ⟨vl,rfl,hown,d1⟩
  have B1:=B0.trans (d1.mono B0.size)
  have R1:=R0.stays d1
  obtain⟨A,c,rfl⟩: ∃A c,vl= .slice A n c:=by
   rcases hown.2 with⟨rfl,h0⟩|⟨g,cap,cur,rfl,_⟩
   ·exact⟨none,0,by rw[h0]⟩
   ·exact⟨_,_,rfl⟩
  have hV1:=hv.stays B1
  clear hown d1 R0 B0
  go_wp2_with (refine iA 13 rfl ?_;refine qA rfl 31 _ rfl w.heap.size rfl R1 Tryz.underlying31 rfl HH.out ?_)
  refine(H2.out _ hV1).mono ?_
  rintro e v2 ⟨rfl,d2⟩
  have B2:=B1.trans (d2.mono B1.size)
  go_wp2
  go_ret
  exact⟨rfl,B2⟩
 ·have hz1: ¬(0:Int)<(n:Int):=by omega
  rw[zA8 hz,Bool.false_and]
  clear hz hnl
  go_enter Tryz.func17,Tryz.ntmps17
  go_wp2_with (refine iA 6 rfl ?_;refine qA rfl 31 _ rfl w.heap.size rfl R0 Tryz.underlying31 rfl HH.out ?_)
  generalize w.alloc (.cells X 31)=w0 at*
  refine(H1.out _).mono ?_
  rintro e v1 ⟨vl,rfl,hown,d1⟩
  have B1:=B0.trans (d1.mono B0.size)
  obtain⟨A,c,rfl⟩: ∃A c,vl= .slice A n c:=by
   rcases hown.2 with⟨rfl,h0⟩|⟨g,cap,cur,rfl,_⟩
   ·exact⟨none,0,by rw[h0]⟩
   ·exact⟨_,_,rfl⟩
  clear hown d1 R0 B0
  go_wp2
  go_ret
  exact⟨rfl,B1⟩
end Go.Proofs.YtabgoobcliijeaaGreatDoor
