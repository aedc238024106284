/- What the laws of layer 10 begin with: how long the parts are of what is read; texts in a row; a URL and a header laid in two variables; the chapter's examples. -/
import Derived.Test.YtdaaoopkkhfbhaaGreatDoorY17
import Derived.Test.YtdaaoopkkhfbhaaGreatDoorY22
set_option maxHeartbeats 8000000
set_option maxRecDepth 100000
namespace Go.Proofs.YtdaaoopkkhfbhaaGreatDoor
open Go.RowKit Go.Maps
namespace Ur
end Ur
namespace Hd
end Hd
theorem Ad.RZ (rs:List Ru.Rule)(u:Ur.URL)(r:Hd.Raw)(now:Int)(ha:u.host.addr.length=16):(Ad.JE rs u r now).2.host.addr.length=16:=by
 unfold Ad.JE
 split
 ·rfl
 ·split
  ·rfl
  ·unfold Ad.take
   split
   ·rfl
   ·split
    ·rfl
    ·split
     ·rfl
     ·split
      ·rfl
      ·split
       ·rfl
       ·exact Ad.X5 rs u.host _ ha
theorem jA7 {h:Hd.Head}(hh:Hd.Good h\/h=Hd.zero):tT (Hd.Raw.of h):=by
 rcases hh with hg|rfl
 ·have h1:=hg.few
  have h2:=hg.tH
  have h3:=hg.YH
  obtain⟨e1,e2,_⟩:=Hd.yP hg.exp
  have h4:h.age.getD 0<=34560000:=by
   cases ha:h.age with
   |none=>exact Nat.zero_le _
   |some a=>exact hg.age a ha
  exact⟨by show h.name.length<=_;omega,by show h.value.length<=_;omega,by show h.name.length+h.value.length<=_;omega,by show h.domain.length<=_;omega,by show h.path.length<=_;omega,⟨e1,e2⟩,by show _<=((h.age.getD 0:Nat):Int)/\((h.age.getD 0:Nat):Int)<=_;omega⟩
 ·exact⟨by decide,by decide,by decide,by decide,by decide,by decide,by decide⟩
theorem jA8 {r:Hd.Raw}(h:tT r):eK r:=⟨Nat.le_trans h.name (by decide),Nat.le_trans h.value (by decide),Nat.le_trans h.domain (by decide),Nat.le_trans h.path (by decide),h.exp,h.age⟩
theorem ZX(w:World):XJ w (.slice none 0 0) []:=⟨none,0,rfl,fun h=>absurd h (by simp)⟩
namespace Ad
end Ad
end Go.Proofs.YtdaaoopkkhfbhaaGreatDoor
namespace Go.Proofs.YtdaaoopkkhfbhaaGreatDoor
open Go.RowKit Go.Maps
namespace Jr
def taken(j:MA)(u:Ur.URL)(t:List UInt8):Int×Ma.iA:=
 if Ur.right u=false then(41,Ma.xA)else if(Hd.parse t).1≠0 then((Hd.parse t).1,Ma.xA)else Ad.take j.rules u (Hd.parse t).2 j.now
attribute [local irreducible] store
theorem kAr(j:MA)(u:Ur.URL)(t:List UInt8):set j u t=if(taken j u t).1≠0 then(j,(taken j u t).1)else if cP j u (taken j u t).2=true then(j,121)else(⟨j.rules,store j (taken j u t).2,j.now⟩,0):=by
 unfold set taken
 split
 ·rfl
 split
 ·rfl
 ·rfl
theorem lA4 {j:MA}{u:Ur.URL}{t:List UInt8}(h0:(taken j u t).1=0)(ha:u.host.addr.length=16)(hp:u.path.length<=9000):ZB (taken j u t).2:=by
 unfold taken at h0⊢
 split at h0
 ·cases h0
 rename_i k1
 split at h0
 ·rename_i k2;exact absurd h0 k2
 rename_i k2
 rw[if_neg k1,if_neg k2]
 have hr:Ur.right u=true:=by simpa using k1
 have hz:(Hd.parse t).1=0:=by simpa using k2
 have hg:Hd.Good (Hd.parse t).2:=Hd.mJ (s:=t) (by rw[<-hz])
 have hl:=Ad.RZ j.rules u (Hd.Raw.of (Hd.parse t).2) j.now ha
 rw[Ad.LN hr hg]at hl
 exact hAn (rs:=j.rules) (u:=u) (h:=(Hd.parse t).2) (now:=j.now) (by rw[<-h0]) hg hr hl hp
end Jr
theorem kAY(u:Ur.URL)(ha:u.host.addr.length=16)(hn:u.host.name.length<=9000)(hp:u.path.length<=9000)(t:ByteArray)(ht:t.size<=maxLen){B jb tb sb mb:Nat}{j:Jr.MA}(w:World)(hw:mB w)(h:pB w B jb tb sb mb j):
  Calls Tryz.prog 29 #[.pointer (some ⟨jb,0,none⟩),.agg (nA u),.string t] w (DF (Jr.taken j u t.data.toList) w):=by
 have z1:=XG
 have z2:=cO
 have IU:=zA7 (show(Tryz.prog.info? 34).map (·.size)=some (nA u).size by rw[VG u ha];exact DB)
 have IC:=zA7 (show(Tryz.prog.info? 64).map (·.size)=some (dA Ma.xA).size from uB)
 have OC:=zA7 (FD Ma.xA)
 have pS:=zA7 bA5
 have HR:=zA7 (fun W hW=>V3 u ha (by omega) W hW)
 have R0:=(Row.new w 34 (nA u)).alloc (.cells (dA Ma.xA) 64)
 have hN:(w.alloc (.cells (nA u) 34)).heap.size=w.heap.size+1:=by simp
 have S0:=Row.new (w.alloc (.cells (nA u) 34)) 64 (dA Ma.xA)
 rw[hN]at S0
 have C0:=((Below.refl w.heap.size w).alloc (zB3 _) (.cells (nA u) 34)).alloc (by omega) (.cells (dA Ma.xA) 64)
 have J0:=h.toZA.stays C0
 have HS:=zA7 (hw.below C0)
 have lw:w.heap.size<=w.heap.size+1:=by omega
 clear hN
 cases hr:Ur.right u with
 |false=>
  have e1:Jr.taken j u t.data.toList=(41,Ma.xA):=by unfold Jr.taken;rw[if_pos hr]
  rw[e1]
  rw[hr]at HR
  unfold DF
  dsimp only
  clear e1 h J0
  generalize nA u=U at*
  generalize dA Ma.xA=ZC at*
  go_enter Tryz.func29,Tryz.ntmps29
  go_wp2_with (refine pA rfl 34 _ rfl w.heap.size rfl R0 Tryz.underlying34 rfl IU.out ?_)
  generalize(w.alloc (.cells U 34)).alloc (.cells ZC 64)=x0 at*
  refine(HR.out _ HS.out.MC.std).mono ?_
  rintro e x1 ⟨rfl,d1⟩
  have S1:=S0.stays d1
  have C1:=C0.trans (d1.mono C0.size)
  have S2:=S1.whole ZC
  have C2:=below_setRow (g:=w.heap.size+1) C1 lw ZC
  clear R0 S0 C0 C1 d1
  go_wp2_with (first
   |(refine jA 13 rfl ?_;refine CI rfl 64 _ rfl _ (by rfl) _ pS.out ?_)
   |(refine wpList_store_row rfl 64 _ _ rfl (w.heap.size+1) ZC rfl rfl 64 _ S1 IC.out rfl OC.out ?_))
  exact bodyPost_ret (v:= .tuple #[.agg ZC,.int .i64 41]) (yA rfl _ _ (w.heap.size+1) _ _ _ rfl _ rfl S2 Tryz.underlying64 rfl IC.out) rfl ⟨rfl,C2⟩
 |true=>
  rw[hr]at HR
  have nE:=zA7 (fun W hW=>aQ t W hW ht)
  unfold ZJ at nE
  obtain⟨⟨n,g⟩,hpg⟩: ∃o,Hd.parse t.data.toList=o:=⟨_,rfl⟩
  rw[hpg]at nE
  have HH:=zA7 (show(Tryz.prog.info? 114).map (·.size)=some (headA g).size from CB)
  have HZ:=zA7 (show(headA Hd.zero).size=(headA g).size from rfl)
  have HO:=zA7 (MF g)
  by_cases hn0:n=0
  ·subst hn0
   have hg:=Hd.mJ hpg
   have e1:Jr.taken j u t.data.toList=Ad.take j.rules u g j.now:=by unfold Jr.taken;rw[if_neg (by rw[hr];simp),hpg,if_neg (by simp)]
   rw[e1]
   have HAD:Hid (∀W,mB W->ZA W B jb tb sb mb j->Calls Tryz.prog 50 #[.pointer (some ⟨tb,0,none⟩),.agg (nA u),.agg (headA g),.int .i64 j.now] W (DF (Ad.take j.rules u g j.now) W)):=zA7 (fun W hW k=>by
    obtain⟨n₀,tm,hT,_⟩:=k.table
    have:=aAu j.rules u ha hn hp (Hd.Raw.of g) (jA8 (jA7 (.inl hg))) j.now n₀ tb tm W hW hT
    rw[Ad.LN hr hg]at this
    exact this)
   have hl:=Ad.RZ j.rules u (Hd.Raw.of g) j.now ha
   rw[Ad.LN hr hg]at hl
   unfold DF at HAD⊢
   obtain⟨⟨m,c⟩,hmc⟩: ∃o,Ad.take j.rules u g j.now=o:=⟨_,rfl⟩
   rw[hmc]at HAD hl⊢
   dsimp only at HAD hl⊢
   have IY:=zA7 (show(Tryz.prog.info? 64).map (·.size)=some (dA c).size by rw[TA c hl];exact uB)
   have SY:=zA7 (show(dA Ma.xA).size=(dA c).size by rw[TA c hl];rfl)
   have OY:=zA7 (FD c)
   clear e1 h hmc hl hg hpg hr
   generalize nA u=U at*
   generalize dA Ma.xA=ZC at*
   generalize headA g=G at*
   generalize dA c=Y at*
   go_enter Tryz.func29,Tryz.ntmps29
   go_wp2_with (refine pA rfl 34 _ rfl w.heap.size rfl R0 Tryz.underlying34 rfl IU.out ?_)
   generalize(w.alloc (.cells U 34)).alloc (.cells ZC 64)=x0 at*
   refine(HR.out _ HS.out.MC.std).mono ?_
   rintro e x1 ⟨rfl,d1⟩
   have R1:=R0.stays d1
   have S1:=S0.stays d1
   have J1:=J0.stays d1
   have C1:=C0.trans (d1.mono C0.size)
   have tB:=zA7 (HS.out.below d1)
   clear R0 S0 J0 C0 HS d1 HR
   go_wp2_with fail
   refine(nE.out _ tB.out).mono ?_
   rintro e x2 ⟨rfl,d2⟩
   have R2:=R1.stays d2
   have S2:=S1.stays d2
   have J2:=J1.stays d2
   have C2:=C1.trans (d2.mono C1.size)
   have HS2:=zA7 (tB.out.below d2)
   obtain⟨Z3,G3,D3,L3⟩:=PA 114 (headA Hd.zero) G (Below.refl x2.heap.size x2) (zB3 _)
   have R3:=L3 _ _ _ R2
   have S3:=L3 _ _ _ S2
   have J3:=J2.stays D3
   have C3:=C2.trans (D3.mono C2.size)
   have RE:=zA7 (HS2.out.below D3)
   have le3:=R2.lt
   have le4:=S2.lt
   clear R1 S1 J1 C1 tB d2 nE R2 S2 J2 C2 HS2 D3 L3
   go_wp2_with (refine wpList_store_row rfl 114 _ _ rfl x2.heap.size G rfl rfl 114 _ Z3 HH.out HZ.out HO.out ?_)
   clear Z3
   generalize(x2.alloc (.cells (headA Hd.zero) 114)).setRow x2.heap.size G=x3 at*
   generalize x2.heap.size=g2 at*
   refine dE (C:=(fun W=>Below x3.heap.size x3 W)) 13 (by kernel_rfl) (by kernel_rfl) (Below.refl _ _).drew ?_
   refine kA ?_
   refine kA ?_
   refine kA ?_
   refine kA ?_ (v:= .pointer (some ⟨tb,0,none⟩)) (hv:=fun wq hC=>by have hcell:=(J3.stays hC).cell1;go_simp;try with_reducible rfl)
   refine WB (GB (by rfl) _ _ rfl _ rfl (fun _ hC=>R3.stays hC) Tryz.underlying34 rfl IU.out) ?_
   refine WB (GB (by rfl) _ _ rfl _ rfl (fun _ hC=>G3.stays hC) Tryz.underlying114 rfl HH.out) ?_
   refine kA ?_
   refine kA ?_
   refine kA ?_
   refine rC (.int .i64 j.now) (fun wq hC=>by unfold Oper.quietAt;go_simp;exact(fJ (now:=j.now) wq (J3.stays hC).cell0).mono (fun e w2 ⟨h1,h2⟩=>⟨h1,by rw[<-h2];exact hC⟩)) ?_
   refine rC (.tuple #[.agg Y,.int .i64 m]) (fun wq hC=>by unfold Oper.quietAt;go_simp;exact(HAD.out wq (RE.out.below hC) (J3.stays hC)).mono (fun e w2 ⟨h1,h2⟩=>⟨h1,hC.trans (h2.mono hC.size)⟩)) ?_
   refine kA ?_
   refine kA ?_
   refine wpQuiet_nil ?_
   intro x4 iC
   have S4:=S3.stays iC
   have C4:=C3.trans (iC.mono C3.size)
   have S6:=S4.whole Y
   have C6:=below_setRow (g:=w.heap.size+1) C4 lw Y
   clear R3 S3 J3 C3 RE iC HAD G3 C4
   simp only[List.drop_succ_cons,List.drop_zero]
   go_wp2_with (refine wpList_store_row rfl 64 _ _ rfl (w.heap.size+1) Y rfl rfl 64 _ S4 IY.out SY.out OY.out ?_)
   exact bodyPost_ret (v:= .tuple #[.agg Y,.int .i64 m]) (yA rfl _ _ (w.heap.size+1) _ _ _ rfl _ rfl S6 Tryz.underlying64 rfl IY.out) rfl ⟨rfl,C6⟩
  ·have e1:Jr.taken j u t.data.toList=(n,Ma.xA):=by unfold Jr.taken;rw[if_neg (by rw[hr];simp),hpg,if_pos hn0]
   rw[e1]
   unfold DF
   dsimp only
   have hnb:(n !=0)=true:=by rw[bne_iff_ne];exact hn0
   have hne:(n==0)=false:=by rw[beq_eq_false_iff_ne];exact hn0
   clear e1 h J0 hpg hr hn0
   generalize nA u=U at*
   generalize dA Ma.xA=ZC at*
   generalize headA g=G at*
   go_enter Tryz.func29,Tryz.ntmps29
   go_wp2_with (refine pA rfl 34 _ rfl w.heap.size rfl R0 Tryz.underlying34 rfl IU.out ?_)
   generalize(w.alloc (.cells U 34)).alloc (.cells ZC 64)=x0 at*
   refine(HR.out _ HS.out.MC.std).mono ?_
   rintro e x1 ⟨rfl,d1⟩
   have S1:=S0.stays d1
   have C1:=C0.trans (d1.mono C0.size)
   have tB:=zA7 (HS.out.below d1)
   clear R0 S0 C0 HS d1 HR
   go_wp2_with fail
   refine(nE.out _ tB.out).mono ?_
   rintro e x2 ⟨rfl,d2⟩
   have S2:=S1.stays d2
   have C2:=C1.trans (d2.mono C1.size)
   obtain⟨Z3,_,D3,L3⟩:=PA 114 (headA Hd.zero) G (Below.refl x2.heap.size x2) (zB3 _)
   have S3:=L3 _ _ _ S2
   have C3:=C2.trans (D3.mono C2.size)
   have S4:=S3.whole ZC
   have C4:=below_setRow (g:=w.heap.size+1) C3 lw ZC
   clear S1 C1 tB d2 nE S2 C2 D3 L3
   go_wp2_with (first
    |(refine YC 114 (.tmp 8) (.tmp 17) rfl ?_;refine wpList_store_row rfl 114 _ _ rfl x2.heap.size G rfl rfl 114 _ Z3 HH.out HZ.out HO.out ?_)
    |(refine jA 21 rfl ?_;refine CI rfl 64 _ rfl _ (by rfl) _ pS.out ?_)
    |(refine wpList_store_row rfl 64 _ _ rfl (w.heap.size+1) ZC rfl rfl 64 _ S3 IC.out rfl OC.out ?_))
   exact bodyPost_ret (v:= .tuple #[.agg ZC,.int .i64 n]) (yA rfl _ _ (w.heap.size+1) _ _ _ rfl _ rfl S4 Tryz.underlying64 rfl IC.out) rfl ⟨rfl,C4⟩
theorem oR(u:Ur.URL)(ha:u.host.addr.length=16)(hn:u.host.name.length<=9000)(hp:u.path.length<=9000)(t:ByteArray)(ht:t.size<=maxLen){B jb tb sb mb:Nat}{j:Jr.MA}(w:World)(hw:mB w)(h:pB w B jb tb sb mb j)(hlast:j.s.last<1000000)(hlen:j.s.l.length<3000):
  Calls Tryz.prog 12 #[.pointer (some ⟨jb,0,none⟩),.agg (nA u),.string t] w fun e w'=>e= .returned (.int .i64 (Jr.set j u t.data.toList).2)/\pB w' B jb tb sb mb (Jr.set j u t.data.toList).1/\AA jb sb mb w w':=by
 have z1:=XG
 have IU:=zA7 (show(Tryz.prog.info? 34).map (·.size)=some (nA u).size by rw[VG u ha];exact DB)
 have SE:=zA7 (fun W hW k=>kAY u ha hn hp t ht W hW (k:pB W B jb tb sb mb j))
 have hst:=Jr.kAr j u t.data.toList
 have hfs:=(Jr.dAh h.fine u t.data.toList).1
 have OJ:=zA7 (fun h0=>Jr.lA4 (j:=j) (u:=u) (t:=t.data.toList) h0 ha hp)
 have R0:=Row.new w 34 (nA u)
 have C0:=(Below.refl w.heap.size w).alloc (zB3 _) (.cells (nA u) 34)
 have J0:=h.stays C0
 have HS:=zA7 (hw.below C0)
 have hl:(Jr.taken j u t.data.toList).2.host.addr.length=16:=by
  by_cases h0:(Jr.taken j u t.data.toList).1=0
  ·exact(OJ.out h0).addr
  ·unfold Jr.taken at h0⊢
   split
   ·rfl
   ·split
    ·rfl
    ·rename_i k1 k2
     rw[if_neg k1,if_neg k2]at h0
     rw[Ad.lA1 h0];rfl
 have AB:(nA u)[0]? =some (.bool u.secure):=rfl
 unfold DF at SE
 rw[hst]at hfs⊢
 clear hst
 unfold Jr.cP at hfs⊢
 generalize Jr.taken j u t.data.toList=tk at*
 obtain⟨n,c⟩:=tk
 dsimp only at hfs hl SE OJ⊢
 have IY:=zA7 (show(Tryz.prog.info? 64).map (·.size)=some (dA c).size by rw[TA c hl];exact uB)
 have SY:=zA7 (show(dA Ma.xA).size=(dA c).size by rw[TA c hl];rfl)
 have OY:=zA7 (FD c)
 by_cases hn0:n=0
 ·subst hn0
  rw[if_neg (by simp)]at hfs⊢
  have hc:=OJ.out rfl
  have zO:=zA7 (fun W hW k=>iA0 c hc W hW (k:pB W B jb tb sb mb j))
  have vI:=zA7 (fun W hW k=>iAN c hc W hW (k:pB W B jb tb sb mb j) hlast hlen)
  have lE:=zA7 (h.TH.store (j:=j) hc)
  clear OJ hc h hl hw hlast hlen
  generalize(Sh.all j.s).any (fun o=>Jr.vD o c)=ov at*
  generalize Jr.store j c=st at*
  generalize nA u=U at*
  generalize u.secure=us at*
  generalize dA c=Y at*
  cases us with
  |true=>
   rw[if_neg (by simp)]at hfs⊢
   have oO:=zA7 hfs
   clear hfs
   go_enter Tryz.func12,Tryz.ntmps12
   go_wp2_with (refine pA rfl 34 _ rfl w.heap.size rfl R0 Tryz.underlying34 rfl IU.out ?_)
   generalize w.alloc (.cells U 34)=x0 at*
   refine(SE.out _ HS.out J0).mono ?_
   rintro e x1 ⟨rfl,d1⟩
   obtain⟨Z2,Y2,D2,L2⟩:=PA 64 (dA Ma.xA) Y (Below.refl x1.heap.size x1) (zB3 _)
   have R2:=L2 _ _ _ (R0.stays d1)
   have J2:=(J0.stays d1).stays D2
   have C1:=C0.trans (d1.mono C0.size)
   have C2:=C1.trans (D2.mono C1.size)
   have HS2:=zA7 ((HS.out.below d1).below D2)
   have u0:=(R2.cell 0).trans AB
   clear R0 J0 C0 HS C1 D2 L2 d1 SE AB R2
   go_wp2_with (first
    |(refine YC 64 (.tmp 7) (.tmp 14) rfl ?_;refine wpList_store_row rfl 64 _ _ rfl x1.heap.size Y rfl rfl 64 _ Z2 IY.out SY.out OY.out ?_;clear Z2;generalize(x1.alloc (.cells (dA Ma.xA) 64)).setRow x1.heap.size Y=x2 at*)
    |(refine jA 30 rfl ?_;refine pA rfl 64 _ rfl x1.heap.size rfl Y2 Tryz.underlying64 rfl IY.out ?_))
   refine(vI.out _ HS2.out.MC.std J2).mono ?_
   rintro e x5 ⟨rfl,J5,T5⟩
   have T6:=(AA.of (jb:=jb) (sb:=sb) (mb:=mb) C2 (zB3 _)).trans T5
   go_wp2
   go_ret
   exact⟨rfl,⟨J5,oO.out,lE.out⟩,T6⟩
  |false=>
   cases ov with
   |true=>
    rw[if_pos (by rfl)]at hfs⊢
    clear hfs
    go_enter Tryz.func12,Tryz.ntmps12
    go_wp2_with (refine pA rfl 34 _ rfl w.heap.size rfl R0 Tryz.underlying34 rfl IU.out ?_)
    generalize w.alloc (.cells U 34)=x0 at*
    refine(SE.out _ HS.out J0).mono ?_
    rintro e x1 ⟨rfl,d1⟩
    obtain⟨Z2,Y2,D2,L2⟩:=PA 64 (dA Ma.xA) Y (Below.refl x1.heap.size x1) (zB3 _)
    have R2:=L2 _ _ _ (R0.stays d1)
    have J2:=(J0.stays d1).stays D2
    have C1:=C0.trans (d1.mono C0.size)
    have C2:=C1.trans (D2.mono C1.size)
    have HS2:=zA7 ((HS.out.below d1).below D2)
    have u0:=(R2.cell 0).trans AB
    clear R0 J0 C0 HS C1 D2 L2 d1 SE AB R2
    go_wp2_with (first
     |(refine YC 64 (.tmp 7) (.tmp 14) rfl ?_;refine wpList_store_row rfl 64 _ _ rfl x1.heap.size Y rfl rfl 64 _ Z2 IY.out SY.out OY.out ?_;clear Z2;generalize(x1.alloc (.cells (dA Ma.xA) 64)).setRow x1.heap.size Y=x2 at*)
     |(refine jA 26 rfl ?_;refine pA rfl 64 _ rfl x1.heap.size rfl Y2 Tryz.underlying64 rfl IY.out ?_))
    refine(zO.out _ HS2.out.MC.std J2).mono ?_
    rintro e x3 ⟨rfl,d3⟩
    have J3:=J2.stays d3
    have C3:=C2.trans (d3.mono C2.size)
    go_wp2
    go_ret
    exact⟨rfl,J3,AA.of C3 (zB3 _)⟩
   |false=>
    rw[if_neg (by simp)]at hfs⊢
    have oO:=zA7 hfs
    clear hfs
    go_enter Tryz.func12,Tryz.ntmps12
    go_wp2_with (refine pA rfl 34 _ rfl w.heap.size rfl R0 Tryz.underlying34 rfl IU.out ?_)
    generalize w.alloc (.cells U 34)=x0 at*
    refine(SE.out _ HS.out J0).mono ?_
    rintro e x1 ⟨rfl,d1⟩
    obtain⟨Z2,Y2,D2,L2⟩:=PA 64 (dA Ma.xA) Y (Below.refl x1.heap.size x1) (zB3 _)
    have R2:=L2 _ _ _ (R0.stays d1)
    have J2:=(J0.stays d1).stays D2
    have C1:=C0.trans (d1.mono C0.size)
    have C2:=C1.trans (D2.mono C1.size)
    have HS2:=zA7 ((HS.out.below d1).below D2)
    have u0:=(R2.cell 0).trans AB
    clear R0 J0 C0 HS C1 D2 L2 d1 SE AB R2
    go_wp2_with (first
     |(refine YC 64 (.tmp 7) (.tmp 14) rfl ?_;refine wpList_store_row rfl 64 _ _ rfl x1.heap.size Y rfl rfl 64 _ Z2 IY.out SY.out OY.out ?_;clear Z2;generalize(x1.alloc (.cells (dA Ma.xA) 64)).setRow x1.heap.size Y=x2 at*)
     |(refine jA 26 rfl ?_;refine pA rfl 64 _ rfl x1.heap.size rfl Y2 Tryz.underlying64 rfl IY.out ?_))
    refine(zO.out _ HS2.out.MC.std J2).mono ?_
    rintro e x3 ⟨rfl,d3⟩
    have J3:=J2.stays d3
    have Y3:=Y2.stays d3
    have C3:=C2.trans (d3.mono C2.size)
    have RE:=zA7 (HS2.out.below d3)
    clear J2 Y2 C2 HS2 d3 u0 zO
    go_wp2_with (refine jA 30 rfl ?_;refine pA rfl 64 _ rfl x1.heap.size rfl Y3 Tryz.underlying64 rfl IY.out ?_)
    refine(vI.out _ RE.out.MC.std J3).mono ?_
    rintro e x5 ⟨rfl,J5,T5⟩
    have T6:=(AA.of (jb:=jb) (sb:=sb) (mb:=mb) C3 (zB3 _)).trans T5
    go_wp2
    go_ret
    exact⟨rfl,⟨J5,oO.out,lE.out⟩,T6⟩
 ·rw[if_pos hn0]
  have hnb:(n !=0)=true:=by rw[bne_iff_ne];exact hn0
  have hne:(n==0)=false:=by rw[beq_eq_false_iff_ne];exact hn0
  clear hfs OJ hl AB hn0 h hw
  generalize nA u=U at*
  generalize dA c=Y at*
  go_enter Tryz.func12,Tryz.ntmps12
  go_wp2_with (refine pA rfl 34 _ rfl w.heap.size rfl R0 Tryz.underlying34 rfl IU.out ?_)
  generalize w.alloc (.cells U 34)=x0 at*
  refine(SE.out _ HS.out J0).mono ?_
  rintro e x1 ⟨rfl,d1⟩
  obtain⟨Z2,_,D2,_⟩:=PA 64 (dA Ma.xA) Y (Below.refl x1.heap.size x1) (zB3 _)
  have J2:=(J0.stays d1).stays D2
  have C1:=C0.trans (d1.mono C0.size)
  have C2:=C1.trans (D2.mono C1.size)
  clear R0 J0 C0 HS C1 D2 d1 SE
  go_wp2_with (refine wpList_store_row rfl 64 _ _ rfl x1.heap.size Y rfl rfl 64 _ Z2 IY.out SY.out OY.out ?_)
  go_ret
  exact⟨rfl,J2,AA.of C2 (zB3 _)⟩
end Go.Proofs.YtdaaoopkkhfbhaaGreatDoor
namespace Go.Proofs.YtdaaoopkkhfbhaaGreatDoor
open Go.RowKit
theorem zY(l:List UInt8):(⟨l.toArray⟩:ByteArray).size=l.length:=List.size_toArray ..
end Go.Proofs.YtdaaoopkkhfbhaaGreatDoor
namespace Go.Proofs.YtdaaoopkkhfbhaaGreatDoor
open Go.RowKit Go.Shelf Go.Sort Go.Lib
def JC(w w':World):Prop:= ∃q os',w'=grow (w.drewN q) os'
theorem JC.refl (w:World):JC w w:=⟨0,#[],by unfold grow World.drewN;simp⟩
theorem JC.trans {a b c:World}(h:JC a b)(k:JC b c):JC a c:=by
 obtain⟨q,os,rfl⟩:=h
 obtain⟨p,ps,rfl⟩:=k
 exact⟨q+p,os++ps,by unfold grow World.drewN;simp[Array.append_assoc,Nat.add_assoc]⟩
theorem JC.alloc {a b:World}(h:JC a b)(o:Obj):JC a (b.alloc o):=h.trans ⟨0,#[o],by rw[alloc_eq_grow];rfl⟩
theorem JC.drewN {a b:World}(h:JC a b)(n:Nat):JC a (b.drewN n):=h.trans ⟨n,#[],by unfold grow World.drewN;simp⟩
theorem JC.below {w w':World}(h:JC w w'):Below w.heap.size w w':=by
 obtain⟨q,os,rfl⟩:=h
 refine⟨rfl,rfl,rfl,?_,fun k hk=>?_⟩
 ·show w.heap.size<=(w.heap++os).size
  rw[Array.size_append];omega
 ·show(w.heap++os)[k]? =w.heap[k]?
  rw[Array.getElem?_append_left hk]
theorem pX(c d:Ma.iA)(ha:c.host.addr.length=16)(hd:d.host.addr.length=16)(w:World):
  Calls Tryz.prog 132 #[.agg (dA c),.agg (dA d)] w fun e w'=>e= .returned (.bool (Ma.goes c d))/\JC w w':=by
 have k0:=FI c ha
 have k1:=GF c ha
 have l0:=FI d hd
 have l1:=GF d hd
 unfold gA at k0 l0
 have R0:=Row.new w 64 (dA c)
 have B0:=(JC.refl w).alloc (.cells (dA c) 64)
 have hN:(w.alloc (.cells (dA c) 64)).heap.size=w.heap.size+1:=by simp
 have S0:=Row.new (w.alloc (.cells (dA c) 64)) 64 (dA d)
 rw[hN]at S0
 have R1:=R0.alloc (.cells (dA d) 64)
 have C1:=B0.alloc (.cells (dA d) 64)
 have c0:=(R1.cell 21).trans k0
 have c1:=(R1.cell 28).trans k1
 have d0:=(S0.cell 21).trans l0
 have d1:=(S0.cell 28).trans l1
 have HG:Hid (Ma.goes c d=(decide (((⟨d.path.toArray⟩:ByteArray).size:Int)<((⟨c.path.toArray⟩:ByteArray).size:Int))||(decide (((⟨c.path.toArray⟩:ByteArray).size:Int)=((⟨d.path.toArray⟩:ByteArray).size:Int))&&decide (c.seq<d.seq)))):=zA7 (by
  unfold Ma.goes
  rw[zY,zY]
  congr 1
  ·exact decide_eq_decide.2 (by omega)
  ·congr 1
   exact decide_eq_decide.2 (by omega))
 generalize Ma.goes c d=g at*
 generalize c.seq=sc at*
 generalize d.seq=sd at*
 generalize(⟨c.path.toArray⟩:ByteArray)=p at*
 generalize(⟨d.path.toArray⟩:ByteArray)=q at*
 clear R0 B0 hN ha hd k0 k1 l0 l1 R1 S0
 generalize dA c=U at*
 generalize dA d=V at*
 by_cases h:(p.size:Int)=(q.size:Int)
 ·have e1:((p.size:Int) !=(q.size:Int))=false:=by rw[h];simp
  have HG2:Hid (g=decide (sc<sd)):=zA7 (by rw[HG.out,zA8 (by omega),zA9 h];rfl)
  clear h HG
  go_enter Tryz.func132,Tryz.ntmps132
  go_wp2
  go_ret
  exact⟨tA HG2.out.symm,(by first|exact C1|exact C1.drew|exact C1.drewN _)⟩
 ·have e1:((p.size:Int) !=(q.size:Int))=true:=by rw[bne_iff_ne];exact h
  have HG2:Hid (g=decide ((q.size:Int)<(p.size:Int))):=zA7 (by rw[HG.out,zA8 h,Bool.false_and,Bool.or_false])
  clear h HG
  go_enter Tryz.func132,Tryz.ntmps132
  go_wp2
  go_ret
  exact⟨tA (by rw[HG2.out];exact decide_eq_decide.2 (by omega)),(by first|exact C1|exact C1.drew|exact C1.drewN _)⟩
def XE(x y:Ck):Int:=if Ma.goes x.1 y.1=true then-1 else if Ma.goes y.1 x.1=true then 1 else 0
theorem cN(x y:Ck):ltOf XE x y=Ma.goes x.1 y.1:=by
 unfold ltOf XE
 cases h1:Ma.goes x.1 y.1 with
 |true=>simp
 |false=>cases h2:Ma.goes y.1 x.1<;>simp
theorem kAV:SWO (ltOf XE) where
 irrefl x:=by rw[cN];simpa using Ma.dAU x.1
 trans x y z h1 h2:=by rw[cN]at*;exact Jr.wV h1 h2
 ntrans x y z h1 h2:=by
  rw[cN]at*
  have k1: ¬Ma.goes x.1 y.1=true:=by rw[h1];simp
  have k2: ¬Ma.goes y.1 z.1=true:=by rw[h2];simp
  rw[Jr.tM]at k1 k2
  cases e:Ma.goes x.1 z.1 with
  |false=>rfl
  |true=>rw[Jr.tM]at e;omega
theorem bA7(x y:Ck)(w:World):Calls Tryz.prog 74 #[.agg (fB x).toArray,.agg (fB y).toArray] w fun e w'=>e= .returned (.int .i64 (XE x y))/\ ∃q os',w'=grow (w.drewN q) os':=by
 have ex:(fB x).toArray=dA x.1:=by unfold fB;rw[Array.toArray_toList]
 have ey:(fB y).toArray=dA y.1:=by unfold fB;rw[Array.toArray_toList]
 rw[ex,ey]
 have H1:=zA7 (fun W=>pX x.1 y.1 x.2 y.2 W)
 have H2:=zA7 (fun W=>pX y.1 x.1 y.2 x.2 W)
 have IX:=zA7 (show(Tryz.prog.info? 64).map (·.size)=some (dA x.1).size by rw[TA _ x.2];exact uB)
 have IY:=zA7 (show(Tryz.prog.info? 64).map (·.size)=some (dA y.1).size by rw[TA _ y.2];exact uB)
 have HQ:Hid (XE x y=if Ma.goes x.1 y.1=true then-1 else if Ma.goes y.1 x.1=true then 1 else 0):=zA7 rfl
 have HP: ∀n W,XE x y=n->JC w W->(fun(e:Ending)(w':World)=>e= .returned (.int .i64 (XE x y))/\ ∃q os',w'=grow (w.drewN q) os') (.returned (.int .i64 n)) W:=fun n W h g=>⟨by rw[h],g⟩
 have HP:=zA7 HP
 generalize hpost:(fun(e:Ending)(w':World)=>e= .returned (.int .i64 (XE x y))/\ ∃q os',w'=grow (w.drewN q) os')=post at*
 clear hpost
 have R0:=(Row.new w 64 (dA x.1)).alloc (.cells (dA y.1) 64)
 have hN:(w.alloc (.cells (dA x.1) 64)).heap.size=w.heap.size+1:=by simp
 have S0:=Row.new (w.alloc (.cells (dA x.1) 64)) 64 (dA y.1)
 rw[hN]at S0
 have C0:=((JC.refl w).alloc (.cells (dA x.1) 64)).alloc (.cells (dA y.1) 64)
 rw[HQ.out]at HP
 clear HQ hN ex ey
 generalize Ma.goes x.1 y.1=g1 at*
 generalize Ma.goes y.1 x.1=g2 at*
 generalize dA x.1=U at*
 generalize dA y.1=V at*
 go_enter Tryz.func74,Tryz.ntmps74
 go_wp2_with (first
  |(refine pA rfl 64 _ rfl w.heap.size rfl R0 Tryz.underlying64 rfl IX.out ?_)
  |(refine pA rfl 64 _ rfl (w.heap.size+1) rfl S0 Tryz.underlying64 rfl IY.out ?_))
 generalize(w.alloc (.cells U 64)).alloc (.cells V 64)=w0 at*
 refine(H1.out _).mono ?_
 rintro e w1 ⟨rfl,r1⟩
 have C1:=C0.trans r1
 have R1:=R0.stays r1.below
 have S1:=S0.stays r1.below
 clear C0 R0 S0 r1
 cases g1 with
 |true=>
  go_wp2
  exact HP.out _ _ rfl C1
 |false=>
  go_wp2_with (first
   |(refine pA rfl 64 _ rfl w.heap.size rfl R1 Tryz.underlying64 rfl IX.out ?_)
   |(refine pA rfl 64 _ rfl (w.heap.size+1) rfl S1 Tryz.underlying64 rfl IY.out ?_))
  refine(H2.out _).mono ?_
  rintro e w2 ⟨rfl,r2⟩
  have C2:=C1.trans r2
  clear C1 R1 S1 r2
  cases g2 with
  |true=>
   go_wp2
   exact HP.out _ _ rfl C2
  |false=>
   go_wp2
   exact HP.out _ _ rfl C2
theorem kAH {cs out:List Ma.iA}(hs: ∀c∈cs,c.host.addr.length=16){d':Array Ck}(hp:PermIn 0 (cs.map YB).toArray.size (cs.map YB).toArray d')(hso:SortedIn (ltOf XE) 0 (cs.map YB).toArray.size d')
  (ho:cs.Perm out)(hr:out.Pairwise fun a b=>Ma.goes a b=true)(hq:out.Pairwise fun a b=>a.seq≠b.seq):d'.toList.map (·.1)=out:=by
 have hd:(cs.map YB).map (fun x:Ck=>x.1)=cs:=by
  rw[List.map_map]
  have:cs.map ((fun x:Ck=>x.1)∘YB)=cs.map id:=List.map_congr_left (fun c hc=>JR (hs c hc))
  rw[this,List.map_id]
 obtain⟨h1,_,h3⟩:=hp
 have e1:(d'.extract 0 (cs.map YB).toArray.size)=d':=by rw[<-h1];exact Array.extract_size
 rw[e1,Array.extract_size]at h3
 have hp2:(d'.toList.map (·.1)).Perm out:=by
  have:=h3.map (fun x:Ck=>x.1)
  rw[List.toList_toArray,hd]at this
  exact this.trans ho
 refine Jr.tV hp2 ?_ hr
 have hne2:(d'.toList.map (·.1)).Pairwise fun a b=>a.seq≠b.seq:=(hp2.symm.pairwise_iff (fun {a b} h=>Ne.symm h)).1 hq
 rw[List.pairwise_iff_getElem]at hne2⊢
 intro i j hi hj hij
 have h5:=hne2 i j hi hj hij
 have hi':i<d'.size:=by simpa using hi
 have hj':j<d'.size:=by simpa using hj
 have h6:=hso i j (Nat.zero_le _) hij (by rw[<-h1];exact hj')
 rw[cN,getElem!_pos d' j hj',getElem!_pos d' i hi']at h6
 simp only[List.getElem_map,Array.getElem_toList]at h5⊢
 exact Jr.vV (Ne.symm h5) h6
theorem kAF {cs out:List Ma.iA}{B:Nat}(w0 w:World){v:Value}(hs: ∀c∈cs,c.host.addr.length=16)(h:w.ownsRow B 64 29 v cs.length (flat dA cs))(hn:cs.length<=1000000)(hb:Below B w0 w)(hB:B<=w.heap.size)(ho:cs.Perm out)(hr:out.Pairwise fun a b=>Ma.goes a b=true)(hq:out.Pairwise fun a b=>a.seq≠b.seq):
  Calls Tryz.prog 70 #[v,.func (.func 74) #[] #[]] w fun e w'=>e= .returned (.tuple #[])/\QB dA w' v out/\Below B w0 w':=by
 have hso:=h
 have eg: ∀args w,(callFunc 74 args).run Tryz.prog w= .ok (.enter 74 args) w:=enters_of Tryz.func74 (by kernel_rfl) rfl
 rcases h.2 with⟨rfl,h0⟩|⟨g,cap,cur,rfl,hBg,hg,hc,hm,hcs,ht⟩
 ·have e0:cs= []:=List.eq_nil_of_length_eq_zero h0
  subst e0
  have e1:out= []:=ho.nil_eq.symm
  subst e1
  have hcon:=AnyF.slices_SortFunc_none (P:=Tryz.prog) {Tryz.sortCk with} none 0 (.func (.func 74) #[] #[]) w
  change Calls Tryz.prog 70 _ _ _ at hcon
  exact hcon.mono (fun e w' ⟨he,hw⟩=>⟨he,by rw[hw];exact gX,by rw[hw];exact hb⟩)
 ·have hgl:g<w.heap.size:=(Array.getElem?_eq_some_iff.1 hg).1
  have hds:(cs.map YB).toArray.size=cs.length:=by simp
  have hH:=oW hs hso
  have hcon:=AnyQ.slices_SortFunc Tryz.sortCk 29 Tryz.isAgg64 Tryz.sizeOf64 fB WU XU XE kAV 74 #[] g 0 cap (cs.map YB).toArray w eg (fun _ _ _ _ x y=>bA7 x y _) hH hgl (by rw[hds];omega)
  change Calls Tryz.prog 70 _ _ _ at hcon
  rw[hds]at hcon
  refine hcon.mono (fun e w' ⟨he,d',n,os,hp,FK,hw⟩=>⟨he,?_,by rw[hw];exact xZ hb hBg hB _ _⟩)
  rw[hw]
  have hl:=iX (cap:=cap) (m:=n) (os:=os) hH hgl hp.1 (by rw[hds];exact hc)
  rw[hds]at hl
  rw[<-hds]at hp FK
  rw[kAH hs hp FK ho hr hq]at hl
  exact hl
end Go.Proofs.YtdaaoopkkhfbhaaGreatDoor
namespace Go.Proofs.YtdaaoopkkhfbhaaGreatDoor
open Go.RowKit
theorem gAo(l:List UInt8):(⟨l.toArray⟩:ByteArray).size=l.length:=List.size_toArray ..
theorem kAf(c:Ma.iA)(r:Ma.Request)(now:Int)(ha:c.host.addr.length=16)(hra:r.host.addr.length=16)(hcs:c.host.name.length<=1048000)(hrs:r.host.name.length<=1048000)(hp:c.path.length<=9223372036854775807)(w:World)(hw:Std w):
  Calls Tryz.prog 73 #[.agg (dA c),.agg (EB r),.int .i64 now] w fun e w'=>e= .returned (.bool (Ma.sends c r now))/\Below w.heap.size w w':=by
 have HC:=zA7 (show(Tryz.prog.info? 64).map (·.size)=some (dA c).size by rw[TA c ha];exact uB)
 have HQ:=zA7 (gR r hra)
 have HX:=zA7 (jAu r hra)
 have H1:=zA7 (fun W hW=>dAT c r.host ha hra hcs hrs W hW)
 have H2:=zA7 (fun W=>JX ⟨r.path.toArray⟩ ⟨c.path.toArray⟩ W (by rw[gAo];exact hp))
 have H3:=zA7 (fun W=>bAS c.same r.cross W)
 have HR:=zA7 (Ma.kAg c r now)
 have k1:=FI c ha
 have k2:=fU c ha
 have k3:=bAL c ha
 have k4:=dU c ha
 have l0:=jAw r
 have l1:=jAv r hra
 have l2:=jAt r hra
 unfold gA at k1 l1
 generalize Ma.sends c r now=g at*
 generalize Ma.NI c r.host=b1 at*
 change Hid (∀W,Calls Tryz.prog 53 #[.string ⟨r.path.toArray⟩,.string ⟨c.path.toArray⟩] W fun e w'=>e= .returned (.bool (Ma.path r.path c.path))/\W=w')at H2
 generalize Ma.path r.path c.path=b2 at*
 generalize Ma.sH c.same r.cross=b3 at*
 generalize(⟨c.path.toArray⟩:ByteArray)=cp at*
 generalize(⟨r.path.toArray⟩:ByteArray)=rp at*
 generalize c.secure=cs at*
 generalize r.secure=rs at*
 generalize c.same=sm at*
 generalize r.cross=cr at*
 generalize c.expires=ex at*
 generalize cA r.host=X at*
 have R0:=Row.new w 64 (dA c)
 have B0:=(Below.refl w.heap.size w).alloc (zB3 _) (.cells (dA c) 64)
 have hN:(w.alloc (.cells (dA c) 64)).heap.size=w.heap.size+1:=by simp
 have S0:=Row.new (w.alloc (.cells (dA c) 64)) 52 (EB r)
 rw[hN]at S0
 have R1:=R0.alloc (.cells (EB r) 52)
 have C1:=B0.alloc B0.size (.cells (EB r) 52)
 clear R0 B0 hN ha hra hcs hrs hp
 generalize dA c=U at*
 generalize EB r=V at*
 go_enter Tryz.func73,Tryz.ntmps73
 go_wp2_with (first
  |(refine jA 7 rfl ?_;refine pA rfl 64 _ rfl w.heap.size rfl R1 Tryz.underlying64 rfl HC.out ?_)
  |(refine jA 9 rfl ?_;refine eD rfl 32 _ rfl (w.heap.size+1) 1 18 rfl S0 Tryz.underlying32 rfl mA (by rw[HQ.out];decide) X HX.out ?_))
 generalize(w.alloc (.cells U 64)).alloc (.cells V 52)=x0 at*
 refine(H1.out _ (hw.below C1)).mono ?_
 rintro e v1 ⟨rfl,d1⟩
 have C2:=C1.trans (d1.mono C1.size)
 have R2:=R1.stays d1
 have S2:=S0.stays d1
 have c1:=(R2.cell 21).trans k1
 have c2:=(R2.cell 22).trans k2
 have c3:=(R2.cell 24).trans k3
 have c4:=(R2.cell 25).trans k4
 have e0:=(S2.cell 0).trans l0
 have e1:=(S2.cell 19).trans l1
 have e2:=(S2.cell 20).trans l2
 clear R1 S0 C1 d1 k1 k2 k3 k4 l0 l1 l2 R2 S2 H1
 cases b1
 ·have HG2:Hid (g=false):=zA7 (by rw[HR.out];rfl)
  clear HR
  go_wp2
  go_ret
  exact⟨tA HG2.out.symm,C2⟩
 cases b2
 ·have HG2:Hid (g=false):=zA7 (by rw[HR.out];rfl)
  clear HR
  go_wp2_with (go_at_call 53;refine(H2.out _).mono ?_;rintro e w' ⟨rfl,rfl⟩)
  go_ret
  exact⟨tA HG2.out.symm,C2⟩
 cases rs
 ·cases cs
  ·cases b3
   ·have HG2:Hid (g=false):=zA7 (by rw[HR.out];rfl)
    clear HR
    go_wp2_with (first
     |(go_at_call 53;refine(H2.out _).mono ?_;rintro e w' ⟨rfl,rfl⟩)
     |(go_at_call 131;refine(H3.out _).mono ?_;rintro e w' ⟨rfl,rfl⟩))
    go_ret
    exact⟨tA HG2.out.symm,C2⟩
   ·have HG2:Hid (g=decide (now<ex)):=zA7 (by rw[HR.out];rfl)
    clear HR
    go_wp2_with (first
     |(go_at_call 53;refine(H2.out _).mono ?_;rintro e w' ⟨rfl,rfl⟩)
     |(go_at_call 131;refine(H3.out _).mono ?_;rintro e w' ⟨rfl,rfl⟩))
    go_ret
    exact⟨tA HG2.out.symm,C2⟩
  ·have HG2:Hid (g=false):=zA7 (by rw[HR.out];rfl)
   clear HR
   go_wp2_with (first
    |(go_at_call 53;refine(H2.out _).mono ?_;rintro e w' ⟨rfl,rfl⟩)
    |(go_at_call 131;refine(H3.out _).mono ?_;rintro e w' ⟨rfl,rfl⟩))
   go_ret
   exact⟨tA HG2.out.symm,C2⟩
 ·cases b3
  ·have HG2:Hid (g=false):=zA7 (by rw[HR.out];rfl)
   clear HR
   go_wp2_with (first
    |(go_at_call 53;refine(H2.out _).mono ?_;rintro e w' ⟨rfl,rfl⟩)
    |(go_at_call 131;refine(H3.out _).mono ?_;rintro e w' ⟨rfl,rfl⟩))
   go_ret
   exact⟨tA HG2.out.symm,C2⟩
  ·have HG2:Hid (g=decide (now<ex)):=zA7 (by rw[HR.out];rfl)
   clear HR
   go_wp2_with (first
    |(go_at_call 53;refine(H2.out _).mono ?_;rintro e w' ⟨rfl,rfl⟩)
    |(go_at_call 131;refine(H3.out _).mono ?_;rintro e w' ⟨rfl,rfl⟩))
   go_ret
   exact⟨tA HG2.out.symm,C2⟩
end Go.Proofs.YtdaaoopkkhfbhaaGreatDoor
namespace Go.Proofs.YtdaaoopkkhfbhaaGreatDoor
open Go.RowKit Go.Maps
theorem mA1(c:Ma.iA)(hc:wB c)(now:Int){sb mb:Nat}{s:Sh.Shelf}(w:World)(h:NA w sb mb s):
  Calls Tryz.prog 38 #[.pointer (some ⟨sb,0,none⟩),.agg (dA c),.int .i64 now] w fun e w'=>e= .returned (.bool (Sh.use s c now).2)/\NA w' sb mb (Sh.use s c now).1/\LB sb mb w w':=by
 have z0:=nL
 have z1:=lI
 have ha:=hc.host.addr
 have uF:=zA7 (fun W=>XQ c ha W)
 have HC:=zA7 (show(Tryz.prog.info? 64).map (·.size)=some (dA c).size by rw[TA c ha];exact uB)
 have HP:=zA7 (show(Tryz.prog.info? 134).map (·.size)=some (uA c).size by rw[FE c ha];exact TI)
 have PE:=zA7 (show(uA Ma.zero).size=(uA c).size by rw[FE c ha];rfl)
 have mC:=zA7 (TK c)
 obtain⟨X,hX⟩: ∃X,rA ((Sh.oF s c).getD Sh.JA)=X:=⟨_,rfl⟩
 have HX:=zA7 (show(Tryz.prog.info? 136).map (·.size)=some X.size by rw[<-hX,zC _ (h.pJ c)];exact PF)
 have vB:=zA7 (show(rA Sh.JA).size=X.size by rw[<-hX,zC _ (h.pJ c)];rfl)
 have lB:=zA7 (show X.all (·.oneCell')=true by rw[<-hX];exact PH _)
 cases hs:Sh.oF s c with
 |none=>
  rw[Sh.mA3 hs]
  have HL:=zA7 (fun W (hW:NA W sb mb s)=>by have:=hW.look hc;rw[hX,hs]at this;exact this)
  clear hX hs
  have R0:=Row.new w 64 (dA c)
  have C0:=(Below.refl w.heap.size w).alloc (zB3 _) (.cells (dA c) 64)
  go_enter Tryz.func38,Tryz.ntmps38
  go_wp2_with (refine jA 10 rfl ?_;refine pA rfl 64 _ rfl w.heap.size rfl R0 Tryz.underlying64 rfl HC.out ?_)
  generalize w.alloc (.cells (dA c) 64)=x0 at*
  refine(uF.out _).mono ?_
  rintro e x1 ⟨rfl,d1⟩
  have C1:=C0.trans (d1.mono C0.size)
  have K1:=R0.stays d1
  obtain⟨Z1,P2,C2,L2⟩:=PA 134 (uA Ma.zero) (uA c) C1 C1.size
  have K2:=L2 _ _ _ K1
  have yF:=K1.lt
  clear L2 d1 C0 R0 K1
  go_wp2_with (refine wpList_store_row rfl 134 _ _ rfl x1.heap.size (uA c) rfl rfl 134 _ Z1 HP.out PE.out mC.out ?_)
  have hgw1:x1.heap.size≠w.heap.size:=by have:=yF;omega
  have hg1:=P2.lt
  have hw1:=C1.size
  generalize(x1.alloc (.cells (uA Ma.zero) 134)).setRow x1.heap.size (uA c)=x2 at*
  generalize x1.heap.size=g1 at*
  have H2:=h.stays C2
  clear Z1 C1
  have AP:=zA7 (fun W (hW:Below x2.heap.size x2 W)=>P2.stays hW)
  have AH:=zA7 (fun W (hW:Below x2.heap.size x2 W)=>H2.stays hW)
  have AK:=zA7 (fun W (hW:Below x2.heap.size x2 W)=>K2.stays hW)
  refine wp_region_held_drew (S:=(fun W=>Below x2.heap.size x2 W)) (by kernel_rfl) (Below.refl _ _).drew (fun hS=>?_)
  generalize x2.drew=u0 at*
  refine lA (i:=0) rfl ?_
  refine lA (i:=1) rfl ?_
  refine lA (i:=2) rfl ?_
  refine wpAnyH_take (i:=3) (v:= .map (some mb)) rfl (by kernel_rfl) (by kernel_rfl) (by kernel_rfl) (fun _ _ _ h=>h) (Or.inl ⟨by rfl,fun wq hC=>by have hcell:=(AH.out wq hC).cell0;go_simp;try with_reducible rfl⟩) (by assumption) ?_
  simp only[Act.put,zA1,zA3,zA2,zA6,zA4,zA5]
  refine bG (i:=4) rfl (GB (by rfl) _ _ rfl _ rfl AP.out Tryz.underlying134 rfl HP.out) ?_
  refine wpAnyH_take (i:=5) (v:= .tuple #[.agg X,.bool false]) rfl (by kernel_rfl) (by kernel_rfl) (by kernel_rfl) (fun _ _ _ h=>h) (Or.inl ⟨by rfl,fun wq hC=>by have hcell:=HL.out wq (AH.out wq hC);go_simp;try with_reducible rfl⟩) (by assumption) ?_
  simp only[Act.put,zA1,zA3,zA2,zA6,zA4,zA5]
  refine lA (i:=6) rfl ?_
  refine lA (i:=7) rfl ?_
  refine lA (i:=8) rfl ?_
  have QF:=Below.size hS
  have Z3:=Row.new u0 136 (rA Sh.JA)
  refine QA (i:=9) fun K hK=>?_
  go_simp
  have S1:=Below.alloc hS (Below.size hS) (.cells (rA Sh.JA) 136)
  refine hK.out _ _ S1 (fun _=>?_)
  clear hK K
  refine QA (i:=10) fun K hK=>?_
  refine wp_store_row 136 _ _ rfl u0.heap.size X rfl rfl 136 _ Z3 HX.out vB.out lB.out ?_
  have S2:=below_setRow (g:=u0.heap.size) S1 (by first|exact Below.size S1|(have:=Below.size S1;simp at this;omega)|assumption|omega) X
  have Z4:=Row.whole Z3 X
  refine hK.out _ _ S2 (fun _=>?_)
  clear hK K
  refine lA (i:=11) rfl ?_
  refine wpAnyH_done (by kernel_rfl) ?_ _
  generalize(u0.alloc (.cells (rA Sh.JA) 136)).setRow u0.heap.size X=x3 at*
  have hg3:x2.heap.size<=u0.heap.size:=QF
  generalize u0.heap.size=g3 at*
  have C3:=C2.trans (S2.mono C2.size)
  have H3:=AH.out _ S2
  have P3:=AP.out _ S2
  have K3:=AK.out _ S2
  clear AH AP AK Z3 hS S1 S2 C2 H2 P2 K2
  clear Z4 K3 P3 hg1 hw1 hg3
  go_wp2
  go_ret
  exact⟨rfl,H3,.of C3 (zB3 _)⟩
 |some k0=>
  have hk0:=List.mem_of_find?_eq_some hs
  have hp:=Sh.mA4 h.well hs now
  have HW:=zA7 (Sh.W5 h.well c now)
  obtain⟨t,ht⟩: ∃t,(Sh.use s c now).1=t:=⟨_,rfl⟩
  rw[ht]at hp HW⊢
  rw[hp.1]
  have HL:=zA7 (fun W (hW:NA W sb mb s)=>by have:=hW.look hc;rw[hX,hs]at this;exact this)
  have ko:=(h.okay k0 hk0).addr
  have hX2:X=rA k0:=by rw[<-hX,hs];rfl
  have JO:Hid (X.setIfInBounds 27 (.int .i64 now)=rA (Sh.used now k0)):=zA7 (by rw[hX2];exact fAM k0 ko now)
  have HU:=zA7 (show(Tryz.prog.info? 136).map (·.size)=some (rA (Sh.used now k0)).size by rw[zC (Sh.used now k0) ko];exact PF)
  have eAa:X[27]? =some (.int .i64 k0.c.used):=by rw[hX2];exact LG (rP k0.c ko)
  have oG:Hid (zI (Sh.used now k0)):=zA7 ⟨⟨(h.okay k0 hk0).OA.host,(h.okay k0 hk0).OA.name,(h.okay k0 hk0).OA.path⟩,(h.okay k0 hk0).site⟩
  have oE:=zA7 hp.2.2.1
  have TC:=zA7 hp.2.1
  have HKK:=zA7 hp.2.2.2
  clear hX hs hp ht hX2
  have R0:=Row.new w 64 (dA c)
  have C0:=(Below.refl w.heap.size w).alloc (zB3 _) (.cells (dA c) 64)
  go_enter Tryz.func38,Tryz.ntmps38
  go_wp2_with (refine jA 10 rfl ?_;refine pA rfl 64 _ rfl w.heap.size rfl R0 Tryz.underlying64 rfl HC.out ?_)
  generalize w.alloc (.cells (dA c) 64)=x0 at*
  refine(uF.out _).mono ?_
  rintro e x1 ⟨rfl,d1⟩
  have C1:=C0.trans (d1.mono C0.size)
  have K1:=R0.stays d1
  obtain⟨Z1,P2,C2,L2⟩:=PA 134 (uA Ma.zero) (uA c) C1 C1.size
  have K2:=L2 _ _ _ K1
  have yF:=K1.lt
  clear L2 d1 C0 R0 K1
  go_wp2_with (refine wpList_store_row rfl 134 _ _ rfl x1.heap.size (uA c) rfl rfl 134 _ Z1 HP.out PE.out mC.out ?_)
  have hgw1:x1.heap.size≠w.heap.size:=by have:=yF;omega
  have hg1:=P2.lt
  have hw1:=C1.size
  generalize(x1.alloc (.cells (uA Ma.zero) 134)).setRow x1.heap.size (uA c)=x2 at*
  generalize x1.heap.size=g1 at*
  have H2:=h.stays C2
  clear Z1 C1
  have AP:=zA7 (fun W (hW:Below x2.heap.size x2 W)=>P2.stays hW)
  have AH:=zA7 (fun W (hW:Below x2.heap.size x2 W)=>H2.stays hW)
  have AK:=zA7 (fun W (hW:Below x2.heap.size x2 W)=>K2.stays hW)
  refine wp_region_held_drew (S:=(fun W=>Below x2.heap.size x2 W)) (by kernel_rfl) (Below.refl _ _).drew (fun hS=>?_)
  generalize x2.drew=u0 at*
  refine lA (i:=0) rfl ?_
  refine lA (i:=1) rfl ?_
  refine lA (i:=2) rfl ?_
  refine wpAnyH_take (i:=3) (v:= .map (some mb)) rfl (by kernel_rfl) (by kernel_rfl) (by kernel_rfl) (fun _ _ _ h=>h) (Or.inl ⟨by rfl,fun wq hC=>by have hcell:=(AH.out wq hC).cell0;go_simp;try with_reducible rfl⟩) (by assumption) ?_
  simp only[Act.put,zA1,zA3,zA2,zA6,zA4,zA5]
  refine bG (i:=4) rfl (GB (by rfl) _ _ rfl _ rfl AP.out Tryz.underlying134 rfl HP.out) ?_
  refine wpAnyH_take (i:=5) (v:= .tuple #[.agg X,.bool true]) rfl (by kernel_rfl) (by kernel_rfl) (by kernel_rfl) (fun _ _ _ h=>h) (Or.inl ⟨by rfl,fun wq hC=>by have hcell:=HL.out wq (AH.out wq hC);go_simp;try with_reducible rfl⟩) (by assumption) ?_
  simp only[Act.put,zA1,zA3,zA2,zA6,zA4,zA5]
  refine lA (i:=6) rfl ?_
  refine lA (i:=7) rfl ?_
  refine lA (i:=8) rfl ?_
  have QF:=Below.size hS
  have Z3:=Row.new u0 136 (rA Sh.JA)
  refine QA (i:=9) fun K hK=>?_
  go_simp
  have S1:=Below.alloc hS (Below.size hS) (.cells (rA Sh.JA) 136)
  refine hK.out _ _ S1 (fun _=>?_)
  clear hK K
  refine QA (i:=10) fun K hK=>?_
  refine wp_store_row 136 _ _ rfl u0.heap.size X rfl rfl 136 _ Z3 HX.out vB.out lB.out ?_
  have S2:=below_setRow (g:=u0.heap.size) S1 (by first|exact Below.size S1|(have:=Below.size S1;simp at this;omega)|assumption|omega) X
  have Z4:=Row.whole Z3 X
  refine hK.out _ _ S2 (fun _=>?_)
  clear hK K
  refine lA (i:=11) rfl ?_
  refine wpAnyH_done (by kernel_rfl) ?_ _
  generalize(u0.alloc (.cells (rA Sh.JA) 136)).setRow u0.heap.size X=x3 at*
  have hg3:x2.heap.size<=u0.heap.size:=QF
  generalize u0.heap.size=g3 at*
  have C3:=C2.trans (S2.mono C2.size)
  have H3:=AH.out _ S2
  have P3:=AP.out _ S2
  have K3:=AK.out _ S2
  clear AH AP AK Z3 hS S1 S2 C2 H2 P2 K2
  have e27:=(Z4.cell 27).trans eAa
  have f27:=Z4.free 27
  have Z5:=Z4.set 27 (.int .i64 now)
  rw[JO.out]at Z5
  have C4:=C3.setCell (p:=⟨g3,27,none⟩) (by have:=hg1;have:=hw1;show w.heap.size<=g3;omega) (.int .i64 now)
  have hne: ∀b,b<x2.heap.size->b≠g3:=fun b hb=>by omega
  have P4:=P3.other (p:=⟨g3,27,none⟩) (hne g1 (by omega)) (.int .i64 now)
  have H4:=h.stays C4
  clear Z4 K3 hg1 hw1 hg3 C3 H3 P3 hne
  go_wp2_with fail
  generalize x3.setCell ⟨g3,27,none⟩ (.int .i64 now)=x4 at*
  have AP:=zA7 (fun W (hW:Below x4.heap.size x4 W)=>P4.stays hW)
  have AH:=zA7 (fun W (hW:Below x4.heap.size x4 W)=>H4.stays hW)
  have AZ:=zA7 (fun W (hW:Below x4.heap.size x4 W)=>Z5.stays hW)
  refine dE (C:=(fun W=>Below x4.heap.size x4 W)) 6 (by kernel_rfl) (by kernel_rfl) (Below.refl _ _).drew ?_
  simp only[List.take_succ_cons,List.take_zero]
  refine kA ?_
  refine kA ?_
  refine kA ?_
  refine kA ?_ (v:= .map (some mb)) (hv:=fun wq hC=>by have hcell:=(AH.out wq hC).cell0;go_simp;try with_reducible rfl)
  refine WB (GB (by rfl) _ _ rfl _ rfl AP.out Tryz.underlying134 rfl HP.out) ?_
  refine WB (GB (by rfl) _ _ rfl _ rfl AZ.out Tryz.underlying136 rfl HU.out) ?_
  refine wpQuiet_nil ?_
  intro x5 hC
  have H5:=AH.out x5 hC
  have C5:=C4.trans (hC.mono C4.size)
  have hlen:=H5.length
  clear AH AP AZ C4 H4 P4 Z5 hC
  simp only[List.drop_succ_cons,List.drop_zero]
  go_wp2_with (at_mapUpdate;refine xR rfl _ _ _ rfl rfl H5.map H5.okay hc rfl rfl HKK.out oG.out.OA oE.out (by omega) ?_;intro x6 hM hT)
  go_ret
  have hR:Row x6 sb 101 #[.map (some mb),.int .i64 s.last]:=(hT.grown.block sb H5.row.lt (fun e=>H5.apart (zB2 e).symm)).trans H5.row
  refine⟨rfl,⟨HW.out,fun k hk=>?_,by rw[TC.out];exact h.few,h.apart,by rw[TC.out];exact hR,hM⟩,(LB.of C5 (zB3 _)).trans (.turned hT)⟩
  rcases List.mem_cons.1 (oE.out.mem_iff.1 hk)with e|e
  ·rw[e];exact oG.out
  ·exact h.okay k (List.mem_filter.1 e).1
end Go.Proofs.YtdaaoopkkhfbhaaGreatDoor
namespace Go.Proofs.YtdaaoopkkhfbhaaGreatDoor
open Go.RowKit Go.Maps
theorem QM(x y:List UInt8)(r:List (List UInt8))(sep:List UInt8):Lib.join (x::y::r) sep=x++(sep++Lib.join (y::r) sep):=by
 simp[Lib.join,List.intercalate]
theorem sQ: ∀l:List (List UInt8),Lib.join l [59,32]=Jr.join l
 | []=>rfl
 | [x]=>Lib.join_one x _
 |x::y::r=>by rw[QM,sQ (y::r)];rfl
theorem Y0: ∀l:List (List UInt8),flat (fun p:List UInt8=> #[gA p]) l=l.map gA
 | []=>rfl
 |p::l=>by
  rw[LI,Y0 l];rfl
theorem fAA:(Tryz.prog.info? 9).map (fun i=>(i.zero,i.size,i.bytes))=some (some (.string ⟨#[]⟩),1,16):=by kernel_rfl
theorem kA2(c:Ma.iA)(nm vl:ByteArray)(hn:nm=⟨c.name.toArray⟩)(hv:vl=⟨c.value.toArray⟩):(c.name= []->vl=⟨(Jr.said c).toArray⟩)/\(c.name≠ []->nm++⟨#[61]⟩++vl=⟨(Jr.said c).toArray⟩):=by
 constructor
 ·intro h
  unfold Jr.said
  rw[if_pos h,hv]
 ·intro h
  unfold Jr.said
  rw[if_neg h,hn,hv]
  apply ByteArray.ext
  rw[ByteArray.data_append,ByteArray.data_append]
  simp
theorem iA7(c:Ma.iA)(hc:Jr.ZB c)(w:World):
  Calls Tryz.prog 39 #[.agg (dA c)] w fun e w'=>e= .returned (.string ⟨(Jr.said c).toArray⟩)/\Below w.heap.size w w':=by
 have hnl:=hc.name
 have hvl:=hc.value
 obtain⟨nm,hnm⟩: ∃b:ByteArray,b=⟨c.name.toArray⟩:=⟨_,rfl⟩
 obtain⟨vl,hvv⟩: ∃b:ByteArray,b=⟨c.value.toArray⟩:=⟨_,rfl⟩
 have k0:(dA c)[0]? =some (.string nm):=by rw[hnm];rfl
 have k1:(dA c)[1]? =some (.string vl):=by rw[hvv];rfl
 have HT:=zA7 (kA2 c nm vl hnm hvv)
 have hs1:nm.size<=5000:=by rw[hnm,XM];exact hnl
 have hs2:vl.size<=5000:=by rw[hvv,XM];exact hvl
 have hE:nm.toList.isEmpty=decide (c.name= []):=by rw[hnm,Oct.aB];cases c.name<;>rfl
 obtain⟨b,hb⟩: ∃b,decide (c.name= [])=b:=⟨_,rfl⟩
 rw[hb]at hE
 have HB:=zA7 hb
 have R0:=Row.new w 64 (dA c)
 have C0:=(Below.refl w.heap.size w).alloc (zB3 _) (.cells (dA c) 64)
 have c0:=(R0.cell 0).trans k0
 have c1:=(R0.cell 1).trans k1
 have p0: ¬9223372036854775807<nm.size+1:=by omega
 have p1: ¬9223372036854775807<nm.size+1+vl.size:=by omega
 clear hb hnm hvv k0 k1 R0 hnl hvl hs1 hs2
 generalize dA c=X at*
 cases b with
 |true=>
  have HQ:=zA7 (HT.out.1 (zB1 HB.out))
  clear HT HB
  go_enter Tryz.func39,Tryz.ntmps39
  go_wp2
  go_ret
  exact⟨by rw[<-HQ.out];rfl,C0⟩
 |false=>
  have HQ:=zA7 (HT.out.2 (of_decide_eq_false HB.out))
  clear HT HB
  go_enter Tryz.func39,Tryz.ntmps39
  go_wp2
  go_ret
  exact⟨by rw[<-HQ.out];rfl,C0⟩
theorem dA6 {p:Ma.iA->Bool}{l:List Ma.iA}{k:Nat}{x:Ma.iA}(hx:l[k]? =some x):(l.take (k+1)).filter p=(l.take k).filter p++if p x=true then [x]else []:=by
 rw[List.take_add_one,hx,List.filter_append]
 congr 1
 cases e:p x<;>simp[e]
theorem kAh(r:Ma.Request)(hra:r.host.addr.length=16)(hrn:r.host.name.length<=1000000){B jb tb sb mb:Nat}{j:Jr.MA}(w:World)(hw:Std w)(h:pB w B jb tb sb mb j):
  Calls Tryz.prog 37 #[.pointer (some ⟨jb,0,none⟩),.agg (EB r)] w (VE (Jr.row j r) w):=by
 have z1:=XG
 have R0:=Row.new w 52 (EB r)
 have C0:=(Below.refl w.heap.size w).alloc (zB3 _) (.cells (EB r) 52)
 have J0:=h.stays C0
 have HS:=zA7 (hw.below C0)
 have c2:=J0.WE
 have HA:=zA7 (YO _ J0.shelf)
 unfold VE at HA
 have rG:=zA7 (Jr.NX h.TH)
 have hle:=h.shelf.length
 have hl:(Sh.all j.s).length<=1000000:=by unfold Sh.all;rw[List.length_map];exact hle
 have EL:=zA7 (Jr.nR j r)
 have TS:=zA7 (Jr.jAI h.shelf.well r)
 have RS:Hid ((Jr.row j r).Pairwise fun a b=>a.seq≠b.seq):=zA7 (((Jr.nR j r).pairwise_iff (fun {a b} h=>Ne.symm h)).1 (((Sh.ZO h.shelf.well).imp (fun h=>by omega)).filter _))
 have IR:=zA7 (show(Tryz.prog.info? 52).map (·.size)=some (EB r).size by rw[gR r hra];exact CW)
 have HSE:=zA7 (fun c (hc:Jr.ZB c) W hW=>kAf c r j.now hc.addr hra (by have:=(bA.DI hc.host).1;omega) (by omega) (by have:=hc.path;omega) W hW)
 clear h hw hle
 obtain⟨l,hll⟩: ∃l,Sh.all j.s=l:=⟨_,rfl⟩
 rw[hll]at HA rG hl EL
 clear hll
 obtain⟨out,hout⟩: ∃o,Jr.row j r=o:=⟨_,rfl⟩
 rw[hout]at EL TS RS⊢
 clear hout
 obtain⟨p,hp⟩: ∃p:Ma.iA->Bool,(fun c=>Ma.sends c r j.now)=p:=⟨_,rfl⟩
 have HSE:Hid (∀c,Jr.ZB c-> ∀W,Std W->Calls Tryz.prog 73 #[.agg (dA c),.agg (EB r),.int .i64 j.now] W fun e w'=>e= .returned (.bool (p c))/\Below W.heap.size W w'):=zA7 (fun c hc W hW=>by rw[<-hp];exact HSE.out c hc W hW)
 rw[hp]at EL
 clear hp hra hrn
 have pT:=J0.toZA
 clear J0
 generalize EB r=Q at*
 go_enter Tryz.func37,Tryz.ntmps37
 go_wp2_with fail
 generalize w.alloc (.cells Q 52)=x0 at*
 refine HA.out.mono ?_
 rintro e x1 ⟨v0,rfl,hL,d1⟩
 have R1:=R0.stays d1
 have J1:=pT.stays d1
 have C1:=C0.trans (d1.mono C0.size)
 have tB:=zA7 (HS.out.below d1)
 have HL:=zA7 hL
 obtain⟨A,cp,rfl,hcp,_⟩:=hL
 obtain⟨n,hnn⟩: ∃n,l.length=n:=⟨_,rfl⟩
 have IB:=zA7 hnn
 rw[hnn]at hl hcp HL⊢
 clear hnn R0 pT C0 d1 HS HA c2
 have HAD:Hid (∀x∈l,x.host.addr.length=16):=zA7 (fun x hx=>(rG.out x hx).addr)
 go_wp2_with fail
 go_loopw [5,14] (fun u i wr=> ∃(k:Nat)(v:Value),v=u/\k<=n/\i= .int .i64 (k:Int)/\wr.ownsRow x1.heap.size 64 29 v ((l.take k).filter p).length (flat dA ((l.take k).filter p))/\Below x1.heap.size x1 wr) (fun _ i _=>n- (intOf i).toNat)
 case atStart=>exact⟨0,_,rfl,Nat.zero_le _,rfl,by rw[List.take_zero];exact World.ownsRow_nil x1 _ _ _,Below.refl _ _⟩
 case round=>
  obtain⟨k,v,rfl,hk,rfl,hown,hb⟩:=hrel
  by_cases hlt:k<n
  ·obtain⟨x,hx⟩: ∃x,l[k]? =some x:=⟨_,List.getElem?_eq_getElem (by rw[IB.out];exact hlt)⟩
   have hxm:=List.mem_of_getElem? hx
   obtain⟨g,off,rfl,hcell⟩:=sP (by rw[IB.out];exact HL.out) HAD.out hx
   have ME:=zA7 (hcell wr hb)
   have hxa:=HAD.out x hxm
   have Q9:=zA7 (HSE.out x (rG.out x hxm))
   have pO:=zA7 (dA6 (p:=p) hx)
   have hfl:((l.take k).filter p).length<=1000000:=by
    have h1:=List.length_filter_le p (l.take k)
    have h2:=List.length_take_le k l
    omega
   have IX:=zA7 (show(Tryz.prog.info? 64).map (·.size)=some (dA x).size by rw[TA x hxa];exact uB)
   have SX:=zA7 (show(dA Ma.xA).size=(dA x).size by rw[TA x hxa];rfl)
   have OX:=zA7 (FD x)
   have QO:=zA7 (show(dA x).size=29 from TA x hxa)
   have TE:=zA7 (show∀c∈ [x],(dA c).all (·.oneCell')=true from fun c _=>FD c)
   have PO:=zA7 (show∀c∈ [x],(dA c).size=29 from fun c hc=>by rw[List.mem_singleton.1 hc];exact TA x hxa)
   have FO:Hid (∀W:World,Row (W.alloc (.cells (dA x) 64)) W.heap.size 64 (dA x)):=zA7 (fun W=>Row.new W _ _)
   have R2:=R1.stays hb
   have J2:=J1.stays hb
   obtain⟨Z,U,D,L⟩:=PA 64 (dA Ma.xA) (dA x) (Below.refl wr.heap.size wr) (zB3 _)
   have R3:=L _ _ _ R2
   have J3:=J2.stays D
   have C3:=hb.trans (D.mono hb.size)
   have RE:=zA7 (tB.out.below C3)
   have hown3:=hown.kept (below_grown D) (by
    cases hv:v.ownBlock
    ·exact .inl rfl
    ·exact .inr (by simp))
   clear hown hb D L hcell hx hxm R2 J2
   obtain⟨F,hF⟩: ∃F,(l.take k).filter p=F:=⟨_,rfl⟩
   rw[hF]at hown3 pO hfl
   clear hF hxa
   obtain⟨A3,c3,rfl⟩: ∃A c,v= .slice A F.length c:=by
    rcases hown3.2 with⟨rfl,h0⟩|⟨g,cap,cur,rfl,_⟩
    ·exact⟨none,0,by rw[h0]⟩
    ·exact⟨_,_,rfl⟩
   generalize hpx:p x=px at*
   generalize hX:dA x=X at*
   have HPX:=zA7 hpx
   have KL:=zA7 hX
   clear hpx hX
   go_wp2_with (first
    |(refine jA 17 rfl ?_;refine ZM rfl 64 _ rfl g (off+k*29) rfl X ME.out Tryz.underlying64 rfl IX.out ?_)
    |(refine YC 64 (.tmp 7) (.tmp 17) rfl ?_;refine wpList_store_row rfl 64 _ _ rfl wr.heap.size X rfl rfl 64 _ Z IX.out SX.out OX.out ?_))
   clear Z ME
   generalize(wr.alloc (.cells (dA Ma.xA) 64)).setRow wr.heap.size X=x3 at*
   generalize wr.heap.size=g3 at*
   refine nF (C:=(fun W=>Below x3.heap.size x3 W)) (by kernel_rfl) (by kernel_rfl) (Below.refl _ _).drew ?_
   refine WB (GB (by rfl) _ _ rfl _ rfl (fun _ hC=>U.stays hC) Tryz.underlying64 rfl IX.out) ?_
   refine WB (GB (by rfl) _ _ rfl _ rfl (fun _ hC=>R3.stays hC) Tryz.underlying52 rfl IR.out) ?_
   refine kA ?_
   refine kA ?_
   refine kA ?_
   refine rC (.int .i64 j.now) (fun wq hC=>by unfold Oper.quietAt;go_simp;exact(fJ (now:=j.now) wq (J3.stays hC).cell0).mono (fun e w2 ⟨h1,h2⟩=>⟨h1,by rw[<-h2];exact hC⟩)) ?_
   refine rC (.bool px) (fun wq hC=>by unfold Oper.quietAt;go_simp;exact(Q9.out wq (RE.out.below hC)).mono (fun e w2 ⟨h1,h2⟩=>⟨h1,hC.trans (h2.mono hC.size)⟩)) ?_
   refine wpQuiet_nil ?_
   intro x4 iC
   have U4:=U.stays iC
   have C4:=C3.trans (iC.mono C3.size)
   have FH:=hown3.kept (below_grown iC) (by
    cases hv:(Value.slice A3 F.length c3).ownBlock
    ·exact .inl rfl
    ·exact .inr (by simp))
   clear U R3 J3 C3 RE iC hown3
   cases px with
   |false=>
    go_wp2
    go_roundw
    case rel=>exact⟨k+1,_,rfl,by omega,by go_num,by rw[pO.out,if_neg (by simp),List.append_nil];exact FH,C4⟩
    case measure=>simp[intOf];omega
   |true=>
    go_wp2_with (first
     |(refine jA 26 rfl ?_;refine pA rfl 64 _ rfl g3 rfl U4 Tryz.underlying64 rfl IX.out ?_)
     |(refine jA 27 rfl ?_;refine NT rfl _ rfl X rfl Tryz.underlying58 MM QO.out (by decide) (by decide) ?_)
     |(refine jA 28 rfl ?_;refine bP rfl _ _ rfl Tryz.underlying58 MM (by kernel_rfl) (by decide) (by decide) rfl (FH.alloc _) rfl PO.out TE.out (CQ (by rw[KL.out];exact FO.out _)) ?ca ?cb ?_))
    case ca=>omega
    case cb=>have:=C4.size;omega
    intro v' x5 DK hg5 WP
    have C5:=(C4.alloc C4.size (.cells X 64)).grown hg5 (by have:=C4.size;rw[FN];omega) (fun b e=>(FH.lt b e).1)
    have iQ:x5.ownsRow x1.heap.size 64 29 v' ((l.take (k+1)).filter p).length (flat dA ((l.take (k+1)).filter p)):=by
     rw[pO.out,if_pos trivial,zB4,mV]
     exact DK
    clear DK FH hg5 WP C4 U4
    go_wp2
    go_roundw
    case rel=>exact⟨k+1,v',rfl,by omega,by go_num,iQ,C5⟩
    case measure=>simp[intOf];omega
  ·obtain rfl:k=n:=by omega
   have e1:(l.take k).filter p=l.filter p:=by rw[List.take_of_length_le (by rw[IB.out];exact zB3 _)]
   rw[e1]at hown
   have hfl:(l.filter p).length<=1000000:=by
    have h1:=List.length_filter_le p l
    rw[IB.out]at h1
    omega
   have FL:=zA7 (kAF (B:=x1.heap.size) (out:=out) x1 wr (fun c hc=>HAD.out c (List.mem_filter.1 hc).1) hown hfl hb hb.size EL.out TS.out RS.out)
   clear hown hb e1 hfl
   go_wp2_with fail
   refine FL.out.mono ?_
   rintro e x5 ⟨rfl,hL5,d5⟩
   have C5:=C1.trans (d5.mono C1.size)
   go_wp2
   go_ret
   exact⟨v,rfl,hL5,C5⟩
theorem iA4 {sb mb:Nat}{w w':World}{B:Nat}{E:TypeId}{size:Nat}{v:Value}{n:Nat}{xs:List Value}(h:w.ownsRow B E size v n xs)(t:LB sb mb w w')(h1:sb<B)(h2:mb<B):w'.ownsRow B E size v n xs:=
 ⟨h.1,h.2.imp id fun⟨g,cap,cur,e,hB,hg,rest⟩=>⟨g,cap,cur,e,hB,(t.same g (Array.getElem?_eq_some_iff.1 hg).1 (by omega) (by omega)).trans hg,rest⟩⟩
theorem fAJ {w:World}{B:Nat}{v:Value}{n:Nat}{ps:List (List UInt8)}(hn:ps.length=n)(O:w.ownsRow B 9 1 v n (ps.map gA))(hl:n<=1000000)(hj:(Jr.join ps).length<=140737488355328):
  Calls Tryz.prog 40 #[v,.string ⟨#[59,32]⟩] w fun e w'=>e= .returned (.string ⟨(Jr.join ps).toArray⟩)/\Below w.heap.size w w':=by
 have O2:=O
 rcases O.2 with⟨rfl,h0⟩|⟨g,cap,cur,rfl,hB,hg,hle,_⟩
 ·have e0:ps= []:=List.eq_nil_of_length_eq_zero (hn.trans h0)
  subst e0
  exact(Tryz.strings_Join_none none 0 ⟨#[59,32]⟩ w).mono fun e w' ⟨h1,h2⟩=>⟨h1,by rw[h2];exact Below.refl _ _⟩
 ·have hlt:g<w.heap.size:=(Array.getElem?_eq_some_iff.1 hg).1
  have e1:((ps.map fun p=>(⟨p.toArray⟩:ByteArray)).map (·.data.toList))=ps:=by rw[List.map_map];exact List.map_id ps
  have e2:(⟨#[59,32]⟩:ByteArray).data.toList= [59,32]:=rfl
  have h:=Tryz.strings_Join g 0 cap (ps.map fun p=>⟨p.toArray⟩) ⟨#[59,32]⟩ w (fun j x dD=>by
   rw[Nat.zero_add]
   rw[List.getElem?_map]at dD
   cases hp:ps[j]? with
   |none=>rw[hp]at dD;cases dD
   |some p=>rw[hp]at dD;exact WH O2 hp (zB2 dD).symm) hlt (by rw[List.length_map];omega) (by rw[List.length_map];omega) (by rw[e1,e2,sQ];exact hj)
  rw[List.length_map,e1,e2,sQ,hn]at h
  exact h
theorem dAI(r:Ma.Request)(hra:r.host.addr.length=16)(hrn:r.host.name.length<=1000000){B jb tb sb mb:Nat}{j:Jr.MA}(w:World)(hw:Std w)(h:pB w B jb tb sb mb j)(hlen:j.s.l.length<=3000):
  Calls Tryz.prog 21 #[.pointer (some ⟨jb,0,none⟩),.agg (EB r)] w fun e w'=>e= .returned (.string ⟨(Jr.get j r).2.toArray⟩)/\pB w' B jb tb sb mb (Jr.get j r).1/\AA jb sb mb w w':=by
 have z1:=XG
 have R0:=Row.new w 52 (EB r)
 have C0:=(Below.refl w.heap.size w).alloc (zB3 _) (.cells (EB r) 52)
 have J0:=h.stays C0
 have HS:=zA7 (hw.below C0)
 have rD:=zA7 (fun W hW k=>kAh r hra hrn W hW (k:pB W B jb tb sb mb j))
 unfold VE at rD
 have rG:=zA7 (Jr.hAm h.TH r)
 have uS:=zA7 (Jr.dAg h.fine r)
 have hrl:(Jr.row j r).length<=3000:=by
  have h1:=(Jr.nR j r).length_eq
  have h2:=List.length_filter_le (fun c=>Ma.sends c r j.now) (Sh.all j.s)
  have h3:(Sh.all j.s).length=j.s.l.length:=by unfold Sh.all;rw[List.length_map]
  omega
 have F9:=zA7 (fun l=>Jr.VB.uses (now:=j.now) l h.TH)
 have IR:=zA7 (show(Tryz.prog.info? 52).map (·.size)=some (EB r).size by rw[gR r hra];exact CW)
 have hg1:(Jr.get j r).1=⟨j.rules,Jr.uses j.now (Jr.row j r) j.s,j.now⟩:=rfl
 have hg2:(Jr.get j r).2=Jr.join ((Jr.row j r).map Jr.said):=rfl
 rw[hg1]at uS⊢
 rw[hg2]
 clear h hw hra hrn hg1 hg2 hlen
 generalize Jr.row j r=l at*
 generalize EB r=Q at*
 go_enter Tryz.func21,Tryz.ntmps21
 go_wp2_with (refine pA rfl 52 _ rfl w.heap.size rfl R0 Tryz.underlying52 rfl IR.out ?_)
 generalize w.alloc (.cells Q 52)=x0 at*
 refine(rD.out _ HS.out J0).mono ?_
 rintro e x1 ⟨v0,rfl,hL,d1⟩
 have J1:=(J0.stays d1).toZA
 have T1:=AA.of (jb:=jb) (sb:=sb) (mb:=mb) (C0.trans (d1.mono C0.size)) (zB3 _)
 have HL:=zA7 hL
 obtain⟨A,cp,rfl,hcp,_⟩:=hL
 obtain⟨n,hnn⟩: ∃n,l.length=n:=⟨_,rfl⟩
 have IB:=zA7 hnn
 rw[hnn]at hrl hcp HL⊢
 have lx:=J1.lt
 have LJ:=zA7 J1
 clear hnn R0 J0 C0 d1 HS rD IR
 have HAD:Hid (∀x∈l,(dA x).size=29):=zA7 (fun x hx=>TA x (rG.out x hx).addr)
 go_wp2_with fail
 go_loopw [5,12] (fun u i wr=> ∃(k:Nat)(v:Value),v=u/\k<=n/\i= .int .i64 (k:Int)/\wr.ownsRow x1.heap.size 9 1 v k (((l.take k).map Jr.said).map gA)/\ZA wr B jb tb sb mb ⟨j.rules,Jr.uses j.now (l.take k) j.s,j.now⟩/\AA jb sb mb x1 wr) (fun _ i _=>n- (intOf i).toNat)
 case atStart=>exact⟨0,_,rfl,Nat.zero_le _,rfl,by rw[List.take_zero];exact World.ownsRow_nil x1 _ _ _,J1,AA.refl _ _ _ _⟩
 case round=>
  obtain⟨k,v,rfl,hk,rfl,hown,Jk,Tk⟩:=hrel
  have eH:=zA7 (HL.out.lAF HAD.out (by decide) LJ.out Tk)
  by_cases hlt:k<n
  ·obtain⟨x,hx⟩: ∃x,l[k]? =some x:=⟨_,List.getElem?_eq_getElem (by rw[IB.out];exact hlt)⟩
   have hxm:=List.mem_of_getElem? hx
   have hxn:=rG.out x hxm
   have hxa:=hxn.addr
   obtain⟨g,off,rfl,hcell⟩:=sP (by rw[IB.out];exact eH.out) (fun y hy=>(rG.out y hy).addr) hx
   have ME:=zA7 (hcell wr (Below.refl _ _))
   have htk:l.take (k+1)=l.take k++ [x]:=by rw[List.take_add_one,hx];rfl
   have VJ:Hid ((Sh.use (Jr.uses j.now (l.take k) j.s) x j.now).1=Jr.uses j.now (l.take (k+1)) j.s):=zA7 (by rw[htk,Jr.mA5])
   have TJ:Hid (((l.take (k+1)).map Jr.said).map gA=((l.take k).map Jr.said).map gA++flat (fun p:List UInt8=> #[gA p]) [Jr.said x]):=zA7 (by rw[htk,Y0,List.map_append,List.map_append];rfl)
   have NS:=zA7 (fun W=>iA7 x hxn W)
   have AO:=zA7 (PX hxn)
   have IX:=zA7 (show(Tryz.prog.info? 64).map (·.size)=some (dA x).size by rw[TA x hxa];exact uB)
   have SX:=zA7 (show(dA Ma.xA).size=(dA x).size by rw[TA x hxa];rfl)
   have OX:=zA7 (FD x)
   have KO:=zA7 (fun W (q:NA W sb mb (Jr.uses j.now (l.take k) j.s))=>mA1 x AO.out j.now W q)
   obtain⟨Z,U,D,L⟩:=PA 64 (dA Ma.xA) (dA x) (Below.refl wr.heap.size wr) (zB3 _)
   have J3:=Jk.stays D
   have T3:=Tk.trans (AA.of D (zB3 _))
   have hown3:=hown.kept (below_grown D) (by
    cases hv:v.ownBlock
    ·exact .inl rfl
    ·exact .inr (by simp))
   clear hown Jk Tk D L hcell hx hxm eH htk hxn hxa
   obtain⟨A3,c3,rfl⟩: ∃A c,v= .slice A k c:=by
    rcases hown3.2 with⟨rfl,h0⟩|⟨g,cap,cur,rfl,_⟩
    ·exact⟨none,0,by rw[h0]⟩
    ·exact⟨_,_,rfl⟩
   obtain⟨s,hs⟩: ∃s,Jr.uses j.now (l.take k) j.s=s:=⟨_,rfl⟩
   rw[hs]at J3 VJ KO
   clear hs
   obtain⟨P,hP⟩: ∃P,((l.take k).map Jr.said).map gA=P:=⟨_,rfl⟩
   rw[hP]at hown3 TJ
   clear hP
   generalize hX:dA x=X at*
   clear hX
   go_wp2_with (first
    |(refine jA 15 rfl ?_;refine ZM rfl 64 _ rfl g (off+k*29) rfl X ME.out Tryz.underlying64 rfl IX.out ?_)
    |(refine YC 64 (.tmp 7) (.tmp 15) rfl ?_;refine wpList_store_row rfl 64 _ _ rfl wr.heap.size X rfl rfl 64 _ Z IX.out SX.out OX.out ?_))
   clear Z ME
   generalize(wr.alloc (.cells (dA Ma.xA) 64)).setRow wr.heap.size X=x3 at*
   generalize wr.heap.size=g3 at*
   refine dE (C:=(fun W=>Below x3.heap.size x3 W)) 9 (by kernel_rfl) (by kernel_rfl) (Below.refl _ _).drew ?_
   refine kA ?_
   refine kA ?_
   refine kA ?_
   refine kA ?_ (v:= .pointer (some ⟨sb,0,none⟩)) (hv:=fun wq hC=>by have hcell:=(J3.stays hC).WE;go_simp;try with_reducible rfl)
   refine WB (GB (by rfl) _ _ rfl _ rfl (fun _ hC=>U.stays hC) Tryz.underlying64 rfl IX.out) ?_
   refine kA ?_
   refine kA ?_
   refine kA ?_
   refine rC (.int .i64 j.now) (fun wq hC=>by unfold Oper.quietAt;go_simp;exact(fJ (now:=j.now) wq (J3.stays hC).cell0).mono (fun e w2 ⟨h1,h2⟩=>⟨h1,by rw[<-h2];exact hC⟩)) ?_
   refine wpQuiet_nil ?_
   intro x4 iC
   have U4:=U.stays iC
   have J4:=J3.stays iC
   have T4:=T3.trans (AA.of iC (zB3 _))
   have FH:=hown3.kept (below_grown iC) (by
    cases hv:(Value.slice A3 k c3).ownBlock
    ·exact .inl rfl
    ·exact .inr (by simp))
   have iT:=zA7 (KO.out x4 J4.shelf)
   have nG:=zA7 J4
   clear U J3 T3 iC hown3 KO J4
   have NV:sb<x1.heap.size/\mb<x1.heap.size:=lx.2
   go_wp2_with (first
    |(go_at_call 38;refine iT.out.mono ?_;rintro e x5 ⟨rfl,K5,t5⟩;generalize(Sh.use s x j.now).2=bu at*;have J5:=nG.out.turned t5 K5;have T5:=T4.trans (AA.shelf t5);have U5:Row x5 g3 64 X:=(AA.shelf (jb:=jb) t5).rows nG.out U4 (by decide) (by decide);have hown5:=iA4 FH t5 NV.1 NV.2;clear U4 T4 FH K5 t5 nG iT)
    |(refine jA 27 rfl ?_;refine pA rfl 64 _ rfl g3 rfl U5 Tryz.underlying64 rfl IX.out ?_))
   refine(NS.out _).mono ?_
   rintro e x6 ⟨rfl,d6⟩
   have J6:=J5.stays d6
   have T6:=T5.trans (AA.of d6 (zB3 _))
   have hown6:=hown5.kept (below_grown d6) (by
    cases hv:(Value.slice A3 k c3).ownBlock
    ·exact .inl rfl
    ·exact .inr (by simp))
   have N9:Hid (∀W:World,Row (W.alloc (.cells #[.string ⟨(Jr.said x).toArray⟩] 9)) W.heap.size 9 #[gA (Jr.said x)]):=zA7 (fun W=>Row.new W _ _)
   clear U5 J5 T5 hown5 d6 NS
   go_wp2_with (refine jA 30 rfl ?_;refine bP (enc:=fun p:List UInt8=> #[gA p]) (xs:= [Jr.said x]) rfl _ _ rfl Tryz.underlying93 fAA rfl (by decide) (by decide) rfl (hown6.alloc _) rfl (fun _ _=>rfl) (fun _ _=>by simp[gA,Value.oneCell']) (CQ (N9.out _)) ?ca ?cb ?_)
   case ca=>simp;omega
   case cb=>have:=T6.size;rw[FN];omega
   intro v' x7 nW dQ eAl
   have CA:=(Below.refl x6.heap.size x6).alloc (zB3 _) (.cells #[.string ⟨(Jr.said x).toArray⟩] 9)
   have lQ:=iA3 (hown6.alloc (.cells #[.string ⟨(Jr.said x).toArray⟩] 9))
   have J7:=(J6.stays CA).kept dQ (fun b e=>by
    obtain⟨_,cs,R⟩:=lQ b e
    exact .inr ⟨_,cs,R,by decide,by decide,by decide,by decide⟩)
   have T7:=(T6.trans (AA.of CA (zB3 _))).grown dQ (fun b e=>(lQ b e).1)
   rw[VJ.out]at J7
   have ho8:x7.ownsRow x1.heap.size 9 1 v' (k+1) (((l.take (k+1)).map Jr.said).map gA):=by rw[TJ.out];exact nW
   clear nW hown6 lQ dQ eAl CA J6 T6
   go_wp2
   go_roundw
   case rel=>exact⟨k+1,v',rfl,by omega,by go_num,ho8,J7,T7⟩
   case measure=>simp[intOf];omega
  ·obtain rfl:k=n:=by omega
   have etk:l.take k=l:=List.take_of_length_le (by rw[IB.out];exact zB3 _)
   rw[etk]at hown Jk
   have hjl:(Jr.join (l.map Jr.said)).length<=140737488355328:=by
    have h1:=Jr.RW (l.map Jr.said) (fun y hy=>by
     obtain⟨c,hc,rfl⟩:=List.mem_map.1 hy
     exact Jr.kA1 (rG.out c hc))
    rw[List.length_map,IB.out]at h1
    omega
   have U8:=zA7 (fAJ (by rw[List.length_map,IB.out]) hown (by omega) hjl)
   have I9:=zA7 (F9.out l)
   clear hown hjl etk eH
   go_wp2_with fail
   refine U8.out.mono ?_
   rintro e x8 ⟨rfl,d8⟩
   have J8:=Jk.stays d8
   have T8:=(T1.trans Tk).trans (AA.of d8 (zB3 _))
   go_wp2
   go_ret
   exact⟨rfl,⟨J8,uS.out,I9.out⟩,T8⟩
end Go.Proofs.YtdaaoopkkhfbhaaGreatDoor
namespace Go.Proofs.YtdaaoopkkhfbhaaGreatDoor
namespace Jr
open Ma Sh Oct
attribute [local irreducible] store
def hA:bA.Host:=⟨1,[97,46,120,46,99,111,109],bA.IA⟩
def hB:bA.Host:=⟨1,[98,46,120,46,99,111,109],bA.IA⟩
def hY:bA.Host:=⟨1,[121,46,99,111,109],bA.IA⟩
def hd(n:List UInt8):Hd.Head:= {Hd.zero with name:=n,value:= [49]}
end Jr
end Go.Proofs.YtdaaoopkkhfbhaaGreatDoor
namespace Go.Proofs.YtdaaoopkkhfbhaaGreatDoor
namespace Jr
open Ma Sh Oct
def hH:bA.Host:=⟨1,[104],bA.IA⟩
def pF:Ur.URL:=⟨false,hH,80,[47,120,47,121]⟩
def uH:Ur.URL:=⟨false,hH,80,[47]⟩
def jI:Ur.URL:=⟨true,hH,443,[47]⟩
theorem iAl:Ur.parse [104,116,116,112,58,47,47,104,47,120,47,121]=(0,pF):=by decide+kernel
theorem iAi:Ur.parse [104,116,116,112,58,47,47,104]=(0,uH):=by decide+kernel
theorem iAj:Ur.parse [104,116,116,112,58,47,47,104,47]=(0,uH):=by decide+kernel
theorem iAk:Ur.parse [104,116,116,112,115,58,47,47,104,47]=(0,jI):=by decide+kernel
def zR:List UInt8:= [97,61,49]
def MZ:List UInt8:= [98,61,50,59,32,80,97,116,104,61,47,120]
def aI:Request:=⟨false,hH,[47,120,47,122],0⟩
def j1:MA:=(set (fresh []) pF zR).1
def j2:MA:=(set j1 pF MZ).1
theorem kAk:(set (fresh []) pF zR).2=0:=by decide+kernel
theorem kAl:(set j1 pF MZ).2=0:=by decide+kernel
theorem dAM:(get j2 aI).2= [97,61,49,59,32,98,61,50]:=by decide+kernel
theorem gAi:(get j2 aI).1.s.l.length=2:=by decide+kernel
def JN:List UInt8:= [97,61,49,59,32,83,101,99,117,114,101]
def tA2:List UInt8:= [97,61,50]
def n1:MA:=(set (fresh []) jI JN).1
theorem kAm:(set (fresh []) jI JN).2=0:=by decide+kernel
theorem EN {j:MA}{u:Ur.URL}{t:List UInt8}{n:Int}(h:(set j u t).2=n)(hn:n≠0):set j u t=(j,n):=by
 refine Prod.ext ?_ h
 rw[<-h]at hn
 unfold set at hn⊢
 split
 ·rfl
 split
 ·rfl
 split
 ·rfl
 split
 ·rfl
 ·rename_i k1 k2 k3 k4
  exfalso
  rw[if_neg k1,if_neg k2,if_neg k3,if_neg k4]at hn
  exact hn rfl
theorem Z0 {j:MA}{n m:Int}(h:(tick j n).2=m)(hm:m≠0):tick j n=(j,m):=by
 refine Prod.ext ?_ h
 rw[<-h]at hm
 unfold tick at hm⊢
 split
 ·rfl
 ·rename_i k
  exfalso
  rw[if_neg k]at hm
  exact hm rfl
theorem kAn:set n1 uH tA2=(n1,121):=EN (by decide+kernel) (by decide)
theorem lAk:tick n1 (-1)=(n1,122):=Z0 (by decide+kernel) (by decide)
theorem kAo:set n1 uH []=(n1,82):=EN (by decide+kernel) (by decide)
theorem kAp:set n1 Ur.zero zR=(n1,41):=EN (by decide+kernel) (by decide)
theorem kAq:set n1 uH JN=(n1,104):=EN (by decide+kernel) (by decide)
theorem hAv:n1.now=0:=by decide+kernel
def n7:MA:=(tick n1 1099511627776).1
theorem lAl:(tick n1 1099511627776).2=0:=by decide+kernel
theorem lAm:tick n7 1=(n7,122):=Z0 (by decide+kernel) (by decide)
theorem hAw:n7.now=1099511627776:=by decide+kernel
attribute [local irreducible] store
end Jr
end Go.Proofs.YtdaaoopkkhfbhaaGreatDoor
namespace Go.Proofs.YtdaaoopkkhfbhaaGreatDoor
open Go.RowKit Go.Maps
theorem XL(s:ByteArray)(u:Ur.URL)(hp:Ur.parse s.data.toList=(0,u))(w:World)(hs:s.size<=1048576):
  Calls Tryz.prog 13 #[.string s] w fun e w'=>e= .returned (.agg (nA u))/\Below w.heap.size w w':=by
 have z0:=kS
 have HU:=zA7 (fun W=>jAq s W hs)
 have hal:u.host.addr.length=16:=by have:=Ur.iAe s.data.toList;rw[hp]at this;exact this
 rw[hp]at HU
 unfold ML at HU
 have HX:=zA7 (show(Tryz.prog.info? 34).map (·.size)=some (nA u).size by rw[VG u hal];exact DB)
 have lH:=zA7 (show(nA Ur.zero).size=(nA u).size by rw[VG u hal];rfl)
 have OE:=zA7 (KE u)
 clear hp hs hal
 generalize nA u=U at*
 have R0:=Row.new w 34 (nA Ur.zero)
 have C0:=(Below.refl w.heap.size w).alloc (zB3 _) (.cells (nA Ur.zero) 34)
 go_enter Tryz.func13,Tryz.ntmps13
 go_wp2_with fail
 generalize w.alloc (.cells (nA Ur.zero) 34)=x0 at*
 refine(HU.out _).mono ?_
 rintro e x1 ⟨rfl,d1⟩
 obtain⟨T,L,C,K⟩:=PA 34 (nA Ur.zero) U (Below.refl x1.heap.size x1) (zB3 _)
 have R1:=K _ _ _ (R0.stays d1)
 have C1:=C0.trans (d1.mono C0.size)
 have C2:=C1.trans (C.mono C1.size)
 have HF:=zA7 (fun d=>(below_setRow C2 (zB3 _) d:Below w.heap.size w (World.setRow _ w.heap.size d)))
 clear R0 d1 C C0 C1 K
 go_wp2_with (first
  |(refine YC 34 (.tmp 3) (.tmp 8) rfl ?_;refine wpList_store_row rfl 34 _ _ rfl x1.heap.size U rfl rfl 34 _ T HX.out lH.out OE.out ?_)
  |(refine jA 10 rfl ?_;refine pA rfl 34 _ rfl x1.heap.size rfl L Tryz.underlying34 rfl HX.out ?_)
  |(refine YC 34 (.tmp 2) (.tmp 10) rfl ?_;refine wpList_store_row rfl 34 _ _ rfl w.heap.size U rfl rfl 34 _ R1 HX.out lH.out OE.out ?_))
 exact bodyPost_ret (v:= .agg U) (results_cell_row rfl _ _ w.heap.size _ _ _ _ rfl (R1.whole U) Tryz.underlying34 rfl HX.out) rfl ⟨rfl,HF.out _⟩
theorem jAU(u:Ur.URL)(ha:u.host.addr.length=16)(W:World):(Instr.field 34 (.agg (nA u)) 1).run Tryz.prog W= .ok (.agg (cA u.host)) W:=by
 have hagg:(isAgg 32).run Tryz.prog W= .ok true W:=by
  unfold isAgg
  rw[Sem.run_bind,run_underlying Tryz.underlying32 W]
  rfl
 have hsz:(sizeOf 32).run Tryz.prog W= .ok 18 W:=by
  have hi:=mA
  cases hq:Tryz.prog.info? 32 with
  |none=>simp[hq]at hi
  |some i=>
   have hs:i.size=18:=by simpa[hq]using hi
   simp[sizeOf,typeInfo,hq,hs,Sem.run_bind]
 unfold Instr.field
 rw[Sem.run_bind,run_underlying Tryz.underlying34 W]
 simp only[Result.andThen_ok]
 show(part 32 (nA u) 1).run Tryz.prog W=_
 unfold part
 rw[Sem.run_bind,hagg,Result.andThen_ok]
 simp only[↓reduceIte]
 rw[Sem.run_bind,hsz,Result.andThen_ok,<-TR u ha]
 rfl
theorem dA4 {ops:Array Oper}{rest:List Oper}{o:Oper}{a:Act}{w:World}{Q:Exit->Act->World->Prop}(hw:Region.wanted o (yielded ops a.tmps)=true)(x:Operand)(ho:o.op= .field 34 x 1)(u:Ur.URL)(hx:a.eval x= .agg (nA u))(ha:u.host.addr.length=16)
  (h:wpList Tryz.prog ops Q rest (a.put o.dst (.agg (cA u.host))) w):wpList Tryz.prog ops Q (o::rest) a w:=by
 refine wpList_step fun K hK=>?_
 simp only[hw,if_true]
 unfold Oper.wp execOp
 rw[ho]
 dsimp only
 rw[hx,Sem.run_bind,jAU u ha w,Result.andThen_ok]
 exact hK _ _ h
theorem gAh {w:World}{v:Value}{l:List Ma.iA}(h:QB dA w v l): ∃A c,v= .slice A l.length c:=by
 obtain⟨A,c,e,_⟩:=h
 exact⟨A,c,e⟩
theorem fAH(w:World)(hw:mB w):Calls Tryz.prog 11 #[] w fun e w'=>e= .returned (.bool true)/\Below w.heap.size w w':=by
 have HT:=zA7 (TX [] (.slice none 0 0) w hw.MC.std (ZX w) (by decide) (by simp))
 unfold aK at HT
 have HN:=zA7 (fun W n₀ tb tm (h:TabAt W n₀ tb tm (Sx.new []))(hB:w.heap.size<=W.heap.size)=>RX w.heap.size W h hB)
 have xI:=zA7 (fun W=>XL ⟨#[104,116,116,112,58,47,47,104,47,120,47,121]⟩ Jr.pF Jr.iAl W (by decide))
 have gT:=zA7 (fun W=>XL ⟨#[104,116,116,112,58,47,47,104]⟩ Jr.uH Jr.iAi W (by decide))
 have tB:=zA7 (fun W hW jb tb sb mb k=>oR Jr.pF rfl (by decide) (by decide) ⟨#[97,61,49]⟩ (by decide) W hW (k:pB W w.heap.size jb tb sb mb (Jr.fresh [])) (by decide) (by decide))
 have HS2:=zA7 (fun W hW jb tb sb mb k h1 h2=>oR Jr.pF rfl (by decide) (by decide) ⟨#[98,61,50,59,32,80,97,116,104,61,47,120]⟩ (by decide) W hW (k:pB W w.heap.size jb tb sb mb Jr.j1) h1 h2)
 rw[show(Jr.set (Jr.fresh []) Jr.pF (⟨#[97,61,49]⟩:ByteArray).data.toList)=(Jr.j1,0) from Prod.ext rfl Jr.kAk]at tB
 rw[show(Jr.set Jr.j1 Jr.pF (⟨#[98,61,50,59,32,80,97,116,104,61,47,120]⟩:ByteArray).data.toList)=(Jr.j2,0) from Prod.ext rfl Jr.kAl]at HS2
 have HG:=zA7 (fun W hW jb tb sb mb k h1=>dAI Jr.aI rfl (by decide) W hW (k:pB W w.heap.size jb tb sb mb Jr.j2) h1)
 have hgt:(⟨(Jr.get Jr.j2 Jr.aI).2.toArray⟩:ByteArray)=⟨#[97,61,49,59,32,98,61,50]⟩:=by rw[Jr.dAM]
 have hgl:=Jr.gAi
 have CS:Hid (Jr.j1.s.last<1000000/\Jr.j1.s.l.length<3000):=zA7 (by decide+kernel)
 have HL2:Hid (Jr.j2.s.l.length<=3000):=zA7 (by decide+kernel)
 rw[hgt]at HG
 generalize Jr.j1=J1 at*
 generalize(Jr.get Jr.j2 Jr.aI).1=J3 at*
 generalize Jr.j2=J2 at*
 clear hgt
 have qS:=zA7 (fun W jb tb sb mb k=>bAQ W (k:pB W w.heap.size jb tb sb mb J3))
 unfold VE at qS
 have hall:(Sh.all J3.s).length=2:=by unfold Sh.all;rw[List.length_map];exact hgl
 have MD:=zA7 hall
 have W7:Hid (Tryz.prog.built 52 [(1,.agg (cA Jr.uH.host)),(2,.string ⟨#[47,120,47,122]⟩)]=some (EB Jr.aI)):=zA7 (by kernel_rfl)
 have HW:=zA7 hw
 clear hall hgl
 generalize EB Jr.aI=RQ at*
 go_enter Tryz.func11,Tryz.ntmps11
 go_wp2_with fail
 refine HT.out.mono ?_
 rintro e x1 ⟨tb,tm,rfl,K1,d1⟩
 go_wp2_with fail
 refine(HN.out _ _ _ _ K1 d1.size).mono ?_
 rintro e x2 ⟨jb,sb,mb,rfl,K2,d2⟩
 have C2:=d1.trans (d2.mono d1.size)
 clear K1 d1 d2 HT HN
 go_wp2_with fail
 refine(xI.out _).mono ?_
 rintro e x3 ⟨rfl,d3⟩
 have K3:=K2.stays d3
 have C3:=C2.trans (d3.mono C2.size)
 clear K2 d3 C2
 go_wp2_with fail
 refine(tB.out _ (HW.out.below C3) jb tb sb mb K3).mono ?_
 rintro e x4 ⟨rfl,K4,t4⟩
 have C4:=C3.trans (t4.below K3.low.1 K3.low.2.1 K3.low.2.2 C3.size)
 clear K3 t4 C3 tB
 go_wp2_with fail
 refine(xI.out _).mono ?_
 rintro e x5 ⟨rfl,d5⟩
 have K5:=K4.stays d5
 have C5:=C4.trans (d5.mono C4.size)
 clear K4 d5 C4
 go_wp2_with fail
 refine(HS2.out _ (HW.out.below C5) jb tb sb mb K5 CS.out.1 CS.out.2).mono ?_
 rintro e x6 ⟨rfl,K6,t6⟩
 have C6:=C5.trans (t6.below K5.low.1 K5.low.2.1 K5.low.2.2 C5.size)
 clear K5 t6 C5 HS2 xI
 go_wp2_with fail
 refine(gT.out _).mono ?_
 rintro e x7 ⟨rfl,d7⟩
 have K7:=K6.stays d7
 have C7:=C6.trans (d7.mono C6.size)
 clear K6 d7 C6
 go_wp2_with (first
  |(refine jA 20 rfl ?_;refine dA4 rfl _ rfl Jr.uH rfl rfl ?_)
  |(refine jA 21 rfl ?_;refine CI rfl 52 _ rfl _ (by rfl) _ W7.out ?_))
 refine(HG.out _ (HW.out.below C7).MC.std jb tb sb mb K7 HL2.out).mono ?_
 rintro e x8 ⟨rfl,K8,t8⟩
 have C8:=C7.trans (t8.below K7.low.1 K7.low.2.1 K7.low.2.2 C7.size)
 clear K7 t8 C7 HG gT
 go_wp2_with fail
 refine(qS.out _ jb tb sb mb K8).mono ?_
 rintro e x9 ⟨v,rfl,hL,d9⟩
 have C9:=C8.trans (d9.mono C8.size)
 obtain⟨A,c,hv⟩:=gAh hL
 rw[MD.out]at hv
 subst hv
 clear hL K8 d9 C8
 go_wp2
 go_ret
 exact⟨rfl,C9⟩
end Go.Proofs.YtdaaoopkkhfbhaaGreatDoor
