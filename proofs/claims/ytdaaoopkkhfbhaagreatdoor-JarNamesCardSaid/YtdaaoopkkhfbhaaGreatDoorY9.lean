/- The walk of a shelf's Expire. -/
import Derived.Test.YtdaaoopkkhfbhaaGreatDoorY8
import Derived.Laws.CopyRow
set_option maxHeartbeats 4000000
set_option maxRecDepth 100000
namespace Go.Proofs.YtdaaoopkkhfbhaaGreatDoor
open Go.RowKit Go.Maps
theorem fV(now:Int){sb mb:Nat}{s:Sh.Shelf}(w:World)(h:NA w sb mb s):
  Calls Tryz.prog 34 #[.pointer (some ⟨sb,0,none⟩),.int .i64 now] w fun e w'=>e= .returned (.int .i64 ((Sh.expire s now).2:Int))/\NA w' sb mb (Sh.expire s now).1/\LB sb mb w w':=by
 have z0:=nL
 have z1:=lI
 have c0:=h.cell0
 have hle:=h.length
 obtain⟨x1,x2,x3⟩:=Sh.cAY s now
 have HW:=zA7 (Sh.dS h.well now)
 obtain⟨⟨t,m⟩,ht⟩: ∃t,Sh.expire s now=t:=⟨_,rfl⟩
 rw[ht]at x1 x2 x3 HW⊢
 dsimp only at x1 x2 x3 HW⊢
 have tG:=zA7 h.okay
 have lO:Hid (∀S:List Sh.Kept,(S++ []).Perm s.l->S.countP (fun k=> !Sh.alive now k)=m):=zA7 (fun S hp=>by rw[List.append_nil]at hp;rw[x3];exact hp.countP_eq _)
 have NJ:Hid (∀S T:List Sh.Kept,(S++T).Perm s.l->S.countP (fun k=> !Sh.alive now k)<=1000000):=zA7 (fun S T hp=>by
  have h1:=hp.length_eq
  have h2:=List.countP_le_length (p:=fun k:Sh.Kept=> !Sh.alive now k) (l:=S)
  rw[zB4]at h1
  omega)
 have M8:Hid (∀W (S L:List Sh.Kept),(S++ []).Perm s.l->L.Perm (S.filter (Sh.alive now)++ [])->MapAt W mb L->Row W sb 101 #[.map (some mb),.int .i64 s.last]->NA W sb mb t):=zA7 (fun W S L hp hL hM hR=>by
  rw[List.append_nil]at hp hL
  refine⟨HW.out,fun k hk=>?_,by rw[x2];exact h.few,h.apart,by rw[x2];exact hR,hM.perm (hL.trans ?_)⟩
  ·rw[x1]at hk
   exact h.okay k (List.mem_filter.1 hk).1
  ·rw[x1]
   exact hp.filter _)
 have HM:=zA7 h
 clear hle x1 x2 x3 ht h
 go_enter Tryz.func34,Tryz.ntmps34
 go_wp2_with (at_range;refine yN rfl _ rfl rfl HM.out.map HM.out.keys HM.out.okay ?_;intro w1 hr1 hg1 hs1)
 go_frame
 have C1:Below w.heap.size w w1:=(Below.refl _ w).grown hg1 (zB3 _) (fun _ e=>by cases e)
 have R1:Row w1 sb 101 #[.map (some mb),.int .i64 s.last]:=(hg1.block sb HM.out.row.lt (by simp)).trans HM.out.row
 have hsb:=HM.out.row.lt
 have hap:=HM.out.apart
 clear hs1 c0
 go_loopw [5] (fun v wr=> ∃S T L,(S++T).Perm s.l/\L.Perm (S.filter (Sh.alive now)++T)/\v= .int .i64 ((S.countP fun k=> !Sh.alive now k:Nat):Int)/\xB wr mb w.heap.size s.l.length L T/\Row wr sb 101 #[.map (some mb),.int .i64 s.last]/\LB sb mb w wr)
  (fun _ wr=>wr.rangeLeft mb w.heap.size)
 case atStart=>exact⟨[],s.l,s.l,List.Perm.refl _,List.Perm.refl _,rfl,hr1,R1,.of C1 (zB3 _)⟩
 case round=>
  obtain⟨S,T,L,hp,hL,rfl,hr,hR,hb⟩:=hrel
  clear hr1 C1 hg1 R1
  have hle:=NJ.out S T hp
  go_wp2_with (first|(at_next;refine iN rfl _ rfl rfl hr ?_ ?_))
  ·rintro rfl
   have HC:=zA7 (lO.out S hp)
   have HE:=zA7 (M8.out wr S L hp hL hr.map hR)
   go_wp2
   go_ret
   exact⟨by rw[HC.out];rfl,HE.out,hb⟩
  ·intro k T' w2 hpt hr2 hlt hg2 hs2 hen
   have HS2:=zA7 hs2
   obtain⟨hp2,hkm⟩:=mem_left hp hpt
   have ko:=tG.out k hkm
   have pG:=zA7 hlt
   have gQ:=hr.JM hpt
   have hfr:=hr.fresh hpt
   have hrl:w.heap.size≠sb:=by omega
   have C2:LB sb mb w w2:=⟨hg2.os.trans hb.os,hg2.tape.trans hb.tape,hg2.output.trans hb.output,Nat.le_trans hb.size hg2.size,fun i hi h1 h2=>(hg2.block i (Nat.lt_of_lt_of_le hi hb.size) (fun e=>by have:=zB2 e;omega)).trans (hb.same i hi h1 h2)⟩
   have R2:Row w2 sb 101 #[.map (some mb),.int .i64 s.last]:=(hg2.block sb hR.lt (fun e=>hrl (zB2 e).symm)).trans hR
   have ha:=ko.addr
   have HP:=zA7 (show(Tryz.prog.info? 134).map (·.size)=some (uA k.c).size by rw[FE k.c ha];exact TI)
   have PE:=zA7 (show(uA Ma.zero).size=(uA k.c).size by rw[FE k.c ha];rfl)
   have mC:=zA7 (TK k.c)
   obtain⟨X,hX⟩: ∃X,rA k=X:=⟨_,rfl⟩
   rw[hX]at hen
   have HX:=zA7 (show(Tryz.prog.info? 136).map (·.size)=some X.size by rw[<-hX,zC _ ko.addr];exact PF)
   have vB:=zA7 (show(rA Sh.JA).size=X.size by rw[<-hX,zC _ ko.addr];rfl)
   have lB:=zA7 (show X.all (·.oneCell')=true by rw[<-hX];exact PH _)
   have VV:X[25]? =some (.int .i64 k.c.expires):=by rw[<-hX];exact LG (dU k.c ha)
   have hN:(w2.alloc (.cells (uA Ma.zero) 134)).heap.size=w2.heap.size+1:=by simp
   have T6:=(Row.new w2 134 (uA Ma.zero)).alloc (.cells (rA Sh.JA) 136)
   have T7:=Row.new (w2.alloc (.cells (uA Ma.zero) 134)) 136 (rA Sh.JA)
   rw[hN]at T7
   have D0:=((Below.refl w2.heap.size w2).alloc (zB3 _) (.cells (uA Ma.zero) 134)).alloc (by rw[hN];omega) (.cells (rA Sh.JA) 136)
   have hne:w2.heap.size+1≠w2.heap.size:=by omega
   have U6:=(T6.whole (uA k.c)).aside (Ne.symm hne) X
   have T8:=T7.aside hne (uA k.c)
   have U7:=T8.whole X
   have D1:=below_setRow (g:=w2.heap.size) D0 (zB3 _) (uA k.c)
   have D2:=below_setRow (g:=w2.heap.size+1) D1 (by omega) X
   have u25:=(U7.cell 25).trans VV
   have hr3:=hr2.stays D2
   have pD:Hid (World.rangeLeft _ mb w.heap.size<wr.rangeLeft mb w.heap.size):=zA7 (by rw[hr2.RF D2];exact pG.out)
   have R3:=R2.stays D2
   have C3:=C2.trans (.of D2 (zB3 _))
   have HA:Hid (Sh.alive now k= !decide (k.c.expires<=now)):=zA7 (by
    unfold Sh.alive
    by_cases hq:k.c.expires<=now
    ·rw[zA9 hq,zA8 (by omega)];rfl
    ·rw[zA8 hq,zA9 (by omega)];rfl)
   have rD:Hid (((S++ [k]).countP fun k=> !Sh.alive now k)=(S.countP fun k=> !Sh.alive now k)+(if !Sh.alive now k then 1 else 0)):=zA7 (by
    rw[List.countP_append,List.countP_cons,List.countP_nil];simp)
   have vL:Hid ((S++ [k]).filter (Sh.alive now)=S.filter (Sh.alive now)++(if Sh.alive now k then [k]else [])):=zA7 (by
    rw[List.filter_append,List.filter_cons,List.filter_nil])
   clear hs2 hlt hg2 hr2 hX VV D0 D1 D2 R2 C2 hN T7
   generalize k.c.expires=ex at*
   by_cases hq:ex<=now
   ·rw[zA9 hq]at HA
    rw[HA.out]at rD vL
    have hLn:L.Perm (k::(S.filter (Sh.alive now)++T')):=hL.trans ((List.Perm.append_left _ hpt).trans List.perm_middle)
    go_wp2_with (first
     |(refine YC 134 (.tmp 6) (.tmp 16) rfl ?_;refine wpList_store_row rfl 134 _ _ rfl w2.heap.size (uA k.c) rfl rfl 134 _ T6 HP.out PE.out mC.out ?_)
     |(refine YC 136 (.tmp 7) (.tmp 17) rfl ?_;refine wpList_store_row rfl 136 _ _ rfl (w2.heap.size+1) X rfl rfl 136 _ T8 HX.out vB.out lB.out ?_))
    generalize(World.setRow (World.setRow _ _ _) (w2.heap.size+1) X)=x3 at*
    generalize w2.heap.size=g6 at*
    have AP:=zA7 (fun W (hW:Below x3.heap.size x3 W)=>U6.stays hW)
    have AR:=zA7 (fun W (hW:Below x3.heap.size x3 W)=>R3.stays hW)
    have AG:=zA7 (fun W (hW:Below x3.heap.size x3 W)=>hr3.stays hW)
    have AL:=zA7 (fun W (hW:Below x3.heap.size x3 W)=>hr3.RF hW)
    have AC:=zA7 (fun W (hW:Below x3.heap.size x3 W)=>show W.cell? ⟨sb,0,none⟩=some (.map (some mb)) by rw[(AR.out W hW).cell];rfl)
    clear U6 U7 u25 T8 T6 R3
    refine dE (C:=(fun W=>Below x3.heap.size x3 W)) 5 (by kernel_rfl) (by kernel_rfl) (Below.refl _ _).drew ?_
    simp only[List.take_succ_cons,List.take_zero]
    refine kA ?_
    refine kA ?_
    refine kA ?_
    refine kA ?_ (v:= .map (some mb)) (hv:=fun wq hC=>by have hcell:=AC.out wq hC;go_simp;try with_reducible rfl)
    refine WB (GB (by rfl) _ _ rfl _ rfl AP.out Tryz.underlying134 rfl HP.out) ?_
    refine wpQuiet_nil ?_
    intro x4 hC
    have R4:=AR.out x4 hC
    have G4:=AG.out x4 hC
    have L4:=zA7 (AL.out x4 hC)
    have C4:=C3.trans (.of hC (zB3 _))
    clear AP AR AG AL AC C3 hC hr3
    simp only[List.drop_succ_cons,List.drop_zero]
    go_wp2_with (at_delete;refine cAF rfl _ _ rfl rfl G4 gQ rfl hLn hfr ?_;intro x5 G5 l5 hT;have L5:=zA7 l5;clear l5)
    go_roundw
    case rel=>
     refine⟨S++ [k],T',S.filter (Sh.alive now)++T',hp2,by rw[vL.out];simp,by rw[rD.out];go_num,G5,(hT.grown.block sb R4.lt (fun e=>hap (zB2 e).symm)).trans R4,C4.trans (.turned hT)⟩
    case measure=>exact Nat.lt_of_le_of_lt L5.out (by rw[L4.out];exact pD.out)
   ·rw[zA8 hq]at HA
    rw[HA.out]at rD vL
    have hLn:L.Perm ((S.filter (Sh.alive now)++ [k])++T'):=hL.trans ((List.Perm.append_left _ hpt).trans (by simp))
    go_wp2_with (first
     |(refine YC 134 (.tmp 6) (.tmp 16) rfl ?_;refine wpList_store_row rfl 134 _ _ rfl w2.heap.size (uA k.c) rfl rfl 134 _ T6 HP.out PE.out mC.out ?_)
     |(refine YC 136 (.tmp 7) (.tmp 17) rfl ?_;refine wpList_store_row rfl 136 _ _ rfl (w2.heap.size+1) X rfl rfl 136 _ T8 HX.out vB.out lB.out ?_))
    go_roundw
    case rel=>exact⟨S++ [k],T',L,hp2,by rw[vL.out];exact hLn,by rw[rD.out];go_num,hr3,R3,C3⟩
    case measure=>exact pD.out
end Go.Proofs.YtdaaoopkkhfbhaaGreatDoor
namespace Go.Proofs.YtdaaoopkkhfbhaaGreatDoor
open Go.RowKit
theorem iAm(c:UInt8)(w:World):Calls Tryz.prog 254 #[.int .u8 (c.toNat:Int)] w fun e w'=>e= .returned (.bool (Dt.YA c))/\w=w':=by
 have hc:=c.toNat_lt
 have HB:Hid (Dt.YA c=decide (c.toNat=9\/(32<=c.toNat/\c.toNat<=47)\/(59<=c.toNat/\c.toNat<=64)\/(91<=c.toNat/\c.toNat<=96)\/(123<=c.toNat/\c.toNat<=126))):=zA7 rfl
 generalize Dt.YA c=r at*
 generalize c.toNat=n at*
 have hor:(0<=n/\n<=8)\/(9<=n/\n<=9)\/(10<=n/\n<=31)\/(32<=n/\n<=47)\/(48<=n/\n<=58)\/(59<=n/\n<=64)\/(65<=n/\n<=90)\/(91<=n/\n<=96)\/(97<=n/\n<=122)\/(123<=n/\n<=126)\/(127<=n/\n<=255):=by omega
 rcases hor with⟨h1,h2⟩|⟨h1,h2⟩|⟨h1,h2⟩|⟨h1,h2⟩|⟨h1,h2⟩|⟨h1,h2⟩|⟨h1,h2⟩|⟨h1,h2⟩|⟨h1,h2⟩|⟨h1,h2⟩|⟨h1,h2⟩
 ·have HR:Hid (r=false):=zA7 (by rw[HB.out];exact zA8 (by omega))
  have e9:((n:Int)==9)=false:=by rw[beq_eq_false_iff_ne];omega
  have eF: ¬(32:Int)<=(n:Int):=by omega
  have fF: ¬(59:Int)<=(n:Int):=by omega
  have gF: ¬(91:Int)<=(n:Int):=by omega
  have dF: ¬(123:Int)<=(n:Int):=by omega
  clear h1 h2 hc
  go_enter Tryz.func254,Tryz.ntmps254
  go_wp2
  go_ret
  exact⟨tA (by rw[HR.out]),rfl⟩
 ·have HR:Hid (r=true):=zA7 (by rw[HB.out];exact zA9 (by omega))
  have e9:((n:Int)==9)=true:=by rw[beq_iff_eq];omega
  have eF: ¬(32:Int)<=(n:Int):=by omega
  have fF: ¬(59:Int)<=(n:Int):=by omega
  have gF: ¬(91:Int)<=(n:Int):=by omega
  have dF: ¬(123:Int)<=(n:Int):=by omega
  clear h1 h2 hc
  go_enter Tryz.func254,Tryz.ntmps254
  go_wp2
  go_ret
  exact⟨tA (by rw[HR.out]),rfl⟩
 ·have HR:Hid (r=false):=zA7 (by rw[HB.out];exact zA8 (by omega))
  have e9:((n:Int)==9)=false:=by rw[beq_eq_false_iff_ne];omega
  have eF: ¬(32:Int)<=(n:Int):=by omega
  have fF: ¬(59:Int)<=(n:Int):=by omega
  have gF: ¬(91:Int)<=(n:Int):=by omega
  have dF: ¬(123:Int)<=(n:Int):=by omega
  clear h1 h2 hc
  go_enter Tryz.func254,Tryz.ntmps254
  go_wp2
  go_ret
  exact⟨tA (by rw[HR.out]),rfl⟩
 ·have HR:Hid (r=true):=zA7 (by rw[HB.out];exact zA9 (by omega))
  have e9:((n:Int)==9)=false:=by rw[beq_eq_false_iff_ne];omega
  have eF:(32:Int)<=(n:Int):=by omega
  have SH:(n:Int)<=(47:Int):=by omega
  have fF: ¬(59:Int)<=(n:Int):=by omega
  have gF: ¬(91:Int)<=(n:Int):=by omega
  have dF: ¬(123:Int)<=(n:Int):=by omega
  clear h1 h2 hc
  go_enter Tryz.func254,Tryz.ntmps254
  go_wp2
  go_ret
  exact⟨tA (by rw[HR.out]),rfl⟩
 ·have HR:Hid (r=false):=zA7 (by rw[HB.out];exact zA8 (by omega))
  have e9:((n:Int)==9)=false:=by rw[beq_eq_false_iff_ne];omega
  have eF:(32:Int)<=(n:Int):=by omega
  have SH: ¬(n:Int)<=(47:Int):=by omega
  have fF: ¬(59:Int)<=(n:Int):=by omega
  have gF: ¬(91:Int)<=(n:Int):=by omega
  have dF: ¬(123:Int)<=(n:Int):=by omega
  clear h1 h2 hc
  go_enter Tryz.func254,Tryz.ntmps254
  go_wp2
  go_ret
  exact⟨tA (by rw[HR.out]),rfl⟩
 ·have HR:Hid (r=true):=zA7 (by rw[HB.out];exact zA9 (by omega))
  have e9:((n:Int)==9)=false:=by rw[beq_eq_false_iff_ne];omega
  have eF:(32:Int)<=(n:Int):=by omega
  have SH: ¬(n:Int)<=(47:Int):=by omega
  have fF:(59:Int)<=(n:Int):=by omega
  have JK:(n:Int)<=(64:Int):=by omega
  have gF: ¬(91:Int)<=(n:Int):=by omega
  have dF: ¬(123:Int)<=(n:Int):=by omega
  clear h1 h2 hc
  go_enter Tryz.func254,Tryz.ntmps254
  go_wp2
  go_ret
  exact⟨tA (by rw[HR.out]),rfl⟩
 ·have HR:Hid (r=false):=zA7 (by rw[HB.out];exact zA8 (by omega))
  have e9:((n:Int)==9)=false:=by rw[beq_eq_false_iff_ne];omega
  have eF:(32:Int)<=(n:Int):=by omega
  have SH: ¬(n:Int)<=(47:Int):=by omega
  have fF:(59:Int)<=(n:Int):=by omega
  have JK: ¬(n:Int)<=(64:Int):=by omega
  have gF: ¬(91:Int)<=(n:Int):=by omega
  have dF: ¬(123:Int)<=(n:Int):=by omega
  clear h1 h2 hc
  go_enter Tryz.func254,Tryz.ntmps254
  go_wp2
  go_ret
  exact⟨tA (by rw[HR.out]),rfl⟩
 ·have HR:Hid (r=true):=zA7 (by rw[HB.out];exact zA9 (by omega))
  have e9:((n:Int)==9)=false:=by rw[beq_eq_false_iff_ne];omega
  have eF:(32:Int)<=(n:Int):=by omega
  have SH: ¬(n:Int)<=(47:Int):=by omega
  have fF:(59:Int)<=(n:Int):=by omega
  have JK: ¬(n:Int)<=(64:Int):=by omega
  have gF:(91:Int)<=(n:Int):=by omega
  have vQ:(n:Int)<=(96:Int):=by omega
  have dF: ¬(123:Int)<=(n:Int):=by omega
  clear h1 h2 hc
  go_enter Tryz.func254,Tryz.ntmps254
  go_wp2
  go_ret
  exact⟨tA (by rw[HR.out]),rfl⟩
 ·have HR:Hid (r=false):=zA7 (by rw[HB.out];exact zA8 (by omega))
  have e9:((n:Int)==9)=false:=by rw[beq_eq_false_iff_ne];omega
  have eF:(32:Int)<=(n:Int):=by omega
  have SH: ¬(n:Int)<=(47:Int):=by omega
  have fF:(59:Int)<=(n:Int):=by omega
  have JK: ¬(n:Int)<=(64:Int):=by omega
  have gF:(91:Int)<=(n:Int):=by omega
  have vQ: ¬(n:Int)<=(96:Int):=by omega
  have dF: ¬(123:Int)<=(n:Int):=by omega
  clear h1 h2 hc
  go_enter Tryz.func254,Tryz.ntmps254
  go_wp2
  go_ret
  exact⟨tA (by rw[HR.out]),rfl⟩
 ·have HR:Hid (r=true):=zA7 (by rw[HB.out];exact zA9 (by omega))
  have e9:((n:Int)==9)=false:=by rw[beq_eq_false_iff_ne];omega
  have eF:(32:Int)<=(n:Int):=by omega
  have SH: ¬(n:Int)<=(47:Int):=by omega
  have fF:(59:Int)<=(n:Int):=by omega
  have JK: ¬(n:Int)<=(64:Int):=by omega
  have gF:(91:Int)<=(n:Int):=by omega
  have vQ: ¬(n:Int)<=(96:Int):=by omega
  have dF:(123:Int)<=(n:Int):=by omega
  have fAV:(n:Int)<=(126:Int):=by omega
  clear h1 h2 hc
  go_enter Tryz.func254,Tryz.ntmps254
  go_wp2
  go_ret
  exact⟨tA (by rw[HR.out]),rfl⟩
 ·have HR:Hid (r=false):=zA7 (by rw[HB.out];exact zA8 (by omega))
  have e9:((n:Int)==9)=false:=by rw[beq_eq_false_iff_ne];omega
  have eF:(32:Int)<=(n:Int):=by omega
  have SH: ¬(n:Int)<=(47:Int):=by omega
  have fF:(59:Int)<=(n:Int):=by omega
  have JK: ¬(n:Int)<=(64:Int):=by omega
  have gF:(91:Int)<=(n:Int):=by omega
  have vQ: ¬(n:Int)<=(96:Int):=by omega
  have dF:(123:Int)<=(n:Int):=by omega
  have fAV: ¬(n:Int)<=(126:Int):=by omega
  clear h1 h2 hc
  go_enter Tryz.func254,Tryz.ntmps254
  go_wp2
  go_ret
  exact⟨tA (by rw[HR.out]),rfl⟩
end Go.Proofs.YtdaaoopkkhfbhaaGreatDoor
namespace Go.Proofs.YtdaaoopkkhfbhaaGreatDoor
open Go.RowKit
namespace Dt
theorem bAV {s:ByteArray}{k:Nat}(h: ∀x∈s.data.toList.take k,YA x=false)(hk:k<s.size)(hc:YA s[k]=true):nB s.data.toList=(s.data.toList.take k,s.data.toList.drop (k+1)):=
 bAU h (by rw[List.getElem?_eq_getElem (by rw[Oct.oA];exact hk)];rfl) hc
theorem hAs {s:ByteArray}{k:Nat}(h: ∀x∈s.data.toList.take k,YA x=false)(hk:k<s.size)(hc:YA s[k]=false): ∀x∈s.data.toList.take (k+1),YA x=false:=by
 rw[Oct.iI s k hk]
 intro x hx
 rcases List.mem_append.1 hx with hx|hx
 ·exact h x hx
 ·rw[List.mem_singleton.1 hx];exact hc
theorem bAW {s:ByteArray}{k:Nat}(h: ∀x∈s.data.toList.take k,YA x=false)(hk:s.size<=k):nB s.data.toList=(s.data.toList,[]):=
 sU (by rw[Oct.oD s k hk]at h;exact h)
end Dt
def SL(a b:List UInt8)(w:World)(e:Ending)(w':World):Prop:=e= .returned (.tuple #[.string ⟨a.toArray⟩,.string ⟨b.toArray⟩])/\Below w.heap.size w w'
theorem bAY(s:ByteArray)(w:World)(hs:s.size<=maxLen):
  Calls Tryz.prog 207 #[.string s] w (SL (Dt.nB s.data.toList).1 (Dt.nB s.data.toList).2 w):=by
 unfold maxLen at hs
 have HP:Hid (∀a b w',Dt.nB s.data.toList=(a,b)->Below w.heap.size w w'->SL (Dt.nB s.data.toList).1 (Dt.nB s.data.toList).2 w (.returned (.tuple #[.string ⟨a.toArray⟩,.string ⟨b.toArray⟩])) w'):=zA7 (fun a b w' h hb=>by rw[h];exact⟨rfl,hb⟩)
 generalize SL (Dt.nB s.data.toList).1 (Dt.nB s.data.toList).2 w=post at*
 go_enter Tryz.func207,Tryz.ntmps207
 go_wp2
 go_loop [7] (fun i=> ∃k:Nat,k<=s.size/\i= .int .i64 k/\ ∀x∈s.data.toList.take k,Dt.YA x=false) (fun i=>s.size- (intOf i).toNat)
 case atStart=>exact⟨0,Nat.zero_le _,rfl,by simp⟩
 case round=>
  obtain⟨k,hk,rfl,hall⟩:=hrel
  have HA:=zA7 hall
  clear hall
  by_cases hlt:k<s.size
  ·have HC:=zA7 (fun W=>iAm s[k] W)
   cases hb:Dt.YA s[k]with
   |true=>
    rw[hb]at HC
    have HR:=zA7 (fun W hW=>HP.out _ _ W (Dt.bAV HA.out hlt hb) hW)
    have e1:(⟨(s.data.toList.take k).toArray⟩:ByteArray)=s.extract 0 k:=by rw[Lib.extract_eq,List.drop_zero,Nat.sub_zero]
    have e2:(⟨(s.data.toList.drop (k+1)).toArray⟩:ByteArray)=s.extract (k+1) s.size:=by rw[Lib.extract_eq,List.take_of_length_le (by rw[List.length_drop,Oct.oA];exact zB3 _)]
    have HR:=zA7 (show∀W,Below w.heap.size w W->post (.returned (.tuple #[.string (s.extract 0 k),.string (s.extract (k+1) s.size)])) W from fun W hW=>by have h:=HR.out W hW;rw[e1,e2]at h;exact h)
    clear e1 e2
    clear hb
    go_wp2_with (go_at_call 254;refine(HC.out _).mono ?_;rintro e w' ⟨rfl,rfl⟩)
    go_quiet (fail)
    go_wp2
    exact HR.out _ (uG _ _ _)
   |false=>
    rw[hb]at HC
    have HM:=zA7 (Dt.hAs HA.out hlt hb)
    clear hb
    go_wp2_with (go_at_call 254;refine(HC.out _).mono ?_;rintro e w' ⟨rfl,rfl⟩)
    go_round
    case rel=>exact⟨k+1,by omega,by go_num,HM.out⟩
    case measure=>simp[intOf];omega
  ·have HR:=zA7 (HP.out _ _ w (Dt.bAW HA.out (by omega)) (Below.refl _ _))
   have e1:(⟨s.data.toList.toArray⟩:ByteArray)=s:=Lib.mk_data s
   have h2:=HR.out
   rw[e1]at h2
   have HR:=zA7 h2
   clear h2 e1
   go_wp2
   exact HR.out
namespace Dt
theorem gA9 {s:ByteArray}{k:Nat}(h:k<lead s.data.toList): ∃hk:k<s.size,48<=s[k].toNat/\s[k].toNat<=57:=by
 have hl:=WM s.data.toList
 rw[Oct.oA]at hl
 have hk:k<s.size:=by omega
 obtain⟨c,hc,hd⟩:=yQ h
 rw[List.getElem?_eq_getElem (by rw[Oct.oA];exact hk)]at hc
 have e:s[k]=c:=zB2 hc
 refine⟨hk,?_⟩
 rw[e]
 simpa[Oct.RA]using hd
theorem hAD {s:List UInt8}{k:Nat}(h:k<=lead s)(h4:k<=4):Oct.numOf (s.take k)<10000:=by
 have h1:=jY h
 have h2:10^k<=10^4:=Nat.pow_le_pow_right (by omega) h4
 omega
end Dt
def bK(o:Option (Nat×List UInt8))(w:World)(e:Ending)(w':World):Prop:=
 e= .returned (.tuple #[.int .i64 (((o.map (·.1)).getD 0:Nat):Int),.string ⟨((o.map (·.2)).getD []).toArray⟩,.bool o.isSome])/\Below w.heap.size w w'
theorem hAC {o:Option (Nat×List UInt8)}(h:o=none){w w':World}(hb:Below w.heap.size w w'):bK o w (.returned (.tuple #[.int .i64 0,.string ⟨#[]⟩,.bool false])) w':=by subst h;exact⟨rfl,hb⟩
theorem hAE {o:Option (Nat×List UInt8)}{n:Nat}{r:List UInt8}(h:o=some (n,r)){w w':World}(hb:Below w.heap.size w w'):bK o w (.returned (.tuple #[.int .i64 (n:Int),.string ⟨r.toArray⟩,.bool true])) w':=by subst h;exact⟨rfl,hb⟩
theorem uP(s:ByteArray)(a b:Nat)(w:World)(hs:s.size<=maxLen)(ha:a<=4)(hb:b<=4):
  Calls Tryz.prog 256 #[.string s,.int .i64 (a:Int),.int .i64 (b:Int)] w (bK (Dt.SB s.data.toList a b) w):=by
 unfold maxLen at hs
 have HT:=zA7 (fun W=>lAA s W)
 have hl:=Dt.WM s.data.toList
 rw[Oct.oA]at hl
 obtain⟨B,hB⟩: ∃B:ByteArray,B=⟨(s.data.toList.drop (Dt.lead s.data.toList)).toArray⟩:=⟨_,rfl⟩
 rw[<-hB]at HT
 have hBs:B.size=s.size-Dt.lead s.data.toList:=by rw[hB];show(List.toArray _).size=_;rw[List.size_toArray,List.length_drop,Oct.oA]
 have HN:=zA7 (fun(h: ¬(a<=Dt.lead s.data.toList/\Dt.lead s.data.toList<=b)) w' (hb:Below w.heap.size w w')=>hAC (o:=Dt.SB s.data.toList a b) (if_neg h) hb)
 have HY:=zA7 (fun(h:a<=Dt.lead s.data.toList/\Dt.lead s.data.toList<=b) w' (hb:Below w.heap.size w w')=>hAE (o:=Dt.SB s.data.toList a b) (if_pos h) hb)
 rw[<-hB]at HY
 have HL:=zA7 (fun(k:Nat)(h:k<Dt.lead s.data.toList)=>Dt.gA9 h)
 have V9:=zA7 (fun(k:Nat)(h:k<=Dt.lead s.data.toList)(h4:k<=4)=>Dt.hAD h h4)
 generalize bK (Dt.SB s.data.toList a b) w=post at*
 generalize Dt.lead s.data.toList=L at*
 have e1:(s.size:Int)- (B.size:Int)=(L:Int):=by omega
 clear hB hBs
 by_cases h1:a<=L
 ·by_cases h2:L<=b
  ·have HYY:=zA7 (HY.out ⟨h1,h2⟩)
   go_enter Tryz.func256,Tryz.ntmps256
   go_wp2_with (go_at_call 280;refine(HT.out _).mono ?_;rintro e w1 ⟨rfl,b1⟩)
   go_loop [11,29] (fun n i=> ∃k:Nat,k<=L/\i= .int .i64 k/\n= .int .i64 ((Oct.numOf (s.data.toList.take k):Nat):Int)) (fun _ i=>L- (intOf i).toNat)
   case atStart=>exact⟨0,Nat.zero_le _,rfl,by simp[Oct.numOf]⟩
   case round=>
    obtain⟨k,hk,rfl,rfl⟩:=hrel
    have hsm:=V9.out k hk (by omega)
    by_cases hlt:k<L
    ·obtain⟨hks,c1,c2⟩:=HL.out k hlt
     have X9:=zA7 (Oct.QK s k hks)
     generalize Oct.numOf (s.data.toList.take k)=n at*
     go_wp2
     go_round
     case rel=>exact⟨k+1,by omega,by go_num,dB (by rw[X9.out];omega)⟩
     case measure=>simp[intOf];omega
    ·have gQ:k=L:=by omega
     subst gQ
     have HR:=zA7 (HYY.out w1 b1)
     generalize Oct.numOf (s.data.toList.take k)=n at*
     go_wp2
     go_ret3
     exact HR.out
  ·have HR:=zA7 (HN.out (fun h=>h2 h.2))
   have k1: ¬(L:Int)<(a:Int):=by omega
   have k2:(b:Int)<(L:Int):=by omega
   clear h1 h2
   go_enter Tryz.func256,Tryz.ntmps256
   go_wp2_with (go_at_call 280;refine(HT.out _).mono ?_;rintro e w1 ⟨rfl,b1⟩)
   go_ret3
   exact HR.out _ b1
 ·have HR:=zA7 (HN.out (fun h=>h1 h.1))
  have k1:(L:Int)<(a:Int):=by omega
  clear h1
  go_enter Tryz.func256,Tryz.ntmps256
  go_wp2_with (go_at_call 280;refine(HT.out _).mono ?_;rintro e w1 ⟨rfl,b1⟩)
  go_ret3
  exact HR.out _ b1
end Go.Proofs.YtdaaoopkkhfbhaaGreatDoor
namespace Go.Proofs.YtdaaoopkkhfbhaaGreatDoor
open Go.RowKit
def oB(ns:List Nat):Array Value:= #[.int .i64 ((ns.getD 0 0:Nat):Int),.int .i64 ((ns.getD 1 0:Nat):Int),.int .i64 ((ns.getD 2 0:Nat):Int)]
theorem IW: #[Value.int .i64 0,.int .i64 0,.int .i64 0]=oB []:=by rfl
theorem fAE(ns:List Nat):(oB ns).size=3:=rfl
theorem OM(ns:List Nat):(oB ns).all (·.oneCell')=true:=by simp[oB,Value.oneCell']
theorem fAD {ns:List Nat}{k:Nat}(h:ns.length=k)(hk:k<3)(n:Nat):(oB ns).setIfInBounds k (.int .i64 (n:Int))=oB (ns++ [n]):=by
 match k,ns,h,hk with
 |0,[],_,_=>rfl
 |1,[a],_,_=>rfl
 |2,[a,b],_,_=>rfl
def xG(o:Option (Nat×Nat×Nat)):List Nat:=match o with|some t=> [t.1,t.2.1,t.2.2]|none=> []
theorem IG:(Tryz.prog.info? 243).map (·.size)=some 3:=by kernel_rfl
def DJ(o:Option (Nat×Nat×Nat))(w:World)(e:Ending)(w':World):Prop:=e= .returned (.tuple #[.agg (oB (xG o)),.bool o.isSome])/\Below w.heap.size w w'
theorem bAE {o:Option (Nat×Nat×Nat)}(h:o=none){w w':World}(hb:Below w.heap.size w w'):DJ o w (.returned (.tuple #[.agg (oB []),.bool false])) w':=by subst h;exact⟨rfl,hb⟩
theorem bAG {o:Option (Nat×Nat×Nat)}{a b c:Nat}(h:o=some (a,b,c)){w w':World}(hb:Below w.heap.size w w'):DJ o w (.returned (.tuple #[.agg (oB [a,b,c]),.bool true])) w':=by subst h;exact⟨rfl,hb⟩
theorem jAe(s:ByteArray)(w:World)(hs:s.size<=maxLen):
  Calls Tryz.prog 255 #[.string s] w (DJ (Dt.OB s.data.toList) w):=by
 have ND:=zA7 (fun(h:Dt.OB s.data.toList=none) w' (hb:Below w.heap.size w w')=>bAE h hb)
 have mC:=zA7 (fun a b c (h:Dt.OB s.data.toList=some (a,b,c)) w' (hb:Below w.heap.size w w')=>bAG h hb)
 generalize hpost:DJ (Dt.OB s.data.toList) w=post at*
 clear hpost
 have W9:=zA7 (Dt.Clock.start s.data.toList)
 have hsl:=Oct.oA s
 have z3:=IW
 have HS:=zA7 hs
 clear hs
 go_enter Tryz.func255,Tryz.ntmps255
 go_wp2_with fail
 have R0:=(Row.new w 243 (oB [])).alloc (.cells (oB []) 243)
 have hN:(w.alloc (.cells (oB []) 243)).heap.size=w.heap.size+1:=by simp
 have F0:=Row.new (w.alloc (.cells (oB []) 243)) 243 (oB [])
 have B0:=((Below.refl w.heap.size w).alloc (zB3 _) (.cells (oB []) 243)).alloc (by simp) (.cells (oB []) 243)
 rw[hN]at F0
 clear hN
 generalize(w.alloc (.cells (oB []) 243)).alloc (.cells (oB []) 243)=w0 at*
 go_loopw [5,11] (fun v i wr=> ∃(k:Nat)(ns:List Nat)(r:ByteArray),k<=3/\v= .string r/\i= .int .i64 k/\Dt.Clock s.data.toList k ns r.data.toList/\Row wr w.heap.size 243 (oB [])/\Row wr (w.heap.size+1) 243 (oB ns)/\Below w.heap.size w wr) (fun _ i _=>3- (intOf i).toNat)
 case atStart=>exact⟨0,[],s,Nat.zero_le _,rfl,rfl,W9.out,R0,F0,B0⟩
 case round=>
  clear R0 F0 B0
  obtain⟨k,ns,r,hk,rfl,rfl,hcl,R,F,hb⟩:=hrel
  have hrl:=hcl.shorter
  have OI:=hcl.few
  rw[Oct.oA,hsl]at hrl
  have oI:=zA7 hcl
  clear hcl
  by_cases hlt:k<3
  ·have hrm:r.size<=maxLen:=Nat.le_trans hrl HS.out
   have nI:=zA7 (fun W=>uP r 1 2 W hrm (by omega) (by omega))
   clear hrm
   cases hn:Dt.tC r.data.toList with
   |none=>
    have xO:=zA7 (ND.out (oI.out.no hlt hn))
    have HC:Hid (∀W,Calls Tryz.prog 256 #[.string r,.int .i64 1,.int .i64 2] W fun e w'=>e= .returned (.tuple #[.int .i64 0,.string ⟨#[]⟩,.bool false])/\Below W.heap.size W w'):=zA7 (fun W=>by have:=nI.out W;rw[Dt.qU,hn]at this;exact this)
    clear nI hn
    go_wp2_with fail
    refine(HC.out _).mono ?_
    rintro e w2 ⟨rfl,b2⟩
    have R2:=R.stays b2
    have B2:=hb.trans (b2.mono hb.size)
    go_wp2_with (first
     |(refine jA 22 rfl ?_;refine wpList_build rfl 243 #[] rfl ?_ ?_; (·rfl); (·rfl))
     |(refine wpList_store_row rfl 243 _ _ rfl w.heap.size (oB []) rfl rfl 243 _ R2 IG rfl (OM _) ?_))
    exact bodyPost_ret (v:= .tuple #[.agg (oB []),.bool false]) (yA rfl _ _ w.heap.size _ _ _ rfl _ rfl (R2.whole _) Tryz.underlying243 rfl IG) rfl (xO.out _ (below_setRow B2 (zB3 _) _))
   |some t=>
    obtain⟨n,q⟩:=t
    have HC:Hid (∀W,Calls Tryz.prog 256 #[.string r,.int .i64 1,.int .i64 2] W fun e w'=>e= .returned (.tuple #[.int .i64 (n:Int),.string ⟨q.toArray⟩,.bool true])/\Below W.heap.size W w'):=zA7 (fun W=>by have:=nI.out W;rw[Dt.qU,hn]at this;exact this)
    have U9:Hid (∀W,Calls Tryz.prog 150 #[.string ⟨q.toArray⟩,.string ⟨#[58]⟩] W fun e w'=>e= .returned (.string ⟨(Dt.skip q).toArray⟩)/\W=w'):=zA7 (fun W=>kAy ⟨q.toArray⟩ W)
    have Z8:=zA7 (oI.out.more hlt hn)
    have HF:=zA7 (fAD OI hlt n)
    clear nI hn
    generalize(⟨q.toArray⟩:ByteArray)=Q at*
    go_wp2_with fail
    refine(HC.out _).mono ?_
    rintro e w2 ⟨rfl,b2⟩
    have R2:=R.stays b2
    have B2:=hb.trans (b2.mono hb.size)
    have F2:=F.stays b2
    clear R F hb b2
    obtain⟨u1,c1⟩: ∃u,w2.cell? ⟨w.heap.size+1,k,none⟩=some u:=⟨_,by rw[F2.cell];exact Array.getElem?_eq_getElem (by rw[fAE];exact hlt)⟩
    have f1:=F2.free k
    have F3:=F2.set k (.int .i64 (n:Int))
    rw[HF.out]at F3
    have B3:=B2.setCell (p:=⟨w.heap.size+1,k,none⟩) (Nat.le_succ _) (.int .i64 (n:Int))
    have R3:=R2.other (p:=⟨w.heap.size+1,k,none⟩) (by simp) (.int .i64 (n:Int))
    have hk3:(k:Int)<3:=by omega
    clear F2 R2 B2
    go_wp2_with (go_at_call 150;refine(U9.out _).mono ?_;rintro e w' ⟨rfl,rfl⟩)
    go_roundw
    case rel=>exact⟨k+1,ns++ [n],⟨(Dt.skip q).toArray⟩,by omega,rfl,by go_num,Z8.out,R3,F3,B3⟩
    case measure=>simp[intOf];omega
  ·have hk3:k=3:=by omega
   subst hk3
   obtain⟨a,b,c,rfl,ht,_,_,_⟩:=oI.out.done
   have HY:=zA7 (mC.out a b c ht)
   clear ht oI
   go_wp2_with (first
    |(refine jA 29 rfl ?_;refine pA rfl 243 _ rfl (w.heap.size+1) rfl F Tryz.underlying243 rfl IG ?_)
    |(refine wpList_store_row rfl 243 _ _ rfl w.heap.size (oB [a,b,c]) rfl rfl 243 _ R IG rfl (OM _) ?_))
   exact bodyPost_ret (v:= .tuple #[.agg (oB [a,b,c]),.bool true]) (yA rfl _ _ w.heap.size _ _ _ rfl _ rfl (R.whole _) Tryz.underlying243 rfl IG) rfl (HY.out _ (below_setRow hb (zB3 _) _))
end Go.Proofs.YtdaaoopkkhfbhaaGreatDoor
namespace Go.Proofs.YtdaaoopkkhfbhaaGreatDoor
open Go.RowKit
namespace Dt
def lF(x:List UInt8)(k:Nat):Option Nat:=((names.drop k).idxOf? x).map (·+k)
theorem gAK(x:List UInt8):names.idxOf? x=lF x 0:=by
 unfold lF
 rw[List.drop_zero]
 cases names.idxOf? x<;>rfl
theorem gAL {x n:List UInt8}{k:Nat}(hk:names[k]? =some n)(h:n=x):lF x k=some k:=by
 subst h
 obtain⟨hl,e⟩:=List.getElem?_eq_some_iff.1 hk
 unfold lF
 rw[List.drop_eq_getElem_cons hl,List.idxOf?_cons,e]
 simp
theorem gAJ {x n:List UInt8}{k:Nat}(hk:names[k]? =some n)(h:n≠x):lF x k=lF x (k+1):=by
 obtain⟨hl,e⟩:=List.getElem?_eq_some_iff.1 hk
 unfold lF
 rw[List.drop_eq_getElem_cons hl,List.idxOf?_cons,e,if_neg (by simpa using h),Option.map_map]
 congr 1
 funext i
 show i+1+k=i+(k+1)
 omega
theorem gAI {x:List UInt8}{k:Nat}(h:12<=k):lF x k=none:=by
 unfold lF
 rw[List.drop_eq_nil_of_le (by exact h)]
 rfl
theorem hAe:names=kB.map (·.map Oct.low):=by decide
theorem hA5 {k:Nat}(h:k<12): ∃n,kB[k]? =some n/\names[k]? =some (n.map Oct.low)/\n.length=3:=by
 have hl:k<kB.length:=h
 refine⟨kB[k],List.getElem?_eq_getElem hl,?_,?_⟩
 ·rw[hAe,List.getElem?_map,List.getElem?_eq_getElem hl];rfl
 ·have: ∀n∈kB,n.length=3:=by decide
  exact this _ (List.getElem_mem hl)
theorem gAY {s:List UInt8}(h:s.length<3):month s=0:=if_neg (by omega)
theorem gAZ {s:List UInt8}{k:Nat}(h:3<=s.length)(hi:names.idxOf? ((s.take 3).map Oct.low)=some k):month s=k+1:=by unfold month;rw[if_pos h,hi]
theorem gAX {s:List UInt8}(h:3<=s.length)(hi:names.idxOf? ((s.take 3).map Oct.low)=none):month s=0:=by unfold month;rw[if_pos h,hi]
end Dt
theorem fAx:(Tryz.prog.info? 304).map (·.size)=some (FA Dt.kB).size:=by kernel_rfl
theorem fAd(W:World):(Instr.index 304 (.agg (FA Dt.kB)) (.int .i64 0)).run Tryz.prog W= .ok (gA [74,97,110]) W:=by kernel_rfl
theorem fAe(W:World):(Instr.index 304 (.agg (FA Dt.kB)) (.int .i64 1)).run Tryz.prog W= .ok (gA [70,101,98]) W:=by kernel_rfl
theorem fAh(W:World):(Instr.index 304 (.agg (FA Dt.kB)) (.int .i64 2)).run Tryz.prog W= .ok (gA [77,97,114]) W:=by kernel_rfl
theorem fAi(W:World):(Instr.index 304 (.agg (FA Dt.kB)) (.int .i64 3)).run Tryz.prog W= .ok (gA [65,112,114]) W:=by kernel_rfl
theorem fAj(W:World):(Instr.index 304 (.agg (FA Dt.kB)) (.int .i64 4)).run Tryz.prog W= .ok (gA [77,97,121]) W:=by kernel_rfl
theorem fAk(W:World):(Instr.index 304 (.agg (FA Dt.kB)) (.int .i64 5)).run Tryz.prog W= .ok (gA [74,117,110]) W:=by kernel_rfl
theorem fAl(W:World):(Instr.index 304 (.agg (FA Dt.kB)) (.int .i64 6)).run Tryz.prog W= .ok (gA [74,117,108]) W:=by kernel_rfl
theorem fAm(W:World):(Instr.index 304 (.agg (FA Dt.kB)) (.int .i64 7)).run Tryz.prog W= .ok (gA [65,117,103]) W:=by kernel_rfl
theorem fAn(W:World):(Instr.index 304 (.agg (FA Dt.kB)) (.int .i64 8)).run Tryz.prog W= .ok (gA [83,101,112]) W:=by kernel_rfl
theorem fAo(W:World):(Instr.index 304 (.agg (FA Dt.kB)) (.int .i64 9)).run Tryz.prog W= .ok (gA [79,99,116]) W:=by kernel_rfl
theorem fAf(W:World):(Instr.index 304 (.agg (FA Dt.kB)) (.int .i64 10)).run Tryz.prog W= .ok (gA [78,111,118]) W:=by kernel_rfl
theorem fAg(W:World):(Instr.index 304 (.agg (FA Dt.kB)) (.int .i64 11)).run Tryz.prog W= .ok (gA [68,101,99]) W:=by kernel_rfl
theorem fAc {k:Nat}(hk:k<12){n:List UInt8}(hn:Dt.kB[k]? =some n)(W:World):(Instr.index 304 (.agg (FA Dt.kB)) (.int .i64 (k:Int))).run Tryz.prog W= .ok (gA n) W:=by
 have:k=0\/k=1\/k=2\/k=3\/k=4\/k=5\/k=6\/k=7\/k=8\/k=9\/k=10\/k=11:=by omega
 rcases this with rfl|rfl|rfl|rfl|rfl|rfl|rfl|rfl|rfl|rfl|rfl|rfl
 ·have e:=zB2 hn;rw[<-e];exact fAd W
 ·have e:=zB2 hn;rw[<-e];exact fAe W
 ·have e:=zB2 hn;rw[<-e];exact fAh W
 ·have e:=zB2 hn;rw[<-e];exact fAi W
 ·have e:=zB2 hn;rw[<-e];exact fAj W
 ·have e:=zB2 hn;rw[<-e];exact fAk W
 ·have e:=zB2 hn;rw[<-e];exact fAl W
 ·have e:=zB2 hn;rw[<-e];exact fAm W
 ·have e:=zB2 hn;rw[<-e];exact fAn W
 ·have e:=zB2 hn;rw[<-e];exact fAo W
 ·have e:=zB2 hn;rw[<-e];exact fAf W
 ·have e:=zB2 hn;rw[<-e];exact fAg W
def YJ(m:Nat)(w:World)(e:Ending)(w':World):Prop:=e= .returned (.tuple #[.int .i64 (m:Int),.bool (decide (0<m))])/\Below w.heap.size w w'
theorem KQ {m n:Nat}{b:Bool}(h:m=n)(hb:decide (0<n)=b){w w':World}(hB:Below w.heap.size w w'):YJ m w (.returned (.tuple #[.int .i64 (n:Int),.bool b])) w':=by subst h hb;exact⟨rfl,hB⟩
theorem jAa(s:ByteArray)(w:World)(hw:PB w)(hs:s.size<=maxLen):
  Calls Tryz.prog 257 #[.string s] w (YJ (Dt.month s.data.toList) w):=by
 unfold maxLen at hs
 have hl:=Oct.oA s
 by_cases h3:s.size<3
 ·have HR:=zA7 (KQ (Dt.gAY (s:=s.data.toList) (by omega)) (by decide:decide (0<0)=false) (Below.refl w.heap.size w))
  generalize YJ (Dt.month s.data.toList) w=post at*
  have h3i:(s.size:Int)<3:=by omega
  go_enter Tryz.func257,Tryz.ntmps257
  go_wp2
  exact HR.out
 ·have HY:=zA7 (fun k (h:Dt.names.idxOf? ((s.data.toList.take 3).map Oct.low)=some k) w' (hb:Below w.heap.size w w')=>KQ (b:=true) (Dt.gAZ (s:=s.data.toList) (by omega) h) (zA9 (by omega)) hb)
  have HN:=zA7 (fun(h:Dt.names.idxOf? ((s.data.toList.take 3).map Oct.low)=none) w' (hb:Below w.heap.size w w')=>KQ (b:=false) (Dt.gAX (s:=s.data.toList) (by omega) h) (zA8 (by omega)) hb)
  generalize hpost:YJ (Dt.month s.data.toList) w=post at*
  clear hpost
  have hx:((s.extract 0 3).data.toList).map Oct.low=(s.data.toList.take 3).map Oct.low:=by rw[Lib.extract_data,List.drop_zero,Nat.sub_zero]
  have hxs:(s.extract 0 3).size<=maxLen:=by rw[ByteArray.size_extract];unfold maxLen;omega
  have HC:Hid (∀(n:List UInt8) W,Calls Tryz.prog 147 #[.string (s.extract 0 3),gA n] W (qF (decide ((s.data.toList.take 3).map Oct.low=n.map Oct.low)) W)):=zA7 (fun n W=>by
   have:=DN (s.extract 0 3) ⟨n.toArray⟩ W hxs
   unfold Oct.NB at this
   rw[hx]at this
   exact this)
  have HST:=zA7 (Dt.gAK ((s.data.toList.take 3).map Oct.low))
  clear hx hxs hl
  generalize(s.data.toList.take 3).map Oct.low=x at*
  obtain⟨t,fr,hrow⟩:=hw.row
  have h3i: ¬(s.size:Int)<3:=by omega
  go_enter Tryz.func257,Tryz.ntmps257
  go_wp2_with (refine jA 9 rfl ?_;refine wpList_load_row rfl 304 _ rfl 2 rfl t _ fr _ hrow Tryz.underlying304 rfl fAx ?_)
  clear hrow
  go_loopw [10] (fun i wr=> ∃k:Nat,k<=12/\i= .int .i64 k/\Dt.names.idxOf? x=Dt.lF x k/\eC w wr) (fun i _=>12- (intOf i).toNat)
  case atStart=>exact⟨0,Nat.zero_le _,rfl,HST.out,eC.refl _⟩
  case round=>
   obtain⟨k,hk,rfl,hm,hd⟩:=hrel
   have HM:=zA7 hm
   clear hm
   by_cases hlt:k<12
   ·obtain⟨n,n1,n2,n3⟩:=Dt.hA5 hlt
    have hidx:=fAc hlt n1
    have hki:(k:Int)<12:=by omega
    have jE:=zA7 (HC.out n)
    unfold qF gA at jE
    unfold gA at hidx
    generalize hnb:(⟨n.toArray⟩:ByteArray)=nb at*
    clear hnb n1
    by_cases hx:n.map Oct.low=x
    ·have HR:=zA7 (HY.out k (HM.out.trans (Dt.gAL n2 hx)))
     have e1:decide (x=n.map Oct.low)=true:=zA9 hx.symm
     rw[e1]at jE
     clear hx n2 e1
     go_wp2_with fail
     refine(jE.out _).mono ?_
     rintro e w2 ⟨rfl,d2⟩
     have hD:=((hd.below w.heap.size).trans (d2.below w.heap.size))
     have HRR:=zA7 (HR.out w2 hD)
     go_wp2
     exact HRR.out
    ·have qG:=zA7 (HM.out.trans (Dt.gAJ n2 hx))
     have e1:decide (x=n.map Oct.low)=false:=zA8 (fun h=>hx h.symm)
     rw[e1]at jE
     clear hx n2 e1
     go_wp2_with fail
     refine(jE.out _).mono ?_
     rintro e w2 ⟨rfl,d2⟩
     have hD:eC w w2:=by
      obtain⟨a,rfl⟩:=hd
      obtain⟨b,rfl⟩:=d2
      exact⟨a+b,World.drewN_drewN _ _ _⟩
     go_wp2
     go_roundw
     case rel=>exact⟨k+1,by omega,by go_num,qG.out,hD⟩
     case measure=>simp[intOf];omega
   ·have HR:=zA7 (HN.out (HM.out.trans (Dt.gAI (by omega))) wr (hd.below _))
    have hki: ¬(k:Int)<12:=by omega
    go_wp2
    exact HR.out
end Go.Proofs.YtdaaoopkkhfbhaaGreatDoor
namespace Go.Proofs.YtdaaoopkkhfbhaaGreatDoor
open Go.RowKit
theorem EZ {P:Program}{ops:Array Oper}{rest:List Oper}{o:Oper}{a:Act}{w:World}{Q:Exit->Act->World->Prop}(hgd:o.guard=none)(ty:TypeId)(x y:Operand)(ho:o.op= .store ty x y)
  (g off:Nat)(cells:Array Value)(hx:a.eval x= .pointer (some ⟨g,off,none⟩))(hy:a.eval y= .agg cells)
  (t:TypeId)(old:Array Value)(hg:Row w g t old)(hi:(P.info? ty).map (·.size)=some cells.size)
  (hle:off+cells.size<=old.size)(h1:cells.all (·.oneCell')=true)(new:Array Value)(hn:(old.toList.take off++cells.toList++old.toList.drop (off+cells.size)).toArray=new)
  (h:wpList P ops Q rest (a.put o.dst undef) (w.setRow g new)):wpList P ops Q (o::rest) a w:=
 wpList_plain hgd fun _ hK=>by
  have hs:(storeCells ⟨g,off,none⟩ cells.toList 0).run P w= .ok () (w.setRow g new):=by
   have:=run_storeCells_at (P:=P) g off t cells.toList 0 old w hg (by rw[Array.length_toList];omega) (fun v hv=>by
    have:=Array.all_eq_true'.1 h1 v (Array.mem_toList_iff.1 hv)
    exact this)
   rw[Nat.add_zero,Array.length_toList,hn]at this
   exact this
  have hv:(storeVar ty ⟨g,off,none⟩ (.agg cells)).run P w= .ok () (w.setRow g new):=by
   cases hq:P.info? ty with
   |none=>simp[hq]at hi
   |some i=>
    have hsz:cells.size=i.size:=by simp[hq]at hi;omega
    simp[storeVar,sizeOf,typeInfo,hq,Value.cells,hsz,hs]
  unfold Oper.wp execOp
  simp only[ho,hx,hy,Instr.storeAt,Instr.sureAddr,Sem.run_bind,Sem.run_pure,Result.andThen_ok,hv]
  exact hK _ _ h
end Go.Proofs.YtdaaoopkkhfbhaaGreatDoor
namespace Go.Proofs.YtdaaoopkkhfbhaaGreatDoor
open Go.RowKit
namespace Dt
theorem gAd {y:Int}(h:0<=y):((y.tmod 4==0)=decide (y%4=0))/\((y.tmod 100 !=0)=decide (y%100≠0))/\((y.tmod 400==0)=decide (y%400=0)):=by
 rw[Int.tmod_eq_emod_of_nonneg h,Int.tmod_eq_emod_of_nonneg h,Int.tmod_eq_emod_of_nonneg h]
 refine⟨?_,?_,?_⟩
 ·by_cases k:y%4=0<;>simp[k]
 ·by_cases k:y%100=0<;>simp[k]
 ·by_cases k:y%400=0<;>simp[k]
end Dt
theorem gAc(y:Int)(w:World)(h1:0<=y):
  Calls Tryz.prog 296 #[.int .i64 y] w fun e w'=>e= .returned (.bool (Dt.leap y))/\w=w':=by
 obtain⟨t4,nAK,nAL⟩:=Dt.gAd h1
 have q4:y.tmod 4=y%4:=Int.tmod_eq_emod_of_nonneg h1
 have jA4:y.tmod 100=y%100:=Int.tmod_eq_emod_of_nonneg h1
 have jA5:y.tmod 400=y%400:=Int.tmod_eq_emod_of_nonneg h1
 by_cases k4:y%4=0
 ·by_cases RM:y%100=0
  ·by_cases SM:y%400=0
   ·have HL:=zA7 (show Dt.leap y=true from Dt.aJ.2 ⟨k4,.inr SM⟩)
    go_enter Tryz.func296,Tryz.ntmps296
    go_wp2
    go_ret
    exact⟨tA (by rw[HL.out]),rfl⟩
   ·have HL:=zA7 (show Dt.leap y=false from zA8 (by omega))
    go_enter Tryz.func296,Tryz.ntmps296
    go_wp2
    go_ret
    exact⟨tA (by rw[HL.out];simpa using SM),rfl⟩
  ·have HL:=zA7 (show Dt.leap y=true from Dt.aJ.2 ⟨k4,.inl RM⟩)
   go_enter Tryz.func296,Tryz.ntmps296
   go_wp2
   go_ret
   exact⟨tA (by rw[HL.out]),rfl⟩
 ·have HL:=zA7 (show Dt.leap y=false from zA8 (by omega))
  go_enter Tryz.func296,Tryz.ntmps296
  go_wp2
  go_ret
  exact⟨tA (by rw[HL.out]),rfl⟩
theorem jAi(y:Int)(w:World)(h1:0<=y):
  Calls Tryz.prog 289 #[.int .i64 y] w fun e w'=>e= .returned (.bool (Dt.leap y))/\w=w':=by
 have q4:y.tmod 4=y%4:=Int.tmod_eq_emod_of_nonneg h1
 have jA4:y.tmod 100=y%100:=Int.tmod_eq_emod_of_nonneg h1
 have jA5:y.tmod 400=y%400:=Int.tmod_eq_emod_of_nonneg h1
 by_cases SM:y%400=0
 ·have HL:=zA7 (show Dt.leap y=true from Dt.aJ.2 ⟨by omega,.inr SM⟩)
  go_enter Tryz.func289,Tryz.ntmps289
  go_wp2
  go_ret
  exact⟨tA (by rw[HL.out]),rfl⟩
 ·by_cases k4:y%4=0
  ·by_cases RM:y%100=0
   ·have HL:=zA7 (show Dt.leap y=false from zA8 (by omega))
    go_enter Tryz.func289,Tryz.ntmps289
    go_wp2
    go_ret
    exact⟨tA (by rw[HL.out]),rfl⟩
   ·have HL:=zA7 (show Dt.leap y=true from Dt.aJ.2 ⟨k4,.inl RM⟩)
    go_enter Tryz.func289,Tryz.ntmps289
    go_wp2
    go_ret
    exact⟨tA (by rw[HL.out];simpa using RM),rfl⟩
  ·have HL:=zA7 (show Dt.leap y=false from zA8 (by omega))
   go_enter Tryz.func289,Tryz.ntmps289
   go_wp2
   go_ret
   exact⟨tA (by rw[HL.out]),rfl⟩
theorem nAJ(y:Int)(w:World)(h1:0<=y):
  Calls Tryz.prog 271 #[.int .i64 y] w fun e w'=>e= .returned (.int .i64 (Dt.zD y))/\w=w':=by
 have HC:=zA7 (fun W=>jAi y W h1)
 have HY:Hid (Dt.zD y=if Dt.leap y=true then 366 else 365):=zA7 rfl
 generalize Dt.zD y=n at*
 cases hl:Dt.leap y
 all_goals
  rw[hl]at HC HY
  go_enter Tryz.func271,Tryz.ntmps271
  go_wp2_with (go_at_call 289;refine(HC.out _).mono ?_;rintro e w' ⟨rfl,rfl⟩)
  go_ret
  exact⟨BC (by rw[HY.out];rfl),rfl⟩
theorem eJ(y:Int)(w:World)(h1:1<=y)(h2:y<=20000):
  Calls Tryz.prog 282 #[.int .i64 y] w fun e w'=>e= .returned (.int .i64 (Dt.before y-134774))/\w=w':=by
 have HY:=zA7 (Dt.aAR y)
 have q1:(y-1).tdiv 4=(y-1)/4:=Int.tdiv_eq_ediv_of_nonneg (by omega)
 have q2:(y-1).tdiv 100=(y-1)/100:=Int.tdiv_eq_ediv_of_nonneg (by omega)
 have q3:(y-1).tdiv 400=(y-1)/400:=Int.tdiv_eq_ediv_of_nonneg (by omega)
 generalize Dt.before y-134774=n at*
 go_enter Tryz.func282,Tryz.ntmps282
 go_wp2
 go_ret
 exact⟨BC (by rw[HY.out]),rfl⟩
theorem mAr(y:Nat)(w:World)(h2:y<=20000):
  Calls Tryz.prog 258 #[.int .i64 (y:Int)] w fun e w'=>e= .returned (.int .i64 (Dt.GC y))/\w=w':=by
 have HY:Hid (Dt.GC y=if 70<=y/\y<=99 then(y:Int)+1900 else if y<=69 then(y:Int)+2000 else y):=zA7 rfl
 generalize Dt.GC y=n at*
 by_cases k1:(y:Int)<70
 ·go_enter Tryz.func258,Tryz.ntmps258
  go_wp2
  go_ret
  exact⟨BC (by rw[HY.out,if_neg (by omega),if_pos (by omega)]),rfl⟩
 ·by_cases k2:(y:Int)<100
  ·go_enter Tryz.func258,Tryz.ntmps258
   go_wp2
   go_ret
   exact⟨BC (by rw[HY.out,if_pos (by omega)]),rfl⟩
  ·go_enter Tryz.func258,Tryz.ntmps258
   go_wp2
   go_ret
   exact⟨BC (by rw[HY.out,if_neg (by omega),if_neg (by omega)]),rfl⟩
end Go.Proofs.YtdaaoopkkhfbhaaGreatDoor
