/- The walk of the reference's Text. -/
import Derived.Test.YtabgoobcliijeaaGreatDoorY10
import Derived.Deep.DeepCutAuto
set_option maxHeartbeats 8000000
set_option maxRecDepth 100000
namespace Go.Proofs.YtabgoobcliijeaaGreatDoor
open Go.RowKit
theorem qAf: #[Value.string ⟨#[84,104,117]⟩,.string ⟨#[70,114,105]⟩,.string ⟨#[83,97,116]⟩,.string ⟨#[83,117,110]⟩,.string ⟨#[77,111,110]⟩,.string ⟨#[84,117,101]⟩,.string ⟨#[87,101,100]⟩]=GA Dt.week:=by rfl
theorem lA7: #[Value.string ⟨#[74,97,110]⟩,.string ⟨#[70,101,98]⟩,.string ⟨#[77,97,114]⟩,.string ⟨#[65,112,114]⟩,.string ⟨#[77,97,121]⟩,.string ⟨#[74,117,110]⟩,.string ⟨#[74,117,108]⟩,.string ⟨#[65,117,103]⟩,.string ⟨#[83,101,112]⟩,.string ⟨#[79,99,116]⟩,.string ⟨#[78,111,118]⟩,.string ⟨#[68,101,99]⟩]=GA Dt.rB:=by rfl
namespace Dt
theorem qAg(n:Int){J:Nat}(h:n%7=(J:Int)):week[J]? =some (tE n):=by
 unfold tE
 rw[h,Int.toNat_natCast]
 have hJ:J<7:=by omega
 rw[List.getElem?_eq_getElem (by exact hJ)];rfl
end Dt
theorem gAC {S H Mi Se Ya Yb W E M:ByteArray}{y m d k:Int}{n:Nat}(hS:S=W++⟨#[44,32]⟩++E++⟨#[32]⟩)(hW:W=⟨(Dt.tE k).toArray⟩)(hE:E=⟨(Dt.two d.toNat).toArray⟩)(hM:M=⟨(Dt.mname m).toArray⟩)(hYa:Ya=⟨(Dt.two (y.toNat/100)).toArray⟩)(mU:Yb=⟨(Dt.two (y.toNat%100)).toArray⟩)
  (hH:H=⟨(Dt.two (n/3600)).toArray⟩)(hMi:Mi=⟨(Dt.two (n/60%60)).toArray⟩)(hSe:Se=⟨(Dt.two (n%60)).toArray⟩):
  S++M++⟨#[32]⟩++Ya++Yb++⟨#[32]⟩++H++⟨#[58]⟩++Mi++⟨#[58]⟩++Se++⟨#[32,71,77,84]⟩=⟨(Dt.zD y m d k n).toArray⟩:=by
 subst hS hW hE hM hYa mU hH hMi hSe
 apply ByteArray.ext
 simp[ByteArray.data_append,Dt.zD,Dt.clock]
theorem mAB(mo:Int)(w:World)(hlo: -9223372036854775808<=mo)(hhi:mo<=9223372036854775807):Calls Tryz.prog 62 #[.int .i64 mo] w (fH (Dt.text mo) w):=by
 have hsm:=Dt.dAc hlo hhi
 obtain⟨T,R,N,hT,hR,hN,VJ,hor⟩:=Dt.wZ mo
 rw[hT,hR]at hsm
 obtain⟨t1,t2,t3,t4⟩:=hsm
 obtain⟨D,hD⟩: ∃D,mo/86400=D:=⟨_,rfl⟩
 rw[hD]at hor
 have hor2:(mo<0/\R<0/\(R !=0)=true/\D=T-1/\R+86400=(N:Int))\/(¬R<0/\ ¬mo<0/\T=D/\R=(N:Int))\/(¬R<0/\mo<0/\(R !=0)=false/\T=D/\R=(N:Int)):=by
  have g1:0<=mo->0<=R:=fun h=>by have:=Int.tmod_nonneg 86400 h;rw[hR]at this;exact this
  have g2:mo<0->R<=0:=fun h=>by have:=Int.tmod_nonneg 86400 (show 0<= -mo by omega);rw[Int.neg_tmod,hR]at this;omega
  rcases hor with⟨r1,r2,r3⟩|⟨r1,r2,r3⟩
  ·exact .inl ⟨Classical.byContradiction fun h=>by have:=g1 (by omega);omega,r1,bne_iff_ne.2 (by omega),r2,r3⟩
  ·by_cases h:mo<0
   ·exact .inr (.inr ⟨r1,h,bne_eq_false_iff_eq.2 (by have:=g2 h;omega),r2.symm,r3⟩)
   ·exact .inr (.inl ⟨r1,h,r2.symm,r3⟩)
 clear hor
 have HC:=zA7 (fun W=>mAz D W)
 have fD:=zA7 (fun(h:Dt.civil D=none)=>show Dt.text mo= [] from Dt.AW (by rw[hD];exact h))
 have xC:=zA7 (fun y m d (h:Dt.civil D=some (y,m,d))=>show Dt.text mo=Dt.zD y m d D N from by rw[Dt.dAk (by rw[hD];exact h),hD,VJ])
 generalize Dt.text mo=res at*
 clear hD VJ
 cases hc:Dt.civil D with
 |none=>
  rw[hc]at HC
  have HR:=zA7 (fD.out hc)
  unfold xI at HC
  clear fD xC hc
  rcases hor2 with⟨r1,r2,r3,r4,r5⟩|⟨r1,r2,r4,r5⟩|⟨r1,r2,r3,r4,r5⟩
  all_goals
   subst r4
   first|subst r5|skip
   go_enter Tryz.func62,Tryz.ntmps62
   go_wp2_with (go_at_call 100;refine(HC.out _).mono ?_;rintro e w1 ⟨rfl,b1⟩)
   go_ret
   exact⟨nB (by rw[HR.out]),b1⟩
 |some t=>
  obtain⟨y,m,d⟩:=t
  rw[hc]at HC
  have HR:=zA7 (xC.out y m d hc)
  obtain⟨hI,hdd⟩:=Dt.jH.1 hc
  have hdb:=Dt.MJ hI
  rw[hdd]at hdb
  have nC:Hid (∀W,Calls Tryz.prog 100 #[.int .i64 D] W fun e w'=>e= .returned (.tuple #[.int .i64 y,.int .i64 m,.int .i64 d,.bool true])/\Below W.heap.size W w'):=HC
  clear HC fD xC hc hdd
  obtain⟨y1,y2,m1,m2,d1,d2⟩:=hI
  have hlb:=Dt.EE (Dt.leap y) m
  obtain⟨Y,rfl⟩: ∃Y:Nat,y=Y:=⟨y.toNat,by omega⟩
  obtain⟨M,rfl⟩: ∃M:Nat,m=M:=⟨m.toNat,by omega⟩
  obtain⟨E,rfl⟩: ∃E:Nat,d=E:=⟨d.toNat,by omega⟩
  obtain⟨J,hJ⟩: ∃J:Nat,D%7=(J:Int):=⟨(D%7).toNat,by omega⟩
  have hJ2:J<7:=by omega
  have HW:=zA7 (Dt.qAg D hJ)
  have rJ:=zA7 (Dt.bA7 m1 m2)
  have eM:((M:Int)-1).toNat=M-1:=by omega
  rw[eM]at rJ
  obtain⟨w3,hw3⟩: ∃w3:ByteArray,w3=⟨(Dt.tE D).toArray⟩:=⟨_,rfl⟩
  obtain⟨me,hme⟩: ∃w3:ByteArray,w3=⟨(Dt.mname M).toArray⟩:=⟨_,rfl⟩
  obtain⟨e2,he2⟩: ∃w3:ByteArray,w3=⟨(Dt.two E).toArray⟩:=⟨_,rfl⟩
  obtain⟨ya,hya⟩: ∃w3:ByteArray,w3=⟨(Dt.two (Y/100)).toArray⟩:=⟨_,rfl⟩
  obtain⟨yb,hyb⟩: ∃w3:ByteArray,w3=⟨(Dt.two (Y%100)).toArray⟩:=⟨_,rfl⟩
  obtain⟨ho,hho⟩: ∃w3:ByteArray,w3=⟨(Dt.two (N/3600)).toArray⟩:=⟨_,rfl⟩
  obtain⟨mi,xQ⟩: ∃w3:ByteArray,w3=⟨(Dt.two (N/60%60)).toArray⟩:=⟨_,rfl⟩
  obtain⟨se,hse⟩: ∃w3:ByteArray,w3=⟨(Dt.two (N%60)).toArray⟩:=⟨_,rfl⟩
  have HT:=zA7 (fun S hS=>gAC (S:=S) (y:=Y) (m:=M) (d:=E) hS hw3 he2 hme hya hyb hho xQ hse)
  have s3:w3.size=3:=by rw[hw3,lD,Dt.SW]
  have sm:me.size=3:=by rw[hme,lD,Dt.kV m1 m2]
  have s2:=tI he2
  have sa:=tI hya
  have sb:=tI hyb
  have sh:=tI hho
  have si:=tI xQ
  have ss:=tI hse
  have AM:Hid (∀W:World,(W.alloc (.cells (GA Dt.week) 9)).cell? ⟨W.heap.size,J,none⟩=some (.string w3)):=zA7 (fun W=>by rw[(Row.new W 9 (GA Dt.week)).cell,eJ,HW.out,hw3];rfl)
  have sS:Hid (∀W:World,(W.alloc (.cells (GA Dt.rB) 9)).cell? ⟨W.heap.size,M-1,none⟩=some (.string me)):=zA7 (fun W=>by rw[(Row.new W 9 (GA Dt.rB)).cell,eJ,rJ.out,hme];rfl)
  have HE:Hid (∀W,Calls Tryz.prog 101 #[.int .i64 (E:Int)] W fun e w'=>e= .returned (.string e2)/\Below W.heap.size W w'):=zA7 (fun W=>by rw[he2];exact XL E (by omega) W)
  have H1:Hid (∀W,Calls Tryz.prog 101 #[.int .i64 ((Y/100:Nat):Int)] W fun e w'=>e= .returned (.string ya)/\Below W.heap.size W w'):=zA7 (fun W=>by rw[hya];exact XL _ (by omega) W)
  have H2:Hid (∀W,Calls Tryz.prog 101 #[.int .i64 ((Y%100:Nat):Int)] W fun e w'=>e= .returned (.string yb)/\Below W.heap.size W w'):=zA7 (fun W=>by rw[hyb];exact XL _ (by omega) W)
  have H3:Hid (∀W,Calls Tryz.prog 101 #[.int .i64 ((N/3600:Nat):Int)] W fun e w'=>e= .returned (.string ho)/\Below W.heap.size W w'):=zA7 (fun W=>by rw[hho];exact XL _ (by omega) W)
  have H4:Hid (∀W,Calls Tryz.prog 101 #[.int .i64 ((N/60%60:Nat):Int)] W fun e w'=>e= .returned (.string mi)/\Below W.heap.size W w'):=zA7 (fun W=>by rw[xQ];exact XL _ (by omega) W)
  have H5:Hid (∀W,Calls Tryz.prog 101 #[.int .i64 ((N%60:Nat):Int)] W fun e w'=>e= .returned (.string se)/\Below W.heap.size W w'):=zA7 (fun W=>by rw[hse];exact XL _ (by omega) W)
  clear hw3 hme he2 hya hyb hho xQ hse HW rJ
  have k7:=qAf
  have k12:=lA7
  have q0:D.tmod 7<0\/ ¬D.tmod 7<0:=by omega
  have q1:D.tmod 7<0->D.tmod 7+7=(J:Int):=fun h=>by
   have e:=Int.tmod_add_mul_tdiv D 7
   have:=Int.tmod_lt_of_pos (-D) (b:=7) (by omega)
   rw[Int.neg_tmod]at this
   omega
  have q2: ¬D.tmod 7<0->D.tmod 7=(J:Int):=fun h=>by
   have e:=Int.tmod_add_mul_tdiv D 7
   have:=Int.tmod_lt_of_pos D (b:=7) (by omega)
   omega
  have q3: -7<=D.tmod 7/\D.tmod 7<7:=by
   have:=Int.tmod_lt_of_pos (-D) (b:=7) (by omega)
   rw[Int.neg_tmod]at this
   have:=Int.tmod_lt_of_pos D (b:=7) (by omega)
   omega
  obtain⟨w7,hw7⟩: ∃x,D.tmod 7=x:=⟨_,rfl⟩
  rw[hw7]at q0 q1 q2 q3
  have M0:IntKind.i64.wrap ((M:Int)-1)=(M:Int)-1:=by rw[IntKind.wrap_i64];omega
  have M1:(0:Int)<=(M:Int)-1:=by omega
  have M2:(M:Int)-1<12:=by omega
  have j1:(J:Int)<7:=by omega
  have y1':(Y:Int)/100=((Y/100:Nat):Int):=by omega
  have y2':(Y:Int)%100=((Y%100:Nat):Int):=by omega
  have n1:(N:Int)/3600=((N/3600:Nat):Int):=by omega
  have n2:(N:Int)/60%60=((N/60%60:Nat):Int):=by omega
  have n3:(N:Int)%60=((N%60:Nat):Int):=by omega
  generalize Y/100=a1 at*
  generalize Y%100=a2 at*
  generalize N/3600=a3 at*
  generalize N/60%60=a4 at*
  generalize N%60=a5 at*
  have z1:IntKind.i64.wrap T=T:=by rw[IntKind.wrap_i64];omega
  have z2:IntKind.i64.wrap R=R:=by rw[IntKind.wrap_i64];omega
  have HO:=zA7 hor2
  have HQ:=zA7 (And.intro q0 (And.intro q1 q2))
  have HJ:=zA7 hJ
  clear hor2 q0 q1 q2 hJ
  have p0: ¬9223372036854775807<w3.size+2:=by omega
  have p1: ¬9223372036854775807<w3.size+2+e2.size:=by omega
  have p2: ¬9223372036854775807<w3.size+2+e2.size+1:=by omega
  go_enter Tryz.func62,Tryz.ntmps62
  go_upto_if 15 with fail
  go_cut [3] (fun s3 wx=>s3= .int .i64 (N:Int)/\w=wx)
  case first=>
   rcases HO.out with⟨r1,r2,r3,r4,r5⟩|⟨r1,r2,r4,r5⟩|⟨r1,r2,r3,r4,r5⟩
   ·go_wp2
    go_meet
    exact⟨by first|rfl|trivial|exact IA r5,rfl⟩
   ·go_wp2
    go_meet
    exact⟨by first|rfl|trivial|exact IA r5,rfl⟩
   ·go_wp2
    go_meet
    exact⟨by first|rfl|trivial|exact IA r5,rfl⟩
  case rest=>
  obtain⟨rfl,rfl⟩:=hcut
  go_upto_region 5 with fail
  go_cut [26] (fun s26 wx=>s26= .bool (decide (R<0))/\w=wx)
  case first=>
   rcases HO.out with⟨r1,r2,r3,r4,r5⟩|⟨r1,r2,r4,r5⟩|⟨r1,r2,r3,r4,r5⟩
   ·have HB:=zA7 (zA9 r2)
    clear r4 r5
    go_wp2
    go_meet
    exact⟨by rw[HB.out],rfl⟩
   ·have HB:=zA7 (zA8 r1)
    clear r4 r5
    go_wp2
    go_meet
    exact⟨by rw[HB.out],rfl⟩
   ·have HB:=zA7 (zA8 r1)
    clear r4 r5
    go_wp2
    go_meet
    exact⟨by rw[HB.out],rfl⟩
  case rest=>
  obtain⟨rfl,rfl⟩:=hcut
  go_upto_if 26 with fail
  go_cut [4] (fun s4 wx=>s4= .int .i64 D/\w=wx)
  case first=>
   rcases HO.out with⟨r1,r2,r3,r4,r5⟩|⟨r1,r2,r4,r5⟩|⟨r1,r2,r3,r4,r5⟩
   ·have z3:IntKind.i64.wrap (T-1)=T-1:=by rw[IntKind.wrap_i64];omega
    go_wp2
    go_meet
    exact⟨IA (by omega),rfl⟩
   ·go_wp2
    go_meet
    exact⟨IA (by omega),rfl⟩
   ·go_wp2
    go_meet
    exact⟨IA (by omega),rfl⟩
  case rest=>
  obtain⟨rfl,rfl⟩:=hcut
  clear hT hR z1 z2 t1 t2 t3 t4
  go_upto_if 41 with(go_at_call 100;refine(nC.out _).mono ?_;rintro e w1 ⟨rfl,b1⟩)
  go_cut [9] (fun s9 wx=>s9= .int .i64 (J:Int)/\w1=wx)
  case first=>
   obtain⟨q0,q1,q2⟩:=HQ.out
   rcases q0 with q0|q0
   ·have q4:=q1 q0
    go_wp2
    go_meet
    exact⟨by first|rfl|trivial|exact IA (by omega),rfl⟩
   ·have q4:=q2 q0
    go_wp2
    go_meet
    exact⟨by first|rfl|trivial|exact IA (by omega),rfl⟩
  case rest=>
  obtain⟨rfl,rfl⟩:=hcut
  go_upto_region 14 with fail
  go_cut [11] (fun s11 wx=>s11= .string (w3++⟨#[44,32]⟩++e2++⟨#[32]⟩)/\Below w.heap.size w wx)
  case first=>
   refine wp_region_held_drew (S:=Below w.heap.size w) (by kernel_rfl) b1.drew (fun _=>?_)
   refine mA (i:=1) rfl ?_
   refine mA (i:=5) rfl ?_
   have F1:(w1.alloc (.cells (GA Dt.week) 9)).drew.cell? ⟨w1.heap.size,J,none⟩=some (.string w3):=AM.out w1.drew
   have S1:Below w.heap.size w (w1.alloc (.cells (GA Dt.week) 9)).drew:=(b1.alloc b1.size _).drew
   refine wpAnyH_ready (rs:= [0,6]) (by kernel_rfl) (by simp) (AllReadyH.cons rfl (fun K hK=>?_) (AllReadyH.cons rfl (fun K hK=>?_) AllReadyH.nil))
   ·rw[if_pos (by rfl)]
    go_simp
    refine hK.out _ _ S1 (fun _=>?_)
    clear hK K
    refine mA (i:=2) rfl ?_
    refine wpAnyH_ready (rs:= [3,6]) (by kernel_rfl) (by simp) (AllReadyH.cons rfl (fun K hK=>?_) (AllReadyH.cons rfl (fun K hK=>?_) AllReadyH.nil))
    ·rw[if_pos (by rfl)]
     go_simp
     refine hK.out _ _ S1 (fun _=>?_)
     clear hK K
     refine mA (i:=4) rfl ?_
     refine yA (i:=6) fun K hK=>?_
     go_simp
     refine(HE.out _).mono ?_
     rintro e w4 ⟨rfl,b4⟩
     have S4:Below w.heap.size w w4:=S1.trans (b4.mono S1.size)
     go_wp2_with fail
     refine hK.out _ _ S4 (fun _=>?_)
     clear hK K
     refine mA (i:=7) rfl ?_
     refine mA (i:=8) rfl ?_
     refine mA (i:=9) rfl ?_
     refine wpAnyH_done (by kernel_rfl) ?_ _
     go_wp2
     go_meet
     exact⟨rfl,by assumption⟩
    ·rw[if_pos (by rfl)]
     go_simp
     refine(HE.out _).mono ?_
     rintro e w4 ⟨rfl,b4⟩
     have S4:Below w.heap.size w w4:=S1.trans (b4.mono S1.size)
     have F4:w4.cell? ⟨w1.heap.size,J,none⟩=some (.string w3):=(b4.cell (block_lt_of_cell F1)).trans F1
     go_wp2_with fail
     refine hK.out _ _ S4 (fun _=>?_)
     clear hK K
     refine yA (i:=3) fun K hK=>?_
     go_simp
     refine hK.out _ _ S4 (fun _=>?_)
     clear hK K
     refine mA (i:=4) rfl ?_
     refine mA (i:=7) rfl ?_
     refine mA (i:=8) rfl ?_
     refine mA (i:=9) rfl ?_
     refine wpAnyH_done (by kernel_rfl) ?_ _
     go_wp2
     go_meet
     exact⟨rfl,by assumption⟩
   ·rw[if_pos (by rfl)]
    go_simp
    refine(HE.out _).mono ?_
    rintro e w4 ⟨rfl,b4⟩
    have S4:Below w.heap.size w w4:=b1.drew.trans (b4.mono b1.size)
    have F4:(w4.alloc (.cells (GA Dt.week) 9)).cell? ⟨w4.heap.size,J,none⟩=some (.string w3):=AM.out w4
    have S5:Below w.heap.size w (w4.alloc (.cells (GA Dt.week) 9)):=S4.alloc S4.size _
    go_wp2_with fail
    refine hK.out _ _ S4 (fun _=>?_)
    clear hK K
    refine yA (i:=0) fun K hK=>?_
    go_simp
    refine hK.out _ _ S5 (fun _=>?_)
    clear hK K
    refine mA (i:=2) rfl ?_
    refine yA (i:=3) fun K hK=>?_
    go_simp
    refine hK.out _ _ S5 (fun _=>?_)
    clear hK K
    refine mA (i:=4) rfl ?_
    refine mA (i:=7) rfl ?_
    refine mA (i:=8) rfl ?_
    refine mA (i:=9) rfl ?_
    refine wpAnyH_done (by kernel_rfl) ?_ _
    go_wp2
    go_meet
    exact⟨rfl,by assumption⟩
  case rest=>
  obtain⟨rfl,b5⟩:=hcut
  clear b1 p0 p1 p2 AM HE nC HQ HO
  have yE:=zA7 (HT.out _ rfl)
  have hS:(w3++⟨#[44,32]⟩++e2++⟨#[32]⟩:ByteArray).size=8:=by
   simp only[ByteArray.size_append,s3,s2];rfl
  clear HT
  generalize(w3++⟨#[44,32]⟩++e2++⟨#[32]⟩:ByteArray)=S at*
  have p0: ¬9223372036854775807<S.size+me.size:=by omega
  have p1: ¬9223372036854775807<S.size+me.size+1:=by omega
  have p2: ¬9223372036854775807<S.size+me.size+1+ya.size:=by omega
  have p3: ¬9223372036854775807<S.size+me.size+1+ya.size+yb.size:=by omega
  have p4: ¬9223372036854775807<S.size+me.size+1+ya.size+yb.size+1:=by omega
  have p5: ¬9223372036854775807<S.size+me.size+1+ya.size+yb.size+1+ho.size:=by omega
  have p6: ¬9223372036854775807<S.size+me.size+1+ya.size+yb.size+1+ho.size+1:=by omega
  have p7: ¬9223372036854775807<S.size+me.size+1+ya.size+yb.size+1+ho.size+1+mi.size:=by omega
  have p8: ¬9223372036854775807<S.size+me.size+1+ya.size+yb.size+1+ho.size+1+mi.size+1:=by omega
  have p9: ¬9223372036854775807<S.size+me.size+1+ya.size+yb.size+1+ho.size+1+mi.size+1+se.size:=by omega
  have p10: ¬9223372036854775807<S.size+me.size+1+ya.size+yb.size+1+ho.size+1+mi.size+1+se.size+4:=by omega
  have F5:=sS.out wc
  have S5:Below w.heap.size w (wc.alloc (.cells (GA Dt.rB) 9)):=b5.alloc b5.size _
  go_wp2_with fail
  refine(H1.out _).mono ?_
  rintro e x1 ⟨rfl,c1⟩
  have S6:=S5.trans (c1.mono S5.size)
  clear F5 S5 c1 b5
  go_wp2_with fail
  refine(H2.out _).mono ?_
  rintro e x2 ⟨rfl,c2⟩
  have S7:=S6.trans (c2.mono S6.size)
  go_wp2_with fail
  refine(H3.out _).mono ?_
  rintro e x3 ⟨rfl,c3⟩
  have S8:=S7.trans (c3.mono S7.size)
  go_wp2_with fail
  refine(H4.out _).mono ?_
  rintro e x4 ⟨rfl,c4⟩
  have S9:=S8.trans (c4.mono S8.size)
  go_wp2_with fail
  refine(H5.out _).mono ?_
  rintro e x5 ⟨rfl,c5⟩
  have S10:=S9.trans (c5.mono S9.size)
  go_wp2
  go_ret
  exact⟨nB (by rw[yE.out,HR.out]),S10⟩
end Go.Proofs.YtabgoobcliijeaaGreatDoor
