/- The walks of the reference's Group, hex and decimal. -/
import Derived.Test.YtabgoobcliijeaaGreatDoorY25
set_option maxHeartbeats 8000000
set_option maxRecDepth 100000
namespace Go.Proofs.YtabgoobcliijeaaGreatDoor
open Go.RowKit
namespace aA
theorem iAU {n:Nat}(h:16<=n)(hn:n<65536):lB n=lB (n/16)++ [XB (n%16)]:=by
 have h0: ¬n<16:=by omega
 have hor:(n<256/\n/16<16)\/(¬n<256/\n<4096/\ ¬n/16<16/\n/16<256)\/(¬n<256/\ ¬n<4096/\ ¬n/16<16/\ ¬n/16<256/\n/16<4096):=by omega
 unfold lB
 rcases hor with⟨h1,h2⟩|⟨h1,h2,h3,h4⟩|⟨h1,h2,h3,h4,h5⟩
 ·simp only[h0,h1,h2,if_true,if_false];rfl
 ·simp only[h0,h1,h2,h3,h4,if_true,if_false,Nat.div_div_eq_div_mul];rfl
 ·simp only[h0,h1,h2,h3,h4,h5,if_true,if_false,Nat.div_div_eq_div_mul];rfl
theorem NZ: ∀(n:Nat),n<16->(⟨#[48,49,50,51,52,53,54,55,56,57,97,98,99,100,101,102]⟩:ByteArray).extract n (n+1)=⟨#[XB n]⟩:=by decide
end aA
theorem cAk(a:List UInt8)(ha:a.length=16)(k:Nat)(hk:k<8)(g:UInt16)(hg:(aA.groups a)[k]? =some g)(w:World):
  Calls Tryz.prog 173 #[.agg (jA a),.int .i64 (k:Int)] w fun e w'=>e= .returned (.int .i64 (g.toNat:Int))/\Below w.heap.size w w':=by
 obtain⟨x,hx⟩: ∃x,a[2*k]? =some x:=⟨_,List.getElem?_eq_getElem (by omega)⟩
 obtain⟨y,hy⟩: ∃y,a[2*k+1]? =some y:=⟨_,List.getElem?_eq_getElem (by omega)⟩
 have e:=aA.aU a k x y hx hy
 rw[hg]at e
 have HG:=zA7 (show g.toNat=x.toNat*256+y.toNat by rw[zB2 e,aA.YN])
 have R0:=Row.new w 29 (jA a)
 have c0:(w.alloc (.cells (jA a) 29)).cell? ⟨w.heap.size,2*k,none⟩=some (.int .u8 (x.toNat:Int)):=by rw[R0.cell,GJ,hx];rfl
 have c1:(w.alloc (.cells (jA a) 29)).cell? ⟨w.heap.size,2*k+1,none⟩=some (.int .u8 (y.toNat:Int)):=by rw[R0.cell,GJ,hy];rfl
 have B:=((Below.refl w.heap.size w).alloc (zB3 _) (.cells (jA a) 29))
 have e1:((2:Int)*(k:Int)).toNat=2*k:=by omega
 have e2:((2:Int)*(k:Int)+1).toNat=2*k+1:=by omega
 have w1:IntKind.i64.wrap ((2:Int)*(k:Int))=(2:Int)*(k:Int):=by rw[IntKind.wrap_i64];omega
 have w2:IntKind.i64.wrap ((2:Int)*(k:Int)+1)=(2:Int)*(k:Int)+1:=by rw[IntKind.wrap_i64];omega
 have hx1:=x.toNat_lt
 have hy1:=y.toNat_lt
 have w3:IntKind.i64.wrap ((x.toNat:Int)*256)=(x.toNat:Int)*256:=by rw[IntKind.wrap_i64];omega
 have w4:IntKind.i64.wrap ((x.toNat:Int)*256+(y.toNat:Int))=(x.toNat:Int)*256+(y.toNat:Int):=by rw[IntKind.wrap_i64];omega
 clear e hx hy hg R0 ha
 go_enter Tryz.func173,Tryz.ntmps173
 go_wp2_with fail
 generalize w.alloc (.cells (jA a) 29)=w0 at*
 go_quiet (fail)
 go_wp2
 go_ret
 exact⟨uC (by rw[HG.out];omega),B.trans ((pB.more (pB.refl w0) _).below _)⟩
theorem pB.trans {w w1 w2:World}(h:pB w w1)(k:pB w1 w2):pB w w2:=by
 obtain⟨m,rfl⟩:=k
 exact h.more m
def YX(n:Nat)(w:World)(e:Ending)(w':World):Prop:=e= .returned (.string ⟨(aA.lB n).toArray⟩)/\pB w w'
theorem mAC(n:Nat)(hn:n<65536): ∀w:World,Calls Tryz.prog 202 #[.int .i64 (n:Int)] w (YX n w):=by
 induction n using Nat.strongRecOn with
 |_ n ih=>
  intro w
  by_cases h:n<16
  ·have HD:=zA7 (aA.NZ n h)
   have HT:=zA7 (show aA.lB n= [aA.XB n] by unfold aA.lB;rw[if_pos h])
   have e1:((n:Int)+1).toNat=n+1:=by omega
   clear ih
   go_enter Tryz.func202,Tryz.ntmps202
   go_wp2
   go_ret
   exact⟨nB (by rw[HT.out];exact HD.out),pB.refl _⟩
  ·have HI:=zA7 (ih (n/16) (by omega) (by omega))
   have hy:n%16<16:=by omega
   have HD:=zA7 (aA.NZ (n%16) hy)
   have HT:=zA7 (aA.iAU (by omega:16<=n) hn)
   have hl:=(aA.XJ (n/16)).2
   obtain⟨X,hX⟩: ∃X:ByteArray,X=⟨(aA.lB (n/16)).toArray⟩:=⟨_,rfl⟩
   have N8:X.size<=4:=by rw[hX];show(List.toArray _).size<=4;rw[List.size_toArray];exact hl
   have q1:IntKind.i64.wrap ((n:Int).tdiv 16)=((n/16:Nat):Int):=by rw[Int.tdiv_eq_ediv_of_nonneg (by omega),IntKind.wrap_i64];omega
   have q2:(n:Int).tmod 16=(n:Int)%16:=Int.tmod_eq_emod_of_nonneg (by omega)
   have m0:0<=(n:Int)%16:=by omega
   have m1:(n:Int)%16<16:=by omega
   have q3:IntKind.i64.wrap ((n:Int)%16+1)=(n:Int)%16+1:=by rw[IntKind.wrap_i64];omega
   have m2:0<=(n:Int)%16+1:=by omega
   have m3:(n:Int)%16+1<=16:=by omega
   have m4:(n:Int)%16<=(n:Int)%16+1:=by omega
   have q4:((n:Int)%16).toNat=n%16:=by omega
   have q5:((n:Int)%16+1).toNat=n%16+1:=by omega
   have q6:=HD.out
   have q7:(⟨#[aA.XB (n%16)]⟩:ByteArray).size=1:=rfl
   have q8: ¬9223372036854775807<X.size+1:=by omega
   have HC:Hid (∀W,Calls Tryz.prog 202 #[.int .i64 (IntKind.i64.wrap ((n:Int).tdiv 16))] W fun e w'=>e= .returned (.string X)/\pB W w'):=zA7 fun W=>by rw[q1,hX];exact HI.out W
   have HR:=zA7 (show X++⟨#[aA.XB (n%16)]⟩=⟨(aA.lB n).toArray⟩ by rw[hX,HT.out];apply ByteArray.ext;simp[ByteArray.data_append])
   clear ih hX HI HT
   go_enter Tryz.func202,Tryz.ntmps202
   go_wp2_with fail
   refine wp_region_held_drew (S:=pB w) (by kernel_rfl) ((pB.refl w).more 1) (fun _=>?_)
   refine mA (i:=0) rfl ?_
   refine mA (i:=1) rfl ?_
   refine mA (i:=3) rfl ?_
   refine mA (i:=4) rfl ?_
   refine mA (i:=5) rfl ?_
   refine mA (i:=6) rfl ?_
   refine mA (i:=7) rfl ?_
   refine mA (i:=8) rfl ?_
   refine yA (i:=2) fun K hK=>?_
   go_simp
   refine(HC.out _).mono ?_
   rintro e w4 ⟨rfl,d4⟩
   have S4:pB w w4:=pB.trans (by assumption) d4
   go_wp2_with fail
   refine hK.out _ _ S4 (fun _=>?_)
   clear hK K
   refine mA (i:=9) rfl ?_
   refine mA (i:=10) rfl ?_
   refine wpAnyH_done (by kernel_rfl) ?_ _
   go_wp2
   go_ret
   exact⟨nB HR.out,S4⟩
end Go.Proofs.YtabgoobcliijeaaGreatDoor
namespace Go.Proofs.YtabgoobcliijeaaGreatDoor
open Go.RowKit
namespace aA
theorem GZ {n:Nat}(h:n<10):Lib.decDigits n= [UInt8.ofNat (48+n)]:=by unfold Lib.decDigits;rw[dif_pos h]
theorem FZ {n:Nat}(h: ¬n<10):Lib.decDigits n=Lib.decDigits (n/10)++ [UInt8.ofNat (48+n%10)]:=by
 conv=>lhs;unfold Lib.decDigits
 rw[dif_neg h]
theorem SP(k:Nat)(h:k<10):(UInt8.ofNat (48+k)).toNat=48+k:=by rw[UInt8.toNat_ofNat'];omega
end aA
def LH(n:Nat)(w:World)(e:Ending)(w':World):Prop:=e= .returned (.string ⟨(Lib.decDigits n).toArray⟩)/\Below w.heap.size w w'
theorem fAI(w w':World)(c:UInt8)(hc:w'.cell? ⟨w.heap.size,0,none⟩=some (.int .u8 (c.toNat:Int))):
  (convert 110 9 (.slice (some ⟨w.heap.size,0,none⟩) 1 1)).run Tryz.prog w'= .ok (.string ⟨#[c]⟩) w':=by
 refine run_convert_bytes_back w' 110 9 5 ⟨w.heap.size,0,none⟩ 1 [c] Tryz.underlying110 Tryz.underlying5 Tryz.underlying9 (fun j hj=>?_)
 have:j=0:=by simp at hj;exact hj
 subst this
 exact hc
theorem YV(n:Nat)(h:n<10)(w:World):Calls Tryz.prog 172 #[.int .i64 (n:Int)] w (LH n w):=by
 have HT:=zA7 (aA.GZ h)
 have hu:=aA.SP n h
 have hcv:=dO w (UInt8.ofNat (48+n))
 generalize UInt8.ofNat (48+n)=c at*
 rw[hu]at hcv
 have e1:((48+n:Nat):Int)=48+(n:Int):=by omega
 rw[e1]at hcv
 go_enter Tryz.func172,Tryz.ntmps172
 go_wp2
 go_ret
 exact⟨nB (by rw[HT.out]),(Below.refl w.heap.size w).alloc (zB3 _) _⟩
theorem cAg(n:Nat)(h: ¬n<10)(hn:n<1000)(ih: ∀w,Calls Tryz.prog 172 #[.int .i64 ((n/10:Nat):Int)] w (LH (n/10) w))(hx:(Lib.decDigits (n/10)).length<=3)(w:World):
  Calls Tryz.prog 172 #[.int .i64 (n:Int)] w (LH n w):=by
 have hd:n%10<10:=by omega
 obtain⟨X,hX⟩: ∃X:ByteArray,X=⟨(Lib.decDigits (n/10)).toArray⟩:=⟨_,rfl⟩
 obtain⟨c,hc⟩: ∃c:UInt8,c=UInt8.ofNat (48+n%10):=⟨_,rfl⟩
 have HR:=zA7 (show X++⟨#[c]⟩=⟨(Lib.decDigits n).toArray⟩ by rw[hX,aA.FZ h,hc];apply ByteArray.ext;simp[ByteArray.data_append])
 have N8:X.size<=3:=by rw[hX];show(List.toArray _).size<=3;rw[List.size_toArray];exact hx
 have hu:=aA.SP (n%10) hd
 rw[<-hc]at hu
 have hu':(c.toNat:Int)=48+(n:Int)%10:=by omega
 have q1:IntKind.i64.wrap ((n:Int).tdiv 10)=((n/10:Nat):Int):=by rw[Int.tdiv_eq_ediv_of_nonneg (by omega),IntKind.wrap_i64];omega
 have q2:(n:Int).tmod 10=(n:Int)%10:=Int.tmod_eq_emod_of_nonneg (by omega)
 have m0:0<=(n:Int)%10:=by omega
 have m1:(n:Int)%10<10:=by omega
 have q3:IntKind.i64.wrap (48+(n:Int)%10)=48+(n:Int)%10:=by rw[IntKind.wrap_i64];omega
 have q4:IntKind.u8.wrap (48+(n:Int)%10)=48+(n:Int)%10:=by rw[IntKind.wrap_u8];omega
 have q7:(⟨#[c]⟩:ByteArray).size=1:=rfl
 have q8: ¬9223372036854775807<X.size+1:=by omega
 have HC:Hid (∀W,Calls Tryz.prog 172 #[.int .i64 (IntKind.i64.wrap ((n:Int).tdiv 10))] W fun e w'=>e= .returned (.string X)/\Below W.heap.size W w'):=zA7 fun W=>by rw[q1,hX];exact ih W
 have hcv:=fun W=>dO W c
 rw[hu']at hcv
 have hcd:(convert 110 9 (.slice (some ⟨w.heap.size,0,none⟩) 1 1)).run Tryz.prog (w.alloc (.cells #[.int .u8 (48+(n:Int)%10)] 5)).drew= .ok (.string ⟨#[c]⟩) (w.alloc (.cells #[.int .u8 (48+(n:Int)%10)] 5)).drew:=hcv w.drew
 clear ih hX hu hc
 go_enter Tryz.func172,Tryz.ntmps172
 go_wp2_with fail
 refine wp_region_held_drew (S:=Below w.heap.size w) (by kernel_rfl) ((Below.refl w.heap.size w).drew) (fun _=>?_)
 refine mA (i:=0) rfl ?_
 refine mA (i:=1) rfl ?_
 refine mA (i:=3) rfl ?_
 refine mA (i:=4) rfl ?_
 refine mA (i:=5) rfl ?_
 refine mA (i:=6) rfl ?_
 refine wpAnyH_ready (rs:= [2,7]) (by kernel_rfl) (by simp) (AllReadyH.cons rfl (fun K hK=>?_) (AllReadyH.cons rfl (fun K hK=>?_) AllReadyH.nil))
 ·rw[if_pos (by rfl)]
  go_simp
  refine(HC.out _).mono ?_
  rintro e w4 ⟨rfl,b4⟩
  have S4:Below w.heap.size w w4:=Below.trans (by assumption) (b4.mono (Below.size (by assumption)))
  go_wp2_with fail
  refine hK.out _ _ S4 (fun _=>?_)
  clear hK K
  refine yA (i:=7) fun K hK=>?_
  go_simp
  have S5:Below w.heap.size w ((w4).alloc (.cells #[.int .u8 (48+(n:Int)%10)] 5)):=Below.alloc (by assumption) (Below.size (by assumption)) _
  refine hK.out _ _ S5 (fun _=>?_)
  clear hK K
  refine yA (i:=8) fun K hK=>?_
  go_simp
  refine hK.out _ _ S5 (fun _=>?_)
  clear hK K
  refine mA (i:=9) rfl ?_
  refine mA (i:=10) rfl ?_
  refine wpAnyH_done (by kernel_rfl) ?_ _
  go_wp2
  go_ret
  exact⟨nB HR.out,by assumption⟩
 ·rw[if_pos (by rfl)]
  go_simp
  have S5:Below w.heap.size w ((w.drew).alloc (.cells #[.int .u8 (48+(n:Int)%10)] 5)):=Below.alloc (by assumption) (Below.size (by assumption)) _
  refine hK.out _ _ S5 (fun _=>?_)
  clear hK K
  refine wpAnyH_ready (rs:= [2,8]) (by kernel_rfl) (by simp) (AllReadyH.cons rfl (fun K hK=>?_) (AllReadyH.cons rfl (fun K hK=>?_) AllReadyH.nil))
  ·rw[if_pos (by rfl)]
   go_simp
   refine(HC.out _).mono ?_
   rintro e w4 ⟨rfl,b4⟩
   have S4:Below w.heap.size w w4:=Below.trans (by assumption) (b4.mono (Below.size (by assumption)))
   go_wp2_with fail
   refine hK.out _ _ S4 (fun _=>?_)
   clear hK K
   have hcw:=fAI w w4 c ((b4.cell (by simp)).trans (by rw[hu'];exact cell_one_new w.drew (.int .u8 (48+(n:Int)%10)) 5 0 _ rfl))
   refine yA (i:=8) fun K hK=>?_
   go_simp
   refine hK.out _ _ S4 (fun _=>?_)
   clear hK K
   refine mA (i:=9) rfl ?_
   refine mA (i:=10) rfl ?_
   refine wpAnyH_done (by kernel_rfl) ?_ _
   go_wp2
   go_ret
   exact⟨nB HR.out,by assumption⟩
  ·rw[if_pos (by rfl)]
   go_simp
   refine hK.out _ _ S5 (fun _=>?_)
   clear hK K
   refine yA (i:=2) fun K hK=>?_
   go_simp
   refine(HC.out _).mono ?_
   rintro e w4 ⟨rfl,b4⟩
   have S4:Below w.heap.size w w4:=Below.trans (by assumption) (b4.mono (Below.size (by assumption)))
   go_wp2_with fail
   refine hK.out _ _ S4 (fun _=>?_)
   clear hK K
   refine mA (i:=9) rfl ?_
   refine mA (i:=10) rfl ?_
   refine wpAnyH_done (by kernel_rfl) ?_ _
   go_wp2
   go_ret
   exact⟨nB HR.out,by assumption⟩
theorem mR(n:Nat)(hn:n<256)(w:World):Calls Tryz.prog 172 #[.int .i64 (n:Int)] w (LH n w):=by
 by_cases h:n<10
 ·exact YV n h w
 ·have h2: ∀m:Nat,m<100-> ∀w,Calls Tryz.prog 172 #[.int .i64 (m:Int)] w (LH m w):=fun m hm w=>by
   by_cases h:m<10
   ·exact YV m h w
   ·exact cAg m h (by omega) (fun w=>YV _ (by omega) w) (aA.NJ _ (by omega)) w
  exact cAg n h (by omega) (fun w=>h2 _ (by omega) w) (aA.NJ _ (by omega)) w
end Go.Proofs.YtabgoobcliijeaaGreatDoor
namespace Go.Proofs.YtabgoobcliijeaaGreatDoor
open Go.RowKit
structure dN(n0:Nat)(x0 x1 x2 x3:UInt8)(w w':World):Prop where
 c0:w'.cell? ⟨n0,12,none⟩=some (.int .u8 (x0.toNat:Int))
 c1:w'.cell? ⟨n0,13,none⟩=some (.int .u8 (x1.toNat:Int))
 c2:w'.cell? ⟨n0,14,none⟩=some (.int .u8 (x2.toNat:Int))
 c3:w'.cell? ⟨n0,15,none⟩=some (.int .u8 (x3.toNat:Int))
 below:Below w.heap.size w w'
theorem dN.on {n0:Nat}{x0 x1 x2 x3:UInt8}{w w' w'':World}(h:dN n0 x0 x1 x2 x3 w w')(hb:Below w'.heap.size w' w''):dN n0 x0 x1 x2 x3 w w'':=
 ⟨(hb.cell (block_lt_of_cell h.c0)).trans h.c0,(hb.cell (block_lt_of_cell h.c1)).trans h.c1,(hb.cell (block_lt_of_cell h.c2)).trans h.c2,(hb.cell (block_lt_of_cell h.c3)).trans h.c3,h.below.trans (hb.mono h.below.size)⟩
theorem nA0(a:List UInt8)(ha:a.length=16)(w:World):
  Calls Tryz.prog 137 #[.agg (jA a)] w fun e w'=>e= .returned (.string ⟨(aA.UD (a.drop 12)).toArray⟩)/\Below w.heap.size w w':=by
 obtain⟨x0,x1,x2,x3,hx⟩: ∃x0 x1 x2 x3,a.drop 12= [x0,x1,x2,x3]:=by
  have h4:(a.drop 12).length=4:=by rw[List.length_drop,ha]
  match a.drop 12,h4 with
  | [x0,x1,x2,x3],_=>exact⟨x0,x1,x2,x3,rfl⟩
 obtain⟨X0,hX0⟩: ∃X:ByteArray,X=⟨(Lib.decDigits x0.toNat).toArray⟩:=⟨_,rfl⟩
 have z0:X0.size<=3:=by rw[hX0];show(List.toArray _).size<=3;rw[List.size_toArray];exact aA.NJ _ x0.toNat_lt
 have b0:=x0.toNat_lt
 have h0:=fun W=>mR x0.toNat x0.toNat_lt W
 unfold LH at h0
 rw[<-hX0]at h0
 have H0:=zA7 h0
 obtain⟨X1,hX1⟩: ∃X:ByteArray,X=⟨(Lib.decDigits x1.toNat).toArray⟩:=⟨_,rfl⟩
 have z1:X1.size<=3:=by rw[hX1];show(List.toArray _).size<=3;rw[List.size_toArray];exact aA.NJ _ x1.toNat_lt
 have b1:=x1.toNat_lt
 have h1:=fun W=>mR x1.toNat x1.toNat_lt W
 unfold LH at h1
 rw[<-hX1]at h1
 have H1:=zA7 h1
 obtain⟨X2,hX2⟩: ∃X:ByteArray,X=⟨(Lib.decDigits x2.toNat).toArray⟩:=⟨_,rfl⟩
 have z2:X2.size<=3:=by rw[hX2];show(List.toArray _).size<=3;rw[List.size_toArray];exact aA.NJ _ x2.toNat_lt
 have b2:=x2.toNat_lt
 have h2:=fun W=>mR x2.toNat x2.toNat_lt W
 unfold LH at h2
 rw[<-hX2]at h2
 have H2:=zA7 h2
 obtain⟨X3,pQ⟩: ∃X:ByteArray,X=⟨(Lib.decDigits x3.toNat).toArray⟩:=⟨_,rfl⟩
 have z3:X3.size<=3:=by rw[pQ];show(List.toArray _).size<=3;rw[List.size_toArray];exact aA.NJ _ x3.toNat_lt
 have b3:=x3.toNat_lt
 have h3:=fun W=>mR x3.toNat x3.toNat_lt W
 unfold LH at h3
 rw[<-pQ]at h3
 have H3:=zA7 h3
 have HR:=zA7 (show X0++⟨#[46]⟩++X1++⟨#[46]⟩++X2++⟨#[46]⟩++X3=⟨(aA.UD (a.drop 12)).toArray⟩ by
  rw[hX0,hX1,hX2,pQ,hx]
  apply ByteArray.ext
  simp[ByteArray.data_append,aA.UD,aA.join_step,Lib.join_one])
 have cs:(⟨#[46]⟩:ByteArray).size=1:=rfl
 have q0: ¬9223372036854775807<X0.size+1:=by omega
 have q1: ¬9223372036854775807<X0.size+1+X1.size:=by omega
 have q2: ¬9223372036854775807<X0.size+1+X1.size+1:=by omega
 have q3: ¬9223372036854775807<X0.size+1+X1.size+1+X2.size:=by omega
 have q4: ¬9223372036854775807<X0.size+1+X1.size+1+X2.size+1:=by omega
 have q5: ¬9223372036854775807<X0.size+1+X1.size+1+X2.size+1+X3.size:=by omega
 have K0:dN w.heap.size x0 x1 x2 x3 w (w.alloc (.cells (jA a) 29)):=by
  have R0:=Row.new w 29 (jA a)
  have e: ∀i c,(a.drop 12)[i]? =some c->(w.alloc (.cells (jA a) 29)).cell? ⟨w.heap.size,12+i,none⟩=some (.int .u8 (c.toNat:Int)):=fun i c hc=>by
   rw[R0.cell,GJ,<-List.getElem?_drop,hc];rfl
  rw[hx]at e
  exact⟨e 0 x0 rfl,e 1 x1 rfl,e 2 x2 rfl,e 3 x3 rfl,(Below.refl w.heap.size w).alloc (zB3 _) _⟩
 clear hX0 hX1 hX2 pQ h0 h1 h2 h3 hx ha
 have HK:Hid (∀W W',(W.cell? ⟨w.heap.size,12,none⟩=some (.int .u8 (x0.toNat:Int))/\W.cell? ⟨w.heap.size,13,none⟩=some (.int .u8 (x1.toNat:Int))/\W.cell? ⟨w.heap.size,14,none⟩=some (.int .u8 (x2.toNat:Int))/\W.cell? ⟨w.heap.size,15,none⟩=some (.int .u8 (x3.toNat:Int))/\Below w.heap.size w W)->Below W.heap.size W W'->(W'.cell? ⟨w.heap.size,12,none⟩=some (.int .u8 (x0.toNat:Int))/\W'.cell? ⟨w.heap.size,13,none⟩=some (.int .u8 (x1.toNat:Int))/\W'.cell? ⟨w.heap.size,14,none⟩=some (.int .u8 (x2.toNat:Int))/\W'.cell? ⟨w.heap.size,15,none⟩=some (.int .u8 (x3.toNat:Int))/\Below w.heap.size w W')):=zA7 fun W W' ⟨c0,c1,c2,c3,h⟩ b=>by
  have k:=(dN.mk (n0:=w.heap.size) c0 c1 c2 c3 h).on b
  exact⟨k.c0,k.c1,k.c2,k.c3,k.below⟩
 have C0:Hid (∀W,(W.cell? ⟨w.heap.size,12,none⟩=some (.int .u8 (x0.toNat:Int))/\W.cell? ⟨w.heap.size,13,none⟩=some (.int .u8 (x1.toNat:Int))/\W.cell? ⟨w.heap.size,14,none⟩=some (.int .u8 (x2.toNat:Int))/\W.cell? ⟨w.heap.size,15,none⟩=some (.int .u8 (x3.toNat:Int))/\Below w.heap.size w W)->Calls Tryz.prog 172 #[.int .i64 (IntKind.i64.wrap (x0.toNat:Int))] W fun e W'=>e= .returned (.string X0)/\(W'.cell? ⟨w.heap.size,12,none⟩=some (.int .u8 (x0.toNat:Int))/\W'.cell? ⟨w.heap.size,13,none⟩=some (.int .u8 (x1.toNat:Int))/\W'.cell? ⟨w.heap.size,14,none⟩=some (.int .u8 (x2.toNat:Int))/\W'.cell? ⟨w.heap.size,15,none⟩=some (.int .u8 (x3.toNat:Int))/\Below w.heap.size w W')):=zA7 fun W h=>by rw[show IntKind.i64.wrap (x0.toNat:Int)=(x0.toNat:Int) by rw[IntKind.wrap_i64];omega];exact(H0.out W).mono fun e W' hh=>⟨hh.1,HK.out _ _ h hh.2⟩
 have C1:Hid (∀W,(W.cell? ⟨w.heap.size,12,none⟩=some (.int .u8 (x0.toNat:Int))/\W.cell? ⟨w.heap.size,13,none⟩=some (.int .u8 (x1.toNat:Int))/\W.cell? ⟨w.heap.size,14,none⟩=some (.int .u8 (x2.toNat:Int))/\W.cell? ⟨w.heap.size,15,none⟩=some (.int .u8 (x3.toNat:Int))/\Below w.heap.size w W)->Calls Tryz.prog 172 #[.int .i64 (IntKind.i64.wrap (x1.toNat:Int))] W fun e W'=>e= .returned (.string X1)/\(W'.cell? ⟨w.heap.size,12,none⟩=some (.int .u8 (x0.toNat:Int))/\W'.cell? ⟨w.heap.size,13,none⟩=some (.int .u8 (x1.toNat:Int))/\W'.cell? ⟨w.heap.size,14,none⟩=some (.int .u8 (x2.toNat:Int))/\W'.cell? ⟨w.heap.size,15,none⟩=some (.int .u8 (x3.toNat:Int))/\Below w.heap.size w W')):=zA7 fun W h=>by rw[show IntKind.i64.wrap (x1.toNat:Int)=(x1.toNat:Int) by rw[IntKind.wrap_i64];omega];exact(H1.out W).mono fun e W' hh=>⟨hh.1,HK.out _ _ h hh.2⟩
 have C2:Hid (∀W,(W.cell? ⟨w.heap.size,12,none⟩=some (.int .u8 (x0.toNat:Int))/\W.cell? ⟨w.heap.size,13,none⟩=some (.int .u8 (x1.toNat:Int))/\W.cell? ⟨w.heap.size,14,none⟩=some (.int .u8 (x2.toNat:Int))/\W.cell? ⟨w.heap.size,15,none⟩=some (.int .u8 (x3.toNat:Int))/\Below w.heap.size w W)->Calls Tryz.prog 172 #[.int .i64 (IntKind.i64.wrap (x2.toNat:Int))] W fun e W'=>e= .returned (.string X2)/\(W'.cell? ⟨w.heap.size,12,none⟩=some (.int .u8 (x0.toNat:Int))/\W'.cell? ⟨w.heap.size,13,none⟩=some (.int .u8 (x1.toNat:Int))/\W'.cell? ⟨w.heap.size,14,none⟩=some (.int .u8 (x2.toNat:Int))/\W'.cell? ⟨w.heap.size,15,none⟩=some (.int .u8 (x3.toNat:Int))/\Below w.heap.size w W')):=zA7 fun W h=>by rw[show IntKind.i64.wrap (x2.toNat:Int)=(x2.toNat:Int) by rw[IntKind.wrap_i64];omega];exact(H2.out W).mono fun e W' hh=>⟨hh.1,HK.out _ _ h hh.2⟩
 have C3:Hid (∀W,(W.cell? ⟨w.heap.size,12,none⟩=some (.int .u8 (x0.toNat:Int))/\W.cell? ⟨w.heap.size,13,none⟩=some (.int .u8 (x1.toNat:Int))/\W.cell? ⟨w.heap.size,14,none⟩=some (.int .u8 (x2.toNat:Int))/\W.cell? ⟨w.heap.size,15,none⟩=some (.int .u8 (x3.toNat:Int))/\Below w.heap.size w W)->Calls Tryz.prog 172 #[.int .i64 (IntKind.i64.wrap (x3.toNat:Int))] W fun e W'=>e= .returned (.string X3)/\(W'.cell? ⟨w.heap.size,12,none⟩=some (.int .u8 (x0.toNat:Int))/\W'.cell? ⟨w.heap.size,13,none⟩=some (.int .u8 (x1.toNat:Int))/\W'.cell? ⟨w.heap.size,14,none⟩=some (.int .u8 (x2.toNat:Int))/\W'.cell? ⟨w.heap.size,15,none⟩=some (.int .u8 (x3.toNat:Int))/\Below w.heap.size w W')):=zA7 fun W h=>by rw[show IntKind.i64.wrap (x3.toNat:Int)=(x3.toNat:Int) by rw[IntKind.wrap_i64];omega];exact(H3.out W).mono fun e W' hh=>⟨hh.1,HK.out _ _ h hh.2⟩
 go_enter Tryz.func137,Tryz.ntmps137
 go_wp2_with fail
 generalize w.alloc (.cells (jA a) 29)=w0 at*
 have K1:w0.drew.cell? ⟨w.heap.size,12,none⟩=some (.int .u8 (x0.toNat:Int))/\w0.drew.cell? ⟨w.heap.size,13,none⟩=some (.int .u8 (x1.toNat:Int))/\w0.drew.cell? ⟨w.heap.size,14,none⟩=some (.int .u8 (x2.toNat:Int))/\w0.drew.cell? ⟨w.heap.size,15,none⟩=some (.int .u8 (x3.toNat:Int))/\Below w.heap.size w w0.drew:=HK.out _ _ ⟨K0.c0,K0.c1,K0.c2,K0.c3,K0.below⟩ (Below.refl _ _).drew
 clear K0 H0 H1 H2 H3
 go_region_held3 (fun W'=>W'.cell? ⟨w.heap.size,12,none⟩=some (.int .u8 (x0.toNat:Int))/\W'.cell? ⟨w.heap.size,13,none⟩=some (.int .u8 (x1.toNat:Int))/\W'.cell? ⟨w.heap.size,14,none⟩=some (.int .u8 (x2.toNat:Int))/\W'.cell? ⟨w.heap.size,15,none⟩=some (.int .u8 (x3.toNat:Int))/\Below w.heap.size w W') (assumption) ((first
  |(go_at_call_of 172 (Value.int .i64 (IntKind.i64.wrap (x0.toNat:Int)));refine(C0.out _ (by assumption)).mono ?_;rintro e w4 ⟨rfl,K4⟩)
  |(go_at_call_of 172 (Value.int .i64 (IntKind.i64.wrap (x1.toNat:Int)));refine(C1.out _ (by assumption)).mono ?_;rintro e w4 ⟨rfl,K4⟩)
  |(go_at_call_of 172 (Value.int .i64 (IntKind.i64.wrap (x2.toNat:Int)));refine(C2.out _ (by assumption)).mono ?_;rintro e w4 ⟨rfl,K4⟩)
  |(go_at_call_of 172 (Value.int .i64 (IntKind.i64.wrap (x3.toNat:Int)));refine(C3.out _ (by assumption)).mono ?_;rintro e w4 ⟨rfl,K4⟩)))
 all_goals
  go_wp2
  go_ret
  rename_i K4 _
  exact⟨nB HR.out,K4.2.2.2.2⟩
end Go.Proofs.YtabgoobcliijeaaGreatDoor
namespace Go.Proofs.YtabgoobcliijeaaGreatDoor
open Go.RowKit
def dT(a:List UInt8)(f t:Nat)(w:World)(e:Ending)(w':World):Prop:=e= .returned (.string ⟨(aA.pt (aA.groups a) f t).toArray⟩)/\Below w.heap.size w w'
theorem mAP(a:List UInt8)(ha:a.length=16)(f t:Nat)(hft:f<=t)(ht:t<=8)(w:World):
  Calls Tryz.prog 174 #[.agg (jA a),.int .i64 (f:Int),.int .i64 (t:Int)] w (dT a f t w):=by
 have HG:=zA7 (fun k hk g hg W=>cAk a ha k hk g hg W)
 have HZ:=zA7 (show(jA a).size=16 by rw[BC,ha])
 have HL:=zA7 (aA.RI 8 a ha)
 have SM:=zA7 (show True from trivial)
 obtain⟨gs,hgs⟩: ∃gs,gs=aA.groups a:=⟨_,rfl⟩
 have HR:Hid (dT a f t w=fun e w'=>e= .returned (.string ⟨(aA.pt gs f t).toArray⟩)/\Below w.heap.size w w'):=zA7 (by rw[hgs];rfl)
 rw[HR.out]
 rw[<-hgs]at HG HL
 clear hgs SM HR ha
 have R0:=Row.new w 29 (jA a)
 have B0:=(Below.refl w.heap.size w).alloc (zB3 _) (.cells (jA a) 29)
 go_enter Tryz.func174,Tryz.ntmps174
 go_wp2_with fail
 generalize w.alloc (.cells (jA a) 29)=w0 at*
 go_loopw [7,8] (fun v i wr=> ∃(k:Nat)(o:ByteArray),f<=k/\k<=t/\i= .int .i64 (k:Int)/\v= .string o/\Hid (o.data.toList=aA.pt gs f k)/\o.size<=40/\Row wr w.heap.size 29 (jA a)/\Below w.heap.size w wr) (fun _ i _=>t- (intOf i).toNat)
 case atStart=>exact⟨f,⟨#[]⟩,zB3 _,hft,rfl,rfl,(aA.bAW gs f).symm,by decide,R0,B0⟩
 case round=>
  clear R0 B0
  obtain⟨k,o,hfk,hkt,rfl,rfl,HO,ho,R,hb⟩:=hrel
  by_cases hlt:k<t
  ·obtain⟨x,hx⟩: ∃x,gs[k]? =some x:=⟨_,List.getElem?_eq_getElem (by rw[HL.out];omega)⟩
   have HC:=zA7 (HG.out k (by omega) x hx)
   have HH:=zA7 (fun W=>mAC x.toNat x.toNat_lt W)
   unfold YX at HH
   have hl4:=(aA.XJ x.toNat).2
   obtain⟨X,hX⟩: ∃X:ByteArray,X=⟨(aA.lB x.toNat).toArray⟩:=⟨_,rfl⟩
   have N8:X.size<=4:=by rw[hX];show(List.toArray _).size<=4;rw[List.size_toArray];exact hl4
   rw[<-hX]at HH
   have QM:=zA7 (aA.KV gs f (k+1) (by omega))
   have cs:(⟨#[58]⟩:ByteArray).size=1:=rfl
   by_cases hkf:f<k
   ·have HN:=zA7 (show(o++⟨#[58]⟩++X).data.toList=aA.pt gs f (k+1) by rw[aA.mAh hkf hx,<-HO.out,hX];simp[ByteArray.data_append])
    have q0: ¬9223372036854775807<o.size+1:=by omega
    have q1: ¬9223372036854775807<o.size+1+X.size:=by omega
    clear hx hX HO hl4
    go_wp2_with (first
     |(refine iA 21 rfl ?_;refine qA rfl 29 _ rfl w.heap.size rfl R Tryz.underlying29 rfl (by rw[HZ.out];exact xA) ?_)
     |(go_at_call 173;refine(HC.out _).mono ?_;rintro e w1 ⟨rfl,b1⟩)
     |(go_at_call 202;refine(HH.out _).mono ?_;rintro e w2 ⟨rfl,d2⟩))
    have R2:=(R.stays b1).stays (d2.below _)
    have B2:=hb.trans ((b1.trans ((d2.below _).mono b1.size)).mono hb.size)
    clear R hb b1 d2
    go_roundw
    case rel=>exact⟨k+1,_,by omega,by omega,by go_num,rfl,HN.out,by rw[<-Oct.nA,HN.out];exact QM.out,R2,B2⟩
    case measure=>simp[intOf];omega
   ·have hk:k=f:=by omega
    subst hk
    have HN:=zA7 (show(o++X).data.toList=aA.pt gs k (k+1) by rw[aA.mAg hx,ByteArray.data_append,Array.toList_append,HO.out,aA.bAW,hX];rfl)
    have q1: ¬9223372036854775807<o.size+X.size:=by omega
    clear hx hX HO hl4
    go_wp2_with (first
     |(refine iA 21 rfl ?_;refine qA rfl 29 _ rfl w.heap.size rfl R Tryz.underlying29 rfl (by rw[HZ.out];exact xA) ?_)
     |(go_at_call 173;refine(HC.out _).mono ?_;rintro e w1 ⟨rfl,b1⟩)
     |(go_at_call 202;refine(HH.out _).mono ?_;rintro e w2 ⟨rfl,d2⟩))
    have R2:=(R.stays b1).stays (d2.below _)
    have B2:=hb.trans ((b1.trans ((d2.below _).mono b1.size)).mono hb.size)
    clear R hb b1 d2
    go_roundw
    case rel=>exact⟨k+1,_,by omega,by omega,by go_num,rfl,HN.out,by rw[<-Oct.nA,HN.out];exact QM.out,R2,B2⟩
    case measure=>simp[intOf];omega
  ·have hk:k=t:=by omega
   subst hk
   go_wp2
   go_ret
   exact⟨nB (by rw[<-HO.out]),hb⟩
end Go.Proofs.YtabgoobcliijeaaGreatDoor
namespace Go.Proofs.YtabgoobcliijeaaGreatDoor
open Go.RowKit
namespace aA
theorem pAD {g:List UInt16}(hg:g.length=8)(h:nf g≠nt g):OB g=pt g 0 (nf g)++58::58::pt g (nt g) 8:=by
 unfold OB pt
 rw[if_neg h,List.drop_zero,Nat.sub_zero,List.take_of_length_le (l:=g.drop (nt g)) (by rw[List.length_drop,hg];exact zB3 _)]
theorem pAC {g:List UInt16}(hg:g.length=8)(h:nf g=nt g):OB g=pt g 0 8:=by
 unfold OB pt
 rw[if_pos h,List.drop_zero,List.take_of_length_le (by omega)]
end aA
structure rG(n0:Nat)(a:List UInt8)(w w':World):Prop where
 row:Row w' n0 29 (jA a)
 below:Below w.heap.size w w'
theorem rG.on {n0:Nat}{a:List UInt8}{w w' w'':World}(h:rG n0 a w w')(hb:Below w'.heap.size w' w''):rG n0 a w w'':=
 ⟨h.row.stays hb,h.below.trans (hb.mono h.below.size)⟩
theorem nA1(a:List UInt8)(ha:a.length=16)(w:World):
  Calls Tryz.prog 138 #[.agg (jA a)] w fun e w'=>e= .returned (.string ⟨(aA.OB (aA.groups a)).toArray⟩)/\Below w.heap.size w w':=by
 have HG:=zA7 (fun k hk g hg W=>cAk a ha k hk g hg W)
 have HP:=zA7 (fun f t hft ht W=>mAP a ha f t hft ht W)
 unfold dT at HP
 have HZ:=zA7 (show(jA a).size=16 by rw[BC,ha])
 have hl:=aA.RI 8 a ha
 generalize aA.groups a=gs at*
 have HL:=zA7 hl
 have HY:=zA7 (aA.pAD hl)
 have HN:=zA7 (aA.pAC hl)
 obtain⟨hr1,hr2⟩:=aA.row_of hl
 obtain⟨hf1,hf2,hf3,_⟩:=aA.wV hl
 obtain⟨A,hA⟩: ∃A,A=aA.nf gs:=⟨_,rfl⟩
 obtain⟨T,hT⟩: ∃T,T=aA.nt gs:=⟨_,rfl⟩
 simp only[<-hA,<-hT]at HY HN hr1 hr2 hf1 hf2 hf3
 have WX:=zA7 (fun k x (h:gs[k]? =some x)=>aA.WW h)
 have H1:=zA7 hr1
 have H2:=zA7 hr2
 have HF:=zA7 hf1
 have CI:=zA7 hf2
 have LE:=zA7 hf3
 generalize aA.zeros gs=z at*
 clear hA hT hl hr1 hr2 hf1 hf2 hf3 ha
 have R0:=Row.new w 29 (jA a)
 have B0:=(Below.refl w.heap.size w).alloc (zB3 _) (.cells (jA a) 29)
 go_enter Tryz.func138,Tryz.ntmps138
 go_wp2_with fail
 generalize w.alloc (.cells (jA a) 29)=w0 at*
 go_loopw [3] (fun v wr=> ∃long:Nat,1<=long/\long<=8/\v= .int .i64 (long:Int)/\Hid (A≠T->T-A<=long)/\Row wr w.heap.size 29 (jA a)/\Below w.heap.size w wr) (fun v _=>(intOf v).toNat)
 case atStart=>exact⟨8,by omega,by omega,rfl,fun _=>by have:=LE.out;omega,R0,B0⟩
 case round=>
  clear R0 B0
  obtain⟨long,hl1,hl8,rfl,HO,R,hb⟩:=hrel
  by_cases h2:2<=long
  ·have e2:decide ((2:Int)<=(long:Int))=true:=zA9 (by omega)
   go_wp2_with fail
   go_loopw [4] (fun v wr=> ∃at_:Nat,at_+long<=9/\v= .int .i64 (at_:Int)/\Hid (A≠T->T-A<long\/(T-A=long/\at_<=A))/\Row wr w.heap.size 29 (jA a)/\Below w.heap.size w wr) (fun v _=>9- (intOf v).toNat)
   case atStart=>exact⟨0,by omega,rfl,fun h=>by have:=HO.out h;omega,R,hb⟩
   case round=>
    clear R hb
    obtain⟨at_,hat,rfl,HI,R,hb⟩:=hrel
    by_cases h8:at_+long<=8
    ·have e8:decide ((at_:Int)+(long:Int)<=8)=true:=zA9 (by omega)
     go_wp2_with fail
     go_loopw [5,6] (fun al i wr=> ∃n:Nat,n<=long/\i= .int .i64 ((at_+n:Nat):Int)/\al= .bool (aA.PF z at_ n)/\Row wr w.heap.size 29 (jA a)/\Below w.heap.size w wr) (fun _ i _=>at_+long- (intOf i).toNat)
     case atStart=>exact⟨0,Nat.zero_le _,rfl,rfl,R,hb⟩
     case round=>
      clear R hb
      obtain⟨n,hn,rfl,rfl,R,hb⟩:=hrel
      by_cases hlt:n<long
      ·obtain⟨x,hx⟩: ∃x,gs[at_+n]? =some x:=⟨_,List.getElem?_eq_getElem (by rw[HL.out];omega)⟩
       have HC:=zA7 (HG.out (at_+n) (by omega) x hx)
       have hz:=WX.out _ x hx
       cases hall:aA.PF z at_ n with
       |true=>
        have HX:=zA7 (show((x.toNat:Int)==0)=aA.PF z at_ (n+1) by
         show _=(aA.PF z at_ n&&z.getD (at_+n) false)
         rw[hall,hz,Bool.true_and,Bool.eq_iff_iff,beq_iff_eq,decide_eq_true_iff]
         exact⟨fun h=>UInt16.toNat_inj.1 (by show x.toNat=0;omega),fun h=>by rw[h];rfl⟩)
        clear hx hz hall
        go_wp2_with (first
         |(refine iA 27 rfl ?_;refine qA rfl 29 _ rfl w.heap.size rfl R Tryz.underlying29 rfl (by rw[HZ.out];exact xA) ?_)
         |(go_at_call 173;refine(HC.out _).mono ?_;rintro e w1 ⟨rfl,b1⟩))
        have R1:=R.stays b1
        have B1:=hb.trans (b1.mono hb.size)
        clear R hb b1
        go_roundw
        case rel=>exact⟨n+1,by omega,by go_num,uF HX.out,R1,B1⟩
        case measure=>simp[intOf];omega
       |false=>
        have HX:=zA7 (show false=aA.PF z at_ (n+1) by
         show _=(aA.PF z at_ n&&z.getD (at_+n) false)
         rw[hall,Bool.false_and])
        clear hx hz hall
        go_wp2_with fail
        go_roundw
        case rel=>exact⟨n+1,by omega,by go_num,uF HX.out,R,hb⟩
        case measure=>simp[intOf];omega
      ·have hnl:n=long:=by omega
       subst hnl
       cases hall:aA.PF z at_ n with
       |false=>
        have HK:Hid (A≠T->T-A<n\/(T-A=n/\at_+1<=A)):=zA7 fun h=>by
         rcases HI.out h with k|⟨k1,k2⟩
         ·exact .inl k
         ·by_cases e:at_=A
          ·have h1:=H1.out h
           rw[k1,<-e,hall]at h1
           cases h1
          ·exact .inr ⟨k1,by omega⟩
        clear hall
        go_wp2_with fail
        go_roundw
        case rel=>exact⟨at_+1,by omega,by go_num,HK.out,R,hb⟩
        case measure=>simp[intOf];omega
       |true=>
        have hk:=H2.out n at_ h2 h8 hall
        have hne:A≠T:=by omega
        have hin:=HI.out hne
        have hAa:A=at_:=by omega
        have lQ:T=at_+n:=by have:=CI.out;omega
        subst hAa
        subst lQ
        have hy:=HY.out hne
        obtain⟨X,hX⟩: ∃X:ByteArray,X=⟨(aA.pt gs 0 A).toArray⟩:=⟨_,rfl⟩
        obtain⟨Y,qQ⟩: ∃Y:ByteArray,Y=⟨(aA.pt gs (A+n) 8).toArray⟩:=⟨_,rfl⟩
        have TS:=zA7 (show X++⟨#[58,58]⟩++Y=⟨(aA.OB gs).toArray⟩ by rw[hX,qQ,hy];apply ByteArray.ext;simp[ByteArray.data_append])
        have x1:X.size<=40:=by rw[hX];show(List.toArray _).size<=40;rw[List.size_toArray];exact aA.KV gs 0 A (by omega)
        have y1:Y.size<=40:=by rw[qQ];show(List.toArray _).size<=40;rw[List.size_toArray];exact aA.KV gs (A+n) 8 (by omega)
        have cs:(⟨#[58,58]⟩:ByteArray).size=2:=rfl
        have p1: ¬9223372036854775807<X.size+2:=by omega
        have p2: ¬9223372036854775807<X.size+2+Y.size:=by omega
        have hc1:=HP.out 0 A (by omega) (by omega)
        have hc2:=HP.out (A+n) 8 (by omega) (by omega)
        rw[<-hX]at hc1
        rw[<-qQ]at hc2
        have uE:Hid (∀W,Calls Tryz.prog 174 #[.agg (jA a),.int .i64 0,.int .i64 (A:Int)] W fun e w'=>e= .returned (.string X)/\Below W.heap.size W w'):=zA7 hc1
        have FK:Hid (∀W,Calls Tryz.prog 174 #[.agg (jA a),.int .i64 ((A:Int)+(n:Int)),.int .i64 8] W fun e w'=>e= .returned (.string Y)/\Below W.heap.size W w'):=zA7 hc2
        have qs:IntKind.i64.wrap ((A:Int)+(n:Int))=(A:Int)+(n:Int):=by rw[IntKind.wrap_i64];omega
        have K1:rG w.heap.size a w wr.drew:=rG.on ⟨R,hb⟩ (Below.refl _ _).drew
        have oX:=zA7 (show(Tryz.prog.info? 29).map (·.size)=some (jA a).size by rw[HZ.out];exact xA)
        clear hk hin hall hy hX qQ hc1 hc2 R hb
        go_wp2_with fail
        refine wp_region_held_drew (S:=rG w.heap.size a w) (by kernel_rfl) K1 (fun _=>?_)
        clear K1
        refine uD (i:=0) rfl (lC (by rfl) _ _ rfl _ rfl (fun _ h=>h.row) Tryz.underlying29 rfl oX.out) ?_
        refine mA (i:=1) rfl ?_
        refine uD (i:=4) rfl (lC (by rfl) _ _ rfl _ rfl (fun _ h=>h.row) Tryz.underlying29 rfl oX.out) ?_
        refine mA (i:=5) rfl ?_
        refine mA (i:=6) rfl ?_
        refine mA (i:=7) rfl ?_
        refine yA (i:=2) fun K hK=>?_
        go_simp
        refine(uE.out _).mono ?_
        rintro e w4 ⟨rfl,b4⟩
        have S4:rG w.heap.size a w w4:=rG.on (by assumption) b4
        clear b4
        go_wp2_with fail
        refine hK.out _ _ S4 (fun _=>?_)
        clear hK K
        refine mA (i:=3) rfl ?_
        refine yA (i:=8) fun K hK=>?_
        go_simp
        refine(FK.out _).mono ?_
        rintro e w4 ⟨rfl,b4⟩
        have S4:rG w.heap.size a w w4:=rG.on (by assumption) b4
        clear b4
        go_wp2_with fail
        refine hK.out _ _ S4 (fun _=>?_)
        clear hK K
        refine mA (i:=9) rfl ?_
        refine mA (i:=10) rfl ?_
        refine wpAnyH_done (by kernel_rfl) ?_ _
        go_wp2
        go_ret
        exact⟨nB TS.out,rG.below (n0:=w.heap.size) (a:=a) (by assumption)⟩
    ·have HK:Hid (A≠T->T-A<=long-1):=zA7 fun h=>by
      have:=HI.out h;have:=LE.out;have:=CI.out;omega
     go_wp2_with fail
     go_roundw
     case rel=>exact⟨long-1,by omega,by omega,by go_num,HK.out,R,hb⟩
     case measure=>simp[intOf];omega
  ·have J7:A=T:=by
    have h1:=HF.out
    have h3:=HO.out
    by_cases e:A=T
    ·exact e
    ·have:=h3 e;omega
   have hc:=HP.out 0 8 (by omega) (by omega)
   rw[<-HN.out J7]at hc
   have HC:Hid (∀W,Calls Tryz.prog 174 #[.agg (jA a),.int .i64 0,.int .i64 8] W fun e w'=>e= .returned (.string ⟨(aA.OB gs).toArray⟩)/\Below W.heap.size W w'):=zA7 hc
   clear J7 hc
   go_wp2_with (first
    |(refine iA 43 rfl ?_;refine qA rfl 29 _ rfl w.heap.size rfl R Tryz.underlying29 rfl (by rw[HZ.out];exact xA) ?_)
    |(go_at_call 174;refine(HC.out _).mono ?_;rintro e w1 ⟨rfl,b1⟩))
   go_ret
   exact⟨rfl,hb.trans (b1.mono hb.size)⟩
end Go.Proofs.YtabgoobcliijeaaGreatDoor
namespace Go.Proofs.YtabgoobcliijeaaGreatDoor
open Go.RowKit
theorem nA2(h:dA.Host)(ha:h.addr.length=16)(t:ByteArray)(ht:t=⟨(dA.text h).toArray⟩)(w:World):
  Calls Tryz.prog 99 #[.agg (fA h)] w fun e w'=>e= .returned (.string t)/\Below w.heap.size w w':=by
 by_cases k1:h.kind=1
 ·exact cAu h k1 t (by rw[ht];unfold dA.text;rw[if_pos k1]) w
 have R:=Row.new w 31 (fA h)
 have B:=(Below.refl w.heap.size w).alloc (zB3 _) (.cells (fA h) 31)
 have c0:(w.alloc (.cells (fA h) 31)).cell? ⟨w.heap.size,0,none⟩=some (.int .i64 h.kind):=by rw[R.cell,tH]
 have HA:=zA7 (zQ h ha)
 have HS:=zA7 (QA h ha)
 have H4:=zA7 (fun W=>nA0 h.addr ha W)
 have H6:=zA7 (fun W=>nA1 h.addr ha W)
 by_cases k2:h.kind=2
 ·have e:t=⟨(aA.UD (h.addr.drop 12)).toArray⟩:=by rw[ht];unfold dA.text;rw[if_neg k1,if_pos k2]
  rw[<-e]at H4
  rw[k2]at c0
  generalize jA h.addr=X at*
  generalize fA h=H at*
  clear ht e k1 k2 ha H6
  go_enter Tryz.func99,Tryz.ntmps99
  go_wp2_with (refine iA 12 rfl ?_;refine QC rfl 29 _ rfl w.heap.size 2 16 rfl R Tryz.underlying29 rfl xA (by rw[HS.out];exact zB3 _) X HA.out ?_)
  refine(H4.out _).mono ?_
  rintro e w' ⟨rfl,d⟩
  go_wp2
  go_ret
  exact⟨rfl,B.trans (d.mono B.size)⟩
 by_cases k3:h.kind=3
 ·have hlen:=dA.GW (aA.RI 8 h.addr ha)
  obtain⟨u,hu⟩: ∃u:ByteArray,u=⟨(aA.OB (aA.groups h.addr)).toArray⟩:=⟨_,rfl⟩
  have AB:u.data.toList=aA.OB (aA.groups h.addr):=by rw[hu]
  have cC:u.size=(aA.OB (aA.groups h.addr)).length:=by rw[<-Oct.nA,AB]
  obtain⟨E,hE⟩: ∃E:ByteArray,(⟨#[91]⟩:ByteArray)++u=E:=⟨_,rfl⟩
  have oL:E.size=1+u.size:=by rw[<-hE,ByteArray.size_append];rfl
  have hE2:E++(⟨#[93]⟩:ByteArray)=t:=by
   rw[ht]
   unfold dA.text
   rw[if_neg k1,if_neg k2,if_pos k3,<-AB,<-hE]
   apply ByteArray.ext
   rw[ByteArray.data_append,ByteArray.data_append]
   apply Array.ext'
   rw[Array.toList_append,Array.toList_append]
   rfl
  have iAE: ¬9223372036854775807<(⟨#[91]⟩:ByteArray).size+u.size:=by
   show¬9223372036854775807<1+u.size
   omega
  have iAF: ¬9223372036854775807<E.size+(⟨#[93]⟩:ByteArray).size:=by
   show¬9223372036854775807<E.size+1
   omega
  have h91:(⟨#[91]⟩:ByteArray).size=1:=rfl
  have h93:(⟨#[93]⟩:ByteArray).size=1:=rfl
  rw[<-hu]at H6
  rw[k3]at c0
  generalize jA h.addr=X at*
  generalize fA h=H at*
  clear ht AB k1 k2 k3 ha H4 hu
  go_enter Tryz.func99,Tryz.ntmps99
  go_wp2_with (refine iA 18 rfl ?_;refine QC rfl 29 _ rfl w.heap.size 2 16 rfl R Tryz.underlying29 rfl xA (by rw[HS.out];exact zB3 _) X HA.out ?_)
  refine(H6.out _).mono ?_
  rintro e w' ⟨rfl,d⟩
  go_wp2
  go_ret
  exact⟨rfl,B.trans (d.mono B.size)⟩
 ·have e:t=⟨#[]⟩:=by rw[ht];unfold dA.text;rw[if_neg k1,if_neg k2,if_neg k3]
  subst e
  generalize fA h=H at*
  generalize h.kind=k at*
  clear ht ha H4 H6 HA
  go_enter Tryz.func99,Tryz.ntmps99
  go_wp2
  go_ret
  exact⟨rfl,B⟩
theorem aW(h:dA.Host)(ha:h.addr.length=16)(hs:h.name.length<=2900)(w:World):
  Calls Tryz.prog 61 #[.agg (fA h)] w fun e w'=>e= .returned (.bool (dA.can h))/\Below w.heap.size w w':=by
 have z0:=BD
 obtain⟨t,ht⟩: ∃t:ByteArray,t=⟨(dA.text h).toArray⟩:=⟨_,rfl⟩
 have htx:=dA.rO h ha
 have H1:=zA7 (fun W=>nA2 h ha t ht W)
 have htl:t.data.toList=dA.text h:=by rw[ht]
 have hts:t.size=(dA.text h).length:=by rw[<-htl,Oct.nA]
 have H2:=zA7 (fun W=>(oK t W (by omega)).mono fun e w' h=>LG h)
 rw[htl]at H2
 have hx:=dA.GF (dA.text h)
 have HR:Hid (dA.can h=decide (dA.parse (dA.text h)=some h)):=zA7 rfl
 have HZ0:=zA7 (show(fA dA.zero).size=18 from rfl)
 have HH:=zA7 (QA h ha)
 cases ho:dA.parse (dA.text h)with
 |none=>
  rw[ho]at H2 HR
  have HR2:Hid (dA.can h=false):=zA7 (by rw[HR.out];rfl)
  have e1:dA.host none=dA.zero:=rfl
  have e2:dA.code none=31:=rfl
  rw[e1,e2]at H2
  clear ho hx hts htl ht HR e1 e2 htx
  rw[HR2.out]
  generalize fA h=H at*
  have R0:=Row.new w 31 H
  have B0:=(Below.refl w.heap.size w).alloc (zB3 _) (.cells H 31)
  go_enter Tryz.func61,Tryz.ntmps61
  go_wp2_with (refine iA 6 rfl ?_;refine qA rfl 31 _ rfl w.heap.size rfl R0 Tryz.underlying31 rfl (by rw[HH.out];exact tA) ?_)
  generalize w.alloc (.cells H 31)=w0 at*
  refine(H1.out _).mono ?_
  rintro e v1 ⟨rfl,d1⟩
  have B1:=B0.trans (d1.mono B0.size)
  go_wp2_with fail
  refine(H2.out _).mono ?_
  rintro e v2 ⟨rfl,d2⟩
  have B2:=B1.trans (d2.mono B1.size)
  obtain⟨T,U,C,L⟩:=JA 31 (fA dA.zero) (fA dA.zero) B2 B2.size
  clear B0 B1 B2 d1 d2 R0 L
  go_wp2_with (first
   |(refine wpList_store_row rfl 31 _ _ rfl v2.heap.size (fA dA.zero) rfl rfl 31 _ T (by rw[HZ0.out];exact tA) rfl (aB _) ?_))
  go_ret
  exact⟨rfl,C⟩
 |some g=>
  rw[ho]at H2 HR hx
  have hx:g.addr.length=16:=hx
  have HR2:Hid (dA.can h=decide (g=h)):=zA7 (by rw[HR.out,decide_eq_decide];exact⟨fun e=>zB2 e,fun e=>by rw[e]⟩)
  have e1:dA.host (some g)=g:=rfl
  have e2:dA.code (some g)=0:=rfl
  rw[e1,e2]at H2
  have q:=cI g h hx ha
  have HG:=zA7 (QA g hx)
  have FC:=zA7 (aB g)
  clear ho hx hts htl ht HR e1 e2 htx
  rw[HR2.out]
  generalize fA h=H at*
  generalize fA g=G at*
  generalize decide (g=h)=b at*
  have R0:=Row.new w 31 H
  have B0:=(Below.refl w.heap.size w).alloc (zB3 _) (.cells H 31)
  go_enter Tryz.func61,Tryz.ntmps61
  go_wp2_with (refine iA 6 rfl ?_;refine qA rfl 31 _ rfl w.heap.size rfl R0 Tryz.underlying31 rfl (by rw[HH.out];exact tA) ?_)
  generalize w.alloc (.cells H 31)=w0 at*
  refine(H1.out _).mono ?_
  rintro e v1 ⟨rfl,d1⟩
  have B1:=B0.trans (d1.mono B0.size)
  have R1:=R0.stays d1
  go_wp2_with fail
  refine(H2.out _).mono ?_
  rintro e v2 ⟨rfl,d2⟩
  have R2:=R1.stays d2
  have B2:=B1.trans (d2.mono B1.size)
  obtain⟨T,U,C,L⟩:=JA 31 (fA dA.zero) G B2 B2.size
  have R3:=L _ _ _ R2
  clear B0 B1 B2 d1 d2 R0 R1 R2 L
  go_wp2_with (first
   |(refine wpList_store_row rfl 31 _ _ rfl v2.heap.size G rfl rfl 31 _ T (by rw[HG.out];exact tA) (by rw[HG.out];rfl) FC.out ?_)
   |(refine iA 14 rfl ?_;refine qA rfl 31 _ rfl v2.heap.size rfl U Tryz.underlying31 rfl (by rw[HG.out];exact tA) ?_)
   |(refine iA 15 rfl ?_;refine qA rfl 31 _ rfl w.heap.size rfl R3 Tryz.underlying31 rfl (by rw[HH.out];exact tA) ?_))
  go_ret
  exact⟨rfl,C⟩
end Go.Proofs.YtabgoobcliijeaaGreatDoor
namespace Go.Proofs.YtabgoobcliijeaaGreatDoor
open Go.RowKit
theorem kAX(h d:dA.Host)(ha:h.addr.length=16)(hda:d.addr.length=16)(hs:h.name.length<=1048000)(w:World)(hw:Std w):
  Calls Tryz.prog 96 #[.agg (fA h),.agg (fA d)] w fun e w'=>e= .returned (.bool (decide (h=d)&&dA.can h))/\Below w.heap.size w w':=by
 have HH:=zA7 (QA h ha)
 have HD:=zA7 (QA d hda)
 have H1:=zA7 (fun W hW=>cAD h ha hs W hW)
 have q:=cI h d ha hda
 generalize decide (h=d)=b at*
 generalize dA.can h=k at*
 generalize fA h=H at*
 generalize fA d=D at*
 have R0:=Row.new w 31 H
 have B0:=(Below.refl w.heap.size w).alloc (zB3 _) (.cells H 31)
 have hN:(w.alloc (.cells H 31)).heap.size=w.heap.size+1:=by simp
 have S0:=Row.new (w.alloc (.cells H 31)) 31 D
 rw[hN]at S0
 have R1:=R0.alloc (.cells D 31)
 have C0:=B0.alloc B0.size (.cells D 31)
 clear hN R0 B0 ha hda hs
 cases b
 ·go_enter Tryz.func96,Tryz.ntmps96
  go_wp2_with (first
   |(refine iA 5 rfl ?_;refine qA rfl 31 _ rfl w.heap.size rfl R1 Tryz.underlying31 rfl (by rw[HH.out];exact tA) ?_)
   |(refine iA 6 rfl ?_;refine qA rfl 31 _ rfl (w.heap.size+1) rfl S0 Tryz.underlying31 rfl (by rw[HD.out];exact tA) ?_))
  go_ret
  exact⟨rfl,C0⟩
 ·go_enter Tryz.func96,Tryz.ntmps96
  go_wp2_with (first
   |(refine iA 5 rfl ?_;refine qA rfl 31 _ rfl w.heap.size rfl R1 Tryz.underlying31 rfl (by rw[HH.out];exact tA) ?_)
   |(refine iA 6 rfl ?_;refine qA rfl 31 _ rfl (w.heap.size+1) rfl S0 Tryz.underlying31 rfl (by rw[HD.out];exact tA) ?_)
   |(refine iA 9 rfl ?_;refine qA rfl 31 _ rfl w.heap.size rfl R1 Tryz.underlying31 rfl (by rw[HH.out];exact tA) ?_)
   |(go_at_call 76;refine(H1.out _ (hw.below C0)).mono ?_;rintro e v1 ⟨rfl,d1⟩))
  go_ret
  exact⟨rfl,C0.trans (d1.mono C0.size)⟩
theorem kAK(h d:dA.Host)(ha:h.addr.length=16)(hda:d.addr.length=16)(hs:h.name.length<=1048000)(hds:d.name.length<=1048000)(w:World)(hw:Std w):
  Calls Tryz.prog 58 #[.agg (fA h),.agg (fA d)] w fun e w'=>e= .returned (.bool (Ma.domain h d))/\Below w.heap.size w w':=by
 have HH:=zA7 (QA h ha)
 have HD:=zA7 (QA d hda)
 have H1:=zA7 (fun W hW=>kAX h d ha hda hs W hW)
 have H2:=zA7 (fun W hW=>pAH h d ha hda (by omega) (by omega) W hW)
 have HR:=zA7 (Ma.gAY h d)
 generalize Ma.domain h d=g at*
 generalize(decide (h=d)&&dA.can h)=b at*
 generalize dA.under h d=u at*
 generalize fA h=H at*
 generalize fA d=D at*
 have R0:=Row.new w 31 H
 have B0:=(Below.refl w.heap.size w).alloc (zB3 _) (.cells H 31)
 have hN:(w.alloc (.cells H 31)).heap.size=w.heap.size+1:=by simp
 have S0:=Row.new (w.alloc (.cells H 31)) 31 D
 rw[hN]at S0
 have R1:=R0.alloc (.cells D 31)
 have C0:=B0.alloc B0.size (.cells D 31)
 clear hN R0 B0 ha hda hs hds
 go_enter Tryz.func58,Tryz.ntmps58
 go_wp2_with (first
  |(refine iA 5 rfl ?_;refine qA rfl 31 _ rfl w.heap.size rfl R1 Tryz.underlying31 rfl (by rw[HH.out];exact tA) ?_)
  |(refine iA 6 rfl ?_;refine qA rfl 31 _ rfl (w.heap.size+1) rfl S0 Tryz.underlying31 rfl (by rw[HD.out];exact tA) ?_))
 generalize(w.alloc (.cells H 31)).alloc (.cells D 31)=x0 at*
 refine(H1.out _ (hw.below C0)).mono ?_
 rintro e v1 ⟨rfl,d1⟩
 have C1:=C0.trans (d1.mono C0.size)
 have R2:=R1.stays d1
 have S2:=S0.stays d1
 clear R1 S0 C0 d1 H1
 cases b
 ·have HR2:Hid (g=u):=zA7 (by rw[HR.out,Bool.false_or])
  go_wp2_with (first
   |(refine iA 9 rfl ?_;refine qA rfl 31 _ rfl w.heap.size rfl R2 Tryz.underlying31 rfl (by rw[HH.out];exact tA) ?_)
   |(refine iA 10 rfl ?_;refine qA rfl 31 _ rfl (w.heap.size+1) rfl S2 Tryz.underlying31 rfl (by rw[HD.out];exact tA) ?_)
   |(go_at_call 97;refine(H2.out _ (hw.below C1)).mono ?_;rintro e v2 ⟨rfl,d2⟩))
  go_ret
  exact⟨vA HR2.out.symm,C1.trans (d2.mono C1.size)⟩
 ·have HR2:Hid (g=true):=zA7 (by rw[HR.out,Bool.true_or])
  go_wp2
  go_ret
  exact⟨vA HR2.out.symm,C1⟩
theorem cAj(h d:dA.Host)(ha:h.addr.length=16)(hda:d.addr.length=16)(hs:h.name.length<=2900)(hds:d.name.length<=2900)(w:World):
  Calls Tryz.prog 32 #[.agg (fA h),.agg (fA d)] w fun e w'=>e= .returned (.bool (Ma.domain h d))/\Below w.heap.size w w':=by
 have HH:=zA7 (QA h ha)
 have HD:=zA7 (QA d hda)
 have H1:=zA7 (fun W=>aW h ha hs W)
 have H2:=zA7 (fun W=>aW d hda hds W)
 have H3:=fun W=>cAv h d ha hda (by omega) (by omega) W
 rw[<-dA.IW]at H3
 have H3:=zA7 H3
 have q:=cI h d ha hda
 have HR:Hid (Ma.domain h d=(dA.can h&&dA.can d&& (decide (h=d)||dA.under h d))):=zA7 rfl
 generalize Ma.domain h d=g at*
 generalize decide (h=d)=b at*
 generalize dA.can h=k1 at*
 generalize dA.can d=k2 at*
 generalize dA.under h d=u at*
 generalize fA h=H at*
 generalize fA d=D at*
 have R0:=Row.new w 31 H
 have B0:=(Below.refl w.heap.size w).alloc (zB3 _) (.cells H 31)
 have hN:(w.alloc (.cells H 31)).heap.size=w.heap.size+1:=by simp
 have S0:=Row.new (w.alloc (.cells H 31)) 31 D
 rw[hN]at S0
 have R1:=R0.alloc (.cells D 31)
 have C0:=B0.alloc B0.size (.cells D 31)
 clear hN R0 B0 ha hda hs hds
 go_enter Tryz.func32,Tryz.ntmps32
 go_wp2_with (refine iA 5 rfl ?_;refine qA rfl 31 _ rfl w.heap.size rfl R1 Tryz.underlying31 rfl (by rw[HH.out];exact tA) ?_)
 generalize(w.alloc (.cells H 31)).alloc (.cells D 31)=x0 at*
 refine(H1.out _).mono ?_
 rintro e v1 ⟨rfl,d1⟩
 have C1:=C0.trans (d1.mono C0.size)
 have R2:=R1.stays d1
 have S2:=S0.stays d1
 clear R1 S0 C0 d1
 cases k1
 ·have HR2:Hid (g=false):=zA7 (by rw[HR.out];rfl)
  go_wp2
  go_ret
  exact⟨vA HR2.out.symm,C1⟩
 ·go_wp2_with (refine iA 9 rfl ?_;refine qA rfl 31 _ rfl (w.heap.size+1) rfl S2 Tryz.underlying31 rfl (by rw[HD.out];exact tA) ?_)
  refine(H2.out _).mono ?_
  rintro e v2 ⟨rfl,d2⟩
  have C2:=C1.trans (d2.mono C1.size)
  have R3:=R2.stays d2
  have S3:=S2.stays d2
  clear R2 S2 C1 d2
  cases k2
  ·have HR2:Hid (g=false):=zA7 (by rw[HR.out];rfl)
   go_wp2
   go_ret
   exact⟨vA HR2.out.symm,C2⟩
  ·cases b
   ·have HR2:Hid (g=u):=zA7 (by rw[HR.out];rfl)
    go_wp2_with (first
     |(refine iA 13 rfl ?_;refine qA rfl 31 _ rfl w.heap.size rfl R3 Tryz.underlying31 rfl (by rw[HH.out];exact tA) ?_)
     |(refine iA 14 rfl ?_;refine qA rfl 31 _ rfl (w.heap.size+1) rfl S3 Tryz.underlying31 rfl (by rw[HD.out];exact tA) ?_)
     |(refine iA 17 rfl ?_;refine qA rfl 31 _ rfl w.heap.size rfl R3 Tryz.underlying31 rfl (by rw[HH.out];exact tA) ?_)
     |(refine iA 18 rfl ?_;refine qA rfl 31 _ rfl (w.heap.size+1) rfl S3 Tryz.underlying31 rfl (by rw[HD.out];exact tA) ?_)
     |(go_at_call 68;refine(H3.out _).mono ?_;rintro e v3 ⟨rfl,d3⟩))
    go_ret
    exact⟨vA HR2.out.symm,C2.trans (d3.mono C2.size)⟩
   ·have HR2:Hid (g=true):=zA7 (by rw[HR.out];rfl)
    go_wp2_with (first
     |(refine iA 13 rfl ?_;refine qA rfl 31 _ rfl w.heap.size rfl R3 Tryz.underlying31 rfl (by rw[HH.out];exact tA) ?_)
     |(refine iA 14 rfl ?_;refine qA rfl 31 _ rfl (w.heap.size+1) rfl S3 Tryz.underlying31 rfl (by rw[HD.out];exact tA) ?_))
    go_ret
    exact⟨vA HR2.out.symm,C2⟩
end Go.Proofs.YtabgoobcliijeaaGreatDoor
namespace Go.Proofs.YtabgoobcliijeaaGreatDoor
open Go.RowKit Go.Maps
namespace dA
theorem xN(l:List UInt8):(host (parse l)).name.length<=l.length:=by
 unfold parse
 split
 ·exact Nat.zero_le _
 ·split
  ·rw[LW];split<;>exact Nat.zero_le _
  ·split
   ·rw[PR];split<;>exact Nat.zero_le _
   ·split
    ·exact Nat.le_of_eq (List.length_map ..)
    ·exact Nat.zero_le _
end dA
namespace Ad
theorem QW(rs:List Ru.Rule)(host:dA.Host)(dom:List UInt8)(ha:host.addr.length=16):(whose rs host dom).2.1.addr.length=16:=by
 unfold whose
 split
 ·exact ha
 ·have hp:=dA.GF dom
  cases h:dA.parse dom with
  |none=>rfl
  |some d=>
   rw[h]at hp
   dsimp only
   split
   ·rfl
   ·split
    ·rfl
    ·split
     ·exact ha
     ·exact hp
theorem qAk(rs:List Ru.Rule)(host:dA.Host)(dom:List UInt8):(whose rs host dom).2.1.name.length<=host.name.length+dom.length:=by
 unfold whose
 split
 ·dsimp only;omega
 ·have hp:=dA.xN dom
  cases h:dA.parse dom with
  |none=>simp[dA.zero]
  |some d=>
   rw[h]at hp
   have hp:d.name.length<=dom.length:=hp
   dsimp only
   split
   ·simp[dA.zero]
   ·split
    ·simp[dA.zero]
    ·split<;>dsimp only<;>omega
theorem dAP(rs:List Ru.Rule)(host:dA.Host):whose rs host []=(0,host,true):=by unfold whose;rw[if_pos rfl]
variable {rs:List Ru.Rule} {host d:dA.Host} {dom:List UInt8}
theorem dAQ(h0:dom≠ [])(h:dA.parse dom=none):whose rs host dom=(101,dA.zero,false):=by unfold whose;rw[if_neg h0,h]
theorem dAS(h0:dom≠ [])(h:dA.parse dom=some d)(h1:sD rs d=true)(h2:d≠host):whose rs host dom=(102,dA.zero,false):=by
 unfold whose;rw[if_neg h0,h];dsimp only;rw[if_pos ⟨h1,h2⟩]
theorem dAO(h0:dom≠ [])(h:dA.parse dom=some d)(h1:sD rs d=false\/d=host)(h2:Ma.domain host d=false):whose rs host dom=(103,dA.zero,false):=by
 unfold whose;rw[if_neg h0,h];dsimp only
 rw[if_neg (by rcases h1 with h1|h1<;>simp[h1]),if_pos h2]
theorem dAR(h0:dom≠ [])(h:dA.parse dom=some d)(h1:sD rs d=true)(h2:d=host)(h3:Ma.domain host d=true):whose rs host dom=(0,host,true):=by
 unfold whose;rw[if_neg h0,h];dsimp only
 rw[if_neg (by simp[h2]),if_neg (by rw[h3];simp),if_pos h1]
theorem dAT(h0:dom≠ [])(h:dA.parse dom=some d)(h1:sD rs d=false)(h3:Ma.domain host d=true):whose rs host dom=(0,d,false):=by
 unfold whose;rw[if_neg h0,h];dsimp only
 rw[if_neg (by simp[h1]),if_neg (by rw[h3];simp),if_neg (by rw[h1];simp)]
end Ad
def mP(o:Int×dA.Host×Bool)(w:World)(e:Ending)(w':World):Prop:=e= .returned (.tuple #[.agg (fA o.2.1),.bool o.2.2,.int .i64 o.1])/\Below w.heap.size w w'
theorem lAD(rs:List Ru.Rule)(host:dA.Host)(dom:ByteArray)(n₀ tb mb:Nat)(w:World)(hw:Std w)(ha:host.addr.length=16)(hn:host.name.length<=9000)(hd:dom.size<=9000)(hT:TabAt w n₀ tb mb (Sx.new rs)):
  Calls Tryz.prog 25 #[.pointer (some ⟨tb,0,none⟩),.agg (fA host),.string dom] w (mP (Ad.whose rs host dom.data.toList) w):=by
 have z0:=BD
 have HZ:=zA7 (show(fA dA.zero).size=18 from rfl)
 have HZ1:=zA7 (aB dA.zero)
 have HH:=zA7 (QA host ha)
 have EM:=zA7 (aB host)
 have HP:Hid (∀o w',Ad.whose rs host dom.data.toList=o->Below w.heap.size w w'->mP (Ad.whose rs host dom.data.toList) w (.returned (.tuple #[.agg (fA o.2.1),.bool o.2.2,.int .i64 o.1])) w'):=zA7 (fun o w' h hb=>by subst h;exact⟨rfl,hb⟩)
 generalize mP (Ad.whose rs host dom.data.toList) w=post at*
 have R0:=Row.new w 31 (fA host)
 have B0:=(Below.refl w.heap.size w).alloc (zB3 _) (.cells (fA host) 31)
 have hN:(w.alloc (.cells (fA host) 31)).heap.size=w.heap.size+1:=by simp
 have S1:=Row.new (w.alloc (.cells (fA host) 31)) 31 (fA dA.zero)
 rw[hN]at S1
 have R1:=R0.alloc (.cells (fA dA.zero) 31)
 have C1:=B0.alloc B0.size (.cells (fA dA.zero) 31)
 have s0:w.heap.size<=w.heap.size+1:=by omega
 clear R0 B0 hN
 by_cases h0:dom.data.toList= []
 ·have he:dom.toList.isEmpty=true:=by rw[Oct.SA,h0];rfl
  have HO:=zA7 (fun w'=>HP.out (0,host,true) w' (by rw[h0,Ad.dAP]))
  generalize fA host=H at*
  generalize fA dA.zero=Z at*
  clear h0 HP hd hT
  go_enter Tryz.func25,Tryz.ntmps25
  go_wp2_with (first
   |(refine iA 14 rfl ?_;refine qA rfl 31 _ rfl w.heap.size rfl R1 Tryz.underlying31 rfl (by rw[HH.out];exact tA) ?_)
   |(refine wpList_store_row rfl 31 _ _ rfl (w.heap.size+1) H rfl rfl 31 _ S1 (by rw[HH.out];exact tA) (by rw[HH.out,HZ.out]) EM.out ?_))
  exact bodyPost_ret (v:= .tuple #[.agg H,.bool true,.int .i64 0]) (ZB rfl _ _ (w.heap.size+1) _ _ _ rfl _ _ rfl rfl (S1.whole _) Tryz.underlying31 rfl (by rw[HH.out];exact tA)) rfl (HO.out _ (below_setRow C1 s0 _))
 ·have he:dom.toList.isEmpty=false:=by
   rw[Oct.SA]
   cases hl:dom.data.toList with
   |nil=>exact absurd hl h0
   |cons=>rfl
  have H1:=zA7 (fun W hW=>dR dom W hW (by omega))
  unfold zC at H1
  have hpl:=dA.GF dom.data.toList
  have hpf:=dA.xN dom.data.toList
  rw[Oct.nA]at hpf
  cases hp:dA.parse dom.data.toList with
  |none=>
   rw[hp]at H1
   have H1:Hid (∀W,Std W->Calls Tryz.prog 56 #[.string dom] W fun e w'=>e= .returned (.tuple #[.agg (fA dA.zero),.int .i64 31])/\Below W.heap.size W w'):=H1
   have HO:=zA7 (fun w'=>HP.out (101,dA.zero,false) w' (Ad.dAQ h0 hp))
   generalize fA host=H at*
   clear h0 HP hd hT hp hpl hpf
   go_enter Tryz.func25,Tryz.ntmps25
   go_wp2_with fail
   generalize(w.alloc (.cells H 31)).alloc (.cells (fA dA.zero) 31)=x1 at*
   refine(H1.out _ (hw.below C1)).mono ?_
   rintro e v1 ⟨rfl,d1⟩
   have C2:=C1.trans (d1.mono C1.size)
   have S2:=S1.stays d1
   obtain⟨T3,U3,C3,L3⟩:=JA 31 (fA dA.zero) (fA dA.zero) C2 C2.size
   have S3:=L3 _ _ _ S2
   clear H1 S1 C1 d1 L3 S2 R1
   go_wp2_with (first
    |(refine wpList_store_row rfl 31 _ _ rfl v1.heap.size (fA dA.zero) rfl rfl 31 _ T3 (by rw[HZ.out];exact tA) rfl HZ1.out ?_)
    |(refine wpList_store_row rfl 31 _ _ rfl (w.heap.size+1) (fA dA.zero) rfl rfl 31 _ S3 (by rw[HZ.out];exact tA) rfl HZ1.out ?_))
   exact bodyPost_ret (v:= .tuple #[.agg (fA dA.zero),.bool false,.int .i64 101]) (ZB rfl _ _ (w.heap.size+1) _ _ _ rfl _ _ rfl rfl (S3.whole _) Tryz.underlying31 rfl (by rw[HZ.out];exact tA)) rfl (HO.out _ (below_setRow C3 s0 _))
  |some d=>
   rw[hp]at H1 hpl hpf
   have hpl:d.addr.length=16:=hpl
   have hpf:d.name.length<=dom.size:=hpf
   have H1:Hid (∀W,Std W->Calls Tryz.prog 56 #[.string dom] W fun e w'=>e= .returned (.tuple #[.agg (fA d),.int .i64 0])/\Below W.heap.size W w'):=H1
   have HD:=zA7 (QA d hpl)
   have HD1:=zA7 (aB d)
   have HT:=zA7 hT
   have H2:=zA7 (fun W hW hT=>mAi (Sx.new rs) d n₀ tb mb W hW hpl (by omega) hT)
   have CQ:Sx.isPublic (Sx.suffix (Sx.new rs) d) d=Ad.sD rs d:=rfl
   rw[CQ]at H2
   have H3:=zA7 (fun W hW=>kAK host d ha hpl (by omega) (by omega) W hW)
   have kF:(∀W,(binOp .neq 31 (.agg (fA d)) (.agg (fA host))).run Tryz.prog W= .ok (.bool (!decide (d=host))) W):=(fun W=>aO d host hpl ha W)
   have WO:=zA7 (fun w' a b=>HP.out (102,dA.zero,false) w' (Ad.dAS h0 hp a b))
   have xS:=zA7 (fun w' a b=>HP.out (103,dA.zero,false) w' (Ad.dAO h0 hp a b))
   have wX:=zA7 (fun w' a b c=>HP.out (0,host,true) w' (Ad.dAR h0 hp a b c))
   have ME:=zA7 (fun w' a b=>HP.out (0,d,false) w' (Ad.dAT h0 hp a b))
   generalize Ad.sD rs d=pb at*
   generalize Ma.domain host d=md at*
   obtain⟨eq,heq⟩: ∃b,decide (d=host)=b:=⟨_,rfl⟩
   rw[heq]at kF
   have wD:=zA7 heq
   clear h0 HP hd hT hp hpf heq CQ
   have HH0:Hid (eq=true->fA d=fA host):=zA7 (fun h=>by rw[zB1 (wD.out.trans h)])
   generalize fA host=H at*
   generalize fA d=D at*
   go_enter Tryz.func25,Tryz.ntmps25
   go_wp2_with fail
   generalize(w.alloc (.cells H 31)).alloc (.cells (fA dA.zero) 31)=x1 at*
   refine(H1.out _ (hw.below C1)).mono ?_
   rintro e v1 ⟨rfl,d1⟩
   have C2:=C1.trans (d1.mono C1.size)
   have S2:=S1.stays d1
   have R2:=R1.stays d1
   obtain⟨T3,U3,C3,L3⟩:=JA 31 (fA dA.zero) D C2 C2.size
   have S3:=L3 _ _ _ S2
   have R3:=L3 _ _ _ R2
   clear H1 S1 C1 d1 L3 S2 R1 R2 C2
   go_wp2_with (first
    |(refine wpList_store_row rfl 31 _ _ rfl v1.heap.size D rfl rfl 31 _ T3 (by rw[HD.out];exact tA) (by rw[HD.out,HZ.out]) HD1.out ?_)
    |(refine iA 24 rfl ?_;refine qA rfl 31 _ rfl v1.heap.size rfl U3 Tryz.underlying31 rfl (by rw[HD.out];exact tA) ?_))
   clear T3
   generalize(v1.alloc (.cells (fA dA.zero) 31)).setRow v1.heap.size D=x3 at*
   generalize v1.heap.size=g3 at*
   refine(H2.out _ (hw.below C3) (HT.out.stays C3)).mono ?_
   rintro e v4 ⟨rfl,d4⟩
   have C4:=C3.trans (d4.mono C3.size)
   have S4:=S3.stays d4
   have R4:=R3.stays d4
   have U4:=U3.stays d4
   have hw4:=hw.below C4
   clear H2 S3 R3 U3 d4 C3
   have key:(pb=true/\eq=false)\/((pb=false\/eq=true)/\md=false)\/(pb=true/\eq=true/\md=true)\/(pb=false/\md=true):=by
    cases pb<;>cases eq<;>cases md<;>simp
   have ne:eq=false->d≠host:=fun h=>of_decide_eq_false (wD.out.trans h)
   have ye:eq=true->d=host:=fun h=>zB1 (wD.out.trans h)
   have NE:=zA7 ne
   have YE:=zA7 ye
   clear ne ye wD
   cases pb<;>cases eq<;>cases md
   case true.false.false|true.false.true=>
    clear key
    go_wp2_with (first
     |(refine iA 29 rfl ?_;refine qA rfl 31 _ rfl g3 rfl U4 Tryz.underlying31 rfl (by rw[HD.out];exact tA) ?_)
     |(refine iA 30 rfl ?_;refine qA rfl 31 _ rfl w.heap.size rfl R4 Tryz.underlying31 rfl (by rw[HH.out];exact tA) ?_)
     |(refine wpList_store_row rfl 31 _ _ rfl (w.heap.size+1) (fA dA.zero) rfl rfl 31 _ S4 (by rw[HZ.out];exact tA) rfl HZ1.out ?_))
    exact bodyPost_ret (v:= .tuple #[.agg (fA dA.zero),.bool false,.int .i64 102]) (ZB rfl _ _ (w.heap.size+1) _ _ _ rfl _ _ rfl rfl (S4.whole _) Tryz.underlying31 rfl (by rw[HZ.out];exact tA)) rfl (WO.out _ (by trivial) (NE.out (by trivial)) (below_setRow C4 s0 _))
   all_goals
    go_wp2_with (first
     |(refine iA 29 rfl ?_;refine qA rfl 31 _ rfl g3 rfl U4 Tryz.underlying31 rfl (by rw[HD.out];exact tA) ?_)
     |(refine iA 30 rfl ?_;refine qA rfl 31 _ rfl w.heap.size rfl R4 Tryz.underlying31 rfl (by rw[HH.out];exact tA) ?_)
     |(refine iA 35 rfl ?_;refine qA rfl 31 _ rfl w.heap.size rfl R4 Tryz.underlying31 rfl (by rw[HH.out];exact tA) ?_)
     |(refine iA 36 rfl ?_;refine qA rfl 31 _ rfl g3 rfl U4 Tryz.underlying31 rfl (by rw[HD.out];exact tA) ?_))
    refine(H3.out _ hw4).mono ?_
    rintro e v5 ⟨rfl,d5⟩
    have C5:=C4.trans (d5.mono C4.size)
    have S5:=S4.stays d5
    have U5:=U4.stays d5
    clear H3 S4 R4 U4 C4 d5 key
    go_wp2_with (first
     |(refine iA 40 rfl ?_;refine qA rfl 31 _ rfl g3 rfl U5 Tryz.underlying31 rfl (by rw[HD.out];exact tA) ?_)
     |(refine wpList_store_row rfl 31 _ _ rfl (w.heap.size+1) (fA dA.zero) rfl rfl 31 _ S5 (by rw[HZ.out];exact tA) rfl HZ1.out ?_)
     |(refine wpList_store_row rfl 31 _ _ rfl (w.heap.size+1) D rfl rfl 31 _ S5 (by rw[HD.out];exact tA) (by rw[HD.out,HZ.out]) HD1.out ?_))
   ·exact bodyPost_ret (v:= .tuple #[.agg (fA dA.zero),.bool false,.int .i64 103]) (ZB rfl _ _ (w.heap.size+1) _ _ _ rfl _ _ rfl rfl (S5.whole _) Tryz.underlying31 rfl (by rw[HZ.out];exact tA)) rfl (xS.out _ (by simp) (by trivial) (below_setRow C5 s0 _))
   ·exact bodyPost_ret (v:= .tuple #[.agg D,.bool false,.int .i64 0]) (ZB rfl _ _ (w.heap.size+1) _ _ _ rfl _ _ rfl rfl (S5.whole _) Tryz.underlying31 rfl (by rw[HD.out];exact tA)) rfl (ME.out _ (by trivial) (by trivial) (below_setRow C5 s0 _))
   ·exact bodyPost_ret (v:= .tuple #[.agg (fA dA.zero),.bool false,.int .i64 103]) (ZB rfl _ _ (w.heap.size+1) _ _ _ rfl _ _ rfl rfl (S5.whole _) Tryz.underlying31 rfl (by rw[HZ.out];exact tA)) rfl (xS.out _ (by simp) (by trivial) (below_setRow C5 s0 _))
   ·exact bodyPost_ret (v:= .tuple #[.agg D,.bool false,.int .i64 0]) (ZB rfl _ _ (w.heap.size+1) _ _ _ rfl _ _ rfl rfl (S5.whole _) Tryz.underlying31 rfl (by rw[HD.out];exact tA)) rfl (ME.out _ (by trivial) (by trivial) (below_setRow C5 s0 _))
   ·exact bodyPost_ret (v:= .tuple #[.agg (fA dA.zero),.bool false,.int .i64 103]) (ZB rfl _ _ (w.heap.size+1) _ _ _ rfl _ _ rfl rfl (S5.whole _) Tryz.underlying31 rfl (by rw[HZ.out];exact tA)) rfl (xS.out _ (.inr (YE.out (by trivial))) (by trivial) (below_setRow C5 s0 _))
   ·have hh:=HH0.out (by trivial)
    rw[<-hh]at wX
    exact bodyPost_ret (v:= .tuple #[.agg D,.bool true,.int .i64 0]) (ZB rfl _ _ (w.heap.size+1) _ _ _ rfl _ _ rfl rfl (S5.whole _) Tryz.underlying31 rfl (by rw[HD.out];exact tA)) rfl (wX.out _ (by trivial) (YE.out (by trivial)) (by trivial) (below_setRow C5 s0 _))
end Go.Proofs.YtabgoobcliijeaaGreatDoor
namespace Go.Proofs.YtabgoobcliijeaaGreatDoor
open Go.RowKit
namespace Ad
def YC(s t:List UInt8):Bool:=decide ((s.take t.length).map Oct.low=t)
theorem LY {s t:List UInt8}(h:s.length<t.length):YC s t=false:=by
 unfold YC
 refine zA8 fun e=>?_
 have:=congrArg List.length e
 rw[List.length_map,List.length_take]at this
 omega
theorem bAU(n:List UInt8):pre n=if YC n aM=true then 1 else if YC n ZL=true then 2 else 0:=by
 unfold pre YC
 simp only[decide_eq_true_eq]
 rfl
end Ad
theorem cAf(s t:ByteArray)(w:World)(_hs:s.size<=1048576)(ht:t.size<=1048576):
  Calls Tryz.prog 34 #[.string s,.string t] w fun e w'=>e= .returned (.bool (Ad.YC s.data.toList t.data.toList))/\Below w.heap.size w w':=by
 by_cases h:t.size<=s.size
 ·have h1:(t.size:Int)<=(s.size:Int):=by omega
  have hx:(s.extract 0 t.size).data.toList=s.data.toList.take t.size:=by rw[EF]
  have hz:(s.extract 0 t.size).size<=1048576:=by
   rw[<-Oct.nA,hx,List.length_take];omega
  have H1:=zA7 (fun W=>UL (s.extract 0 t.size) W (by omega))
  have HR:Hid (((⟨((s.extract 0 t.size).data.toList.map Oct.low).toArray⟩:ByteArray).toList==t.toList)=Ad.YC s.data.toList t.data.toList):=zA7 (by
   rw[Oct.SA,Oct.SA,hx,Bool.eq_iff_iff]
   unfold Ad.YC
   rw[Oct.nA]
   simp)
  unfold XC at H1
  clear hx hz h ht
  generalize Ad.YC s.data.toList t.data.toList=B at*
  generalize(⟨((s.extract 0 t.size).data.toList.map Oct.low).toArray⟩:ByteArray)=X at*
  have hr:=HR.out
  go_enter Tryz.func34,Tryz.ntmps34
  go_wp2_with (go_at_call 43;refine(H1.out _).mono ?_;rintro e w1 ⟨rfl,d1⟩)
  go_ret
  exact⟨vA (by first|rfl|exact HR.out),d1⟩
 ·have h1: ¬(t.size:Int)<=(s.size:Int):=by omega
  have HR:=zA7 (Ad.LY (s:=s.data.toList) (t:=t.data.toList) (by rw[Oct.nA,Oct.nA];omega))
  generalize Ad.YC s.data.toList t.data.toList=B at*
  clear h ht
  go_enter Tryz.func34,Tryz.ntmps34
  go_wp2
  go_ret
  exact⟨vA HR.out.symm,Below.refl _ _⟩
theorem VL(s:ByteArray)(w:World)(hs:s.size<=1048576):
  Calls Tryz.prog 16 #[.string s] w fun e w'=>e= .returned (.int .i64 (Ad.pre s.data.toList))/\Below w.heap.size w w':=by
 have H1: ∀W,Calls Tryz.prog 34 #[.string s,.string ⟨#[95,95,115,101,99,117,114,101,45]⟩] W fun e w'=>e= .returned (.bool (Ad.YC s.data.toList Ad.aM))/\Below W.heap.size W w':=fun W=>cAf s ⟨#[95,95,115,101,99,117,114,101,45]⟩ W hs (by decide)
 have H2: ∀W,Calls Tryz.prog 34 #[.string s,.string ⟨#[95,95,104,111,115,116,45]⟩] W fun e w'=>e= .returned (.bool (Ad.YC s.data.toList Ad.ZL))/\Below W.heap.size W w':=fun W=>cAf s ⟨#[95,95,104,111,115,116,45]⟩ W hs (by decide)
 have H1:=zA7 H1
 have H2:=zA7 H2
 have HR:=zA7 (Ad.bAU s.data.toList)
 generalize Ad.pre s.data.toList=p at*
 generalize Ad.YC s.data.toList Ad.aM=b1 at*
 generalize Ad.YC s.data.toList Ad.ZL=b2 at*
 cases b1
 ·cases b2
  ·have HP:Hid (p=0):=zA7 (by rw[HR.out,if_neg (by decide),if_neg (by decide)])
   clear HR
   go_enter Tryz.func16,Tryz.ntmps16
   go_wp2_with fail
   refine(H1.out _).mono ?_
   rintro e w1 ⟨rfl,d1⟩
   go_wp2_with fail
   refine(H2.out _).mono ?_
   rintro e w2 ⟨rfl,d2⟩
   go_wp2
   go_ret
   exact⟨by rw[HP.out];rfl,d1.trans (d2.mono d1.size)⟩
  ·have HP:Hid (p=2):=zA7 (by rw[HR.out,if_neg (by decide),if_pos rfl])
   clear HR
   go_enter Tryz.func16,Tryz.ntmps16
   go_wp2_with fail
   refine(H1.out _).mono ?_
   rintro e w1 ⟨rfl,d1⟩
   go_wp2_with fail
   refine(H2.out _).mono ?_
   rintro e w2 ⟨rfl,d2⟩
   go_wp2
   go_ret
   exact⟨by rw[HP.out];rfl,d1.trans (d2.mono d1.size)⟩
 ·have HP:Hid (p=1):=zA7 (by rw[HR.out,if_pos rfl])
  clear HR
  go_enter Tryz.func16,Tryz.ntmps16
  go_wp2_with fail
  refine(H1.out _).mono ?_
  rintro e w1 ⟨rfl,d1⟩
  go_wp2
  go_ret
  exact⟨by rw[HP.out];rfl,d1⟩
end Go.Proofs.YtabgoobcliijeaaGreatDoor
namespace Go.Proofs.YtabgoobcliijeaaGreatDoor
open Go.RowKit
theorem bI(l:List UInt8):(⟨l.toArray⟩:ByteArray).toList.isEmpty=decide (l= []):=by
 rw[Oct.SA]
 cases l<;>simp
theorem kAJ(p:ByteArray)(w:World)(hs:p.size<4611686018427387904):
  Calls Tryz.prog 60 #[.string p] w fun e w'=>e= .returned (.string ⟨(Ma.default p.data.toList).toArray⟩)/\w=w':=by
 have H1:=zA7 (fun W=>Tryz.strings_LastIndex_one p ⟨#[47]⟩ rfl hs W)
 have H2:=zA7 (fun W=>Tryz.strings_HasPrefix p ⟨#[47]⟩ W)
 have e1:(⟨#[47]⟩:ByteArray).data.toList= [47]:=rfl
 have e2:((((⟨#[47]⟩:ByteArray)[0]'(by decide)).toNat:Nat):Int)=47:=rfl
 rw[e2]at H1
 rw[e1,Ma.mAc]at H2
 have hle:=Ma.pZ p.data.toList
 rw[Oct.nA]at hle
 by_cases hz:(Ma.vB p.data.toList).length=0
 ·have hz1:=Ma.kAe.2 hz
  have HR:Hid ((⟨#[47]⟩:ByteArray)=⟨(Ma.default p.data.toList).toArray⟩):=zA7 (by rw[Ma.TP (.inr hz)])
  clear hz e1 e2 hle
  generalize Lib.lastIndexByte p 47=i at*
  generalize Ma.default p.data.toList=D at*
  go_enter Tryz.func60,Tryz.ntmps60
  go_wp2_with (go_at_call 98;refine(H1.out _).mono ?_;rintro e w' ⟨rfl,hq⟩;rw[hq])
  go_ret
  exact⟨nB HR.out,rfl⟩
 ·have hp:0<(Ma.vB p.data.toList).length:=by omega
  rw[Ma.kAd hp]at H1
  by_cases hh:p.data.toList.head?=some 47
  ·have HA:Hid (p.extract 0 (Ma.vB p.data.toList).length=⟨(Ma.default p.data.toList).toArray⟩):=zA7 (by rw[Ma.KZ hh hp];exact EF p _)
   rw[zA9 hh]at H2
   clear hh e1 e2 hz
   generalize Ma.default p.data.toList=D at*
   generalize(Ma.vB p.data.toList).length=n at*
   have hn: ¬(n:Int)<1:=by omega
   have hle1:(n:Int)<=(p.size:Int):=by omega
   go_enter Tryz.func60,Tryz.ntmps60
   go_wp2_with (first
    |(go_at_call 98;refine(H1.out _).mono ?_;rintro e w' ⟨rfl,hq⟩;rw[hq])
    |(go_at_call 72;refine(H2.out _).mono ?_;rintro e w' ⟨rfl,hq⟩;rw[hq]))
   go_ret
   exact⟨nB HA.out,rfl⟩
  ·have HR:Hid ((⟨#[47]⟩:ByteArray)=⟨(Ma.default p.data.toList).toArray⟩):=zA7 (by rw[Ma.TP (.inl hh)])
   rw[zA8 hh]at H2
   clear hh e1 e2 hz
   generalize Ma.default p.data.toList=D at*
   generalize(Ma.vB p.data.toList).length=n at*
   have hn: ¬(n:Int)<1:=by omega
   go_enter Tryz.func60,Tryz.ntmps60
   go_wp2_with (first
    |(go_at_call 98;refine(H1.out _).mono ?_;rintro e w' ⟨rfl,hq⟩;rw[hq])
    |(go_at_call 72;refine(H2.out _).mono ?_;rintro e w' ⟨rfl,hq⟩;rw[hq]))
   go_ret
   exact⟨nB HR.out,rfl⟩
end Go.Proofs.YtabgoobcliijeaaGreatDoor
namespace Go.Proofs.YtabgoobcliijeaaGreatDoor
open Go.RowKit
theorem MY(s t:ByteArray)(w:World)(hs:s.size<=1048576){x:List UInt8}(hx:t.data.toList.map Oct.low=x):
  Calls Tryz.prog 33 #[.string s,.string t] w fun e w'=>e= .returned (.bool (Ad.YC s.data.toList x))/\Below w.heap.size w w':=by
 have hxl:x.length=t.size:=by rw[<-hx,List.length_map,Oct.nA]
 by_cases h:t.size<=s.size
 ·have h1:(t.size:Int)<=(s.size:Int):=by omega
  have e:(s.extract 0 t.size).data.toList=s.data.toList.take t.size:=by rw[EF]
  have hz:(s.extract 0 t.size).size<=1048576:=by
   rw[<-Oct.nA,e,List.length_take];omega
  have H1:Hid (∀W,Calls Tryz.prog 69 #[.string (s.extract 0 t.size),.string t] W (KH (Ad.YC s.data.toList x) W)):=zA7 (fun W=>by
   have:=uR (s.extract 0 t.size) t W (by unfold maxLen;omega)
   have e2:Oct.kC (s.extract 0 t.size).data.toList t.data.toList=Ad.YC s.data.toList x:=by
    unfold Oct.kC Ad.YC
    rw[e,hx,hxl]
   rw[e2]at this
   exact this)
  unfold KH at H1
  generalize Ad.YC s.data.toList x=B at*
  clear hz h e hx hxl
  go_enter Tryz.func33,Tryz.ntmps33
  go_wp2_with (go_at_call 69;refine(H1.out _).mono ?_;rintro e w1 ⟨rfl,d1⟩)
  go_ret
  exact⟨rfl,d1.below _⟩
 ·have h1: ¬(t.size:Int)<=(s.size:Int):=by omega
  have HR:=zA7 (Ad.LY (s:=s.data.toList) (t:=x) (by rw[Oct.nA,hxl];omega))
  generalize Ad.YC s.data.toList x=B at*
  clear h hx hxl
  go_enter Tryz.func33,Tryz.ntmps33
  go_wp2
  go_ret
  exact⟨vA HR.out.symm,Below.refl _ _⟩
theorem JV(s:ByteArray)(w:World)(hs:s.size<=1048576):
  Calls Tryz.prog 15 #[.string s] w fun e w'=>e= .returned (.int .i64 (Ad.pre s.data.toList))/\Below w.heap.size w w':=by
 have H1:=zA7 (fun W=>MY s ⟨#[95,95,83,101,99,117,114,101,45]⟩ W hs (show([95,95,83,101,99,117,114,101,45]:List UInt8).map Oct.low=Ad.aM from by decide))
 have H2:=zA7 (fun W=>MY s ⟨#[95,95,72,111,115,116,45]⟩ W hs (show([95,95,72,111,115,116,45]:List UInt8).map Oct.low=Ad.ZL from by decide))
 have HR:=zA7 (Ad.bAU s.data.toList)
 generalize Ad.pre s.data.toList=p at*
 generalize Ad.YC s.data.toList Ad.aM=b1 at*
 generalize Ad.YC s.data.toList Ad.ZL=b2 at*
 cases b1
 ·cases b2
  ·have HP:Hid (p=0):=zA7 (by rw[HR.out,if_neg (by decide),if_neg (by decide)])
   clear HR
   go_enter Tryz.func15,Tryz.ntmps15
   go_wp2_with fail
   refine(H1.out _).mono ?_
   rintro e w1 ⟨rfl,d1⟩
   go_wp2_with fail
   refine(H2.out _).mono ?_
   rintro e w2 ⟨rfl,d2⟩
   go_wp2
   go_ret
   exact⟨by rw[HP.out];rfl,d1.trans (d2.mono d1.size)⟩
  ·have HP:Hid (p=2):=zA7 (by rw[HR.out,if_neg (by decide),if_pos rfl])
   clear HR
   go_enter Tryz.func15,Tryz.ntmps15
   go_wp2_with fail
   refine(H1.out _).mono ?_
   rintro e w1 ⟨rfl,d1⟩
   go_wp2_with fail
   refine(H2.out _).mono ?_
   rintro e w2 ⟨rfl,d2⟩
   go_wp2
   go_ret
   exact⟨by rw[HP.out];rfl,d1.trans (d2.mono d1.size)⟩
 ·have HP:Hid (p=1):=zA7 (by rw[HR.out,if_pos rfl])
  clear HR
  go_enter Tryz.func15,Tryz.ntmps15
  go_wp2_with fail
  refine(H1.out _).mono ?_
  rintro e w1 ⟨rfl,d1⟩
  go_wp2
  go_ret
  exact⟨by rw[HP.out];rfl,d1⟩
theorem fAy(g:Hd.Head)(only:Bool)(hn:g.name.length<=9000)(hv:g.value.length<=9000)(w:World):
  Calls Tryz.prog 59 #[.agg (headA g),.bool only] w fun e w'=>e= .returned (.bool (Ad.breaks g only))/\Below w.heap.size w w':=by
 have R0:=Row.new w 35 (headA g)
 have B0:=(Below.refl w.heap.size w).alloc (zB3 _) (.cells (headA g) 35)
 obtain⟨nb,hnb⟩: ∃b:ByteArray,b=⟨g.name.toArray⟩:=⟨_,rfl⟩
 obtain⟨vb,hvb⟩: ∃b:ByteArray,b=⟨g.value.toArray⟩:=⟨_,rfl⟩
 obtain⟨pb,hpb⟩: ∃b:ByteArray,b=⟨g.path.toArray⟩:=⟨_,rfl⟩
 have q0:(headA g)[0]? =some (.string nb):=by rw[hnb];rfl
 have q1:(headA g)[1]? =some (.string vb):=by rw[hvb];rfl
 have q3:(headA g)[3]? =some (.string pb):=by rw[hpb];rfl
 have q8:(headA g)[8]? =some (.bool g.secure):=rfl
 have hpq:(pb.toList== [47])=decide (g.path= [47]):=by
  rw[hpb,Oct.SA,Bool.eq_iff_iff];simp
 have HB:=zA7 (show Ad.breaks g only=((decide (Ad.pre (Ad.told g)=1)&& !g.secure)||(decide (Ad.pre (Ad.told g)=2)&& (!g.secure|| !only|| !decide (g.path= [47])))) from rfl)
 have HC:=zA7 (Ad.kO (Ad.told g))
 have key: ∃(ne:Bool)(tb:ByteArray),nb.toList.isEmpty=ne/\tb=(if ne=true then vb else nb)/\(∀W,Calls Tryz.prog 15 #[.string tb] W fun e w'=>e= .returned (.int .i64 (Ad.pre (Ad.told g)))/\Below W.heap.size W w'):=by
  by_cases hg:g.name= []
  ·refine⟨true,vb,by rw[hnb,bI,zA9 hg],rfl,fun W=>?_⟩
   have:=JV vb W (by rw[<-Oct.nA,hvb];show g.value.length<=_;omega)
   unfold Ad.told
   rw[if_pos hg]
   rw[hvb]at this⊢
   exact this
  ·refine⟨false,nb,by rw[hnb,bI,zA8 hg],rfl,fun W=>?_⟩
   have:=JV nb W (by rw[<-Oct.nA,hnb];show g.name.length<=_;omega)
   unfold Ad.told
   rw[if_neg hg]
   rw[hnb]at this⊢
   exact this
 obtain⟨ne,tb,hne,htb,HP⟩:=key
 have HP:=zA7 HP
 generalize Ad.pre (Ad.told g)=p at*
 generalize Ad.breaks g only=r at*
 generalize decide (g.path= [47])=pe at*
 generalize g.secure=sec at*
 generalize headA g=U at*
 have c0:=(R0.cell 0).trans q0
 have c1:=(R0.cell 1).trans q1
 clear hnb hvb hpb hn hv
 cases ne
 all_goals
  simp only[Bool.false_eq_true,if_false,if_true]at htb
  subst htb
  go_enter Tryz.func59,Tryz.ntmps59
  go_wp2_with fail
  generalize w.alloc (.cells U 35)=w0 at*
  refine(HP.out _).mono ?_
  rintro e w1 ⟨rfl,d1⟩
  have R1:=R0.stays d1
  have B1:=B0.trans (d1.mono B0.size)
  have c3:=(R1.cell 3).trans q3
  have c8:=(R1.cell 8).trans q8
  clear R0 B0 c0 c1 HP d1
  rcases HC.out with rfl|rfl|rfl
  ·have HR:Hid (r=false):=zA7 (by rw[HB.out];simp)
   clear HC HB
   go_wp2
   go_ret
   exact⟨vA HR.out.symm,B1⟩
  ·have HR:Hid (r= !sec):=zA7 (by rw[HB.out];simp)
   clear HC HB
   go_wp2
   go_ret
   exact⟨vA HR.out.symm,B1⟩
  ·have HR:Hid (r=(!sec|| !only|| !pe)):=zA7 (by rw[HB.out];simp)
   clear HC HB
   cases sec<;>cases only<;>cases pe
   all_goals
    go_wp2
    go_ret
    exact⟨vA HR.out.symm,B1⟩
end Go.Proofs.YtabgoobcliijeaaGreatDoor
