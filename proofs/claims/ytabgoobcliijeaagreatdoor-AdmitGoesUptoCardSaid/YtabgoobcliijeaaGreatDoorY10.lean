/- A region that draws its order and whose operations only read, or call what leaves a world of a class: walked once, in the order of the text, in the class at hand. -/
import Derived.Test.YtabgoobcliijeaaGreatDoorY9
import Derived.Deep.LoopGhost
set_option maxHeartbeats 4000000
set_option maxRecDepth 100000
namespace Go.Proofs.YtabgoobcliijeaaGreatDoor
open Go.RowKit
section
variable {P:Program} {ops:Array Oper} {C:World->Prop} {Q:Act->Prop} {a:Act} {o:Oper} {rest:List Oper}
theorem rAF {v:Value}(hy:YieldsIf P ops C o v a)(h:wpQuiet P ops C Q rest (a.put o.dst v)):wpQuiet P ops C Q (o::rest) a:=by
 refine wpQuiet_step fun K hK=>?_
 rcases hy with⟨hw,hr⟩|⟨hw,hv⟩
 ·rw[if_pos hw]
  exact⟨v,fun w hC=>by unfold Oper.quietAt;rw[hr w hC];exact⟨rfl,rfl⟩,hK _ h⟩
 ·rw[if_neg (by rw[hw];decide),<-hv]
  exact hK _ h
theorem rAE(hw:Region.wanted o (yielded ops a.tmps)=true)(v:Value)(hc: ∀w,C w->o.quietAt P a C w v)(h:wpQuiet P ops C Q rest (a.put o.dst v)):wpQuiet P ops C Q (o::rest) a:=by
 refine wpQuiet_step fun K hK=>?_
 rw[if_pos hw]
 exact⟨v,hc,hK _ h⟩
end
theorem rE {P:Program}{C:World->Prop}{id:Nat}{Q:Exit->Act->World->Prop}{a:Act}{w:World}{l:List Oper}(hm:P.follows .mixedOrders=true)(hB:Region.lexB .any l.toArray=true)(hC:C w.drew)
  (h:wpQuiet P l.toArray C (fun a'=> ∀w',C w'->Q .normal a' w') l a):(Code.region id l.toArray true).wp P Q a w:=
 wp_region_quiet (C:=C) hm hB hC (by simpa using h)
end Go.Proofs.YtabgoobcliijeaaGreatDoor
namespace Go.Proofs.YtabgoobcliijeaaGreatDoor
open Go.RowKit
theorem jK {a b:World}{P:Ending->Prop}(hC:Below a.heap.size a b){f:FuncId}{args:Array Value}(h:Calls Tryz.prog f args b fun e w'=>P e/\b=w'):
  Calls Tryz.prog f args b fun e w'=>P e/\Below a.heap.size a w':=
 h.mono fun _ _ ⟨h1,h2⟩=>⟨h1,h2▸hC⟩
theorem fAr(d:Int)(b i:Nat)(w:World)(hi:i<=8398)(hd:w.cell? ⟨b,0,none⟩=some (.int .i64 d)):
  Calls Tryz.prog 190 #[.int .i64 (i:Int),.pointer (some ⟨b,0,none⟩)] w fun e w'=>e= .returned (.bool (Dt.AH d i))/\Below w.heap.size w w':=by
 have HN:=zA7 (fun W=>KL (1601+i+1) W (by omega) (by omega))
 have HB:Hid (Dt.AH d i=decide (d<Dt.before (1601+i+1)-134774)):=zA7 rfl
 generalize Dt.AH d i=r at*
 generalize Dt.before (1601+i+1)-134774=n at*
 have q1:IntKind.i64.wrap (1601+(i:Int))=1601+(i:Int):=by rw[IntKind.wrap_i64];omega
 have q2:IntKind.i64.wrap (1601+(i:Int)+1)=1601+(i:Int)+1:=by rw[IntKind.wrap_i64];omega
 have HD:=zA7 (fun W (hC:Below w.heap.size w W)=>(hC.cell (block_lt_of_cell hd)).trans hd)
 have C1:=zA7 (fun W (hC:Below w.heap.size w W)=>jK hC (HN.out W))
 go_enter Tryz.func190,Tryz.ntmps190
 go_wp2_with fail
 refine rE (C:=fun W=>Below w.heap.size w W) (by kernel_rfl) (by kernel_rfl) (Below.refl _ _).drew ?_
 refine kA ?_
 refine kA ?_
 refine kA ?_
 refine QD (.int .i64 n) (fun wq hC=>by unfold Oper.quietAt;go_simp;exact C1.out wq hC) ?_
 refine kA ?_ (v:= .int .i64 d) (hv:=fun wq hC=>by have hcell:=HD.out wq hC;go_simp;try with_reducible rfl)
 refine kA ?_
 refine kA ?_
 refine wpQuiet_nil ?_
 intro w' hC
 go_wp2
 go_ret
 exact⟨vA (by rw[HB.out]),hC⟩
theorem nAU(d:Int)(y b:Nat)(w:World)(hd:w.cell? ⟨b,0,none⟩=some (.int .i64 d))(h1:1601<=y)(h2:y<=9999)(h3:Dt.before y-134774<=d)(h4:d<Dt.before (y+1)-134774):
  Calls Tryz.prog 189 #[.int .i64 8398,.func (.func 190) #[] #[.pointer (some ⟨b,0,none⟩)]] w fun e w'=>e= .returned (.int .i64 ((y:Int)-1601))/\Below w.heap.size w w':=by
 have wS:Hid (∀i:Nat,1601+i<y->Dt.AH d i=false):=zA7 (fun i h=>Dt.lAa h3 h)
 have eAE:Hid (∀i:Nat,y<=1601+i->Dt.AH d i=true):=zA7 (fun i h=>Dt.lAb h4 h)
 have HC:Hid (∀(i:Nat) W,i<=8398->Below w.heap.size w W->Calls Tryz.prog 190 #[.int .i64 (i:Int),.pointer (some ⟨b,0,none⟩)] W fun e w'=>e= .returned (.bool (Dt.AH d i))/\Below w.heap.size w w'):=
  zA7 (fun i W hi hC=>(fAr d b i W hi ((hC.cell (block_lt_of_cell hd)).trans hd)).mono fun e w' ⟨a,c⟩=>⟨a,hC.trans (c.mono hC.size)⟩)
 clear h3 h4 hd
 go_enter Tryz.func189,Tryz.ntmps189
 go_wp2
 go_loopw [5,6] (fun s5 s6 wr=> ∃lo hi:Nat,s5= .int .i64 lo/\s6= .int .i64 hi/\1601+lo<=y/\y<=1601+hi/\hi<=8398/\Below w.heap.size w wr) (fun s5 s6 _=>(intOf s6).toNat- (intOf s5).toNat)
 case atStart=>exact⟨0,8398,rfl,rfl,by omega,by omega,zB3 _,Below.refl _ _⟩
 case round=>
  obtain⟨lo,hi,rfl,rfl,hlo,hhi,hm,hb⟩:=hrel
  by_cases hlt:lo<hi
  ·have hc:=HC.out ((lo+hi)/2) wr (by omega) hb
   rw[show(((lo+hi)/2:Nat):Int)=((lo:Int)+(hi:Int))/2 by omega]at hc
   by_cases hy:1601+(lo+hi)/2<y
   ·rw[wS.out _ hy]at hc
    have nC:=zA7 hc
    clear hc
    go_wp2_with (go_at_call 190;refine nC.out.mono ?_;rintro e w' ⟨rfl,b2⟩)
    go_roundw
    case rel=>exact⟨(lo+hi)/2+1,hi,by go_num,rfl,by omega,hhi,hm,b2⟩
    case measure=>simp[intOf];omega
   ·rw[eAE.out _ (by omega)]at hc
    have nC:=zA7 hc
    clear hc
    go_wp2_with (go_at_call 190;refine nC.out.mono ?_;rintro e w' ⟨rfl,b2⟩)
    go_roundw
    case rel=>exact⟨lo,(lo+hi)/2,rfl,by go_num,hlo,by omega,by omega,b2⟩
    case measure=>simp[intOf];omega
  ·have e1:hi=lo:=by omega
   subst e1
   go_wp2
   go_ret
   exact⟨uC (by omega),hb⟩
end Go.Proofs.YtabgoobcliijeaaGreatDoor
namespace Go.Proofs.YtabgoobcliijeaaGreatDoor
open Go.RowKit
theorem YL {fn:Func}{t u v x:Tmp}(h:fn.results= #[.tmp t,.tmp u,.tmp v,.tmp x])(tmps:Array Value)(P:Program)(w:World):
  (results fn tmps).run P w= .ok (.tuple #[tmps.getD t undef,tmps.getD u undef,tmps.getD v undef,tmps.getD x undef]) w:=by
 simp[results,h]
def fAY(o:Option (Int×Int×Int)):Int:=match o with|some t=>t.1|none=>0
def fAX(o:Option (Int×Int×Int)):Int:=match o with|some t=>t.2.1|none=>0
def fAW(o:Option (Int×Int×Int)):Int:=match o with|some t=>t.2.2|none=>0
def xI(o:Option (Int×Int×Int))(w:World)(e:Ending)(w':World):Prop:=
 e= .returned (.tuple #[.int .i64 (fAY o),.int .i64 (fAX o),.int .i64 (fAW o),.bool o.isSome])/\Below w.heap.size w w'
theorem eZ {o:Option (Int×Int×Int)}(h:o=none){w w':World}(hb:Below w.heap.size w w'):xI o w (.returned (.tuple #[.int .i64 0,.int .i64 0,.int .i64 0,.bool false])) w':=by subst h;exact⟨rfl,hb⟩
theorem fZ {o:Option (Int×Int×Int)}{y m d:Int}(h:o=some (y,m,d)){w w':World}(hb:Below w.heap.size w w'):xI o w (.returned (.tuple #[.int .i64 y,.int .i64 m,.int .i64 d,.bool true])) w':=by subst h;exact⟨rfl,hb⟩
theorem fAZ(n:Int)(w:World)(hw:mC w):Calls Tryz.prog 157 #[.int .i64 n] w (xI (Dt.civil n) w):=by
 have XG:Hid (∀W,Calls Tryz.prog 158 #[.int .i64 1601] W fun e w'=>e= .returned (.int .i64 (-134774))/\W=w'):=zA7 (fun W=>KL 1601 W (by omega) (by omega))
 have nG:Hid (∀W,Calls Tryz.prog 158 #[.int .i64 10000] W fun e w'=>e= .returned (.int .i64 2932897)/\W=w'):=zA7 (fun W=>KL 10000 W (by omega) (by omega))
 have R0:=Row.new w 2 #[.int .i64 n]
 have B0:=(Below.refl w.heap.size w).alloc (zB3 _) (.cells #[.int .i64 n] 2)
 have fD:=zA7 (fun(h:Dt.civil n=none) w' (hb:Below w.heap.size w w')=>eZ h hb)
 have xC:=zA7 (fun y m d (h:Dt.civil n=some (y,m,d)) w' (hb:Below w.heap.size w w')=>fZ h hb)
 generalize hpost:xI (Dt.civil n) w=post at*
 clear hpost
 by_cases k1:n< -134774
 ·have KK:=zA7 k1
  have HR:=zA7 (fD.out (Dt.LP.2 (.inl k1)))
  go_enter Tryz.func157,Tryz.ntmps157
  go_wp2_with fail
  generalize w.alloc (.cells #[.int .i64 n] 2)=w0 at*
  have D0:=R0.cell 0
  have HD:Hid (∀W,Below w0.heap.size w0 W->W.cell? ⟨w.heap.size,0,none⟩=some (.int .i64 n)):=zA7 (fun W hC=>(hC.cell (block_lt_of_cell D0)).trans D0)
  have C1:=zA7 (fun W (hC:Below w0.heap.size w0 W)=>jK hC (XG.out W))
  have t1:decide (n< -134774)=true:=zA9 KK.out
  refine rE (C:=fun W=>Below w0.heap.size w0 W) (by kernel_rfl) (by kernel_rfl) (Below.refl _ _).drew ?_
  refine kA ?_ (v:= .int .i64 n) (hv:=fun wq hC=>by have hcell:=HD.out wq hC;go_simp;try with_reducible rfl)
  refine QD (.int .i64 (-134774)) (fun wq hC=>by unfold Oper.quietAt;go_simp;exact C1.out wq hC) ?_
  refine kA ?_
  refine kA ?_
  refine oB (Or.inr ⟨by rfl,rfl⟩) ?_
  refine oB (Or.inr ⟨by rfl,rfl⟩) ?_
  refine oB (Or.inr ⟨by rfl,rfl⟩) ?_
  refine kA ?_
  refine wpQuiet_nil ?_
  intro w1 hC
  go_wp2
  refine bodyPost_ret (YL rfl _ _ _) rfl ?_
  exact HR.out _ (B0.trans (hC.mono B0.size))
 ·by_cases k2:(2932897:Int)<=n
  ·have KK:=zA7 k2
   have HR:=zA7 (fD.out (Dt.LP.2 (.inr (by omega))))
   go_enter Tryz.func157,Tryz.ntmps157
   go_wp2_with fail
   generalize w.alloc (.cells #[.int .i64 n] 2)=w0 at*
   have D0:=R0.cell 0
   have HD:Hid (∀W,Below w0.heap.size w0 W->W.cell? ⟨w.heap.size,0,none⟩=some (.int .i64 n)):=zA7 (fun W hC=>(hC.cell (block_lt_of_cell D0)).trans D0)
   have C1:=zA7 (fun W (hC:Below w0.heap.size w0 W)=>jK hC (XG.out W))
   have C2:=zA7 (fun W (hC:Below w0.heap.size w0 W)=>jK hC (nG.out W))
   have t1:decide (n< -134774)=false:=zA8 (by have:=KK.out;omega)
   have t2:decide (2932897<=n)=true:=zA9 KK.out
   refine rE (C:=fun W=>Below w0.heap.size w0 W) (by kernel_rfl) (by kernel_rfl) (Below.refl _ _).drew ?_
   refine kA ?_ (v:= .int .i64 n) (hv:=fun wq hC=>by have hcell:=HD.out wq hC;go_simp;try with_reducible rfl)
   refine QD (.int .i64 (-134774)) (fun wq hC=>by unfold Oper.quietAt;go_simp;exact C1.out wq hC) ?_
   refine kA ?_
   refine kA ?_
   refine kA ?_ (v:= .int .i64 n) (hv:=fun wq hC=>by have hcell:=HD.out wq hC;go_simp;try with_reducible rfl)
   refine QD (.int .i64 2932897) (fun wq hC=>by unfold Oper.quietAt;go_simp;exact C2.out wq hC) ?_
   refine kA ?_
   refine kA ?_
   refine wpQuiet_nil ?_
   intro w1 hC
   go_wp2
   refine bodyPost_ret (YL rfl _ _ _) rfl ?_
   exact HR.out _ (B0.trans (hC.mono B0.size))
  ·have KK:=zA7 (And.intro k1 k2)
   obtain⟨y,y1,y2,y3,y4⟩:=Dt.qAw (d:=n) (by omega) (by omega)
   have HS:=zA7 (fun b W hd=>nAU n y b W hd y1 y2 y3 y4)
   have VO:=zA7 (fun W=>KL y W (by omega) (by omega))
   have HM:=zA7 (fun(j:Nat) W hW=>bA8 y j W hW (by omega))
   have hN:n- (Dt.before y-134774)<Dt.cD y:=by have:=Dt.FJ y;omega
   have hyb:=Dt.mM y
   have HN:=zA7 hN
   have HST:=zA7 (Dt.RE.start (y:=y) (n:=n- (Dt.before y-134774)) (by omega))
   have IS:=zA7 (fun m r (h:Dt.RE y (n- (Dt.before y-134774)) m r) hr=>xC.out _ _ _ (h.stop (d:=n) (by omega) (by omega) (by omega) hr))
   have hN0:0<=n- (Dt.before y-134774):=by omega
   have HE:Hid (Dt.before y-134774+(n- (Dt.before y-134774))=n):=zA7 (by omega)
   have mU: -134774<=Dt.before y-134774/\Dt.before y-134774<=3000000:=by
    have a:=Dt.WH (y:=1601) (z:=y) (by omega)
    rw[Dt.EJ]at a
    omega
   clear y3 y4
   generalize hY:Dt.before y-134774=Y at*
   generalize VJ:n-Y=N at*
   have pS:=zA7 (fun(j:Int)=>Dt.EE (Dt.leap y) j)
   clear hY
   go_enter Tryz.func157,Tryz.ntmps157
   go_wp2_with fail
   generalize w.alloc (.cells #[.int .i64 n] 2)=w0 at*
   have D0:=R0.cell 0
   have HD:Hid (∀W,Below w0.heap.size w0 W->W.cell? ⟨w.heap.size,0,none⟩=some (.int .i64 n)):=zA7 (fun W hC=>(hC.cell (block_lt_of_cell D0)).trans D0)
   have C1:=zA7 (fun W (hC:Below w0.heap.size w0 W)=>jK hC (XG.out W))
   have C2:=zA7 (fun W (hC:Below w0.heap.size w0 W)=>jK hC (nG.out W))
   have t1:decide (n< -134774)=false:=zA8 (by have:=KK.out;omega)
   have t2:decide (2932897<=n)=false:=zA8 (by have:=KK.out;omega)
   refine rE (C:=fun W=>Below w0.heap.size w0 W) (by kernel_rfl) (by kernel_rfl) (Below.refl _ _).drew ?_
   refine kA ?_ (v:= .int .i64 n) (hv:=fun wq hC=>by have hcell:=HD.out wq hC;go_simp;try with_reducible rfl)
   refine QD (.int .i64 (-134774)) (fun wq hC=>by unfold Oper.quietAt;go_simp;exact C1.out wq hC) ?_
   refine kA ?_
   refine kA ?_
   refine kA ?_ (v:= .int .i64 n) (hv:=fun wq hC=>by have hcell:=HD.out wq hC;go_simp;try with_reducible rfl)
   refine QD (.int .i64 2932897) (fun wq hC=>by unfold Oper.quietAt;go_simp;exact C2.out wq hC) ?_
   refine kA ?_
   refine kA ?_
   refine wpQuiet_nil ?_
   intro w1 hC
   have D1:=HD.out w1 hC
   have B1:=B0.trans (hC.mono B0.size)
   clear D0 HD C1 C2 XG nG B0 R0 hC
   go_wp2_with (go_at_call 189;refine(HS.out _ _ D1).mono ?_;rintro e w2 ⟨rfl,b2⟩)
   have D2:=(b2.cell (block_lt_of_cell D1)).trans D1
   have B2:=B1.trans (b2.mono B1.size)
   have ey:IntKind.i64.wrap (1601+((y:Int)-1601))=(y:Int):=by rw[IntKind.wrap_i64];omega
   have ey2:1601+((y:Int)-1601)=(y:Int):=by omega
   have HD:Hid (∀W,Below w2.heap.size w2 W->W.cell? ⟨w.heap.size,0,none⟩=some (.int .i64 n)):=zA7 (fun W hC=>(hC.cell (block_lt_of_cell D2)).trans D2)
   have C1:=zA7 (fun W (hC:Below w2.heap.size w2 W)=>jK hC (VO.out W))
   have e3:IntKind.i64.wrap (n-Y)=N:=by rw[IntKind.wrap_i64,VJ];omega
   clear D1 B1 b2
   refine rE (C:=fun W=>Below w2.heap.size w2 W) (by kernel_rfl) (by kernel_rfl) (Below.refl _ _).drew ?_
   refine kA ?_ (v:= .int .i64 n) (hv:=fun wq hC=>by have hcell:=HD.out wq hC;go_simp;try with_reducible rfl)
   refine kA ?_
   refine QD (.int .i64 Y) (fun wq hC=>by unfold Oper.quietAt;go_simp;exact C1.out wq hC) ?_
   refine kA ?_
   refine kA ?_
   refine kA ?_
   refine wpQuiet_nil ?_
   intro w3 hC
   have B3:=B2.trans (hC.mono B2.size)
   have HW3:=hw.below B3
   clear D2 HD C1 VO HS hC B2 t1 t2 k1 k2 fD xC hw e3
   have e4:IntKind.i64.wrap N=N:=by rw[IntKind.wrap_i64];omega
   go_wp2
   simp only[e4,ey2]
   go_loop [7,8] (fun a r=> ∃(m:Nat)(k:Int),a= .int .i64 m/\r= .int .i64 k/\Dt.RE y N m k) (fun a _=>13- (intOf a).toNat)
   case atStart=>exact⟨1,N,rfl,rfl,HST.out⟩
   case round=>
    obtain⟨m,k,rfl,rfl,hI⟩:=hrel
    obtain⟨i1,i2,i3,i4⟩:=hI
    have HI:=zA7 (Dt.RE.mk (y:=y) (n:=N) i1 i2 i3 i4)
    have hmb:=Dt.UQ y i1 i2
    have hlb:=pS.out m
    have xD:=zA7 (fun W hW=>HM.out m W hW (by omega) (by omega))
    have hk:k<=400:=by omega
    by_cases hlt:Dt.len (Dt.leap y) m<=k
    ·have KM:=zA7 (HI.out.more HN.out hlt)
     clear i4 hmb
     generalize Dt.len (Dt.leap y) m=z at*
     go_wp2_with (go_at_call 191;with_reducible refine(xD.out _ HW3).mono ?_;rintro e w' ⟨rfl,rfl⟩)
     have h12:=KM.out.high
     go_round
     case rel=>exact⟨m+1,k-z,by go_num,rfl,KM.out⟩
     case measure=>simp[intOf];omega
    ·have HS:=zA7 (IS.out m k HI.out (by omega))
     clear i4 hmb
     generalize Dt.len (Dt.leap y) m=z at*
     go_wp2_with (go_at_call 191;with_reducible refine(xD.out _ HW3).mono ?_;rintro e w' ⟨rfl,rfl⟩)
     refine bodyPost_ret (YL rfl _ _ _) rfl ?_
     exact HS.out _ B3
theorem mAz(n:Int)(w:World):Calls Tryz.prog 100 #[.int .i64 n] w (xI (Dt.civil n) w):=by
 have XG:Hid (∀W,Calls Tryz.prog 85 #[.int .i64 1601,.int .i64 1,.int .i64 1] W fun e w'=>e= .returned (.tuple #[.int .i64 (-134774),.bool true])/\W=w'):=zA7 (fun W=>XV 1601 1 1 W)
 have nG:Hid (∀W,Calls Tryz.prog 85 #[.int .i64 9999,.int .i64 12,.int .i64 31] W fun e w'=>e= .returned (.tuple #[.int .i64 2932896,.bool true])/\W=w'):=zA7 (fun W=>XV 9999 12 31 W)
 have fD:=zA7 (fun(h:Dt.civil n=none)=>eZ h (Below.refl w.heap.size w))
 have xC:=zA7 (fun y m d (h:Dt.civil n=some (y,m,d))=>fZ h (Below.refl w.heap.size w))
 generalize hpost:xI (Dt.civil n) w=post at*
 clear hpost
 by_cases k1:n< -134774
 ·have HR:=zA7 (fD.out (Dt.LP.2 (.inl k1)))
  go_enter Tryz.func100,Tryz.ntmps100
  go_wp2_with (first
   |(with_reducible go_at_call 85;with_reducible refine(XG.out _).mono ?_;rintro e w' ⟨rfl,rfl⟩)
   |(with_reducible go_at_call 85;with_reducible refine(nG.out _).mono ?_;rintro e w' ⟨rfl,rfl⟩))
  refine bodyPost_ret (YL rfl _ _ _) rfl ?_
  exact HR.out
 ·by_cases k2:(2932896:Int)<n
  ·have HR:=zA7 (fD.out (Dt.LP.2 (.inr (by omega))))
   go_enter Tryz.func100,Tryz.ntmps100
   go_wp2_with (first
    |(with_reducible go_at_call 85;with_reducible refine(XG.out _).mono ?_;rintro e w' ⟨rfl,rfl⟩)
    |(with_reducible go_at_call 85;with_reducible refine(nG.out _).mono ?_;rintro e w' ⟨rfl,rfl⟩))
   refine bodyPost_ret (YL rfl _ _ _) rfl ?_
   exact HR.out
  ·have HY:=zA7 (fun(j:Nat) W=>cAw j W (by omega))
   have HM:=zA7 (fun(y j:Nat) W=>ZV y j W (by omega))
   have eP:=zA7 (fun(j:Nat)=>Dt.mM j)
   have YM:=zA7 (fun(j:Nat)=>Dt.FJ j)
   have pS:=zA7 (fun(y:Nat)(j:Int)=>Dt.EE (Dt.leap y) j)
   have yI:Hid (∀j:Nat,1601<=j->0<=Dt.before j):=zA7 (fun j h1=>by
    have a:=Dt.WH (y:=1601) (z:=j) (by omega)
    rw[Dt.EJ]at a
    exact a)
   have HBL:Hid (∀j:Nat,9999<=j->3067671<=Dt.before ((j:Int)+1)):=zA7 (fun j h1=>by
    have a:=Dt.WH (y:=10000) (z:=(j:Int)+1) (by omega)
    rw[Dt.before_last]at a
    exact a)
   have IS:=zA7 (fun(y:Nat) m r (h:Dt.RE y (n+134774-Dt.before y) m r)(h1:1601<=y)(h2:y<=9999) hr=>xC.out _ _ _ (h.stop (d:=n) (by omega) (by omega) (by omega) hr))
   clear fD xC
   have e1:n- (-134774)=n+134774:=by omega
   go_enter Tryz.func100,Tryz.ntmps100
   go_wp2_with (first
    |(with_reducible go_at_call 85;with_reducible refine(XG.out _).mono ?_;rintro e w' ⟨rfl,rfl⟩)
    |(with_reducible go_at_call 85;with_reducible refine(nG.out _).mono ?_;rintro e w' ⟨rfl,rfl⟩))
   go_loop [10,11] (fun a r=> ∃y:Nat,a= .int .i64 y/\r= .int .i64 (n+134774-Dt.before y)/\1601<=y/\y<=9999/\0<=n+134774-Dt.before y) (fun a _=>10000- (intOf a).toNat)
   case atStart=>exact⟨1601,rfl,IA (by show _=_-Dt.before 1601;rw[Dt.EJ];omega),by omega,by omega,by show 0<=_-Dt.before 1601;rw[Dt.EJ];omega⟩
   case round=>
    obtain⟨y,rfl,rfl,y1,y2,y3⟩:=hrel
    have hyb:=eP.out y
    have hbb:=yI.out y y1
    by_cases hlt:Dt.cD y<=n+134774-Dt.before y
    ·have HS:=zA7 (YM.out y)
     have hlast:y+1<=9999:=by
      refine Classical.byContradiction fun h=>?_
      have a:=HBL.out y (by omega)
      have b:=YM.out y
      omega
     have cH:=zA7 (fun W=>HY.out y W)
     generalize Dt.cD y=z at*
     generalize Dt.before y=x at*
     go_wp2_with (go_at_call 111;refine(cH.out _).mono ?_;rintro e w' ⟨rfl,rfl⟩)
     go_round
     case rel=>exact⟨y+1,by go_num,IA (by show _=_-Dt.before ((y:Int)+1);rw[HS.out];omega),by omega,hlast,by show 0<=_-Dt.before ((y:Int)+1);rw[HS.out];omega⟩
     case measure=>simp[intOf];omega
    ·have HST:=zA7 (Dt.RE.start (y:=y) y3)
     have HN:=zA7 (show n+134774-Dt.before y<Dt.cD y by omega)
     have UM:=zA7 (fun m r h hr=>IS.out y m r h y1 y2 hr)
     have cH:=zA7 (fun W=>HY.out y W)
     have HMY:=zA7 (fun j W=>HM.out y j W)
     have HLY:=zA7 (fun j=>pS.out y j)
     have nG:=zA7 HN.out
     generalize n+134774-Dt.before y=N at*
     have hz:N<Dt.cD y:=HN.out
     generalize hzz:Dt.cD y=z at cH hyb HN hz hlt
     clear hzz
     go_wp2_with (go_at_call 111;refine(cH.out _).mono ?_;rintro e w' ⟨rfl,rfl⟩)
     go_loop [11,12] (fun r a=> ∃(m:Nat)(k:Int),a= .int .i64 m/\r= .int .i64 k/\Dt.RE y N m k) (fun _ a=>13- (intOf a).toNat)
     case atStart=>exact⟨1,N,rfl,rfl,HST.out⟩
     case round=>
      obtain⟨m,k,rfl,rfl,hI⟩:=hrel
      obtain⟨i1,i2,i3,i4⟩:=hI
      have HI:=zA7 (Dt.RE.mk (y:=y) (n:=N) i1 i2 i3 i4)
      have hmb:=Dt.UQ y i1 i2
      have hlb:=HLY.out m
      have xD:=zA7 (fun W=>HMY.out m W)
      have hk:k<=400:=by omega
      by_cases hlt:Dt.len (Dt.leap y) m<=k
      ·have KM:=zA7 (HI.out.more nG.out hlt)
       clear i4 hmb
       generalize Dt.len (Dt.leap y) m=q at*
       go_wp2_with (go_at_call 110;with_reducible refine(xD.out _).mono ?_;rintro e w' ⟨rfl,rfl⟩)
       have h12:=KM.out.high
       go_round
       case rel=>exact⟨m+1,k-q,by go_num,rfl,KM.out⟩
       case measure=>simp[intOf];omega
      ·have HS:=zA7 (UM.out m k HI.out (by omega))
       clear i4 hmb
       generalize Dt.len (Dt.leap y) m=q at*
       go_wp2_with (go_at_call 110;with_reducible refine(xD.out _).mono ?_;rintro e w' ⟨rfl,rfl⟩)
       refine bodyPost_ret (YL rfl _ _ _) rfl ?_
       exact HS.out
end Go.Proofs.YtabgoobcliijeaaGreatDoor
namespace Go.Proofs.YtabgoobcliijeaaGreatDoor
open Go.RowKit
theorem dAx(W:World)(a b:UInt8):
  (convert 110 9 (.slice (some ⟨W.heap.size,0,none⟩) 2 2)).run Tryz.prog (W.alloc (.cells #[.int .u8 (a.toNat:Int),.int .u8 (b.toNat:Int)] 5))= .ok (.string ⟨#[a,b]⟩) (W.alloc (.cells #[.int .u8 (a.toNat:Int),.int .u8 (b.toNat:Int)] 5)):=by
 refine run_convert_bytes_back (W.alloc (.cells #[.int .u8 (a.toNat:Int),.int .u8 (b.toNat:Int)] 5)) 110 9 5 ⟨W.heap.size,0,none⟩ 2 [a,b] Tryz.underlying110 Tryz.underlying5 Tryz.underlying9 (fun j hj=>?_)
 have hR:=Row.new W 5 #[.int .u8 (a.toNat:Int),.int .u8 (b.toNat:Int)]
 rw[Addr.add_mid,hR.cell]
 have:j=0\/j=1:=by simp at hj;omega
 rcases this with rfl|rfl<;>rfl
namespace Dt
theorem LZ(k:Nat)(h:k<10)(h2:k<(⟨#[48,49,50,51,52,53,54,55,56,57]⟩:ByteArray).size):(⟨#[48,49,50,51,52,53,54,55,56,57]⟩:ByteArray)[k]=UInt8.ofNat (48+k):=by
 have:k=0\/k=1\/k=2\/k=3\/k=4\/k=5\/k=6\/k=7\/k=8\/k=9:=by omega
 rcases this with rfl|rfl|rfl|rfl|rfl|rfl|rfl|rfl|rfl|rfl<;>rfl
end Dt
def fH(l:List UInt8)(w:World)(e:Ending)(w':World):Prop:=e= .returned (.string ⟨l.toArray⟩)/\Below w.heap.size w w'
theorem XL(n:Nat)(hn:n<100)(w:World):Calls Tryz.prog 101 #[.int .i64 (n:Int)] w (fH (Dt.two n) w):=by
 have HT:Hid (Dt.two n= [UInt8.ofNat (48+n/10%10),UInt8.ofNat (48+n%10)]):=zA7 rfl
 have hcv:=dAx w (UInt8.ofNat (48+n/10%10)) (UInt8.ofNat (48+n%10))
 have e1:((UInt8.ofNat (48+n/10%10)).toNat:Int)=48+(n:Int)/10%10:=by rw[UInt8.toNat_ofNat'];omega
 have e2:((UInt8.ofNat (48+n%10)).toNat:Int)=48+(n:Int)%10:=by rw[UInt8.toNat_ofNat'];omega
 rw[e1,e2]at hcv
 generalize UInt8.ofNat (48+n/10%10)=a at*
 generalize UInt8.ofNat (48+n%10)=b at*
 clear e1 e2
 have q1:(n:Int).tdiv 10=(n:Int)/10:=Int.tdiv_eq_ediv_of_nonneg (by omega)
 have q2:(n:Int).tmod 10=(n:Int)%10:=Int.tmod_eq_emod_of_nonneg (by omega)
 have q3:((n:Int)/10).tmod 10=(n:Int)/10%10:=Int.tmod_eq_emod_of_nonneg (by omega)
 generalize Dt.two n=l at*
 go_enter Tryz.func101,Tryz.ntmps101
 go_wp2
 go_ret
 exact⟨nB (by rw[HT.out]),(Below.refl w.heap.size w).alloc (zB3 _) _⟩
theorem JR(n:Nat)(hn:n<100)(w:World):Calls Tryz.prog 159 #[.int .i64 (n:Int)] w (fH (Dt.two n) w):=by
 have HT:Hid (Dt.two n= [UInt8.ofNat (48+n/10),UInt8.ofNat (48+n%10)]):=zA7 (by unfold Dt.two;rw[show n/10%10=n/10 by omega])
 have q1:IntKind.i64.wrap ((n:Int).tdiv 10)=((n/10:Nat):Int):=by rw[Int.tdiv_eq_ediv_of_nonneg (by omega),IntKind.wrap_i64];omega
 have q2:(n:Int).tmod 10=((n%10:Nat):Int):=by rw[Int.tmod_eq_emod_of_nonneg (by omega)];omega
 have q3:IntKind.i64.wrap ((n:Int)/10)=((n/10:Nat):Int):=by rw[IntKind.wrap_i64];omega
 have q4:(n:Int)%10=((n%10:Nat):Int):=by omega
 have m1:n/10<10:=by omega
 have m2:n%10<10:=by omega
 have D1:=Dt.LZ (n/10) m1 m1
 have D2:=Dt.LZ (n%10) m2 m2
 have hcv:(convert 110 9 (.slice (some ⟨w.heap.size,0,none⟩) 2 2)).run Tryz.prog (w.alloc (.cells #[.int .u8 ((UInt8.ofNat (48+n/10)).toNat:Int),.int .u8 ((UInt8.ofNat (48+n%10)).toNat:Int)] 5)).drew= .ok (.string ⟨#[UInt8.ofNat (48+n/10),UInt8.ofNat (48+n%10)]⟩) (w.alloc (.cells #[.int .u8 ((UInt8.ofNat (48+n/10)).toNat:Int),.int .u8 ((UInt8.ofNat (48+n%10)).toNat:Int)] 5)).drew:=dAx w.drew (UInt8.ofNat (48+n/10)) (UInt8.ofNat (48+n%10))
 generalize Dt.two n=l at*
 generalize n/10=x at*
 generalize n%10=y at*
 generalize UInt8.ofNat (48+x)=a at*
 generalize UInt8.ofNat (48+y)=b at*
 have s1:(x:Int)<10:=by omega
 have s2:(y:Int)<10:=by omega
 go_enter Tryz.func159,Tryz.ntmps159
 go_wp2_with fail
 refine wp_region_held_drew (S:=Below w.heap.size w) (by kernel_rfl) ((Below.refl w.heap.size w).drew) (fun _=>?_)
 refine mA (i:=0) rfl ?_
 refine mA (i:=1) rfl ?_
 refine mA (i:=2) rfl ?_
 refine mA (i:=3) rfl ?_
 refine mA (i:=4) rfl ?_
 refine mA (i:=5) rfl ?_
 refine yA (i:=6) fun K hK=>?_
 go_simp
 have S5:Below w.heap.size w ((w.drew).alloc (.cells #[.int .u8 (a.toNat:Int),.int .u8 (b.toNat:Int)] 5)):=((Below.refl w.heap.size w).drew).alloc (zB3 _) _
 refine hK.out _ _ S5 (fun _=>?_)
 clear hK K
 refine yA (i:=7) fun K hK=>?_
 go_simp
 refine hK.out _ _ S5 (fun _=>?_)
 clear hK K
 refine mA (i:=8) rfl ?_
 refine wpAnyH_done (by kernel_rfl) ?_ _
 go_wp2
 go_ret
 exact⟨nB (by rw[HT.out]),by assumption⟩
theorem gA0 {A B C:ByteArray}{n:Nat}(hA:A=⟨(Dt.two (n/3600)).toArray⟩)(hB:B=⟨(Dt.two (n/60%60)).toArray⟩)(hC:C=⟨(Dt.two (n%60)).toArray⟩):
  A++⟨#[58]⟩++B++⟨#[58]⟩++C=⟨(Dt.clock n).toArray⟩:=by
 subst hA hB hC
 rfl
theorem tI {A:ByteArray}{n:Nat}(h:A=⟨(Dt.two n).toArray⟩):A.size=2:=by subst h;rfl
theorem pAd(n:Nat)(hn:n<86400)(w:World):Calls Tryz.prog 161 #[.int .i64 (n:Int)] w (fH (Dt.clock n) w):=by
 have HA:=zA7 (fun W=>JR (n/3600) (by omega) W)
 have HB:=zA7 (fun W=>JR (n/60%60) (by omega) W)
 have HC:=zA7 (fun W=>JR (n%60) (by omega) W)
 unfold fH at HA HB HC
 obtain⟨A,hA⟩: ∃A:ByteArray,A=⟨(Dt.two (n/3600)).toArray⟩:=⟨_,rfl⟩
 obtain⟨B,hB⟩: ∃A:ByteArray,A=⟨(Dt.two (n/60%60)).toArray⟩:=⟨_,rfl⟩
 obtain⟨C,hC⟩: ∃A:ByteArray,A=⟨(Dt.two (n%60)).toArray⟩:=⟨_,rfl⟩
 rw[<-hA]at HA
 rw[<-hB]at HB
 rw[<-hC]at HC
 have HT:=zA7 (gA0 hA hB hC)
 have sA:=tI hA
 have sB:=tI hB
 have sC:=tI hC
 clear hA hB hC
 have q1:(n:Int).tdiv 3600=((n/3600:Nat):Int):=by rw[Int.tdiv_eq_ediv_of_nonneg (by omega)];omega
 have q2:((n:Int).tmod 3600).tdiv 60=((n/60%60:Nat):Int):=by rw[Int.tmod_eq_emod_of_nonneg (by omega),Int.tdiv_eq_ediv_of_nonneg (by omega)];omega
 have q3:(n:Int).tmod 60=((n%60:Nat):Int):=by rw[Int.tmod_eq_emod_of_nonneg (by omega)];omega
 have q4:(n:Int)/3600=((n/3600:Nat):Int):=by omega
 have q5:((n:Int)%3600)/60=((n/60%60:Nat):Int):=by omega
 have q6:(n:Int)%60=((n%60:Nat):Int):=by omega
 generalize Dt.clock n=l at*
 have r1:n/3600<24:=by omega
 have r2:n/60%60<60:=by omega
 have r3:n%60<60:=by omega
 generalize n/3600=x at*
 generalize n/60%60=y at*
 generalize n%60=z at*
 have p0: ¬9223372036854775807<A.size+1:=by omega
 have p1: ¬9223372036854775807<A.size+1+B.size:=by omega
 have p2: ¬9223372036854775807<A.size+1+B.size+1:=by omega
 have p3: ¬9223372036854775807<A.size+1+B.size+1+C.size:=by omega
 go_enter Tryz.func161,Tryz.ntmps161
 go_wp2_with fail
 refine(HA.out _).mono ?_
 rintro e w1 ⟨rfl,b1⟩
 go_wp2_with fail
 refine(HB.out _).mono ?_
 rintro e w2 ⟨rfl,b2⟩
 go_wp2_with fail
 refine(HC.out _).mono ?_
 rintro e w3 ⟨rfl,b3⟩
 go_wp2
 go_ret
 have b12:=b1.trans (b2.mono b1.size)
 exact⟨nB HT.out,b12.trans (b3.mono b12.size)⟩
end Go.Proofs.YtabgoobcliijeaaGreatDoor
namespace Go.Proofs.YtabgoobcliijeaaGreatDoor
open Go.RowKit
theorem BV {a b:World}{P:Ending->Prop}(hC:Below a.heap.size a b){f:FuncId}{args:Array Value}(h:Calls Tryz.prog f args b fun e w'=>P e/\Below b.heap.size b w'):
  Calls Tryz.prog f args b fun e w'=>P e/\Below a.heap.size a w':=
 h.mono fun _ _ ⟨h1,h2⟩=>⟨h1,hC.trans (h2.mono hC.size)⟩
namespace Dt
theorem dAk {mo y m d:Int}(h:civil (mo/86400)=some (y,m,d)):text mo=zD y m d (mo/86400) (mo%86400).toNat:=by unfold text;rw[h]
theorem wZ(mo:Int): ∃T R:Int,∃N:Nat,mo.tdiv 86400=T/\mo.tmod 86400=R/\N<86400/\(mo%86400).toNat=N/\((R<0/\mo/86400=T-1/\R+86400=(N:Int))\/(¬R<0/\mo/86400=T/\R=(N:Int))):=by
 refine⟨_,_,(mo%86400).toNat,rfl,rfl,by omega,rfl,?_⟩
 obtain⟨h1,h2⟩:=vZ mo
 have e:=Int.tmod_add_mul_tdiv mo 86400
 by_cases h:mo.tmod 86400<0
 ·have:=h1 h
  exact .inl ⟨h,this,by omega⟩
 ·have:=h2 (by omega)
  exact .inr ⟨h,this.1,by omega⟩
theorem dAc {mo:Int}(h1: -9223372036854775808<=mo)(h2:mo<=9223372036854775807): -106751991167301<=mo.tdiv 86400/\mo.tdiv 86400<=106751991167301/\ -86400<=mo.tmod 86400/\mo.tmod 86400<86400:=by
 obtain⟨h3,h4⟩:=vZ mo
 have e1:=Int.tmod_add_mul_tdiv mo 86400
 have e2:mo.tmod 86400<86400:=Int.tmod_lt_of_pos _ (by omega)
 by_cases h:mo.tmod 86400<0
 ·have:=h3 h;omega
 ·have:=h4 (by omega);omega
end Dt
theorem gAB {W E M Y C:ByteArray}{y m d k:Int}{n:Nat}(hW:W=⟨(Dt.tE k).toArray⟩)(hE:E=⟨(Dt.two d.toNat).toArray⟩)(hM:M=⟨(Dt.mname m).toArray⟩)(hY:Y=⟨(Dt.two (y.toNat/100)++Dt.two (y.toNat%100)).toArray⟩)(hC:C=⟨(Dt.clock n).toArray⟩):
  W++⟨#[44,32]⟩++E++⟨#[32]⟩++M++⟨#[32]⟩++Y++⟨#[32]⟩++C++⟨#[32,71,77,84]⟩=⟨(Dt.zD y m d k n).toArray⟩:=by
 subst hW hE hM hY hC
 apply ByteArray.ext
 simp[ByteArray.data_append,Dt.zD]
theorem lD(l:List UInt8):(⟨l.toArray⟩:ByteArray).size=l.length:=by show(List.toArray _).size=_;simp
theorem BZ(mo:Int)(w:World)(hw:mC w)(hlo: -9223372036854775808<=mo)(hhi:mo<=9223372036854775807):Calls Tryz.prog 120 #[.int .i64 mo] w (fH (Dt.text mo) w):=by
 have hsm:=Dt.dAc hlo hhi
 obtain⟨T,R,N,hT,hR,hN,VJ,hor⟩:=Dt.wZ mo
 rw[hT,hR]at hsm
 obtain⟨t1,t2,t3,t4⟩:=hsm
 have VO:Hid (∀W,Calls Tryz.prog 158 #[.int .i64 1601] W fun e w'=>e= .returned (.int .i64 (-134774))/\W=w'):=zA7 (fun W=>KL 1601 W (by omega) (by omega))
 obtain⟨D,hD⟩: ∃D,mo/86400=D:=⟨_,rfl⟩
 rw[hD]at hor
 have HC:=zA7 (fun W hW=>fAZ D W hW)
 have fD:=zA7 (fun(h:Dt.civil D=none)=>show Dt.text mo= [] from Dt.AW (by rw[hD];exact h))
 have xC:=zA7 (fun y m d (h:Dt.civil D=some (y,m,d))=>show Dt.text mo=Dt.zD y m d D N from by rw[Dt.dAk (by rw[hD];exact h),hD,VJ])
 generalize Dt.text mo=res at*
 clear hD VJ
 cases hc:Dt.civil D with
 |none=>
  rw[hc]at HC
  have HR:=zA7 (fD.out hc)
  unfold xI at HC
  clear fD xC hc
  rcases hor with⟨r1,r2,r3⟩|⟨r1,r2,r3⟩
  all_goals
   subst r2
   go_enter Tryz.func120,Tryz.ntmps120
   go_wp2_with (go_at_call 157;refine(HC.out _ hw).mono ?_;rintro e w1 ⟨rfl,b1⟩)
   go_ret
   exact⟨nB (by rw[HR.out]),b1⟩
 |some t=>
  obtain⟨y,m,d⟩:=t
  rw[hc]at HC
  have HR:=zA7 (xC.out y m d hc)
  obtain⟨hI,hdd⟩:=Dt.jH.1 hc
  have hdb:=Dt.MJ hI
  rw[hdd]at hdb
  have nC:Hid (∀W,mC W->Calls Tryz.prog 157 #[.int .i64 D] W fun e w'=>e= .returned (.tuple #[.int .i64 y,.int .i64 m,.int .i64 d,.bool true])/\Below W.heap.size W w'):=HC
  clear HC fD xC hc hdd
  obtain⟨y1,y2,m1,m2,d1,d2⟩:=hI
  have hlb:=Dt.EE (Dt.leap y) m
  obtain⟨Y,rfl⟩: ∃Y:Nat,y=Y:=⟨y.toNat,by omega⟩
  obtain⟨M,rfl⟩: ∃M:Nat,m=M:=⟨m.toNat,by omega⟩
  obtain⟨E,rfl⟩: ∃E:Nat,d=E:=⟨d.toNat,by omega⟩
  obtain⟨J,hJ⟩: ∃J:Nat,(D+134774)%7=(J:Int):=⟨((D+134774)%7).toNat,by omega⟩
  have hJ2:J<7:=by omega
  have HW:=zA7 (Dt.qAe D)
  have rJ:=zA7 (Dt.bA7 m1 m2)
  rw[hJ,Int.toNat_natCast]at HW
  have eM:((M:Int)-1).toNat=M-1:=by omega
  rw[eM]at rJ
  obtain⟨w3,hw3⟩: ∃w3:ByteArray,w3=⟨(Dt.tE D).toArray⟩:=⟨_,rfl⟩
  obtain⟨me,hme⟩: ∃w3:ByteArray,w3=⟨(Dt.mname M).toArray⟩:=⟨_,rfl⟩
  obtain⟨e2,he2⟩: ∃w3:ByteArray,w3=⟨(Dt.two E).toArray⟩:=⟨_,rfl⟩
  obtain⟨y4,hy4⟩: ∃w3:ByteArray,w3=⟨(Dt.two (Y/100)++Dt.two (Y%100)).toArray⟩:=⟨_,rfl⟩
  obtain⟨c8,hc8⟩: ∃w3:ByteArray,w3=⟨(Dt.clock N).toArray⟩:=⟨_,rfl⟩
  have HT:=zA7 (gAB (y:=Y) (m:=M) (d:=E) hw3 he2 hme hy4 hc8)
  have s3:w3.size=3:=by rw[hw3,lD,Dt.SW]
  have sm:me.size=3:=by rw[hme,lD,Dt.kV m1 m2]
  have s2:e2.size=2:=by rw[he2];rfl
  have s4:y4.size=4:=by rw[hy4];rfl
  have s8:c8.size=8:=by rw[hc8];rfl
  have AM:Hid (∀W,mC W->W.cell? ⟨0,J,none⟩=some (.string w3)):=zA7 (fun W h=>by rw[hw3];exact h.day HW.out)
  have sS:Hid (∀W,mC W->W.cell? ⟨1,M-1,none⟩=some (.string me)):=zA7 (fun W h=>by rw[hme];exact h.name rJ.out)
  have HE:Hid (∀W,Calls Tryz.prog 159 #[.int .i64 (E:Int)] W fun e w'=>e= .returned (.string e2)/\Below W.heap.size W w'):=zA7 (fun W=>by rw[he2];exact JR E (by omega) W)
  have HY:Hid (∀W,mC W->Calls Tryz.prog 160 #[.int .i64 (Y:Int)] W fun e w'=>e= .returned (.string y4)/\Below W.heap.size W w'):=zA7 (fun W h=>by
   have:=aAA Y W h.std (by omega)
   rw[Dt.gAN (by omega) (by omega),<-hy4]at this
   exact this)
  have KE:Hid (∀W,Calls Tryz.prog 161 #[.int .i64 (N:Int)] W fun e w'=>e= .returned (.string c8)/\Below W.heap.size W w'):=zA7 (fun W=>by rw[hc8];exact pAd N hN W)
  have q1:(D- -134774).tmod 7=(J:Int):=by rw[Int.tmod_eq_emod_of_nonneg (by omega)];omega
  have q2:(D+134774).tmod 7=(J:Int):=by rw[Int.tmod_eq_emod_of_nonneg (by omega)];omega
  have j1:(J:Int)<7:=by omega
  have M0:IntKind.i64.wrap ((M:Int)-1)=(M:Int)-1:=by rw[IntKind.wrap_i64];omega
  have M1:(0:Int)<=(M:Int)-1:=by omega
  have M2:(M:Int)-1<12:=by omega
  clear hw3 hme he2 hy4 hc8 HW rJ
  have p0: ¬9223372036854775807<w3.size+2:=by omega
  have p1: ¬9223372036854775807<w3.size+2+e2.size:=by omega
  have p2: ¬9223372036854775807<w3.size+2+e2.size+1:=by omega
  have p3: ¬9223372036854775807<w3.size+2+e2.size+1+me.size:=by omega
  have p4: ¬9223372036854775807<w3.size+2+e2.size+1+me.size+1:=by omega
  have p5: ¬9223372036854775807<w3.size+2+e2.size+1+me.size+1+y4.size:=by omega
  have p6: ¬9223372036854775807<w3.size+2+e2.size+1+me.size+1+y4.size+1:=by omega
  have p7: ¬9223372036854775807<w3.size+2+e2.size+1+me.size+1+y4.size+1+c8.size:=by omega
  have p8: ¬9223372036854775807<w3.size+2+e2.size+1+me.size+1+y4.size+1+c8.size+4:=by omega
  rcases hor with⟨r1,r2,r3⟩|⟨r1,r2,r3⟩
  all_goals
   have z1:IntKind.i64.wrap T=T:=by rw[IntKind.wrap_i64];omega
   have z2:IntKind.i64.wrap R=R:=by rw[IntKind.wrap_i64];omega
   subst r2
   first|subst r3|skip
   go_enter Tryz.func120,Tryz.ntmps120
   go_wp2_with fail
   refine(nC.out _ hw).mono ?_
   rintro e w1 ⟨rfl,b1⟩
   have HW1:=hw.below b1
   go_wp2_with fail
   refine(VO.out _).mono ?_
   rintro e w2 ⟨rfl,rfl⟩
   have rAb:=AM.out _ HW1
   go_wp2_with fail
   have CD:=zA7 (fun W (hC:Below w1.heap.size w1 W)=>HW1.below hC)
   have C1:=zA7 (fun W (hC:Below w1.heap.size w1 W)=>BV hC (HE.out W))
   have C2:=zA7 (fun W (hC:Below w1.heap.size w1 W)=>BV hC (HY.out W (CD.out W hC)))
   have C3:=zA7 (fun W (hC:Below w1.heap.size w1 W)=>BV hC (KE.out W))
   have CM:=zA7 (fun W (hC:Below w1.heap.size w1 W)=>sS.out W (CD.out W hC))
   refine rE (C:=fun W=>Below w1.heap.size w1 W) (by kernel_rfl) (by kernel_rfl) (Below.refl _ _).drew ?_
   refine kA ?_
   refine kA ?_
   refine kA ?_
   refine QD (.string e2) (fun wq hC=>by unfold Oper.quietAt;go_simp;exact C1.out wq hC) ?_
   refine kA ?_
   refine kA ?_
   refine kA ?_
   refine kA ?_
   refine kA ?_
   refine kA ?_ (v:= .string me) (hv:=fun wq hC=>by have hcell:=CM.out wq hC;go_simp;try with_reducible rfl)
   refine kA ?_
   refine kA ?_
   refine kA ?_
   refine QD (.string y4) (fun wq hC=>by unfold Oper.quietAt;go_simp;exact C2.out wq hC) ?_
   refine kA ?_
   refine kA ?_
   refine kA ?_
   refine QD (.string c8) (fun wq hC=>by unfold Oper.quietAt;go_simp;exact C3.out wq hC) ?_
   refine kA ?_
   refine kA ?_
   refine kA ?_
   refine wpQuiet_nil ?_
   intro w3' hC
   go_wp2
   go_ret
   exact⟨nB (by rw[HT.out,HR.out]),b1.trans (hC.mono b1.size)⟩
end Go.Proofs.YtabgoobcliijeaaGreatDoor
