/- The walks of moment and of date's Cookie. -/
import Derived.Test.YtdaaoopkkhfbhaaGreatDoorY10
import Derived.Test.YtdaaoopkkhfbhaaGreatDoorY11
set_option maxHeartbeats 8000000
set_option maxRecDepth 100000
namespace Go.Proofs.YtdaaoopkkhfbhaaGreatDoor
open Go.RowKit
namespace Dt
theorem gAW {T:Told}(h:(T.time.isSome&&T.day.isSome&&T.month.isSome&&T.year.isSome)=false):moment T=(0,false):=by
 unfold moment
 split
 ·rename_i h1 h2 h3 h4
  rw[h1,h2,h3,h4]at h
  cases h
 ·rfl
theorem gAT(h mi s d m y:Nat):moment ⟨some (h,mi,s),some d,some m,some y⟩=if(tD (GC y) m d).2=true/\h<=23/\mi<=59/\s<=59 then((tD (GC y) m d).1*86400+(h*3600+mi*60+s:Nat),true)else(0,false):=by
 unfold moment tD
 dsimp only
 by_cases hI:Is (GC y) m d
 ·by_cases h2:h<=23/\mi<=59/\s<=59
  ·rw[if_pos ⟨hI,h2⟩,if_pos hI,if_pos ⟨rfl,h2⟩]
  ·rw[if_neg (fun k=>h2 k.2),if_pos hI,if_neg (fun k=>h2 k.2)]
 ·rw[if_neg (fun k=>hI k.1),if_neg hI,if_neg (fun k=>by cases k.1)]
end Dt
def AF(o:Int×Bool)(w:World)(e:Ending)(w':World):Prop:=e= .returned (.tuple #[.int .i64 o.1,.bool o.2])/\Below w.heap.size w w'
theorem BX {o:Int×Bool}{n:Int}{b:Bool}(h:o=(n,b)){w w':World}(hb:Below w.heap.size w w'):AF o w (.returned (.tuple #[.int .i64 n,.bool b])) w':=by subst h;exact⟨rfl,hb⟩
theorem hAT {a b:World}{P:Ending->Prop}(hC:Below a.heap.size a b){f:FuncId}{args:Array Value}(h:Calls Tryz.prog f args b fun e w'=>P e/\b=w'):
  Calls Tryz.prog f args b fun e w'=>P e/\Below a.heap.size a w':=
 h.mono fun _ _ ⟨h1,h2⟩=>⟨h1,h2▸hC⟩
theorem gAU(T:Dt.Told)(g:Nat)(w:World)(hw:PB w)(hR:Row w g 245 (EC T)):
  Calls Tryz.prog 209 #[.pointer (some ⟨g,0,none⟩)] w (AF (Dt.moment T) w):=by
 have GA:Hid (∀n b w',Dt.moment T=(n,b)->Below w.heap.size w w'->AF (Dt.moment T) w (.returned (.tuple #[.int .i64 n,.bool b])) w'):=zA7 (fun n b w' h k=>BX h k)
 generalize hpost:AF (Dt.moment T) w=post at*
 clear hpost
 have q0:=hR.cell 0
 have q1:=hR.cell 1
 have q2:=hR.cell 2
 have q3:=hR.cell 3
 obtain⟨bt,hbt⟩: ∃b,T.time.isSome=b:=⟨_,rfl⟩
 obtain⟨bd,hbd⟩: ∃b,T.day.isSome=b:=⟨_,rfl⟩
 obtain⟨bm,zM⟩: ∃b,T.month.isSome=b:=⟨_,rfl⟩
 obtain⟨by',hby⟩: ∃b,T.year.isSome=b:=⟨_,rfl⟩
 have p0:w.cell? ⟨g,0,none⟩=some (.bool bt):=by rw[<-hbt];exact q0
 have p1:w.cell? ⟨g,1,none⟩=some (.bool bd):=by rw[<-hbd];exact q1
 have p2:w.cell? ⟨g,2,none⟩=some (.bool bm):=by rw[<-zM];exact q2
 have p3:w.cell? ⟨g,3,none⟩=some (.bool by'):=by rw[<-hby];exact q3
 have HN:Hid ((bt&&bd&&bm&&by')=false->Dt.moment T=(0,false)):=zA7 (fun h=>Dt.gAW (by rw[hbt,hbd,zM,hby];exact h))
 have HT:=zA7 (And.intro hbt (And.intro hbd (And.intro zM hby)))
 clear q0 q1 q2 q3 hbt hbd zM hby
 go_enter Tryz.func209,Tryz.ntmps209
 go_upto_region 1 with fail
 go_cut [31] (fun sx wx=>sx= .bool (!(bt&&bd&&bm&&by'))/\w=wx)
 case first=>
  cases bt with
  |false=>go_wp2;go_meet;exact⟨rfl,rfl⟩
  |true=>
  cases bd with
  |false=>go_wp2;go_meet;exact⟨rfl,rfl⟩
  |true=>
  cases bm with
  |false=>go_wp2;go_meet;exact⟨rfl,rfl⟩
  |true=>
  cases by' with
  |false=>go_wp2;go_meet;exact⟨rfl,rfl⟩
  |true=>go_wp2;go_meet;exact⟨rfl,rfl⟩
 case rest=>
 obtain⟨rfl,rfl⟩:=hcut
 cases hB:(bt&&bd&&bm&&by')with
 |false=>
  have HR:=zA7 (GA.out _ _ w (HN.out hB) (Below.refl _ _))
  clear hB
  go_wp2
  exact HR.out
 |true=>
 have hall:bt=true/\bd=true/\bm=true/\by'=true:=by
  rw[Bool.and_eq_true,Bool.and_eq_true,Bool.and_eq_true]at hB
  exact⟨hB.1.1.1,hB.1.1.2,hB.1.2,hB.2⟩
 obtain⟨tt,td,tm,ty⟩:=T
 obtain⟨a1,a2,a3,a4⟩:=HT.out
 rw[hall.1]at a1
 rw[hall.2.1]at a2
 rw[hall.2.2.1]at a3
 rw[hall.2.2.2]at a4
 dsimp only at a1 a2 a3 a4
 obtain⟨⟨h,mi,s⟩,rfl⟩:=Option.isSome_iff_exists.1 a1
 obtain⟨d,rfl⟩:=Option.isSome_iff_exists.1 a2
 obtain⟨m,rfl⟩:=Option.isSome_iff_exists.1 a3
 obtain⟨y,rfl⟩:=Option.isSome_iff_exists.1 a4
 have HM:=zA7 (Dt.gAT h mi s d m y)
 have HD:=zA7 (fun W hW=>cAh (Dt.GC y) m d W hW)
 unfold gO at HD
 have hdb:(Dt.tD (Dt.GC y) m d).2=true-> -134774<=(Dt.tD (Dt.GC y) m d).1/\(Dt.tD (Dt.GC y) m d).1<=2932896:=by
  unfold Dt.tD
  split
  ·rename_i hI;intro _;exact Dt.qK hI
  ·intro k;cases k
 have p4: ∀W,Below w.heap.size w W->W.cell? ⟨g,4,none⟩=some (.int .i64 (h:Int)):=fun W hC=>(hC.cell (hR.lt)).trans (hR.cell 4)
 have p5: ∀W,Below w.heap.size w W->W.cell? ⟨g,5,none⟩=some (.int .i64 (mi:Int)):=fun W hC=>(hC.cell (hR.lt)).trans (hR.cell 5)
 have p6: ∀W,Below w.heap.size w W->W.cell? ⟨g,6,none⟩=some (.int .i64 (s:Int)):=fun W hC=>(hC.cell (hR.lt)).trans (hR.cell 6)
 have p7: ∀W,Below w.heap.size w W->W.cell? ⟨g,7,none⟩=some (.int .i64 (d:Int)):=fun W hC=>(hC.cell (hR.lt)).trans (hR.cell 7)
 have p8: ∀W,Below w.heap.size w W->W.cell? ⟨g,8,none⟩=some (.int .i64 (m:Int)):=fun W hC=>(hC.cell (hR.lt)).trans (hR.cell 8)
 have p9: ∀W,Below w.heap.size w W->W.cell? ⟨g,9,none⟩=some (.int .i64 (Dt.GC y)):=fun W hC=>(hC.cell (hR.lt)).trans (hR.cell 9)
 have P4:=zA7 p4
 have P5:=zA7 p5
 have P6:=zA7 p6
 have P7:=zA7 p7
 have P8:=zA7 p8
 have P9:=zA7 p9
 clear p4 p5 p6 p7 p8 p9 p0 p1 p2 p3 hB hall a1 a2 a3 a4 HT HN hR
 rw[HM.out]at GA
 generalize Dt.tD (Dt.GC y) m d=o at*
 obtain⟨n,b⟩:=o
 dsimp only at HD GA hdb
 generalize Dt.GC y=Y at*
 have C1:=zA7 (fun W (hC:Below w.heap.size w W)=>hAT hC (HD.out W (hw.below hC)))
 clear HM HD hw
 go_upto_region 3 with fail
 refine nF (C:=fun W=>Below w.heap.size w W) (by kernel_rfl) (by kernel_rfl) (Below.refl _ _).drew ?_
 refine kA ?_
 refine kA ?_
 refine kA ?_
 refine kA ?_ (v:= .int .i64 Y) (hv:=fun wq hC=>by have hcell:=P9.out wq hC;go_simp;try with_reducible rfl)
 refine kA ?_
 refine kA ?_
 refine kA ?_
 refine kA ?_ (v:= .int .i64 (m:Int)) (hv:=fun wq hC=>by have hcell:=P8.out wq hC;go_simp;try with_reducible rfl)
 refine kA ?_
 refine kA ?_
 refine kA ?_
 refine kA ?_ (v:= .int .i64 (d:Int)) (hv:=fun wq hC=>by have hcell:=P7.out wq hC;go_simp;try with_reducible rfl)
 refine rC (.tuple #[.int .i64 n,.bool b]) (fun wq hC=>by unfold Oper.quietAt;go_simp;exact C1.out wq hC) ?_
 refine kA ?_
 refine kA ?_
 refine kA ?_
 refine kA ?_
 refine kA ?_
 refine wpQuiet_nil ?_
 intro w1 uE
 have e4:=P4.out w1 uE
 have e5:=P5.out w1 uE
 have e6:=P6.out w1 uE
 by_cases hok:b=true/\h<=23/\mi<=59/\s<=59
 ·have HR:=zA7 (fun W (hb:Below w.heap.size w W)=>GA.out _ _ W (if_pos hok) hb)
  obtain⟨rfl,h1,h2,h3⟩:=hok
  have k1: ¬(23:Int)<(h:Int):=by omega
  have k2: ¬(59:Int)<(mi:Int):=by omega
  have k3: ¬(59:Int)<(s:Int):=by omega
  have hnb:=hdb rfl
  go_wp2_with fail
  have F4:Hid (∀W,Below w1.heap.size w1 W->W.cell? ⟨g,4,none⟩=some (.int .i64 (h:Int))):=zA7 (fun W hC=>(hC.cell (block_lt_of_cell e4)).trans e4)
  have F5:Hid (∀W,Below w1.heap.size w1 W->W.cell? ⟨g,5,none⟩=some (.int .i64 (mi:Int))):=zA7 (fun W hC=>(hC.cell (block_lt_of_cell e5)).trans e5)
  have F6:Hid (∀W,Below w1.heap.size w1 W->W.cell? ⟨g,6,none⟩=some (.int .i64 (s:Int))):=zA7 (fun W hC=>(hC.cell (block_lt_of_cell e6)).trans e6)
  have z1:IntKind.i64.wrap (n*86400)=n*86400:=by rw[IntKind.wrap_i64];omega
  have z2:IntKind.i64.wrap ((h:Int)*3600)=(h:Int)*3600:=by rw[IntKind.wrap_i64];omega
  have z3:IntKind.i64.wrap ((mi:Int)*60)=(mi:Int)*60:=by rw[IntKind.wrap_i64];omega
  have z4:IntKind.i64.wrap ((h:Int)*3600+(mi:Int)*60)=(h:Int)*3600+(mi:Int)*60:=by rw[IntKind.wrap_i64];omega
  have z5:IntKind.i64.wrap ((h:Int)*3600+(mi:Int)*60+(s:Int))=(h:Int)*3600+(mi:Int)*60+(s:Int):=by rw[IntKind.wrap_i64];omega
  have z6:IntKind.i64.wrap (n*86400+((h:Int)*3600+(mi:Int)*60+(s:Int)))=n*86400+((h:Int)*3600+(mi:Int)*60+(s:Int)):=by rw[IntKind.wrap_i64];omega
  clear e4 e5 e6
  refine nF (C:=fun W=>Below w1.heap.size w1 W) (by kernel_rfl) (by kernel_rfl) (Below.refl _ _).drew ?_
  refine kA ?_
  refine kA ?_
  refine kA ?_
  refine kA ?_
  refine kA ?_
  refine kA ?_
  refine kA ?_ (v:= .int .i64 (h:Int)) (hv:=fun wq hC=>by have hcell:=F4.out wq hC;go_simp;try with_reducible rfl)
  refine kA ?_
  refine kA ?_
  refine kA ?_
  refine kA ?_
  refine kA ?_
  refine kA ?_ (v:= .int .i64 (mi:Int)) (hv:=fun wq hC=>by have hcell:=F5.out wq hC;go_simp;try with_reducible rfl)
  refine kA ?_
  refine kA ?_
  refine kA ?_
  refine kA ?_
  refine kA ?_
  refine kA ?_
  refine kA ?_ (v:= .int .i64 (s:Int)) (hv:=fun wq hC=>by have hcell:=F6.out wq hC;go_simp;try with_reducible rfl)
  refine kA ?_
  refine kA ?_
  refine kA ?_
  refine kA ?_
  refine wpQuiet_nil ?_
  intro w2 hC2
  go_wp2
  have hf:=HR.out w2 (uE.trans (hC2.mono uE.size))
  have ez:((h*3600+mi*60+s:Nat):Int)=(h:Int)*3600+(mi:Int)*60+(s:Int):=by omega
  rw[ez]at hf
  exact hf
 ·have HR:=zA7 (fun W (hb:Below w.heap.size w W)=>GA.out _ _ W (if_neg hok) hb)
  have hor:b=false\/(b=true/\(23:Int)<(h:Int))\/(b=true/\ ¬(23:Int)<(h:Int)/\(59:Int)<(mi:Int))\/(b=true/\ ¬(23:Int)<(h:Int)/\ ¬(59:Int)<(mi:Int)/\(59:Int)<(s:Int)):=by
   cases b with
   |false=>exact .inl rfl
   |true=>
    have: ¬(h<=23/\mi<=59/\s<=59):=fun k=>hok ⟨rfl,k⟩
    by_cases k1:(23:Int)<(h:Int)
    ·exact .inr (.inl ⟨rfl,k1⟩)
    ·by_cases k2:(59:Int)<(mi:Int)
     ·exact .inr (.inr (.inl ⟨rfl,k1,k2⟩))
     ·exact .inr (.inr (.inr ⟨rfl,k1,k2,by omega⟩))
  clear hok
  rcases hor with rfl|⟨rfl,k1⟩|⟨rfl,k1,k2⟩|⟨rfl,k1,k2,k3⟩
  all_goals
   go_wp2
   exact HR.out w1 uE
end Go.Proofs.YtdaaoopkkhfbhaaGreatDoor
