/- The walks of monthLength and Days, and of the reference's Length, Is and Days. -/
import Derived.Test.YtdaaoopkkhfbhaaGreatDoorY9
set_option maxHeartbeats 2000000
namespace Go.Proofs.YtdaaoopkkhfbhaaGreatDoor
open Go.RowKit
theorem EX(y:Int)(m:Nat)(w:World)(hw:PB w)(h1:0<=y)(m1:1<=m)(m2:m<=12):
  Calls Tryz.prog 281 #[.int .i64 y,.int .i64 (m:Int)] w fun e w'=>e= .returned (.int .i64 (Dt.len (Dt.leap y) m))/\w=w':=by
 have HC:=zA7 (fun W=>gAc y W h1)
 have hc:=hw.len m m1 m2
 have hm:((m:Int)-1).toNat=m-1:=by omega
 have HF:Hid (Dt.len (Dt.leap y) m=Dt.len false m+if m=2/\Dt.leap y=true then 1 else 0):=zA7 (by
  have:m=1\/m=2\/m=3\/m=4\/m=5\/m=6\/m=7\/m=8\/m=9\/m=10\/m=11\/m=12:=by omega
  rcases this with rfl|rfl|rfl|rfl|rfl|rfl|rfl|rfl|rfl|rfl|rfl|rfl<;>cases Dt.leap y<;>decide)
 have hb:=Dt.ZD false m
 generalize Dt.len (Dt.leap y) m=r at*
 generalize Dt.len false m=n at*
 by_cases k:m=2
 ·subst k
  cases hl:Dt.leap y
  all_goals
   rw[hl]at HC HF
   go_enter Tryz.func281,Tryz.ntmps281
   go_wp2_with (go_at_call 296;refine(HC.out _).mono ?_;rintro e w' ⟨rfl,rfl⟩)
   go_ret
   exact⟨BC (by rw[HF.out];simp),rfl⟩
 ·have k2:((m:Int)==2)=false:=by rw[beq_eq_false_iff_ne];omega
  have HK:=zA7 k
  clear k
  go_enter Tryz.func281,Tryz.ntmps281
  go_wp2
  go_ret
  exact⟨BC (by rw[HF.out,if_neg (fun h=>HK.out h.1)];omega),rfl⟩
namespace Dt
def tD(y m d:Int):Int×Bool:=if Is y m d then(days y m d,true)else(0,false)
theorem BP {y m d:Int}(h: ¬Is y m d):tD y m d=(0,false):=if_neg h
theorem cAg {y m d:Int}(h:Is y m d):tD y m d=(days y m d,true):=if_pos h
end Dt
def gO(o:Int×Bool)(w:World)(e:Ending)(w':World):Prop:=e= .returned (.tuple #[.int .i64 o.1,.bool o.2])/\w=w'
theorem dM {o:Int×Bool}{n:Int}{b:Bool}(h:o=(n,b))(w:World):gO o w (.returned (.tuple #[.int .i64 n,.bool b])) w:=by subst h;exact⟨rfl,rfl⟩
theorem cAh(y m d:Int)(w:World)(hw:PB w):
  Calls Tryz.prog 259 #[.int .i64 y,.int .i64 m,.int .i64 d] w (gO (Dt.tD y m d) w):=by
 by_cases hy:1601<=y/\y<=9999/\1<=m/\m<=12
 ·obtain⟨y1,y2,m1,m2⟩:=hy
  obtain⟨k,hk⟩: ∃k:Nat,m=k:=⟨m.toNat,by omega⟩
  subst hk
  have HM:=zA7 (fun(j:Nat) W hW=>EX y j W hW (by omega))
  have HN:=zA7 (fun W=>eJ y W (by omega) (by omega))
  have hb:=Dt.mK (y:=1601) (z:=y) y1
  have hb2:=Dt.mK (y:=y) (z:=10000) (by omega)
  rw[Dt.dP]at hb
  rw[Dt.before_last]at hb2
  have hlb:=Dt.ZD (Dt.leap y) k
  by_cases d1:1<=d
  ·by_cases d2:d<=Dt.len (Dt.leap y) k
   ·have HR:=zA7 (Dt.cAg (show Dt.Is y k d from⟨y1,y2,m1,m2,d1,d2⟩))
    have HS:=zA7 (fun(j:Nat)(h1:(1:Int)<=j)(h2:(j:Int)<=11)=>Dt.PK (Dt.leap y) h1 h2)
    have HF:=zA7 (Dt.cJ (Dt.leap y))
    have HB:=zA7 (fun(j:Int)=>Dt.CX y (m:=j))
    have HL:=zA7 (fun(j:Nat)=>Dt.ZD (Dt.leap y) j)
    have HD:Hid (Dt.days y k d=Dt.before y-134774+Dt.mon (Dt.leap y) k+d-1):=zA7 rfl
    generalize Dt.days y k d=D at*
    generalize Dt.tD y k d=R at*
    have hYb: -134774<=Dt.before y-134774/\Dt.before y-134774<=3000000:=by omega
    generalize Dt.before y-134774=Y at*
    generalize hlp:Dt.leap y=lp at*
    go_enter Tryz.func259,Tryz.ntmps259
    go_wp2_with (first
     |(go_at_call 281;refine(HM.out k _ hw (by omega) (by omega)).mono ?_;rintro e w' ⟨rfl,rfl⟩)
     |(go_at_call 282;refine(HN.out _).mono ?_;rintro e w' ⟨rfl,rfl⟩))
    go_loop [8,9] (fun s i=> ∃j:Nat,1<=j/\j<=k/\i= .int .i64 j/\s= .int .i64 (Y+(d-1)+Dt.mon lp j)) (fun _ i=>k- (intOf i).toNat)
    case atStart=>exact⟨1,zB3 _,by omega,rfl,dB (by show _=_+Dt.mon lp 1;rw[HF.out];omega)⟩
    case round=>
     obtain⟨j,j1,j2,rfl,rfl⟩:=hrel
     have hmb:=HB.out j (by omega) (by omega)
     have nAm:=HL.out j
     by_cases hlt:j<k
     ·have hs:=HS.out j (by omega) (by omega)
      have kH:=zA7 hs
      clear hs
      generalize Dt.mon lp j=x at*
      have qG:=zA7 (fun W hW=>HM.out j W hW (by omega) (by omega))
      generalize Dt.len lp j=z at*
      go_wp2_with (go_at_call 281;refine(qG.out _ hw).mono ?_;rintro e w' ⟨rfl,rfl⟩)
      go_round
      case rel=>exact⟨j+1,by omega,by omega,by go_num,dB (by show _=_+Dt.mon lp ((j:Int)+1);rw[kH.out];omega)⟩
      case measure=>simp[intOf];omega
     ·have hjk:j=k:=by omega
      subst hjk
      go_wp2
      go_ret2
      exact dM (HR.out.trans (by rw[HD.out];congr 1;omega)) _
   ·have HR:=zA7 (Dt.BP (show ¬Dt.Is y k d from fun h=>d2 h.2.2.2.2.2))
    generalize Dt.tD y k d=R at*
    generalize Dt.before y-134774=Y at*
    have qG:=zA7 (fun W hW=>HM.out k W hW (by omega) (by omega))
    generalize Dt.len (Dt.leap y) k=z at*
    go_enter Tryz.func259,Tryz.ntmps259
    go_wp2_with (go_at_call 281;refine(qG.out _ hw).mono ?_;rintro e w' ⟨rfl,rfl⟩)
    go_ret2
    exact dM HR.out _
  ·have HR:=zA7 (Dt.BP (show ¬Dt.Is y k d from fun h=>d1 h.2.2.2.2.1))
   generalize Dt.tD y k d=R at*
   go_enter Tryz.func259,Tryz.ntmps259
   go_wp2
   go_ret2
   exact dM HR.out _
 ·have HR:=zA7 (Dt.BP (show ¬Dt.Is y m d from fun h=>hy ⟨h.1,h.2.1,h.2.2.1,h.2.2.2.1⟩))
  generalize Dt.tD y m d=R at*
  have hor:y<1601\/(¬y<1601/\(9999:Int)<y)\/(¬y<1601/\ ¬(9999:Int)<y/\m<1)\/(¬y<1601/\ ¬(9999:Int)<y/\ ¬m<1/\(12:Int)<m):=by omega
  clear hy
  rcases hor with h1|⟨h1,h2⟩|⟨h1,h2,h3⟩|⟨h1,h2,h3,h4⟩
  all_goals
   go_enter Tryz.func259,Tryz.ntmps259
   go_wp2
   go_ret2
   exact dM HR.out _
end Go.Proofs.YtdaaoopkkhfbhaaGreatDoor
