/- The walks of monthLength and Days, and of the reference's Length, Is and Days. -/
import Derived.Test.YtabgoobcliijeaaGreatDoorY8
set_option maxHeartbeats 4000000
namespace Go.Proofs.YtabgoobcliijeaaGreatDoor
open Go.RowKit
theorem bA8(y:Int)(m:Nat)(w:World)(hw:mC w)(h1:0<=y)(m1:1<=m)(m2:m<=12):
  Calls Tryz.prog 191 #[.int .i64 y,.int .i64 (m:Int)] w fun e w'=>e= .returned (.int .i64 (Dt.len (Dt.leap y) m))/\w=w':=by
 have HC:=zA7 (fun W=>kAk y W h1)
 have hc:=hw.len m m1 m2
 have hm:((m:Int)-1).toNat=m-1:=by omega
 have HF:Hid (Dt.len (Dt.leap y) m=Dt.len false m+if m=2/\Dt.leap y=true then 1 else 0):=zA7 (by
  have:m=1\/m=2\/m=3\/m=4\/m=5\/m=6\/m=7\/m=8\/m=9\/m=10\/m=11\/m=12:=by omega
  rcases this with rfl|rfl|rfl|rfl|rfl|rfl|rfl|rfl|rfl|rfl|rfl|rfl<;>cases Dt.leap y<;>decide)
 have hb:=Dt.EE false m
 generalize Dt.len (Dt.leap y) m=r at*
 generalize Dt.len false m=n at*
 by_cases k:m=2
 ·subst k
  cases hl:Dt.leap y
  all_goals
   rw[hl]at HC HF
   go_enter Tryz.func191,Tryz.ntmps191
   go_wp2_with (go_at_call 214;refine(HC.out _).mono ?_;rintro e w' ⟨rfl,rfl⟩)
   go_ret
   exact⟨uC (by rw[HF.out];simp),rfl⟩
 ·have k2:((m:Int)==2)=false:=by rw[beq_eq_false_iff_ne];omega
  have HK:=zA7 k
  clear k
  go_enter Tryz.func191,Tryz.ntmps191
  go_wp2
  go_ret
  exact⟨uC (by rw[HF.out,if_neg (fun h=>HK.out h.1)];omega),rfl⟩
theorem ZV(y m:Int)(w:World)(h1:0<=y):
  Calls Tryz.prog 110 #[.int .i64 y,.int .i64 m] w fun e w'=>e= .returned (.int .i64 (Dt.len (Dt.leap y) m))/\w=w':=by
 have HC:=zA7 (fun W=>cAo y W h1)
 have HF:Hid (Dt.len (Dt.leap y) m=if m=4\/m=6\/m=9\/m=11 then 30 else if m=2 then(if Dt.leap y=true then 29 else 28)else 31):=zA7 rfl
 generalize Dt.len (Dt.leap y) m=r at*
 by_cases k:m=4\/m=6\/m=9\/m=11
 ·rcases k with rfl|rfl|rfl|rfl
  all_goals
   go_enter Tryz.func110,Tryz.ntmps110
   go_wp2
   go_ret
   exact⟨uC (by rw[HF.out];simp),rfl⟩
 ·have k4:(m==4)=false:=by rw[beq_eq_false_iff_ne];omega
  have k6:(m==6)=false:=by rw[beq_eq_false_iff_ne];omega
  have k9:(m==9)=false:=by rw[beq_eq_false_iff_ne];omega
  have k11:(m==11)=false:=by rw[beq_eq_false_iff_ne];omega
  have HK:=zA7 k
  clear k
  by_cases k2:m=2
  ·subst k2
   cases hl:Dt.leap y
   all_goals
    rw[hl]at HC HF
    go_enter Tryz.func110,Tryz.ntmps110
    go_wp2_with (go_at_call 147;refine(HC.out _).mono ?_;rintro e w' ⟨rfl,rfl⟩)
    go_ret
    exact⟨uC (by rw[HF.out];simp),rfl⟩
  ·have k2b:(m==2)=false:=by rw[beq_eq_false_iff_ne];omega
   have NO:=zA7 k2
   clear k2
   go_enter Tryz.func110,Tryz.ntmps110
   go_wp2
   go_ret
   exact⟨uC (by rw[HF.out,if_neg HK.out,if_neg NO.out]),rfl⟩
theorem cAn(y m d:Int)(w:World):
  Calls Tryz.prog 84 #[.int .i64 y,.int .i64 m,.int .i64 d] w fun e w'=>e= .returned (.bool (decide (Dt.Is y m d)))/\w=w':=by
 have HD:Hid (decide (Dt.Is y m d)=decide (1601<=y/\y<=9999/\1<=m/\m<=12/\1<=d/\d<=Dt.len (Dt.leap y) m)):=zA7 rfl
 generalize decide (Dt.Is y m d)=r at*
 by_cases k1:(1601:Int)<=y
 ·by_cases k2:y<=(9999:Int)
  ·have HC:=zA7 (fun W=>ZV y m W (by omega))
   generalize Dt.len (Dt.leap y) m=n at*
   by_cases k3:(1:Int)<=m
   ·by_cases k4:m<=(12:Int)
    ·by_cases k5:(1:Int)<=d
     ·by_cases k6:d<=n
      ·have HR:Hid (r=true):=zA7 (by rw[HD.out];exact zA9 ⟨k1,k2,k3,k4,k5,k6⟩)
       go_enter Tryz.func84,Tryz.ntmps84
       go_wp2_with (go_at_call 110;refine(HC.out _).mono ?_;rintro e w' ⟨rfl,rfl⟩)
       go_ret
       exact⟨vA (by rw[HR.out]),rfl⟩
      ·have HR:Hid (r=false):=zA7 (by rw[HD.out];exact zA8 (by omega))
       go_enter Tryz.func84,Tryz.ntmps84
       go_wp2_with (go_at_call 110;refine(HC.out _).mono ?_;rintro e w' ⟨rfl,rfl⟩)
       go_ret
       exact⟨vA (by rw[HR.out];exact zA8 (by omega)),rfl⟩
     ·have HR:Hid (r=false):=zA7 (by rw[HD.out];exact zA8 (by omega))
      go_enter Tryz.func84,Tryz.ntmps84
      go_wp2
      go_ret
      exact⟨vA (by rw[HR.out]),rfl⟩
    ·have HR:Hid (r=false):=zA7 (by rw[HD.out];exact zA8 (by omega))
     go_enter Tryz.func84,Tryz.ntmps84
     go_wp2
     go_ret
     exact⟨vA (by rw[HR.out]),rfl⟩
   ·have HR:Hid (r=false):=zA7 (by rw[HD.out];exact zA8 (by omega))
    go_enter Tryz.func84,Tryz.ntmps84
    go_wp2
    go_ret
    exact⟨vA (by rw[HR.out]),rfl⟩
  ·have HR:Hid (r=false):=zA7 (by rw[HD.out];exact zA8 (by omega))
   go_enter Tryz.func84,Tryz.ntmps84
   go_wp2
   go_ret
   exact⟨vA (by rw[HR.out]),rfl⟩
 ·have HR:Hid (r=false):=zA7 (by rw[HD.out];exact zA8 (by omega))
  go_enter Tryz.func84,Tryz.ntmps84
  go_wp2
  go_ret
  exact⟨vA (by rw[HR.out]),rfl⟩
namespace Dt
def eE(y m d:Int):Int×Bool:=if Is y m d then(days y m d,true)else(0,false)
theorem QP {y m d:Int}(h: ¬Is y m d):eE y m d=(0,false):=if_neg h
theorem LT {y m d:Int}(h:Is y m d):eE y m d=(days y m d,true):=if_pos h
end Dt
def qM(o:Int×Bool)(w:World)(e:Ending)(w':World):Prop:=e= .returned (.tuple #[.int .i64 o.1,.bool o.2])/\w=w'
theorem cL {o:Int×Bool}{n:Int}{b:Bool}(h:o=(n,b))(w:World):qM o w (.returned (.tuple #[.int .i64 n,.bool b])) w:=by subst h;exact⟨rfl,rfl⟩
theorem gAI(y m d:Int)(w:World)(hw:mC w):
  Calls Tryz.prog 211 #[.int .i64 y,.int .i64 m,.int .i64 d] w (qM (Dt.eE y m d) w):=by
 by_cases hy:1601<=y/\y<=9999/\1<=m/\m<=12
 ·obtain⟨y1,y2,m1,m2⟩:=hy
  obtain⟨k,hk⟩: ∃k:Nat,m=k:=⟨m.toNat,by omega⟩
  subst hk
  have HM:=zA7 (fun(j:Nat) W hW=>bA8 y j W hW (by omega))
  have HN:=zA7 (fun W=>KL y W (by omega) (by omega))
  have hb:=Dt.WH (y:=1601) (z:=y) y1
  have hb2:=Dt.WH (y:=y) (z:=10000) (by omega)
  rw[Dt.EJ]at hb
  rw[Dt.before_last]at hb2
  have hlb:=Dt.EE (Dt.leap y) k
  by_cases d1:1<=d
  ·by_cases d2:d<=Dt.len (Dt.leap y) k
   ·have HR:=zA7 (Dt.LT (show Dt.Is y k d from⟨y1,y2,m1,m2,d1,d2⟩))
    have HS:=zA7 (fun(j:Nat)(h1:(1:Int)<=j)(h2:(j:Int)<=11)=>Dt.JL (Dt.leap y) h1 h2)
    have HF:=zA7 (Dt.fK (Dt.leap y))
    have HB:=zA7 (fun(j:Int)=>Dt.UQ y (m:=j))
    have HL:=zA7 (fun(j:Nat)=>Dt.EE (Dt.leap y) j)
    have HD:Hid (Dt.days y k d=Dt.before y-134774+Dt.mon (Dt.leap y) k+d-1):=zA7 rfl
    generalize Dt.days y k d=D at*
    generalize Dt.eE y k d=R at*
    have mU: -134774<=Dt.before y-134774/\Dt.before y-134774<=3000000:=by omega
    generalize Dt.before y-134774=Y at*
    generalize hlp:Dt.leap y=lp at*
    go_enter Tryz.func211,Tryz.ntmps211
    go_wp2_with (first
     |(go_at_call 191;refine(HM.out k _ hw (by omega) (by omega)).mono ?_;rintro e w' ⟨rfl,rfl⟩)
     |(go_at_call 158;refine(HN.out _).mono ?_;rintro e w' ⟨rfl,rfl⟩))
    go_loop [8,9] (fun s i=> ∃j:Nat,1<=j/\j<=k/\i= .int .i64 j/\s= .int .i64 (Y+(d-1)+Dt.mon lp j)) (fun _ i=>k- (intOf i).toNat)
    case atStart=>exact⟨1,zB3 _,by omega,rfl,IA (by show _=_+Dt.mon lp 1;rw[HF.out];omega)⟩
    case round=>
     obtain⟨j,j1,j2,rfl,rfl⟩:=hrel
     have hmb:=HB.out j (by omega) (by omega)
     have jA5:=HL.out j
     by_cases hlt:j<k
     ·have hs:=HS.out j (by omega) (by omega)
      have UM:=zA7 hs
      clear hs
      generalize Dt.mon lp j=x at*
      have xD:=zA7 (fun W hW=>HM.out j W hW (by omega) (by omega))
      generalize Dt.len lp j=z at*
      go_wp2_with (go_at_call 191;refine(xD.out _ hw).mono ?_;rintro e w' ⟨rfl,rfl⟩)
      go_round
      case rel=>exact⟨j+1,by omega,by omega,by go_num,IA (by show _=_+Dt.mon lp ((j:Int)+1);rw[UM.out];omega)⟩
      case measure=>simp[intOf];omega
     ·have hjk:j=k:=by omega
      subst hjk
      go_wp2
      go_ret2
      exact cL (HR.out.trans (by rw[HD.out];congr 1;omega)) _
   ·have HR:=zA7 (Dt.QP (show¬Dt.Is y k d from fun h=>d2 h.2.2.2.2.2))
    generalize Dt.eE y k d=R at*
    generalize Dt.before y-134774=Y at*
    have xD:=zA7 (fun W hW=>HM.out k W hW (by omega) (by omega))
    generalize Dt.len (Dt.leap y) k=z at*
    go_enter Tryz.func211,Tryz.ntmps211
    go_wp2_with (go_at_call 191;refine(xD.out _ hw).mono ?_;rintro e w' ⟨rfl,rfl⟩)
    go_ret2
    exact cL HR.out _
  ·have HR:=zA7 (Dt.QP (show¬Dt.Is y k d from fun h=>d1 h.2.2.2.2.1))
   generalize Dt.eE y k d=R at*
   go_enter Tryz.func211,Tryz.ntmps211
   go_wp2
   go_ret2
   exact cL HR.out _
 ·have HR:=zA7 (Dt.QP (show¬Dt.Is y m d from fun h=>hy ⟨h.1,h.2.1,h.2.2.1,h.2.2.2.1⟩))
  generalize Dt.eE y m d=R at*
  have hor:y<1601\/(¬y<1601/\(9999:Int)<y)\/(¬y<1601/\ ¬(9999:Int)<y/\m<1)\/(¬y<1601/\ ¬(9999:Int)<y/\ ¬m<1/\(12:Int)<m):=by omega
  clear hy
  rcases hor with h1|⟨h1,h2⟩|⟨h1,h2,h3⟩|⟨h1,h2,h3,h4⟩
  all_goals
   go_enter Tryz.func211,Tryz.ntmps211
   go_wp2
   go_ret2
   exact cL HR.out _
theorem XV(y m d:Int)(w:World):
  Calls Tryz.prog 85 #[.int .i64 y,.int .i64 m,.int .i64 d] w (qM (Dt.eE y m d) w):=by
 have HI:=zA7 (fun W=>cAn y m d W)
 by_cases h:Dt.Is y m d
 ·rw[zA9 h]at HI
  have hh:=h
  have HR:=zA7 (Dt.LT h)
  have hlb:=Dt.EE (Dt.leap y) m
  obtain⟨y1,y2,m1,m2,d1,d2⟩:=hh
  obtain⟨k,hk⟩: ∃k:Nat,m=k:=⟨m.toNat,by omega⟩
  obtain⟨n,hn⟩: ∃n:Nat,y=n:=⟨y.toNat,by omega⟩
  subst hk hn
  obtain⟨K,hK⟩: ∃K:Nat,K=if n<=1970 then 1970 else n:=⟨_,rfl⟩
  have hK1:1970<=K:=by rw[hK];split<;>omega
  have hK2:n<=K:=by rw[hK];split<;>omega
  have hK3:K<=9999:=by rw[hK];split<;>omega
  have hK4: ∀j:Nat,1970<=j-> ¬(j:Int)<(n:Int)->j<=K->j=K:=fun j h1 h2 h3=>by rw[hK]at h3⊢;split at h3<;>split<;>omega
  have Y7: ∀j:Nat,n<=j-> ¬(j:Int)<(1970:Int)->j<=K->j=K:=fun j h1 h2 h3=>by rw[hK]at h3⊢;split at h3<;>split<;>omega
  have hK6: ∀j:Nat,j<n->j+1<=K:=fun j h=>by omega
  clear hK
  have HK4:=zA7 hK4
  have HK5:=zA7 Y7
  clear hK4 Y7 hK6
  have HM:=zA7 (fun(j:Nat) W=>ZV n j W (by omega))
  have HY:=zA7 (fun(j:Nat) W=>cAw j W (by omega))
  have HS:=zA7 (fun(j:Nat)(h1:(1:Int)<=j)(h2:(j:Int)<=11)=>Dt.JL (Dt.leap n) h1 h2)
  have HF:=zA7 (Dt.fK (Dt.leap n))
  have HB:=zA7 (fun(j:Int)=>Dt.UQ n (m:=j))
  have HL:=zA7 (fun(j:Nat)=>Dt.EE (Dt.leap n) j)
  have HD:Hid (Dt.days n k d=Dt.before n-134774+Dt.mon (Dt.leap n) k+d-1):=zA7 rfl
  have YM:=zA7 (fun(j:Nat)=>Dt.FJ j)
  have eP:=zA7 (fun(j:Nat)=>Dt.mM j)
  have yI:Hid (∀j:Nat,1601<=j->j<=9999->0<=Dt.before j/\Dt.before j<=3067671):=zA7 (fun j h1 h2=>by
   have a:=Dt.WH (y:=1601) (z:=j) (by omega)
   have b:=Dt.WH (y:=j) (z:=10000) (by omega)
   rw[Dt.EJ]at a
   rw[Dt.before_last]at b
   exact⟨a,b⟩)
  have HB0:=zA7 Dt.fAp
  have hmk:=HB.out k m1 m2
  generalize Dt.days n k d=D at*
  generalize Dt.eE n k d=R at*
  generalize hlp:Dt.leap n=lp at*
  go_enter Tryz.func85,Tryz.ntmps85
  go_wp2_with (go_at_call 84;refine(HI.out _).mono ?_;rintro e w' ⟨rfl,rfl⟩)
  go_loop [8,9] (fun s i=> ∃j:Nat,1<=j/\j<=k/\i= .int .i64 j/\s= .int .i64 (d-1+Dt.mon lp j)) (fun _ i=>k- (intOf i).toNat)
  case atStart=>exact⟨1,zB3 _,by omega,rfl,IA (by show _=_+Dt.mon lp 1;rw[HF.out];omega)⟩
  case round=>
   obtain⟨j,j1,j2,rfl,rfl⟩:=hrel
   have hmb:=HB.out j (by omega) (by omega)
   have jA5:=HL.out j
   by_cases hlt:j<k
   ·have hs:=HS.out j (by omega) (by omega)
    have UM:=zA7 hs
    clear hs
    generalize Dt.mon lp j=x at*
    have xD:=zA7 (fun W=>HM.out j W)
    generalize Dt.len lp j=z at*
    go_wp2_with (go_at_call 110;refine(xD.out _).mono ?_;rintro e w' ⟨rfl,rfl⟩)
    go_round
    case rel=>exact⟨j+1,by omega,by omega,by go_num,IA (by show _=_+Dt.mon lp ((j:Int)+1);rw[UM.out];omega)⟩
    case measure=>simp[intOf];omega
   ·have hjk:j=k:=by omega
    subst hjk
    clear hlt
    generalize hN1:d-1+Dt.mon lp j=N1 at*
    have EN:0<=N1/\N1<=400:=by omega
    have XG:=zA7 hN1
    clear hN1
    go_wp2
    go_loop [8,10] (fun s i=> ∃j:Nat,1970<=j/\j<=K/\i= .int .i64 j/\s= .int .i64 (N1+(Dt.before j-134774))) (fun _ i=>K- (intOf i).toNat)
    case atStart=>exact⟨1970,zB3 _,hK1,rfl,IA (by show _=_+(Dt.before 1970-134774);rw[HB0.out];omega)⟩
    case round=>
     obtain⟨t,t1,t2,rfl,rfl⟩:=hrel
     have htb:=yI.out t (by omega) (by omega)
     have htc:=eP.out t
     by_cases hlt:(t:Int)<(n:Int)
     ·have II:=zA7 (YM.out t)
      have cH:=zA7 (fun W=>HY.out t W)
      generalize Dt.before t=x at*
      generalize Dt.cD t=z at*
      go_wp2_with (go_at_call 111;refine(cH.out _).mono ?_;rintro e w' ⟨rfl,rfl⟩)
      go_round
      case rel=>exact⟨t+1,by omega,by omega,by go_num,IA (by show _=_+(Dt.before ((t:Int)+1)-134774);rw[II.out];omega)⟩
      case measure=>simp[intOf];omega
     ·have htK:=HK4.out t t1 (by omega) t2
      subst htK
      generalize iQ:N1+(Dt.before t-134774)=N2 at*
      have hN4:N2<=4000000/\ -4000000<=N2:=by omega
      have nG:=zA7 iQ
      clear iQ
      go_wp2
      go_loop [8,11] (fun s i=> ∃j:Nat,n<=j/\j<=t/\i= .int .i64 j/\s= .int .i64 (N2- (Dt.before j-Dt.before n))) (fun _ i=>t- (intOf i).toNat)
      case atStart=>exact⟨n,zB3 _,hK2,rfl,IA (by omega)⟩
      case round=>
       obtain⟨u,u1,u2,rfl,rfl⟩:=hrel
       have hub:=yI.out u (by omega) (by omega)
       have rAq:=yI.out n (by omega) (by omega)
       have huc:=eP.out u
       by_cases hlt:(u:Int)<(1970:Int)
       ·have II:=zA7 (YM.out u)
        have cH:=zA7 (fun W=>HY.out u W)
        generalize Dt.before u=x at*
        generalize Dt.before n=xn at*
        generalize Dt.cD u=z at*
        go_wp2_with (go_at_call 111;refine(cH.out _).mono ?_;rintro e w' ⟨rfl,rfl⟩)
        go_round
        case rel=>exact⟨u+1,by omega,by omega,by go_num,IA (by show _=_- (Dt.before ((u:Int)+1)-_);rw[II.out];omega)⟩
        case measure=>simp[intOf];omega
       ·have huK:=HK5.out u u1 (by omega) u2
        subst huK
        go_wp2
        go_ret2
        exact cL (HR.out.trans (by rw[HD.out,<-nG.out,<-XG.out];congr 1;omega)) _
 ·rw[zA8 h]at HI
  have HR:=zA7 (Dt.QP h)
  generalize Dt.eE y m d=R at*
  clear h
  go_enter Tryz.func85,Tryz.ntmps85
  go_wp2_with (go_at_call 84;refine(HI.out _).mono ?_;rintro e w' ⟨rfl,rfl⟩)
  go_ret2
  exact cL HR.out _
end Go.Proofs.YtabgoobcliijeaaGreatDoor
