/- The walks of the reference's Right, decimal and Text of URLs. -/
import Derived.Test.YtabgoobcliijeaaGreatDoorY27
set_option maxHeartbeats 4000000
set_option maxRecDepth 100000
namespace Go.Proofs.YtabgoobcliijeaaGreatDoor
open Go.RowKit
theorem pR(u:Ur.URL)(ha:u.host.addr.length=16)(hn:u.host.name.length<=2900)(hpz:u.path.length<=1048576)(w:World):
  Calls Tryz.prog 29 #[.agg (pA u)] w fun e w'=>e= .returned (.bool (Ur.right u))/\Below w.heap.size w w':=by
 have H1:=zA7 (fun W=>aW u.host ha hn W)
 have HU:=zA7 (aC u ha)
 have HH:=zA7 (gG u ha)
 obtain⟨p,hp⟩: ∃p:ByteArray,p=⟨u.path.toArray⟩:=⟨_,rfl⟩
 have hpl:p.data.toList=u.path:=by rw[hp]
 have H2:=fun W=>cAr p W (by unfold maxLen;rw[<-Oct.nA,hpl];omega)
 rw[hpl]at H2
 have H2:=zA7 H2
 have YR:=zA7 (NR u ha)
 have ZR:=zA7 (YY ha hp)
 have hr:Ur.right u=(dA.can u.host&& (decide (1<=u.port/\u.port<=65535)&&Ur.EC u.path)):=rfl
 have HR:=zA7 hr
 have R0:=Row.new w 33 (pA u)
 have B0:=(Below.refl w.heap.size w).alloc (zB3 _) (.cells (pA u) 33)
 clear hp hpl hr
 generalize fA u.host=X at*
 generalize pA u=U at*
 generalize Ur.EC u.path=q at*
 generalize dA.can u.host=b at*
 rw[HR.out]
 clear HR
 generalize u.port=n at*
 go_enter Tryz.func29,Tryz.ntmps29
 go_wp2_with (refine iA 4 rfl ?_;refine QC rfl 31 _ rfl w.heap.size 1 18 rfl R0 Tryz.underlying31 rfl tA (by rw[HU.out];decide) X HH.out ?_)
 generalize w.alloc (.cells U 33)=w0 at*
 refine(H1.out _).mono ?_
 rintro e v1 ⟨rfl,d1⟩
 have R1:=R0.stays d1
 have B1:=B0.trans (d1.mono B0.size)
 have c19:=(R1.cell 19).trans YR.out
 have c20:=(R1.cell 20).trans ZR.out
 clear R0 B0 d1
 cases b with
 |false=>
  go_wp2
  go_ret
  exact⟨rfl,B1⟩
 |true=>
  by_cases h1:1<=n
  ·by_cases h2:n<=65535
   ·go_wp2_with (go_at_call 46;refine(H2.out _).mono ?_;rintro e v2 ⟨rfl,rfl⟩)
    go_ret
    exact⟨vA (by rw[zA9 (show 1<=n/\n<=65535 from⟨h1,h2⟩)];rfl),B1⟩
   ·go_wp2
    go_ret
    exact⟨vA (by rw[zA8 (show¬n<=65535 by omega)];simp),B1⟩
  ·go_wp2
   go_ret
   exact⟨vA (by rw[zA8 (show¬1<=n by omega)];simp),B1⟩
end Go.Proofs.YtabgoobcliijeaaGreatDoor
