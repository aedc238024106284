/- The walks of the reference's time and month. -/
import Derived.Test.YtabgoobcliijeaaGreatDoorY12
import Derived.Deep.DeepCutAuto
set_option maxHeartbeats 8000000
set_option maxRecDepth 100000
namespace Go.Proofs.YtabgoobcliijeaaGreatDoor
open Go.RowKit
def yL(n:Nat):Value:= .int .i64 (n:Int)
theorem jAL:(Tryz.prog.info? 3).map (fun i=>(i.zero,i.size,i.bytes))=some (some (.int .i64 0),1,8):=by kernel_rfl
def VK(o:Option (Nat×Nat×Nat))(w:World)(e:Ending)(w':World):Prop:= ∃v,e= .returned (.tuple #[v,.bool o.isSome])/\w'.ownsRow w.heap.size 3 1 v (cE o).length ((cE o).map yL)/\Below w.heap.size w w'
theorem pAg {o:Option (Nat×Nat×Nat)}(h:o=none){w w':World}(hb:Below w.heap.size w w'):VK o w (.returned (.tuple #[.slice none 0 0,.bool false])) w':=by subst h;exact⟨_,rfl,World.ownsRow_nil _ _ _ _,hb⟩
theorem pAh {o:Option (Nat×Nat×Nat)}{ns:List Nat}{v:Value}(h:cE o=ns)(hs:o.isSome=true){w w':World}(hv:w'.ownsRow w.heap.size 3 1 v ns.length (ns.map yL))(hb:Below w.heap.size w w'):VK o w (.returned (.tuple #[v,.bool true])) w':=by
 subst h
 exact⟨v,by rw[hs],hv,hb⟩
namespace Dt
theorem Clock.stop {s r q:List UInt8}{k n:Nat}{ns:List Nat}(h:Clock s k ns r)(hk:k<2)(hn:wC r=some (n,q))(hc:jF q=none):gB s=none:=by
 have h2:=h.more (by omega) hn
 have h0:=PP (a:=1) (b:=2) (show bC r 1 2=some (n,q) from hn) (by omega)
 rcases mO q with⟨u,e,_⟩|⟨_,e⟩
 ·rw[hc]at e;cases e
 ·rw[e]at h2
  exact h2.no (by omega) (BW h0.2.2)
theorem Clock.last {s r q:List UInt8}{n:Nat}{ns:List Nat}(h:Clock s 2 ns r)(hn:wC r=some (n,q)):Clock s 3 (ns++ [n]) q:=by
 have h2:=h.more (by omega) hn
 have h0:=PP (a:=1) (b:=2) (show bC r 1 2=some (n,q) from hn) (by omega)
 have h3:Clock s 3 (ns++ [n]) (skip q):=h2
 obtain⟨a,b,c,e,ht,_⟩:=h3.done
 have hs:=h3.small
 rw[e]at hs⊢
 exact⟨rfl,hs,Nat.le_trans h0.2.1 h.shorter,ht⟩
theorem pAj(r:List UInt8):(wC r=none/\ ¬(1<=lead r/\lead r<=2))\/(wC r=some (Oct.numOf (r.take (lead r)),r.drop (lead r))/\1<=lead r/\lead r<=2):=by
 unfold wC
 by_cases h:1<=lead r/\lead r<=2
 ·rw[if_pos h];exact .inr ⟨rfl,h⟩
 ·rw[if_neg h];exact .inl ⟨rfl,h⟩
end Dt
theorem gA6(q:ByteArray):(q.toList.isEmpty=true/\Dt.jF q.data.toList=none)\/
  (q.toList.isEmpty=false/\ ∃h:0<q.size,((q[0].toNat:Int) !=58)=true/\Dt.jF q.data.toList=none)\/
  (q.toList.isEmpty=false/\ ∃h:0<q.size,((q[0].toNat:Int) !=58)=false/\Dt.skip q.data.toList=q.data.toList.drop 1):=by
 rw[Oct.SA]
 by_cases h:0<q.size
 ·have hc:=List.drop_eq_getElem_cons (l:=q.data.toList) (i:=0) (by rw[Oct.nA];exact h)
  rw[List.drop_zero,Oct.TF q 0 h]at hc
  by_cases TJ:q[0]=58
  ·refine .inr (.inr ⟨by rw[hc];rfl,h,by rw[TJ];rfl,?_⟩)
   rcases Dt.mO q.data.toList with⟨u,e1,e2⟩|⟨e1,_⟩
   ·rw[e2]
    rw[hc,Dt.jF,if_pos TJ]at e1
    rw[hc]
    exact(zB2 e1).symm
   ·rw[hc,Dt.jF,if_pos TJ]at e1
    cases e1
  ·refine .inr (.inl ⟨by rw[hc];rfl,h,?_,?_⟩)
   ·rw[bne_iff_ne]
    intro e
    exact TJ (Oct.mB (by show _=58;omega))
   ·rw[hc,Dt.jF,if_neg TJ]
 ·have hn:q.data.toList= []:=(Oct.UC q).2 (by omega)
  exact .inl ⟨by rw[hn];rfl,by rw[hn];rfl⟩
theorem cAm(r:ByteArray)(h2:Dt.lead r.data.toList<=4)(w:World):
  Calls Tryz.prog 82 #[.string (r.extract 0 (Dt.lead r.data.toList))] w fun e w'=>e= .returned (.int .i64 (Oct.numOf (r.data.toList.take (Dt.lead r.data.toList)):Nat))/\w=w':=by
 have hl:=Dt.WI r.data.toList
 rw[Oct.nA]at hl
 have hd:(r.extract 0 (Dt.lead r.data.toList)).data.toList=r.data.toList.take (Dt.lead r.data.toList):=by rw[Lib.extract_data,List.drop_zero,Nat.sub_zero]
 have hs:(r.extract 0 (Dt.lead r.data.toList)).size=Dt.lead r.data.toList:=by rw[ByteArray.size_extract];omega
 have:=nA7 (r.extract 0 (Dt.lead r.data.toList)) w (fun k hk=>by
  rw[hs]at hk
  obtain⟨hk2,b1,b2⟩:=Dt.aV hk
  have e:(r.extract 0 (Dt.lead r.data.toList))[k]=r[k]:=by
   rw[ByteArray.getElem_extract]
   congr 1
   omega
  rw[e]
  exact⟨b1,b2⟩) (by rw[hs];exact h2)
 rw[hd]at this
 exact this
theorem nA3(s:ByteArray)(w:World)(hs:s.size<=maxLen):Calls Tryz.prog 81 #[.string s] w (VK (Dt.gB s.data.toList) w):=by
 have fD:=zA7 (fun(h:Dt.gB s.data.toList=none) w' (hb:Below w.heap.size w w')=>pAg h hb)
 have xC:Hid (∀a b c v w',Dt.gB s.data.toList=some (a,b,c)->w'.ownsRow w.heap.size 3 1 v 3 ([a,b,c].map yL)->Below w.heap.size w w'->VK (Dt.gB s.data.toList) w (.returned (.tuple #[v,.bool true])) w'):=zA7 (fun a b c v w' h hv hb=>pAh (ns:= [a,b,c]) (by rw[h];rfl) (by rw[h];rfl) hv hb)
 generalize hpost:VK (Dt.gB s.data.toList) w=post at*
 clear hpost
 have LS:=zA7 (Dt.Clock.start s.data.toList)
 have hsl:=Oct.nA s
 have HS:=zA7 hs
 clear hs
 obtain⟨i0,hi,hz0,hz1,hz2⟩:=info_parts jAL
 go_enter Tryz.func81,Tryz.ntmps81
 go_wp2
 have O0:(w.alloc (.cells #[] 3)).ownsRow w.heap.size 3 1 (.slice (some ⟨w.heap.size,0,none⟩) 0 0) 0 []:=World.ownsRow_made w #[] 0 (zB3 _) (Nat.zero_le _) rfl
 have B0:=(Below.refl w.heap.size w).alloc (zB3 _) (.cells #[] 3)
 go_loopw [0,4,5] (fun sv v i wr=> ∃(k:Nat)(ns:List Nat)(r:ByteArray),k<=3/\sv= .string r/\i= .int .i64 k/\Dt.Clock s.data.toList k ns r.data.toList/\wr.ownsRow w.heap.size 3 1 v ns.length (ns.map yL)/\Below w.heap.size w wr) (fun _ _ i _=>3- (intOf i).toNat)
 case atStart=>exact⟨0,[],s,Nat.zero_le _,rfl,rfl,LS.out,O0,B0⟩
 case round=>
  clear O0 B0
  obtain⟨k,ns,r,hk,rfl,rfl,hcl,hown,hb⟩:=hrel
  have hrl:=hcl.shorter
  have UF:=hcl.few
  rw[Oct.nA,hsl]at hrl
  have KE:=zA7 hcl
  clear hcl
  by_cases hlt:k<3
  ·have hrm:r.size<=maxLen:=Nat.le_trans hrl HS.out
   have HD:=zA7 (fun W=>cAi r W hrm)
   have hll:=Dt.WI r.data.toList
   rw[Oct.nA]at hll
   rcases Dt.pAj r.data.toList with⟨ht,hno⟩|⟨ht,h1,h2⟩
   ·have HR:=zA7 (fD.out (KE.out.no hlt ht) wr hb)
    have hor:(Dt.lead r.data.toList:Int)<1\/(¬(Dt.lead r.data.toList:Int)<1/\(2:Int)<(Dt.lead r.data.toList:Int)):=by omega
    generalize Dt.lead r.data.toList=L at*
    clear ht hno hrm KE hown
    rcases hor with k1|⟨k1,k2⟩
    all_goals
     go_wp2_with (go_at_call 80;refine(HD.out _).mono ?_;rintro e w' ⟨rfl,rfl⟩)
     first|exact HR.out|(go_ret2;exact HR.out)
   ·have HV:=zA7 (fun W=>cAm r (by omega) W)
    have hdrop:(r.extract (Dt.lead r.data.toList) r.size).data.toList=r.data.toList.drop (Dt.lead r.data.toList):=Lib.extract_to_end r _
    obtain⟨q,hq⟩: ∃q,r.extract (Dt.lead r.data.toList) r.size=q:=⟨_,rfl⟩
    obtain⟨n,hn⟩: ∃n,Oct.numOf (r.data.toList.take (Dt.lead r.data.toList))=n:=⟨_,rfl⟩
    rw[hq]at hdrop
    rw[<-hdrop,hn]at ht
    rw[hn]at HV
    have HT:=zA7 ht
    have hqs:q.size<=r.size:=by rw[<-hq,ByteArray.size_extract];omega
    have k1: ¬(Dt.lead r.data.toList:Int)<1:=by omega
    have k2: ¬(2:Int)<(Dt.lead r.data.toList:Int):=by omega
    generalize Dt.lead r.data.toList=L at*
    have kL:L<=r.size:=hll
    clear ht hdrop hn h1 h2 hrm
    go_wp2_with (first
     |(go_at_call 80;refine(HD.out _).mono ?_;rintro e w' ⟨rfl,rfl⟩)
     |(go_at_call 82;refine(HV.out _).mono ?_;rintro e w' ⟨rfl,rfl⟩)
     |(at_builtin;refine wpList_append_own _ rfl _ _ 112 rfl w.heap.size 3 i0 (.int .i64 0) 1 8 Tryz.underlying112 hi hz0 hz1 hz2 rfl (by decide) _ _ _ rfl (hown.alloc _) ⟨wr.heap.size,0,none⟩ 1 1 [.int .i64 (n:Int)] rfl rfl (cell_one_new _ _ _) ?c1a ?JJ ?KJ ?XH ?_))
    case c1a=>intro u hu;simp at hu;subst hu;rfl
    case JJ=>simp only[maxLen];omega
    case KJ=>omega
    case XH=>have:=hb.size;simp;omega
    intro v' w5 hown' hgrow _
    have R:w5.ownsRow w.heap.size 3 1 v' (ns++ [n]).length ((ns++ [n]).map yL):=by rw[zB4,List.map_append,UF];exact hown'
    have B:=hb.trans (((Below.refl _ wr).alloc hb.size (.cells #[.int .i64 (n:Int)] 3)).grown hgrow (by have:=hb.size;simp;omega) (fun g hg=>(hown.lt g hg).1))
    clear hown' hgrow hown
    by_cases hk2:k<2
    ·have jA2:(k:Int)<2:=by omega
     rcases gA6 q with⟨c1,c2⟩|⟨c1,c0,c3,c2⟩|⟨c1,c0,c3,c2⟩
     ·have HR:=zA7 (fD.out (KE.out.stop hk2 HT.out c2) w5 B)
      clear c2 hb
      go_wp2
      first|exact HR.out|(go_ret2;exact HR.out)
     ·have HR:=zA7 (fD.out (KE.out.stop hk2 HT.out c2) w5 B)
      clear c2 hb
      go_wp2
      first|exact HR.out|(go_ret2;exact HR.out)
     ·have HM:=KE.out.more hlt HT.out
      rw[c2,<-Lib.extract_to_end q 1]at HM
      have HMH:=zA7 HM
      clear HM c2 hb
      go_wp2
      go_roundw
      case rel=>exact⟨k+1,ns++ [n],q.extract 1 q.size,by omega,rfl,by go_num,HMH.out,R,B⟩
      case measure=>simp[intOf];omega
    ·have jA2: ¬(k:Int)<2:=by omega
     have hkk:k=2:=by omega
     subst hkk
     have HM:=zA7 (KE.out.last HT.out)
     clear hb
     go_wp2
     go_roundw
     case rel=>exact⟨3,ns++ [n],q,by omega,rfl,by go_num,HM.out,R,B⟩
     case measure=>simp[intOf]
  ·have hk3:k=3:=by omega
   subst hk3
   obtain⟨a,b,c,rfl,ht,_,_,_⟩:=KE.out.done
   have HY:=zA7 (xC.out a b c _ wr ht hown hb)
   clear ht KE hown
   go_wp2
   first|exact HY.out|(go_ret2;exact HY.out)
end Go.Proofs.YtabgoobcliijeaaGreatDoor
