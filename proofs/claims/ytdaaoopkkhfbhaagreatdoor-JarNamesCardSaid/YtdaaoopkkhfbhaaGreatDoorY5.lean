/- The walk of rule's Line. -/
import Derived.Test.YtdaaoopkkhfbhaaGreatDoorY4
import Derived.Laws.Concat
set_option maxHeartbeats 8000000
set_option maxRecDepth 100000
namespace Go.Proofs.YtdaaoopkkhfbhaaGreatDoor
open Go.RowKit
namespace Ru
theorem jAx(t:List UInt8):(rest t).length<=t.length:=by
 unfold rest
 split
 ·rename_i h;have:=Y1 h;omega
 ·split
  ·rename_i h;have:=Y1 h;omega
  ·exact zB3 _
theorem hAc {k:Int}{n:List UInt8}(h:bA.parse n=none):named k n=none:=by unfold named;rw[h]
theorem hAb {k:Int}{n:List UInt8}{x:bA.Host}(h:bA.parse n=some x)(hk:x.kind≠1):named k n=none:=by
 unfold named
 rw[h]
 dsimp only
 rw[if_neg (fun e=>hk e.1)]
theorem hAa {k:Int}{n:List UInt8}{x:bA.Host}(h:bA.parse n=some x)(h3:k=3)(hl:(bA.labels x).length<2):named k n=none:=by
 unfold named
 rw[h]
 dsimp only
 rw[if_neg (fun e=>by have:=e.2 h3;omega)]
theorem LX {k:Int}{n:List UInt8}{x:bA.Host}(h:bA.parse n=some x)(hk:x.kind=1)(hl:k=3->2<=(bA.labels x).length):named k n=some ⟨k,x.name⟩:=by
 unfold named
 rw[h]
 dsimp only
 rw[if_pos ⟨hk,hl⟩]
end Ru
theorem gAk(s:ByteArray)(w:World)(hw:Std w)(hs:s.size<=1048576):
  Calls Tryz.prog 43 #[.string s] w (LL (Ru.line s.data.toList) w):=by
 have z0:=jS
 have z1:=WD
 have H1:=zA7 (fun W=>OR s W (by unfold maxLen;omega))
 have htl:=Ru.lAD s.data.toList
 rw[Oct.oA]at htl
 obtain⟨t,ht⟩: ∃t:ByteArray,t=⟨(Oct.trim s.data.toList).toArray⟩:=⟨_,rfl⟩
 have htd:Oct.trim s.data.toList=t.data.toList:=by rw[ht]
 have hts:t.size<=s.size:=by rw[<-Oct.oA t,<-htd];exact htl
 rw[<-ht]at H1
 have GA:Hid (∀o w',Ru.line s.data.toList=o->Below w.heap.size w w'->LL (Ru.line s.data.toList) w (.returned (.tuple #[.agg (qA o.2.2),.bool o.2.1,.int .i64 o.1])) w'):=zA7 (fun o w' h hb=>by subst h;exact⟨rfl,hb⟩)
 have HL:Hid (Ru.line s.data.toList=if Ru.mute t.data.toList=true then(0,false,Ru.zero)else Ru.said (Ru.rule t.data.toList)):=zA7 (by unfold Ru.line;rw[htd])
 generalize LL (Ru.line s.data.toList) w=post at*
 generalize Ru.line s.data.toList=res at*
 clear ht htd htl
 by_cases he:t.data.toList= []
 ·have HR:Hid (res=(0,false,Ru.zero)):=zA7 (by rw[HL.out,if_pos (by unfold Ru.mute;rw[zA9 he];rfl)])
  have he2:t.toList.isEmpty=true:=by rw[Oct.aB,he];rfl
  clear he HL
  go_enter Tryz.func43,Tryz.ntmps43
  go_wp2_with fail
  have R0:=Row.new w 78 (qA Ru.zero)
  have B0:=(Below.refl w.heap.size w).alloc (zB3 _) (.cells (qA Ru.zero) 78)
  generalize w.alloc (.cells (qA Ru.zero) 78)=w0 at*
  refine(H1.out _).mono ?_
  rintro e v1 ⟨rfl,rfl⟩
  go_wp2_with (first
   |(refine wpList_store_row rfl 78 _ _ rfl w.heap.size (qA Ru.zero) rfl rfl 78 _ R0 oC rfl (GE _) ?_))
  exact bodyPost_ret (v:= .tuple #[.agg (qA Ru.zero),.bool false,.int .i64 0]) (mD rfl _ _ w.heap.size _ _ _ rfl _ _ rfl rfl (R0.whole _) Tryz.underlying78 rfl oC) rfl (GA.out _ _ HR.out (below_setRow B0 (zB3 _) _))
 have he2:t.toList.isEmpty=false:=by
  rw[Oct.aB]
  cases e:t.data.toList with
  |nil=>exact absurd e he
  |cons c r=>rfl
 have H2:=zA7 (fun W=>Tryz.strings_HasPrefix t ⟨#[47,47]⟩ W)
 have e1:(⟨#[47,47]⟩:ByteArray).data.toList= [47,47]:=rfl
 rw[e1]at H2
 clear e1
 have HM:Hid (Ru.mute t.data.toList=Lib.hasPrefix t.data.toList [47,47]):=zA7 (by unfold Ru.mute;rw[zA8 he];rfl)
 clear he
 cases hpre:Lib.hasPrefix t.data.toList [47,47]with
 |true=>
  rw[hpre]at H2
  have HR:Hid (res=(0,false,Ru.zero)):=zA7 (by rw[HL.out,HM.out,hpre,if_pos rfl])
  clear hpre HL HM
  go_enter Tryz.func43,Tryz.ntmps43
  go_wp2_with fail
  have R0:=Row.new w 78 (qA Ru.zero)
  have B0:=(Below.refl w.heap.size w).alloc (zB3 _) (.cells (qA Ru.zero) 78)
  generalize w.alloc (.cells (qA Ru.zero) 78)=w0 at*
  refine(H1.out _).mono ?_
  rintro e v1 ⟨rfl,rfl⟩
  go_wp2_with (first
   |(go_at_call 82;refine(H2.out _).mono ?_;rintro e w' ⟨rfl,hq⟩;rw[hq])
   |(refine wpList_store_row rfl 78 _ _ rfl w.heap.size (qA Ru.zero) rfl rfl 78 _ R0 oC rfl (GE _) ?_))
  exact bodyPost_ret (v:= .tuple #[.agg (qA Ru.zero),.bool false,.int .i64 0]) (mD rfl _ _ w.heap.size _ _ _ rfl _ _ rfl rfl (R0.whole _) Tryz.underlying78 rfl oC) rfl (GA.out _ _ HR.out (below_setRow B0 (zB3 _) _))
 |false=>
  rw[hpre]at H2
  have HQ:Hid (res=Ru.said (Ru.rule t.data.toList)):=zA7 (by rw[HL.out,HM.out,hpre,if_neg (by simp)])
  clear hpre HL HM
  have H3:=zA7 (fun W=>dAj t W (by omega))
  obtain⟨f,hf⟩: ∃f:ByteArray,f=⟨(Ru.first t.data.toList).toArray⟩:=⟨_,rfl⟩
  have cQ:Ru.first t.data.toList=f.data.toList:=by rw[hf]
  have hfs:f.size<=t.size:=by rw[<-Oct.oA f,<-cQ,<-Oct.oA t];exact Ru.dAl _
  unfold VC at H3
  rw[<-hf]at H3
  have H4:=zA7 (fun W=>gAE f W)
  obtain⟨n,hn⟩: ∃n:ByteArray,n=⟨(Ru.rest f.data.toList).toArray⟩:=⟨_,rfl⟩
  have hnd:Ru.rest f.data.toList=n.data.toList:=by rw[hn]
  have hns:n.size<=f.size:=by rw[<-Oct.oA n,<-hnd,<-Oct.oA f];exact Ru.jAx _
  rw[<-hn]at H4
  have kD:Hid (res=Ru.said (Ru.named (Ru.kind f.data.toList) n.data.toList)):=zA7 (by rw[HQ.out];unfold Ru.rule;rw[cQ,hnd])
  clear HQ hf cQ hn hnd
  generalize Ru.kind f.data.toList=K at*
  have H5:=zA7 (fun W h=>(oN n W h (by omega)).mono fun e w' h=>dJ h)
  have hx:=bA.XH n.data.toList
  cases hp:bA.parse n.data.toList with
  |none=>
   rw[hp]at H5
   have HR:Hid (res=(51,false,Ru.zero)):=zA7 (by rw[kD.out,Ru.hAc hp];rfl)
   have e2:bA.host none=bA.zero:=rfl
   have e3:bA.code none=31:=rfl
   rw[e2,e3]at H5
   clear hp kD hx e2 e3
   have HX:=zA7 (show(cA bA.zero).size=18 from rfl)
   go_enter Tryz.func43,Tryz.ntmps43
   go_wp2_with fail
   have R0:=Row.new w 78 (qA Ru.zero)
   have B0:=(Below.refl w.heap.size w).alloc (zB3 _) (.cells (qA Ru.zero) 78)
   generalize w.alloc (.cells (qA Ru.zero) 78)=w0 at*
   refine(H1.out _).mono ?_
   rintro e v1 ⟨rfl,rfl⟩
   go_wp2_with fail
   refine(H2.out _).mono ?_
   rintro e v2 ⟨rfl,hq⟩
   rw[hq]
   clear hq
   go_wp2_with fail
   refine(H3.out _).mono ?_
   rintro e v3 ⟨rfl,d3⟩
   have R1:=R0.stays d3
   have B1:=B0.trans (d3.mono B0.size)
   clear R0 B0 d3
   go_wp2_with fail
   refine(H4.out _).mono ?_
   rintro e v4 ⟨rfl,rfl⟩
   go_wp2_with fail
   refine(H5.out _ (hw.below B1)).mono ?_
   rintro e v5 ⟨rfl,d5⟩
   have R2:=R1.stays d5
   have B2:=B1.trans (d5.mono B1.size)
   obtain⟨T,U,C,L⟩:=PA 32 (cA bA.zero) (cA bA.zero) B2 B2.size
   have R3:=L _ _ _ R2
   clear R1 B1 R2 B2 d5 L
   go_wp2_with (first
    |(refine wpList_store_row rfl 32 _ _ rfl v5.heap.size (cA bA.zero) rfl rfl 32 _ T (by rw[HX.out];exact mA) rfl (bB _) ?_)
    |(refine wpList_store_row rfl 78 _ _ rfl w.heap.size (qA Ru.zero) rfl rfl 78 _ R3 oC rfl (GE _) ?_))
   exact bodyPost_ret (v:= .tuple #[.agg (qA Ru.zero),.bool false,.int .i64 51]) (mD rfl _ _ w.heap.size _ _ _ rfl _ _ rfl rfl (R3.whole _) Tryz.underlying78 rfl oC) rfl (GA.out _ _ HR.out (below_setRow C (zB3 _) _))
  |some x=>
   rw[hp]at H5 hx
   have e2:bA.host (some x)=x:=rfl
   have e3:bA.code (some x)=0:=rfl
   rw[e2,e3]at H5
   rw[e2]at hx
   have HX:=zA7 (XA x hx)
   have lB:=zA7 (bB x)
   have hK:(cA x)[0]? =some (.int .i64 x.kind):=EK x
   have hN:(cA x)[1]? =some (gA x.name):=FM x
   by_cases hk:x.kind=1
   ·have hxn:x.name.length<=1048576:=by have:=(bA.mJ hp hk).2.2;rw[Oct.oA]at this;omega
    have H6:=zA7 (fun W h=>ZI x hx hxn W h)
    unfold OD at H6
    obtain⟨u,hu⟩: ∃u:ByteArray,u=⟨x.name.toArray⟩:=⟨_,rfl⟩
    have hsu:gA x.name= .string u:=by rw[hu];rfl
    rw[hsu]at hN
    have AB:x.name=u.data.toList:=by rw[hu]
    by_cases h3:K=3
    ·have h31:(K==3)=true:=by simpa using h3
     by_cases hl:(bA.labels x).length<2
     ·have HR:Hid (res=(51,false,Ru.zero)):=zA7 (by rw[kD.out,Ru.hAa hp h3 hl];rfl)
      generalize bA.labels x=ps at*
      have hl1:((ps.length:Int)<2):=by omega
      rw[hk]at hK
      clear hp kD hx e2 e3 h3 hl hk hxn AB hsu hu
      generalize cA x=X at*
      go_enter Tryz.func43,Tryz.ntmps43
      go_wp2_with fail
      have R0:=Row.new w 78 (qA Ru.zero)
      have B0:=(Below.refl w.heap.size w).alloc (zB3 _) (.cells (qA Ru.zero) 78)
      generalize w.alloc (.cells (qA Ru.zero) 78)=w0 at*
      refine(H1.out _).mono ?_
      rintro e v1 ⟨rfl,rfl⟩
      go_wp2_with fail
      refine(H2.out _).mono ?_
      rintro e v2 ⟨rfl,hq⟩
      rw[hq]
      clear hq
      go_wp2_with fail
      refine(H3.out _).mono ?_
      rintro e v3 ⟨rfl,d3⟩
      have R1:=R0.stays d3
      have B1:=B0.trans (d3.mono B0.size)
      clear R0 B0 d3
      go_wp2_with fail
      refine(H4.out _).mono ?_
      rintro e v4 ⟨rfl,rfl⟩
      go_wp2_with fail
      refine(H5.out _ (hw.below B1)).mono ?_
      rintro e v5 ⟨rfl,d5⟩
      have R2:=R1.stays d5
      have B2:=B1.trans (d5.mono B1.size)
      obtain⟨T,U,C,L⟩:=PA 32 (cA bA.zero) X B2 B2.size
      have R3:=L _ _ _ R2
      have c0:=(U.cell 0).trans hK
      clear R1 B1 R2 B2 d5 L
      go_wp2_with (first
       |(refine wpList_store_row rfl 32 _ _ rfl v5.heap.size X rfl rfl 32 _ T (by rw[HX.out];exact mA) (by rw[HX.out];rfl) lB.out ?_)
       |(refine jA 41 rfl ?_;refine pA rfl 32 _ rfl v5.heap.size rfl U Tryz.underlying32 rfl (by rw[HX.out];exact mA) ?_))
      refine(H6.out _ (hw.below C)).mono ?_
      rintro e v6 ⟨lv,rfl,hown,d6⟩
      obtain⟨LA,lc,rfl,_⟩:=mN hown
      have R4:=R3.stays d6
      have C2:=C.trans (d6.mono C.size)
      clear hown c0 U T d6 R3 C
      go_wp2_with (first
       |(refine wpList_store_row rfl 78 _ _ rfl w.heap.size (qA Ru.zero) rfl rfl 78 _ R4 oC rfl (GE _) ?_))
      exact bodyPost_ret (v:= .tuple #[.agg (qA Ru.zero),.bool false,.int .i64 51]) (mD rfl _ _ w.heap.size _ _ _ rfl _ _ rfl rfl (R4.whole _) Tryz.underlying78 rfl oC) rfl (GA.out _ _ HR.out (below_setRow C2 (zB3 _) _))
     ·have HR:Hid (res=(0,true,⟨K,u.data.toList⟩)):=zA7 (by rw[kD.out,Ru.LX hp hk (fun _=>by omega),AB];rfl)
      have HB:=zA7 (PT K u)
      have HB1:=zA7 (kZ ⟨K,u.data.toList⟩)
      have HB2:=zA7 (GE ⟨K,u.data.toList⟩)
      generalize bA.labels x=ps at*
      have hl1: ¬((ps.length:Int)<2):=by omega
      rw[hk]at hK
      clear hp kD hx e2 e3 h3 hl hk hxn AB hsu hu
      generalize cA x=X at*
      generalize hY:qA ⟨K,u.data.toList⟩=Y at*
      have HY:=zA7 hY
      clear hY
      go_enter Tryz.func43,Tryz.ntmps43
      go_wp2_with fail
      have R0:=Row.new w 78 (qA Ru.zero)
      have B0:=(Below.refl w.heap.size w).alloc (zB3 _) (.cells (qA Ru.zero) 78)
      generalize w.alloc (.cells (qA Ru.zero) 78)=w0 at*
      refine(H1.out _).mono ?_
      rintro e v1 ⟨rfl,rfl⟩
      go_wp2_with fail
      refine(H2.out _).mono ?_
      rintro e v2 ⟨rfl,hq⟩
      rw[hq]
      clear hq
      go_wp2_with fail
      refine(H3.out _).mono ?_
      rintro e v3 ⟨rfl,d3⟩
      have R1:=R0.stays d3
      have B1:=B0.trans (d3.mono B0.size)
      clear R0 B0 d3
      go_wp2_with fail
      refine(H4.out _).mono ?_
      rintro e v4 ⟨rfl,rfl⟩
      go_wp2_with fail
      refine(H5.out _ (hw.below B1)).mono ?_
      rintro e v5 ⟨rfl,d5⟩
      have R2:=R1.stays d5
      have B2:=B1.trans (d5.mono B1.size)
      obtain⟨T,U,C,L⟩:=PA 32 (cA bA.zero) X B2 B2.size
      have R3:=L _ _ _ R2
      have c0:=(U.cell 0).trans hK
      clear R1 B1 R2 B2 d5 L
      go_wp2_with (first
       |(refine wpList_store_row rfl 32 _ _ rfl v5.heap.size X rfl rfl 32 _ T (by rw[HX.out];exact mA) (by rw[HX.out];rfl) lB.out ?_)
       |(refine jA 41 rfl ?_;refine pA rfl 32 _ rfl v5.heap.size rfl U Tryz.underlying32 rfl (by rw[HX.out];exact mA) ?_))
      refine(H6.out _ (hw.below C)).mono ?_
      rintro e v6 ⟨lv,rfl,hown,d6⟩
      obtain⟨LA,lc,rfl,_⟩:=mN hown
      have R4:=R3.stays d6
      have U4:=U.stays d6
      have c1:=(U4.cell 1).trans hN
      have C2:=C.trans (d6.mono C.size)
      clear hown c0 U T d6 R3 C
      generalize v5.heap.size=g5 at*
      go_wp2_with (first
       |(refine jA 50 rfl ?_;refine YD rfl 78 0 1 _ _ rfl _ _ rfl rfl Y HB.out ?_)
       |(refine wpList_store_row rfl 78 _ _ rfl w.heap.size Y rfl rfl 78 _ R4 (by rw[HB1.out];exact oC) (by rw[HB1.out];rfl) HB2.out ?_))
      exact bodyPost_ret (v:= .tuple #[.agg Y,.bool true,.int .i64 0]) (mD rfl _ _ w.heap.size _ _ _ rfl _ _ rfl rfl (R4.whole _) Tryz.underlying78 rfl (by rw[HB1.out];exact oC)) rfl (by rw[<-HY.out];exact GA.out _ _ HR.out (below_setRow C2 (zB3 _) _))
    ·have h31:(K==3)=false:=by simpa using h3
     have HR:Hid (res=(0,true,⟨K,u.data.toList⟩)):=zA7 (by rw[kD.out,Ru.LX hp hk (fun e=>absurd e h3),AB];rfl)
     have HB:=zA7 (PT K u)
     have HB1:=zA7 (kZ ⟨K,u.data.toList⟩)
     have HB2:=zA7 (GE ⟨K,u.data.toList⟩)
     rw[hk]at hK
     clear hp kD hx e2 e3 h3 hk hxn AB hsu hu H6
     generalize cA x=X at*
     generalize hY:qA ⟨K,u.data.toList⟩=Y at*
     have HY:=zA7 hY
     clear hY
     go_enter Tryz.func43,Tryz.ntmps43
     go_wp2_with fail
     have R0:=Row.new w 78 (qA Ru.zero)
     have B0:=(Below.refl w.heap.size w).alloc (zB3 _) (.cells (qA Ru.zero) 78)
     generalize w.alloc (.cells (qA Ru.zero) 78)=w0 at*
     refine(H1.out _).mono ?_
     rintro e v1 ⟨rfl,rfl⟩
     go_wp2_with fail
     refine(H2.out _).mono ?_
     rintro e v2 ⟨rfl,hq⟩
     rw[hq]
     clear hq
     go_wp2_with fail
     refine(H3.out _).mono ?_
     rintro e v3 ⟨rfl,d3⟩
     have R1:=R0.stays d3
     have B1:=B0.trans (d3.mono B0.size)
     clear R0 B0 d3
     go_wp2_with fail
     refine(H4.out _).mono ?_
     rintro e v4 ⟨rfl,rfl⟩
     go_wp2_with fail
     refine(H5.out _ (hw.below B1)).mono ?_
     rintro e v5 ⟨rfl,d5⟩
     have R2:=R1.stays d5
     have B2:=B1.trans (d5.mono B1.size)
     obtain⟨T,U,C,L⟩:=PA 32 (cA bA.zero) X B2 B2.size
     have R3:=L _ _ _ R2
     have c0:=(U.cell 0).trans hK
     have c1:=(U.cell 1).trans hN
     clear R1 B1 R2 B2 d5 L
     go_wp2_with (first
      |(refine wpList_store_row rfl 32 _ _ rfl v5.heap.size X rfl rfl 32 _ T (by rw[HX.out];exact mA) (by rw[HX.out];rfl) lB.out ?_)
      |(refine jA 50 rfl ?_;refine YD rfl 78 0 1 _ _ rfl _ _ rfl rfl Y HB.out ?_)
      |(refine wpList_store_row rfl 78 _ _ rfl w.heap.size Y rfl rfl 78 _ R3 (by rw[HB1.out];exact oC) (by rw[HB1.out];rfl) HB2.out ?_))
     exact bodyPost_ret (v:= .tuple #[.agg Y,.bool true,.int .i64 0]) (mD rfl _ _ w.heap.size _ _ _ rfl _ _ rfl rfl (R3.whole _) Tryz.underlying78 rfl (by rw[HB1.out];exact oC)) rfl (by rw[<-HY.out];exact GA.out _ _ HR.out (below_setRow C (zB3 _) _))
   ·have HR:Hid (res=(51,false,Ru.zero)):=zA7 (by rw[kD.out,Ru.hAb hp hk];rfl)
    have hk1:(x.kind==1)=false:=by simpa using hk
    clear hp kD hx e2 e3 hk hN
    generalize x.kind=xk at*
    generalize cA x=X at*
    go_enter Tryz.func43,Tryz.ntmps43
    go_wp2_with fail
    have R0:=Row.new w 78 (qA Ru.zero)
    have B0:=(Below.refl w.heap.size w).alloc (zB3 _) (.cells (qA Ru.zero) 78)
    generalize w.alloc (.cells (qA Ru.zero) 78)=w0 at*
    refine(H1.out _).mono ?_
    rintro e v1 ⟨rfl,rfl⟩
    go_wp2_with fail
    refine(H2.out _).mono ?_
    rintro e v2 ⟨rfl,hq⟩
    rw[hq]
    clear hq
    go_wp2_with fail
    refine(H3.out _).mono ?_
    rintro e v3 ⟨rfl,d3⟩
    have R1:=R0.stays d3
    have B1:=B0.trans (d3.mono B0.size)
    clear R0 B0 d3
    go_wp2_with fail
    refine(H4.out _).mono ?_
    rintro e v4 ⟨rfl,rfl⟩
    go_wp2_with fail
    refine(H5.out _ (hw.below B1)).mono ?_
    rintro e v5 ⟨rfl,d5⟩
    have R2:=R1.stays d5
    have B2:=B1.trans (d5.mono B1.size)
    obtain⟨T,U,C,L⟩:=PA 32 (cA bA.zero) X B2 B2.size
    have R3:=L _ _ _ R2
    have c0:=(U.cell 0).trans hK
    clear R1 B1 R2 B2 d5 L
    go_wp2_with (first
     |(refine wpList_store_row rfl 32 _ _ rfl v5.heap.size X rfl rfl 32 _ T (by rw[HX.out];exact mA) (by rw[HX.out];rfl) lB.out ?_)
     |(refine wpList_store_row rfl 78 _ _ rfl w.heap.size (qA Ru.zero) rfl rfl 78 _ R3 oC rfl (GE _) ?_))
    exact bodyPost_ret (v:= .tuple #[.agg (qA Ru.zero),.bool false,.int .i64 51]) (mD rfl _ _ w.heap.size _ _ _ rfl _ _ rfl rfl (R3.whole _) Tryz.underlying78 rfl oC) rfl (GA.out _ _ HR.out (below_setRow C (zB3 _) _))
end Go.Proofs.YtdaaoopkkhfbhaaGreatDoor
namespace Go.Proofs.YtdaaoopkkhfbhaaGreatDoor
open Go.RowKit
theorem lAM:bits BinOp.and IntKind.u64 16 (IntKind.u64.wrap (-16))=16:=by decide
theorem lAL(w:World)(h:Std w):Calls Tryz.prog 309 #[.int .u64 16] w fun e w'=>e= .returned (.int .i64 4)/\w=w':=by
 have hc:=h.bits
 have k1:=lAM
 go_enter Tryz.func309,Tryz.ntmps309
 go_wp2
 go_ret
 exact⟨rfl,rfl⟩
theorem lAG(w:World):Calls Tryz.prog 308 #[.int .i64 16] w fun e w'=>e= .returned (.bool true)/\w=w':=by
 have k1:bits BinOp.and IntKind.i64 16 15=0:=by decide
 go_enter Tryz.func308,Tryz.ntmps308
 go_wp2
 go_ret
 exact⟨rfl,rfl⟩
def zB:List UInt8:=List.replicate 65 0
theorem bAb:Tryz.zeroCells323=fA zB:=by kernel_rfl
theorem BQ:Tryz.prog.arrayLen 323=65:=by kernel_rfl
theorem UU:Tryz.prog.elem 323=5:=by kernel_rfl
theorem kAC(g m:Nat)(h1:1<=m)(hm:m<=65)(W:World):
  (Instr.sliceAt 323 (.pointer (some ⟨g,0,none⟩)) (some (.int .i64 ((m:Int)-1))) none none).run Tryz.prog W= .ok (.slice (some ⟨g,m-1,none⟩) (66-m) (66-m)) W:=by
 have ht:Tryz.prog.underlying 323=some (.array (Tryz.prog.arrayLen 323) (Tryz.prog.elem 323)):=by rw[BQ,UU];exact Tryz.underlying323
 rw[run_sliceAt_array_l W 323 ⟨g,0,none⟩ ht .i64 ((m:Int)-1) (by omega) (by rw[BQ];omega),UU]
 have hs:(sizeOf 5).run Tryz.prog W= .ok 1 W:=by kernel_rfl
 rw[hs,Result.andThen_ok,BQ,slicedAt,if_neg (by omega),Addr.add_mid]
 have e:0+((m:Int)-1).toNat*1=m-1:=by omega
 have e2:65- ((m:Int)-1).toNat=66-m:=by omega
 rw[e,e2]
theorem lAg {w:World}{g o:Nat}{t:TypeId}{ys l:List UInt8}(h:Row w g t (fA (ys++l)))(ho:ys.length=o)(n:Nat)(hn:l.length=n)(cap:Nat):
  (convert 61 9 (.slice (some ⟨g,o,none⟩) n cap)).run Tryz.prog w= .ok (.string ⟨l.toArray⟩) w:=by
 subst hn
 refine run_convert_bytes_back w 61 9 5 ⟨g,o,none⟩ cap l Tryz.underlying61 Tryz.underlying5 Tryz.underlying9 (fun j hj=>?_)
 rw[Addr.add_mid,h.cell,aM,List.getElem?_append_right (by omega),List.getElem?_eq_getElem (by omega)]
 have e:o+j-ys.length=j:=by omega
 simp only[e];rfl
theorem aAV(n:Nat)(hn:n<65536)(w:World)(h:Std w):
  Calls Tryz.prog 302 #[.slice none 0 0,.int .u64 (n:Int),.int .i64 16,.bool false,.bool false] w fun e w'=>e= .returned (.tuple #[.slice none 0 0,.string ⟨(aA.yC n).toArray⟩])/\Below w.heap.size w w':=by
 have z1:=bAb
 go_enter Tryz.func302,Tryz.ntmps302
 go_wp2_with fail
 have R0:=Row.new w 323 (fA zB)
 have B0:=(Below.refl w.heap.size w).alloc (zB3 _) (.cells (fA zB) 323)
 have H0:=h.below B0
 generalize w.alloc (.cells (fA zB) 323)=w0 at*
 refine(lAG _).mono ?_
 rintro e w1 ⟨rfl,rfl⟩
 go_wp2_with fail
 refine(lAL _ H0).mono ?_
 rintro e w1 ⟨rfl,rfl⟩
 go_wp2
 go_loopw [1,13] (fun u i wr=> ∃k m:Nat,k<=3/\m<=65/\62<=m/\Hid (m=65-k)/\i= .int .i64 (m:Int)/\u= .int .u64 ((n/16^k:Nat):Int)/\Hid (0<k->16<=n/16^ (k-1))/\Row wr w.heap.size 323 (fA (List.replicate m 0++aA.uD n k))/\Below w.heap.size w wr) (fun _ i _=>(intOf i).toNat)
 case atStart=>exact⟨0,65,by omega,by omega,by omega,rfl,rfl,by simp,fun h=>absurd h (by omega),by simpa[aA.uD,zB]using R0,B0⟩
 case round=>
  clear R0 B0
  obtain⟨k,m,hk,hm,hm2,HM,rfl,rfl,HL,R,hb⟩:=hrel
  have hx:n/16^k<65536:=Nat.lt_of_le_of_lt (Nat.div_le_self _ _) hn
  have e1:((m:Int)-1).toNat=m-1:=by omega
  have hsz:(List.replicate m 0++aA.uD n k).length=65:=by have:=HM.out;rw[zB4,aA.EQ,List.length_replicate];omega
  obtain⟨u1,c1⟩: ∃u,wr.cell? ⟨w.heap.size,m-1,none⟩=some u:=⟨_,by rw[R.cell];exact Array.getElem?_eq_getElem (by rw[gC,hsz];omega)⟩
  have f1:=R.free (m-1)
  have hset: ∀d:UInt8,Row (wr.setCell ⟨w.heap.size,m-1,none⟩ (.int .u8 (d.toNat:Int))) w.heap.size 323 (fA (List.replicate (m-1) 0++d::aA.uD n k)):=fun d=>by
   have R1:=R.set (m-1) (BA d)
   rw[qH]at R1
   have e:m=(m-1)+1:=by omega
   have:=aA.kAj (m-1) d (aA.uD n k)
   rw[<-e]at this
   rw[this]at R1
   exact R1
  have jH:=zA7 hset
  clear hset hsz
  by_cases hu:16<=n/16^k
  ·have hand:=aA.aAG (n/16^k) hx
   have hy:n/16^k%16<16:=Nat.mod_lt _ (by omega)
   have hg:=aA.EU _ hy
   have HD:=zA7 (show n/16^ (k+1)=n/16^k/16 by rw[Nat.pow_succ,Nat.div_div_eq_div_mul])
   have HK:Hid (k+1<=3):=by
    show k+1<=3
    rcases Nat.lt_or_ge k 3 with h|h
    ·exact h
    ·have:k=3:=by omega
     subst this
     omega
   have HW:=zA7 (show aA.uD n (k+1)=aA.NC (n/16^k%16)::aA.uD n k from rfl)
   generalize hx0:n/16^k=x at*
   have HX:=zA7 hx0
   clear hx0
   have R1:=jH.out (aA.NC (x%16))
   have B1:=hb.setCell (p:=⟨w.heap.size,m-1,none⟩) (zB3 _) (.int .u8 ((aA.NC (x%16)).toNat:Int))
   have sI:=zA7 (show m-1<=65/\62<=m-1/\m-1=65- (k+1) by have:=HM.out;have:=HK.out;omega)
   have HU:=zA7 hu
   clear R hb
   go_wp2
   go_roundw
   case rel=>exact⟨k+1,m-1,HK.out,sI.out.1,sI.out.2.1,sI.out.2.2,dB (by omega),dB (by rw[HD.out];omega),fun _=>by rw[Nat.add_sub_cancel,HX.out];exact HU.out,by rw[HW.out];exact R1,B1⟩
   case measure=>simp[intOf];omega
  ·have hy:n/16^k<16:=by omega
   have hg:=aA.EU _ hy
   have HS:=zA7 (aA.eAH hn hk hy HL.out)
   have R1:=jH.out (aA.NC (n/16^k))
   have B1:=hb.setCell (p:=⟨w.heap.size,m-1,none⟩) (zB3 _) (.int .u8 ((aA.NC (n/16^k)).toNat:Int))
   have hsl:=kAC w.heap.size m (by omega) hm
   have hcv:=lAg R1 (o:=m-1) (by simp) (66-m) (by rw[zB5,aA.EQ];have:=HM.out;omega) (66-m)
   rw[<-HS.out]at hcv
   generalize n/16^k=x at*
   clear R hb jH R1
   go_wp2
   go_ret2
   exact⟨rfl,B1⟩
theorem dAF(n:Nat)(hn:n<65536)(w:World)(h:Std w):
  Calls Tryz.prog 288 #[.int .u64 (n:Int),.int .i64 16] w fun e w'=>e= .returned (.string ⟨(aA.yC n).toArray⟩)/\Below w.heap.size w w':=by
 have H:=zA7 (aAV n hn w h)
 go_enter Tryz.func288,Tryz.ntmps288
 go_wp2_with (go_at_call 302;refine H.out.mono ?_;rintro e w1 ⟨rfl,hb⟩)
 go_ret
 exact⟨rfl,hb⟩
theorem dAE(n:Nat)(hn:n<65536)(w:World)(h:Std w):
  Calls Tryz.prog 269 #[.int .u64 (n:Int),.int .i64 16] w fun e w'=>e= .returned (.string ⟨(aA.yC n).toArray⟩)/\Below w.heap.size w w':=by
 have H:=zA7 (dAF n hn w h)
 go_enter Tryz.func269,Tryz.ntmps269
 go_wp2_with (go_at_call 288;refine H.out.mono ?_;rintro e w1 ⟨rfl,hb⟩)
 go_ret
 exact⟨rfl,hb⟩
end Go.Proofs.YtdaaoopkkhfbhaaGreatDoor
namespace Go.Proofs.YtdaaoopkkhfbhaaGreatDoor
open Go.RowKit
theorem QW(ps:List (List UInt8))(sep:UInt8)(B:Nat)(w:World)(R:Row w B 9 (FA ps))(m:Nat)(hm: ∀p∈ps,p.length<=m)(hm1:m<=1048576)(hn:ps.length<=1048576):
  Calls Tryz.prog 40 #[.slice (some ⟨B,0,none⟩) ps.length ps.length,.string ⟨#[sep]⟩] w fun e w'=>e= .returned (.string ⟨(Lib.join ps [sep]).toArray⟩)/\Below w.heap.size w w':=by
 have hl:=aA.join_length [sep] rfl m ps hm
 have h2:(m+1)*ps.length<=1048577*1048576:=Nat.mul_le_mul (by omega) hn
 have e1:((ps.map fun p=>(⟨p.toArray⟩:ByteArray)).map (·.data.toList))=ps:=by rw[List.map_map];exact List.map_id ps
 have e2:(⟨#[sep]⟩:ByteArray).data.toList= [sep]:=rfl
 have h:=Tryz.strings_Join B 0 ps.length (ps.map fun p=>⟨p.toArray⟩) ⟨#[sep]⟩ w (fun j x hx=>by
  rw[Nat.zero_add,R.cell,ZK]
  rw[List.getElem?_map]at hx
  cases hp:ps[j]? with
  |none=>rw[hp]at hx;cases hx
  |some p=>rw[hp]at hx;rw[<-zB2 hx];rfl) R.lt (by rw[List.length_map];omega) (by rw[List.length_map];exact zB3 _) (by rw[e1,e2];omega)
 rw[List.length_map,e1,e2]at h
 exact h
theorem jAD(g:List UInt16)(b o cap:Nat)(pre post:List UInt16)(t:TypeId)(w:World)(hw:Std w)(hg:g.length<=1024)(R:Row w b t (DA (pre++g++post)))(ho:pre.length=o)(A:Addr)(hA:0<g.length->A=⟨b,o,none⟩):
  Calls Tryz.prog 218 #[.slice (some A) g.length cap] w fun e w'=>e= .returned (.string ⟨(aA.xD g).toArray⟩)/\Below w.heap.size w w':=by
 go_enter Tryz.func218,Tryz.ntmps218
 have hmk:=rX g.length (by omega) w
 have hlen:=aA.oJ g
 obtain⟨ts,hts⟩: ∃ts,ts=g.map fun x=>aA.yC x.toNat:=⟨_,rfl⟩
 have hl:ts.length=g.length:=by rw[hts,List.length_map]
 have GL:=zA7 hts
 have UC:=zA7 (show∀p∈ts,p.length<=4 by rw[hts];exact aA.gW g)
 have HL:=zA7 hl
 clear hts hl
 go_wp2
 have T0:=Row.new w 9 (FA (List.replicate g.length []))
 rw[<-aA.KF ts]at T0
 have R0:=R.alloc (.cells (FA (aA.fill ts [] g.length 0)) 9)
 have B0:=(Below.refl w.heap.size w).alloc (zB3 _) (.cells (FA (aA.fill ts [] g.length 0)) 9)
 have H0:=hw.below B0
 have sb:=R.lt
 rw[<-aA.KF ts]
 clear R hmk
 go_loopw [10] (fun i wr=> ∃k:Nat,k<=g.length/\i= .int .i64 k/\Row wr w.heap.size 9 (FA (aA.fill ts [] g.length k))/\Row wr b t (DA (pre++g++post))/\Std wr/\Below w.heap.size w wr) (fun i _=>g.length- (intOf i).toNat)
 case atStart=>exact⟨0,Nat.zero_le _,rfl,T0,R0,H0,B0⟩
 case round=>
  clear T0 R0 H0 B0
  obtain⟨k,hk,rfl,T,R,H,hb⟩:=hrel
  by_cases hlt:k<g.length
  ·obtain rfl:=hA (by omega)
   obtain⟨x,hx⟩: ∃x,g[k]? =some x:=⟨_,List.getElem?_eq_getElem hlt⟩
   have c0:wr.cell? ⟨b,o+k,none⟩=some (.int .u16 (x.toNat:Int)):=by
    rw[R.cell,iS,List.append_assoc,List.getElem?_append_right (by omega),List.getElem?_append_left (by omega)]
    have e:o+k-pre.length=k:=by omega
    rw[e,hx];rfl
   have hx1:=aA.UN x
   have HC:=zA7 (dAE x.toNat hx1 wr H)
   have HX:=zA7 (show ts[k]? =some (aA.yC x.toNat) by rw[GL.out,List.getElem?_map,hx];rfl)
   have HF:=zA7 (aA.DG (z:=([]:List UInt8)) (k:=k) HL.out hk)
   clear hx
   go_wp2_with (go_at_call 269;refine HC.out.mono ?_;rintro e w2 ⟨rfl,b2⟩;have T2:=T.stays b2;have R2:=R.stays b2;have H2:=H.below b2;have B2:=hb.trans (b2.mono hb.size);have s2:=B2.size;obtain⟨u1,c1⟩: ∃u,w2.cell? ⟨w.heap.size,k,none⟩=some u:=⟨_,by rw[T2.cell];exact Array.getElem?_eq_getElem (by rw[X0,HF.out];exact hlt)⟩;have f1:=T2.free k)
   have T3:=T2.set k (gA (aA.yC x.toNat))
   rw[N0,aA.aF HL.out hlt HX.out]at T3
   have R3:=R2.other (p:=⟨w.heap.size,k,none⟩) (by simp;omega) (gA (aA.yC x.toNat))
   have B3:=B2.setCell (p:=⟨w.heap.size,k,none⟩) (zB3 _) (gA (aA.yC x.toNat))
   have H3:=hw.below B3
   go_roundw
   case rel=>exact⟨k+1,by omega,by go_num,T3,R3,H3,B3⟩
   case measure=>simp[intOf];omega
  ·have hkk:k=g.length:=by omega
   subst hkk
   rw[aA.CG HL.out]at T
   have HJ:=zA7 (QW ts 58 w.heap.size wr T 4 UC.out (by omega) (by rw[HL.out];omega))
   rw[HL.out]at HJ
   have HR:=zA7 (show Lib.join ts [58]=aA.xD g by rw[GL.out];rfl)
   rw[HR.out]at HJ
   go_wp2_with (go_at_call 40;refine HJ.out.mono ?_;rintro e w2 ⟨rfl,b2⟩)
   go_ret
   exact⟨rfl,hb.trans (b2.mono hb.size)⟩
end Go.Proofs.YtdaaoopkkhfbhaaGreatDoor
namespace Go.Proofs.YtdaaoopkkhfbhaaGreatDoor
open Go.RowKit
theorem AQ:Tryz.prog.arrayLen 30=16:=by kernel_rfl
theorem TU:Tryz.prog.elem 30=5:=by kernel_rfl
theorem kAA(g:Nat)(W:World):
  (Instr.sliceAt 30 (.pointer (some ⟨g,0,none⟩)) (some (.int .i64 12)) none none).run Tryz.prog W= .ok (.slice (some ⟨g,12,none⟩) 4 4) W:=by
 have ht:Tryz.prog.underlying 30=some (.array (Tryz.prog.arrayLen 30) (Tryz.prog.elem 30)):=by rw[AQ,TU];exact Tryz.underlying30
 rw[run_sliceAt_array_l W 30 ⟨g,0,none⟩ ht .i64 12 (by omega) (by rw[AQ];omega),TU]
 have hs:(sizeOf 5).run Tryz.prog W= .ok 1 W:=by kernel_rfl
 rw[hs,Result.andThen_ok,AQ,slicedAt,if_neg (by omega),Addr.add_mid]
 rfl
theorem lAd(a:List UInt8)(ha:a.length=16)(w:World)(hw:Std w):
  Calls Tryz.prog 162 #[.agg (fA a)] w fun e w'=>e= .returned (.string ⟨(aA.bL (a.drop 12)).toArray⟩)/\Below w.heap.size w w':=by
 have HL:=zA7 ha
 have hl4:(a.drop 12).length=4:=by rw[List.length_drop,ha]
 obtain⟨ts,hts⟩: ∃ts,ts=(a.drop 12).map fun c=>Lib.decDigits c.toNat:=⟨_,rfl⟩
 have hl:ts.length=4:=by rw[hts,List.length_map,hl4]
 have GL:=zA7 hts
 have UC:=zA7 (show∀p∈ts,p.length<=3 by rw[hts];exact aA.cAp _)
 have HN:=zA7 hl
 have HR:=zA7 (show Lib.join ts [46]=aA.bL (a.drop 12) by rw[hts];rfl)
 clear hts hl hl4 ha
 go_enter Tryz.func162,Tryz.ntmps162
 have hsl:=kAA w.heap.size
 have hmk: ∀W,(Instr.makeSlice 93 (.int .i64 4) (.int .i64 4)).run Tryz.prog W= .ok (.slice (some ⟨W.heap.size,0,none⟩) 4 4) (W.alloc (.cells (FA (aA.fill ts [] 4 0)) 9)):=fun W=>by
  have:=rX 4 (by omega) W
  rw[<-aA.KF ts]at this
  exact this
 go_wp2
 have T0:=Row.new (w.alloc (.cells (fA a) 30)) 9 (FA (aA.fill ts [] 4 0))
 have R0:=(Row.new w 30 (fA a)).alloc (.cells (FA (aA.fill ts [] 4 0)) 9)
 have B0:=((Below.refl w.heap.size w).alloc (zB3 _) (.cells (fA a) 30)).alloc (by simp) (.cells (FA (aA.fill ts [] 4 0)) 9)
 have H0:=hw.below B0
 have eN:(w.alloc (.cells (fA a) 30)).heap.size=w.heap.size+1:=by simp
 rw[eN]at T0
 clear hmk hsl eN
 generalize hN:w.heap.size+1=N at*
 have sN:w.heap.size<N:=by omega
 clear hN
 go_loopw [8] (fun i wr=> ∃k:Nat,k<=4/\i= .int .i64 k/\Row wr N 9 (FA (aA.fill ts [] 4 k))/\Row wr w.heap.size 30 (fA a)/\Std wr/\Below w.heap.size w wr) (fun i _=>4- (intOf i).toNat)
 case atStart=>exact⟨0,Nat.zero_le _,rfl,T0,R0,H0,B0⟩
 case round=>
  clear T0 R0 H0 B0
  obtain⟨k,hk,rfl,T,R,H,hb⟩:=hrel
  by_cases hlt:k<4
  ·obtain⟨x,hx⟩: ∃x,(a.drop 12)[k]? =some x:=⟨_,List.getElem?_eq_getElem (by rw[List.length_drop,HL.out];omega)⟩
   have c0:wr.cell? ⟨w.heap.size,12+k,none⟩=some (.int .u8 (x.toNat:Int)):=by
    rw[R.cell,aM,<-List.getElem?_drop,hx];rfl
   have hx1:=x.toNat_lt
   have HC:=zA7 (NW x.toNat wr H (by omega))
   have HX:=zA7 (show ts[k]? =some (Lib.decDigits x.toNat) by rw[GL.out,List.getElem?_map,hx];rfl)
   have HF:=zA7 (aA.DG (z:=([]:List UInt8)) (k:=k) HN.out hk)
   clear hx
   go_wp2_with (go_at_call 215;refine HC.out.mono ?_;rintro e w2 ⟨rfl,b2⟩;have T2:=T.stays b2;have R2:=R.stays b2;have B2:=hb.trans (b2.mono hb.size);have s2:=B2.size;obtain⟨u1,c1⟩: ∃u,w2.cell? ⟨N,k,none⟩=some u:=⟨_,by rw[T2.cell];exact Array.getElem?_eq_getElem (by rw[X0,HF.out];exact hlt)⟩;have f1:=T2.free k)
   have T3:=T2.set k (gA (Lib.decDigits x.toNat))
   rw[N0,aA.aF HN.out hlt HX.out]at T3
   have R3:=R2.other (p:=⟨N,k,none⟩) (by simp;omega) (gA (Lib.decDigits x.toNat))
   have B3:=B2.setCell (p:=⟨N,k,none⟩) (by simp;omega) (gA (Lib.decDigits x.toNat))
   have H3:=hw.below B3
   go_roundw
   case rel=>exact⟨k+1,by omega,by go_num,T3,R3,H3,B3⟩
   case measure=>simp[intOf];omega
  ·have hkk:k=4:=by omega
   subst hkk
   rw[aA.CG HN.out]at T
   have HJ:=zA7 (QW ts 46 N wr T 3 UC.out (by omega) (by rw[HN.out];omega))
   rw[HN.out,HR.out]at HJ
   go_wp2_with (go_at_call 40;refine HJ.out.mono ?_;rintro e w2 ⟨rfl,b2⟩)
   go_ret
   exact⟨rfl,hb.trans (b2.mono hb.size)⟩
end Go.Proofs.YtdaaoopkkhfbhaaGreatDoor
namespace Go.Proofs.YtdaaoopkkhfbhaaGreatDoor
open Go.RowKit
theorem hAu(g:List UInt16)(hg:g.length=8)(w:World):
  Calls Tryz.prog 217 #[.agg (DA g)] w fun e w'=>e= .returned (.tuple #[.int .i64 (aA.nf g:Int),.int .i64 (aA.nt g:Int)])/\Below w.heap.size w w':=by
 have HG:=zA7 hg
 clear hg
 have HF:=zA7 (show(aA.VA (aA.zeros g) 8).1=aA.nf g from rfl)
 have HT:=zA7 (show(aA.VA (aA.zeros g) 8).2.1=aA.nt g from rfl)
 go_enter Tryz.func217,Tryz.ntmps217
 go_wp2
 have R:=Row.new w 253 (DA g)
 have B:=(Below.refl w.heap.size w).alloc (zB3 _) (.cells (DA g) 253)
 generalize w.alloc (.cells (DA g) 253)=w0 at*
 go_loop [4,5,6,9] (fun f t s i=> ∃k:Nat,k<=8/\i= .int .i64 k/\f= .int .i64 ((aA.VA (aA.zeros g) k).1:Int)/\t= .int .i64 ((aA.VA (aA.zeros g) k).2.1:Int)/\s= .int .i64 ((aA.VA (aA.zeros g) k).2.2:Int)) (fun _ _ _ i=>8- (intOf i).toNat)
 case atStart=>exact⟨0,Nat.zero_le _,rfl,rfl,rfl,rfl⟩
 case round=>
  obtain⟨k,hk,rfl,rfl,rfl,rfl⟩:=hrel
  by_cases hlt:k<8
  ·obtain⟨x,hx⟩: ∃x,g[k]? =some x:=⟨_,List.getElem?_eq_getElem (by rw[HG.out];exact hlt)⟩
   have c0:w0.cell? ⟨w.heap.size,k,none⟩=some (.int .u16 (x.toNat:Int)):=by rw[R.cell,iS,hx];rfl
   have hz:=aA.D7 hx
   have hb:=aA.OQ (aA.zeros g) k
   by_cases hx0:x=0
   ·have h0:((x.toNat:Int) !=0)=false:=by rw[hx0];rfl
    have GH:(aA.zeros g).getD k false=true:=by rw[hz];exact zA9 hx0
    by_cases h2:2<=k+1- (aA.VA (aA.zeros g) k).2.2/\(aA.VA (aA.zeros g) k).2.1- (aA.VA (aA.zeros g) k).1<k+1- (aA.VA (aA.zeros g) k).2.2
    ·have HN:=zA7 (aA.hAx GH h2)
     clear hx hz hx0 GH
     generalize aA.VA (aA.zeros g) k=y at*
     obtain⟨f,t,s⟩:=y
     try dsimp only at h2 hb
     obtain⟨h2a,h2b⟩:=h2
     obtain⟨hb1,hb2,hb3⟩:=hb
     have d1:(2:Int)<=(k:Int)+1- (s:Int):=by omega
     have d2:(t:Int)- (f:Int)<(k:Int)+1- (s:Int):=by omega
     go_wp2
     go_round
     case rel=>exact⟨k+1,by omega,by go_num,by rw[HN.out],by rw[HN.out];go_num,by rw[HN.out]⟩
     case measure=>simp[intOf];omega
    ·have HN:=zA7 (aA.hAz GH h2)
     clear hx hz hx0 GH
     generalize aA.VA (aA.zeros g) k=y at*
     obtain⟨f,t,s⟩:=y
     try dsimp only at h2 hb
     obtain⟨hb1,hb2,hb3⟩:=hb
     have hor:(¬(2:Int)<=(k:Int)+1- (s:Int))\/((2:Int)<=(k:Int)+1- (s:Int)/\ ¬(t:Int)- (f:Int)<(k:Int)+1- (s:Int)):=by omega
     clear h2
     rcases hor with d1|⟨d1,d2⟩
     all_goals
      go_wp2
      go_round
      case rel=>exact⟨k+1,by omega,by go_num,by rw[HN.out],by rw[HN.out],by rw[HN.out]⟩
      case measure=>simp[intOf];omega
   ·have h0:((x.toNat:Int) !=0)=true:=by
     rw[bne_iff_ne];intro e;exact hx0 (aA.dV (by show x.toNat=0;omega))
    have GH:(aA.zeros g).getD k false=false:=by rw[hz];exact zA8 hx0
    have HN:=zA7 (aA.hAy GH)
    clear hx hz hx0 GH
    go_wp2
    go_round
    case rel=>exact⟨k+1,by omega,by go_num,by rw[HN.out],by rw[HN.out],by rw[HN.out];go_num⟩
    case measure=>simp[intOf];omega
  ·have hkk:k=8:=by omega
   subst hkk
   go_wp2
   go_ret2
   exact⟨nD (dB (by rw[HF.out])) (dB (by rw[HT.out])),B⟩
end Go.Proofs.YtdaaoopkkhfbhaaGreatDoor
namespace Go.Proofs.YtdaaoopkkhfbhaaGreatDoor
open Go.RowKit
structure qE(b:Nat)(g:List UInt16)(w w':World):Prop where
 row:Row w' b 253 (DA g)
 std:Std w'
 below:Below w.heap.size w w'
theorem qE.drew {b:Nat}{g:List UInt16}{w w':World}(h:qE b g w w'):qE b g w w'.drew:=
 ⟨h.row.drew,h.std.below (Below.refl _ _).drew,h.below.drew⟩
theorem qE.on {b:Nat}{g:List UInt16}{w w' w'':World}(h:qE b g w w')(hb:Below w'.heap.size w' w''):qE b g w w'':=
 ⟨h.row.stays hb,h.std.below hb,h.below.trans (hb.mono h.below.size)⟩
theorem kR(b:Nat)(g0:List UInt16)(w0:World)(o n cap:Nat)(A:Addr)(hn:o+n<=g0.length)(hA:0<n->A=⟨b,o,none⟩)(hg:g0.length<=1024)(w:World)(h:qE b g0 w0 w):
  Calls Tryz.prog 218 #[.slice (some A) n cap] w fun e w'=>e= .returned (.string ⟨(aA.xD ((g0.drop o).take n)).toArray⟩)/\qE b g0 w0 w':=by
 have hl:((g0.drop o).take n).length=n:=by simp;omega
 have hR:Row w b 253 (DA (g0.take o++(g0.drop o).take n++(g0.drop o).drop n)):=by
  rw[List.append_assoc,List.take_append_drop,List.take_append_drop];exact h.row
 have:=jAD ((g0.drop o).take n) b o cap (g0.take o) ((g0.drop o).drop n) 253 w h.std (by omega) hR (by simp;omega) A (by rw[hl];exact hA)
 rw[hl]at this
 exact this.mono fun e w' ⟨he,hb⟩=>⟨he,h.on hb⟩
theorem kAD(g m:Nat)(hm:m<=8)(W:World):
  (Instr.sliceAt 253 (.pointer (some ⟨g,0,none⟩)) none (some (.int .i64 (m:Int))) none).run Tryz.prog W= .ok (.slice (some ⟨g,0,none⟩) m 8) W:=by
 have ht:Tryz.prog.underlying 253=some (.array (Tryz.prog.arrayLen 253) (Tryz.prog.elem 253)):=by rw[bJ,kM];exact Tryz.underlying253
 rw[run_sliceAt_array_h W 253 ⟨g,0,none⟩ ht .i64 (m:Int) (by omega) (by rw[bJ];omega),kM]
 have hs:(sizeOf 252).run Tryz.prog W= .ok 1 W:=by kernel_rfl
 rw[hs,Result.andThen_ok,bJ,slicedAt,if_neg (by omega),Addr.add_mid]
 rfl
theorem kAB(g l:Nat)(hl:l<=8): ∃A:Addr,(0<8-l->A=⟨g,l,none⟩)/\
  ∀W,(Instr.sliceAt 253 (.pointer (some ⟨g,0,none⟩)) (some (.int .i64 (l:Int))) none none).run Tryz.prog W= .ok (.slice (some A) (8-l) (8-l)) W:=by
 obtain⟨A,h1,h2⟩:=vZ g (8-l) (by omega)
 refine⟨A,fun h=>?_,fun W=>?_⟩
 ·rw[h1 h];congr 1;omega
 ·have:=h2 W
  rw[show 8- ((8-l:Nat):Int)=(l:Int) by omega]at this
  exact this
theorem lAe(a:List UInt8)(ha:a.length=16)(w:World)(hw:Std w):
  Calls Tryz.prog 163 #[.agg (fA a)] w fun e w'=>e= .returned (.string ⟨(aA.UD (aA.groups a)).toArray⟩)/\Below w.heap.size w w':=by
 have hgl:=aA.wK 8 a ha
 have HG:=zA7 (fun W=>dAZ a ha W)
 have HA:=zA7 (show(fA a).size=16 by rw[gC,ha])
 clear ha
 have TJ:=zA7 (show aA.UD (aA.groups a)=if aA.nf (aA.groups a)=aA.nt (aA.groups a)then aA.xD (aA.groups a)else aA.xD ((aA.groups a).take (aA.nf (aA.groups a)))++58::58::aA.xD ((aA.groups a).drop (aA.nt (aA.groups a))) from rfl)
 generalize aA.groups a=g at*
 have HL:=zA7 hgl
 have HN:=zA7 (fun W=>hAu g hgl W)
 obtain⟨hn1,hn2,DM,_⟩:=aA.hAt hgl
 have hsz:(DA g).size=8:=by rw[lL,hgl]
 have HZ:=zA7 hsz
 clear hgl hsz
 have z2:=L6
 go_enter Tryz.func163,Tryz.ntmps163
 have R0:=Row.new w 30 (fA a)
 have B0:=(Below.refl w.heap.size w).alloc (zB3 _) (.cells (fA a) 30)
 go_wp2_with (refine jA 6 rfl ?_;refine wpList_load_row rfl 30 _ rfl w.heap.size rfl 30 _ (0,0) _ R0 Tryz.underlying30 rfl (by rw[HA.out];exact vA) ?_)
 generalize w.alloc (.cells (fA a) 30)=w0 at*
 refine(HG.out _).mono ?_
 rintro e w1 ⟨rfl,b1⟩
 have B1:=B0.trans (b1.mono B0.size)
 clear B0 R0 b1
 have s1:=B1.size
 have R1:=Row.new w1 253 (DA zG)
 have R2:=R1.whole (DA g)
 have B2:=below_setRow (B1.alloc s1 (.cells (DA zG) 253)) s1 (DA g)
 go_wp2_with (first
  |(refine wpList_store_row rfl 253 _ _ rfl w1.heap.size (DA g) rfl rfl 253 _ R1 (by rw[HZ.out];exact SI) (by rw[HZ.out];rfl) (D6 _) ?_)
  |(refine jA 9 rfl ?_;refine wpList_load_row rfl 253 _ rfl w1.heap.size rfl 253 _ (0,0) _ R2 Tryz.underlying253 rfl (by rw[HZ.out];exact SI) ?_))
 generalize(w1.alloc (.cells (DA zG) 253)).setRow w1.heap.size (DA g)=w2 at*
 refine(HN.out _).mono ?_
 rintro e w3 ⟨rfl,b3⟩
 have K:qE w1.heap.size g w w3:=by
  have R3:=R2.stays b3
  have B3:=B2.trans (b3.mono B2.size)
  exact⟨R3,hw.below B3,B3⟩
 clear R1 R2 B1 B2 b3
 by_cases heq:aA.nf g=aA.nt g
 ·have he:((aA.nf g:Int)==(aA.nt g:Int))=true:=by rw[heq];simp
  have HE:=zA7 (show aA.xD ((g.drop 0).take 8)=aA.UD g by unfold aA.UD;rw[if_pos heq,List.drop_zero,List.take_of_length_le (by have:=HL.out;omega)])
  have HC:=zA7 (kR w1.heap.size g w 0 8 8 ⟨w1.heap.size,0,none⟩ (by have:=HL.out;omega) (fun _=>rfl) (by have:=HL.out;omega) _ K)
  rw[HE.out]at HC
  clear heq TJ
  go_wp2_with (go_at_call 218;refine HC.out.mono ?_;rintro e w4 ⟨rfl,K4⟩)
  go_ret
  exact⟨rfl,K4.below⟩
 ·have he:((aA.nf g:Int)==(aA.nt g:Int))=false:=by rw[beq_eq_false_iff_ne];omega
  have hnt:aA.nf g+2<=aA.nt g:=by omega
  have HE:=zA7 (show aA.xD ((g.drop 0).take (aA.nf g))++58::58::aA.xD ((g.drop (aA.nt g)).take (8-aA.nt g))=aA.UD g by
   unfold aA.UD;rw[if_neg heq,List.drop_zero,List.take_of_length_le (l:=g.drop (aA.nt g)) (by rw[List.length_drop,HL.out];exact zB3 _)])
  have hs1:=kAD w1.heap.size (aA.nf g) (by omega)
  obtain⟨A,hA,hs2⟩:=kAB w1.heap.size (aA.nt g) DM
  have KC:=zA7 (kR w1.heap.size g w 0 (aA.nf g) 8 ⟨w1.heap.size,0,none⟩ (by have:=HL.out;omega) (fun _=>rfl) (by have:=HL.out;omega))
  have iE:=zA7 (kR w1.heap.size g w (aA.nt g) (8-aA.nt g) (8-aA.nt g) A (by have:=HL.out;omega) hA (by have:=HL.out;omega))
  have l1:=aA.oJ ((g.drop 0).take (aA.nf g))
  have l2:=aA.oJ ((g.drop (aA.nt g)).take (8-aA.nt g))
  rw[List.length_take,List.length_drop,HL.out]at l1 l2
  obtain⟨X,hX⟩: ∃X:ByteArray,X=⟨(aA.xD ((g.drop 0).take (aA.nf g))).toArray⟩:=⟨_,rfl⟩
  obtain⟨Y,hY⟩: ∃Y:ByteArray,Y=⟨(aA.xD ((g.drop (aA.nt g)).take (8-aA.nt g))).toArray⟩:=⟨_,rfl⟩
  have x1:X.size<=40:=by rw[hX];show(List.toArray _).size<=40;rw[List.size_toArray];omega
  have y1:Y.size<=40:=by rw[hY];show(List.toArray _).size<=40;rw[List.size_toArray];omega
  have xs:(X++⟨#[58,58]⟩:ByteArray).size<=42:=by rw[ByteArray.size_append];show X.size+2<=42;omega
  have cs:(⟨#[58,58]⟩:ByteArray).size=2:=rfl
  have q1: ¬9223372036854775807<X.size+2:=by omega
  have q2: ¬9223372036854775807<X.size+2+Y.size:=by omega
  have WJ:=zA7 (show X++⟨#[58,58]⟩++Y=⟨(aA.UD g).toArray⟩ by rw[hX,hY,<-HE.out];apply ByteArray.ext;simp[ByteArray.data_append])
  rw[<-hX]at KC
  rw[<-hY]at iE
  have K3:=K.drew
  clear heq TJ hX hY l1 l2 HE hn1 hn2 DM hnt hA
  go_wp2
  go_region_held3 (fun w'=>qE w1.heap.size g w w') (assumption) ((first
   |(go_at_call_of 218 (Value.slice (some ⟨w1.heap.size,0,none⟩) (aA.nf g) 8);refine(KC.out _ (by assumption)).mono ?_;rintro e w4 ⟨rfl,K4⟩)
   |(go_at_call 218;refine(iE.out _ (by assumption)).mono ?_;rintro e w4 ⟨rfl,K4⟩)))
  all_goals
   go_wp2
   go_ret
   exact⟨iD WJ.out,qE.below (g:=g) (b:=w1.heap.size) (by assumption)⟩
end Go.Proofs.YtdaaoopkkhfbhaaGreatDoor
namespace Go.Proofs.YtdaaoopkkhfbhaaGreatDoor
open Go.RowKit
theorem ER(h:bA.Host)(ha:h.addr.length=16)(t:ByteArray)(ht:t=⟨(bA.text h).toArray⟩)(w:World)(hw:Std w):
  Calls Tryz.prog 106 #[.agg (cA h)] w fun e w'=>e= .returned (.string t)/\Below w.heap.size w w':=by
 by_cases k1:h.kind=1
 ·exact YZ h k1 t (by rw[ht];unfold bA.text;rw[if_pos k1]) w
 have R:=Row.new w 32 (cA h)
 have B:=(Below.refl w.heap.size w).alloc (zB3 _) (.cells (cA h) 32)
 have c0:(w.alloc (.cells (cA h) 32)).cell? ⟨w.heap.size,0,none⟩=some (.int .i64 h.kind):=by rw[R.cell,EK]
 have HA:=zA7 (jQ h ha)
 have HS:=zA7 (XA h ha)
 have H4:=zA7 (fun W hW=>lAd h.addr ha W hW)
 have H6:=zA7 (fun W hW=>lAe h.addr ha W hW)
 by_cases k2:h.kind=2
 ·have e:t=⟨(aA.bL (h.addr.drop 12)).toArray⟩:=by rw[ht];unfold bA.text;rw[if_neg k1,if_pos k2]
  rw[<-e]at H4
  rw[k2]at c0
  generalize fA h.addr=X at*
  generalize cA h=H at*
  clear ht e k1 k2 ha H6
  go_enter Tryz.func106,Tryz.ntmps106
  go_wp2_with (refine jA 12 rfl ?_;refine eD rfl 30 _ rfl w.heap.size 2 16 rfl R Tryz.underlying30 rfl vA (by rw[HS.out];exact zB3 _) X HA.out ?_)
  refine(H4.out _ (hw.below B)).mono ?_
  rintro e w' ⟨rfl,d⟩
  go_wp2
  go_ret
  exact⟨rfl,B.trans (d.mono B.size)⟩
 by_cases k3:h.kind=3
 ·have hlen:=bA.W2 (aA.wK 8 h.addr ha)
  obtain⟨u,hu⟩: ∃u:ByteArray,u=⟨(aA.UD (aA.groups h.addr)).toArray⟩:=⟨_,rfl⟩
  have AB:u.data.toList=aA.UD (aA.groups h.addr):=by rw[hu]
  have RI:u.size=(aA.UD (aA.groups h.addr)).length:=by rw[<-Oct.oA,AB]
  obtain⟨E,hE⟩: ∃E:ByteArray,(⟨#[91]⟩:ByteArray)++u=E:=⟨_,rfl⟩
  have hEs:E.size=1+u.size:=by rw[<-hE,ByteArray.size_append];rfl
  have hE2:E++(⟨#[93]⟩:ByteArray)=t:=by
   rw[ht]
   unfold bA.text
   rw[if_neg k1,if_neg k2,if_pos k3,<-AB,<-hE]
   apply ByteArray.ext
   rw[ByteArray.data_append,ByteArray.data_append]
   apply Array.ext'
   rw[Array.toList_append,Array.toList_append]
   rfl
  have nAi: ¬9223372036854775807<(⟨#[91]⟩:ByteArray).size+u.size:=by
   show ¬9223372036854775807<1+u.size
   omega
  have nAj: ¬9223372036854775807<E.size+(⟨#[93]⟩:ByteArray).size:=by
   show ¬9223372036854775807<E.size+1
   omega
  have h91:(⟨#[91]⟩:ByteArray).size=1:=rfl
  have h93:(⟨#[93]⟩:ByteArray).size=1:=rfl
  rw[<-hu]at H6
  rw[k3]at c0
  generalize fA h.addr=X at*
  generalize cA h=H at*
  clear ht AB k1 k2 k3 ha H4 hu
  go_enter Tryz.func106,Tryz.ntmps106
  go_wp2_with (refine jA 17 rfl ?_;refine eD rfl 30 _ rfl w.heap.size 2 16 rfl R Tryz.underlying30 rfl vA (by rw[HS.out];exact zB3 _) X HA.out ?_)
  refine(H6.out _ (hw.below B)).mono ?_
  rintro e w' ⟨rfl,d⟩
  go_wp2
  go_ret
  exact⟨rfl,B.trans (d.mono B.size)⟩
 ·have e:t=⟨#[]⟩:=by rw[ht];unfold bA.text;rw[if_neg k1,if_neg k2,if_neg k3]
  subst e
  generalize cA h=H at*
  generalize h.kind=k at*
  clear ht ha H4 H6 HA
  go_enter Tryz.func106,Tryz.ntmps106
  go_wp2
  go_ret
  exact⟨rfl,B⟩
theorem jR(h:bA.Host)(ha:h.addr.length=16)(hs:h.name.length<=1048000)(w:World)(hw:Std w):
  Calls Tryz.prog 87 #[.agg (cA h)] w fun e w'=>e= .returned (.bool (bA.can h))/\Below w.heap.size w w':=by
 have z0:=WD
 obtain⟨t,ht⟩: ∃t:ByteArray,t=⟨(bA.text h).toArray⟩:=⟨_,rfl⟩
 have htx:=bA.rJ h ha
 have H1:=zA7 (fun W hW=>ER h ha t ht W hW)
 have htl:t.data.toList=bA.text h:=by rw[ht]
 have hts:t.size=(bA.text h).length:=by rw[<-htl,Oct.oA]
 have H2:=zA7 (fun W hW=>(oN t W hW (by omega)).mono fun e w' h=>dJ h)
 rw[htl]at H2
 have hx:=bA.XH (bA.text h)
 have HR:Hid (bA.can h=decide (bA.parse (bA.text h)=some h)):=zA7 rfl
 have HZ0:=zA7 (show(cA bA.zero).size=18 from rfl)
 have HH:=zA7 (XA h ha)
 cases ho:bA.parse (bA.text h)with
 |none=>
  rw[ho]at H2 HR
  have HR2:Hid (bA.can h=false):=zA7 (by rw[HR.out];rfl)
  have e1:bA.host none=bA.zero:=rfl
  have e2:bA.code none=31:=rfl
  rw[e1,e2]at H2
  clear ho hx hts htl ht HR e1 e2 htx
  rw[HR2.out]
  generalize cA h=H at*
  have R0:=Row.new w 32 H
  have B0:=(Below.refl w.heap.size w).alloc (zB3 _) (.cells H 32)
  go_enter Tryz.func87,Tryz.ntmps87
  go_wp2_with (refine jA 6 rfl ?_;refine pA rfl 32 _ rfl w.heap.size rfl R0 Tryz.underlying32 rfl (by rw[HH.out];exact mA) ?_)
  generalize w.alloc (.cells H 32)=w0 at*
  refine(H1.out _ (hw.below B0)).mono ?_
  rintro e v1 ⟨rfl,d1⟩
  have B1:=B0.trans (d1.mono B0.size)
  go_wp2_with fail
  refine(H2.out _ (hw.below B1)).mono ?_
  rintro e v2 ⟨rfl,d2⟩
  have B2:=B1.trans (d2.mono B1.size)
  obtain⟨T,U,C,L⟩:=PA 32 (cA bA.zero) (cA bA.zero) B2 B2.size
  clear B0 B1 B2 d1 d2 R0 L
  go_wp2_with (first
   |(refine wpList_store_row rfl 32 _ _ rfl v2.heap.size (cA bA.zero) rfl rfl 32 _ T (by rw[HZ0.out];exact mA) rfl (bB _) ?_))
  go_ret
  exact⟨rfl,C⟩
 |some g=>
  rw[ho]at H2 HR hx
  have hx:g.addr.length=16:=hx
  have HR2:Hid (bA.can h=decide (g=h)):=zA7 (by rw[HR.out,decide_eq_decide];exact⟨fun e=>zB2 e,fun e=>by rw[e]⟩)
  have e1:bA.host (some g)=g:=rfl
  have e2:bA.code (some g)=0:=rfl
  rw[e1,e2]at H2
  have q:=lM g h hx ha
  have HG:=zA7 (XA g hx)
  have qO:=zA7 (bB g)
  clear ho hx hts htl ht HR e1 e2 htx
  rw[HR2.out]
  generalize cA h=H at*
  generalize cA g=G at*
  generalize decide (g=h)=b at*
  have R0:=Row.new w 32 H
  have B0:=(Below.refl w.heap.size w).alloc (zB3 _) (.cells H 32)
  go_enter Tryz.func87,Tryz.ntmps87
  go_wp2_with (refine jA 6 rfl ?_;refine pA rfl 32 _ rfl w.heap.size rfl R0 Tryz.underlying32 rfl (by rw[HH.out];exact mA) ?_)
  generalize w.alloc (.cells H 32)=w0 at*
  refine(H1.out _ (hw.below B0)).mono ?_
  rintro e v1 ⟨rfl,d1⟩
  have B1:=B0.trans (d1.mono B0.size)
  have R1:=R0.stays d1
  go_wp2_with fail
  refine(H2.out _ (hw.below B1)).mono ?_
  rintro e v2 ⟨rfl,d2⟩
  have R2:=R1.stays d2
  have B2:=B1.trans (d2.mono B1.size)
  obtain⟨T,U,C,L⟩:=PA 32 (cA bA.zero) G B2 B2.size
  have R3:=L _ _ _ R2
  clear B0 B1 B2 d1 d2 R0 R1 R2 L
  go_wp2_with (first
   |(refine wpList_store_row rfl 32 _ _ rfl v2.heap.size G rfl rfl 32 _ T (by rw[HG.out];exact mA) (by rw[HG.out];rfl) qO.out ?_)
   |(refine jA 14 rfl ?_;refine pA rfl 32 _ rfl v2.heap.size rfl U Tryz.underlying32 rfl (by rw[HG.out];exact mA) ?_)
   |(refine jA 15 rfl ?_;refine pA rfl 32 _ rfl w.heap.size rfl R3 Tryz.underlying32 rfl (by rw[HH.out];exact mA) ?_))
  go_ret
  exact⟨rfl,C⟩
end Go.Proofs.YtdaaoopkkhfbhaaGreatDoor
namespace Go.Proofs.YtdaaoopkkhfbhaaGreatDoor
open Go.RowKit
theorem W6 {P:Program}{ops:Array Oper}{S:World->Prop}{o:Oper}{a:Act}(hw:Region.wanted o (yielded ops a.tmps)=true)(t:TypeId)(i j:Nat)(x y:Operand)(ho:o.op= .build t #[(i,x),(j,y)])(u v:Value)(hx:a.eval x=u)(hy:a.eval y=v)(cells:Array Value)
  (hc:P.built t [(i,u),(j,v)]=some cells):YieldsIf P ops S o (.agg cells) a:=
 .inl ⟨hw,fun w _=>by
  have e:((#[(i,x),(j,y)]:Array (Nat×Operand)).map fun(i,x)=>(i,a.eval x)).toList= [(i,u),(j,v)]:=by simp[hx,hy]
  unfold execOp
  simp only[ho,Sem.run_bind,run_build w t _ cells (by rw[e];exact hc),Result.andThen_ok]
  rfl⟩
theorem YC {P:Program}{ops:Array Oper}{Q:Exit->Act->World->Prop}{rest:List Oper}{o:Oper}{a:Act}{w:World}(t:TypeId)(x y:Operand)(_h:o.op= .store t x y)(k:wpList P ops Q (o::rest) a w):wpList P ops Q (o::rest) a w:=k
end Go.Proofs.YtdaaoopkkhfbhaaGreatDoor
