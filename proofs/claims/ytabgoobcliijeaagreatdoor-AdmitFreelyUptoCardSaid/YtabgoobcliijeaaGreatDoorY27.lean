/- The walks of admit's calls: risky, pathOf, endOf. -/
import Derived.Test.YtabgoobcliijeaaGreatDoorY26
import Derived.StillTail
set_option maxHeartbeats 16000000
set_option maxRecDepth 100000
namespace Go.Proofs.YtabgoobcliijeaaGreatDoor
open Go.RowKit
namespace Ad
def risk(g:Hd.Head)(sec only:Bool):Int:=if g.secure=true/\sec=false then 104 else if g.same=1/\g.secure=false then 105 else if breaks g only=true then 106 else 0
end Ad
theorem nAk(g:Hd.Head)(sec only:Bool)(hn:g.name.length<=9000)(hv:g.value.length<=9000)(w:World):
  Calls Tryz.prog 26 #[.agg (headA g),.bool sec,.bool only] w fun e w'=>e= .returned (.int .i64 (Ad.risk g sec only))/\Below w.heap.size w w':=by
 have R0:=Row.new w 35 (headA g)
 have B0:=(Below.refl w.heap.size w).alloc (zB3 _) (.cells (headA g) 35)
 have HS:=zA7 (iAK g)
 have H1:=zA7 (fun W=>fAy g only hn hv W)
 obtain⟨s1,hs1⟩: ∃b,decide (g.same=1)=b:=⟨_,rfl⟩
 have hk:(((g.same:Nat):Int)==1)=s1:=by rw[<-hs1,Bool.eq_iff_iff];simp;omega
 have HR:=zA7 (show Ad.risk g sec only=(if(g.secure&& !sec)=true then 104 else if(s1&& !g.secure)=true then 105 else if Ad.breaks g only=true then 106 else 0) from by
  unfold Ad.risk
  rw[<-hs1]
  simp only[Bool.and_eq_true,decide_eq_true_eq,Bool.not_eq_true'])
 have q8:(headA g)[8]? =some (.bool g.secure):=rfl
 have aG:(headA g)[10]? =some (.int .i64 (g.same:Int)):=rfl
 have c8:=(R0.cell 8).trans q8
 have c10:=(R0.cell 10).trans aG
 generalize Ad.breaks g only=br at*
 generalize Ad.risk g sec only=r at*
 generalize g.secure=sc at*
 generalize(((g.same:Nat):Int))=sm at*
 generalize headA g=U at*
 clear q8 aG hn hv hs1
 go_enter Tryz.func26,Tryz.ntmps26
 cases sc<;>cases sec<;>cases s1
 case true.false.false|true.false.true=>
  go_wp2
  go_ret
  exact⟨by rw[HR.out];rfl,B0⟩
 case false.false.true|false.true.true=>
  go_wp2
  go_ret
  exact⟨by rw[HR.out];rfl,B0⟩
 all_goals
  go_wp2_with (refine iA 24 rfl ?_;refine qA rfl 35 _ rfl w.heap.size rfl R0 Tryz.underlying35 rfl (by rw[HS.out];exact WA) ?_)
  generalize w.alloc (.cells U 35)=w0 at*
  refine(H1.out _).mono ?_
  rintro e w1 ⟨rfl,d1⟩
  have B1:=B0.trans (d1.mono B0.size)
  cases br
  all_goals
   go_wp2
   go_ret
   exact⟨by rw[HR.out];rfl,B1⟩
theorem lAU(u:Ur.URL)(ha:u.host.addr.length=16)(hp:u.path.length<=9000)(g:Hd.Head)(w:World):
  Calls Tryz.prog 27 #[.agg (headA g),.agg (pA u)] w fun e w'=>e= .returned (.string ⟨(Ad.pathOf u g).toArray⟩)/\Below w.heap.size w w':=by
 have R0:=Row.new w 35 (headA g)
 have B0:=(Below.refl w.heap.size w).alloc (zB3 _) (.cells (headA g) 35)
 have hN:(w.alloc (.cells (headA g) 35)).heap.size=w.heap.size+1:=by simp
 have S1:=Row.new (w.alloc (.cells (headA g) 35)) 33 (pA u)
 rw[hN]at S1
 have R1:=R0.alloc (.cells (pA u) 33)
 have C1:=B0.alloc B0.size (.cells (pA u) 33)
 obtain⟨pb,hpb⟩: ∃b:ByteArray,b=⟨g.path.toArray⟩:=⟨_,rfl⟩
 obtain⟨ub,hub⟩: ∃b:ByteArray,b=⟨u.path.toArray⟩:=⟨_,rfl⟩
 have q3:(headA g)[3]? =some (.string pb):=by rw[hpb];rfl
 have TV:(pA u)[20]? =some (.string ub):=by rw[hub];exact vI u ha
 have c3:=(R1.cell 3).trans q3
 have c20:=(S1.cell 20).trans TV
 have H1:Hid (∀W,Calls Tryz.prog 60 #[.string ub] W fun e w'=>e= .returned (.string ⟨(Ma.default u.path).toArray⟩)/\W=w'):=zA7 (fun W=>by
  have:=kAJ ub W (by rw[<-Oct.nA,hub];show u.path.length<_;omega)
  rw[hub]at this⊢
  exact this)
 by_cases hg:g.path= []
 ·have he:pb.toList.isEmpty=true:=by rw[hpb,bI,zA9 hg]
  have HR:=zA7 (show Ad.pathOf u g=Ma.default u.path from by unfold Ad.pathOf;rw[if_pos hg])
  generalize Ad.pathOf u g=r at*
  generalize Ma.default u.path=dp at*
  generalize headA g=U at*
  generalize pA u=V at*
  clear hg hpb hub R0 B0 hN q3 TV R1 S1
  go_enter Tryz.func27,Tryz.ntmps27
  go_wp2_with fail
  refine(H1.out _).mono ?_
  rintro e w1 ⟨rfl,rfl⟩
  go_wp2
  go_ret
  exact⟨by rw[HR.out];rfl,C1⟩
 ·have he:pb.toList.isEmpty=false:=by rw[hpb,bI,zA8 hg]
  have HR:=zA7 (show Ad.pathOf u g=g.path from by unfold Ad.pathOf;rw[if_neg hg])
  have PM:=zA7 hpb
  generalize Ad.pathOf u g=r at*
  generalize headA g=U at*
  generalize pA u=V at*
  clear hg hpb hub R0 B0 hN q3 TV R1 S1 H1
  go_enter Tryz.func27,Tryz.ntmps27
  go_wp2
  go_ret
  exact⟨by rw[HR.out];first|rfl|(rw[PM.out];rfl),C1⟩
theorem hAe(g:Hd.Head)(now:Int)(hn:0<=now/\now<=1099511627776)(hg:Hd.Good g)(w:World):
  Calls Tryz.prog 28 #[.agg (headA g),.int .i64 now] w fun e w'=>e= .returned (.int .i64 (Ad.ends g now))/\Below w.heap.size w w':=by
 have R0:=Row.new w 35 (headA g)
 have B0:=(Below.refl w.heap.size w).alloc (zB3 _) (.cells (headA g) 35)
 have q4:(headA g)[4]? =some (.bool g.exp.isSome):=rfl
 have q5:(headA g)[5]? =some (.int .i64 (g.exp.getD 0)):=rfl
 have q6:(headA g)[6]? =some (.bool g.age.isSome):=rfl
 have q7:(headA g)[7]? =some (.int .i64 ((g.age.getD 0:Nat):Int)):=rfl
 have c4:=(R0.cell 4).trans q4
 have c5:=(R0.cell 5).trans q5
 have c6:=(R0.cell 6).trans q6
 have c7:=(R0.cell 7).trans q7
 have HA:=zA7 hg.age
 clear q4 q5 q6 q7 R0
 cases ha:g.age with
 |some a=>
  rw[ha]at c6 c7
  have h1:=HA.out a ha
  have HR:=zA7 (show Ad.ends g now=now+(a:Int) from by unfold Ad.ends;rw[ha])
  have hw:IntKind.i64.wrap (now+(a:Int))=now+(a:Int):=by rw[IntKind.wrap_i64];omega
  simp only[Option.isSome_some,Option.getD_some]at c6 c7
  generalize Ad.ends g now=r at*
  generalize headA g=U at*
  clear c4 c5 HA ha
  go_enter Tryz.func28,Tryz.ntmps28
  go_wp2
  go_ret
  exact⟨by rw[HR.out];rfl,B0⟩
 |none=>
  rw[ha]at c6 c7
  simp only[Option.isSome_none,Option.getD_none]at c6 c7
  cases hx:g.exp with
  |some x=>
   rw[hx]at c4 c5
   simp only[Option.isSome_some,Option.getD_some]at c4 c5
   have HR:=zA7 (show Ad.ends g now=min x (now+34560000) from by unfold Ad.ends;rw[ha,hx])
   have hw:IntKind.i64.wrap (now+34560000)=now+34560000:=by rw[IntKind.wrap_i64];omega
   generalize Ad.ends g now=r at*
   generalize headA g=U at*
   clear HA ha hx c7
   go_enter Tryz.func28,Tryz.ntmps28
   go_wp2
   go_ret
   exact⟨by rw[HR.out];rfl,B0⟩
  |none=>
   rw[hx]at c4 c5
   simp only[Option.isSome_none,Option.getD_none]at c4 c5
   have HR:=zA7 (show Ad.ends g now=9223372036854775807 from by unfold Ad.ends;rw[ha,hx];rfl)
   generalize Ad.ends g now=r at*
   generalize headA g=U at*
   clear HA ha hx c7 c5
   go_enter Tryz.func28,Tryz.ntmps28
   go_wp2
   go_ret
   exact⟨by rw[HR.out];rfl,B0⟩
end Go.Proofs.YtabgoobcliijeaaGreatDoor
namespace Go.Proofs.YtabgoobcliijeaaGreatDoor
section
variable {P:Program} {ops:Array Oper} {md:Region.Mode} {C:World->Prop}
def FO(P:Program)(md:Region.Mode)(ops:Array Oper)(C:World->Prop)(n:Nat)(L:Array Bool->Act->Prop):Nat->Array Bool->Act->Prop
 |0,listed,a=>L listed a
 |f+1,listed,a=>Region.ready md ops listed≠ []/\ ∀i∈Region.ready md ops listed,i<n/\qOp P ops C i (FO P md ops C n L f (listed.setIfInBounds i true)) a
theorem eA0 {n g:Nat}{L:Array Bool->Act->Prop}{Q':Exit->Act->World->Prop}(hL: ∀listed a w,C w->L listed a->wpAny P md ops Q' g listed a w):
  ∀(f:Nat)(listed:Array Bool)(a:Act)(w:World),C w->FO P md ops C n L f listed a->wpAny P md ops Q' (f+g) listed a w
 |0,listed,a,w,hw,h=>by rw[Nat.zero_add];exact hL _ _ _ hw h
 |f+1,listed,a,w,hw,h=>by
  rw[show f+1+g=(f+g)+1 by omega]
  exact⟨fun h0=>absurd h0 h.1,fun i hi=>wpOp_of_qOp hw (fun a' w' hw' h'=>eA0 hL f _ a' w' hw' h') (h.2 i hi).2⟩
theorem qAq {n i:Nat}{oi:Oper}{v:Value}{L:Array Bool->Act->Prop}(hi:ops[i]? =some oi)(hsel: ∀(j:Nat)(o:Oper) cs b,ops[j]? =some o->o.op≠ .select cs b)
  (hs:Region.sinkB md ops n=true)(hc:Region.chainB md ops n=true)(hn:n<ops.size)(hin:i<n)
  (hdone: ∀listed a,L listed a-> ∀j∈Region.ready md ops listed,n<=j):
  ∀(f:Nat)(listed:Array Bool)(a:Act),HeadInv md ops n listed->
   (∀j oj,ops[j]? =some oj->j≠i->listed.getD j true=false->(∀e∈oj.after,Region.binds md e=true->e.on≠i)->oi.apart ops oj=true)->
   i∈Region.ready md ops listed->YieldsIn P ops C oi v a->
   FO P md ops C n L f (listed.setIfInBounds i true) (a.put oi.dst v)->FO P md ops C n L (f+1) listed a:=by
 intro f
 induction f with
 |zero=>
  intro listed a inv _ hr hy H
  have hun:=(mem_ready.1 hr).1
  refine⟨fun h=>(by rw[h]at hr;cases hr),fun j hj=>?_⟩
  have hjn:j<n:=by
   rcases Nat.lt_or_ge j n with h|h
   ·exact h
   ·exact absurd hj (tail_waits hs hc hn inv _ i rfl hin hun j h)
  refine⟨hjn,?_⟩
  by_cases hji:j=i
  ·subst hji;exact hy.qOp hi H
  ·have:=hdone _ _ H j (ready_mono hj hji)
   omega
 |succ f ih=>
  intro listed a inv hfree hr hy H
  have hun:=(mem_ready.1 hr).1
  refine⟨fun h=>(by rw[h]at hr;cases hr),fun j hj=>?_⟩
  have hjn:j<n:=by
   rcases Nat.lt_or_ge j n with h|h
   ·exact h
   ·exact absurd hj (tail_waits hs hc hn inv _ i rfl hin hun j h)
  refine⟨hjn,?_⟩
  by_cases hji:j=i
  ·subst hji;exact hy.qOp hi H
  ·have h1:=(H.2 j (ready_mono hj hji)).2
   obtain⟨hjun,oj,hoj,hall⟩:=mem_ready.1 hj
   have hnot: ∀e∈oj.after,Region.binds md e=true->e.on≠i:=fun e he hb heq=>by
    have h1:=hall e he hb
    rw[heq,getD_both hun]at h1
    cases h1
   have h2:=qOp_put hoj (hfree j oj hoj hji hjun hnot) (fun cs b=>hsel i oi cs b hi) (fun cs b=>hsel j oj cs b hoj) hy h1
   have hfree': ∀k ok,ops[k]? =some ok->k≠i->(listed.setIfInBounds j true).getD k true=false->
     (∀e∈ok.after,Region.binds md e=true->e.on≠i)->oi.apart ops ok=true:=fun k ok hk hki hun hno=>by
    refine hfree k ok hk hki ?_ hno
    by_cases hjk:j=k
    ·subst hjk;exact hjun
    ·rw[getD_set_ne true hjk]at hun;exact hun
   refine qOp_mono (fun a' h3=>ih (listed.setIfInBounds j true) a' (inv.set hj hjn) hfree' (ready_mono hr (Ne.symm hji)) h3.1 ?_) h2
   rw[Array.setIfInBounds_comm _ _ hji]
   exact h3.2
theorem dAZ {n g:Nat}{Lq:Act->Prop}(hsel:Region.noSelect ops=true)(hs:Region.sinkB md ops n=true)(hc:Region.chainB md ops n=true)(hn:n<ops.size):
  ∀(l:List Oper)(k:Nat)(listed:Array Bool)(a:Act),(∀j,j<l.length->l[j]? =ops[k+j]?)->k+l.length=n->HeadInv md ops n listed->
  Region.lexHead md ops g l.length k listed=true->wpQuiet P ops C Lq l a->
  FO P md ops C n (fun listed' a'=>Region.seqB md ops g n listed'=true/\Lq a') l.length listed a
 | [],k,listed,a,_,hk,_,hB,h=>by
  have:k=n:=by simpa using hk
  subst this
  exact⟨by simpa[Region.lexHead]using hB,h⟩
 |o::l,k,listed,a,hl,hk,inv,hB,h=>by
  have h0:ops[k]? =some o:=by simpa using(hl 0 (by simp)).symm
  simp only[zB5,Region.lexHead,Bool.and_eq_true]at hB
  obtain⟨⟨hr,hf⟩,hB'⟩:=hB
  have hkn:k<n:=by simp only[zB5]at hk;omega
  have hr':k∈Region.ready md ops listed:=by simpa using hr
  have hst:qOp P ops C k (wpQuiet P ops C Lq l) a:=by unfold qOp;simp only[h0];exact h
  obtain⟨v,hy,hK⟩:=yieldsIn_of_qOp h0 hst
  exact qAq h0 (Region.noSelect_spec hsel) hs hc hn hkn (fun listed' a' hL=>seqB_ready hL.1) l.length listed a inv (Region.free_spec h0 hf) hr' hy
   (dAZ hsel hs hc hn l (k+1) _ _ (fun j hj=>by have:=hl (j+1) (by simp;omega);simpa[Nat.add_assoc,Nat.add_comm 1 j]using this) (by simp only[zB5]at hk;omega) (inv.set hr' hkn) hB' hK)
end
theorem nA9 {P:Program}{C:World->Prop}{id:Nat}{Q:Exit->Act->World->Prop}{a:Act}{w:World}{l:List Oper}(n:Nat)(hm:P.follows .mixedOrders=true)(hB:Region.lexTailB .any l.toArray n=true)(hC:C w.drew)
  (h:wpQuiet P l.toArray C (fun a'=> ∀w',C w'->wpList P l.toArray Q (l.drop n) a' w') (l.take n) a):(Code.region id l.toArray true).wp P Q a w:=by
 simp only[Region.lexTailB,Bool.and_eq_true,decide_eq_true_eq]at hB
 obtain⟨⟨⟨⟨hsel,hn⟩,hs⟩,hc⟩,hlex⟩:=hB
 have hn':n<l.length:=by simpa using hn
 have htl:(l.take n).length=n:=by simp;omega
 have hdl:(l.drop n).length=l.toArray.size-n:=by simp
 have inv0:HeadInv .any l.toArray n (Array.replicate l.toArray.size false):=
  ⟨by simp,fun j oj _ hl=>(by rw[getD_replicate_false]at hl;cases hl),fun t _ ht=>getD_in (by simpa using ht) (getD_replicate_false _ _)⟩
 have H:=dAZ (md:= .any) (g:=l.toArray.size-n) hsel hs hc hn (l.take n) 0 _ a (fun j hj=>by
  have hj':j<n:=by rw[htl]at hj;exact hj
  simp[hj']) (by simpa using htl) inv0 (by rw[htl];exact hlex) h
 refine wp_region_any hm ?_
 have:=eA0 (Q':=Q) (g:=l.toArray.size-n) (fun listed a' w' hw' hL=>by
  have:=wpAny_of_seq (md:= .any) (Q':=Q) (l.drop n) n listed a' w' (fun j=>by simp[List.getElem?_drop]) (by rw[hdl];exact hL.1) (hL.2 w' hw')
  rwa [hdl]at this) _ _ _ _ hC H
 rw[htl,show n+(l.toArray.size-n)=l.toArray.size by omega]at this
 exact this
end Go.Proofs.YtabgoobcliijeaaGreatDoor
namespace Go.Proofs.YtabgoobcliijeaaGreatDoor
open Go.RowKit
theorem YY {u:Ur.URL}(ha:u.host.addr.length=16){p:ByteArray}(hp:p=⟨u.path.toArray⟩):(pA u)[20]? =some (.string p):=by
 rw[vI u ha,hp];rfl
theorem pAU(u:Ur.URL)(ha:u.host.addr.length=16)(hn:u.host.name.length<=1048000)(w:World)(hw:Std w):
  Calls Tryz.prog 54 #[.agg (pA u)] w fun e w'=>e= .returned (.bool (Ur.right u))/\Below w.heap.size w w':=by
 have H1:=zA7 (fun W hW=>cAD u.host ha hn W hW)
 have HU:=zA7 (aC u ha)
 have HH:=zA7 (gG u ha)
 obtain⟨p,hp⟩: ∃p:ByteArray,p=⟨u.path.toArray⟩:=⟨_,rfl⟩
 have hpl:p.data.toList=u.path:=by rw[hp]
 have H2:=fun W=>lAV p W
 rw[hpl]at H2
 have H2:=zA7 H2
 have YR:=zA7 (NR u ha)
 have ZR:=zA7 (YY ha hp)
 have hr:Ur.right u=(dA.can u.host&& (decide (1<=u.port/\u.port<=65535)&&Ur.EC u.path)):=rfl
 have HR:=zA7 hr
 have R0:=Row.new w 33 (pA u)
 have B0:=(Below.refl w.heap.size w).alloc (zB3 _) (.cells (pA u) 33)
 clear hp hpl hr
 generalize fA u.host=X at*
 generalize pA u=U at*
 generalize Ur.EC u.path=q at*
 generalize dA.can u.host=b at*
 rw[HR.out]
 clear HR
 generalize u.port=n at*
 go_enter Tryz.func54,Tryz.ntmps54
 go_wp2_with (refine iA 4 rfl ?_;refine QC rfl 31 _ rfl w.heap.size 1 18 rfl R0 Tryz.underlying31 rfl tA (by rw[HU.out];decide) X HH.out ?_)
 generalize w.alloc (.cells U 33)=w0 at*
 refine(H1.out _ (hw.below B0)).mono ?_
 rintro e v1 ⟨rfl,d1⟩
 have R1:=R0.stays d1
 have B1:=B0.trans (d1.mono B0.size)
 have c19:=(R1.cell 19).trans YR.out
 have c20:=(R1.cell 20).trans ZR.out
 clear R0 B0 d1
 cases b with
 |false=>
  go_wp2
  go_ret
  exact⟨rfl,B1⟩
 |true=>
  by_cases h1:1<=n
  ·by_cases h2:n<=65535
   ·go_wp2_with (go_at_call 86;refine(H2.out _).mono ?_;rintro e v2 ⟨rfl,rfl⟩)
    go_ret
    exact⟨vA (by rw[zA9 (show 1<=n/\n<=65535 from⟨h1,h2⟩)];rfl),B1⟩
   ·go_wp2
    go_ret
    exact⟨vA (by rw[zA8 (show¬n<=65535 by omega)];simp),B1⟩
  ·go_wp2
   go_ret
   exact⟨vA (by rw[zA8 (show¬1<=n by omega)];simp),B1⟩
namespace Ur
end Ur
end Go.Proofs.YtabgoobcliijeaaGreatDoor
namespace Go.Proofs.YtabgoobcliijeaaGreatDoor
open Go.RowKit Go.Maps
namespace Ad
noncomputable def uI(u:Ur.URL)(r:Hd.Raw)(now:Int):Int:=if Ur.right u=false then 41 else if Hd.jC r=false then 82 else if now<0\/1099511627776<now then 122 else 0
variable {rs:List Ru.Rule} {u:Ur.URL} {r:Hd.Raw} {now:Int}
theorem pAP(h:uI u r now≠0):bD rs u r now=(uI u r now,zero):=by
 unfold uI bD at*
 split
 ·rfl
 ·rename_i h1
  rw[if_neg h1]at h
  split
  ·rfl
  ·rename_i h2
   rw[if_neg h2]at h
   split
   ·rename_i h3;unfold take;rw[if_pos h3]
   ·rename_i h3;rw[if_neg h3]at h;exact absurd rfl h
theorem pAQ(h:uI u r now=0): ∃g,Hd.Good g/\r=Hd.Raw.of g/\(0<=now/\now<=1099511627776)/\Ur.right u=true/\bD rs u r now=take rs u g now:=by
 unfold uI at h
 split at h
 ·cases h
 ·rename_i h1
  split at h
  ·cases h
  ·rename_i h2
   split at h
   ·cases h
   ·rename_i h3
    obtain⟨g,hg,e⟩:=Hd.YK (by simpa using h2)
    have h1:Ur.right u=true:=by simpa using h1
    exact⟨g,hg,e,by omega,h1,by rw[e,FH h1 hg]⟩
theorem oAK {g:Hd.Head}(hn:0<=now/\now<=1099511627776):take rs u g now=if(whose rs u.host g.domain).1≠0 then((whose rs u.host g.domain).1,zero)else if risk g u.secure (whose rs u.host g.domain).2.2≠0 then(risk g u.secure (whose rs u.host g.domain).2.2,zero)else(0,kB u g now (whose rs u.host g.domain).2.1 (whose rs u.host g.domain).2.2):=by
 unfold take
 rw[if_neg (by omega)]
 split
 ·rfl
 ·unfold risk
  split
  ·rfl
  ·split
   ·rfl
   ·split
    ·rfl
    ·rfl
end Ad
theorem pAO(u:Ur.URL)(ha:u.host.addr.length=16)(hn:u.host.name.length<=9000)(r:Hd.Raw)(hr:lN r)(now:Int)(w:World)(hw:uB w):
  Calls Tryz.prog 24 #[.agg (pA u),.agg (uA r),.int .i64 now] w fun e w'=>e= .returned (.int .i64 (Ad.uI u r now))/\Below w.heap.size w w':=by
 have HU:=zA7 (aC u ha)
 have HR:=zA7 (show(uA r).size=11 from rfl)
 have H1:=zA7 (fun W hW=>pAU u ha (by omega) W hW)
 have H2:=zA7 (fun W hW=>nAh r hr W hW)
 have HN:=zA7 (show Ad.uI u r now=if Ur.right u=false then 41 else if Hd.jC r=false then 82 else if now<0\/1099511627776<now then 122 else 0 from rfl)
 have R0:=Row.new w 33 (pA u)
 have B0:=(Below.refl w.heap.size w).alloc (zB3 _) (.cells (pA u) 33)
 have hN:(w.alloc (.cells (pA u) 33)).heap.size=w.heap.size+1:=by simp
 have S1:=Row.new (w.alloc (.cells (pA u) 33)) 35 (uA r)
 rw[hN]at S1
 have R1:=R0.alloc (.cells (uA r) 35)
 have C1:=B0.alloc B0.size (.cells (uA r) 35)
 clear R0 B0 hN ha hn hr
 generalize Ad.uI u r now=x at*
 generalize Ur.right u=b1 at*
 generalize Hd.jC r=b2 at*
 generalize pA u=U at*
 generalize uA r=V at*
 go_enter Tryz.func24,Tryz.ntmps24
 go_wp2_with (refine iA 8 rfl ?_;refine qA rfl 33 _ rfl w.heap.size rfl R1 Tryz.underlying33 rfl (by rw[HU.out];exact qB) ?_)
 generalize(w.alloc (.cells U 33)).alloc (.cells V 35)=x1 at*
 refine(H1.out _ (hw.below C1).UE.std).mono ?_
 rintro e v1 ⟨rfl,d1⟩
 have C2:=C1.trans (d1.mono C1.size)
 have S2:=S1.stays d1
 clear H1 S1 R1 C1 d1
 cases b1
 ·have hx:Hid (x=41):=zA7 (by rw[HN.out,if_pos rfl])
  clear HN H2
  go_wp2
  go_ret
  exact⟨uC hx.out.symm,C2⟩
 ·go_wp2_with (refine iA 12 rfl ?_;refine qA rfl 35 _ rfl (w.heap.size+1) rfl S2 Tryz.underlying35 rfl (by rw[HR.out];exact WA) ?_)
  refine(H2.out _ (hw.below C2)).mono ?_
  rintro e v2 ⟨rfl,d2⟩
  have C3:=C2.trans (d2.mono C2.size)
  clear H2 S2 C2 d2
  cases b2
  ·have hx:Hid (x=82):=zA7 (by rw[HN.out,if_neg (by decide),if_pos rfl])
   clear HN
   go_wp2
   go_ret
   exact⟨uC hx.out.symm,C3⟩
  ·have h3:now<0\/(¬now<0/\1099511627776<now)\/(¬now<0/\ ¬1099511627776<now):=by omega
   rcases h3 with h|⟨h,k⟩|⟨h,k⟩
   ·have hx:Hid (x=122):=zA7 (by rw[HN.out,if_neg (by decide),if_neg (by decide),if_pos (.inl h)])
    clear HN
    go_wp2
    go_ret
    exact⟨uC hx.out.symm,C3⟩
   ·have hx:Hid (x=122):=zA7 (by rw[HN.out,if_neg (by decide),if_neg (by decide),if_pos (.inr k)])
    clear HN
    go_wp2
    go_ret
    exact⟨uC hx.out.symm,C3⟩
   ·have hx:Hid (x=0):=zA7 (by rw[HN.out,if_neg (by decide),if_neg (by decide),if_neg (by omega)])
    clear HN
    go_wp2
    go_ret
    exact⟨uC hx.out.symm,C3⟩
theorem QU {a b:World}{P:Ending->Prop}(hC:Below a.heap.size a b){f:FuncId}{args:Array Value}(h:Calls Tryz.prog f args b fun e w'=>P e/\Below b.heap.size b w'):
  Calls Tryz.prog f args b fun e w'=>P e/\Below a.heap.size a w':=
 h.mono fun _ _ ⟨h1,h2⟩=>⟨h1,hC.trans (h2.mono hC.size)⟩
theorem rY(rs:List Ru.Rule)(u:Ur.URL)(ha:u.host.addr.length=16)(hn:u.host.name.length<=9000)(hp:u.path.length<=9000)(r:Hd.Raw)(hr:lN r)(now:Int)(n₀ tb mb:Nat)(w:World)(hw:uB w)(hT:TabAt w n₀ tb mb (Sx.new rs)):
  Calls Tryz.prog 12 #[.pointer (some ⟨tb,0,none⟩),.agg (pA u),.agg (uA r),.int .i64 now] w (yD (Ad.bD rs u r now) w):=by
 have z0:=iG
 have z1:=BD
 have HZ:=zA7 (show(gA Ma.oA).size=29 from rfl)
 have HZ1:=zA7 (zE Ma.oA)
 have SK:=zA7 (show(fA dA.zero).size=18 from rfl)
 have HU:=zA7 (aC u ha)
 have HR:=zA7 (show(uA r).size=11 from rfl)
 have gD:=zA7 (gG u ha)
 have bH:=zA7 (fun W hW=>pAO u ha hn r hr now W hW)
 have HP:Hid (∀o w',Ad.bD rs u r now=o->Below w.heap.size w w'->yD (Ad.bD rs u r now) w (.returned (.tuple #[.agg (gA o.2),.int .i64 o.1])) w'):=zA7 (fun o w' h hb=>by subst h;exact⟨rfl,hb⟩)
 generalize yD (Ad.bD rs u r now) w=post at*
 have R0:=Row.new w 33 (pA u)
 have B0:=(Below.refl w.heap.size w).alloc (zB3 _) (.cells (pA u) 33)
 have hN:(w.alloc (.cells (pA u) 33)).heap.size=w.heap.size+1:=by simp
 have S1:=Row.new (w.alloc (.cells (pA u) 33)) 35 (uA r)
 rw[hN]at S1
 have R1:=R0.alloc (.cells (uA r) 35)
 have B1:=B0.alloc B0.size (.cells (uA r) 35)
 have EN:((w.alloc (.cells (pA u) 33)).alloc (.cells (uA r) 35)).heap.size=w.heap.size+2:=by simp
 have T2:=Row.new ((w.alloc (.cells (pA u) 33)).alloc (.cells (uA r) 35)) 39 (gA Ma.oA)
 rw[EN]at T2
 have R2:=R1.alloc (.cells (gA Ma.oA) 39)
 have S2:=S1.alloc (.cells (gA Ma.oA) 39)
 have C2:=B1.alloc B1.size (.cells (gA Ma.oA) 39)
 have s0:w.heap.size<=w.heap.size+2:=by omega
 clear R0 B0 hN S1 R1 B1 EN
 obtain⟨n,hun⟩: ∃n,Ad.uI u r now=n:=⟨_,rfl⟩
 rw[hun]at bH
 by_cases h0:n=0
 ·subst h0
  obtain⟨g,hg,rfl,FF,hur,htk⟩:=Ad.pAQ (rs:=rs) hun
  rw[htk,Ad.oAK FF]at HP
  rw[TL]at*
  have hgd:=hg.lH
  have HOW:=zA7 (fun W hW hT=>lAD rs u.host ⟨g.domain.toArray⟩ n₀ tb mb W hW ha hn (by rw[<-Oct.nA];show g.domain.length<=9000;omega) hT)
  unfold mP at HOW
  have MF:=zA7 (fun o W=>nAk g u.secure o (by have:=hg.few;omega) (by have:=hg.few;omega) W)
  have uJ:=zA7 (fun W=>lAU u ha hp g W)
  have oJ:=zA7 (fun W=>hAe g now FF hg W)
  have hol:=Ad.QW rs u.host g.domain ha
  have q0:(headA g)[0]? =some (.string ⟨g.name.toArray⟩):=rfl
  have q1:(headA g)[1]? =some (.string ⟨g.value.toArray⟩):=rfl
  have q2:(headA g)[2]? =some (.string ⟨g.domain.toArray⟩):=rfl
  have q8:(headA g)[8]? =some (.bool g.secure):=rfl
  have q9:(headA g)[9]? =some (.bool g.only):=rfl
  have aG:(headA g)[10]? =some (.int .i64 (g.same:Int)):=rfl
  have p0:(pA u)[0]? =some (.bool u.secure):=rfl
  have eD:=zA7 (fun x:Int×dA.Host×Bool=>fun(hx:x.2.1.addr.length=16)=>RY (Ad.kB u g now x.2.1 x.2.2) hx rfl)
  have mJ:=zA7 (fun x:Int×dA.Host×Bool=>fun(hx:x.2.1.addr.length=16)=>GD (Ad.kB u g now x.2.1 x.2.2) hx)
  have uE:=zA7 (fun x:Int×dA.Host×Bool=>zE (Ad.kB u g now x.2.1 x.2.2))
  unfold Ad.kB xT lA at eD
  dsimp only at eD
  have hcv: ∀x:Int×dA.Host×Bool,gA (Ad.kB u g now x.2.1 x.2.2)=gA ⟨g.name,g.value,x.2.1,x.2.2,Ad.pathOf u g,g.secure,g.only,g.same,Ad.ends g now,now,now,0⟩:=fun x=>rfl
  have hbd:(⟨g.domain.toArray⟩:ByteArray).data.toList=g.domain:=rfl
  rw[hbd]at HOW
  obtain⟨⟨oc,oh,oo⟩,oE⟩: ∃o,Ad.whose rs u.host g.domain=o:=⟨_,rfl⟩
  rw[oE]at HOW HP hol
  dsimp only at HOW HP hol
  have eD:=zA7 (eD.out (oc,oh,oo) hol)
  have mJ:=zA7 (mJ.out (oc,oh,oo) hol)
  have uE:=zA7 (uE.out (oc,oh,oo))
  have MF:=zA7 (MF.out oo)
  rw[hcv]at mJ uE
  dsimp only at eD mJ uE
  have HP:Hid (∀o w',(if oc≠0 then(oc,Ad.zero)else if Ad.risk g u.secure oo≠0 then(Ad.risk g u.secure oo,Ad.zero)else(0,⟨g.name,g.value,oh,oo,Ad.pathOf u g,g.secure,g.only,g.same,Ad.ends g now,now,now,0⟩))=o->Below w.heap.size w w'->post (.returned (.tuple #[.agg (gA o.2),.int .i64 o.1])) w'):=HP
  have NM:=zA7 (QA oh hol)
  have xX:=zA7 (aB oh)
  have yE:=zA7 hT
  generalize Ad.risk g u.secure oo=rk at*
  generalize Ad.pathOf u g=pa at*
  generalize Ad.ends g now=en at*
  clear hcv oE hol hgd hg htk hur FF hun ha hn hp hr hbd hT
  generalize fA u.host=H at*
  generalize u.secure=us at*
  generalize pA u=U at*
  generalize headA g=V at*
  go_enter Tryz.func12,Tryz.ntmps12
  go_wp2_with (first
   |(refine iA 15 rfl ?_;refine qA rfl 33 _ rfl w.heap.size rfl R2 Tryz.underlying33 rfl (by rw[HU.out];exact qB) ?_)
   |(refine iA 16 rfl ?_;refine qA rfl 35 _ rfl (w.heap.size+1) rfl S2 Tryz.underlying35 rfl (by rw[HR.out];exact WA) ?_))
  generalize((w.alloc (.cells U 33)).alloc (.cells V 35)).alloc (.cells (gA Ma.oA) 39)=x2 at*
  refine(bH.out _ (hw.below C2)).mono ?_
  rintro e v3 ⟨rfl,d3⟩
  have C3:=C2.trans (d3.mono C2.size)
  have T3:=T2.stays d3
  have R3:=R2.stays d3
  have S3:=S2.stays d3
  have c2:=(S3.cell 2).trans q2
  clear bH R2 S2 C2 d3 T2
  go_wp2_with (refine iA 26 rfl ?_;refine QC rfl 31 _ rfl w.heap.size 1 18 rfl R3 Tryz.underlying31 rfl tA (by rw[HU.out];decide) H gD.out ?_)
  refine(HOW.out _ (hw.below C3).UE.std (yE.out.stays C3)).mono ?_
  rintro e v4 ⟨rfl,d4⟩
  have C4:=C3.trans (d4.mono C3.size)
  have T4:=T3.stays d4
  have R4:=R3.stays d4
  have S4:=S3.stays d4
  obtain⟨eT,O5,C5,L5⟩:=JA 31 (fA dA.zero) (fA oh) C4 C4.size
  have T5:=L5 _ _ _ T4
  have R5:=L5 _ _ _ R4
  have S5:=L5 _ _ _ S4
  have c0:=(R5.cell 0).trans p0
  clear HOW R3 S3 C3 d4 T3 c2 R4 S4 T4 C4 L5
  by_cases h1:oc=0
  ·subst h1
   go_wp2_with (first
    |(refine wpList_store_row rfl 31 _ _ rfl v4.heap.size (fA oh) rfl rfl 31 _ eT (by rw[NM.out];exact tA) (by rw[NM.out,SK.out]) xX.out ?_)
    |(refine iA 37 rfl ?_;refine qA rfl 35 _ rfl (w.heap.size+1) rfl S5 Tryz.underlying35 rfl (by rw[HR.out];exact WA) ?_))
   clear eT c0
   generalize(v4.alloc (.cells (fA dA.zero) 31)).setRow v4.heap.size (fA oh)=x5 at*
   generalize v4.heap.size=g5 at*
   refine(MF.out _).mono ?_
   rintro e v6 ⟨rfl,d6⟩
   have C6:=C5.trans (d6.mono C5.size)
   have T6:=T5.stays d6
   have R6:=R5.stays d6
   have S6:=S5.stays d6
   have O6:=O5.stays d6
   clear MF R5 S5 T5 O5 C5 d6
   by_cases h2:rk=0
   ·subst h2
    have HPF:Hid (∀w',Below w.heap.size w w'->post (.returned (.tuple #[.agg (gA ⟨g.name,g.value,oh,oo,pa,g.secure,g.only,(g.same:Int),en,now,now,0⟩),.int .i64 0])) w'):=zA7 (fun w' hb=>HP.out (0,⟨g.name,g.value,oh,oo,pa,g.secure,g.only,(g.same:Int),en,now,now,0⟩) w' (by rw[if_neg (by simp),if_neg (by simp)]) hb)
    generalize gA ⟨g.name,g.value,oh,oo,pa,g.secure,g.only,(g.same:Int),en,now,now,0⟩=CC at*
    have D1:=zA7 (fun W (hC:Below v6.heap.size v6 W)=>QU hC (uJ.out W))
    have D2:=zA7 (fun W (hC:Below v6.heap.size v6 W)=>QU hC (oJ.out W))
    have RR:=zA7 (fun W (hC:Below v6.heap.size v6 W)=>R6.stays hC)
    have SS:=zA7 (fun W (hC:Below v6.heap.size v6 W)=>S6.stays hC)
    have OO:=zA7 (fun W (hC:Below v6.heap.size v6 W)=>O6.stays hC)
    clear R6 S6 O6 uJ oJ HP
    go_wp2_with fail
    refine nA9 (C:=fun W=>Below v6.heap.size v6 W) 20 (by kernel_rfl) (by kernel_rfl) (Below.refl _ _).drew ?_
    simp only[List.take_succ_cons,List.take_zero]
    refine kA ?_
    refine kA ?_ (v:= .string ⟨g.name.toArray⟩) (hv:=fun wq hC=>by have hcell:=((SS.out wq hC).cell 0).trans q0;go_simp;try with_reducible rfl)
    refine kA ?_
    refine kA ?_ (v:= .string ⟨g.value.toArray⟩) (hv:=fun wq hC=>by have hcell:=((SS.out wq hC).cell 1).trans q1;go_simp;try with_reducible rfl)
    refine oB (lC (by rfl) _ _ rfl _ rfl OO.out Tryz.underlying31 rfl (by rw[NM.out];exact tA)) ?_
    refine kA ?_
    refine oB (lC (by rfl) _ _ rfl _ rfl SS.out Tryz.underlying35 rfl (by rw[HR.out];exact WA)) ?_
    refine oB (lC (by rfl) _ _ rfl _ rfl RR.out Tryz.underlying33 rfl (by rw[HU.out];exact qB)) ?_
    refine QD (.string ⟨pa.toArray⟩) (fun wq hC=>by unfold Oper.quietAt;go_simp;exact D1.out wq hC) ?_
    refine kA ?_
    refine kA ?_ (v:= .bool g.secure) (hv:=fun wq hC=>by have hcell:=((SS.out wq hC).cell 8).trans q8;go_simp;try with_reducible rfl)
    refine kA ?_
    refine kA ?_ (v:= .bool g.only) (hv:=fun wq hC=>by have hcell:=((SS.out wq hC).cell 9).trans q9;go_simp;try with_reducible rfl)
    refine kA ?_
    refine kA ?_ (v:= .int .i64 (g.same:Int)) (hv:=fun wq hC=>by have hcell:=((SS.out wq hC).cell 10).trans aG;go_simp;try with_reducible rfl)
    refine oB (lC (by rfl) _ _ rfl _ rfl SS.out Tryz.underlying35 rfl (by rw[HR.out];exact WA)) ?_
    refine kA ?_
    refine QD (.int .i64 en) (fun wq hC=>by unfold Oper.quietAt;go_simp;exact D2.out wq hC) ?_
    refine kA ?_
    refine kA ?_
    refine wpQuiet_nil ?_
    intro w' hC
    have T7:=T6.stays hC
    have C7:=C6.trans (hC.mono C6.size)
    clear D1 D2 RR SS OO T6 C6
    simp only[List.drop_succ_cons,List.drop_zero]
    go_wp2_with (first
     |(refine iA 66 rfl ?_;refine XK rfl 39 _ rfl _ (by rfl) _ eD.out ?_)
     |(refine wpList_store_row rfl 39 _ _ rfl (w.heap.size+2) CC rfl rfl 39 _ T7 (by rw[mJ.out];exact rD) (by rw[mJ.out,HZ.out]) uE.out ?_))
    exact bodyPost_ret (v:= .tuple #[.agg CC,.int .i64 0]) (DA rfl _ _ (w.heap.size+2) _ _ _ rfl _ rfl (T7.whole _) Tryz.underlying39 rfl (by rw[mJ.out];exact rD)) rfl (HPF.out _ (below_setRow C7 s0 _))
   ·have hne:(rk !=0)=true:=by simpa using h2
    have HO:=zA7 (fun w'=>HP.out (rk,Ma.oA) w' (by rw[if_neg (by simp),if_pos h2];rfl))
    clear HP h2 uJ oJ R6 S6 O6
    go_wp2_with (refine wpList_store_row rfl 39 _ _ rfl (w.heap.size+2) (gA Ma.oA) rfl rfl 39 _ T6 (by rw[HZ.out];exact rD) rfl HZ1.out ?_)
    exact bodyPost_ret (v:= .tuple #[.agg (gA Ma.oA),.int .i64 rk]) (DA rfl _ _ (w.heap.size+2) _ _ _ rfl _ rfl (T6.whole _) Tryz.underlying39 rfl (by rw[HZ.out];exact rD)) rfl (HO.out _ (below_setRow C6 s0 _))
  ·have hne:(oc !=0)=true:=by simpa using h1
   have HO:=zA7 (fun w'=>HP.out (oc,Ma.oA) w' (by rw[if_pos h1];rfl))
   clear HP h1 uJ oJ R5 S5 MF
   go_wp2_with (first
    |(refine wpList_store_row rfl 31 _ _ rfl v4.heap.size (fA oh) rfl rfl 31 _ eT (by rw[NM.out];exact tA) (by rw[NM.out,SK.out]) xX.out ?_)
    |(refine wpList_store_row rfl 39 _ _ rfl (w.heap.size+2) (gA Ma.oA) rfl rfl 39 _ T5 (by rw[HZ.out];exact rD) rfl HZ1.out ?_))
   exact bodyPost_ret (v:= .tuple #[.agg (gA Ma.oA),.int .i64 oc]) (DA rfl _ _ (w.heap.size+2) _ _ _ rfl _ rfl (T5.whole _) Tryz.underlying39 rfl (by rw[HZ.out];exact rD)) rfl (HO.out _ (below_setRow C5 s0 _))
 ·have hne:(n !=0)=true:=by simpa using h0
  have HO:=zA7 (fun w'=>HP.out (n,Ma.oA) w' (by rw[<-hun];exact Ad.pAP (by rw[hun];exact h0)))
  clear HP hun h0
  generalize pA u=U at*
  generalize uA r=V at*
  go_enter Tryz.func12,Tryz.ntmps12
  go_wp2_with (first
   |(refine iA 15 rfl ?_;refine qA rfl 33 _ rfl w.heap.size rfl R2 Tryz.underlying33 rfl (by rw[HU.out];exact qB) ?_)
   |(refine iA 16 rfl ?_;refine qA rfl 35 _ rfl (w.heap.size+1) rfl S2 Tryz.underlying35 rfl (by rw[HR.out];exact WA) ?_))
  generalize((w.alloc (.cells U 33)).alloc (.cells V 35)).alloc (.cells (gA Ma.oA) 39)=x2 at*
  refine(bH.out _ (hw.below C2)).mono ?_
  rintro e v3 ⟨rfl,d3⟩
  have C3:=C2.trans (d3.mono C2.size)
  have T3:=T2.stays d3
  clear bH R2 S2 C2 d3 T2
  go_wp2_with (refine wpList_store_row rfl 39 _ _ rfl (w.heap.size+2) (gA Ma.oA) rfl rfl 39 _ T3 (by rw[HZ.out];exact rD) rfl HZ1.out ?_)
  exact bodyPost_ret (v:= .tuple #[.agg (gA Ma.oA),.int .i64 n]) (DA rfl _ _ (w.heap.size+2) _ _ _ rfl _ rfl (T3.whole _) Tryz.underlying39 rfl (by rw[HZ.out];exact rD)) rfl (HO.out _ (below_setRow C3 s0 _))
end Go.Proofs.YtabgoobcliijeaaGreatDoor
namespace Go.Proofs.YtabgoobcliijeaaGreatDoor
namespace Ad
open Oct
def gJ:dA.Host:=⟨1,[120,46,99,111,109],dA.BA⟩
def uS:Ur.URL:=⟨true,gJ,443,[47]⟩
def uP:Ur.URL:=⟨false,gJ,80,[47]⟩
theorem fR:Ur.parse [104,116,116,112,115,58,47,47,120,46,99,111,109]=(0,uS):=by decide+kernel
theorem GV:Ur.parse [104,116,116,112,58,47,47,120,46,99,111,109]=(0,uP):=by decide+kernel
def hA:Hd.Head:= {Hd.zero with name:= [95,95,72,111,115,116,45,97],value:= [98],path:= [47],secure:=true}
def hB:Hd.Head:= {hA with domain:= [120,46,99,111,109]}
theorem DV:Hd.parse [95,95,72,111,115,116,45,97,61,98,59,32,83,101,99,117,114,101,59,32,80,97,116,104,61,47]=(0,hA):=by decide+kernel
theorem EV:Hd.parse [95,95,72,111,115,116,45,97,61,98,59,32,83,101,99,117,114,101,59,32,80,97,116,104,61,47,59,32,68,111,109,97,105,110,61,120,46,99,111,109]=(0,hB):=by decide+kernel
theorem oAI:take [] uS hA 5=(0,⟨[95,95,72,111,115,116,45,97],[98],gJ,true,[47],true,false,0,never,5,5,0⟩):=by decide+kernel
theorem oAJ:take [] uS hB 5=(106,zero):=by decide+kernel
def sE:List Ru.Rule:= [⟨1,[99,111,109]⟩]
def n0:Hd.Head:= {Hd.zero with name:= [97],value:= [98],domain:= [97,46,49]}
theorem lAJ:Hd.parse [97,61,98,59,32,68,111,109,97,105,110,61,97,46,49]=(0,n0):=by decide+kernel
theorem oAN:take sE uP n0 0=(101,zero):=by decide+kernel
def n1:Hd.Head:= {Hd.zero with name:= [97],value:= [98],domain:= [99,111,109]}
theorem lAK:Hd.parse [97,61,98,59,32,68,111,109,97,105,110,61,99,111,109]=(0,n1):=by decide+kernel
theorem oAO:take sE uP n1 0=(102,zero):=by decide+kernel
def n2:Hd.Head:= {Hd.zero with name:= [97],value:= [98],domain:= [121,46,99,111,109]}
theorem lAL:Hd.parse [97,61,98,59,32,68,111,109,97,105,110,61,121,46,99,111,109]=(0,n2):=by decide+kernel
theorem oAP:take sE uP n2 0=(103,zero):=by decide+kernel
def n3:Hd.Head:= {Hd.zero with name:= [97],value:= [98],secure:=true}
theorem lAM:Hd.parse [97,61,98,59,32,83,101,99,117,114,101]=(0,n3):=by decide+kernel
theorem oAQ:take sE uP n3 0=(104,zero):=by decide+kernel
def n4:Hd.Head:= {Hd.zero with name:= [97],value:= [98],same:=1}
theorem lAN:Hd.parse [97,61,98,59,32,83,97,109,101,83,105,116,101,61,78,111,110,101]=(0,n4):=by decide+kernel
theorem oAR:take sE uP n4 0=(105,zero):=by decide+kernel
def n5:Hd.Head:= {Hd.zero with name:= [95,95,83,101,99,117,114,101,45,97],value:= [98]}
theorem lAO:Hd.parse [95,95,83,101,99,117,114,101,45,97,61,98]=(0,n5):=by decide+kernel
theorem oAS:take sE uP n5 0=(106,zero):=by decide+kernel
def nP:Hd.Head:= {Hd.zero with name:= [97],value:= [98]}
theorem FV:Hd.parse [97,61,98]=(0,nP):=by decide+kernel
theorem oAB:take sE uP nP (-1)=(122,zero):=by decide+kernel
theorem qAD:Ur.right Ur.zero=false:=by decide+kernel
end Ad
end Go.Proofs.YtabgoobcliijeaaGreatDoor
