/- Plain lemmas on cookies in their places: what stands there as a set, whatever its order; the oldest one; by rising numbers. No program is named here. -/
import Derived.Test.YtdaaoopkkhfbhaaGreatDoorY7
import Derived.StillTail
import Derived.Carry
import Derived.Deep.Slices
import Derived.Test.YtdaaoopkkhfbhaaGreatDoorY6
set_option maxHeartbeats 8000000
set_option maxRecDepth 100000
namespace Go.Proofs.YtdaaoopkkhfbhaaGreatDoor
namespace Sh
open Ma
theorem JP {s:Shelf}{c:iA}{k:Kept}(h:s.l.find? (hit c)=some k): ∃i,place s c=some i/\s.l[i]? =some k/\key k.c c=true:=by
 rw[List.find?_eq_some_iff_getElem]at h
 obtain⟨h1,i,hi,h2,h3⟩:=h
 refine⟨i,?_,by rw[List.getElem?_eq_getElem hi,h2],h1⟩
 unfold place
 rw[List.findIdx?_eq_some_iff_getElem]
 exact⟨hi,by rw[h2];exact h1,fun j hj=>by have:=h3 j hj;simpa using this⟩
theorem bF {s:Shelf}{c:iA}(h:s.l.find? (hit c)=none):place s c=none:=by
 unfold place
 rw[List.findIdx?_eq_none_iff]
 intro k hk
 have:=List.find?_eq_none.1 h k hk
 simpa using this
theorem IQ {f:Kept->Kept} : ∀ {l:List Kept}{i:Nat}{k:Kept},l[i]? =some k->(l.modify i f).Perm (f k::l.eraseIdx i)
 | [],i,k,h=>by simp at h
 |a::l,0,k,h=>by
  have e:a=k:=by simpa using h
  subst e
  rw[List.modify_zero_cons,List.eraseIdx_zero,List.tail_cons]
 |a::l,i+1,k,h=>by
  have ih:=IQ (f:=f) (l:=l) (i:=i) (k:=k) (by simpa using h)
  rw[List.modify_succ_cons,List.eraseIdx_cons_succ]
  exact(ih.cons a).trans (List.Perm.swap _ _ _)
theorem mM: ∀ {l:List Kept}{i:Nat}{k:Kept}{c:iA},l.Pairwise (fun a b=>key a.c b.c=false)->l[i]? =some k->key k.c c=true->l.filter (fun x=> !hit c x)=l.eraseIdx i
 | [],i,k,c,_,h,_=>by simp at h
 |a::l,0,k,c,hp,h,hk=>by
  have e:a=k:=by simpa using h
  subst e
  obtain⟨p1,p2⟩:=List.pairwise_cons.1 hp
  have e1:(!hit c a)=false:=by unfold hit;rw[hk];rfl
  rw[List.filter_cons_of_neg (by rw[e1];simp),List.eraseIdx_zero,List.tail_cons,List.filter_eq_self]
  intro x hx
  show(!key x.c c)=true
  rw[<-VI hk,BE,p1 x hx]
  rfl
 |a::l,i+1,k,c,hp,h,hk=>by
  obtain⟨p1,p2⟩:=List.pairwise_cons.1 hp
  have h2:l[i]? =some k:=by simpa using h
  have hm:=List.mem_of_getElem? h2
  have e1:(!hit c a)=true:=by
   show(!key a.c c)=true
   rw[<-VI hk,p1 k hm]
   rfl
  rw[List.filter_cons_of_pos (p:=fun x=> !hit c x) e1,List.eraseIdx_cons_succ,mM p2 h2 hk]
theorem Well.keys {s:Shelf}(h:Well s):s.l.Pairwise fun a b=>key a.c b.c=false:=h.apart.imp fun h=>h.1
theorem filter_none {s:Shelf}{c:iA}(h:s.l.find? (hit c)=none):s.l.filter (fun x=> !hit c x)=s.l:=by
 rw[List.filter_eq_self]
 intro x hx
 have:=List.find?_eq_none.1 h x hx
 simpa using this
theorem jA3 {s:Shelf}(h:Well s){c:iA}{k:Kept}(hf:s.l.find? (hit c)=some k)(site:List UInt8):
  (put s c site).2=true/\(put s c site).1.last=s.last/\(put s c site).1.l.Perm (old c site k::s.l.filter fun x=> !hit c x)/\key (old c site k).c c=true:=by
 obtain⟨i,h1,h2,h3⟩:=JP hf
 unfold put
 rw[h1]
 refine⟨rfl,rfl,?_,?_⟩
 ·rw[mM h.keys h2 h3]
  exact IQ h2
 ·rw[tQ (rY h3)];exact h3
theorem iAY {s:Shelf}{c:iA}(hf:s.l.find? (hit c)=none)(site:List UInt8):
  (put s c site).2=false/\(put s c site).1.last=s.last+1/\(put s c site).1.l.Perm (⟨{c with seq:=s.last+1},site⟩::s.l.filter fun x=> !hit c x)/\key {c with seq:=s.last+1} c=true:=by
 unfold put
 rw[bF hf]
 refine⟨rfl,rfl,?_,kF c⟩
 rw[filter_none hf]
 exact List.perm_append_comm
theorem cAE {s:Shelf}(h:Well s)(c:iA):(drop s c).1.l.Perm (s.l.filter fun x=> !hit c x)/\(drop s c).1.last=s.last/\(drop s c).2=(s.l.find? (hit c)).isSome:=by
 unfold drop
 cases e:s.l.find? (hit c)with
 |none=>rw[bF e,filter_none e];exact⟨List.Perm.refl _,rfl,rfl⟩
 |some k=>
  obtain⟨i,h1,h2,h3⟩:=JP e
  rw[h1,mM h.keys h2 h3]
  exact⟨List.Perm.refl _,rfl,rfl⟩
theorem mA4 {s:Shelf}(h:Well s){c:iA}{k:Kept}(hf:s.l.find? (hit c)=some k)(now:Int):
  (use s c now).2=true/\(use s c now).1.last=s.last/\(use s c now).1.l.Perm (used now k::s.l.filter fun x=> !hit c x)/\key (used now k).c c=true:=by
 obtain⟨i,h1,h2,h3⟩:=JP hf
 unfold use
 rw[h1]
 refine⟨rfl,rfl,?_,h3⟩
 rw[mM h.keys h2 h3]
 exact IQ h2
theorem mA3 {s:Shelf}{c:iA}(hf:s.l.find? (hit c)=none)(now:Int):use s c now=(s,false):=by
 unfold use
 rw[bF hf]
theorem dZ: ∀ {l:List Kept}{b n:Int},l.Pairwise (fun a b=>a.c.seq<b.c.seq)->(∀k∈l,b<k.c.seq/\k.c.seq<=n)->b<=n->(l.length:Int)<=n-b
 | [],b,n,_,_,h=>by simp;omega
 |a::l,b,n,hp,hb,h=>by
  obtain⟨p1,p2⟩:=List.pairwise_cons.1 hp
  have ha:=hb a (by simp)
  have ih:=dZ (l:=l) (b:=a.c.seq) (n:=n) p2 (fun k hk=>⟨p1 k hk,(hb k (by simp[hk])).2⟩) ha.2
  rw[zB5]
  omega
theorem few {s:Shelf}(h:Well s):(s.l.length:Int)<=s.last:=by
 have:=dZ (l:=s.l) (b:=0) (n:=s.last) (h.apart.imp fun h=>h.2) (fun k hk=>by have:=h.num k hk;omega) h.last
 omega
def less(a b:Kept):Bool:=decide (a.c.used<b.c.used\/(a.c.used=b.c.used/\a.c.seq<b.c.seq))
def Least(p:Kept->Bool)(S:List Kept)(first:Kept)(found:Bool):Prop:=
 (found=false/\ ∀k∈S,p k=false)\/(found=true/\first∈S/\p first=true/\ ∀k∈S,p k=true->k=first\/less first k=true)
theorem gAe(p:Kept->Bool)(k:Kept):Least p [] k false:= .inl ⟨rfl,(fun k hk=>by cases hk)⟩
theorem NK {a b:Kept} :less a b=true↔a.c.used<b.c.used\/(a.c.used=b.c.used/\a.c.seq<b.c.seq):=by unfold less;rw[decide_eq_true_eq]
theorem gAf {p:Kept->Bool}{S:List Kept}{first k:Kept}{found:Bool}(h:Least p S first found)(hk:found=true->k.c.seq≠first.c.seq):
  Least p (S++ [k]) (if p k&& (!found||less k first)then k else first) (found||(p k&& (!found||less k first))):=by
 have split: ∀ {x:Kept},x∈S++ [k]->x∈S\/x=k:=fun hx=>by
  rcases List.mem_append.1 hx with e|e
  ·exact .inl e
  ·exact .inr (List.mem_singleton.1 e)
 cases hp:p k with
 |false=>
  rw[Bool.false_and,if_neg (by simp),Bool.or_false]
  rcases h with⟨rfl,h1⟩|⟨rfl,h1,h2,h3⟩
  ·refine .inl ⟨rfl,fun x hx=>?_⟩
   rcases split hx with e|rfl
   ·exact h1 x e
   ·exact hp
  ·refine .inr ⟨rfl,List.mem_append.2 (.inl h1),h2,fun x hx hpx=>?_⟩
   rcases split hx with e|rfl
   ·exact h3 x e hpx
   ·rw[hp]at hpx;cases hpx
 |true=>
  rw[Bool.true_and]
  rcases h with⟨rfl,h1⟩|⟨rfl,h1,h2,h3⟩
  ·rw[Bool.not_false,Bool.true_or,if_pos rfl,Bool.or_true]
   refine .inr ⟨rfl,by simp,hp,fun x hx hpx=>?_⟩
   rcases split hx with e|rfl
   ·rw[h1 x e]at hpx;cases hpx
   ·exact .inl rfl
  ·rw[Bool.not_true,Bool.false_or,Bool.true_or]
   have hne:=hk rfl
   cases hl:less k first with
   |true=>
    rw[if_pos rfl]
    refine .inr ⟨rfl,by simp,hp,fun x hx hpx=>?_⟩
    rcases split hx with e|rfl
    ·refine .inr ?_
     rw[NK]at hl⊢
     rcases h3 x e hpx with rfl|h4
     ·exact hl
     ·rw[NK]at h4
      omega
    ·exact .inl rfl
   |false=>
    rw[if_neg (by simp)]
    refine .inr ⟨rfl,List.mem_append.2 (.inl h1),h2,fun x hx hpx=>?_⟩
    rcases split hx with e|rfl
    ·exact h3 x e hpx
    ·refine .inr ?_
     rw[NK]
     have hl2: ¬(x.c.used<first.c.used\/(x.c.used=first.c.used/\x.c.seq<first.c.seq)):=fun h=>by
      rw[NK.2 h]at hl;cases hl
     omega
theorem pM: ∀ {l:List Kept}{b:Option iA}{c:iA},l.Pairwise (fun a b=>a.c.seq<b.c.seq)->(∀a,b=some a-> ∀k∈l,a.seq<k.c.seq)->l.foldl older b=some c->
  (∀x∈l,x.c.used=c.used->c.seq<=x.c.seq)/\ ∀a,b=some a->a.used=c.used->c.seq<=a.seq
 | [],b,c,_,_,h=>by
  refine⟨(fun x hx=>by cases hx),fun a ha _=>?_⟩
  have h:b=some c:=h
  rw[h]at ha
  rw[zB2 ha]
  exact Int.le_refl _
 |x::l,b,c,hp,hb,h=>by
  obtain⟨p1,p2⟩:=List.pairwise_cons.1 hp
  rw[List.foldl_cons]at h
  have hmin:=(qM l (older b x)).2 c h
  cases b with
  |none=>
   have e:older none x=some x.c:=rfl
   rw[e]at h hmin
   obtain⟨i1,i2⟩:=pM p2 (fun a ha k hk=>by rw[<-zB2 ha];exact p1 k hk) h
   refine⟨fun y hy hu=>?_,fun a ha=>by cases ha⟩
   rcases List.mem_cons.1 hy with rfl|hy
   ·exact i2 _ rfl hu
   ·exact i1 y hy hu
  |some a0=>
   have hb0:=hb a0 rfl
   by_cases hlt:x.c.used<a0.used
   ·have e:older (some a0) x=some x.c:=by unfold older;simp only;rw[if_pos hlt]
    rw[e]at h hmin
    obtain⟨i1,i2⟩:=pM p2 (fun a ha k hk=>by rw[<-zB2 ha];exact p1 k hk) h
    have h3:=hmin.2.2 x.c rfl
    refine⟨fun y hy hu=>?_,fun a ha hu=>?_⟩
    ·rcases List.mem_cons.1 hy with rfl|hy
     ·exact i2 _ rfl hu
     ·exact i1 y hy hu
    ·obtain rfl:=zB2 ha
     omega
   ·have e:older (some a0) x=some a0:=by unfold older;simp only;rw[if_neg hlt]
    rw[e]at h hmin
    obtain⟨i1,i2⟩:=pM p2 (fun a ha k hk=>by rw[<-zB2 ha];exact hb0 k (by simp[hk])) h
    have h3:=hmin.2.2 a0 rfl
    refine⟨fun y hy hu=>?_,fun a ha hu=>?_⟩
    ·rcases List.mem_cons.1 hy with rfl|hy
     ·have h4:=i2 a0 rfl (by omega)
      have h5:=hb0 y (by simp)
      omega
     ·exact i1 y hy hu
    ·exact i2 a ha hu
theorem Least.perm {p:Kept->Bool}{S S':List Kept}{first:Kept}{found:Bool}(h:Least p S first found)(hp:S.Perm S'):Least p S' first found:=by
 rcases h with⟨h0,h1⟩|⟨h0,h1,h2,h3⟩
 ·exact .inl ⟨h0,fun k hk=>h1 k (hp.mem_iff.2 hk)⟩
 ·exact .inr ⟨h0,hp.mem_iff.1 h1,h2,fun k hk=>h3 k (hp.mem_iff.2 hk)⟩
theorem Well.one {s:Shelf}(h:Well s){a b:Kept}(ha:a∈s.l)(hb:b∈s.l)(he:a.c.seq=b.c.seq):a=b:=by
 obtain⟨i,hi⟩:=List.getElem?_of_mem ha
 obtain⟨j,hj⟩:=List.getElem?_of_mem hb
 obtain⟨i1,i2⟩:=List.getElem?_eq_some_iff.1 hi
 obtain⟨j1,j2⟩:=List.getElem?_eq_some_iff.1 hj
 have hp:=List.pairwise_iff_getElem.1 h.apart
 rcases Nat.lt_trichotomy i j with r|r|r
 ·have:=(hp i j i1 j1 r).2;rw[i2,j2]at this;omega
 ·subst r;rw[<-i2,<-j2]
 ·have:=(hp j i j1 i1 r).2;rw[i2,j2]at this;omega
theorem hAS {p:Kept->Bool}{s:Shelf}(hw:Well s){first:Kept}{found:Bool}(h:Least p s.l first found):oldest p s=if found then some first.c else none:=by
 rcases h with⟨rfl,h1⟩|⟨rfl,h1,h2,h3⟩
 ·rw[if_neg (by simp),TQ,List.filter_eq_nil_iff]
  intro k hk
  rw[h1 k hk];simp
 ·rw[if_pos rfl]
  cases e:oldest p s with
  |none=>
   rw[TQ,List.filter_eq_nil_iff]at e
   exact absurd h2 (e first h1)
  |some c=>
   obtain⟨⟨k,hk,hpk,rfl⟩,hmin⟩:=lN e
   have e2:=pM (l:=s.l.filter p) (b:=none) ((hw.apart.imp fun h=>h.2).sublist List.filter_sublist) (fun a ha=>by cases ha) e
   have m1:=hmin first h1 h2
   rcases h3 k hk hpk with rfl|h4
   ·rfl
   ·rw[NK]at h4
    have m2:=e2.1 first (List.mem_filter.2 ⟨h1,h2⟩) (by omega)
    omega
theorem cZ: ∀ {l m:List iA},l.Perm m->l.Pairwise (fun a b=>a.seq<b.seq)->m.Pairwise (fun a b=>a.seq<b.seq)->l=m
 | [],m,hp,_,_=>hp.nil_eq
 |a::l,[],hp,_,_=>by have:=hp.length_eq;simp at this
 |a::l,b::m,hp,h1,h2=>by
  obtain⟨p1,p2⟩:=List.pairwise_cons.1 h1
  obtain⟨q1,q2⟩:=List.pairwise_cons.1 h2
  have e:a=b:=by
   have ha:=hp.mem_iff.1 (show a∈a::l by simp)
   have hb:=hp.mem_iff.2 (show b∈b::m by simp)
   rcases List.mem_cons.1 ha with e|ha
   ·exact e
   ·rcases List.mem_cons.1 hb with e|hb
    ·exact e.symm
    ·have:=q1 a ha
     have:=p1 b hb
     omega
  subst e
  rw[cZ (List.Perm.cons_inv hp) p2 q2]
theorem ZO {s:Shelf}(h:Well s):(all s).Pairwise fun a b=>a.seq<b.seq:=(aAB h).imp fun h=>h.2
def alive(now:Int)(k:Kept):Bool:=decide (now<k.c.expires)
theorem cAY(s:Shelf)(now:Int):(expire s now).1.l=s.l.filter (alive now)/\(expire s now).1.last=s.last/\(expire s now).2=s.l.countP fun k=> !alive now k:=by
 refine⟨rfl,rfl,?_⟩
 show s.l.length- (s.l.filter (alive now)).length=_
 rw[<-List.countP_eq_length_filter]
 have:=List.length_eq_countP_add_countP (p:=alive now) (l:=s.l)
 have e:(s.l.countP fun k=>decide ¬alive now k=true)=s.l.countP fun k=> !alive now k:=by
  congr 1;funext k;cases alive now k<;>rfl
 omega
end Sh
end Go.Proofs.YtdaaoopkkhfbhaaGreatDoor
namespace Go.Proofs.YtdaaoopkkhfbhaaGreatDoor
section
variable {P:Program} {ops:Array Oper} {md:Region.Mode} {C:World->Prop}
def mL(P:Program)(md:Region.Mode)(ops:Array Oper)(C:World->Prop)(n:Nat)(L:Array Bool->Act->Prop):Nat->Array Bool->Act->Prop
 |0,listed,a=>L listed a
 |f+1,listed,a=>Region.ready md ops listed≠ []/\ ∀i∈Region.ready md ops listed,i<n/\qOp P ops C i (mL P md ops C n L f (listed.setIfInBounds i true)) a
theorem V6 {n g:Nat}{L:Array Bool->Act->Prop}{Q':Exit->Act->World->Prop}(hL: ∀listed a w,C w->L listed a->wpAny P md ops Q' g listed a w):
  ∀(f:Nat)(listed:Array Bool)(a:Act)(w:World),C w->mL P md ops C n L f listed a->wpAny P md ops Q' (f+g) listed a w
 |0,listed,a,w,hw,h=>by rw[Nat.zero_add];exact hL _ _ _ hw h
 |f+1,listed,a,w,hw,h=>by
  rw[show f+1+g=(f+g)+1 by omega]
  exact⟨fun h0=>absurd h0 h.1,fun i hi=>wpOp_of_qOp hw (fun a' w' hw' h'=>V6 hL f _ a' w' hw' h') (h.2 i hi).2⟩
theorem mAD {n i:Nat}{oi:Oper}{v:Value}{L:Array Bool->Act->Prop}(hi:ops[i]? =some oi)(hsel: ∀(j:Nat)(o:Oper) cs b,ops[j]? =some o->o.op≠ .select cs b)
  (hs:Region.sinkB md ops n=true)(hc:Region.chainB md ops n=true)(hn:n<ops.size)(hin:i<n)
  (hdone: ∀listed a,L listed a-> ∀j∈Region.ready md ops listed,n<=j):
  ∀(f:Nat)(listed:Array Bool)(a:Act),HeadInv md ops n listed->
   (∀j oj,ops[j]? =some oj->j≠i->listed.getD j true=false->(∀e∈oj.after,Region.binds md e=true->e.on≠i)->oi.apart ops oj=true)->
   i∈Region.ready md ops listed->YieldsIn P ops C oi v a->
   mL P md ops C n L f (listed.setIfInBounds i true) (a.put oi.dst v)->mL P md ops C n L (f+1) listed a:=by
 intro f
 induction f with
 |zero=>
  intro listed a inv _ hr hy H
  have hun:=(mem_ready.1 hr).1
  refine⟨fun h=>(by rw[h]at hr;cases hr),fun j hj=>?_⟩
  have hjn:j<n:=by
   rcases Nat.lt_or_ge j n with h|h
   ·exact h
   ·exact absurd hj (tail_waits hs hc hn inv _ i rfl hin hun j h)
  refine⟨hjn,?_⟩
  by_cases hji:j=i
  ·subst hji;exact hy.qOp hi H
  ·have:=hdone _ _ H j (ready_mono hj hji)
   omega
 |succ f ih=>
  intro listed a inv hfree hr hy H
  have hun:=(mem_ready.1 hr).1
  refine⟨fun h=>(by rw[h]at hr;cases hr),fun j hj=>?_⟩
  have hjn:j<n:=by
   rcases Nat.lt_or_ge j n with h|h
   ·exact h
   ·exact absurd hj (tail_waits hs hc hn inv _ i rfl hin hun j h)
  refine⟨hjn,?_⟩
  by_cases hji:j=i
  ·subst hji;exact hy.qOp hi H
  ·have h1:=(H.2 j (ready_mono hj hji)).2
   obtain⟨hjun,oj,hoj,hall⟩:=mem_ready.1 hj
   have hnot: ∀e∈oj.after,Region.binds md e=true->e.on≠i:=fun e he hb heq=>by
    have h1:=hall e he hb
    rw[heq,getD_both hun]at h1
    cases h1
   have h2:=qOp_put hoj (hfree j oj hoj hji hjun hnot) (fun cs b=>hsel i oi cs b hi) (fun cs b=>hsel j oj cs b hoj) hy h1
   have hfree': ∀k ok,ops[k]? =some ok->k≠i->(listed.setIfInBounds j true).getD k true=false->
     (∀e∈ok.after,Region.binds md e=true->e.on≠i)->oi.apart ops ok=true:=fun k ok hk hki hun hno=>by
    refine hfree k ok hk hki ?_ hno
    by_cases hjk:j=k
    ·subst hjk;exact hjun
    ·rw[getD_set_ne true hjk]at hun;exact hun
   refine qOp_mono (fun a' h3=>ih (listed.setIfInBounds j true) a' (inv.set hj hjn) hfree' (ready_mono hr (Ne.symm hji)) h3.1 ?_) h2
   rw[Array.setIfInBounds_comm _ _ hji]
   exact h3.2
theorem Q6 {n g:Nat}{Lq:Act->Prop}(hsel:Region.noSelect ops=true)(hs:Region.sinkB md ops n=true)(hc:Region.chainB md ops n=true)(hn:n<ops.size):
  ∀(l:List Oper)(k:Nat)(listed:Array Bool)(a:Act),(∀j,j<l.length->l[j]? =ops[k+j]?)->k+l.length=n->HeadInv md ops n listed->
  Region.lexHead md ops g l.length k listed=true->wpQuiet P ops C Lq l a->
  mL P md ops C n (fun listed' a'=>Region.seqB md ops g n listed'=true/\Lq a') l.length listed a
 | [],k,listed,a,_,hk,_,hB,h=>by
  have:k=n:=by simpa using hk
  subst this
  exact⟨by simpa[Region.lexHead]using hB,h⟩
 |o::l,k,listed,a,hl,hk,inv,hB,h=>by
  have h0:ops[k]? =some o:=by simpa using(hl 0 (by simp)).symm
  simp only[zB5,Region.lexHead,Bool.and_eq_true]at hB
  obtain⟨⟨hr,hf⟩,hB'⟩:=hB
  have hkn:k<n:=by simp only[zB5]at hk;omega
  have hr':k∈Region.ready md ops listed:=by simpa using hr
  have hst:qOp P ops C k (wpQuiet P ops C Lq l) a:=by unfold qOp;simp only[h0];exact h
  obtain⟨v,hy,hK⟩:=yieldsIn_of_qOp h0 hst
  exact mAD h0 (Region.noSelect_spec hsel) hs hc hn hkn (fun listed' a' hL=>seqB_ready hL.1) l.length listed a inv (Region.free_spec h0 hf) hr' hy
   (Q6 hsel hs hc hn l (k+1) _ _ (fun j hj=>by have:=hl (j+1) (by simp;omega);simpa[Nat.add_assoc,Nat.add_comm 1 j]using this) (by simp only[zB5]at hk;omega) (inv.set hr' hkn) hB' hK)
end
theorem dE {P:Program}{C:World->Prop}{id:Nat}{Q:Exit->Act->World->Prop}{a:Act}{w:World}{l:List Oper}(n:Nat)(hm:P.follows .mixedOrders=true)(hB:Region.lexTailB .any l.toArray n=true)(hC:C w.drew)
  (h:wpQuiet P l.toArray C (fun a'=> ∀w',C w'->wpList P l.toArray Q (l.drop n) a' w') (l.take n) a):(Code.region id l.toArray true).wp P Q a w:=by
 simp only[Region.lexTailB,Bool.and_eq_true,decide_eq_true_eq]at hB
 obtain⟨⟨⟨⟨hsel,hn⟩,hs⟩,hc⟩,hlex⟩:=hB
 have hn':n<l.length:=by simpa using hn
 have htl:(l.take n).length=n:=by simp;omega
 have hdl:(l.drop n).length=l.toArray.size-n:=by simp
 have inv0:HeadInv .any l.toArray n (Array.replicate l.toArray.size false):=
  ⟨by simp,fun j oj _ hl=>(by rw[getD_replicate_false]at hl;cases hl),fun t _ ht=>getD_in (by simpa using ht) (getD_replicate_false _ _)⟩
 have H:=Q6 (md:= .any) (g:=l.toArray.size-n) hsel hs hc hn (l.take n) 0 _ a (fun j hj=>by
  have hj':j<n:=by rw[htl]at hj;exact hj
  simp[hj']) (by simpa using htl) inv0 (by rw[htl];exact hlex) h
 refine wp_region_any hm ?_
 have:=V6 (Q':=Q) (g:=l.toArray.size-n) (fun listed a' w' hw' hL=>by
  have:=wpAny_of_seq (md:= .any) (Q':=Q) (l.drop n) n listed a' w' (fun j=>by simp[List.getElem?_drop]) (by rw[hdl];exact hL.1) (hL.2 w' hw')
  rwa [hdl]at this) _ _ _ _ hC H
 rw[htl,show n+(l.toArray.size-n)=l.toArray.size by omega]at this
 exact this
end Go.Proofs.YtdaaoopkkhfbhaaGreatDoor
namespace Go.Proofs.YtdaaoopkkhfbhaaGreatDoor
open Go.RowKit Go.Maps
structure NA(w:World)(sb mb:Nat)(s:Sh.Shelf):Prop where
 well:Sh.Well s
 okay:lC s.l
 few:s.last<=1000000
 apart:mb≠sb
 row:Row w sb 101 #[.map (some mb),.int .i64 s.last]
 map:MapAt w mb s.l
structure LB(sb mb:Nat)(w w':World):Prop where
 os:w'.os=w.os
 tape:w'.tape=w.tape
 output:w'.output=w.output
 size:w.heap.size<=w'.heap.size
 same: ∀b,b<w.heap.size->b≠sb->b≠mb->w'.heap[b]? =w.heap[b]?
theorem LB.trans {sb mb:Nat}{a b c:World}(h:LB sb mb a b)(k:LB sb mb b c):LB sb mb a c:=
 ⟨k.os.trans h.os,k.tape.trans h.tape,k.output.trans h.output,Nat.le_trans h.size k.size,fun i hi h1 h2=>(k.same i (Nat.lt_of_lt_of_le hi h.size) h1 h2).trans (h.same i hi h1 h2)⟩
theorem LB.of {sb mb n:Nat}{w w':World}(h:Below n w w')(hn:w.heap.size<=n):LB sb mb w w':=⟨h.os,h.tape,h.output,h.size,fun b hb _ _=>h.block b (by omega)⟩
theorem LB.grown {sb mb:Nat}{w w':World}{row:Option Nat}(h:w.grownBy w' row)(hr: ∀b,row=some b->b=sb\/b=mb\/w.heap.size<=b):LB sb mb w w':=
 ⟨h.os,h.tape,h.output,h.size,fun b hb h1 h2=>h.block b hb (fun e=>by
  rcases hr b e.symm with k|k|k
  ·exact h1 k
  ·exact h2 k
  ·omega)⟩
theorem LB.turned {sb mb:Nat}{w w':World}(h:w.mapTurned w' mb):LB sb mb w w':= .grown h.grown (fun _ e=> .inr (.inl (zB2 e).symm))
theorem vM(w:World)(b i:Nat)(u:Value):w.grownBy (w.setCell ⟨b,i,none⟩ u) (some b):=
 ⟨rfl,rfl,rfl,by simp,fun k _ hk=>heap_setCell_other w ⟨b,i,none⟩ k u (fun e=>hk (by rw[e]))⟩
theorem LB.setCell {sb mb:Nat}{w x:World}(h:LB sb mb w x){p:Addr}(hp:w.heap.size<=p.block\/p.block=sb)(u:Value):LB sb mb w (x.setCell p u):=
 ⟨h.os,h.tape,h.output,by simp;exact h.size,fun b hb h1 h2=>(heap_setCell_other x p b u (by rcases hp with k|k<;>omega)).trans (h.same b hb h1 h2)⟩
theorem NA.stays {w w':World}{sb mb:Nat}{s:Sh.Shelf}(h:NA w sb mb s)(hb:Below w.heap.size w w'):NA w' sb mb s:=
 ⟨h.well,h.okay,h.few,h.apart,h.row.stays hb,h.map.stays hb⟩
theorem NA.keys {w:World}{sb mb:Nat}{s:Sh.Shelf}(h:NA w sb mb s):Apart s.l:=h.well.keys
theorem NA.length {w:World}{sb mb:Nat}{s:Sh.Shelf}(h:NA w sb mb s):s.l.length<=1000000:=by
 have h1:=Sh.few h.well
 have h2:=h.few
 omega
theorem NA.cell0 {w:World}{sb mb:Nat}{s:Sh.Shelf}(h:NA w sb mb s):w.cell? ⟨sb,0,none⟩=some (.map (some mb)):=by rw[h.row.cell];rfl
theorem NA.cell1 {w:World}{sb mb:Nat}{s:Sh.Shelf}(h:NA w sb mb s):w.cell? ⟨sb,1,none⟩=some (.int .i64 s.last):=by rw[h.row.cell];rfl
theorem MapAt.perm {w:World}{mb:Nat}{L L':List Sh.Kept}(h:MapAt w mb L)(hp:L.Perm L'):MapAt w mb L':=by
 obtain⟨D,h1,es,hD,h2⟩:=h
 exact⟨D,by rw[<-hp.length_eq];exact h1,es,hD,h2.trans (hp.map tE)⟩
theorem cI {w:World}{sb mb:Nat}{t:TypeId}{cs:Array Value}{L:List Sh.Kept}(hR:Row w sb t cs)(hM:MapAt w mb L):mb≠sb:=by
 rintro rfl
 obtain⟨D,⟨es,clock,hb,_⟩,_⟩:=hM
 have:=hR.symm.trans hb
 cases this
def Sh.oF (s:Sh.Shelf)(c:Ma.iA):Option Sh.Kept:=s.l.find? (Sh.hit c)
theorem NA.look {w:World}{sb mb:Nat}{s:Sh.Shelf}(h:NA w sb mb s){c:Ma.iA}(hc:wB c):
  (Instr.lookup 99 (.map (some mb)) (.agg (uA c)) true).run Tryz.prog w= .ok (.tuple #[.agg (rA ((Sh.oF s c).getD Sh.JA)),.bool (Sh.oF s c).isSome]) w:=
 jAT h.map h.keys h.okay hc
theorem NA.pJ {w:World}{sb mb:Nat}{s:Sh.Shelf}(h:NA w sb mb s)(c:Ma.iA):((Sh.oF s c).getD Sh.JA).c.host.addr.length=16:=by
 cases e:Sh.oF s c with
 |none=>rfl
 |some k=>exact(h.okay k (List.mem_of_find?_eq_some e)).addr
section
variable {w:World} {ops:Array Oper} {rest:List Oper} {o:Oper} {a:Act} {Q:Exit->Act->World->Prop}
theorem xR(hg:o.guard=none)(m x v:Operand)(hop:o.op=Op.mapUpdate 99 m x v){mb:Nat}{L L':List Sh.Kept}(hm:a.eval m= .map (some mb))(h:MapAt w mb L)(ho:lC L){c:Ma.iA}(hc:wB c)(hx:a.eval x= .agg (uA c))
  {k:Sh.Kept}(hv:a.eval v= .agg (rA k))(hk:Ma.key k.c c=true)(hko:wB k.c)(hp:L'.Perm (k::L.filter fun k=> !Sh.hit c k))(hn:L.length<=1048576)
  (hK: ∀w',MapAt w' mb L'->w.mapTurned w' mb->wpList Tryz.prog ops Q rest (a.put o.dst undef) w'):wpList Tryz.prog ops Q (o::rest) a w:=by
 refine wpList_plain hg fun K' hK'=>?_
 obtain⟨w',hrun,r1,r2⟩:=run_store h ho hc hk hko hp hn
 unfold Oper.wp
 simp[execOp,hop,hm,hx,hv,hrun,Result.andThen]
 exact hK' _ _ (hK w' r1 r2)
theorem cAG(hg:o.guard=none)(m x:Operand)(hop:o.op=Op.call {callee:=Callee.builtin Builtin.delete,args:= #[m,x],argTypes:= #[99,134]}){mb:Nat}{L L':List Sh.Kept}(hm:a.eval m= .map (some mb))(h:MapAt w mb L)(ho:lC L){c:Ma.iA}(hc:wB c)(hx:a.eval x= .agg (uA c))
  (hp:L'.Perm (L.filter fun k=> !Sh.hit c k))(hK: ∀w',MapAt w' mb L'->w.mapTurned w' mb->wpList Tryz.prog ops Q rest (a.put o.dst (.tuple #[])) w'):wpList Tryz.prog ops Q (o::rest) a w:=by
 refine wpList_plain hg fun K' hK'=>?_
 obtain⟨w',hrun,r1,r2⟩:=jAS h ho hc hp o.type
 unfold Oper.wp
 simp[execOp,hop,resolve,invoke,builtin,hm,hx,hrun,Result.andThen]
 exact hK' _ _ (hK w' r1 r2)
theorem cAF(hg:o.guard=none)(m x:Operand)(hop:o.op=Op.call {callee:=Callee.builtin Builtin.delete,args:= #[m,x],argTypes:= #[99,134]}){mb rb n:Nat}{L T L':List Sh.Kept}(hm:a.eval m= .map (some mb))(h:xB w mb rb n L T){k:Sh.Kept}(hk:k∈L)(hx:a.eval x= .agg (uA k.c))
  (hp:L.Perm (k::L'))(hT: ∀z∈T,Ma.key z.c k.c=false)(hK: ∀w',xB w' mb rb n L' T->w'.rangeLeft mb rb<=w.rangeLeft mb rb->w.mapTurned w' mb->wpList Tryz.prog ops Q rest (a.put o.dst (.tuple #[])) w'):wpList Tryz.prog ops Q (o::rest) a w:=by
 refine wpList_plain hg fun K' hK'=>?_
 obtain⟨w',hrun,r1,r2,r3⟩:=h.drop hk hp hT o.type
 unfold Oper.wp
 simp[execOp,hop,resolve,invoke,builtin,hm,hx,hrun,Result.andThen]
 exact hK' _ _ (hK w' r1 r2 r3)
end
theorem xB.RF {w w':World}{mb rb n:Nat}{L T:List Sh.Kept}(h:xB w mb rb n L T)(hb:Below w.heap.size w w'):w'.rangeLeft mb rb=w.rangeLeft mb rb:=cR h (below_grown hb) (by simp) (by simp)
theorem xB.fresh {w:World}{mb rb n:Nat}{L T T':List Sh.Kept}{k:Sh.Kept}(h:xB w mb rb n L T)(hp:T.Perm (k::T')): ∀z∈T',Ma.key z.c k.c=false:=by
 obtain⟨_,_,_,_,_,_,_,h5,_⟩:=h
 have:=List.pairwise_cons.1 (h5.perm hp)
 intro z hz
 rw[Sh.BE]
 exact this.1 z hz
theorem xB.JM {w:World}{mb rb n:Nat}{L T T':List Sh.Kept}{k:Sh.Kept}(h:xB w mb rb n L T)(hp:T.Perm (k::T')):k∈L:=by
 obtain⟨_,_,_,_,_,_,_,_,h6,_⟩:=h
 exact h6 k (hp.mem_iff.2 (by simp))
theorem mem_left {S T T' L:List Sh.Kept}{k:Sh.Kept}(h:(S++T).Perm L)(hp:T.Perm (k::T')):((S++ [k])++T').Perm L/\k∈L:=by
 have e:(S++ [k])++T'=S++(k::T'):=by simp
 have h2:(S++(k::T')).Perm L:=((List.Perm.append_left S hp).symm).trans h
 exact⟨by rw[e];exact h2,h2.mem_iff.1 (by simp)⟩
theorem hAq(w:World):Calls Tryz.prog 26 #[] w fun e w'=> ∃sb mb,e= .returned (.pointer (some ⟨sb,0,none⟩))/\NA w' sb mb Sh.empty/\w.heap.size<=sb/\w.heap.size<=mb/\Below w.heap.size w w':=by
 have hmm:= @run_makeMap Tryz.prog
 have M0:=World.ownsMap_made w Tryz.prog 134 BG
 have C0:=(Below.refl w.heap.size w).alloc (zB3 _) (.map #[] 0)
 have hs0:(w.alloc (.map #[] 0)).heap.size=w.heap.size+1:=by simp
 have M1:MapAt (w.alloc (.map #[] 0)) w.heap.size []:=⟨_,M0,[],rfl,List.Perm.refl _⟩
 go_enter Tryz.func26,Tryz.ntmps26
 go_wp2
 go_ret
 have R:=Row.new (w.alloc (.map #[] 0)) 101 #[.map (some w.heap.size),.int .i64 0]
 rw[hs0]at R
 have M2:=M1.stays ((Below.refl _ (w.alloc (.map #[] 0))).alloc (zB3 _) (.cells #[.map (some w.heap.size),.int .i64 0] 101))
 exact⟨_,_,rfl,⟨Sh.Q5,(fun k hk=>by cases hk),(by decide),by omega,R,M2⟩,by omega,zB3 _,C0.alloc (by omega) _⟩
theorem gAg {sb mb:Nat}{s:Sh.Shelf}(w:World)(h:NA w sb mb s):Calls Tryz.prog 60 #[.pointer (some ⟨sb,0,none⟩)] w fun e w'=>e= .returned (.int .i64 (s.l.length:Int))/\Below w.heap.size w w':=by
 have c0:=h.cell0
 obtain⟨D,hD,hT⟩:=h.map
 have hsz:=hT.size
 have HD:=zA7 hD
 rw[<-hsz]
 clear hT hsz hD h
 go_enter Tryz.func60,Tryz.ntmps60
 go_wp2_with (at_len;refine wpList_len_own _ rfl _ 99 rfl 134 136 Tryz.underlying99 _ mb s.l.length D rfl HD.out ?_)
 go_ret
 exact⟨rfl,Below.refl _ _⟩
end Go.Proofs.YtdaaoopkkhfbhaaGreatDoor
namespace Go.Proofs.YtdaaoopkkhfbhaaGreatDoor
open Go.RowKit Go.Shelf Go.Sort Go.Lib
structure Ck where
 c:Ma.iA
 ok:c.host.addr.length=16
def bU:Ck:=⟨Ma.xA,rfl⟩
instance:Inhabited Ck:=⟨bU⟩
def YB(c:Ma.iA):Ck:=if h:c.host.addr.length=16 then⟨c,h⟩else bU
theorem JR {c:Ma.iA}(h:c.host.addr.length=16):(YB c).1=c:=by unfold YB;rw[dif_pos h]
def fB(c:Ck):List Value:=(dA c.1).toList
theorem WU(c:Ck):(fB c).length=29:=EI c.1 c.2
theorem XU(c:Ck): ∀v∈fB c,v.oneCell'=true:=fun v hv=>Array.all_eq_true'.1 (FD c.1) v (Array.mem_toList_iff.1 hv)
def rH(x y:Ck):Int:=Lib.compareInt x.1.seq y.1.seq
theorem aN(x y:Ck):ltOf rH x y=decide (x.1.seq<y.1.seq):=by
 unfold ltOf rH Lib.compareInt
 by_cases h1:x.1.seq<y.1.seq
 ·simp[h1]
 ·by_cases h2:y.1.seq<x.1.seq<;>simp[h1,h2]
theorem kAU:SWO (ltOf rH) where
 irrefl x:=by rw[aN];simp
 trans x y z h1 h2:=by rw[aN]at*;simp at*;omega
 ntrans x y z h1 h2:=by rw[aN]at*;simp at*;omega
theorem bA8(x y:Ck)(w:World):Calls Tryz.prog 71 #[.agg (fB x).toArray,.agg (fB y).toArray] w fun e w'=>e= .returned (.int .i64 (rH x y))/\ ∃q os',w'=grow (w.drewN q) os':=by
 have hcon:=fun W=>Tryz.cmp_Compare_int x.1.seq y.1.seq W
 have k1:(fB x).toArray[28]? =some (.int .i64 x.1.seq):=by unfold fB;rw[Array.toArray_toList];exact GF x.1 x.2
 have l1:(fB y).toArray[28]? =some (.int .i64 y.1.seq):=by unfold fB;rw[Array.toArray_toList];exact GF y.1 y.2
 have HQ:Hid (rH x y=Lib.compareInt x.1.seq y.1.seq):=zA7 rfl
 rw[HQ.out]
 have R0:=Row.new w 64 (fB x).toArray
 have hN:(w.alloc (.cells (fB x).toArray 64)).heap.size=w.heap.size+1:=by simp
 have S0:=Row.new (w.alloc (.cells (fB x).toArray 64)) 64 (fB y).toArray
 rw[hN]at S0
 have R1:=R0.alloc (.cells (fB y).toArray 64)
 have c1:=(R1.cell 28).trans k1
 have d1:=(S0.cell 28).trans l1
 generalize Lib.compareInt x.1.seq y.1.seq=r at*
 generalize x.1.seq=sx at*
 generalize y.1.seq=sy at*
 generalize(fB x).toArray=U at*
 generalize(fB y).toArray=V at*
 have uC:=zA7 hcon
 clear hcon R0 hN R1 S0 k1 l1
 go_enter Tryz.func71,Tryz.ntmps71
 go_wp2_with fail
 refine(uC.out _).mono ?_
 rintro e w' ⟨rfl,rfl⟩
 go_wp2
 go_ret
 exact⟨rfl,0,_,by rw[alloc_eq_grow,alloc_eq_grow,grow_grow];rfl⟩
theorem xZ {B:Nat}{w0 w:World}(h:Below B w0 w){g off m:Nat}(hg:B<=g)(hB:B<=w.heap.size)(d:Array Ck)(os:Array Obj):Below B w0 (sortWorldK fB 29 w g off m d os):=by
 have e:sortWorldK fB 29 w g off m d os=grow (mapBlock (Sort.ahead w m) g (putCells id off (flatK fB 29 d))) os:=rfl
 rw[e]
 refine⟨h.os,h.tape,h.output,?_,fun i hi=>?_⟩
 ·refine Nat.le_trans h.size ?_
  simp[grow,mapBlock,Sort.ahead]
 ·rw[<-h.block i hi]
  simp only[grow,mapBlock,Sort.ahead]
  rw[Array.getElem?_append_left (by rw[Array.size_modify];omega),Array.getElem?_modify]
  rw[if_neg (by omega)]
theorem nV {d:Array Ck}{j:Nat}{u:Value}(h:(flat dA (d.toList.map (·.1)))[j]? =some u):j<d.size*29/\(flatK fB 29 d)[j]! =u:=by
 have hs: ∀c∈d.toList.map (·.1),(dA c).size=29:=by
  intro c hc
  obtain⟨x,_,rfl⟩:=List.mem_map.1 hc
  exact TA x.1 x.2
 have hl:=oM hs
 have hj:j<d.size*29:=by
  have h2:=(List.getElem?_eq_some_iff.1 h).1
  rw[hl]at h2
  simpa using h2
 refine⟨hj,?_⟩
 rw[get_flatK fB 29 d j hj]
 have hq:j/29<d.size:=Nat.div_lt_of_lt_mul (by omega)
 have hx:(d.toList.map (·.1))[j/29]? =some d[j/29].1:=by
  rw[List.getElem?_map,Array.getElem?_toList,Array.getElem?_eq_getElem hq];rfl
 have hm:j%29<29:=Nat.mod_lt _ (by decide)
 have hsz:j%29<(dA d[j/29].1).size:=by rw[TA _ d[j/29].2];exact hm
 have ha:=LP hs hx (j%29) _ (Array.getElem?_eq_getElem hsz)
 have he:j/29*29+j%29=j:=by omega
 rw[he,h]at ha
 have ha:=zB2 ha
 rw[ha,getElem!_pos d (j/29) hq]
 unfold fB
 rw[getElem!_pos _ _ (by rw[Array.length_toList];exact hsz),Array.getElem_toList]
theorem iX {w:World}{g cap m:Nat}{d d':Array Ck}{os:Array Obj}(hH:HoldsK fB 29 w g 0 d)(hg:g<w.heap.size)(hs:d'.size=d.size)(hc:d.size<=cap):
  QB dA (sortWorldK fB 29 w g 0 m d' os) (.slice (some ⟨g,0,none⟩) d.size cap) (d'.toList.map (·.1)):=by
 have hh:=holdsK_sortWorldK_c fB 29 w g 0 d d' m os hH hg hs
 have hl:(d'.toList.map (·.1)).length=d.size:=by rw[List.length_map,Array.length_toList,hs]
 refine⟨some ⟨g,0,none⟩,cap,by rw[hl],by omega,fun _=>⟨g,0,rfl,Nat.lt_of_lt_of_le hg (size_sortWorldK_c fB 29 w g 0 m d' os),fun j u hu=>?_⟩⟩
 obtain⟨h1,h2⟩:=nV hu
 have:=(hh j (by rw[size_flatK];exact h1)).1
 rw[h2]at this
 exact this
theorem oW {w:World}{B g n cap:Nat}{cs:List Ma.iA}(hs: ∀c∈cs,c.host.addr.length=16)(h:w.ownsRow B 64 29 (.slice (some ⟨g,0,none⟩) n cap) n (flat dA cs)):HoldsK fB 29 w g 0 (cs.map YB).toArray:=by
 have hd:(cs.map YB).toArray.toList.map (·.1)=cs:=by
  rw[List.map_map]
  have:cs.map ((fun x:Ck=>x.1)∘YB)=cs.map id:=List.map_congr_left (fun c hc=>JR (hs c hc))
  rw[this,List.map_id]
 rcases h.2 with⟨h0,_⟩|⟨g',cap',cur,he,hB,hg,hc,hm,hcs,ht⟩
 ·cases h0
 ·obtain⟨e1,_,e3⟩:=Value.slice.inj he
  have e1:=zB2 e1
  simp only[Addr.mk.injEq]at e1
  obtain⟨rfl,_,_⟩:=e1
  intro j hj
  rw[size_flatK]at hj
  have hl:(flat dA ((cs.map YB).toArray.toList.map (·.1))).length=(cs.map YB).toArray.size*29:=by
   rw[oM (n:=29) (fun c hc=>by
    obtain⟨x,_,rfl⟩:=List.mem_map.1 hc
    exact TA x.1 x.2),List.length_map,Array.length_toList]
  obtain⟨u,hu⟩: ∃u,(flat dA ((cs.map YB).toArray.toList.map (·.1)))[j]? =some u:=⟨_,List.getElem?_eq_getElem (by rw[hl];exact hj)⟩
  obtain⟨_,h2⟩:=nV hu
  rw[hd]at hu
  refine⟨?_,?_⟩
  ·have c1:=h.cells (g:=g) rfl _ _ hu
   rw[VO]at c1
   rw[c1]
   exact congrArg some h2.symm
  ·exact frozen_of_row w g (0+j) cur _ hg
theorem kAI {cs out:List Ma.iA}(hs: ∀c∈cs,c.host.addr.length=16){d':Array Ck}(hp:PermIn 0 (cs.map YB).toArray.size (cs.map YB).toArray d')(hso:SortedIn (ltOf rH) 0 (cs.map YB).toArray.size d')
  (ho:cs.Perm out)(hr:out.Pairwise fun a b=>a.seq<b.seq):d'.toList.map (·.1)=out:=by
 have hd:(cs.map YB).map (fun x:Ck=>x.1)=cs:=by
  rw[List.map_map]
  have:cs.map ((fun x:Ck=>x.1)∘YB)=cs.map id:=List.map_congr_left (fun c hc=>JR (hs c hc))
  rw[this,List.map_id]
 obtain⟨h1,_,h3⟩:=hp
 have e1:(d'.extract 0 (cs.map YB).toArray.size)=d':=by rw[<-h1];exact Array.extract_size
 rw[e1,Array.extract_size]at h3
 have hp2:(d'.toList.map (·.1)).Perm out:=by
  have:=h3.map (fun x:Ck=>x.1)
  rw[List.toList_toArray,hd]at this
  exact this.trans ho
 refine Sh.cZ hp2 ?_ hr
 have hne:out.Pairwise fun a b=>a.seq≠b.seq:=hr.imp (fun h=>by omega)
 have hne2:(d'.toList.map (·.1)).Pairwise fun a b=>a.seq≠b.seq:=(hp2.symm.pairwise_iff (fun {a b} h=>Ne.symm h)).1 hne
 rw[List.pairwise_iff_getElem]at hne2⊢
 intro i j hi hj hij
 have h5:=hne2 i j hi hj hij
 have hi':i<d'.size:=by simpa using hi
 have hj':j<d'.size:=by simpa using hj
 have h6:=hso i j (Nat.zero_le _) hij (by rw[<-h1];exact hj')
 rw[aN,getElem!_pos d' j hj',getElem!_pos d' i hi',decide_eq_false_iff_not]at h6
 simp only[List.getElem_map,Array.getElem_toList]at h5⊢
 omega
theorem kAG {cs out:List Ma.iA}{B:Nat}(w0 w:World){v:Value}(hs: ∀c∈cs,c.host.addr.length=16)(h:w.ownsRow B 64 29 v cs.length (flat dA cs))(hn:cs.length<=1000000)(hb:Below B w0 w)(hB:B<=w.heap.size)(ho:cs.Perm out)(hr:out.Pairwise fun a b=>a.seq<b.seq):
  Calls Tryz.prog 70 #[v,.func (.func 71) #[] #[]] w fun e w'=>e= .returned (.tuple #[])/\QB dA w' v out/\Below B w0 w':=by
 have hso:=h
 have eg: ∀args w,(callFunc 71 args).run Tryz.prog w= .ok (.enter 71 args) w:=enters_of Tryz.func71 (by kernel_rfl) rfl
 rcases h.2 with⟨rfl,h0⟩|⟨g,cap,cur,rfl,hBg,hg,hc,hm,hcs,ht⟩
 ·have e0:cs= []:=List.eq_nil_of_length_eq_zero h0
  subst e0
  have e1:out= []:=ho.nil_eq.symm
  subst e1
  have hcon:=AnyF.slices_SortFunc_none (P:=Tryz.prog) {Tryz.sortCk with} none 0 (.func (.func 71) #[] #[]) w
  change Calls Tryz.prog 70 _ _ _ at hcon
  exact hcon.mono (fun e w' ⟨he,hw⟩=>⟨he,by rw[hw];exact gX,by rw[hw];exact hb⟩)
 ·have hgl:g<w.heap.size:=(Array.getElem?_eq_some_iff.1 hg).1
  have hds:(cs.map YB).toArray.size=cs.length:=by simp
  have hH:=oW hs hso
  have hcon:=AnyQ.slices_SortFunc Tryz.sortCk 29 Tryz.isAgg64 Tryz.sizeOf64 fB WU XU rH kAU 71 #[] g 0 cap (cs.map YB).toArray w eg (fun _ _ _ _ x y=>bA8 x y _) hH hgl (by rw[hds];omega)
  change Calls Tryz.prog 70 _ _ _ at hcon
  rw[hds]at hcon
  refine hcon.mono (fun e w' ⟨he,d',n,os,hp,FK,hw⟩=>⟨he,?_,by rw[hw];exact xZ hb hBg hB _ _⟩)
  rw[hw]
  have hl:=iX (cap:=cap) (m:=n) (os:=os) hH hgl hp.1 (by rw[hds];exact hc)
  rw[hds]at hl
  rw[<-hds]at hp FK
  rw[kAI hs hp FK ho hr]at hl
  exact hl
end Go.Proofs.YtdaaoopkkhfbhaaGreatDoor
namespace Go.Proofs.YtdaaoopkkhfbhaaGreatDoor
open Go.RowKit Go.Maps
theorem iA2 {w:World}{B B':Nat}{e:TypeId}{size:Nat}{v:Value}{n:Nat}{xs:List Value}(h:w.ownsRow B e size v n xs)(hb:B'<=B):w.ownsRow B' e size v n xs:=
 ⟨h.1,h.2.imp id (fun⟨g,cap,cur,h1,h2,h3⟩=>⟨g,cap,cur,h1,Nat.le_trans hb h2,h3⟩)⟩
theorem FN(w:World)(o:Obj):(w.alloc o).heap.size=w.heap.size+1:=by simp
theorem gZ {w:World}{B n:Nat}{t:TypeId}{size:Nat}{v:Value}{xs:List Value}{mb:Nat}{L:List Sh.Kept}(hO:w.ownsRow B t size v n xs)(hM:MapAt w mb L):v.ownBlock≠some mb:=by
 intro e
 rcases hO.2 with⟨rfl,_⟩|⟨g,cap,cur,rfl,_,hg,_⟩
 ·cases e
 ·obtain rfl:g=mb:=zB2 e
  obtain⟨D,⟨es,clock,hb,_⟩,_⟩:=hM
  rw[hb]at hg
  cases hg
def VE(cs:List Ma.iA)(w:World)(e:Ending)(w':World):Prop:=
 ∃v,e= .returned v/\QB dA w' v cs/\Below w.heap.size w w'
theorem YO {sb mb:Nat}{s:Sh.Shelf}(w:World)(h:NA w sb mb s):
  Calls Tryz.prog 36 #[.pointer (some ⟨sb,0,none⟩)] w (VE (Sh.all s) w):=by
 have z1:=lI
 have c0:=h.cell0
 have hle:=h.length
 have tG:=zA7 h.okay
 have HM:=zA7 h
 have NJ:Hid (∀S T:List Sh.Kept,(S++T).Perm s.l->S.length+T.length<=1000000):=zA7 (fun S T hp=>by
  have h1:=hp.length_eq
  rw[zB4]at h1
  omega)
 have FL:Hid (∀(S:List Sh.Kept) W v,(S++ []).Perm s.l->W.ownsRow (w.heap.size+1) 64 29 v S.length (flat dA (S.map (·.c)))->Below w.heap.size w W->w.heap.size+1<=W.heap.size->Calls Tryz.prog 70 #[v,.func (.func 71) #[] #[]] W fun e w'=>e= .returned (.tuple #[])/\VE (Sh.all s) w (.returned v) w'):=zA7 (fun S W v hp ho hb hW=>by
  rw[List.append_nil]at hp
  have hl:=hp.length_eq
  have hs: ∀c∈S.map (·.c),c.host.addr.length=16:=by
   intro c hc
   obtain⟨k,hk,rfl⟩:=List.mem_map.1 hc
   exact(h.okay k (hp.mem_iff.1 hk)).addr
  have hbb:Below w.heap.size w W:=hb
  have ho2:W.ownsRow (w.heap.size+1) 64 29 v (S.map (·.c)).length (flat dA (S.map (·.c))):=by rw[List.length_map];exact ho
  exact(kAG (B:=w.heap.size) (out:=Sh.all s) w W hs (iA2 ho2 (Nat.le_succ _)) (by rw[List.length_map];omega) hbb (by omega) (hp.map _) (Sh.ZO h.well)).mono (fun e w' ⟨h1,h2,h3⟩=>⟨h1,v,rfl,h2,h3⟩))
 generalize VE (Sh.all s) w=post at*
 have hCI: ∀v w',post (.returned v) w'->post (.returned v) w':=fun _ _ h=>h
 clear hle h
 go_enter Tryz.func36,Tryz.ntmps36
 go_wp2_with (at_range;refine yN rfl _ rfl rfl HM.out.map HM.out.keys HM.out.okay ?_;intro w1 hr1 hg1 hs1)
 go_frame
 have C1:Below w.heap.size w w1:=(Below.refl _ w).grown hg1 (zB3 _) (fun _ e=>by cases e)
 have tB:=zA7 hs1
 clear hs1 c0
 go_loopw [3] (fun u wr=> ∃S T v,v=u/\(S++T).Perm s.l/\wr.ownsRow (w.heap.size+1) 64 29 v S.length (flat dA (S.map (·.c)))/\xB wr mb w.heap.size s.l.length s.l T/\Below w.heap.size w wr/\w.heap.size+1<=wr.heap.size)
  (fun _ wr=>wr.rangeLeft mb w.heap.size)
 case atStart=>exact⟨[],s.l,_,rfl,List.Perm.refl _,World.ownsRow_nil w1 _ _ _,hr1,C1,by rw[tB.out];exact zB3 _⟩
 case round=>
  obtain⟨S,T,v,rfl,hp,hown,hr,hb,hsz⟩:=hrel
  clear hr1 C1 hg1 tB
  have hle:=NJ.out S T hp
  go_wp2_with (first|(at_next;refine iN rfl _ rfl rfl hr ?_ ?_))
  ·rintro rfl
   have HC:=zA7 (FL.out S wr v hp hown hb hsz)
   clear hown hr hb FL
   go_wp2_with fail
   refine HC.out.mono ?_
   rintro e w5 ⟨rfl,h5⟩
   have H5:=zA7 h5
   clear h5
   go_wp2
   exact H5.out
  ·intro k T' w2 hpt hr2 hlt hg2 hs2 hen
   obtain⟨hp2,hkm⟩:=mem_left hp hpt
   have ko:=tG.out k hkm
   have pG:=zA7 hlt
   have C2:=hb.grown hg2 hb.size (fun b e=>by have:=zB2 e;omega)
   have hown2:=hown.kept hg2 (by
    rcases hown.2 with⟨rfl,_⟩|⟨g,cap,cur,rfl,hB,_⟩
    ·exact .inl rfl
    ·refine .inr (fun e=>?_)
     have e:g=w.heap.size:=zB2 e
     omega)
   obtain⟨X,hX⟩: ∃X,rA k=X:=⟨_,rfl⟩
   rw[hX]at hen
   have HX:=zA7 (show(Tryz.prog.info? 136).map (·.size)=some X.size by rw[<-hX,zC _ ko.addr];exact PF)
   have vB:=zA7 (show(rA Sh.JA).size=X.size by rw[<-hX,zC _ ko.addr];rfl)
   have lB:=zA7 (show X.all (·.oneCell')=true by rw[<-hX];exact PH _)
   have aA5:=zA7 (show 0+29<=X.size by rw[<-hX,zC _ ko.addr];decide)
   obtain⟨Y,hY⟩: ∃Y,dA k.c=Y:=⟨_,rfl⟩
   have WJ:=zA7 (show X.extract 0 (0+29)=Y by rw[<-hX,<-hY];exact UW _ ko.addr)
   obtain⟨Z,U,C3,_⟩:=PA 136 (rA Sh.JA) X (Below.refl w2.heap.size w2) (zB3 _)
   have hr3:=hr2.stays C3
   have hown3:=hown2.kept (below_grown C3) (by
    cases hv:v.ownBlock
    ·exact .inl rfl
    ·exact .inr (by simp))
   have pD:Hid (World.rangeLeft _ mb w.heap.size<wr.rangeLeft mb w.heap.size):=zA7 (by rw[hr2.RF C3];exact pG.out)
   have C4:=C2.trans (C3.mono C2.size)
   have nAw:w.heap.size+1<=((w2.alloc (.cells (rA Sh.JA) 136)).setRow w2.heap.size X).heap.size:=by have:=U.lt;have:=hs2;omega
   clear hs2 hlt hg2 hr2 C3 hX C2 hown2 hown hr hb
   have QO:=zA7 (show Y.size=29 by rw[<-hY];exact TA _ ko.addr)
   have TE:=zA7 (show∀c∈ [k.c],(dA c).all (·.oneCell')=true from fun c _=>FD c)
   have PO:=zA7 (show∀c∈ [k.c],(dA c).size=29 from fun c hc=>by rw[List.mem_singleton.1 hc];exact TA _ ko.addr)
   have FO:Hid (∀W:World,Row (W.alloc (.cells Y 64)) W.heap.size 64 (dA k.c)):=zA7 (fun W=>by rw[hY];exact Row.new W _ _)
   have rD:Hid (flat dA ((S++ [k]).map (·.c))=flat dA (S.map (·.c))++flat dA [k.c]):=zA7 (by rw[List.map_append,mV];rfl)
   obtain⟨A,c0,rfl⟩: ∃A c,v= .slice A S.length c:=by
    rcases hown3.2 with⟨rfl,h0⟩|⟨g,cap,cur,rfl,_⟩
    ·exact⟨none,0,by rw[h0]⟩
    ·exact⟨_,_,rfl⟩
   go_wp2_with (first
    |(refine YC 136 (.tmp 5) (.tmp 14) rfl ?_;refine wpList_store_row rfl 136 _ _ rfl w2.heap.size X rfl rfl 136 _ Z HX.out vB.out lB.out ?_)
    |(refine jA 17 rfl ?_;refine eD rfl 64 _ rfl w2.heap.size 0 29 rfl U Tryz.underlying64 rfl uB aA5.out Y WJ.out ?_)
    |(refine jA 18 rfl ?_;generalize(World.setRow _ w2.heap.size X)=x3 at*;refine NT rfl _ rfl Y rfl Tryz.underlying58 MM QO.out (by decide) (by decide) ?_)
    |(refine jA 19 rfl ?_;refine bP rfl _ _ rfl Tryz.underlying58 MM (by kernel_rfl) (by decide) (by decide) rfl (hown3.alloc _) rfl PO.out TE.out (CQ (FO.out _)) ?ca ?cb ?_))
   case ca=>omega
   case cb=>omega
   intro v' x5 DK hg5 WP
   have C5:=(C4.alloc C4.size (.cells Y 64)).grown hg5 (by have:=C4.size;rw[FN];omega) (fun b e=>by have:=(hown3.lt b e).1;omega)
   have hne:(Value.slice A S.length c0).ownBlock≠some w.heap.size:=fun e=>by have:=(hown3.lt _ e).1;omega
   have hmb:=hr3.map
   have hr5:=(hr3.stays ((Below.refl _ x3).alloc (zB3 _) (.cells Y 64))).kept hg5 (fun e=>gZ hown3 hmb e.symm) (fun e=>hne e.symm)
   have W8:Hid (x5.rangeLeft mb w.heap.size<wr.rangeLeft mb w.heap.size):=zA7 (by
    rw[cR (hr3.stays ((Below.refl _ x3).alloc (zB3 _) (.cells Y 64))) hg5 (fun e=>gZ hown3 hmb e.symm) (fun e=>hne e.symm),hr3.RF ((Below.refl _ x3).alloc (zB3 _) (.cells Y 64))]
    exact pD.out)
   have iQ:x5.ownsRow (w.heap.size+1) 64 29 v' (S++ [k]).length (flat dA ((S++ [k]).map (·.c))):=by
    rw[rD.out,zB4];exact DK
   have hsz5:w.heap.size+1<=x5.heap.size:=by have:=hg5.size;rw[FN]at this;omega
   clear DK hown3 hg5 WP C4 hr3 hmb
   go_wp2
   go_roundw
   case rel=>exact⟨S++ [k],T',v',rfl,hp2,iQ,hr5,C5,hsz5⟩
   case measure=>exact W8.out
end Go.Proofs.YtdaaoopkkhfbhaaGreatDoor
namespace Go.Proofs.YtdaaoopkkhfbhaaGreatDoor
open Go.RowKit Go.Maps
theorem A0(a:List UInt8)(b:ByteArray):((⟨a.toArray⟩:ByteArray).toList==b.toList)=decide (a=b.data.toList):=by
 rw[Oct.aB,Oct.aB,Bool.eq_iff_iff];simp
theorem bAR(site:ByteArray){sb mb:Nat}{s:Sh.Shelf}(w:World)(h:NA w sb mb s):
  Calls Tryz.prog 57 #[.pointer (some ⟨sb,0,none⟩),.string site] w fun e w'=>e= .returned (.int .i64 (Sh.count s site.data.toList:Int))/\Below w.heap.size w w':=by
 have z1:=lI
 have c0:=h.cell0
 have hle:=h.length
 have tG:=zA7 h.okay
 have hcount:Sh.count s site.data.toList=s.l.countP fun k=>decide (k.site=site.data.toList):=rfl
 have lO:Hid (∀S:List Sh.Kept,(S++ []).Perm s.l->S.countP (fun k=>decide (k.site=site.data.toList))=Sh.count s site.data.toList):=zA7 (fun S hp=>by rw[List.append_nil]at hp;rw[hcount];exact hp.countP_eq _)
 have NJ:Hid (∀S T:List Sh.Kept,(S++T).Perm s.l->S.countP (fun k=>decide (k.site=site.data.toList))<=1000000):=zA7 (fun S T hp=>by
  have h1:=hp.length_eq
  have h2:=List.countP_le_length (p:=fun k:Sh.Kept=>decide (k.site=site.data.toList)) (l:=S)
  rw[zB4]at h1
  omega)
 clear hcount hle
 generalize Sh.count s site.data.toList=total at*
 have HM:=zA7 h
 clear h
 go_enter Tryz.func57,Tryz.ntmps57
 go_wp2_with (at_range;refine yN rfl _ rfl rfl HM.out.map HM.out.keys HM.out.okay ?_;intro w1 hr1 hg1 hs1)
 go_frame
 have C1:Below w.heap.size w w1:=(Below.refl _ w).grown hg1 (zB3 _) (fun _ e=>by cases e)
 clear hs1 c0
 go_loopw [5] (fun v wr=> ∃S T,(S++T).Perm s.l/\v= .int .i64 ((S.countP fun k=>decide (k.site=site.data.toList):Nat):Int)/\xB wr mb w.heap.size s.l.length s.l T/\Below w.heap.size w wr)
  (fun _ wr=>wr.rangeLeft mb w.heap.size)
 case atStart=>exact⟨[],s.l,List.Perm.refl _,rfl,hr1,C1⟩
 case round=>
  obtain⟨S,T,hp,rfl,hr,hb⟩:=hrel
  clear hr1 C1 hg1
  have hle:=NJ.out S T hp
  go_wp2_with (first|(at_next;refine iN rfl _ rfl rfl hr ?_ ?_))
  ·rintro rfl
   have hc:=lO.out S hp
   have HC:=zA7 hc
   clear hc
   go_wp2
   go_ret
   exact⟨by rw[HC.out];rfl,hb⟩
  ·intro k T' w2 hpt hr2 hlt hg2 hs2 hen
   have HS2:=zA7 hs2
   obtain⟨hp2,hkm⟩:=mem_left hp hpt
   have ko:=tG.out k hkm
   have pG:=zA7 hlt
   have C2:=hb.grown hg2 hb.size (fun b e=>by have:=zB2 e;omega)
   obtain⟨X,hX⟩: ∃X,rA k=X:=⟨_,rfl⟩
   rw[hX]at hen
   have HX:=zA7 (show(Tryz.prog.info? 136).map (·.size)=some X.size by rw[<-hX,zC _ ko.addr];exact PF)
   have vB:=zA7 (show(rA Sh.JA).size=X.size by rw[<-hX,zC _ ko.addr];rfl)
   have lB:=zA7 (show X.all (·.oneCell')=true by rw[<-hX];exact PH _)
   obtain⟨Z,U,C3,_⟩:=PA 136 (rA Sh.JA) X (Below.refl w2.heap.size w2) (zB3 _)
   have YV:X[29]? =some (.string ⟨k.site.toArray⟩):=by rw[<-hX];exact VW k ko.addr
   have u29:=(U.cell 29).trans YV
   have hr3:=hr2.stays C3
   have pD:Hid (World.rangeLeft _ mb w.heap.size<wr.rangeLeft mb w.heap.size):=zA7 (by rw[hr2.RF C3];exact pG.out)
   have C4:=C2.trans (C3.mono C2.size)
   have rD:Hid (((S++ [k]).countP fun k=>decide (k.site=site.data.toList))=(S.countP fun k=>decide (k.site=site.data.toList))+(if decide (k.site=site.data.toList)then 1 else 0)):=zA7 (by
    rw[List.countP_append,List.countP_cons,List.countP_nil];simp)
   have he:=A0 k.site site
   clear hs2 hlt hg2 hr2 C3 hX YV
   cases hq:decide (k.site=site.data.toList)with
   |true=>
    rw[hq]at he rD
    generalize(⟨k.site.toArray⟩:ByteArray)=u at*
    clear hq
    go_wp2_with (refine wpList_store_row rfl 136 _ _ rfl w2.heap.size X rfl rfl 136 _ Z HX.out vB.out lB.out ?_)
    go_roundw
    case rel=>exact⟨S++ [k],T',hp2,by rw[rD.out];go_num,hr3,C4⟩
    case measure=>exact pD.out
   |false=>
    rw[hq]at he rD
    generalize(⟨k.site.toArray⟩:ByteArray)=u at*
    clear hq
    go_wp2_with (refine wpList_store_row rfl 136 _ _ rfl w2.heap.size X rfl rfl 136 _ Z HX.out vB.out lB.out ?_)
    go_roundw
    case rel=>exact⟨S++ [k],T',hp2,by rw[rD.out];go_num,hr3,C4⟩
    case measure=>exact pD.out
end Go.Proofs.YtdaaoopkkhfbhaaGreatDoor
namespace Go.Proofs.YtdaaoopkkhfbhaaGreatDoor
open Go.RowKit Go.Maps Go.Shelf
theorem hAO(a b:Sh.Kept)(ha:a.c.host.addr.length=16)(hb:b.c.host.addr.length=16)(w:World):
  Calls Tryz.prog 164 #[.agg (rA a),.agg (rA b)] w fun e w'=>e= .returned (.bool (Sh.less a b))/\Below w.heap.size w w':=by
 have k0:=LG (rP a.c ha)
 have k1:=LG (GF a.c ha)
 have l0:=LG (rP b.c hb)
 have l1:=LG (GF b.c hb)
 have R0:=Row.new w 136 (rA a)
 have B0:=(Below.refl w.heap.size w).alloc (zB3 _) (.cells (rA a) 136)
 have hN:(w.alloc (.cells (rA a) 136)).heap.size=w.heap.size+1:=by simp
 have S0:=Row.new (w.alloc (.cells (rA a) 136)) 136 (rA b)
 rw[hN]at S0
 have R1:=R0.alloc (.cells (rA b) 136)
 have C1:=B0.alloc B0.size (.cells (rA b) 136)
 have c0:=(R1.cell 27).trans k0
 have c1:=(R1.cell 28).trans k1
 have d0:=(S0.cell 27).trans l0
 have d1:=(S0.cell 28).trans l1
 have HG:Hid (Sh.less a b=(decide (a.c.used<b.c.used)||(decide (a.c.used=b.c.used)&&decide (a.c.seq<b.c.seq)))):=zA7 (by
  unfold Sh.less
  rw[Bool.eq_iff_iff];simp)
 generalize Sh.less a b=g at*
 generalize a.c.used=ua at*
 generalize b.c.used=ub at*
 generalize a.c.seq=sa at*
 generalize b.c.seq=sb at*
 clear R0 B0 hN ha hb k0 k1 l0 l1 R1 S0
 generalize rA a=U at*
 generalize rA b=V at*
 by_cases h:ua=ub
 ·have e1:(ua !=ub)=false:=by rw[h];simp
  have HG2:Hid (g=decide (sa<sb)):=zA7 (by rw[HG.out,zA8 (by omega),zA9 h];rfl)
  clear h HG
  go_enter Tryz.func164,Tryz.ntmps164
  go_wp2
  go_ret
  exact⟨by rw[HG2.out];rfl,C1⟩
 ·have e1:(ua !=ub)=true:=by rw[bne_iff_ne];exact h
  have HG2:Hid (g=decide (ua<ub)):=zA7 (by rw[HG.out,zA8 h,Bool.false_and,Bool.or_false])
  clear h HG
  go_enter Tryz.func164,Tryz.ntmps164
  go_wp2
  go_ret
  exact⟨by rw[HG2.out];rfl,C1⟩
theorem hAM(k:Sh.Kept)(ha:k.c.host.addr.length=16)(site:ByteArray)(g:Nat)(w:World)(hg:w.cell? ⟨g,0,none⟩=some (.string site))(hgl:g<w.heap.size):
  Calls Tryz.prog 108 #[.agg (rA k),.pointer (some ⟨g,0,none⟩)] w fun e w'=>e= .returned (.bool (decide (k.site=site.data.toList)))/\Below w.heap.size w w':=by
 have C1:=(Below.refl w.heap.size w).alloc (zB3 _) (.cells (rA k) 136)
 have R1:=Row.new w 136 (rA k)
 have c29:(w.alloc (.cells (rA k) 136)).cell? ⟨w.heap.size,29,none⟩=some (.string ⟨k.site.toArray⟩):=(R1.cell 29).trans (VW k ha)
 have d0:=(C1.cell (p:=⟨g,0,none⟩) hgl).trans hg
 have he:=A0 k.site site
 have HQ:Hid (∀b,decide (k.site=site.data.toList)=b->Ending.returned (.bool b)= .returned (.bool (decide (k.site=site.data.toList)))):=zA7 (fun b h=>by rw[h])
 clear R1
 generalize decide (k.site=site.data.toList)=q at*
 generalize(⟨k.site.toArray⟩:ByteArray)=u at*
 generalize rA k=U at*
 go_enter Tryz.func108,Tryz.ntmps108
 go_wp2
 go_ret
 exact⟨HQ.out _ rfl,C1⟩
theorem eA1(w:World)(b:Nat)(cs:Array Value):w.grownBy (w.setRow b cs) (some b):=
 ⟨rfl,rfl,rfl,by rw[size_setRow];exact zB3 _,fun k _ hk=>setRow_other w b k cs (fun e=>hk (by rw[e]))⟩
theorem aAL {S T' L:List Sh.Kept}{k first:Sh.Kept}(hp:((S++ [k])++T').Perm L)(hL:Apart L)(hf:first∈S):Ma.key first.c k.c=false:=by
 have h:=hL.perm hp.symm
 have h2:=(List.pairwise_append.1 h).1
 exact(List.pairwise_append.1 h2).2.2 first hf k (by simp)
theorem kAi {S T':List Sh.Kept}{s:Sh.Shelf}{k first:Sh.Kept}(hw:Sh.Well s)(hp:((S++ [k])++T').Perm s.l)(hf:first∈S):k.c.seq≠first.c.seq:=by
 intro e
 have hk:k∈s.l:=hp.mem_iff.1 (by simp)
 have hfl:first∈s.l:=hp.mem_iff.1 (by simp[hf])
 have:=hw.one hk hfl e
 subst this
 have h:=aAL hp hw.keys hf
 rw[Ma.kF]at h
 cases h
def nH(p:Sh.Kept->Bool)(s:Sh.Shelf)(w:World)(e:Ending)(w':World):Prop:=
 e= .returned (.tuple #[.agg (dA ((Sh.oldest p s).getD Ma.xA)),.bool (Sh.oldest p s).isSome])/\Below w.heap.size w w'
structure BF(p:Sh.Kept->Bool)(s:Sh.Shelf)(w:World)(mb rb:Nat)(S T:List Sh.Kept)(first:Sh.Kept)(found:Bool)(wr:World):Prop where
 perm:(S++T).Perm s.l
 least:Sh.Least p S first found
 zero:found=false->first=Sh.JA
 row:Row wr (w.heap.size+1) 136 (rA first)
 out:Row wr w.heap.size 64 (dA Ma.xA)
 rng:xB wr mb rb s.l.length s.l T
 below:Below w.heap.size w wr
theorem BF.JM {p:Sh.Kept->Bool}{s:Sh.Shelf}{w:World}{mb rb:Nat}{S T:List Sh.Kept}{first:Sh.Kept}{found:Bool}{wr:World}(h:BF p s w mb rb S T first found wr)(hf:found=true):first∈S:=by
 rcases h.least with⟨h0,_⟩|⟨_,h1,_⟩
 ·rw[hf]at h0;cases h0
 ·exact h1
theorem BF.addr {p:Sh.Kept->Bool}{s:Sh.Shelf}{w:World}{mb rb:Nat}{S T:List Sh.Kept}{first:Sh.Kept}{found:Bool}{wr:World}(h:BF p s w mb rb S T first found wr)(ho:lC s.l):first.c.host.addr.length=16:=by
 cases found with
 |false=>rw[h.zero rfl];rfl
 |true=>exact(ho first (h.perm.mem_iff.1 (by simp[h.JM rfl]))).addr
theorem hAR(p:Sh.Kept->Bool)(g:Nat)(cb:Array Value){sb mb:Nat}{s:Sh.Shelf}(w:World)(h:NA w sb mb s)(eg: ∀args w,(callFunc g args).run Tryz.prog w= .ok (.enter g args) w)
  (HF: ∀k∈s.l,∀W,Below w.heap.size w W->Calls Tryz.prog g (#[.agg (rA k)]++cb) W fun e w'=>e= .returned (.bool (p k))/\Below W.heap.size W w'):
  Calls Tryz.prog 107 #[.pointer (some ⟨sb,0,none⟩),.func (.func g) #[] cb] w (nH p s w):=by
 have z1:=lI
 have z2:=XG
 have HM:=zA7 h
 have HW:=zA7 h.well
 have tG:=zA7 h.okay
 have HP:Hid (∀S first found W Y,(S++ []).Perm s.l->Sh.Least p S first found->(found=false->first=Sh.JA)->Y=dA first.c->Below w.heap.size w W->nH p s w (.returned (.tuple #[.agg Y,.bool found])) W):=zA7 (fun S first found W Y hp hl hz hY hb=>by
  rw[List.append_nil]at hp
  have e:=Sh.hAS h.well (hl.perm hp)
  unfold nH
  rw[e,hY]
  cases found with
  |false=>rw[hz rfl];exact⟨rfl,hb⟩
  |true=>exact⟨rfl,hb⟩)
 generalize nH p s w=post at*
 have HG:=zA7 HF
 have c0:=h.cell0
 have T4:=Row.new w 64 (dA Ma.xA)
 have B4:=(Below.refl w.heap.size w).alloc (zB3 _) (.cells (dA Ma.xA) 64)
 have hN:(w.alloc (.cells (dA Ma.xA) 64)).heap.size=w.heap.size+1:=by simp
 have T6:=Row.new (w.alloc (.cells (dA Ma.xA) 64)) 136 (rA Sh.JA)
 rw[hN]at T6
 have T5:=T4.alloc (.cells (rA Sh.JA) 136)
 have B6:=B4.alloc B4.size (.cells (rA Sh.JA) 136)
 have HS2:Hid (((w.alloc (.cells (dA Ma.xA) 64)).alloc (.cells (rA Sh.JA) 136)).heap.size=w.heap.size+2):=zA7 (by simp)
 have H6:=h.stays B6
 have c6:=H6.cell0
 clear HF h c0 T4 B4 hN
 go_enter Tryz.func107,Tryz.ntmps107
 go_wp2_with (at_range;refine yN rfl _ rfl rfl H6.map H6.keys H6.okay ?_;intro w1 hr1 hg1 hs1)
 go_frame
 have C1:Below w.heap.size w w1:=B6.grown hg1 (by rw[HS2.out];omega) (fun _ e=>by cases e)
 have R1:=(hg1.block _ T6.lt (by simp)).trans T6
 have O1:=(hg1.block _ T5.lt (by simp)).trans T5
 generalize hrb:((w.alloc (.cells (dA Ma.xA) 64)).alloc (.cells (rA Sh.JA) 136)).heap.size=rb at*
 have vF:Hid (rb=w.heap.size+2):=HS2
 have HST:Hid (BF p s w mb rb [] s.l Sh.JA false w1):=zA7 ⟨List.Perm.refl _,Sh.gAe p _,fun _=>rfl,R1,O1,hr1,C1⟩
 clear hs1 c6 hg1 H6 B6 T5 T6 C1 R1 O1 hr1 hrb HS2
 go_loopw [7] (fun v wr=> ∃S T first found,v= .bool found/\BF p s w mb rb S T first found wr) (fun _ wr=>wr.rangeLeft mb rb)
 case atStart=>exact⟨_,_,_,_,rfl,HST.out⟩
 case round=>
  obtain⟨S,T,first,found,rfl,hat⟩:=hrel
  clear HST
  have fa:=hat.addr tG.out
  have HA:=zA7 hat
  obtain⟨XF,EG⟩: ∃X,rA first=X:=⟨_,rfl⟩
  have HXF:=zA7 (show(Tryz.prog.info? 136).map (·.size)=some XF.size by rw[<-EG,zC _ fa];exact PF)
  have lT:=zA7 (show XF.size=30 by rw[<-EG,zC _ fa])
  have R0:=hat.row
  rw[EG]at R0
  have O0:=hat.out
  have hr0:=hat.rng
  have b0:=hat.below
  clear hat
  go_wp2_with (first|(at_next;refine iN rfl _ rfl rfl hr0 ?_ ?_))
  ·rintro rfl
   obtain⟨Y,hY⟩: ∃Y,dA first.c=Y:=⟨_,rfl⟩
   have WJ:=zA7 (show XF.extract 0 (0+29)=Y by rw[<-EG,<-hY];exact UW _ fa)
   have HY:=zA7 (show(Tryz.prog.info? 64).map (·.size)=some Y.size by rw[<-hY,TA _ fa];exact uB)
   have SO:=zA7 (show(dA Ma.xA).size=Y.size by rw[<-hY,TA _ fa];rfl)
   have TE:=zA7 (show Y.all (·.oneCell')=true by rw[<-hY];exact FD _)
   have HE:=zA7 (fun W hb=>HP.out S first found W Y HA.out.perm HA.out.least HA.out.zero hY.symm hb)
   clear hY EG HP
   go_wp2_with (first
    |(refine jA 33 rfl ?_;refine eD rfl 64 _ rfl (w.heap.size+1) 0 29 rfl R0 Tryz.underlying64 rfl uB (by rw[lT.out];decide) Y WJ.out ?_)
    |(refine wpList_store_row rfl 64 _ _ rfl w.heap.size Y rfl rfl 64 _ O0 HY.out SO.out TE.out ?_))
   exact bodyPost_ret (v:= .tuple #[.agg Y,.bool found]) (yA rfl _ _ w.heap.size _ _ _ rfl _ rfl (O0.whole _) Tryz.underlying64 rfl HY.out) rfl (HE.out _ (below_setRow b0 (zB3 _) _))
  ·intro k T' w2 hpt hr2 hlt hg2 hs2 hen
   obtain⟨hp2,hkm⟩:=mem_left HA.out.perm hpt
   have ko:=tG.out k hkm
   have pG:=zA7 hlt
   have eAm:=b0.size
   have C2:Below w.heap.size w w2:=b0.grown hg2 b0.size (fun b e=>by have:=zB2 e;have:=vF.out;omega)
   have R2:=(hg2.block _ R0.lt (fun e=>by have:=zB2 e;have:=vF.out;omega)).trans R0
   have O2:=(hg2.block _ O0.lt (fun e=>by have:=zB2 e;have:=vF.out;omega)).trans O0
   obtain⟨X,hX⟩: ∃X,rA k=X:=⟨_,rfl⟩
   rw[hX]at hen
   have HX:=zA7 (show(Tryz.prog.info? 136).map (·.size)=some X.size by rw[<-hX,zC _ ko.addr];exact PF)
   have vB:=zA7 (show(rA Sh.JA).size=X.size by rw[<-hX,zC _ ko.addr];rfl)
   have lB:=zA7 (show X.all (·.oneCell')=true by rw[<-hX];exact PH _)
   have KL:=zA7 (show XF.size=X.size by rw[lT.out,<-hX,zC _ ko.addr])
   have KC:=zA7 (fun W hW=>HG.out k hkm W hW)
   rw[hX]at KC
   have iE:=zA7 (fun W=>hAO k first ko.addr fa W)
   rw[hX,EG]at iE
   have lE:=zA7 (fun hf:found=true=>kAi HW.out hp2 (HA.out.JM hf))
   have kE:=zA7 (Sh.gAf HA.out.least lE.out)
   obtain⟨Z,U,C3,L3⟩:=PA 136 (rA Sh.JA) X (Below.refl w2.heap.size w2) (zB3 _)
   have R3:=L3 _ _ _ R2
   have O3:=L3 _ _ _ O2
   have hr3:=hr2.stays C3
   have pD:Hid (World.rangeLeft _ mb rb<wr.rangeLeft mb rb):=zA7 (by rw[hr2.RF C3];exact pG.out)
   have C4:=C2.trans (C3.mono C2.size)
   clear hs2 hlt hg2 hr2 L3 C3 C2 R2 O2 R0 O0 hr0 b0 eAm pG HG HP
   go_wp2_with (first
    |(refine YC 136 (.tmp 9) (.tmp 18) rfl ?_;refine wpList_store_row rfl 136 _ _ rfl w2.heap.size X rfl rfl 136 _ Z HX.out vB.out lB.out ?_)
    |(refine jA 20 rfl ?_;refine pA rfl 136 _ rfl w2.heap.size rfl U Tryz.underlying136 rfl HX.out ?_))
   have hg9:=U.lt
   generalize(World.setRow _ w2.heap.size X)=x3 at*
   generalize w2.heap.size=g9 at*
   have hU0:w.heap.size+1<x3.heap.size:=R3.lt
   cases hpk:p k with
   |false=>
    rw[hpk]at KC kE
    have tF:Hid (Sh.Least p (S++ [k]) first found):=zA7 (by have:=kE.out;simpa using this)
    clear kE
    refine(KC.out x3 C4).mono ?_
    rintro e x4 ⟨rfl,d4⟩
    have HR:Hid (BF p s w mb rb (S++ [k]) T' first found x4):=zA7 ⟨hp2,tF.out,HA.out.zero,by rw[EG];exact R3.stays d4,O3.stays d4,hr3.stays d4,C4.trans (d4.mono C4.size)⟩
    have sO:Hid (x4.rangeLeft mb rb<wr.rangeLeft mb rb):=zA7 (by rw[hr3.RF d4];exact pD.out)
    clear d4 hr3 C4 R3 O3 U Z pD
    go_wp2
    go_roundw
    case rel=>exact⟨_,_,_,_,rfl,HR.out⟩
    case measure=>exact sO.out
   |true=>
    rw[hpk]at KC kE
    have SJ:Hid (∀y,Below x3.heap.size x3 y->Row y (w.heap.size+1) 136 XF->Below w.heap.size w y->Sh.Least p (S++ [k]) k true->BF p s w mb rb (S++ [k]) T' k true (y.setRow (w.heap.size+1) X)/\(y.setRow (w.heap.size+1) X).rangeLeft mb rb<wr.rangeLeft mb rb):=zA7 (fun y hy hR hw hl=>by
     have nQ:=hr3.stays hy
     have hMl:=nQ.map.lt
     have hgr:=eA1 y (w.heap.size+1) X
     have mW:mb≠w.heap.size+1:=by have:=HM.out.map.lt;omega
     have tW:rb≠w.heap.size+1:=by have:=vF.out;omega
     refine⟨⟨hp2,hl,(fun h=>by cases h),by rw[hX];exact hR.whole X,(O3.stays hy).aside (by omega) X,nQ.kept hgr (fun e=>mW (zB2 e)) (fun e=>tW (zB2 e)),below_setRow hw (by omega) X⟩,?_⟩
     rw[cR nQ hgr (fun e=>mW (zB2 e)) (fun e=>tW (zB2 e)),hr3.RF hy]
     exact pD.out)
    cases found with
    |false=>
     have tF:Hid (Sh.Least p (S++ [k]) k true):=zA7 (by have:=kE.out;simpa using this)
     clear kE
     refine(KC.out x3 C4).mono ?_
     rintro e x4 ⟨rfl,d4⟩
     have R4:=R3.stays d4
     have U4:=U.stays d4
     have kH:=zA7 (SJ.out x4 d4 R4 (C4.trans (d4.mono C4.size)) tF.out)
     clear d4 hr3 C4 R3 O3 U Z pD SJ tF
     go_wp2_with (first
      |(refine jA 31 rfl ?_;refine pA rfl 136 _ rfl g9 rfl U4 Tryz.underlying136 rfl HX.out ?_)
      |(refine YC 136 (.tmp 6) (.tmp 31) rfl ?_;refine wpList_store_row rfl 136 _ _ rfl (w.heap.size+1) X rfl rfl 136 _ R4 HX.out KL.out lB.out ?_))
     go_roundw
     case rel=>exact⟨_,_,_,_,rfl,kH.out.1⟩
     case measure=>exact kH.out.2
    |true=>
     obtain⟨q,hq⟩: ∃q,Sh.less k first=q:=⟨_,rfl⟩
     rw[hq]at iE kE
     refine(KC.out x3 C4).mono ?_
     rintro e x4 ⟨rfl,d4⟩
     have R4:=R3.stays d4
     have U4:=U.stays d4
     have C5:=C4.trans (d4.mono C4.size)
     clear KC
     go_wp2_with (first
      |(refine jA 26 rfl ?_;refine pA rfl 136 _ rfl g9 rfl U4 Tryz.underlying136 rfl HX.out ?_)
      |(refine jA 27 rfl ?_;refine pA rfl 136 _ rfl (w.heap.size+1) rfl R4 Tryz.underlying136 rfl HXF.out ?_))
     cases q with
     |false=>
      have tF:Hid (Sh.Least p (S++ [k]) first true):=zA7 (by have:=kE.out;simpa using this)
      clear kE
      refine(iE.out x4).mono ?_
      rintro e x5 ⟨rfl,d5⟩
      have d6:=d4.trans (d5.mono d4.size)
      have HR:Hid (BF p s w mb rb (S++ [k]) T' first true x5):=zA7 ⟨hp2,tF.out,HA.out.zero,by rw[EG];exact R3.stays d6,O3.stays d6,hr3.stays d6,C4.trans (d6.mono C4.size)⟩
      have sO:Hid (x5.rangeLeft mb rb<wr.rangeLeft mb rb):=zA7 (by rw[hr3.RF d6];exact pD.out)
      clear d4 d5 d6 hr3 C4 C5 R3 R4 O3 U U4 Z pD SJ
      go_wp2
      go_roundw
      case rel=>exact⟨_,_,_,_,rfl,HR.out⟩
      case measure=>exact sO.out
     |true=>
      have tF:Hid (Sh.Least p (S++ [k]) k true):=zA7 (by have:=kE.out;simpa using this)
      clear kE
      refine(iE.out x4).mono ?_
      rintro e x5 ⟨rfl,d5⟩
      have d6:=d4.trans (d5.mono d4.size)
      have R5:=R4.stays d5
      have U5:=U4.stays d5
      have kH:=zA7 (SJ.out x5 d6 R5 (C4.trans (d6.mono C4.size)) tF.out)
      clear d4 d5 d6 hr3 C4 C5 R3 R4 O3 U U4 Z pD SJ tF
      go_wp2_with (first
       |(refine jA 31 rfl ?_;refine pA rfl 136 _ rfl g9 rfl U5 Tryz.underlying136 rfl HX.out ?_)
       |(refine YC 136 (.tmp 6) (.tmp 31) rfl ?_;refine wpList_store_row rfl 136 _ _ rfl (w.heap.size+1) X rfl rfl 136 _ R5 HX.out KL.out lB.out ?_))
      go_roundw
      case rel=>exact⟨_,_,_,_,rfl,kH.out.1⟩
      case measure=>exact kH.out.2
theorem hAQ {p:Sh.Kept->Bool}{s:Sh.Shelf}(ho:lC s.l):((Sh.oldest p s).getD Ma.xA).host.addr.length=16:=by
 cases e:Sh.oldest p s with
 |none=>rfl
 |some c=>
  obtain⟨⟨k,hk,_,rfl⟩,_⟩:=Sh.lN e
  exact(ho k hk).addr
def iJ(site:List UInt8)(k:Sh.Kept):Bool:=decide (k.site=site)
theorem hAP(site:ByteArray){sb mb:Nat}{s:Sh.Shelf}(w:World)(h:NA w sb mb s):
  Calls Tryz.prog 58 #[.pointer (some ⟨sb,0,none⟩),.string site] w (nH (iJ site.data.toList) s w):=by
 have z2:=XG
 have hY:=hAQ (p:=iJ site.data.toList) h.okay
 have hN:(w.alloc (.cells #[.string site] 9)).heap.size=w.heap.size+1:=by simp
 have T4:=Row.new (w.alloc (.cells #[.string site] 9)) 64 (dA Ma.xA)
 rw[hN]at T4
 have S3:=(Row.new w 9 #[.string site]).alloc (.cells (dA Ma.xA) 64)
 have C1:=((Below.refl w.heap.size w).alloc (zB3 _) (.cells #[.string site] 9)).alloc (by rw[hN];omega) (.cells (dA Ma.xA) 64)
 have HC:=zA7 (hAR (iJ site.data.toList) 108 #[.pointer (some ⟨w.heap.size,0,none⟩)] _ (h.stays C1) (enters_of Tryz.func108 (by kernel_rfl) rfl) (fun k hk W hW=>
  hAM k (h.okay k hk).addr site w.heap.size W (((S3.stays hW).cell 0).trans rfl) (S3.stays hW).lt))
 unfold nH at HC⊢
 generalize(Sh.oldest (iJ site.data.toList) s).isSome=b at*
 obtain⟨Y,yK⟩: ∃Y,dA ((Sh.oldest (iJ site.data.toList) s).getD Ma.xA)=Y:=⟨_,rfl⟩
 have HY:=zA7 (show(Tryz.prog.info? 64).map (·.size)=some Y.size by rw[<-yK,TA _ hY];exact uB)
 have SO:=zA7 (show(dA Ma.xA).size=Y.size by rw[<-yK,TA _ hY];rfl)
 have TE:=zA7 (show Y.all (·.oneCell')=true by rw[<-yK];exact FD _)
 rw[yK]at HC⊢
 clear yK hY hN S3
 go_enter Tryz.func58,Tryz.ntmps58
 go_wp2_with fail
 generalize(w.alloc (.cells #[.string site] 9)).alloc (.cells (dA Ma.xA) 64)=x1 at*
 refine HC.out.mono ?_
 rintro e x2 ⟨rfl,d2⟩
 have T5:=T4.stays d2
 have C2:=C1.trans (d2.mono C1.size)
 clear HC T4 C1 d2
 go_wp2_with (refine wpList_store_row rfl 64 _ _ rfl (w.heap.size+1) Y rfl rfl 64 _ T5 HY.out SO.out TE.out ?_)
 exact bodyPost_ret (v:= .tuple #[.agg Y,.bool b]) (yA rfl _ _ (w.heap.size+1) _ _ _ rfl _ rfl (T5.whole _) Tryz.underlying64 rfl HY.out) rfl ⟨rfl,below_setRow C2 (Nat.le_succ _) _⟩
end Go.Proofs.YtdaaoopkkhfbhaaGreatDoor
namespace Go.Proofs.YtdaaoopkkhfbhaaGreatDoor
open Go.RowKit Go.Maps
theorem NA.bAj {w:World}{sb mb:Nat}{s:Sh.Shelf}(h:NA w sb mb s)(k:Nat):w.cell? ⟨mb,k,none⟩=none:=by
 obtain⟨D,⟨es,clock,hb,_⟩,_⟩:=h.map
 unfold World.cell?
 simp[hb]
section
variable {α:Type} {enc:α->Array Value} {n:Nat} {w w':World} {v:Value} {xs:List α}
theorem QB.mAq (hs: ∀x∈xs,(enc x).size=n)(h:QB enc w v xs)(hsz:w.heap.size<=w'.heap.size)
  (hP: ∀g off,g<w.heap.size->(∀j,j<n-> ∃u,w.cell? ⟨g,off+j,none⟩=some u)->w'.heap[g]? =w.heap[g]?):QB enc w' v xs:=by
 obtain⟨A,c,hv,hc,hh⟩:=h
 refine⟨A,c,hv,hc,fun h0=>?_⟩
 obtain⟨g,off,hA,hg,hcell⟩:=hh h0
 obtain⟨x,l,rfl⟩: ∃x l,xs=x::l:=by
  cases xs with
  |nil=>simp at h0
  |cons x l=>exact⟨x,l,rfl⟩
 have e:=hP g off hg (fun j hj=>by
  have hx:=hs x (by simp)
  obtain⟨u,hu⟩: ∃u,(enc x)[j]? =some u:=⟨_,Array.getElem?_eq_getElem (by omega)⟩
  refine⟨u,hcell j u ?_⟩
  rw[LI,List.getElem?_append_left (by rw[Array.length_toList];omega),Array.getElem?_toList]
  exact hu)
 exact⟨g,off,hA,Nat.lt_of_lt_of_le hg hsz,fun j u hu=>by
  have:=hcell j u hu
  unfold World.cell? at this⊢
  rw[e];exact this⟩
end
end Go.Proofs.YtdaaoopkkhfbhaaGreatDoor
namespace Go.Proofs.YtdaaoopkkhfbhaaGreatDoor
namespace Jr
open Ma Sh
attribute [local irreducible] store
theorem count_filter(s:Shelf)(to:List UInt8):count s to=(s.l.filter (IH to)).length:=by
 unfold count;rw[List.countP_eq_length_filter];rfl
theorem dA2 {to:List UInt8}{s:Shelf}(h:Well s)(hc:50<count s to): ∃c,oldest (IH to) s=some c/\few to s=few to (drop s c).1/\count (drop s c).1 to+1=count s to:=by
 cases e:oldest (IH to) s with
 |none=>
  have:=TQ.1 e
  rw[count_filter,this]at hc
  simp at hc
 |some c=>
  obtain⟨_,h2,_⟩:=cAD h e
  have h3:count (drop s c).1 to+1=count s to:=by rw[count_filter,count_filter];exact h2
  refine⟨c,rfl,?_,h3⟩
  unfold few
  rw[show count s to-50=(count (drop s c).1 to-50)+1 by omega]
  conv=>lhs;unfold JF
  rw[e]
end Jr
namespace bA
theorem iAd {l:List UInt8}{h:Host}(hp:parse l=some h):h.name.length<=253/\(h.kind=1\/h.kind=2\/h.kind=3):=by
 unfold parse at hp
 split at hp
 ·cases hp
 ·rename_i k
  split at hp
  ·unfold jD at hp
   split at hp
   ·cases e:aA.v6 l.tail.dropLast with
    |none=>rw[e]at hp;cases hp
    |some g=>rw[e]at hp;rw[<-zB2 hp];exact⟨Nat.zero_le _,.inr (.inr rfl)⟩
   ·cases hp
  ·split at hp
   ·unfold yD at hp
    cases e:aA.v4 l with
    |none=>rw[e]at hp;cases hp
    |some g=>rw[e]at hp;rw[<-zB2 hp];exact⟨Nat.zero_le _,.inr (.inl rfl)⟩
   ·split at hp
    ·rw[<-zB2 hp];exact⟨by show(l.map Oct.low).length<=253;rw[List.length_map];omega,.inl rfl⟩
    ·cases hp
theorem DI {h:Host}(hc:can h=true):h.name.length<=253/\(h.kind=1\/h.kind=2\/h.kind=3):=iAd (zB1 hc)
end bA
namespace Jr
open Ma Sh
structure ZB(c:iA):Prop where
 name:c.name.length<=5000
 value:c.value.length<=5000
 host:bA.can c.host=true
 addr:c.host.addr.length=16
 path:c.path.length<=9000
def VB(s:Shelf):Prop:= ∀k∈s.l,ZB k.c
theorem hAl:VB empty:=fun k hk=>by cases hk
theorem VB.sub {s x:Shelf}(h:VB s)(e:x.l.Sublist s.l):VB x:=fun k hk=>h k (e.subset hk)
theorem VB.put {s:Shelf}(h:VB s){c:iA}(hc:ZB c)(to:List UInt8):VB (put s c to).1:=by
 intro k hk
 rcases yX hk with q|⟨x,_,rfl⟩|rfl
 ·exact h k q
 ·exact⟨hc.name,hc.value,hc.host,hc.addr,hc.path⟩
 ·exact⟨hc.name,hc.value,hc.host,hc.addr,hc.path⟩
theorem VB.expire {s:Shelf}(h:VB s)(now:Int):VB (expire s now).1:=h.sub List.filter_sublist
theorem ZB.used {k:Kept}(h:ZB k.c)(now:Int):ZB (Sh.used now k).c:=⟨h.name,h.value,h.host,h.addr,h.path⟩
theorem VB.use {s:Shelf}(h:VB s)(c:iA)(now:Int):VB (use s c now).1:=by
 intro k hk
 unfold Sh.use at hk
 cases e:place s c with
 |none=>rw[e]at hk;exact h k hk
 |some i=>
  rw[e]at hk
  rcases mem_modify hk with m|⟨x,m,rfl⟩
  ·exact h k m
  ·exact(h x (List.mem_of_getElem? m)).used now
theorem VB.uses {now:Int} : ∀(l:List iA){s:Shelf},VB s->VB (uses now l s)
 | [],_,h=>h
 |c::l,_,h=>VB.uses l (h.use c now)
theorem VB.store {j:MA}(h:VB j.s){c:iA}(hc:ZB c):VB (store j c):=
 ((h.put hc (QC j.rules c.host)).expire j.now).sub (FZ j c).1
theorem hAn {rs:List Ru.Rule}{u:Ur.URL}{h:Hd.Head}{now:Int}{c:iA}(ht:Ad.take rs u h now=(0,c))(hg:Hd.Good h)(hu:Ur.right u=true)(ha:c.host.addr.length=16)(hp:u.path.length<=9000):ZB c:=by
 obtain⟨_,hw,_,_,_,rfl⟩:=Ad.take_zero ht
 have hf:=hg.few
 refine⟨by show h.name.length<=5000;omega,by show h.value.length<=5000;omega,?_,ha,?_⟩
 ·show bA.can (Ad.whose rs u.host h.domain).2.1=true
  rcases Ad.mAs hw with⟨_,e⟩|⟨_,e,_⟩
  ·rw[e];exact(Ur.bZ hu).1
  ·exact cAw e
 ·show(Ad.pathOf u h).length<=9000
  unfold Ad.pathOf
  split
  ·have iF:=(Ur.bZ hu).2.2
   have hh:u.path.head?=some 47:=by
    unfold Ur.cC at iF
    simp only[Bool.and_eq_true,decide_eq_true_eq]at iF
    first|exact iF.1.2|exact iF.2.2|exact iF.2|exact iF.1.1.2
   exact Nat.le_trans (cAq hh) hp
  ·have:=hg.YH;omega
theorem tM(a b:iA):goes a b=true↔b.path.length<a.path.length\/(a.path.length=b.path.length/\a.seq<b.seq):=by
 unfold goes
 simp only[Bool.or_eq_true,Bool.and_eq_true,decide_eq_true_eq]
theorem wV {a b c:iA}(h1:goes a b=true)(h2:goes b c=true):goes a c=true:=by
 rw[tM]at*
 omega
theorem vV {a b:iA}(h:a.seq≠b.seq)(h1:goes a b=false):goes b a=true:=by
 have h1: ¬goes a b=true:=by rw[h1];simp
 rw[tM]at*
 omega
theorem GW {c:iA} : ∀ {l:List iA},l.Pairwise (fun a b=>goes a b=true)->(∀x∈l,c.seq≠x.seq)->(ins c l).Pairwise fun a b=>goes a b=true
 | [],_,_=>List.pairwise_singleton _ _
 |x::l,h,hn=>by
  obtain⟨h1,h2⟩:=List.pairwise_cons.1 h
  unfold ins
  split
  ·rename_i k
   refine List.pairwise_cons.2 ⟨fun b hb=>?_,h⟩
   rcases List.mem_cons.1 hb with rfl|hb
   ·exact k
   ·exact wV k (h1 b hb)
  ·rename_i k
   have k:goes c x=false:=by simpa using k
   refine List.pairwise_cons.2 ⟨fun b hb=>?_,GW h2 (fun y hy=>hn y (by simp[hy]))⟩
   rcases NM.1 hb with rfl|hb
   ·exact vV (hn x (by simp)) k
   ·exact h1 b hb
theorem rQ(c:iA): ∀l:List iA,(ins c l).Perm (c::l)
 | []=>List.Perm.refl _
 |x::l=>by
  unfold ins
  split
  ·exact List.Perm.refl _
  ·exact((rQ c l).cons x).trans (List.Perm.swap c x l)
theorem qV: ∀ {l o:List iA},o.Pairwise (fun a b=>goes a b=true)->(l++o).Pairwise (fun a b=>a.seq≠b.seq)->(l.foldl (fun o c=>ins c o) o).Pairwise fun a b=>goes a b=true
 | [],_,h,_=>h
 |c::l,o,h,hn=>by
  rw[List.cons_append]at hn
  obtain⟨h1,h2⟩:=List.pairwise_cons.1 hn
  rw[List.foldl_cons]
  refine qV (GW h (fun x hx=>h1 x (by simp[hx]))) ?_
  rw[List.pairwise_append]at h2⊢
  obtain⟨p1,p2,p3⟩:=h2
  refine⟨p1,?_,fun a ha b hb=>?_⟩
  ·refine((rQ c o).pairwise_iff (fun {a b} h=>Ne.symm h)).2 (List.pairwise_cons.2 ⟨fun b hb=>h1 b (by simp[hb]),p2⟩)
  ·rcases NM.1 hb with rfl|hb
   ·exact Ne.symm (h1 a (by simp[ha]))
   ·exact p3 a ha b hb
theorem pV: ∀(l o:List iA),(l.foldl (fun o c=>ins c o) o).Perm (l++o)
 | [],o=>List.Perm.refl _
 |c::l,o=>by
  rw[List.foldl_cons]
  exact(pV l (ins c o)).trans (((rQ c o).append_left l).trans List.perm_middle)
theorem jAI {j:MA}(h:Well j.s)(r:Request):(row j r).Pairwise fun a b=>goes a b=true:=by
 unfold row
 refine qV List.Pairwise.nil ?_
 rw[List.append_nil]
 exact((ZO h).imp (fun h=>by omega)).filter _
theorem nR(j:MA)(r:Request):((all j.s).filter fun c=>sends c r j.now).Perm (row j r):=by
 unfold row
 have:=pV ((all j.s).filter fun c=>sends c r j.now) []
 rw[List.append_nil]at this
 exact this.symm
theorem tV: ∀ {l m:List iA},l.Perm m->l.Pairwise (fun a b=>goes a b=true)->m.Pairwise (fun a b=>goes a b=true)->l=m
 | [],m,hp,_,_=>hp.nil_eq
 |a::l,[],hp,_,_=>by have:=hp.length_eq;simp at this
 |a::l,b::m,hp,h1,h2=>by
  obtain⟨p1,p2⟩:=List.pairwise_cons.1 h1
  obtain⟨q1,q2⟩:=List.pairwise_cons.1 h2
  have e:a=b:=by
   have ha:=hp.mem_iff.1 (show a∈a::l by simp)
   have hb:=hp.mem_iff.2 (show b∈b::m by simp)
   rcases List.mem_cons.1 ha with e|ha
   ·exact e
   ·rcases List.mem_cons.1 hb with e|hb
    ·exact e.symm
    ·exact absurd ⟨p1 b hb,q1 a ha⟩ (uV a b)
  subst e
  rw[tV (List.Perm.cons_inv hp) p2 q2]
theorem mA5(now:Int)(l:List iA)(c:iA)(s:Shelf):uses now (l++ [c]) s=(use (uses now l s) c now).1:=by
 unfold uses
 rw[List.foldl_append];rfl
theorem kA1 {c:iA}(h:ZB c):(said c).length<=10001:=by
 unfold said
 have h1:=h.name
 have h2:=h.value
 split
 ·omega
 ·rw[zB4,zB5];omega
theorem RW: ∀(l:List (List UInt8)),(∀x∈l,x.length<=10001)->(join l).length<=10003*l.length
 | [],_=>zB3 _
 | [x],h=>by
  have:=h x (by simp)
  show x.length<=10003*1
  omega
 |x::y::l,h=>by
  have h1:=h x (by simp)
  have ih:=RW (y::l) (fun z hz=>h z (by simp[hz]))
  show(x++59::32::join (y::l)).length<=_
  rw[zB4,zB5,zB5,zB5]
  omega
theorem hAm {j:MA}(h:VB j.s)(r:Request): ∀c∈row j r,ZB c:=by
 intro c hc
 obtain⟨m,_⟩:=mR.1 hc
 obtain⟨k,hk,rfl⟩:=List.mem_map.1 m
 exact h k hk
theorem NX {s:Shelf}(h:VB s): ∀c∈all s,ZB c:=by
 intro c hc
 obtain⟨k,hk,rfl⟩:=List.mem_map.1 hc
 exact h k hk
end Jr
end Go.Proofs.YtdaaoopkkhfbhaaGreatDoor
namespace Go.Proofs.YtdaaoopkkhfbhaaGreatDoor
open Go.RowKit Go.Maps
def UI(now:Int)(tb sb:Nat):Array Value:= #[.int .i64 now,.pointer (some ⟨tb,0,none⟩),.pointer (some ⟨sb,0,none⟩)]
theorem TG {w:World}{g k:Nat}{t u:TypeId}{cs ds:Array Value}(h:Row w g t cs)(h2:Row w k u ds)(ht:t≠u):g≠k:=by
 rintro rfl
 have:=h.symm.trans h2
 simp only[Option.some.injEq,Obj.cells.injEq]at this
 exact ht this.2.1
structure ZA(w:World)(B jb tb sb mb:Nat)(j:Jr.MA):Prop where
 low:B<=jb/\B<=sb/\B<=mb
 row:Row w jb 42 (UI j.now tb sb)
 table: ∃n₀ tm,TabAt w n₀ tb tm (Sx.new j.rules)/\tm≠mb
 shelf:NA w sb mb j.s
structure pB(w:World)(B jb tb sb mb:Nat)(j:Jr.MA):Prop extends ZA w B jb tb sb mb j where
 fine:Jr.rF j
 TH:Jr.VB j.s
structure AA(jb sb mb:Nat)(w w':World):Prop where
 os:w'.os=w.os
 tape:w'.tape=w.tape
 output:w'.output=w.output
 size:w.heap.size<=w'.heap.size
 same: ∀b,b<w.heap.size->b≠jb->b≠sb->b≠mb->w'.heap[b]? =w.heap[b]?
theorem AA.refl (jb sb mb:Nat)(w:World):AA jb sb mb w w:=⟨rfl,rfl,rfl,zB3 _,fun _ _ _ _ _=>rfl⟩
theorem AA.trans {jb sb mb:Nat}{a b c:World}(h:AA jb sb mb a b)(k:AA jb sb mb b c):AA jb sb mb a c:=
 ⟨k.os.trans h.os,k.tape.trans h.tape,k.output.trans h.output,Nat.le_trans h.size k.size,fun i hi h1 h2 h3=>(k.same i (Nat.lt_of_lt_of_le hi h.size) h1 h2 h3).trans (h.same i hi h1 h2 h3)⟩
theorem AA.of {jb sb mb n:Nat}{w w':World}(h:Below n w w')(hn:w.heap.size<=n):AA jb sb mb w w':=⟨h.os,h.tape,h.output,h.size,fun b hb _ _ _=>h.block b (by omega)⟩
theorem AA.shelf {jb sb mb:Nat}{w w':World}(h:LB sb mb w w'):AA jb sb mb w w':=⟨h.os,h.tape,h.output,h.size,fun b hb _ h2 h3=>h.same b hb h2 h3⟩
theorem AA.cell {jb sb mb:Nat}(w:World)(i:Nat)(u:Value):AA jb sb mb w (w.setCell ⟨jb,i,none⟩ u):=
 ⟨rfl,rfl,rfl,by simp,fun b _ h1 _ _=>heap_setCell_other w ⟨jb,i,none⟩ b u h1⟩
theorem AA.below {jb sb mb n:Nat}{w w':World}(h:AA jb sb mb w w')(h1:n<=jb)(h2:n<=sb)(h3:n<=mb)(hn:n<=w.heap.size):Below n w w':=
 ⟨h.os,h.tape,h.output,h.size,fun i hi=>h.same i (by omega) (by omega) (by omega) (by omega)⟩
theorem hAg:(42:TypeId)≠101:=by decide
theorem hAh:(42:TypeId)≠76:=by decide
theorem hAf:(42:TypeId)≠111:=by decide
theorem hAj:(101:TypeId)≠76:=by decide
theorem hAi:(101:TypeId)≠111:=by decide
section
variable {w w':World} {B jb tb sb mb:Nat} {j:Jr.MA}
theorem ZA.apart (h:ZA w B jb tb sb mb j):jb≠sb/\jb≠mb/\sb≠mb:=
 ⟨TG h.row h.shelf.row hAg,fun e=>cI h.row h.shelf.map e.symm,Ne.symm h.shelf.apart⟩
theorem ZA.cell0 (h:ZA w B jb tb sb mb j):w.cell? ⟨jb,0,none⟩=some (.int .i64 j.now):=by rw[h.row.cell];rfl
theorem ZA.cell1 (h:ZA w B jb tb sb mb j):w.cell? ⟨jb,1,none⟩=some (.pointer (some ⟨tb,0,none⟩)):=by rw[h.row.cell];rfl
theorem ZA.WE (h:ZA w B jb tb sb mb j):w.cell? ⟨jb,2,none⟩=some (.pointer (some ⟨sb,0,none⟩)):=by rw[h.row.cell];rfl
theorem ZA.lt (h:ZA w B jb tb sb mb j):jb<w.heap.size/\sb<w.heap.size/\mb<w.heap.size:=⟨h.row.lt,h.shelf.row.lt,h.shelf.map.lt⟩
theorem ZA.stays (h:ZA w B jb tb sb mb j)(hb:Below w.heap.size w w'):ZA w' B jb tb sb mb j:=by
 obtain⟨n₀,tm,hT,hm⟩:=h.table
 exact⟨h.low,h.row.stays hb,⟨n₀,tm,hT.stays hb,hm⟩,h.shelf.stays hb⟩
theorem pB.stays (h:pB w B jb tb sb mb j)(hb:Below w.heap.size w w'):pB w' B jb tb sb mb j:=⟨h.toZA.stays hb,h.fine,h.TH⟩
theorem TabAt.turned {n₀ tm:Nat}{t:Sx.Tab}(h:TabAt w n₀ tb tm t)(t3:AA jb sb mb w w')(h1:tb≠jb/\tb≠sb/\tb≠mb)(h2:tm≠jb/\tm≠sb/\tm≠mb)(h3: ∀b,b=jb\/b=sb\/b=mb-> ∀cs cur,w.heap[b]? ≠some (.cells cs 111 cur)):TabAt w' n₀ tb tm t:=by
 obtain⟨v,hR,hO⟩:=h.cells
 have hm:w'.ownsMap Tryz.prog 165 (plainElem (H:=Unit) Tryz.prog 3) tm t.es.length (mapD t.es):=by
  have hlt:=h.map.lt
  obtain⟨es,clock,hb,F,hs,hD⟩:=h.map
  exact⟨es,clock,(t3.same tm hlt h2.1 h2.2.1 h2.2.2).trans hb,F,hs,hD⟩
 have ho:w'.ownsRow n₀ 111 4 v t.ends.length (jC t.ends):=by
  refine⟨hO.1,?_⟩
  rcases hO.2 with hn|⟨g,cap,cur,rfl,hb,hg,rest⟩
  ·exact .inl hn
  ·refine .inr ⟨g,cap,cur,rfl,hb,?_,rest⟩
   have hne: ∀b,b=jb\/b=sb\/b=mb->g≠b:=fun b hb e=>h3 b hb cur (0,0) (by subst e;exact hg)
   exact(t3.same g (Array.getElem?_eq_some_iff.1 hg).1 (hne _ (.inl rfl)) (hne _ (.inr (.inl rfl))) (hne _ (.inr (.inr rfl)))).trans hg
 exact⟨h.well,h.okay,h.few,h.apart,h.low,hm,v,(t3.same tb hR.lt h1.1 h1.2.1 h1.2.2).trans hR,ho⟩
theorem gAC {L:List Sh.Kept}(h:MapAt w mb L): ∃es clock,w.heap[mb]? =some (.map es clock):=by
 obtain⟨D,⟨es,clock,hb,_⟩,_⟩:=h
 exact⟨es,clock,hb⟩
theorem ZA.NZ (h:ZA w B jb tb sb mb j)(t3:AA jb sb mb w w'): ∃n₀ tm,TabAt w' n₀ tb tm (Sx.new j.rules)/\tm<w.heap.size/\tm≠mb:=by
 obtain⟨n₀,tm,hT,hm⟩:=h.table
 obtain⟨v,hR,hO⟩:=hT.cells
 obtain⟨es,clock,hmb,_⟩:=hT.map
 obtain⟨fs,fc,hM⟩:=gAC h.shelf.map
 have MX: ∀ {g:Nat}{t:TypeId}{cs:Array Value},Row w g t cs->tm≠g:=by
  rintro g t cs R rfl
  have:=R.symm.trans hmb
  cases this
 refine⟨n₀,tm,hT.turned t3 ⟨Ne.symm (TG h.row hR hAh),Ne.symm (TG h.shelf.row hR hAj),?_⟩ ⟨MX h.row,MX h.shelf.row,hm⟩ ?_,hT.map.lt,hm⟩
 ·exact fun e=>cI hR h.shelf.map e.symm
 ·rintro b (rfl|rfl|rfl) cs cur e
  ·have:=h.row.symm.trans e
   simp only[Option.some.injEq,Obj.cells.injEq]at this
   exact hAf this.2.1
  ·have:=h.shelf.row.symm.trans e
   simp only[Option.some.injEq,Obj.cells.injEq]at this
   exact hAi this.2.1
  ·rw[hM]at e
   cases e
theorem ZA.turned (h:ZA w B jb tb sb mb j){s:Sh.Shelf}(t:LB sb mb w w')(hs:NA w' sb mb s):ZA w' B jb tb sb mb ⟨j.rules,s,j.now⟩:=by
 obtain⟨n₀,tm,hT,_,hm⟩:=h.NZ (AA.shelf t)
 obtain⟨a1,a2,_⟩:=h.apart
 exact⟨h.low,(t.same jb h.row.lt a1 a2).trans h.row,⟨n₀,tm,hT,hm⟩,hs⟩
theorem AA.rows (t3:AA jb sb mb w w')(h:ZA w B jb tb sb mb j){g:Nat}{T:TypeId}{cs:Array Value}(R:Row w g T cs)(h1:T≠42)(h2:T≠101):Row w' g T cs:=
 (t3.same g R.lt (TG R h.row h1) (TG R h.shelf.row h2) (fun e=>cI R h.shelf.map e.symm)).trans R
theorem QB.lAF {α:Type}{enc:α->Array Value}{n:Nat}{v:Value}{xs:List α}(hs: ∀x∈xs,(enc x).size=n)(hn:4<=n)(h:QB enc w v xs)(k:ZA w B jb tb sb mb j)(t:AA jb sb mb w w'):QB enc w' v xs:=
 h.mAq hs t.size fun g off hg hc=>t.same g hg
  (fun e=>by
   obtain⟨u,hu⟩:=hc 3 (by omega)
   rw[e,k.row.cell]at hu
   have:=(Array.getElem?_eq_some_iff.1 hu).1
   unfold UI at this
   simp at this
   omega)
  (fun e=>by
   obtain⟨u,hu⟩:=hc 2 (by omega)
   rw[e,k.shelf.row.cell]at hu
   have:=(Array.getElem?_eq_some_iff.1 hu).1
   simp at this
   omega)
  (fun e=>by
   obtain⟨u,hu⟩:=hc 2 (by omega)
   rw[e,k.shelf.bAj]at hu
   cases hu)
end
theorem AA.grown {jb sb mb:Nat}{a w w':World}{row:Option Nat}(h:AA jb sb mb a w)(hg:w.grownBy w' row)(hr: ∀b,row=some b->a.heap.size<=b):AA jb sb mb a w':=
 ⟨hg.os.trans h.os,hg.tape.trans h.tape,hg.output.trans h.output,Nat.le_trans h.size hg.size,fun b hb h1 h2 h3=>(hg.block b (Nat.lt_of_lt_of_le hb h.size) (fun e=>by have:=hr b e.symm;omega)).trans (h.same b hb h1 h2 h3)⟩
theorem hAk {w:World}{tb tm n₀ g:Nat}{t:Sx.Tab}(h:TabAt w n₀ tb tm t){T:TypeId}{cs:Array Value}(R:Row w g T cs)(hT:T≠76)(hK:T≠111):g≠tb/\g≠tm/\ ∀ds cur,w.heap[g]? ≠some (.cells ds 111 cur):=by
 obtain⟨v,hR,_⟩:=h.cells
 obtain⟨es,clock,hmb,_⟩:=h.map
 refine⟨TG R hR hT,?_,fun ds cur e=>?_⟩
 ·rintro rfl
  have:=R.symm.trans hmb
  cases this
 ·have:=R.symm.trans e
  simp only[Option.some.injEq,Obj.cells.injEq]at this
  exact hK this.2.1
theorem ZA.kept {w w':World}{B jb tb sb mb:Nat}{j:Jr.MA}{row:Option Nat}(h:ZA w B jb tb sb mb j)(hg:w.grownBy w' row)(hr: ∀b,row=some b->w.heap.size<=b\/ ∃T cs,Row w b T cs/\T≠42/\T≠101/\T≠76/\T≠111):ZA w' B jb tb sb mb j:=by
 obtain⟨n₀,tm,hT,hm⟩:=h.table
 have hlt:=h.lt
 have h1:some jb≠row:=fun e=>by
  rcases hr jb e.symm with k|⟨T,cs,R,k,_⟩
  ·omega
  ·exact TG R h.row k rfl
 have h2:some sb≠row:=fun e=>by
  rcases hr sb e.symm with k|⟨T,cs,R,_,k,_⟩
  ·omega
  ·exact TG R h.shelf.row k rfl
 have h3:some mb≠row:=fun e=>by
  rcases hr mb e.symm with k|⟨T,cs,R,_⟩
  ·omega
  ·exact cI R h.shelf.map rfl
 have hT':=hT.kept hg (fun b e=>by
  rcases hr b e with k|⟨T,cs,R,_,_,k1,k2⟩
  ·exact .inl k
  ·exact .inr (hAk hT R k1 k2))
 have hS:=h.shelf
 exact⟨h.low,(hg.block jb hlt.1 h1).trans h.row,⟨n₀,tm,hT',hm⟩,⟨hS.well,hS.okay,hS.few,hS.apart,(hg.block sb hlt.2.1 h2).trans hS.row,hS.map.kept hg h3⟩⟩
theorem iA3 {w:World}{B n size:Nat}{E:TypeId}{v:Value}{xs:List Value}(h:w.ownsRow B E size v n xs): ∀b,v.ownBlock=some b->B<=b/\ ∃cs,Row w b E cs:=by
 intro b hb
 rcases h.2 with⟨rfl,_⟩|⟨g,cap,cur,rfl,hB,hg,_⟩
 ·cases hb
 ·have e:g=b:=zB2 hb
  subst e
  exact⟨hB,cur,hg⟩
end Go.Proofs.YtdaaoopkkhfbhaaGreatDoor
