/- Plain functions on public suffixes, and plain lemmas on them: what the calls of package suffix answer. No program is named here. -/
import Derived.Test.YtabgoobcliijeaaGreatDoorY2
import Derived.Laws.Runes
import Derived.WalkMore
import Derived.Lib.OthersKept
import Derived.Laws.Small
import Derived.Maps.AppendAt
import Derived.Maps.OwnSet
import Derived.DeepKeys4
set_option maxHeartbeats 4000000
set_option maxRecDepth 100000
namespace Go.Proofs.YtabgoobcliijeaaGreatDoor
namespace Sx
abbrev Way:=Nat×List UInt8
def find(es:List Way)(k:Way):Option Nat:=if k∈es then some (es.idxOf k+1)else none
def walk(es:List Way):Nat->List (List UInt8)->Option Nat
 |j,[]=>some j
 |j,l::r=>match find es (j,l)with|some i=>walk es i r|none=>none
structure Kinds where
 name:Bool
 fC:Bool
 spare:Bool
def no:Kinds:=⟨false,false,false⟩
def Kinds.mark (K:Kinds)(k:Int):Kinds:=if k=1 then {K with name:=true} else if k=2 then {K with fC:=true} else {K with spare:=true}
def Kinds.of (K:Kinds)(k:Int):Bool:=if k=1 then K.name else if k=2 then K.fC else K.spare
structure Tab where
 es:List Way
 ends:List Kinds
def Tab.bare:Tab:=⟨[],[no]⟩
def step(t:Tab)(j:Nat)(l:List UInt8):Tab×Nat:=match find t.es (j,l)with|some i=>(t,i)|none=>(⟨t.es++ [(j,l)],t.ends++ [no]⟩,t.ends.length)
def lay(t:Tab)(ls:List (List UInt8)):Tab×Nat:=ls.foldl (fun s l=>step s.1 s.2 l) (t,0)
def mark(t:Tab)(j:Nat)(k:Int):Tab:=⟨t.es,t.ends.modify j (fun K=>K.mark k)⟩
def path(r:Ru.Rule):List (List UInt8):=(dA.labels ⟨1,r.name,dA.BA⟩).reverse
def right(r:Ru.Rule):Bool:=decide (Ru.line (Ru.text r)=(0,true,r))
def add(t:Tab)(r:Ru.Rule):Tab:=mark (lay t (path r)).1 (lay t (path r)).2 r.kind
def put(t:Tab)(r:Ru.Rule):Tab:=if right r=true then add t r else t
def new(rs:List Ru.Rule):Tab:=rs.foldl put Tab.bare
def along(t:Tab):Nat->List (List UInt8)->List Kinds
 |_,[]=> []
 |j,l::r=>match find t.es (j,l)with|some i=>(t.ends[i]?).getD no::along t i r|none=> []
def next(n:Nat)(K:Kinds)(c:Nat)(s:Nat×Nat):Nat×Nat:=
 (if K.fC=true/\c<n then max (if K.name=true then max s.1 c else s.1) (c+1)else if K.name=true then max s.1 c else s.1,if K.spare=true then c-1 else s.2)
def tally(n:Nat):List Kinds->Nat->Nat×Nat->Nat×Nat
 | [],_,s=>s
 |K::r,i,s=>tally n r (i+1) (next n K (i+1) s)
def pick(s:Nat×Nat):Nat:=if 0<s.2 then s.2 else s.1
def suffix(t:Tab)(h:dA.Host):Nat:=if dA.labels h= []then 0 else pick (tally (dA.labels h).length (along t 0 (dA.labels h).reverse) 0 (1,0))
def isPublic(n:Nat)(h:dA.Host):Bool:=decide (0<(dA.labels h).length)&&decide ((dA.labels h).length=n)
theorem pK {r:Ru.Rule} :right r=true↔Ru.Can r:=by
 unfold right
 rw[decide_eq_true_eq]
 exact⟨fun h=>Ru.kAo h,fun h=>Ru.kAq h⟩
theorem cAE(r:Ru.Rule):right r=((Ru.line (Ru.text r)).2.1&&decide ((Ru.line (Ru.text r)).2.2=r)):=by
 unfold right
 rcases Ru.PQ (Ru.text r)with⟨x,h1,_⟩|h1|h1
 ·rw[h1,Bool.true_and,decide_eq_decide];simp
 ·rw[h1,Bool.false_and,decide_eq_false_iff_not];simp
 ·rw[h1,Bool.false_and,decide_eq_false_iff_not];simp
theorem jR {r:Ru.Rule}(h:Ru.Can r):path r=(Oct.split 46 r.name).reverse:=by unfold path;rw[dA.AN h.good]
theorem xR: ∀s:List UInt8,(Oct.split 46 s).length<=s.length+1
 | []=>zB3 _
 |c::r=>by
  have ih:=xR r
  rw[Oct.ND]
  split
  ·rw[zB5,zB5];omega
  ·cases e:Oct.split 46 r with
   |nil=>exact absurd e (Oct.dG 46 r)
   |cons p ps=>rw[e,zB5]at ih;simp;omega
theorem bAR {r:Ru.Rule}(h:Ru.Can r):(path r).length<=254:=by
 have:=xR r.name
 have:=h.good.few
 rw[jR h,List.length_reverse];omega
theorem kA8(h:dA.Host):(dA.labels h).length<=254:=by
 by_cases hl:dA.labels h= []
 ·rw[hl];simp
 ·obtain⟨_,g,_,e⟩:=dA.iI hl
  have:=xR h.name
  have:=g.few
  rw[e];omega
structure Tree(es:List Way):Prop where
 once:es.Nodup
 back: ∀(i:Nat)(e:Way),es[i]? =some e->e.1<=i
theorem nH {es:List Way}{k:Way}{i:Nat}(h:find es k=some i):1<=i/\i<=es.length/\es[i-1]? =some k:=by
 unfold find at h
 split at h
 ·rename_i hm
  have e:=zB2 h
  have hl:=List.idxOf_lt_length_of_mem hm
  subst e
  refine⟨by omega,by omega,?_⟩
  rw[Nat.add_sub_cancel,List.getElem?_eq_getElem hl,List.getElem_idxOf]
 ·cases h
theorem hAw {es m:List Way}{k:Way}{i:Nat}(h:find es k=some i):find (es++m) k=some i:=by
 unfold find at h⊢
 split at h
 ·rename_i hm
  rw[if_pos (List.mem_append.2 (.inl hm)),List.idxOf_append,if_pos hm];exact h
 ·cases h
theorem jL {es:List Way}{k:Way} :find es k=none↔k∉es:=by
 unfold find
 split
 ·simp_all
 ·simp_all
theorem I4 {es:List Way}{k:Way}(h:find es k=none):find (es++ [k]) k=some (es.length+1):=by
 unfold find
 rw[if_pos (by simp),List.idxOf_append,if_neg (jL.1 h)]
 simp
theorem hAy {es:List Way}{k q:Way}(h:k≠q):find (es++ [q]) k=find es k:=by
 unfold find
 by_cases hm:k∈es
 ·rw[if_pos hm,if_pos (List.mem_append.2 (.inl hm)),List.idxOf_append,if_pos hm]
 ·rw[if_neg hm,if_neg]
  intro e
  rcases List.mem_append.1 e with e|e
  ·exact hm e
  ·exact h (List.mem_singleton.1 e)
theorem PW {es m:List Way} : ∀ {p:List (List UInt8)}{j i:Nat},walk es j p=some i->walk (es++m) j p=some i
 | [],_,_,h=>h
 |l::r,j,i,h=>by
  unfold walk at h⊢
  cases e:find es (j,l)with
  |none=>rw[e]at h;cases h
  |some x=>
   rw[e]at h
   rw[hAw e]
   exact PW h
theorem BO(es:List Way)(j:Nat)(l:List UInt8)(r:List (List UInt8)):walk es j (l::r)=(find es (j,l)).bind fun i=>walk es i r:=by
 rw[walk]
 cases find es (j,l)<;>rfl
theorem SR(es:List Way): ∀(p:List (List UInt8))(j:Nat)(l:List UInt8),walk es j (p++ [l])=(walk es j p).bind fun i=>find es (i,l)
 | [],j,l=>by
  rw[List.nil_append,BO]
  show(find es (j,l)).bind some=find es (j,l)
  cases find es (j,l)<;>rfl
 |q::p,j,l=>by
  rw[List.cons_append,BO,BO]
  cases find es (j,q)with
  |none=>rfl
  |some i=>exact SR es p i l
theorem cG {α:Type} : ∀(p:List α),p= []\/ ∃q x,p=q++ [x]
 | []=> .inl rfl
 |x::r=>by
  rcases cG r with rfl|⟨q,y,rfl⟩
  ·exact .inr ⟨[],x,rfl⟩
  ·exact .inr ⟨x::q,y,rfl⟩
theorem walk_last {es:List Way}{p:List (List UInt8)}{l:List UInt8}{j:Nat}(h:walk es 0 (p++ [l])=some j): ∃i,walk es 0 p=some i/\find es (i,l)=some j:=by
 rw[SR]at h
 cases e:walk es 0 p with
 |none=>rw[e]at h;cases h
 |some i=>rw[e]at h;exact⟨i,rfl,h⟩
theorem dAM {es:List Way}(ht:Tree es): ∀(n j:Nat)(p q:List (List UInt8)),j<=n->walk es 0 p=some j->walk es 0 q=some j->p=q
 |n,j,p,q,hn,hp,hq=>by
  rcases cG p with rfl|⟨p,l,rfl⟩
  ·have e:j=0:=(zB2 hp).symm
   subst e
   rcases cG q with rfl|⟨q,m,rfl⟩
   ·rfl
   ·obtain⟨i,_,hf⟩:=walk_last hq
    exact absurd (nH hf).1 (by omega)
  ·obtain⟨i,hi,hf⟩:=walk_last hp
   obtain⟨h1,h2,h3⟩:=nH hf
   rcases cG q with rfl|⟨q,m,rfl⟩
   ·have e:j=0:=(zB2 hq).symm
    omega
   ·obtain⟨k,hk,hg⟩:=walk_last hq
    obtain⟨_,_,g3⟩:=nH hg
    rw[h3]at g3
    have e:=zB2 g3
    have e1:i=k:=congrArg Prod.fst e
    have e2:l=m:=congrArg Prod.snd e
    subst e1 e2
    have hb:=ht.back _ _ h3
    match n,hn with
    |0,hn=>omega
    |n+1,hn=>
     rw[dAM ht n i p q (by dsimp only at hb;omega) hi hk]
theorem qA9 {es:List Way}{p:List (List UInt8)}{j:Nat}(h:walk es 0 p=some j):j<=es.length:=by
 rcases cG p with rfl|⟨p,l,rfl⟩
 ·have e:j=0:=(zB2 h).symm
  omega
 ·obtain⟨i,_,hf⟩:=walk_last h
  exact(nH hf).2.1
structure Well(t:Tab):Prop where
 tree:Tree t.es
 size:t.ends.length=t.es.length+1
theorem KY:Well Tab.bare:=⟨⟨List.nodup_nil,fun i e h=>by simp[Tab.bare]at h⟩,rfl⟩
theorem dA2 {t:Tab}{j:Nat}{l:List UInt8}(ht:Well t)(hj:j<=t.es.length):Well (step t j l).1/\(step t j l).2<=(step t j l).1.es.length/\(∃m,(step t j l).1.es=t.es++m)/\find (step t j l).1.es (j,l)=some (step t j l).2/\(step t j l).1.es.length<=t.es.length+1/\(∀i:Nat,((step t j l).1.ends[i]?).getD no=(t.ends[i]?).getD no):=by
 unfold step
 cases e:find t.es (j,l)with
 |some i=>exact⟨ht,(nH e).2.1,⟨[],by simp⟩,e,by dsimp only;omega,fun _=>rfl⟩
 |none=>
  dsimp only
  refine⟨⟨⟨?_,?_⟩,?_⟩,?_,⟨_,rfl⟩,?_,?_,?_⟩
  ·rw[List.nodup_append]
   refine⟨ht.tree.once,by simp,fun a ha b hb hab=>?_⟩
   rw[List.mem_singleton]at hb
   rw[hab,hb]at ha
   exact jL.1 e ha
  ·intro i x hx
   dsimp only at hx
   rcases Nat.lt_or_ge i t.es.length with hi|hi
   ·rw[List.getElem?_append_left hi]at hx
    exact ht.tree.back i x hx
   ·rw[List.getElem?_append_right hi]at hx
    obtain⟨hz,hx⟩:=List.getElem?_eq_some_iff.1 hx
    rw[List.length_singleton]at hz
    have:x=(j,l):=by rw[<-hx];simp
    rw[this];dsimp only;omega
  ·rw[zB4,zB4,ht.size];rfl
  ·rw[zB4,ht.size];simp
  ·rw[I4 e,ht.size]
  ·rw[zB4];simp
  ·intro i
   rcases Nat.lt_or_ge i t.ends.length with hi|hi
   ·rw[List.getElem?_append_left hi]
   ·rw[List.getElem?_append_right hi,List.getElem?_eq_none_iff.2 hi]
    match i-t.ends.length with
    |0=>rfl
    |k+1=>rfl
theorem YU(t:Tab)(p:List (List UInt8))(l:List UInt8):lay t (p++ [l])=step (lay t p).1 (lay t p).2 l:=by
 unfold lay
 rw[List.foldl_append];rfl
theorem XN {t:Tab}(ht:Well t): ∀(n:Nat)(p:List (List UInt8)),p.length=n->
  Well (lay t p).1/\(lay t p).2<=(lay t p).1.es.length/\(∃m,(lay t p).1.es=t.es++m)/\walk (lay t p).1.es 0 p=some (lay t p).2/\(lay t p).1.es.length<=t.es.length+p.length/\(∀i:Nat,((lay t p).1.ends[i]?).getD no=(t.ends[i]?).getD no)
 |0,p,hp=>by
  have e:p= []:=List.eq_nil_of_length_eq_zero hp
  subst e
  exact⟨ht,Nat.zero_le _,⟨[],by simp[lay]⟩,rfl,zB3 _,fun _=>rfl⟩
 |n+1,p,hp=>by
  rcases cG p with rfl|⟨p,l,rfl⟩
  ·cases hp
  ·have hpn:p.length=n:=by simpa using hp
   obtain⟨h1,h2,⟨m,h3⟩,h4,h5,h6⟩:=XN ht n p hpn
   rw[YU]
   obtain⟨g1,g2,⟨m2,g3⟩,g4,g5,g6⟩:=dA2 (l:=l) h1 h2
   refine⟨g1,g2,⟨m++m2,by rw[g3,h3,List.append_assoc]⟩,?_,by rw[zB4,List.length_singleton];omega,fun i=>(g6 i).trans (h6 i)⟩
   rw[SR]
   have:walk (step (lay t p).1 (lay t p).2 l).1.es 0 p=some (lay t p).2:=by rw[g3];exact PW h4
   rw[this];exact g4
theorem kAI(K:Kinds){k q:Int}(hk:k=1\/k=2\/k=3)(hq:q=1\/q=2\/q=3):(K.mark k).of q=(decide (k=q)||K.of q):=by
 obtain⟨a,b,c⟩:=K
 rcases hk with rfl|rfl|rfl<;>rcases hq with rfl|rfl|rfl<;>rfl
structure Told(t:Tab)(rs:List Ru.Rule):Prop where
 well:Well t
 laid: ∀r∈rs,Ru.Can r-> ∃j,walk t.es 0 (path r)=some j
 told: ∀(j:Nat)(k:Int),k=1\/k=2\/k=3->(((t.ends[j]?).getD no).of k=true↔ ∃r∈rs,Ru.Can r/\r.kind=k/\walk t.es 0 (path r)=some j)
theorem vV(k:Int):no.of k=false:=by unfold Kinds.of;split<;>(try split)<;>rfl
theorem pAm:Told Tab.bare []:=by
 refine⟨KY,by simp,fun j k hk=>?_⟩
 have e:(Tab.bare.ends[j]?).getD no=no:=by
  match j with
  |0=>rfl
  |j+1=>rfl
 rw[e,vV];simp
theorem pAl {t:Tab}{rs:List Ru.Rule}{r:Ru.Rule}(h:Told t rs)(hr:Ru.Can r):Told (add t r) (rs++ [r]):=by
 obtain⟨h1,h2,⟨m,h3⟩,h4,h5,h6⟩:=XN h.well _ (path r) rfl
 unfold add mark
 generalize hs:lay t (path r)=s at*
 have hes: ∀x∈rs,Ru.Can x-> ∀j,walk s.1.es 0 (path x)=some j↔walk t.es 0 (path x)=some j:=by
  intro x hx hc j
  obtain⟨i,hi⟩:=h.laid x hx hc
  have hi2:walk s.1.es 0 (path x)=some i:=by rw[h3];exact PW hi
  rw[hi,hi2]
 refine⟨⟨h1.tree,by dsimp only;rw[List.length_modify];exact h1.size⟩,?_,?_⟩
 ·intro x hx hc
  rcases List.mem_append.1 hx with hx|hx
  ·obtain⟨i,hi⟩:=h.laid x hx hc
   exact⟨i,(hes x hx hc i).2 hi⟩
  ·rw[List.mem_singleton]at hx
   subst hx
   exact⟨_,h4⟩
 ·intro j k hk
  dsimp only
  have hlt:s.2<s.1.ends.length:=by rw[h1.size];omega
  have e:((s.1.ends.modify s.2 (fun K=>K.mark r.kind))[j]?).getD no=if s.2=j then((t.ends[j]?).getD no).mark r.kind else(t.ends[j]?).getD no:=by
   rw[List.getElem?_modify,<-h6 j]
   split
   ·rename_i he
    subst he
    rw[List.getElem?_eq_getElem hlt];rfl
   ·cases s.1.ends[j]? <;>rfl
  have ex:(∃x∈rs++ [r],Ru.Can x/\x.kind=k/\walk s.1.es 0 (path x)=some j)↔ ((s.2=j/\r.kind=k)\/ ∃x∈rs,Ru.Can x/\x.kind=k/\walk t.es 0 (path x)=some j):=by
   constructor
   ·rintro⟨x,hx,hc,hk2,hw⟩
    rcases List.mem_append.1 hx with hx|hx
    ·exact .inr ⟨x,hx,hc,hk2,(hes x hx hc j).1 hw⟩
    ·rw[List.mem_singleton]at hx
     subst hx
     rw[h4]at hw
     exact .inl ⟨zB2 hw,hk2⟩
   ·rintro(⟨e1,e2⟩|⟨x,hx,hc,hk2,hw⟩)
    ·exact⟨r,by simp,hr,e2,by rw[h4,e1]⟩
    ·exact⟨x,by simp[hx],hc,hk2,(hes x hx hc j).2 hw⟩
  rw[e,ex,<-h.told j k hk]
  by_cases hj:s.2=j
  ·rw[if_pos hj,kAI _ hr.kind hk]
   simp[hj]
  ·rw[if_neg hj]
   simp[hj]
theorem pAp {t:Tab}{rs:List Ru.Rule}(h:Told t rs)(r:Ru.Rule):Told (put t r) (rs++ [r]):=by
 unfold put
 split
 ·rename_i hr
  exact pAl h (pK.1 hr)
 ·rename_i hr
  have hn: ¬Ru.Can r:=fun e=>hr (pK.2 e)
  refine⟨h.well,fun x hx hc=>?_,fun j k hk=>?_⟩
  ·rcases List.mem_append.1 hx with hx|hx
   ·exact h.laid x hx hc
   ·rw[List.mem_singleton]at hx
    exact absurd (hx▸hc) hn
  ·rw[h.told j k hk]
   constructor
   ·rintro⟨x,hx,hh⟩;exact⟨x,by simp[hx],hh⟩
   ·rintro⟨x,hx,hc,hh⟩
    rcases List.mem_append.1 hx with hx|hx
    ·exact⟨x,hx,hc,hh⟩
    ·rw[List.mem_singleton]at hx
     exact absurd (hx▸hc) hn
theorem sV(rs:List Ru.Rule)(r:Ru.Rule):new (rs++ [r])=put (new rs) r:=by
 unfold new
 rw[List.foldl_append];rfl
theorem FR: ∀(n:Nat)(rs:List Ru.Rule),rs.length=n->Told (new rs) rs
 |0,rs,h=>by
  have e:rs= []:=List.eq_nil_of_length_eq_zero h
  subst e
  exact pAm
 |n+1,rs,h=>by
  rcases cG rs with rfl|⟨q,x,rfl⟩
  ·cases h
  ·rw[sV]
   exact pAp (FR n q (by simpa using h)) x
theorem mAl {t:Tab}(ht:Well t)(r:Ru.Rule):(put t r).es.length<=t.es.length+254:=by
 unfold put
 split
 ·rename_i hr
  have h5:=(XN ht _ (path r) rfl).2.2.2.2.1
  have:=bAR (pK.1 hr)
  unfold add mark
  dsimp only
  omega
 ·omega
theorem bAl: ∀(n:Nat)(rs:List Ru.Rule),rs.length=n->(new rs).es.length<=n*254
 |0,rs,h=>by
  have e:rs= []:=List.eq_nil_of_length_eq_zero h
  subst e
  exact Nat.zero_le _
 |n+1,rs,h=>by
  rcases cG rs with rfl|⟨q,x,rfl⟩
  ·cases h
  ·rw[sV]
   have:=bAl n q (by simpa using h)
   have:=mAl (FR _ q rfl).well x
   omega
end Sx
end Go.Proofs.YtabgoobcliijeaaGreatDoor
namespace Go.Proofs.YtabgoobcliijeaaGreatDoor
namespace Sx
def MC(rs:List Ru.Rule)(L:List (List UInt8))(k:Int)(c:Nat):Prop:=1<=c/\c<=L.length/\ ∃r∈rs,Ru.Can r/\r.kind=k/\path r=L.reverse.take c
structure Top(N W:Nat->Prop)(n p:Nat):Prop where
 one:1<=p
 is:p=1\/N p\/ ∃c,W c/\c<n/\p=c+1
 name: ∀c,N c->c<=p
 fC: ∀c,W c->c<n->c+1<=p
structure sG(X:Nat->Prop)(s:Nat):Prop where
 is:s=0\/X (s+1)
 all: ∀c,X c->c-1<=s
theorem Top.le {N W N' W':Nat->Prop}{n p q:Nat}(h:Top N W n p)(g:Top N' W' n q)(hN: ∀c,N c->N' c)(hW: ∀c,W c->W' c):p<=q:=by
 rcases h.is with e|e|⟨c,hc,hn,e⟩
 ·rw[e];exact g.one
 ·exact g.name _ (hN _ e)
 ·rw[e];exact g.fC _ (hW _ hc) hn
theorem Top.same {N W:Nat->Prop}{n p q:Nat}(h:Top N W n p)(g:Top N W n q):p=q:=Nat.le_antisymm (h.le g (fun _ k=>k) (fun _ k=>k)) (g.le h (fun _ k=>k) (fun _ k=>k))
theorem sG.le {X X':Nat->Prop}{s q:Nat}(h:sG X s)(g:sG X' q)(hX: ∀c,X c->X' c):s<=q:=by
 rcases h.is with e|e
 ·omega
 ·have:=g.all _ (hX _ e);omega
theorem sG.same {X:Nat->Prop}{s q:Nat}(h:sG X s)(g:sG X q):s=q:=Nat.le_antisymm (h.le g fun _ k=>k) (g.le h fun _ k=>k)
theorem wW(n:Nat)(K:Kinds): ∀(Ks:List Kinds)(i:Nat)(s:Nat×Nat),tally n (Ks++ [K]) i s=next n K (i+Ks.length+1) (tally n Ks i s)
 | [],i,s=>rfl
 |Q::Ks,i,s=>by
  have ih:=wW n K Ks (i+1) (next n Q (i+1) s)
  rw[List.cons_append,tally,ih,tally,zB5]
  congr 1;omega
def N(Ks:List Kinds)(c:Nat):Prop:=1<=c/\((Ks[c-1]?).getD no).name=true
def W(Ks:List Kinds)(c:Nat):Prop:=1<=c/\((Ks[c-1]?).getD no).fC=true
def X(Ks:List Kinds)(c:Nat):Prop:=1<=c/\((Ks[c-1]?).getD no).spare=true
theorem TH(Ks:List Kinds)(K:Kinds){c:Nat}(hc:1<=c):(((Ks++ [K])[c-1]?).getD no)=if c=Ks.length+1 then K else(Ks[c-1]?).getD no:=by
 split
 ·rename_i e
  subst e
  rw[Nat.add_sub_cancel,List.getElem?_append_right (zB3 _),Nat.sub_self];rfl
 ·rcases Nat.lt_or_ge (c-1) Ks.length with h|h
  ·rw[List.getElem?_append_left h]
  ·rw[List.getElem?_append_right h,List.getElem?_eq_none_iff.2 h,List.getElem?_eq_none_iff.2 (by simp;omega)]
theorem AP {Ks:List Kinds}{c:Nat}{f:Kinds->Bool}(hf:f no=false)(hc:1<=c)(h:f ((Ks[c-1]?).getD no)=true):c<=Ks.length:=by
 rcases Nat.lt_or_ge (c-1) Ks.length with k|k
 ·omega
 ·rw[List.getElem?_eq_none_iff.2 k]at h
  exact absurd (hf.symm.trans h) (by decide)
theorem dAb(n:Nat): ∀(m:Nat)(Ks:List Kinds),Ks.length=m->Top (N Ks) (W Ks) n (tally n Ks 0 (1,0)).1/\sG (X Ks) (tally n Ks 0 (1,0)).2
 |0,Ks,h=>by
  have e:Ks= []:=List.eq_nil_of_length_eq_zero h
  subst e
  have hn: ∀c:Nat,(([]:List Kinds)[c-1]?).getD no=no:=fun c=>by simp
  refine⟨⟨zB3 _,.inl rfl,fun c hc=>?_,fun c hc=>?_⟩,⟨.inl rfl,fun c hc=>?_⟩⟩
  ·have:=hc.2;rw[hn]at this;cases this
  ·have:=hc.2;rw[hn]at this;cases this
  ·have:=hc.2;rw[hn]at this;cases this
 |m+1,Ks,h=>by
  rcases cG Ks with rfl|⟨Ks,K,rfl⟩
  ·cases h
  ·obtain⟨ht,hs⟩:=dAb n m Ks (by simpa using h)
   rw[wW,Nat.zero_add]
   generalize tally n Ks 0 (1,0)=s at*
   obtain⟨p,s⟩:=s
   dsimp only at ht hs
   have eN: ∀c,N (Ks++ [K]) c↔ (c=Ks.length+1/\K.name=true)\/N Ks c:=by
    intro c
    unfold N
    constructor
    ·rintro⟨h1,h2⟩
     rw[TH Ks K h1]at h2
     split at h2
     ·exact .inl ⟨by assumption,h2⟩
     ·exact .inr ⟨h1,h2⟩
    ·rintro(⟨h1,h2⟩|⟨h1,h2⟩)
     ·exact⟨by omega,by rw[TH Ks K (by omega),if_pos h1];exact h2⟩
     ·have:=AP (f:=Kinds.name) rfl h1 h2
      exact⟨h1,by rw[TH Ks K h1,if_neg (by omega)];exact h2⟩
   have eW: ∀c,W (Ks++ [K]) c↔ (c=Ks.length+1/\K.fC=true)\/W Ks c:=by
    intro c
    unfold W
    constructor
    ·rintro⟨h1,h2⟩
     rw[TH Ks K h1]at h2
     split at h2
     ·exact .inl ⟨by assumption,h2⟩
     ·exact .inr ⟨h1,h2⟩
    ·rintro(⟨h1,h2⟩|⟨h1,h2⟩)
     ·exact⟨by omega,by rw[TH Ks K (by omega),if_pos h1];exact h2⟩
     ·have:=AP (f:=Kinds.fC) rfl h1 h2
      exact⟨h1,by rw[TH Ks K h1,if_neg (by omega)];exact h2⟩
   have eX: ∀c,X (Ks++ [K]) c↔ (c=Ks.length+1/\K.spare=true)\/(X Ks c/\c<=Ks.length):=by
    intro c
    unfold X
    constructor
    ·rintro⟨h1,h2⟩
     rw[TH Ks K h1]at h2
     split at h2
     ·exact .inl ⟨by assumption,h2⟩
     ·exact .inr ⟨⟨h1,h2⟩,AP (f:=Kinds.spare) rfl h1 h2⟩
    ·rintro(⟨h1,h2⟩|⟨⟨h1,h2⟩,h3⟩)
     ·exact⟨by omega,by rw[TH Ks K (by omega),if_pos h1];exact h2⟩
     ·exact⟨h1,by rw[TH Ks K h1,if_neg (by omega)];exact h2⟩
   have one:=ht.one
   unfold next
   dsimp only
   refine⟨⟨?_,?_,?_,?_⟩,⟨?_,?_⟩⟩
   ·split<;>split<;>omega
   ·have old:p=1\/N (Ks++ [K]) p\/ ∃c,W (Ks++ [K]) c/\c<n/\p=c+1:=by
     rcases ht.is with e|e|⟨c,hc,e⟩
     ·exact .inl e
     ·exact .inr (.inl ((eN p).2 (.inr e)))
     ·exact .inr (.inr ⟨c,(eW c).2 (.inr hc),e⟩)
    have nm: ∀q,q=(if K.name=true then max p (Ks.length+1)else p)->(q=1\/N (Ks++ [K]) q\/ ∃c,W (Ks++ [K]) c/\c<n/\q=c+1):=by
     intro q hq
     split at hq
     ·rename_i hk
      rcases Nat.le_total p (Ks.length+1)with hle|hle
      ·rw[Nat.max_eq_right hle]at hq
       exact .inr (.inl ((eN q).2 (.inl ⟨hq,hk⟩)))
      ·rw[Nat.max_eq_left hle]at hq
       rw[hq];exact old
     ·rw[hq];exact old
    have cO:=nm _ rfl
    generalize(if K.name=true then max p (Ks.length+1)else p)=q at*
    split
    ·rename_i hk
     rcases Nat.le_total q (Ks.length+1+1)with hle|hle
     ·rw[Nat.max_eq_right hle]
      exact .inr (.inr ⟨Ks.length+1,(eW _).2 (.inl ⟨rfl,hk.1⟩),hk.2,rfl⟩)
     ·rw[Nat.max_eq_left hle];exact cO
    ·exact cO
   ·intro c hc
    rcases(eN c).1 hc with⟨e,hk⟩|hc
    ·rw[if_pos hk];split<;>omega
    ·have:=ht.name c hc
     split<;>split<;>omega
   ·intro c hc hn
    rcases(eW c).1 hc with⟨e,hk⟩|hc
    ·rw[if_pos ⟨hk,by omega⟩];omega
    ·have:=ht.fC c hc hn
     split<;>split<;>omega
   ·split
    ·rename_i hk
     exact .inr ((eX _).2 (.inl ⟨by omega,hk⟩))
    ·rcases hs.is with e|e
     ·exact .inl e
     ·exact .inr ((eX _).2 (.inr ⟨e,AP (f:=Kinds.spare) rfl e.1 e.2⟩))
   ·intro c hc
    rcases(eX c).1 hc with⟨e,hk⟩|⟨hc,hl⟩
    ·rw[if_pos hk];omega
    ·have:=hs.all c hc
     split<;>omega
theorem yY(t:Tab): ∀(ls:List (List UInt8))(j i:Nat),(along t j ls)[i]? =if i<ls.length then(walk t.es j (ls.take (i+1))).map (fun x=>(t.ends[x]?).getD no)else none
 | [],j,i=>by simp[along]
 |l::r,j,i=>by
  rw[along]
  cases e:find t.es (j,l)with
  |none=>
   dsimp only
   rw[List.take_succ_cons,BO,e]
   simp
  |some x=>
   dsimp only
   rw[List.take_succ_cons,BO,e]
   match i with
   |0=>simp[walk]
   |i+1=>
    rw[List.getElem?_cons_succ,yY t r x i,zB5]
    by_cases h:i<r.length
    ·rw[if_pos h,if_pos (by omega)];rfl
    ·rw[if_neg h,if_neg (by omega)]
theorem kT {t:Tab}{rs:List Ru.Rule}(h:Told t rs)(L:List (List UInt8)){k:Int}(hk:k=1\/k=2\/k=3)(c:Nat):
  (1<=c/\(((along t 0 L.reverse)[c-1]?).getD no).of k=true)↔MC rs L k c:=by
 unfold MC
 rw[yY]
 constructor
 ·rintro⟨h1,h2⟩
  rw[Nat.sub_add_cancel h1,List.length_reverse]at h2
  split at h2
  ·rename_i hl
   cases e:walk t.es 0 (L.reverse.take c)with
   |none=>rw[e]at h2;exact absurd ((vV k).symm.trans h2) (by decide)
   |some j=>
    rw[e]at h2
    obtain⟨r,hr,hc,hk2,hw⟩:=(h.told j k hk).1 h2
    exact⟨h1,by omega,r,hr,hc,hk2,dAM h.well.tree j j _ _ (zB3 _) hw e⟩
  ·exact absurd ((vV k).symm.trans h2) (by decide)
 ·rintro⟨h1,h2,r,hr,hc,hk2,hp⟩
  refine⟨h1,?_⟩
  rw[Nat.sub_add_cancel h1,List.length_reverse,if_pos (by omega)]
  obtain⟨j,hj⟩:=h.laid r hr hc
  rw[<-hp,hj]
  exact(h.told j k hk).2 ⟨r,hr,hc,hk2,hj⟩
theorem oAo {rs:List Ru.Rule}{h:dA.Host}(hl:dA.labels h≠ []):
  ∃p s,Top (MC rs (dA.labels h) 1) (MC rs (dA.labels h) 2) (dA.labels h).length p/\sG (MC rs (dA.labels h) 3) s/\suffix (new rs) h=pick (p,s):=by
 have ht:=FR _ rs rfl
 obtain⟨h1,h2⟩:=dAb (dA.labels h).length _ (along (new rs) 0 (dA.labels h).reverse) rfl
 have e1:N (along (new rs) 0 (dA.labels h).reverse)=MC rs (dA.labels h) 1:=by funext c;exact propext (kT ht _ (.inl rfl) c)
 have e2:W (along (new rs) 0 (dA.labels h).reverse)=MC rs (dA.labels h) 2:=by funext c;exact propext (kT ht _ (.inr (.inl rfl)) c)
 have e3:X (along (new rs) 0 (dA.labels h).reverse)=MC rs (dA.labels h) 3:=by funext c;exact propext (kT ht _ (.inr (.inr rfl)) c)
 rw[e1,e2]at h1
 rw[e3]at h2
 refine⟨_,_,h1,h2,?_⟩
 unfold suffix
 rw[if_neg hl]
theorem oAm {rs:List Ru.Rule}{h:dA.Host}(hl:dA.labels h≠ []){p s:Nat}(hp:Top (MC rs (dA.labels h) 1) (MC rs (dA.labels h) 2) (dA.labels h).length p)(hs:sG (MC rs (dA.labels h) 3) s):suffix (new rs) h=pick (p,s):=by
 obtain⟨q,x,h1,h2,e⟩:=oAo (rs:=rs) hl
 rw[e,h1.same hp,h2.same hs]
theorem dA4 {t:Tab}{h:dA.Host}(hl:dA.labels h= []):suffix t h=0:=by unfold suffix;rw[if_pos hl]
theorem nAy {h:dA.Host}{r:Ru.Rule}(hl:dA.labels h≠ [])(hr:Ru.Can r):
  (dA.under h ⟨1,r.name,dA.BA⟩=true↔ (Oct.split 46 r.name).length<(dA.labels h).length/\path r=(dA.labels h).reverse.take (Oct.split 46 r.name).length)/\
  (h=⟨1,r.name,dA.BA⟩↔ (Oct.split 46 r.name).length=(dA.labels h).length/\path r=(dA.labels h).reverse.take (Oct.split 46 r.name).length):=by
 have hd:=dA.AN hr.good
 have hd0:dA.labels ⟨1,r.name,dA.BA⟩≠ []:=by rw[hd];exact Oct.dG 46 r.name
 obtain⟨_,gh,eh,lh⟩:=dA.iI hl
 have hc1:1<=(Oct.split 46 r.name).length:=List.length_pos_iff.2 (Oct.dG 46 r.name)
 have key: ∀ {c:Nat},c=(Oct.split 46 r.name).length->c<=(dA.labels h).length->(dA.ending h.name c=r.name↔path r=(dA.labels h).reverse.take c):=by
  intro c hc hle
  rw[jR hr]
  have e1:(dA.labels h).reverse.take c=((dA.labels h).drop ((dA.labels h).length-c)).reverse:=by
   rw[List.reverse_drop]
   congr 1;omega
  rw[e1,List.reverse_inj]
  constructor
  ·intro e
   have:=dA.hAg gh (k:=c) (by omega) (by rw[<-lh];exact hle)
   rw[e,<-lh]at this
   exact this
  ·intro e
   unfold dA.ending
   rw[<-lh,<-e,dA.VI]
 refine⟨?_,?_⟩
 ·constructor
  ·intro hu
   have hle:(dA.labels ⟨1,r.name,dA.BA⟩).length<=(dA.labels h).length:=by
    rcases Nat.lt_or_ge (dA.labels h).length (dA.labels ⟨1,r.name,dA.BA⟩).length with k|k
    ·rw[dA.LR (.inr k)]at hu;cases hu
    ·exact k
   rw[dA.MR hd0 hle,Bool.and_eq_true,decide_eq_true_eq,Bool.not_eq_true',decide_eq_false_iff_not,hd]at hu
   rw[hd]at hle
   refine⟨?_,(key rfl hle).1 hu.1⟩
   rcases Nat.lt_or_eq_of_le hle with k|k
   ·exact k
   ·exact absurd (dA.aQ (by rw[k,lh])) hu.2
  ·rintro⟨hlt,hp⟩
   rw[dA.MR hd0 (by rw[hd];omega),Bool.and_eq_true,decide_eq_true_eq,Bool.not_eq_true',decide_eq_false_iff_not,hd]
   refine⟨(key rfl (by omega)).2 hp,fun e=>?_⟩
   have:=dA.L0 (n:=h.name) hc1 (by rw[<-lh];exact hlt)
   rw[e]at this
   omega
 ·constructor
  ·intro e
   have el:dA.labels h=Oct.split 46 r.name:=by rw[e,hd]
   refine⟨by rw[el],?_⟩
   rw[jR hr,el,<-List.length_reverse,List.take_length]
  ·rintro⟨he,hp⟩
   have:=(key rfl (by omega)).2 hp
   rw[dA.aQ (by rw[he,lh])]at this
   rw[eh,this]
def aD(h:dA.Host)(s:Nat×Nat)(r:Ru.Rule):Nat×Nat:=
 if right r=true then
  (if r.kind=2/\dA.under h ⟨1,r.name,dA.BA⟩=true then max (if r.kind=1/\(dA.under h ⟨1,r.name,dA.BA⟩=true\/h=⟨1,r.name,dA.BA⟩)then max s.1 (Oct.split 46 r.name).length else s.1) ((Oct.split 46 r.name).length+1)
   else if r.kind=1/\(dA.under h ⟨1,r.name,dA.BA⟩=true\/h=⟨1,r.name,dA.BA⟩)then max s.1 (Oct.split 46 r.name).length else s.1,
   if r.kind=3/\(dA.under h ⟨1,r.name,dA.BA⟩=true\/h=⟨1,r.name,dA.BA⟩)then max s.2 ((Oct.split 46 r.name).length-1)else s.2)
 else s
def bG(rs:List Ru.Rule)(h:dA.Host):Nat:=if dA.labels h= []then 0 else pick (rs.foldl (aD h) (1,0))
theorem cAy {h:dA.Host}(hl:dA.labels h≠ []): ∀(m:Nat)(rs:List Ru.Rule),rs.length=m->
  Top (MC rs (dA.labels h) 1) (MC rs (dA.labels h) 2) (dA.labels h).length (rs.foldl (aD h) (1,0)).1/\sG (MC rs (dA.labels h) 3) (rs.foldl (aD h) (1,0)).2
 |0,rs,hm=>by
  have e:rs= []:=List.eq_nil_of_length_eq_zero hm
  subst e
  have hn: ∀k c,¬MC [] (dA.labels h) k c:=by
   rintro k c ⟨_,_,r,hr,_⟩
   cases hr
  exact⟨⟨zB3 _,.inl rfl,fun c hc=>absurd hc (hn _ _),fun c hc=>absurd hc (hn _ _)⟩,⟨.inl rfl,fun c hc=>absurd hc (hn _ _)⟩⟩
 |m+1,rs,hm=>by
  rcases cG rs with rfl|⟨rs,r,rfl⟩
  ·cases hm
  ·obtain⟨ht,hs⟩:=cAy hl m rs (by simpa using hm)
   rw[List.foldl_append]
   show Top _ _ _ (aD h (rs.foldl (aD h) (1,0)) r).1/\sG _ (aD h (rs.foldl (aD h) (1,0)) r).2
   generalize rs.foldl (aD h) (1,0)=s at*
   obtain⟨p,s⟩:=s
   dsimp only at ht hs
   by_cases hr:Ru.Can r
   ·obtain⟨mu,me⟩:=nAy hl hr
    have hc1:1<=(Oct.split 46 r.name).length:=List.length_pos_iff.2 (Oct.dG 46 r.name)
    have mA7:(path r).length=(Oct.split 46 r.name).length:=by rw[jR hr,List.length_reverse]
    have both:(dA.under h ⟨1,r.name,dA.BA⟩=true\/h=⟨1,r.name,dA.BA⟩)↔ ((Oct.split 46 r.name).length<=(dA.labels h).length/\path r=(dA.labels h).reverse.take (Oct.split 46 r.name).length):=by
     rw[mu,me]
     constructor
     ·rintro(⟨a,b⟩|⟨a,b⟩)
      ·exact⟨by omega,b⟩
      ·exact⟨by omega,b⟩
     ·rintro⟨a,b⟩
      rcases Nat.lt_or_eq_of_le a with k|k
      ·exact .inl ⟨k,b⟩
      ·exact .inr ⟨k,b⟩
    have em: ∀k c,MC (rs++ [r]) (dA.labels h) k c↔ (r.kind=k/\c=(Oct.split 46 r.name).length/\c<=(dA.labels h).length/\path r=(dA.labels h).reverse.take c)\/MC rs (dA.labels h) k c:=by
     intro k c
     constructor
     ·rintro⟨a,b,x,hx,hc,hk,hp⟩
      rcases List.mem_append.1 hx with hx|hx
      ·exact .inr ⟨a,b,x,hx,hc,hk,hp⟩
      ·rw[List.mem_singleton]at hx
       subst hx
       refine .inl ⟨hk,?_,b,hp⟩
       have:=congrArg List.length hp
       rw[mA7,List.length_take,List.length_reverse]at this
       omega
     ·rintro(⟨hk,hc,b,hp⟩|⟨a,b,x,hx,hh⟩)
      ·exact⟨by omega,b,r,by simp,hr,hk,hp⟩
      ·exact⟨a,b,x,by simp[hx],hh⟩
    unfold aD
    simp only[pK.2 hr,if_true,both]
    simp only[mu]
    generalize(Oct.split 46 r.name).length=c at*
    have one:=ht.one
    have kc:=hr.kind
    refine⟨⟨?_,?_,?_,?_⟩,⟨?_,?_⟩⟩
    ·split<;>split<;>omega
    ·have old:p=1\/MC (rs++ [r]) (dA.labels h) 1 p\/ ∃c,MC (rs++ [r]) (dA.labels h) 2 c/\c<(dA.labels h).length/\p=c+1:=by
      rcases ht.is with e|e|⟨c,hc,e⟩
      ·exact .inl e
      ·exact .inr (.inl ((em _ _).2 (.inr e)))
      ·exact .inr (.inr ⟨c,(em _ _).2 (.inr hc),e⟩)
     have nm: ∀q,q=(if r.kind=1/\c<=(dA.labels h).length/\path r=(dA.labels h).reverse.take c then max p c else p)->(q=1\/MC (rs++ [r]) (dA.labels h) 1 q\/ ∃c,MC (rs++ [r]) (dA.labels h) 2 c/\c<(dA.labels h).length/\q=c+1):=by
      intro q hq
      split at hq
      ·rename_i hk
       rcases Nat.le_total p c with hle|hle
       ·rw[Nat.max_eq_right hle]at hq
        subst hq
        exact .inr (.inl ((em _ _).2 (.inl ⟨hk.1,rfl,hk.2⟩)))
       ·rw[Nat.max_eq_left hle]at hq
        rw[hq];exact old
      ·rw[hq];exact old
     have cO:=nm _ rfl
     generalize(if r.kind=1/\c<=(dA.labels h).length/\path r=(dA.labels h).reverse.take c then max p c else p)=q at*
     split
     ·rename_i hk
      rcases Nat.le_total q (c+1)with hle|hle
      ·rw[Nat.max_eq_right hle]
       exact .inr (.inr ⟨c,(em _ _).2 (.inl ⟨hk.1,rfl,by omega,hk.2.2⟩),hk.2.1,rfl⟩)
      ·rw[Nat.max_eq_left hle];exact cO
     ·exact cO
    ·intro x hx
     rcases(em _ _).1 hx with⟨hk,hc,hb⟩|hx
     ·subst hc
      rw[if_pos (c:=r.kind=1/\_) ⟨hk,hb⟩];split<;>omega
     ·have:=ht.name x hx
      split<;>split<;>omega
    ·intro x hx hn
     rcases(em _ _).1 hx with⟨hk,hc,hb⟩|hx
     ·subst hc
      rw[if_pos ⟨hk,hn,hb.2⟩];omega
     ·have:=ht.fC x hx hn
      split<;>split<;>omega
    ·split
     ·rename_i hk
      rcases Nat.le_total s (c-1)with hle|hle
      ·rw[Nat.max_eq_right hle]
       exact .inr ((em _ _).2 (.inl ⟨hk.1,by omega,by rw[Nat.sub_add_cancel hc1];exact hk.2⟩))
      ·rw[Nat.max_eq_left hle]
       rcases hs.is with e|e
       ·exact .inl e
       ·exact .inr ((em _ _).2 (.inr e))
     ·rcases hs.is with e|e
      ·exact .inl e
      ·exact .inr ((em _ _).2 (.inr e))
    ·intro x hx
     rcases(em _ _).1 hx with⟨hk,hc,hb⟩|hx
     ·subst hc
      rw[if_pos ⟨hk,hb⟩];omega
     ·have:=hs.all x hx
      split<;>omega
   ·have em: ∀k,MC (rs++ [r]) (dA.labels h) k=MC rs (dA.labels h) k:=by
     intro k
     funext c
     refine propext ⟨?_,?_⟩
     ·rintro⟨a,b,x,hx,hc,hh⟩
      rcases List.mem_append.1 hx with hx|hx
      ·exact⟨a,b,x,hx,hc,hh⟩
      ·rw[List.mem_singleton]at hx
       exact absurd (hx▸hc) hr
     ·rintro⟨a,b,x,hx,hh⟩
      exact⟨a,b,x,by simp[hx],hh⟩
    unfold aD
    rw[if_neg (fun e=>hr (pK.1 e)),em,em,em]
    exact⟨ht,hs⟩
theorem cAx(rs:List Ru.Rule)(h:dA.Host):bG rs h=suffix (new rs) h:=by
 unfold bG
 by_cases hl:dA.labels h= []
 ·rw[if_pos hl,dA4 hl]
 ·obtain⟨h1,h2⟩:=cAy hl _ rs rfl
  rw[if_neg hl,oAm hl h1 h2]
end Sx
end Go.Proofs.YtabgoobcliijeaaGreatDoor
namespace Go.Proofs.YtabgoobcliijeaaGreatDoor
open Go.RowKit
theorem dAK(r:Int)(w:World):
  Calls Tryz.prog 176 #[.int .i32 r] w fun e w'=>e= .returned (.bool (validRune r))/\w=w':=by
 go_enter Tryz.func176,Tryz.ntmps176
 go_wp2
 all_goals
  go_ret
  exact⟨vA (by unfold validRune;rw[Bool.eq_iff_iff];simp;try omega),rfl⟩
theorem mAq {P:Program}{f:FuncId}{args:Array Value}{w:World}{k n:Nat}{v:Value}(h:Calls P f args (w.drewN (k+n)) fun e w'=>e= .returned v/\w.drewN (k+n)=w'):
  Calls P f args (w.drewN (k+n)) fun e w''=>e= .returned v/\ ∃m,w''=w.drewN (k+m):=h.mono fun _ _ hh=>⟨hh.1,n,hh.2.symm⟩
theorem below_draws(B:Nat)(w:World)(n:Nat):Below B w (w.drewN n):=(show pB w (w.drewN n) from⟨n,rfl⟩).below B
theorem jA1(s:ByteArray)(c:UInt8)(k:Nat)(hc:128<=c.toNat)(hs: ∀b∈s.data.toList,b.toNat<128)(W:World):
  Calls Tryz.prog 175 #[.string (s.extract k s.size),.int .u8 (c.toNat:Int)] W fun e w'=>e= .returned (.int .i64 (-1))/\W=w':=by
 refine(Tryz.strings_IndexByte (s.extract k s.size) (c.toNat:Int) W).mono fun e w' ⟨he,hw⟩=>⟨?_,hw.symm⟩
 rw[he]
 have e1:((c.toNat:Int)).toNat.toUInt8=c:=by simp
 rw[e1,oN.bAp hc (fun b hb=>hs b (mem_extract hb))]
theorem nAB(s:ByteArray)(r:Int)(w:World)(h0:128<=r)(hs: ∀b∈s.data.toList,b.toNat<128)(hz:s.size<=1000):
  Calls Tryz.prog 141 #[.string s,.int .i32 r] w fun e w'=>e= .returned (.int .i64 (-1))/\Below w.heap.size w w':=by
 have h1:(0:Int)<=r:=by omega
 have h2: ¬r<128:=by omega
 by_cases he:r=65533
 ·have he1:(r==65533)=true:=by rw[he];rfl
  have HS:=zA7 hs
  clear hs he
  go_enter Tryz.func141,Tryz.ntmps141
  go_wp2
  go_loopg [5,6] s.size (fun g _ _ wx=> ∃i:Nat,i+g=s.size/\wx=w.iter s i)
  case atStart=>exact⟨0,by omega,rfl⟩
  case round=>
   obtain⟨i,hig,rfl⟩:=hrel
   cases gk with
   |zero=>
    obtain rfl:i=s.size:=by omega
    have hnx:=run_next_end (P:=Tryz.prog) w s s.size
    go_wp2
    go_ret
    exact⟨rfl,(Below.refl w.heap.size w).alloc (zB3 _) _⟩
   |succ g=>
    have hi:i<s.size:=by omega
    obtain⟨x,hx⟩: ∃x:UInt8,s[i]'hi=x:=⟨_,rfl⟩
    have hx128:x.toNat<128:=HS.out x (by rw[<-hx];exact Array.getElem_mem_toList (xs:=s.data) hi)
    have hnx:=fun ty=>run_next_ascii (P:=Tryz.prog) w s i ty hi (by rw[hx];exact hx128)
    rw[hx]at hnx
    have hne:((x.toNat:Int)==65533)=false:=beq_eq_false_iff_ne.2 (by omega)
    go_wp2
    go_roundg g
    case measure=>omega
    case rel=>exact⟨i+1,by omega,rfl⟩
 have he1:(r==65533)=false:=beq_eq_false_iff_ne.2 he
 cases hv:validRune r with
 |false=>
  have H:=zA7 (fun W=>dAK r W)
  rw[hv]at H
  clear hv hs
  go_enter Tryz.func141,Tryz.ntmps141
  go_wp2_with (go_at_call 176;refine(H.out _).mono ?_;rintro e w' ⟨rfl,rfl⟩)
  go_ret
  exact⟨rfl,Below.refl _ _⟩
 |true=>
  obtain⟨f1,f2,f3⟩:=encode_facts r (by rw[validRune_eq];exact hv) h0
  have H:=zA7 (fun W=>dAK r W)
  rw[hv]at H
  have iAZ:=Tryz.underlying21
  have hstr:=Tryz.underlying9
  obtain⟨E,hE⟩: ∃E,Utf8.encode r=E:=⟨_,rfl⟩
  have HE:=fun W=>run_convert_int_string (P:=Tryz.prog) (w:=W) (src:=21) (dst:=9) (k:= .i32) (n:=r) (hs:=by rw[iAZ];rfl) (hd:=hstr)
  rw[hE]at f1 f2 f3
  have hlast:E.size-1<E.size:=by omega
  obtain⟨c,hc⟩: ∃c,E[E.size-1]'hlast=c:=⟨_,rfl⟩
  have iAD:=f3 hlast
  rw[hc]at iAD
  have hw1:IntKind.i64.wrap ((E.size:Int)-1)=((E.size-1:Nat):Int):=by rw[IntKind.wrap_i64];omega
  have HS:=zA7 hs
  have HC:=zA7 hc
  clear hv hs f3 hc
  generalize hl:E.size-1=l at*
  go_enter Tryz.func141,Tryz.ntmps141
  go_wp2_with (go_at_call 176;refine(H.out _).mono ?_;rintro e w' ⟨rfl,rfl⟩)
  go_step3
  go_wp2
  go_loopw [9,10,11,12] (fun i _ _ _ wr=>i= .int .i64 (l:Int)/\wr=w) (fun _ _ _ _ _=>0)
  case atStart=>exact⟨rfl,rfl⟩
  case round=>
   obtain⟨rfl,rfl⟩:=hrel
   by_cases hlt:l<s.size
   ·have hsl:(s[l]'hlt).toNat<128:=HS.out _ (Array.getElem_mem_toList (xs:=s.data) hlt)
    have hcl:(E[l]'hlast).toNat=c.toNat:=by rw[HC.out]
    have hne:(((s[l]'hlt).toNat:Int) !=((E[l]'hlast).toNat:Int))=true:=by rw[bne_iff_ne];omega
    have HI:=zA7 (jA1 s (E[l]'hlast) (l+1) (by omega) HS.out)
    have hw2:IntKind.i64.wrap ((l:Int)+1)=(l:Int)+1:=by rw[IntKind.wrap_i64];omega
    have hle0:(0:Int)<=(l:Int)+1:=by omega
    have hle1:(l:Int)+1<=(s.size:Int):=by omega
    have hto:((l:Int)+1).toNat=l+1:=by omega
    clear hsl hcl HS HC
    go_wp2
    go_step3
    go_wp2
    go_quiet (fail)
    go_wp2
    go_quiet ((go_at_call 175;exact mAq (HI.out _)))
    go_wp2
    rw[Exit.noGoto_ret]
    go_wp2
    rw[Exit.noGoto_ret]
    go_ret
    exact⟨rfl,below_draws _ _ _⟩
   ·go_wp2
    rw[Exit.noGoto_ret]
    go_ret
    exact⟨rfl,Below.refl _ _⟩
theorem fAf(s chars:ByteArray)(w:World)(h2:2<=chars.size)(h8:s.size<=8)(hz:chars.size<=1000)(hch: ∀b∈chars.data.toList,b.toNat<128):
  Calls Tryz.prog 108 #[.string s,.string chars] w fun e w'=>e= .returned (.int .i64 (Lib.indexAny s.data.toList chars.data.toList))/\Below w.heap.size w w':=by
 have hemp:chars.toList.isEmpty=false:=by
  rw[Lib.toList_data]
  cases h:chars.data.toList with
  |nil=>have:=Lib.size_eq chars;rw[h,List.length_nil]at this;omega
  |cons _ _=>rfl
 have hn1:((chars.size:Int)==1)=false:=beq_eq_false_iff_ne.2 (by omega)
 have h8z:decide ((8:Int)<(s.size:Int))=false:=zA8 (by omega)
 have HS:=zA7 (fun W=>Tryz.strings_shouldUseASCIISet (s.size:Int) W)
 rw[h8z]at HS
 have HR:=zA7 (fun r W h=>nAB chars r W h hch hz)
 have HA:=zA7 (fun r W h0 h1=>Tryz.strings_IndexRune_ascii chars r W h0 h1)
 have HC:=zA7 hch
 clear h8z hch
 go_enter Tryz.func108,Tryz.ntmps108
 go_wp2_with (go_at_call 142;refine(HS.out _).mono ?_;rintro e w' ⟨rfl,hw⟩;rw[hw])
 go_loopg [9,10] s.size (fun g _ _ wx=> ∃i:Nat,i+g=s.size/\wx.heap[w.heap.size]? =some (.stringIter s i)/\Below w.heap.size w wx/\Lib.NoAny s.data.toList chars.data.toList i)
 case atStart=>exact⟨0,by omega,World.iter_heap w s 0,(Below.refl w.heap.size w).alloc (zB3 _) _,Lib.NoAny.zero _ _⟩
 case round=>
  obtain⟨i,hig,hk,hb,hno⟩:=hrel
  have HN:=zA7 hno
  clear hno
  cases gk with
  |zero=>
   obtain rfl:i=s.size:=by omega
   have hnx:=fun ty=>Go.Lib.run_next_end_at (P:=Tryz.prog) wr w.heap.size s s.size ty hk (by omega)
   have HB:=zA7 hb
   clear hb hk
   go_wp2
   go_ret
   exact⟨uC (by rw[Lib.indexAny_none (by rw[<-Lib.size_eq];exact HN.out)]),HB.out⟩
  |succ g=>
   have hi:i<s.size:=by omega
   obtain⟨x,hx⟩: ∃x:UInt8,s[i]'hi=x:=⟨_,rfl⟩
   have hxl:s.data.toList[i]? =some x:=by rw[<-hx];exact Lib.data_getElem? s i hi
   have hk2:=fun p=>Go.Lib.iterAt_heap wr w.heap.size s i p hk
   have hb2:=fun p=>Go.Lib.below_iterAt hb (zB3 w.heap.size) s p
   by_cases hx128:x.toNat<128
   ·have hnx:=fun ty=>Go.Lib.run_next_ascii_at (P:=Tryz.prog) wr w.heap.size s i ty hk hi (by rw[hx];exact hx128)
    rw[hx]at hnx
    have hk3:=zA7 (hk2 (i+1))
    have hb3:=zA7 (hb2 (i+1))
    have Hx:=zA7 hxl
    clear hk2 hb2 hk hb hxl hx
    generalize wr.iterAt w.heap.size s (i+1)=wy at*
    have hcon:=Lib.contains_iff_indexByte chars.data.toList x
    have hback:((x.toNat:Int)).toNat.toUInt8=x:=by simp
    have HX:=zA7 (HA.out (x.toNat:Int) wy (by omega) (by omega))
    rw[hback]at HX
    clear hback
    cases hin:chars.data.toList.contains x with
    |false=>
     rw[hin]at hcon
     have hlt: ¬((0:Int)<=Lib.indexByte chars.data.toList x):=of_decide_eq_false hcon.symm
     have HI:=zA7 hin
     clear hcon hin
     go_wp2_with (go_at_call 141;refine HX.out.mono ?_;rintro e w' ⟨rfl,hw⟩;rw[hw])
     go_roundg g
     case measure=>omega
     case rel=>exact⟨i+1,by omega,hk3.out,hb3.out,HN.out.succ Hx.out HI.out⟩
    |true=>
     rw[hin]at hcon
     have hge:(0:Int)<=Lib.indexByte chars.data.toList x:=zB1 hcon.symm
     have HI:=zA7 hin
     clear hcon hin
     go_wp2_with (go_at_call 141;refine HX.out.mono ?_;rintro e w' ⟨rfl,hw⟩;rw[hw])
     go_ret
     exact⟨uC (Lib.indexAny_hit HN.out Hx.out HI.out).symm,hb3.out⟩
   ·have hx2:128<=(s[i]'hi).toNat:=by rw[hx];omega
    obtain⟨d1,d2⟩:=decode_high s i hi hx2
    have d3:=oN.gAO s i hi hx2
    have hnx:=fun ty=>Go.Lib.run_next_any_at (P:=Tryz.prog) wr w.heap.size s i ty hk hi
    generalize(Utf8.decode s i).2=wd at*
    generalize(Utf8.decode s i).1=r at*
    have hle:i+wd<=s.size:=by
     obtain⟨hh,_⟩:=d3 (i+wd-1) (by omega) (by omega)
     omega
    have jAd:=zA7 (oN.fAh (j:=i+wd) HN.out (fun k b h1 h2 h3=>by
     obtain⟨hh,h4⟩:=d3 k h1 h2
     have e:=Lib.data_getElem? s k hh
     rw[h3]at e
     refine oN.kAx HC.out ?_
     rw[zB2 e];exact h4))
    have hk3:=zA7 (hk2 (i+wd))
    have hb3:=zA7 (hb2 (i+wd))
    clear hk2 hb2 hk hb hxl hx d3 HN
    generalize wr.iterAt w.heap.size s (i+wd)=wy at*
    have hlt:w.heap.size<wy.heap.size:=(Array.getElem?_eq_some_iff.1 hk3.out).1
    have HX:=zA7 (HR.out (r:Int) wy (by omega))
    go_wp2_with fail
    refine HX.out.mono ?_
    rintro e w4 ⟨rfl,hb4⟩
    have hk5:=zA7 ((hb4.block _ hlt).trans hk3.out)
    have hb5:=zA7 (hb3.out.trans (hb4.mono (by omega)))
    clear hb4 hk3 hb3
    go_wp2
    go_roundg (s.size- (i+wd))
    case measure=>omega
    case rel=>exact⟨i+wd,by omega,hk5.out,hb5.out,jAd.out⟩
theorem fAg(s chars:ByteArray)(w:World)(h2:2<=chars.size)(hz:chars.size<=1000)(hch: ∀b∈chars.data.toList,b.toNat<128)(hs:s.size<=4294967280):
  Calls Tryz.prog 108 #[.string s,.string chars] w fun e w'=>e= .returned (.int .i64 (Lib.indexAny s.data.toList chars.data.toList))/\Below w.heap.size w w':=by
 by_cases h8:s.size<=8
 ·exact fAf s chars w h2 h8 hz hch
 ·refine(Tryz.strings_IndexAny_long (zero_of_info (n:=256) (by kernel_rfl)).1 s chars w h2 (by omega) (by omega) (by omega) (fun j b hj=>hch b (List.mem_of_getElem? hj))).mono fun e w' ⟨he,hw⟩=>⟨he,?_⟩
  rw[hw]
  exact((Below.refl w.heap.size w).alloc (zB3 _) _).alloc (by show w.heap.size<=(w.heap.push _).size;simp) _
end Go.Proofs.YtabgoobcliijeaaGreatDoor
namespace Go.Proofs.YtabgoobcliijeaaGreatDoor
open Go.RowKit
def rA(r:Ru.Rule):Array Value:= #[Value.int .i64 r.kind,lA r.name]
theorem cAN(r:Ru.Rule):(rA r).size=2:=rfl
theorem vC(r:Ru.Rule):(rA r).all (·.oneCell')=true:=by simp[rA,lA,Value.oneCell']
theorem cAL(r:Ru.Rule):(rA r)[0]? =some (.int .i64 r.kind):=rfl
theorem cAM(r:Ru.Rule):(rA r)[1]? =some (lA r.name):=rfl
theorem KA:(Tryz.prog.info? 26).map (·.size)=some 2:=by kernel_rfl
theorem CK: #[Value.int .i64 0,.string ⟨#[]⟩]=rA Ru.zero:=rfl
theorem TY(k:Int)(s:ByteArray):Tryz.prog.built 26 [(0,.int .i64 k),(1,.string s)]=some (rA ⟨k,s.data.toList⟩):=by kernel_rfl
theorem hAl(r q:Ru.Rule)(W:World):(Op.equalIn 10000 26 (.agg (rA r)) (.agg (rA q))).run Tryz.prog W= .ok (decide (r=q)) W:=by
 obtain⟨f0,f1,hf⟩: ∃f0 f1,Tryz.prog.underlying 26=some (.struct #[f0,f1])/\(f0.name≠ "_" /\f1.name≠ "_")/\(f0.offset=0/\f1.offset=1)/\f0.type=3/\f1.type=9:=
  ⟨_,_,Tryz.underlying26,⟨by decide,by decide⟩,⟨rfl,rfl⟩,rfl,rfl⟩
 obtain⟨hu,⟨n0,n1⟩,⟨o0,o1⟩,t0,t1⟩:=hf
 have hl:Tryz.prog.fieldsOf 26= #[f0,f1]:=by unfold Program.fieldsOf;rw[hu]
 rw[run_equalIn_struct W 9999 26 _ _ (by rw[hl];exact hu) (by kernel_rfl),hl]
 have a0:(part f0.type (rA r) f0.offset).run Tryz.prog W= .ok (.int .i64 r.kind) W:=run_part_plain W (by rw[t0];kernel_rfl) (by rw[o0];rfl)
 have b0:(part f0.type (rA q) f0.offset).run Tryz.prog W= .ok (.int .i64 q.kind) W:=run_part_plain W (by rw[t0];kernel_rfl) (by rw[o0];rfl)
 have a1:(part f1.type (rA r) f1.offset).run Tryz.prog W= .ok (lA r.name) W:=run_part_plain W (by rw[t1];kernel_rfl) (by rw[o1];rfl)
 have b1:(part f1.type (rA q) f1.offset).run Tryz.prog W= .ok (lA q.name) W:=run_part_plain W (by rw[t1];kernel_rfl) (by rw[o1];rfl)
 have q0:(Op.equalIn 9999 f0.type (.int .i64 r.kind) (.int .i64 q.kind)).run Tryz.prog W= .ok (r.kind==q.kind) W:=run_equalIn_int W 9998 f0.type .i64 .i64 r.kind q.kind (by rw[t0];exact Tryz.underlying3)
 have q1:(Op.equalIn 9999 f1.type (lA r.name) (lA q.name)).run Tryz.prog W= .ok (decide (r.name=q.name)) W:=by
  unfold lA
  rw[run_equalIn_string W 9998 f1.type _ _ (by rw[t1];exact Tryz.underlying9),Oct.SA,Oct.SA]
  refine congrArg (fun b=>Result.ok b W) ?_
  rw[Bool.eq_iff_iff]
  simp
 have hd:decide (r=q)=((r.kind==q.kind)&&decide (r.name=q.name)):=by
  rw[Bool.eq_iff_iff]
  simp only[decide_eq_true_eq,Bool.and_eq_true,beq_iff_eq]
  constructor
  ·rintro rfl;exact⟨rfl,rfl⟩
  ·rintro⟨e0,e1⟩
   cases r;cases q
   simp only at e0 e1
   rw[e0,e1]
 rw[hd]
 show(Op.eqFields 9999 (rA r) (rA q) [f0,f1]).run Tryz.prog W=_
 simp only[Op.eqFields,Sem.run_bind,a0,b0,a1,b1,q0,q1,Result.andThen_ok,Sem.run_ite,Sem.run_pure,ne_eq,n0,n1,not_false_eq_true,if_true]
 cases(r.kind==q.kind)<;>cases decide (r.name=q.name)<;>rfl
theorem J2(r q:Ru.Rule)(W:World):(binOp .eql 26 (.agg (rA r)) (.agg (rA q))).run Tryz.prog W= .ok (.bool (decide (r=q))) W:=by
 rw[run_eql_struct,hAl r q W];rfl
theorem ZB {P:Program}{fn:Func}{p u x:Tmp}{ty:TypeId}(h:fn.results= #[.cell p ty,.tmp u,.tmp x])(tmps:Array Value)(w:World)(g:Nat)(t:TypeId)(cs:Array Value)(d:TypeDesc)
  (hp:tmps.getD p undef= .pointer (some ⟨g,0,none⟩))(v1 v2:Value)(hv1:tmps.getD u undef=v1)(hv2:tmps.getD x undef=v2)(hg:Row w g t cs)
  (hu:P.underlying ty=some d)(hd:(match d with| .struct _| .array _ _=>true|_=>false)=true)(hi:(P.info? ty).map (·.size)=some cs.size):
  (results fn tmps).run P w= .ok (.tuple #[.agg cs,v1,v2]) w:=by
 have hp':(asAddr (tmps.getD p undef)).run P w= .ok ⟨g,0,none⟩ w:=by rw[hp];rfl
 have e:(results fn tmps).run P w=((asAddr (tmps.getD p undef)).run P w).andThen fun a w₁=>((loadVar ty a).run P w₁).andThen fun v w₂=> .ok (.tuple #[v,tmps.getD u undef,tmps.getD x undef]) w₂:=by
  simp only[results,h]
  simp[Sem.run_bind,Result.andThen]
 rw[e,hp',Result.andThen_ok,run_loadVar_row (P:=P) w g t ty cs (0,0) d hg hu hd hi,Result.andThen_ok,hv1,hv2]
def KI(o:Int×Bool×Ru.Rule)(w:World)(e:Ending)(w':World):Prop:=e= .returned (.tuple #[.agg (rA o.2.2),.bool o.2.1,.int .i64 o.1])/\Below w.heap.size w w'
end Go.Proofs.YtabgoobcliijeaaGreatDoor
namespace Go.Proofs.YtabgoobcliijeaaGreatDoor
open Go.RowKit
def XX(w:World)(v:Value)(rs:List Ru.Rule):Prop:=
 ∃A c,v= .slice A rs.length c/\(0<rs.length-> ∃g,A=some ⟨g,0,none⟩/\g<w.heap.size/\rs.length<=c/\ ∀k r,rs[k]? =some r->w.cell? ⟨g,k*2,none⟩=some (.int .i64 r.kind)/\w.cell? ⟨g,k*2+1,none⟩=some (lA r.name))
theorem bAK(g j:Nat):(⟨g,0,none⟩:Addr).add j=⟨g,j,none⟩:=by unfold Addr.add;split<;>simp_all
theorem IL {ops:Array Oper}{Q:Exit->Act->World->Prop}{rest:List Oper}{o:Oper}{a:Act}{w:World}(hw:Region.wanted o (yielded ops a.tmps)=true)(x:Operand)(ho:o.op= .load 26 x)
  (g off:Nat)(hx:a.eval x= .pointer (some ⟨g,off,none⟩))(r:Ru.Rule)(h0:w.cell? ⟨g,off,none⟩=some (.int .i64 r.kind))(h1:w.cell? ⟨g,off+1,none⟩=some (lA r.name))
  (h:wpList Tryz.prog ops Q rest (a.put o.dst (.agg (rA r))) w):wpList Tryz.prog ops Q (o::rest) a w:=by
 have hl:(loadCells ⟨g,off,none⟩ [Value.int .i64 r.kind,lA r.name].length).run Tryz.prog w= .ok [Value.int .i64 r.kind,lA r.name].toArray w:=
  run_loadCells_list (P:=Tryz.prog) w ⟨g,off,none⟩ [Value.int .i64 r.kind,lA r.name] (fun j v hv=>by
   have hadd:(⟨g,off,none⟩:Addr).add j=⟨g,off+j,none⟩:=by unfold Addr.add;split<;>simp_all
   rw[hadd]
   match j,hv with
   |0,hv=>rw[<-zB2 (show some (Value.int .i64 r.kind)=some v from hv)];exact h0
   |1,hv=>rw[<-zB2 (show some (lA r.name)=some v from hv)];exact h1)
 have hagg:(isAgg 26).run Tryz.prog w= .ok true w:=by kernel_rfl
 obtain⟨i,hq,hs⟩: ∃i,Tryz.prog.info? 26=some i/\i.size=2:=by
  cases hq:Tryz.prog.info? 26 with
  |none=>have:=KA;rw[hq]at this;cases this
  |some i=>have:=KA;rw[hq]at this;exact⟨i,rfl,zB2 this⟩
 have hv:(loadVar 26 ⟨g,off,none⟩).run Tryz.prog w= .ok (.agg (rA r)) w:=by
  have hl2:(loadCells ⟨g,off,none⟩ 2).run Tryz.prog w= .ok (rA r) w:=hl
  simp[loadVar,Sem.run_bind,hagg,sizeOf,typeInfo,hq,hs,hl2]
 refine wpList_step fun K hK=>?_
 simp only[hw,if_true]
 unfold Oper.wp execOp
 simp only[ho,hx,Instr.loadAt,Instr.sureAddr,Sem.run_bind,Sem.run_pure,Result.andThen_ok,hv]
 exact hK _ _ h
end Go.Proofs.YtabgoobcliijeaaGreatDoor
namespace Go.Proofs.YtabgoobcliijeaaGreatDoor
open Go.RowKit Go.Maps
theorem laidOut:laidOutB Tryz.prog=true:=by kernel_rfl
theorem LJ:Tryz.prog.cellsOf 3=1:=by kernel_rfl
theorem fAR:Tryz.prog.cellsOf 9=1:=by kernel_rfl
theorem pAE: ∃n,Tryz.prog.types.size=n+1:=⟨Tryz.prog.types.size-1,by have:0<Tryz.prog.types.size:=zB1 (by kernel_rfl);omega⟩
end Go.Proofs.YtabgoobcliijeaaGreatDoor
namespace Go.Proofs.YtabgoobcliijeaaGreatDoor
open Go.RowKit Go.Maps
theorem hAA(s:ByteArray)(w:World)(hs:s.size<=4294967280):
  Calls Tryz.prog 74 #[.string s] w (XC w.heap.size (Ru.first s.data.toList) w):=by
 have H1:=zA7 (fun W=>fAg s ⟨#[32,9]⟩ W (by decide) (by decide) (by decide) hs)
 have e1:(⟨#[32,9]⟩:ByteArray).data.toList= [32,9]:=rfl
 rw[e1]at H1
 by_cases hn:Lib.indexAny s.data.toList [32,9]<0
 ·obtain⟨e1,_⟩:=Ur.jAl hn
  have HE:Hid ((⟨(Ru.first s.data.toList).toArray⟩:ByteArray)=s):=zA7 (by unfold Ru.first;rw[e1,gE])
  clear e1
  generalize Ru.first s.data.toList=l at*
  generalize Lib.indexAny s.data.toList [32,9]=r at*
  go_enter Tryz.func74,Tryz.ntmps74
  go_wp2_with fail
  refine(H1.out _).mono ?_
  rintro e v1 ⟨rfl,d1⟩
  go_wp2
  go_ret
  exact⟨nB HE.out.symm,d1⟩
 ·obtain⟨e1,e2⟩:=Ur.jAm hn
  rw[e1]at H1
  have hle:Ur.find s.data.toList [32,9]<=s.size:=by rw[Oct.nA]at e2;omega
  have HA:Hid (s.extract 0 (Ur.find s.data.toList [32,9])=⟨(Ru.first s.data.toList).toArray⟩):=zA7 (EF s _)
  clear hn e1 e2
  generalize Ru.first s.data.toList=l at*
  generalize Ur.find s.data.toList [32,9]=n at*
  have hn0: ¬(n:Int)<0:=by omega
  have hle1:(n:Int)<=(s.size:Int):=by omega
  go_enter Tryz.func74,Tryz.ntmps74
  go_wp2_with fail
  refine(H1.out _).mono ?_
  rintro e v1 ⟨rfl,d1⟩
  go_wp2
  go_ret
  exact⟨nB HA.out,d1⟩
theorem kAH(s:ByteArray)(w:World):
  Calls Tryz.prog 73 #[.string s] w fun e w'=>e= .returned (.tuple #[.int .i64 (Ru.kind s.data.toList),.string ⟨(Ru.rest s.data.toList).toArray⟩])/\w=w':=by
 have H1:=zA7 (fun W=>Tryz.strings_CutPrefix s ⟨#[33]⟩ W)
 have H2:=zA7 (fun W=>Tryz.strings_CutPrefix s ⟨#[42,46]⟩ W)
 have e1:(⟨#[33]⟩:ByteArray).data.toList= [33]:=rfl
 have e2:(⟨#[42,46]⟩:ByteArray).data.toList= [42,46]:=rfl
 rw[e1]at H1
 rw[e2]at H2
 have HK:Hid (Ru.kind s.data.toList=if Lib.hasPrefix s.data.toList [33]=true then 3 else if Lib.hasPrefix s.data.toList [42,46]=true then 2 else 1):=zA7 rfl
 have HR:Hid (Ru.rest s.data.toList=if Lib.hasPrefix s.data.toList [33]=true then Lib.trimPrefix s.data.toList [33]else if Lib.hasPrefix s.data.toList [42,46]=true then Lib.trimPrefix s.data.toList [42,46]else s.data.toList):=zA7 rfl
 clear e1 e2
 generalize Ru.kind s.data.toList=K at*
 generalize Ru.rest s.data.toList=R at*
 generalize Lib.trimPrefix s.data.toList [33]=t1 at*
 generalize Lib.trimPrefix s.data.toList [42,46]=t2 at*
 cases h1:Lib.hasPrefix s.data.toList [33]with
 |true=>
  rw[h1]at H1 HK HR
  have KK:Hid (K=3):=zA7 (by rw[HK.out,if_pos rfl])
  have RR:Hid (R=t1):=zA7 (by rw[HR.out,if_pos rfl])
  clear h1 HK HR
  go_enter Tryz.func73,Tryz.ntmps73
  go_wp2_with fail
  refine(H1.out _).mono ?_
  rintro e v1 ⟨rfl,rfl⟩
  go_wp2
  go_ret2
  exact⟨GE (IA KK.out.symm) (MW (by rw[RR.out])),rfl⟩
 |false=>
  rw[h1]at H1 HK HR
  clear h1
  cases h2:Lib.hasPrefix s.data.toList [42,46]with
  |true=>
   rw[h2]at H2 HK HR
   have KK:Hid (K=2):=zA7 (by rw[HK.out,if_neg (by simp),if_pos rfl])
   have RR:Hid (R=t2):=zA7 (by rw[HR.out,if_neg (by simp),if_pos rfl])
   clear h2 HK HR
   go_enter Tryz.func73,Tryz.ntmps73
   go_wp2_with fail
   refine(H1.out _).mono ?_
   rintro e v1 ⟨rfl,rfl⟩
   go_wp2_with fail
   refine(H2.out _).mono ?_
   rintro e v2 ⟨rfl,rfl⟩
   go_wp2
   go_ret2
   exact⟨GE (IA KK.out.symm) (MW (by rw[RR.out])),rfl⟩
  |false=>
   rw[h2]at H2 HK HR
   have KK:Hid (K=1):=zA7 (by rw[HK.out,if_neg (by simp),if_neg (by simp)])
   have RR:Hid (R=s.data.toList):=zA7 (by rw[HR.out,if_neg (by simp),if_neg (by simp)])
   clear h2 HK HR
   go_enter Tryz.func73,Tryz.ntmps73
   go_wp2_with fail
   refine(H1.out _).mono ?_
   rintro e v1 ⟨rfl,rfl⟩
   go_wp2_with fail
   refine(H2.out _).mono ?_
   rintro e v2 ⟨rfl,rfl⟩
   go_wp2
   go_ret2
   exact⟨GE (IA KK.out.symm) (MW (by rw[RR.out,gE])),rfl⟩
theorem nAw(r:Ru.Rule)(w:World)(hr:r.name.length<=1048576):
  Calls Tryz.prog 39 #[.agg (rA r)] w (XC w.heap.size (Ru.text r) w):=by
 obtain⟨t,ht⟩: ∃t:ByteArray,t=⟨r.name.toArray⟩:=⟨_,rfl⟩
 have R0:=Row.new w 26 (rA r)
 have c0:(w.alloc (.cells (rA r) 26)).cell? ⟨w.heap.size,0,none⟩=some (.int .i64 r.kind):=by rw[R0.cell,cAL]
 have c1:(w.alloc (.cells (rA r) 26)).cell? ⟨w.heap.size,1,none⟩=some (.string t):=by rw[R0.cell,cAM,ht];rfl
 have B0:=(Below.refl w.heap.size w).alloc (zB3 _) (.cells (rA r) 26)
 have hts:t.size<=1048576:=by rw[ht];show(List.toArray _).size<=_;simp;exact hr
 have hn1: ¬9223372036854775807<(⟨#[33]⟩:ByteArray).size+t.size:=by show¬9223372036854775807<1+t.size;omega
 have hn2: ¬9223372036854775807<(⟨#[42,46]⟩:ByteArray).size+t.size:=by show¬9223372036854775807<2+t.size;omega
 have htl:t.data.toList=r.name:=by rw[ht]
 have E1:Hid ((⟨#[33]⟩++t:ByteArray)=⟨(33::r.name).toArray⟩):=zA7 (by apply ByteArray.ext;rw[ht];simp)
 have E2:Hid ((⟨#[42,46]⟩++t:ByteArray)=⟨(42::46::r.name).toArray⟩):=zA7 (by apply ByteArray.ext;rw[ht];simp)
 have E3:=zA7 ht
 have HT:Hid (Ru.text r=if r.kind=3 then 33::r.name else if r.kind=2 then 42::46::r.name else r.name):=zA7 rfl
 clear ht htl R0 hr
 generalize Ru.text r=T at*
 generalize r.kind=k at*
 generalize r.name=m at*
 generalize rA r=X at*
 by_cases h3:k=3
 ·have h31:(k==3)=true:=by simpa using h3
  have HY:Hid (T=33::m):=zA7 (by rw[HT.out,if_pos h3])
  clear h3 HT
  go_enter Tryz.func39,Tryz.ntmps39
  go_wp2
  go_ret
  exact⟨nB (by rw[HY.out];exact E1.out),B0⟩
 ·have h31:(k==3)=false:=by simpa using h3
  by_cases h2:k=2
  ·have h21:(k==2)=true:=by simpa using h2
   have HY:Hid (T=42::46::m):=zA7 (by rw[HT.out,if_neg h3,if_pos h2])
   clear h3 h2 HT
   go_enter Tryz.func39,Tryz.ntmps39
   go_wp2
   go_ret
   exact⟨nB (by rw[HY.out];exact E2.out),B0⟩
  ·have h21:(k==2)=false:=by simpa using h2
   have HY:Hid (T=m):=zA7 (by rw[HT.out,if_neg h3,if_neg h2])
   clear h3 h2 HT
   go_enter Tryz.func39,Tryz.ntmps39
   go_wp2
   go_ret
   exact⟨nB (by rw[HY.out];exact E3.out),B0⟩
end Go.Proofs.YtabgoobcliijeaaGreatDoor
