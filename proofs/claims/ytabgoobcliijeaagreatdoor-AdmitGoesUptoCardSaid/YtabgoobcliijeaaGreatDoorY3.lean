/- Plain functions on what a Set-Cookie header says, and plain lemmas on them. No program is named here. -/
import Derived.Test.YtabgoobcliijeaaGreatDoorY2
namespace Go.Proofs.YtabgoobcliijeaaGreatDoor
namespace Hd
open Oct
def kD(c:UInt8):Bool:=decide (c.toNat<=8\/(10<=c.toNat/\c.toNat<=31)\/c.toNat=127)
def MB(c:UInt8):Bool:=decide (c≠61)
structure Head where
 name:List UInt8
 value:List UInt8
 domain:List UInt8
 path:List UInt8
 exp:Option Int
 age:Option Nat
 secure:Bool
 only:Bool
 same:Nat
 deriving DecidableEq
def zero:Head:=⟨[],[],[],[],none,none,false,false,0⟩
def ahead(l:List UInt8):List UInt8:=trim (l.takeWhile MB)
def behind(l:List UInt8):List UInt8:=trim ((l.dropWhile MB).drop 1)
def pair(l:List UInt8):List UInt8×List UInt8:=if 61∈l then(ahead l,behind l)else([],trim l)
def jD(v:List UInt8):Option Nat:=if v.head?=some 45 then(if digits (v.drop 1)=true then some 0 else none)else if digits v=true then some (min (numOf v) 34560000)else none
def eC(v:List UInt8):List UInt8:=if v.head?=some 46 then v.drop 1 else v
def sR:List UInt8:= [110,111,110,101]
def rR:List UInt8:= [108,97,120]
def tR:List UInt8:= [115,116,114,105,99,116]
def iF(v:List UInt8):Nat:=if v=sR then 1 else if v=rR then 2 else if v=tR then 3 else 0
def GG:List UInt8:= [101,120,112,105,114,101,115]
def EG:List UInt8:= [109,97,120,45,97,103,101]
def FG:List UInt8:= [100,111,109,97,105,110]
def wH:List UInt8:= [112,97,116,104]
def xH:List UInt8:= [115,101,99,117,114,101]
def vH:List UInt8:= [104,116,116,112,111,110,108,121]
def yH:List UInt8:= [115,97,109,101,115,105,116,101]
def put(h:Head)(k v:List UInt8):Head:=
 if 1024<v.length then h
 else if k=GG then(if(Dt.kB v).2=true then {h with exp:=some (Dt.kB v).1} else h)
 else if k=EG then(match jD v with|some n=> {h with age:=some n} |none=>h)
 else if k=FG then {h with domain:=eC (v.map low)}
 else if k=wH then {h with path:=if v.head?=some 47 then v else []}
 else if k=xH then {h with secure:=true}
 else if k=vH then {h with only:=true}
 else if k=yH then {h with same:=iF (v.map low)}
 else h
def attr(h:Head)(l:List UInt8):Head:=put h ((ahead l).map low) (behind l)
def start(p:List UInt8):Head:= {zero with name:=(pair p).1,value:=(pair p).2}
def said(ps:List (List UInt8)):Int×Head:=
 match ps with
 |p::r=>if(pair p).1= []/\(pair p).2= []then(82,zero)else if 4096<(pair p).1.length+(pair p).2.length then(83,zero)else(0,r.foldl attr (start p))
 | []=>(82,zero)
def parse(s:List UInt8):Int×Head:=if s.any kD=true then(81,zero)else said (split 59 s)
structure aE(l:List UInt8):Prop where
 left: ∀c,l.head?=some c->EA c=false
 right: ∀c,l.getLast?=some c->EA c=false
theorem UZ {l:List UInt8}(h: ∀c,l.head?=some c->EA c=false):l.dropWhile EA=l:=by
 cases l with
 |nil=>rfl
 |cons c r=>rw[List.dropWhile_cons_of_neg (by rw[h c rfl];simp)]
theorem ST: ∀(l:List UInt8)(c:UInt8),(l.dropWhile EA).head?=some c->EA c=false
 | [],c,h=>by cases h
 |x::r,c,h=>by
  cases hx:EA x with
  |true=>rw[List.dropWhile_cons_of_pos hx]at h;exact ST r c h
  |false=>
   rw[List.dropWhile_cons_of_neg (by rw[hx];simp)]at h
   have e:x=c:=zB2 h
   rw[<-e];exact hx
theorem fAV {l:List UInt8}(h: ∀c,l.getLast?=some c->EA c=false):NC l=l:=by
 unfold NC
 rw[UZ (fun c hc=>h c (by rw[List.head?_reverse]at hc;exact hc)),List.reverse_reverse]
theorem fAU(l:List UInt8)(c:UInt8)(h:(NC l).getLast?=some c):EA c=false:=by
 unfold NC at h
 rw[List.getLast?_reverse]at h
 exact ST _ c h
theorem tT(l:List UInt8):NC l<+:l:=by
 unfold NC
 have:=(List.dropWhile_suffix EA (l:=l.reverse))
 rw[<-List.reverse_prefix]at this
 rw[List.reverse_reverse]at this
 exact this
theorem IR(l:List UInt8):aE (trim l):=by
 refine⟨?_,fun c h=>fAU _ c h⟩
 intro c h
 unfold trim at h
 obtain⟨m,hm⟩:=tT (l.dropWhile EA)
 refine ST l c ?_
 rw[<-hm]
 cases e:NC (l.dropWhile EA)with
 |nil=>rw[e]at h;cases h
 |cons x r=>rw[e]at h;rw[List.cons_append];exact h
theorem uO {l:List UInt8}(h:aE l):trim l=l:=by
 unfold trim
 rw[UZ h.left,fAV h.right]
theorem FW {l:List UInt8}{c:UInt8}(h:c∈trim l):c∈l:=by
 unfold trim at h
 exact(List.dropWhile_suffix _).mem ((tT _).mem h)
theorem pAv:aE []:=⟨fun _ h=>(by cases h),fun _ h=>(by cases h)⟩
theorem dAt {c:UInt8}(h:EA c=true)(l:List UInt8):trim (c::l)=trim l:=by
 unfold trim
 rw[List.dropWhile_cons_of_pos h]
theorem NL(c:UInt8):MB c=true↔c≠61:=decide_eq_true_iff
theorem dA8: ∀ {a:List UInt8},(∀c∈a,c≠61)-> ∀v,(a++61::v).takeWhile MB=a/\(a++61::v).dropWhile MB=61::v
 | [],_,v=>⟨by rw[List.nil_append,List.takeWhile_cons_of_neg (by decide)],by rw[List.nil_append,List.dropWhile_cons_of_neg (by decide)]⟩
 |x::a,h,v=>by
  have hx:MB x=true:=(NL x).2 (h x (by simp))
  obtain⟨h1,h2⟩:=dA8 (a:=a) (fun c hc=>h c (by simp[hc])) v
  rw[List.cons_append,List.takeWhile_cons_of_pos hx,List.dropWhile_cons_of_pos hx,h1,h2]
  exact⟨rfl,rfl⟩
theorem vW: ∀ {a:List UInt8},(∀c∈a,c≠61)->a.takeWhile MB=a/\a.dropWhile MB= []
 | [],_=>⟨rfl,rfl⟩
 |x::a,h=>by
  have hx:MB x=true:=(NL x).2 (h x (by simp))
  obtain⟨h1,h2⟩:=vW (a:=a) (fun c hc=>h c (by simp[hc]))
  rw[List.takeWhile_cons_of_pos hx,List.dropWhile_cons_of_pos hx,h1,h2]
  exact⟨rfl,rfl⟩
theorem uW: ∀(l:List UInt8),∀c∈l.takeWhile MB,c≠61
 | [],c,h=>by cases h
 |x::r,c,h=>by
  cases hx:MB x with
  |true=>
   rw[List.takeWhile_cons_of_pos hx]at h
   rcases List.mem_cons.1 h with e|e
   ·rw[e];exact(NL x).1 hx
   ·exact uW r c e
  |false=>rw[List.takeWhile_cons_of_neg (by rw[hx];simp)]at h;cases h
theorem wY {a:List UInt8}(h: ∀c∈a,c≠61)(v:List UInt8):ahead (a++61::v)=trim a/\behind (a++61::v)=trim v:=by
 obtain⟨h1,h2⟩:=dA8 h v
 unfold ahead behind
 rw[h1,h2]
 exact⟨rfl,rfl⟩
theorem fA8 {a:List UInt8}(h: ∀c∈a,c≠61):ahead a=trim a/\behind a= []:=by
 obtain⟨h1,h2⟩:=vW h
 unfold ahead behind
 rw[h1,h2]
 exact⟨rfl,rfl⟩
theorem fA7 {l:List UInt8}{c:UInt8}(h:c∈ahead l):c∈l/\c≠61:=by
 unfold ahead at h
 have:=FW h
 exact⟨(List.takeWhile_prefix _).mem this,uW l c this⟩
theorem PY {l:List UInt8}{c:UInt8}(h:c∈behind l):c∈l:=by
 unfold behind at h
 exact(List.dropWhile_suffix _).mem (List.mem_of_mem_drop (FW h))
theorem dA1(a:UInt8): ∀(l:List UInt8)(p:List UInt8),p∈split a l-> ∀c∈p,c∈l/\c≠a
 | [],p,hp,c,hc=>by
  rw[show split a []= [[]] from rfl,List.mem_singleton]at hp
  subst hp;cases hc
 |x::r,p,hp,c,hc=>by
  have ih:=dA1 a r
  rw[ND]at hp
  split at hp
  ·rcases List.mem_cons.1 hp with e|e
   ·subst e;cases hc
   ·exact⟨List.mem_cons_of_mem _ (ih p e c hc).1,(ih p e c hc).2⟩
  ·rename_i hx
   split at hp
   ·rename_i e
    exact absurd e (dG a r)
   ·rename_i q qs e
    rcases List.mem_cons.1 hp with e2|e2
    ·subst e2
     rcases List.mem_cons.1 hc with e3|e3
     ·subst e3;exact⟨List.mem_cons_self,hx⟩
     ·have:=ih q (by rw[e];exact List.mem_cons_self) c e3
      exact⟨List.mem_cons_of_mem _ this.1,this.2⟩
    ·have:=ih p (by rw[e];exact List.mem_cons_of_mem _ e2) c hc
     exact⟨List.mem_cons_of_mem _ this.1,this.2⟩
theorem vR(a:UInt8)(r:List UInt8): ∀l:List UInt8,split a (l++a::r)=split a l++split a r
 | []=>by rw[List.nil_append,ND,if_pos rfl];rfl
 |x::l=>by
  have ih:=vR a r l
  rw[List.cons_append,ND,ND,ih]
  split
  ·rfl
  ·cases e:split a l with
   |nil=>exact absurd e (dG a l)
   |cons q qs=>rfl
theorem bAQ {s:List UInt8}{h:Head} :parse s=(0,h)↔s.any kD=false/\said (split 59 s)=(0,h):=by
 unfold parse
 constructor
 ·intro hp
  split at hp
  ·cases congrArg Prod.fst hp
  ·rename_i k
   exact⟨by simpa using k,hp⟩
 ·intro ⟨h1,h2⟩
  rw[if_neg (by rw[h1];simp),h2]
theorem nAI {ps:List (List UInt8)}(h:(said ps).1≠0):(said ps).2=zero:=by
 unfold said at h⊢
 split
 ·dsimp only at h⊢
  split
  ·rfl
  ·rename_i k
   rw[if_neg k]at h
   split
   ·rfl
   ·rename_i k2;rw[if_neg k2]at h;exact absurd rfl h
 ·rfl
theorem lAI {s:List UInt8}(h:(parse s).1≠0):(parse s).2=zero:=by
 unfold parse at h⊢
 split
 ·rfl
 ·rename_i k
  rw[if_neg k]at h
  exact nAI h
def yB(c:UInt8):Bool:= !kD c&&decide (c≠59)
theorem SJ {c:UInt8} :yB c=true↔kD c=false/\c≠59:=by
 unfold yB
 rw[Bool.and_eq_true,Bool.not_eq_true',decide_eq_true_iff]
theorem kAw: ∀c:UInt8,yB c=true->yB (low c)=true:=by
 intro c
 by_cases k:65<=c.toNat/\c.toNat<=90
 ·intro _
  have e:(low c).toNat=c.toNat+32:=by rw[JG,if_pos k]
  refine SJ.2 ⟨?_,?_⟩
  ·unfold kD;exact zA8 (by omega)
  ·intro h
   rw[h]at e
   have:(59:UInt8).toNat=59:=rfl
   omega
 ·intro h
  have e:low c=c:=by unfold low;rw[if_neg k]
  rw[e];exact h
theorem aAU(c:UInt8):EA (low c)=EA c:=by
 by_cases k:65<=c.toNat/\c.toNat<=90
 ·have e:(low c).toNat=c.toNat+32:=by rw[JG,if_pos k]
  unfold EA
  rw[decide_eq_decide]
  omega
 ·have e:low c=c:=by unfold low;rw[if_neg k]
  rw[e]
def AE(l:List UInt8):Bool:=decide (l.head?=some 46\/l.head?=some 32\/l.head?=some 9)
structure Good(h:Head):Prop where
 name:aE h.name
 bAe: ∀c∈h.name,yB c=true
 sign: ∀c∈h.name,c≠61
 value:aE h.value
 dAL: ∀c∈h.value,yB c=true
 some_: ¬(h.name= []/\h.value= [])
 few:h.name.length+h.value.length<=4096
 UP: ∀c∈h.domain,yB c=true
 WP:h.domain.map low=h.domain
 XP: ∀c,h.domain.getLast?=some c->EA c=false
 lH:h.domain.length+(if AE h.domain=true then 1 else 0)<=1024
 gR: ∀c∈h.path,yB c=true
 iO:h.path= []\/h.path.head?=some 47
 iR: ∀c,h.path.getLast?=some c->EA c=false
 ZI:h.path.length<=1024
 exp: ∀n,h.exp=some n-> ∃t,Dt.civil (n/86400)=some t
 age: ∀n,h.age=some n->n<=34560000
 same:h.same<=3
theorem gAk {v:List UInt8}(h:(Dt.kB v).2=true): ∃t,Dt.civil ((Dt.kB v).1/86400)=some t:=by
 unfold Dt.kB at h⊢
 unfold Dt.moment at h⊢
 split at h
 ·rename_i a b c d m y e1 e2 e3 e4
  split at h
  ·rename_i k
   rw[if_pos k]
   refine⟨_,Dt.jH.2 ⟨k.1,?_⟩⟩
   obtain⟨_,k1,k2,k3⟩:=k
   have:((a*3600+(b*60+c):Nat):Int)<86400:=by omega
   simp only
   omega
  ·cases h
 ·cases h
theorem pAK(v:List UInt8):(∃r,v=46::r/\eC v=r)\/(v.head?≠some 46/\eC v=v):=by
 unfold eC
 split
 ·rename_i h
  cases v with
  |nil=>cases h
  |cons x r=>
   left
   have e:x=46:=zB2 h
   exact⟨r,by rw[e],rfl⟩
 ·rename_i h;exact .inr ⟨h,rfl⟩
theorem kAG {v:List UInt8}(h:aE v):aE (v.map low):=by
 refine⟨?_,?_⟩
 ·intro c hc
  rw[List.head?_map]at hc
  obtain⟨x,hx,rfl⟩:=Option.map_eq_some_iff.1 hc
  rw[aAU];exact h.left x hx
 ·intro c hc
  rw[List.getLast?_map]at hc
  obtain⟨x,hx,rfl⟩:=Option.map_eq_some_iff.1 hc
  rw[aAU];exact h.right x hx
theorem kAz(v:List UInt8):(v.map low).map low=v.map low:=dA.bA0 v
theorem fA4 {v:List UInt8}{n:Nat}(h:jD v=some n):n<=34560000:=by
 unfold jD at h
 split at h
 ·split at h
  ·cases h;omega
  ·cases h
 ·split at h
  ·have e:=zB2 h
   omega
  ·cases h
theorem nAK(v:List UInt8):iF v<=3:=by unfold iF;split<;>(try split)<;>(try split)<;>omega
theorem iA9 {h:Head}(hg:Good h){k v:List UInt8}(hv:aE v)(hb: ∀c∈v,yB c=true):Good (put h k v):=by
 unfold put
 split
 ·exact hg
 rename_i hl
 split
 ·split
  ·rename_i hc
   exact {hg with
    exp:=fun n hn=>by
     have e:=zB2 hn
     rw[<-e];exact gAk hc}
  ·exact hg
 split
 ·split
  ·rename_i n hn
   exact {hg with
    age:=fun m hm=>by
     have e:=zB2 hm
     rw[<-e];exact fA4 hn}
  ·exact hg
 split
 ·have ht:=kAG hv
  have hbl: ∀c∈v.map low,yB c=true:=by
   intro c hc
   obtain⟨x,hx,rfl⟩:=List.mem_map.1 hc
   exact kAw x (hb x hx)
  have hlow:=kAz v
  have hlen:(v.map low).length<=1024:=by rw[List.length_map];omega
  generalize v.map low=u at*
  rcases pAK u with⟨r,e1,e2⟩|⟨e1,e2⟩
  ·rw[e2]
   subst e1
   exact {hg with
    UP:=fun c hc=>hbl c (by simp[hc])
    WP:=by rw[List.map_cons]at hlow;exact(List.cons.inj hlow).2
    XP:=fun c hc=>ht.right c (by
     cases r with
     |nil=>cases hc
     |cons x q=>rw[List.getLast?_cons_cons];exact hc)
    lH:=by
     show r.length+_<=1024
     rw[zB5]at hlen
     split<;>omega}
  ·rw[e2]
   exact {hg with
    UP:=hbl
    WP:=hlow
    XP:=ht.right
    lH:=by
     show u.length+_<=1024
     rw[if_neg ?_]
     ·omega
     ·intro hd
      unfold AE at hd
      rcases zB1 hd with a|a|a
      ·exact e1 a
      ·exact absurd (ht.left _ a) (by decide)
      ·exact absurd (ht.left _ a) (by decide)}
 split
 ·split
  ·rename_i hp
   exact {hg with gR:=hb,iO:= .inr hp,iR:=hv.right,ZI:=by show v.length<=1024;omega}
  ·exact {hg with gR:=(fun _ hc=>by cases hc),iO:= .inl rfl,iR:=(fun _ hc=>by cases hc),ZI:=(by show(0:Nat)<=1024;omega)}
 split
 ·exact {hg with}
 split
 ·exact {hg with}
 split
 ·exact {hg with same:=nAK _}
 ·exact hg
theorem iA8 {h:Head}(hg:Good h){p:List UInt8}(hp: ∀c∈p,yB c=true):Good (attr h p):=
 iA9 hg (IR _) (fun c hc=>hp c (PY hc))
theorem I5: ∀ {r:List (List UInt8)}{h:Head},Good h->(∀p∈r,∀c∈p,yB c=true)->Good (r.foldl attr h)
 | [],h,hg,_=>hg
 |p::r,h,hg,hp=>I5 (r:=r) (iA8 hg (hp p (by simp))) (fun q hq=>hp q (by simp[hq]))
theorem lAE(p:List UInt8):aE (pair p).1/\aE (pair p).2/\(∀c∈ (pair p).1,c∈p/\c≠61)/\(∀c∈ (pair p).2,c∈p):=by
 unfold pair
 split
 ·exact⟨IR _,IR _,fun c hc=>fA7 hc,fun c hc=>PY hc⟩
 ·exact⟨pAv,IR _,fun c hc=>(by cases hc),fun c hc=>FW hc⟩
theorem good_start {p:List UInt8}(hb: ∀c∈p,yB c=true)(h1: ¬((pair p).1= []/\(pair p).2= []))(h2: ¬4096<(pair p).1.length+(pair p).2.length):Good (start p):=by
 obtain⟨p1,p2,p3,p4⟩:=lAE p
 exact {
  name:=p1,bAe:=fun c hc=>hb c (p3 c hc).1,sign:=fun c hc=>(p3 c hc).2,value:=p2,dAL:=fun c hc=>hb c (p4 c hc),some_:=h1
  few:=by show(pair p).1.length+(pair p).2.length<=4096;omega
  UP:=fun _ hc=>by cases hc
  WP:=rfl
  XP:=fun _ hc=>by cases hc
  lH:=by show 0+_<=1024;split<;>omega
  gR:=fun _ hc=>by cases hc
  iO:= .inl rfl
  iR:=fun _ hc=>by cases hc
  ZI:=by show(0:Nat)<=1024;omega
  exp:=fun _ hc=>by cases hc
  age:=fun _ hc=>by cases hc
  same:=by show(0:Nat)<=3;omega}
theorem AD {s:List UInt8}{h:Head}(hp:parse s=(0,h)):Good h:=by
 obtain⟨h1,h2⟩:=bAQ.1 hp
 have hb: ∀p∈split 59 s,∀c∈p,yB c=true:=by
  intro p hp c hc
  obtain⟨m1,m2⟩:=dA1 59 s p hp c hc
  refine SJ.2 ⟨?_,m2⟩
  rw[List.any_eq_false]at h1
  have:=h1 c m1
  simpa using this
 cases e:split 59 s with
 |nil=>exact absurd e (dG 59 s)
 |cons p r=>
  rw[e]at h2 hb
  unfold said at h2
  dsimp only at h2
  split at h2
  ·cases congrArg Prod.fst h2
  rename_i k1
  split at h2
  ·cases congrArg Prod.fst h2
  rename_i k2
  have eh:r.foldl attr (start p)=h:=congrArg Prod.snd h2
  rw[<-eh]
  exact I5 (good_start (hb p (by simp)) k1 k2) (fun q hq=>hb q (by simp[hq]))
end Hd
end Go.Proofs.YtabgoobcliijeaaGreatDoor
namespace Go.Proofs.YtabgoobcliijeaaGreatDoor
namespace Hd
open Oct
def QR:List UInt8:= [69,120,112,105,114,101,115]
def vO:List UInt8:= [77,97,120,45,65,103,101]
def wO:List UInt8:= [68,111,109,97,105,110]
def yO:List UInt8:= [80,97,116,104]
def zO:List UInt8:= [83,101,99,117,114,101]
def xO:List UInt8:= [72,116,116,112,79,110,108,121]
def AO:List UInt8:= [83,97,109,101,83,105,116,101]
def vK:List UInt8:= [78,111,110,101]
def fJ:List UInt8:= [76,97,120]
def wI:List UInt8:= [83,116,114,105,99,116]
def qC(d:List UInt8):List UInt8:=if AE d=true then 46::d else d
def bJ(n:Nat):List UInt8:=if n=1 then vK else if n=2 then fJ else wI
noncomputable def PG(o:Option Int):List (List UInt8):=match o with|some n=> [QR++61::Dt.text n]|none=> []
def BH(o:Option Nat):List (List UInt8):=match o with|some n=> [vO++61::Lib.decDigits n]|none=> []
def OG(d:List UInt8):List (List UInt8):=if d= []then []else [wO++61::qC d]
def partPath(d:List UInt8):List (List UInt8):=if d= []then []else [yO++61::d]
def mI(b:Bool):List (List UInt8):=if b=true then [zO]else []
def lI(b:Bool):List (List UInt8):=if b=true then [xO]else []
def DH(n:Nat):List (List UInt8):=if n=0 then []else [AO++61::bJ n]
noncomputable def parts(h:Head):List (List UInt8):=PG h.exp++(BH h.age++(OG h.domain++(partPath h.path++(mI h.secure++(lI h.only++DH h.same)))))
def joined(ps:List (List UInt8)):List UInt8:=ps.flatMap fun p=>59::32::p
noncomputable def text(h:Head):List UInt8:=(h.name++61::h.value)++joined (parts h)
theorem dA0: ∀(ps:List (List UInt8))(a:List UInt8),(∀c∈a,c≠59)->(∀p∈ps,∀c∈p,c≠59)->split 59 (a++joined ps)=a::ps.map (32:: ·)
 | [],a,h,_=>by
  rw[show joined []= [] from rfl,List.append_nil,zR 59 a h];rfl
 |p::ps,a,h,hp=>by
  have ih:=dA0 ps (32::p) (fun c hc=>by
   rcases List.mem_cons.1 hc with e|e
   ·rw[e];decide
   ·exact hp p (by simp) c e) (fun q hq=>hp q (by simp[hq]))
  rw[show joined (p::ps)=59::((32::p)++joined ps) from rfl,wR 59 _ a h,ih]
  rfl
theorem sI {l:List UInt8}(h: ∀c∈l,EA c=false):aE l:=
 ⟨fun c hc=>h c (List.mem_of_mem_head? hc),fun c hc=>h c (List.mem_of_getLast? hc)⟩
theorem pN(h:Head){k v:List UInt8}(hk: ∀c∈k,c≠61)(kt:aE k)(vt:aE v):attr h (32::(k++61::v))=put h (k.map low) v:=by
 obtain⟨e1,e2⟩:=wY (a:=32::k) (fun c hc=>by
  rcases List.mem_cons.1 hc with e|e
  ·rw[e];decide
  ·exact hk c e) v
 unfold attr
 rw[List.cons_append]at e1 e2
 rw[e1,e2,dAt (by decide),uO kt,uO vt]
theorem EY(h:Head){k:List UInt8}(hk: ∀c∈k,c≠61)(kt:aE k):attr h (32::k)=put h (k.map low) []:=by
 obtain⟨e1,e2⟩:=fA8 (a:=32::k) (fun c hc=>by
  rcases List.mem_cons.1 hc with e|e
  ·rw[e];decide
  ·exact hk c e)
 unfold attr
 rw[e1,e2,dAt (by decide),uO kt]
theorem PV(h:Head){v:List UInt8}(hv:v.length<=1024):put h GG v=if(Dt.kB v).2=true then {h with exp:=some (Dt.kB v).1} else h:=by
 unfold put;rw[if_neg (by omega),if_pos rfl]
theorem LV(h:Head){v:List UInt8}(hv:v.length<=1024):put h EG v=match jD v with|some n=> {h with age:=some n} |none=>h:=by
 unfold put;rw[if_neg (by omega),if_neg (by decide),if_pos rfl];try (cases jD v<;>rfl)
theorem MV(h:Head){v:List UInt8}(hv:v.length<=1024):put h FG v= {h with domain:=eC (v.map low)} :=by
 unfold put;rw[if_neg (by omega),if_neg (by decide),if_neg (by decide),if_pos rfl]
theorem cA5(h:Head){v:List UInt8}(hv:v.length<=1024):put h wH v= {h with path:=if v.head?=some 47 then v else []} :=by
 unfold put;rw[if_neg (by omega),if_neg (by decide),if_neg (by decide),if_neg (by decide),if_pos rfl]
theorem cA7(h:Head){v:List UInt8}(hv:v.length<=1024):put h xH v= {h with secure:=true} :=by
 unfold put;rw[if_neg (by omega),if_neg (by decide),if_neg (by decide),if_neg (by decide),if_neg (by decide),if_pos rfl]
theorem cA3(h:Head){v:List UInt8}(hv:v.length<=1024):put h vH v= {h with only:=true} :=by
 unfold put;rw[if_neg (by omega),if_neg (by decide),if_neg (by decide),if_neg (by decide),if_neg (by decide),if_neg (by decide),if_pos rfl]
theorem cA9(h:Head){v:List UInt8}(hv:v.length<=1024):put h yH v= {h with same:=iF (v.map low)} :=by
 unfold put;rw[if_neg (by omega),if_neg (by decide),if_neg (by decide),if_neg (by decide),if_neg (by decide),if_neg (by decide),if_neg (by decide),if_pos rfl]
theorem QV(h:Head){k v:List UInt8}(hk:k≠GG/\k≠EG/\k≠FG/\k≠wH/\k≠xH/\k≠vH/\k≠yH):put h k v=h:=by
 obtain⟨k1,k2,k3,k4,k5,k6,k7⟩:=hk
 unfold put
 rw[if_neg k1,if_neg k2,if_neg k3,if_neg k4,if_neg k5,if_neg k6,if_neg k7]
 split<;>rfl
theorem mAn(h:Head){k v:List UInt8}(hv:1024<v.length):put h k v=h:=by
 unfold put;rw[if_pos hv]
theorem qAh: ∀j,j<7->(((Dt.week[j]?).getD []).all fun c=>yB c&& !EA c)=true/\(Dt.week[j]?).getD []≠ []:=by decide+kernel
theorem kAR: ∀j,j<12->(((Dt.rB[j]?).getD []).all fun c=>yB c&& !EA c)=true:=by decide+kernel
theorem MZ: ∀k,k<10->yB (Dt.dg k)=true/\EA (Dt.dg k)=false:=by decide+kernel
theorem iM(n:Nat): ∀c∈Dt.two n,yB c=true:=by
 intro c hc
 rw[Dt.fM]at hc
 rcases List.mem_cons.1 hc with e|e
 ·rw[e];exact(MZ _ (by omega)).1
 ·rw[List.mem_singleton.1 e];exact(MZ _ (by omega)).1
theorem dAU(k:Int):(∀c∈Dt.tE k,yB c=true/\EA c=false)/\Dt.tE k≠ []:=by
 obtain⟨h1,h2⟩:=qAh (k%7).toNat (by omega)
 refine⟨fun c hc=>?_,h2⟩
 have:=List.all_eq_true.1 h1 c hc
 rw[Bool.and_eq_true,Bool.not_eq_true']at this
 exact this
theorem kAQ {m:Int}(h1:1<=m)(h2:m<=12): ∀c∈Dt.mname m,yB c=true:=by
 intro c hc
 have:=List.all_eq_true.1 (kAR (m-1).toNat (by omega)) c hc
 rw[Bool.and_eq_true]at this
 exact this.1
theorem gAD {y m d:Int}(h:Dt.Is y m d)(k:Int)(n:Nat): ∀c∈Dt.zD y m d k n,yB c=true:=by
 intro c hc
 unfold Dt.zD Dt.clock at hc
 simp only[List.mem_append,List.mem_cons,List.not_mem_nil,or_false]at hc
 obtain⟨_,_,m1,m2,_,_⟩:=h
 rcases hc with e|e|e|e|e|e|e|(e|e)|e|(e|e|e|e|e)|e|e|e|e
 ·exact((dAU k).1 c e).1
 ·rw[e];decide
 ·rw[e];decide
 ·exact iM _ c e
 ·rw[e];decide
 ·exact kAQ m1 m2 c e
 ·rw[e];decide
 ·exact iM _ c e
 ·exact iM _ c e
 ·rw[e];decide
 ·exact iM _ c e
 ·rw[e];decide
 ·exact iM _ c e
 ·rw[e];decide
 ·exact iM _ c e
 ·rw[e];decide
 ·rw[e];decide
 ·rw[e];decide
 ·rw[e];decide
theorem gAH(y m d k:Int)(n:Nat):aE (Dt.zD y m d k n):=by
 refine⟨?_,?_⟩
 ·intro c hc
  obtain⟨h1,h2⟩:=dAU k
  unfold Dt.zD at hc
  cases e:Dt.tE k with
  |nil=>exact absurd e h2
  |cons x r=>
   rw[e,List.cons_append]at hc
   have ex:x=c:=zB2 hc
   rw[<-ex]
   exact(h1 x (by rw[e];exact List.mem_cons_self)).2
 ·intro c hc
  have e: ∃u,Dt.zD y m d k n=u++ [84]:=by
   unfold Dt.zD
   refine⟨Dt.tE k++44::32::(Dt.two d.toNat++32::(Dt.mname m++32::((Dt.two (y.toNat/100)++Dt.two (y.toNat%100))++32::(Dt.clock n++32:: [71,77])))),?_⟩
   simp only[List.append_assoc,List.cons_append,List.nil_append]
  obtain⟨u,e⟩:=e
  rw[e,List.getLast?_append]at hc
  have ex:(84:UInt8)=c:=zB2 hc
  rw[<-ex];decide
theorem zW {n:Int}(h: ∃t,Dt.civil (n/86400)=some t):(∀c∈Dt.text n,yB c=true)/\aE (Dt.text n)/\(Dt.text n).length=29/\Dt.kB (Dt.text n)=(n,true):=by
 obtain⟨⟨y,m,d⟩,h⟩:=h
 have hI:=(Dt.jH.1 h).1
 have hk:=Dt.gAl h
 have e:Dt.text n=Dt.zD y m d (n/86400) (n%86400).toNat:=by unfold Dt.text;rw[h]
 refine⟨?_,?_,?_,hk⟩<;>rw[e]
 ·exact gAD hI _ _
 ·exact gAH _ _ _ _ _
 ·exact Dt.gAF hI _ _
theorem QT {c:UInt8}(h:cB c=true):yB c=true/\EA c=false/\c≠45:=by
 have k:=zB1 h
 refine⟨SJ.2 ⟨zA8 (by omega),?_⟩,zA8 (by omega),?_⟩
 ·intro e;rw[e]at k;have:(59:UInt8).toNat=59:=rfl;omega
 ·intro e;rw[e]at k;have:(45:UInt8).toNat=45:=rfl;omega
theorem NT {n:Nat}(h:n<=34560000):(∀c∈Lib.decDigits n,yB c=true/\EA c=false)/\(Lib.decDigits n).length<=8/\jD (Lib.decDigits n)=some n:=by
 obtain⟨h1,h2,h3⟩:=Ur.dL n
 have hd: ∀c∈Lib.decDigits n,cB c=true:=fun c hc=>List.all_eq_true.1 h1 c hc
 refine⟨fun c hc=>⟨(QT (hd c hc)).1,(QT (hd c hc)).2.1⟩,Ur.OJ 8 n (by omega) (by omega),?_⟩
 unfold jD
 rw[if_neg ?_,if_pos ?_,h2]
 ·congr 1;omega
 ·unfold digits;rw[h1,zA9 h3];rfl
 ·intro e
  exact(QT (hd 45 (List.mem_of_mem_head? e))).2.2 rfl
theorem SZ {h:Head}(hg:Good h)(hne:h.domain≠ []):(∀c∈qC h.domain,yB c=true)/\aE (qC h.domain)/\(qC h.domain).length<=1024/\eC ((qC h.domain).map low)=h.domain:=by
 have n1:=hg.lH
 have hl:=hg.WP
 have hr:=hg.XP
 have hb:=hg.UP
 generalize h.domain=d at*
 unfold qC
 by_cases k:AE d=true
 ·rw[if_pos k]at n1⊢
  refine⟨?_,⟨?_,?_⟩,?_,?_⟩
  ·intro c hc
   rcases List.mem_cons.1 hc with e|e
   ·rw[e];decide
   ·exact hb c e
  ·intro c hc
   have e:(46:UInt8)=c:=zB2 hc
   rw[<-e];decide
  ·intro c hc
   cases d with
   |nil=>exact absurd rfl hne
   |cons x r=>rw[List.getLast?_cons_cons]at hc;exact hr c hc
  ·rw[zB5];exact n1
  ·rw[List.map_cons,hl];rfl
 ·rw[if_neg k]at n1⊢
  have k2: ¬(d.head?=some 46\/d.head?=some 32\/d.head?=some 9):=fun hh=>k (zA9 hh)
  refine⟨hb,⟨?_,hr⟩,by omega,?_⟩
  ·intro c hc
   unfold EA
   refine zA8 ?_
   intro hh
   rcases hh with hh|hh
   ·exact k2 (.inr (.inl (by rw[hc];congr 1;exact mB (by rw[hh];rfl))))
   ·exact k2 (.inr (.inr (by rw[hc];congr 1;exact mB (by rw[hh];rfl))))
  ·rw[hl]
   unfold eC
   rw[if_neg (fun hh=>k2 (.inl hh))]
theorem hAK {g:Head}{o:Option Int}(ho: ∀n,o=some n-> ∃t,Dt.civil (n/86400)=some t)(hg:g.exp=none):((PG o).map (32:: ·)).foldl attr g= {g with exp:=o} :=by
 cases o with
 |none=>
  obtain⟨a,b,c,d,e,f,i,j,k⟩:=g
  have:e=none:=hg
  subst this
  rfl
 |some n=>
  obtain⟨_,h2,h3,h4⟩:=zW (ho n rfl)
  show attr g (32::(QR++61::Dt.text n))=_
  rw[pN g (by decide) (sI (by decide)) h2,show QR.map low=GG from by decide,PV g (by omega),h4]
  rfl
theorem hAH {g:Head}{o:Option Nat}(ho: ∀n,o=some n->n<=34560000)(hg:g.age=none):((BH o).map (32:: ·)).foldl attr g= {g with age:=o} :=by
 cases o with
 |none=>
  obtain⟨a,b,c,d,e,f,i,j,k⟩:=g
  have:f=none:=hg
  subst this
  rfl
 |some n=>
  obtain⟨h1,h2,h3⟩:=NT (ho n rfl)
  show attr g (32::(vO++61::Lib.decDigits n))=_
  rw[pN g (by decide) (sI (by decide)) (sI fun c hc=>(h1 c hc).2),show vO.map low=EG from by decide,LV g (by omega),h3]
theorem hAJ {g h:Head}(hh:Good h)(hg:g.domain= []):((OG h.domain).map (32:: ·)).foldl attr g= {g with domain:=h.domain} :=by
 unfold OG
 split
 ·rename_i e
  rw[e]
  obtain⟨a,b,c,d,e,f,i,j,k⟩:=g
  have:c= []:=hg
  subst this
  rfl
 ·rename_i hne
  obtain⟨_,h2,h3,h4⟩:=SZ hh hne
  show attr g (32::(wO++61::qC h.domain))=_
  rw[pN g (by decide) (sI (by decide)) h2,show wO.map low=FG from by decide,MV g h3,h4]
theorem mA3 {h:Head}(hh:Good h)(hne:h.path≠ []):h.path.head?=some 47/\aE h.path:=by
 have e:=hh.iO.resolve_left hne
 refine⟨e,⟨?_,hh.iR⟩⟩
 intro c hc
 rw[e]at hc
 have:(47:UInt8)=c:=zB2 hc
 rw[<-this];decide
theorem hAO {g h:Head}(hh:Good h)(hg:g.path= []):((partPath h.path).map (32:: ·)).foldl attr g= {g with path:=h.path} :=by
 unfold partPath
 split
 ·rename_i e
  rw[e]
  obtain⟨a,b,c,d,e,f,i,j,k⟩:=g
  have:d= []:=hg
  subst this
  rfl
 ·rename_i hne
  obtain⟨h1,h2⟩:=mA3 hh hne
  show attr g (32::(yO++61::h.path))=_
  rw[pN g (by decide) (sI (by decide)) h2,show yO.map low=wH from by decide,cA5 g hh.ZI,if_pos h1]
theorem hAQ {g:Head}{b:Bool}(hg:g.secure=false):((mI b).map (32:: ·)).foldl attr g= {g with secure:=b} :=by
 cases b with
 |false=>
  obtain⟨a,b,c,d,e,f,i,j,k⟩:=g
  have:i=false:=hg
  subst this
  rfl
 |true=>
  show attr g (32::zO)=_
  rw[EY g (by decide) (sI (by decide)),show zO.map low=xH from by decide,cA7 g (by decide)]
theorem hAN {g:Head}{b:Bool}(hg:g.only=false):((lI b).map (32:: ·)).foldl attr g= {g with only:=b} :=by
 cases b with
 |false=>
  obtain⟨a,b,c,d,e,f,i,j,k⟩:=g
  have:j=false:=hg
  subst this
  rfl
 |true=>
  show attr g (32::xO)=_
  rw[EY g (by decide) (sI (by decide)),show xO.map low=vH from by decide,cA3 g (by decide)]
theorem cAT: ∀n,n<=3->n≠0->iF ((bJ n).map low)=n/\(bJ n).length<=1024/\((bJ n).all fun c=>yB c&& !EA c)=true:=by decide+kernel
theorem cAU {n:Nat}(h:n<=3)(h0:n≠0): ∀c∈bJ n,yB c=true/\EA c=false:=by
 intro c hc
 have:=List.all_eq_true.1 (cAT n h h0).2.2 c hc
 rw[Bool.and_eq_true,Bool.not_eq_true']at this
 exact this
theorem hAR {g:Head}{n:Nat}(hn:n<=3)(hg:g.same=0):((DH n).map (32:: ·)).foldl attr g= {g with same:=n} :=by
 unfold DH
 split
 ·rename_i e
  subst e
  obtain⟨a,b,c,d,e,f,i,j,k⟩:=g
  have:k=0:=hg
  subst this
  rfl
 ·rename_i h0
  obtain⟨h1,h2,_⟩:=cAT n hn h0
  show attr g (32::(AO++61::bJ n))=_
  rw[pN g (by decide) (sI (by decide)) (sI fun c hc=>(cAU hn h0 c hc).2),show AO.map low=yH from by decide,cA9 g h2,h1]
theorem VN {k v:List UInt8}(hk:(k.all yB)=true)(hv: ∀c∈v,yB c=true): ∀c∈k++61::v,yB c=true:=by
 intro c hc
 rcases List.mem_append.1 hc with e|e
 ·exact List.all_eq_true.1 hk c e
 ·rcases List.mem_cons.1 e with e|e
  ·rw[e];decide
  ·exact hv c e
theorem lAT {h:Head}(hg:Good h): ∀p∈parts h,∀c∈p,yB c=true:=by
 intro p hp
 unfold parts at hp
 simp only[List.mem_append]at hp
 rcases hp with e|e|e|e|e|e|e
 ·unfold PG at e
  split at e
  ·rename_i n hn
   rw[List.mem_singleton.1 e]
   exact VN (by decide) (zW (hg.exp n hn)).1
  ·cases e
 ·unfold BH at e
  split at e
  ·rename_i n hn
   rw[List.mem_singleton.1 e]
   exact VN (by decide) (fun c hc=>((NT (hg.age n hn)).1 c hc).1)
  ·cases e
 ·unfold OG at e
  split at e
  ·cases e
  ·rename_i hne
   rw[List.mem_singleton.1 e]
   exact VN (by decide) (SZ hg hne).1
 ·unfold partPath at e
  split at e
  ·cases e
  ·rw[List.mem_singleton.1 e]
   exact VN (by decide) hg.gR
 ·unfold mI at e
  split at e
  ·rw[List.mem_singleton.1 e]
   exact fun c hc=>List.all_eq_true.1 (show(zO.all yB)=true by decide) c hc
  ·cases e
 ·unfold lI at e
  split at e
  ·rw[List.mem_singleton.1 e]
   exact fun c hc=>List.all_eq_true.1 (show(xO.all yB)=true by decide) c hc
  ·cases e
 ·unfold DH at e
  split at e
  ·cases e
  ·rename_i h0
   rw[List.mem_singleton.1 e]
   exact VN (by decide) (fun c hc=>(cAU hg.same h0 c hc).1)
theorem bAP {h:Head}(hg:Good h):parse (text h)=(0,h):=by
 have hpf:=lAT hg
 have hname: ∀c∈h.name++61::h.value,yB c=true:=by
  intro c hc
  rcases List.mem_append.1 hc with e|e
  ·exact hg.bAe c e
  ·rcases List.mem_cons.1 e with e|e
   ·rw[e];decide
   ·exact hg.dAL c e
 refine bAQ.2 ⟨?_,?_⟩
 ·rw[List.any_eq_false]
  intro c hc
  have:kD c=false:=by
   unfold text joined at hc
   rcases List.mem_append.1 hc with e|e
   ·exact(SJ.1 (hname c e)).1
   ·obtain⟨p,hp,hcp⟩:=List.mem_flatMap.1 e
    rcases List.mem_cons.1 hcp with e|e
    ·rw[e];decide
    rcases List.mem_cons.1 e with e|e
    ·rw[e];decide
    ·exact(SJ.1 (hpf p hp c e)).1
  rw[this];simp
 ·have hs:split 59 (text h)=(h.name++61::h.value)::(parts h).map (32:: ·):=
   dA0 (parts h) _ (fun c hc=>(SJ.1 (hname c hc)).2) (fun p hp c hc=>(SJ.1 (hpf p hp c hc)).2)
  have aAb:pair (h.name++61::h.value)=(h.name,h.value):=by
   obtain⟨e1,e2⟩:=wY hg.sign h.value
   unfold pair
   rw[if_pos (by simp),e1,e2,uO hg.name,uO hg.value]
  rw[hs]
  unfold said
  dsimp only
  rw[aAb,if_neg hg.some_,if_neg (by have:=hg.few;dsimp only;omega)]
  congr 1
  have hst:start (h.name++61::h.value)= {zero with name:=h.name,value:=h.value} :=by unfold start;rw[aAb]
  rw[hst]
  unfold parts
  simp only[List.map_append,List.foldl_append]
  rw[hAK hg.exp rfl,hAH hg.age rfl,hAJ hg rfl,hAO hg rfl,hAQ rfl,hAN rfl,hAR hg.same rfl]
end Hd
end Go.Proofs.YtabgoobcliijeaaGreatDoor
namespace Go.Proofs.YtabgoobcliijeaaGreatDoor
namespace Hd
open Oct
end Hd
end Go.Proofs.YtabgoobcliijeaaGreatDoor
namespace Go.Proofs.YtabgoobcliijeaaGreatDoor
namespace Hd
open Oct
def ZC(a c:UInt8):Bool:=decide (c≠a)
def qE(l:List UInt8):List UInt8:=l.takeWhile (ZC 59)
def gF(l:List UInt8):List UInt8:=(l.dropWhile (ZC 59)).drop 1
theorem hAs(a c:UInt8)(l:List UInt8):Ur.find (c::l) [a]=if c=a then 0 else Ur.find l [a]+1:=by
 unfold Ur.find
 rw[List.findIdx_cons]
 by_cases h:c=a
 ·subst h;simp
 ·have e:([a]:List UInt8).contains c=false:=by simp[h]
  rw[e,if_neg h];rfl
theorem J3(a:UInt8): ∀l:List UInt8,l.take (Ur.find l [a])=l.takeWhile (ZC a)/\l.drop (Ur.find l [a])=l.dropWhile (ZC a)/\(Ur.find l [a]<l.length↔a∈l)
 | []=>by simp[Ur.find]
 |c::l=>by
  obtain⟨h1,h2,h3⟩:=J3 a l
  rw[hAs]
  by_cases h:c=a
  ·subst h
   rw[if_pos rfl,List.takeWhile_cons_of_neg (by simp[ZC]),List.dropWhile_cons_of_neg (by simp[ZC])]
   simp
  ·rw[if_neg h,List.takeWhile_cons_of_pos (by simp[ZC,h]),List.dropWhile_cons_of_pos (by simp[ZC,h]),List.take_succ_cons,List.drop_succ_cons,h1,h2]
   refine⟨rfl,rfl,?_⟩
   rw[zB5,List.mem_cons]
   constructor
   ·intro k;exact .inr (h3.1 (by omega))
   ·rintro(k|k)
    ·exact absurd k.symm h
    ·have:=h3.2 k;omega
theorem CR {a:UInt8} : ∀ {l:List UInt8},a∉l->l.takeWhile (ZC a)=l/\l.dropWhile (ZC a)= []
 | [],_=>⟨rfl,rfl⟩
 |c::l,h=>by
  have hc:c≠a:=fun e=>h (by rw[e];exact List.mem_cons_self)
  obtain⟨h1,h2⟩:=CR (a:=a) (l:=l) (fun k=>h (List.mem_cons_of_mem _ k))
  rw[List.takeWhile_cons_of_pos (by simp[ZC,hc]),List.dropWhile_cons_of_pos (by simp[ZC,hc]),h1,h2]
  exact⟨rfl,rfl⟩
theorem IT(a:UInt8)(l:List UInt8):Lib.cut l [a]=(l.takeWhile (ZC a),(l.dropWhile (ZC a)).drop 1,decide (a∈l)):=by
 obtain⟨h1,h2,h3⟩:=J3 a l
 rw[Ur.gAu]
 by_cases h:a∈l
 ·rw[if_pos (h3.2 h),<-h1,<-h2,List.drop_drop,zA9 h]
 ·obtain⟨e1,e2⟩:=CR h
  rw[if_neg (fun k=>h (h3.1 k)),e1,e2,zA8 h];rfl
theorem bAq:ZC 61=MB:=by funext c;rfl
theorem gAx(l:List UInt8):trim (Lib.cut l [61]).1=ahead l/\trim (Lib.cut l [61]).2.1=behind l/\(Lib.cut l [61]).2.2=decide (61∈l):=by
 rw[IT,bAq]
 exact⟨rfl,rfl,rfl⟩
theorem xZ(l:List UInt8):(Lib.cut l [59]).1=qE l/\(Lib.cut l [59]).2.1=gF l:=by
 rw[IT]
 exact⟨rfl,rfl⟩
theorem bAT(l:List UInt8):(qE l).length<=l.length:=(List.takeWhile_prefix _).length_le
theorem cAA: ∀l:List UInt8,(gF l).length<=l.length-1
 | []=>by simp[gF]
 |c::l=>by
  have:=(List.dropWhile_suffix (ZC 59) (l:=c::l)).length_le
  unfold gF
  rw[List.length_drop];omega
theorem mW: ∀l:List UInt8,split 59 l=qE l::(if 59∈l then split 59 (gF l)else [])
 | []=>rfl
 |c::l=>by
  rw[ND]
  by_cases h:c=59
  ·subst h
   rw[if_pos rfl,if_pos List.mem_cons_self]
   unfold qE gF
   rw[List.takeWhile_cons_of_neg (by simp[ZC]),List.dropWhile_cons_of_neg (by simp[ZC])]
   rfl
  ·rw[if_neg h,mW l]
   unfold qE gF
   rw[List.takeWhile_cons_of_pos (by simp[ZC,h]),List.dropWhile_cons_of_pos (by simp[ZC,h])]
   by_cases k:59∈l
   ·rw[if_pos k,if_pos (List.mem_cons_of_mem _ k)]
   ·rw[if_neg k,if_neg (fun q=>by
     rcases List.mem_cons.1 q with e|e
     ·exact h e.symm
     ·exact k e)]
theorem cAB {l:List UInt8}(h:59∉l):gF l= []:=by
 unfold gF
 rw[(CR h).2];rfl
theorem fAl(h:Head):attr h []=h:=by
 unfold attr
 exact QV h (by decide)
theorem zN(h:Head):(split 59 []).foldl attr h=h:=fAl h
theorem hAP(h:Head)(l:List UInt8):(split 59 l).foldl attr h=(split 59 (gF l)).foldl attr (attr h (qE l)):=by
 rw[mW l,List.foldl_cons]
 split
 ·rfl
 ·rename_i k
  rw[cAB k,zN];rfl
theorem nAH(s:List UInt8):said (split 59 s)=if(pair (qE s)).1= []/\(pair (qE s)).2= []then(82,zero)else if 4096<(pair (qE s)).1.length+(pair (qE s)).2.length then(83,zero)else(0,(split 59 (gF s)).foldl attr (start (qE s))):=by
 rw[mW s]
 unfold said
 dsimp only
 by_cases k:59∈s
 ·rw[if_pos k]
 ·rw[if_neg k,cAB k,zN];rfl
theorem FY(h:Head){p:List UInt8}(hv:1024<(behind p).length):attr h p=h:=by unfold attr;exact mAn h hv
theorem GY(h:Head)(p:List UInt8):attr h p=put h ((ahead p).map low) (behind p):=rfl
theorem tO(l:List UInt8):(trim l).length<=l.length:=by
 unfold trim
 have h1:=(tT (l.dropWhile EA)).length_le
 have h2:=(List.dropWhile_suffix EA (l:=l)).length_le
 omega
theorem vY(l:List UInt8):(ahead l).length<=l.length:=by
 unfold ahead
 have h1:=tO (l.takeWhile MB)
 have h2:=(List.takeWhile_prefix MB (l:=l)).length_le
 omega
theorem fAs(l:List UInt8):(behind l).length<=l.length:=by
 unfold behind
 have h1:=tO ((l.dropWhile MB).drop 1)
 have h2:=(List.dropWhile_suffix MB (l:=l)).length_le
 rw[List.length_drop]at h1
 omega
theorem fAx(l:List UInt8):(ahead l).length+(behind l).length<=l.length:=by
 unfold ahead behind
 have h1:=tO (l.takeWhile MB)
 have h2:=tO ((l.dropWhile MB).drop 1)
 have h3:=congrArg List.length (List.takeWhile_append_dropWhile (p:=MB) (l:=l))
 rw[zB4]at h3
 rw[List.length_drop]at h2
 omega
theorem bAN(l:List UInt8):(pair l).1.length+(pair l).2.length<=l.length:=by
 unfold pair
 split
 ·exact fAx l
 ·have:=tO l
  dsimp only[List.length_nil];omega
theorem bAO {l:List UInt8}(h:61∈l):pair l=(ahead l,behind l):=by unfold pair;rw[if_pos h]
theorem bAM {l:List UInt8}(h:61∉l):pair l=([],ahead l):=by
 unfold pair
 rw[if_neg h]
 obtain⟨h1,_⟩:=CR h
 unfold ahead
 rw[<-bAq,h1]
theorem kAv(c:UInt8):low c=46↔c=46:=by
 constructor
 ·intro h
  have e:=congrArg UInt8.toNat h
  rw[JG]at e
  have k:(46:UInt8).toNat=46:=rfl
  rw[k]at e
  apply mB
  rw[k]
  split at e<;>omega
 ·intro h;rw[h];decide
theorem pAM(v:List UInt8):eC (v.map low)=(eC v).map low:=by
 unfold eC
 cases v with
 |nil=>rfl
 |cons c r=>
  rw[List.map_cons,List.head?_cons,List.head?_cons]
  by_cases h:c=46
  ·rw[if_pos (by rw[h];rfl),if_pos (by rw[h])];rfl
  ·rw[if_neg (fun k=>h ((kAv c).1 (zB2 k))),if_neg (fun k=>h (zB2 k))];rfl
theorem rU(c:UInt8)(v:List UInt8):Lib.hasPrefix v [c]=decide (v.head?=some c):=by
 cases v with
 |nil=>rfl
 |cons x r=>
  unfold Lib.hasPrefix
  rw[List.isPrefixOf_cons_cons,List.isPrefixOf_nil_left,Bool.and_true,List.head?_cons]
  by_cases h:c=x
  ·subst h;rw[beq_self_eq_true,zA9 rfl]
  ·rw[beq_false_of_ne h,zA8 (fun k=>h (zB2 k).symm)]
theorem dAw(c:UInt8)(v:List UInt8):Lib.trimPrefix v [c]=if v.head?=some c then v.drop 1 else v:=by
 unfold Lib.trimPrefix
 rw[rU]
 by_cases h:v.head?=some c
 ·rw[zA9 h,if_pos rfl,if_pos h];rfl
 ·rw[zA8 h,if_neg (by simp),if_neg h]
theorem pAN(v:List UInt8):Lib.trimPrefix v [46]=eC v:=dAw 46 v
theorem pAL(v:List UInt8):(eC v).length<=v.length:=by
 unfold eC
 split
 ·rw[List.length_drop];omega
 ·exact zB3 _
theorem tY {v:List UInt8}(h:v.head?=some 45):jD v=if digits (v.drop 1)=true then some 0 else none:=by unfold jD;rw[if_pos h]
theorem uY {v:List UInt8}(h:v.head?≠some 45):jD v=if digits v=true then some (min (numOf v) 34560000)else none:=by unfold jD;rw[if_neg h]
def held(l:List UInt8)(k:Nat):Nat:=min (numOf (l.take k)) 34560000
theorem Q9(l:List UInt8):held l 0=0:=by simp[held,numOf]
theorem M9(l:List UInt8)(k:Nat):held l k<=34560000:=by unfold held;omega
theorem N9(s:ByteArray)(k:Nat)(h:k<s.size):held s.data.toList (k+1)=min (held s.data.toList k*10+(s[k].toNat-48)) 34560000:=by
 unfold held
 rw[LL s k h]
 omega
theorem J9(s:ByteArray)(k:Nat)(h:s.size<=k):held s.data.toList k=min (numOf s.data.toList) 34560000:=by unfold held;rw[vD s k h]
def WD:List (List UInt8):= [[],vK,fJ,wI]
theorem nAL(v:List UInt8):iF (v.map low)=if kC v []=true then 0 else if kC v vK=true then 1 else if kC v fJ=true then 2 else if kC v wI=true then 3 else 0:=by
 unfold kC
 simp only[decide_eq_true_eq]
 rw[show vK.map low=sR from by decide,show fJ.map low=rR from by decide,show wI.map low=tR from by decide,show([]:List UInt8).map low= [] from rfl]
 generalize v.map low=u
 by_cases h:u= []
 ·subst h;decide
 ·rw[if_neg h];rfl
theorem jAZ(k:List UInt8){w x:List UInt8}(h:w.map low=x):kC k w=decide (k.map low=x):=by unfold kC;rw[h]
theorem aAF(a b:List UInt8):Lib.join [a,b] [61]=a++61::b:=by simp[Lib.join,List.intercalate,List.intersperse]
theorem join_one(a:List UInt8):Lib.join [a] [61]=a:=by simp[Lib.join,List.intercalate,List.intersperse]
theorem join_cons(a:List UInt8): ∀ps:List (List UInt8),Lib.join (a::ps) [59,32]=a++joined ps
 | []=>by simp[Lib.join,List.intercalate,List.intersperse,joined]
 |p::ps=>by
  have ih:=join_cons p ps
  unfold Lib.join List.intercalate at ih⊢
  simp only[List.intersperse,List.flatten_cons]at ih⊢
  rw[ih]
  simp[joined]
theorem dAg(h:Head):Lib.join ((h.name++61::h.value)::parts h) [59,32]=text h:=join_cons _ _
theorem kAu(d:List UInt8):(Lib.trimLeftS d [46,32,9]=d↔AE d=false):=by
 unfold Lib.trimLeftS AE
 rw[decide_eq_false_iff_not]
 cases d with
 |nil=>simp
 |cons c r=>
  by_cases h:c=46\/c=32\/c=9
  ·rw[List.dropWhile_cons_of_pos (by simpa using h)]
   constructor
   ·intro k
    have l1:=(List.dropWhile_suffix (fun x=>([46,32,9]:List UInt8).contains x) (l:=r)).length_le
    have l2:=congrArg List.length k
    rw[zB5]at l2
    omega
   ·intro k
    exact absurd (by simpa using h) k
  ·rw[List.dropWhile_cons_of_neg (by simpa using h)]
   simpa using h
structure Small(h:Head):Prop where
 name:h.name.length<=4096
 value:h.value.length<=4096
 domain:h.domain.length<=1024
 path:h.path.length<=1024
 same:h.same<=3
theorem N5 {h:Head}(g:Good h):Small h:=by
 have h1:=g.few
 have h2:=g.lH
 have h3:=g.ZI
 exact⟨by omega,by omega,by split at h2<;>omega,h3,g.same⟩
theorem rO {n:Int}(h: ∃t,Dt.civil (n/86400)=some t):(Dt.text n).length=29:=(zW h).2.2.1
end Hd
end Go.Proofs.YtabgoobcliijeaaGreatDoor
namespace Go.Proofs.YtabgoobcliijeaaGreatDoor
open Go.RowKit
def headA(h:Hd.Head):Array Value:= #[lA h.name,lA h.value,lA h.domain,lA h.path,.bool h.exp.isSome,.int .i64 (h.exp.getD 0),.bool h.age.isSome,.int .i64 ((h.age.getD 0:Nat):Int),.bool h.secure,.bool h.only,.int .i64 (h.same:Int)]
theorem iAK(h:Hd.Head):(headA h).size=11:=rfl
theorem DC(h:Hd.Head):(headA h).all (·.oneCell')=true:=by simp[headA,lA,Value.oneCell']
theorem WA:(Tryz.prog.info? 35).map (·.size)=some 11:=by kernel_rfl
theorem jG: #[Value.string ⟨#[]⟩,.string ⟨#[]⟩,.string ⟨#[]⟩,.string ⟨#[]⟩,.bool false,.int .i64 0,.bool false,.int .i64 0,.bool false,.bool false,.int .i64 0]=headA Hd.zero:=rfl
theorem fAF:Tryz.prog.built 35 []=some (headA Hd.zero):=by kernel_rfl
theorem SY(n v:ByteArray):Tryz.prog.built 35 [(0,.string n),(1,.string v)]=some (headA {Hd.zero with name:=n.data.toList,value:=v.data.toList}):=by kernel_rfl
theorem UT {P:Program}{d:Nat}{cs:Array Value}{W:World} : ∀fs:List Field,(∀f∈fs,f.name≠ "_" /\ ∃v,(part f.type cs f.offset).run P W= .ok v W/\(Op.equalIn d f.type v v).run P W= .ok true W)->(Op.eqFields d cs cs fs).run P W= .ok true W
 | [],_=>by simp[Op.eqFields]
 |f::fs,h=>by
  obtain⟨h1,v,h2,h3⟩:=h f (by simp)
  have ih:=UT (P:=P) (d:=d) (cs:=cs) (W:=W) fs (fun g hg=>h g (by simp[hg]))
  simp only[Op.eqFields,Sem.run_bind,h1,h2,h3,Result.andThen_ok,Sem.run_ite,Sem.run_pure,ne_eq,not_false_eq_true,if_true,ih]
  rfl
theorem hAj(h:Hd.Head)(W:World):(Op.equalIn 10000 35 (.agg (headA h)) (.agg (headA h))).run Tryz.prog W= .ok true W:=by
 obtain⟨fs,hf,hall⟩: ∃fs:Array Field,Tryz.prog.underlying 35=some (.struct fs)/\ ∀f∈fs.toList,f.name≠ "_" /\ ∃v,(part f.type (headA h) f.offset).run Tryz.prog W= .ok v W/\(Op.equalIn 9999 f.type v v).run Tryz.prog W= .ok true W:=by
  refine⟨_,Tryz.underlying35,?_⟩
  have ks: ∀s:List UInt8,(Op.equalIn 9999 9 (lA s) (lA s)).run Tryz.prog W= .ok true W:=fun s=>by
   unfold lA
   rw[run_equalIn_string W 9998 9 _ _ Tryz.underlying9]
   simp
  have kb: ∀b:Bool,(Op.equalIn 9999 4 (.bool b) (.bool b)).run Tryz.prog W= .ok true W:=fun b=>by
   rw[run_equalIn_bool' W 9998 4 _ _ Tryz.underlying4]
   simp
  have ki: ∀b:Int,(Op.equalIn 9999 2 (.int .i64 b) (.int .i64 b)).run Tryz.prog W= .ok true W:=fun b=>by
   rw[run_equalIn_int W 9998 2 .i64 .i64 _ _ Tryz.underlying2]
   simp
  have kn: ∀b:Int,(Op.equalIn 9999 3 (.int .i64 b) (.int .i64 b)).run Tryz.prog W= .ok true W:=fun b=>by
   rw[run_equalIn_int W 9998 3 .i64 .i64 _ _ Tryz.underlying3]
   simp
  have ps: ∀i v,(headA h)[i]? =some v->(part 9 (headA h) i).run Tryz.prog W= .ok v W:=fun i v hv=>run_part_plain W (by kernel_rfl) hv
  have pb: ∀i v,(headA h)[i]? =some v->(part 4 (headA h) i).run Tryz.prog W= .ok v W:=fun i v hv=>run_part_plain W (by kernel_rfl) hv
  have pi: ∀i v,(headA h)[i]? =some v->(part 2 (headA h) i).run Tryz.prog W= .ok v W:=fun i v hv=>run_part_plain W (by kernel_rfl) hv
  have pn: ∀i v,(headA h)[i]? =some v->(part 3 (headA h) i).run Tryz.prog W= .ok v W:=fun i v hv=>run_part_plain W (by kernel_rfl) hv
  intro f hfm
  simp only[List.mem_cons,List.not_mem_nil,or_false]at hfm
  rcases hfm with rfl|rfl|rfl|rfl|rfl|rfl|rfl|rfl|rfl|rfl|rfl
  ·exact⟨by decide,_,ps 0 _ rfl,ks _⟩
  ·exact⟨by decide,_,ps 1 _ rfl,ks _⟩
  ·exact⟨by decide,_,ps 2 _ rfl,ks _⟩
  ·exact⟨by decide,_,ps 3 _ rfl,ks _⟩
  ·exact⟨by decide,_,pb 4 _ rfl,kb _⟩
  ·exact⟨by decide,_,pi 5 _ rfl,ki _⟩
  ·exact⟨by decide,_,pb 6 _ rfl,kb _⟩
  ·exact⟨by decide,_,pi 7 _ rfl,ki _⟩
  ·exact⟨by decide,_,pb 8 _ rfl,kb _⟩
  ·exact⟨by decide,_,pb 9 _ rfl,kb _⟩
  ·exact⟨by decide,_,pn 10 _ rfl,kn _⟩
 have hl:Tryz.prog.fieldsOf 35=fs:=by unfold Program.fieldsOf;rw[hf]
 rw[run_equalIn_struct W 9999 35 _ _ (by rw[hl];exact hf) (by kernel_rfl),hl]
 exact UT fs.toList hall
theorem hAm(h:Hd.Head)(W:World):(binOp .eql 35 (.agg (headA h)) (.agg (headA h))).run Tryz.prog W= .ok (.bool true) W:=by
 rw[run_eql_struct,hAj h W];rfl
structure QB(g:Nat)(h:Hd.Head)(w w':World):Prop where
 row:Row w' g 35 (headA h)
 below:Below g w w'
section
variable {g:Nat} {h h':Hd.Head} {w w' w'':World}
theorem QB.on (k:QB g h w w')(hb:Below w'.heap.size w' w''):QB g h w w'':=⟨k.row.stays hb,k.below.trans (hb.mono (Nat.le_of_lt k.row.lt))⟩
theorem QB.cell (k:QB g h w w')(i:Nat):w'.cell? ⟨g,i,none⟩=(headA h)[i]? :=k.row.cell i
theorem QB.free (k:QB g h w w')(i:Nat):w'.frozen? ⟨g,i,none⟩=false:=k.row.free i
theorem QB.one (k:QB g h w w'){i:Nat}{u:Value}(e:(headA h).setIfInBounds i u=headA h'):QB g h' w (w'.setCell ⟨g,i,none⟩ u):=
 ⟨by have:=k.row.set i u;rw[e]at this;exact this,k.below.setCell (p:=⟨g,i,none⟩) (zB3 _) u⟩
theorem QB.two (k:QB g h w w'){i j:Nat}{u v:Value}(e:((headA h).setIfInBounds i u).setIfInBounds j v=headA h'):QB g h' w ((w'.setCell ⟨g,i,none⟩ u).setCell ⟨g,j,none⟩ v):=
 ⟨by have:=(k.row.set i u).set j v;rw[e]at this;exact this,(k.below.setCell (p:=⟨g,i,none⟩) (zB3 _) u).setCell (p:=⟨g,j,none⟩) (zB3 _) v⟩
end
theorem Y8(h:Hd.Head)(n:Int):((headA h).setIfInBounds 4 (.bool true)).setIfInBounds 5 (.int .i64 n)=headA {h with exp:=some n} :=rfl
theorem X8(h:Hd.Head)(n:Nat):((headA h).setIfInBounds 6 (.bool true)).setIfInBounds 7 (.int .i64 (n:Int))=headA {h with age:=some n} :=rfl
theorem iAM(h:Hd.Head)(d:List UInt8):(headA h).setIfInBounds 2 (.string ⟨d.toArray⟩)=headA {h with domain:=d} :=rfl
theorem iAP(h:Hd.Head)(d:List UInt8):(headA h).setIfInBounds 3 (.string ⟨d.toArray⟩)=headA {h with path:=d} :=rfl
theorem G9(h:Hd.Head):(headA h).setIfInBounds 8 (.bool true)=headA {h with secure:=true} :=rfl
theorem D9(h:Hd.Head):(headA h).setIfInBounds 9 (.bool true)=headA {h with only:=true} :=rfl
theorem iAQ(h:Hd.Head)(n:Nat):(headA h).setIfInBounds 10 (.int .i64 (n:Int))=headA {h with same:=n} :=rfl
def JI(o:Int×Hd.Head)(w:World)(e:Ending)(w':World):Prop:=e= .returned (.tuple #[.agg (headA o.2),.int .i64 o.1])/\Below w.heap.size w w'
structure uB(w:World):Prop where
 UE:mC w
 same:w.var? Tryz.prog "cracknel/header.sameNames" =some (GA Hd.WD)
theorem eQ:Tryz.prog.globalNamed "cracknel/header.sameNames" =some 2:=by kernel_rfl
theorem uB.below {w w':World}(h:uB w)(hb:Below w.heap.size w w'):uB w':=⟨h.UE.below hb,Go.Joins.var_stays eQ h.same hb (zB3 _)⟩
theorem uB.word {w:World}(h:uB w){i:Nat}{s:List UInt8}(hs:Hd.WD[i]? =some s):w.cell? ⟨2,i,none⟩=some (lA s):=by
 rw[World.var?_cell eQ h.same i,eJ,hs];rfl
theorem uB.row {w:World}(h:uB w): ∃t fr,w.heap[2]? =some (.cells (GA Hd.WD) t fr):=by
 have hn:=h.same
 unfold World.var? at hn
 rw[eQ]at hn
 dsimp only[Option.bind]at hn
 split at hn
 ·rename_i cs t fr hb
  cases hn
  exact⟨t,fr,hb⟩
 ·cases hn
end Go.Proofs.YtabgoobcliijeaaGreatDoor
namespace Go.Proofs.YtabgoobcliijeaaGreatDoor
open Go.ChangeShapes Go.WideShapes Go.ChangeAt Go.WideMaps Go.WideElems Go.RowKit
def rC:List (String×DataW Unit):= [("math/bits.deBruijn32tab",Rows.laid_math_bits_deBruijn32tab),("math/bits.deBruijn64tab",Rows.laid_math_bits_deBruijn64tab),("internal/strconv.uint64pow10",Rows.laid_internal_strconv_uint64pow10),("unicode/utf8.acceptRanges",Rows.laid_unicode_utf8_acceptRanges),("cracknel/date.monthLengths",Rows.laid_cracknel_date_monthLengths),("cracknel/date.monthNames",Rows.laid_cracknel_date_monthNames),("cracknel/date.weekDays",Rows.laid_cracknel_date_weekDays),("cracknel/header.sameNames",Rows.laid_cracknel_header_sameNames),("unicode/utf8.first",Rows.laid_unicode_utf8_first)]
theorem kAa:Rows.laid_cracknel_header_sameNames (H:=Unit)= .agg (Hd.WD.map fun s=> .lit (.string s)):=by rfl
theorem pL {W:World}(hL:laidMetH Tryz.prog rC W)(hS:W.ShapedOpen Tryz.prog):uB W:=by
 rw[MakeChecks.laidMetH_plain _ _ _ (by kernel_rfl)]at hL
 have h2:laidMet Tryz.prog (("math/bits.deBruijn64tab",Rows.laid_math_bits_deBruijn64tab):: [("internal/strconv.uint64pow10",Rows.laid_internal_strconv_uint64pow10),("unicode/utf8.acceptRanges",Rows.laid_unicode_utf8_acceptRanges),("cracknel/date.monthLengths",Rows.laid_cracknel_date_monthLengths),("cracknel/date.monthNames",Rows.laid_cracknel_date_monthNames),("cracknel/date.weekDays",Rows.laid_cracknel_date_weekDays),("cracknel/header.sameNames",Rows.laid_cracknel_header_sameNames),("unicode/utf8.first",Rows.laid_unicode_utf8_first)]) W:=laidMet.tail hL
 have h3:=laidMet.tail h2
 have h5:=laidMet.tail (laidMet.tail h3)
 have h6:=laidMet.tail h5
 have h7:=laidMet.tail h6
 have h8:=laidMet.tail h7
 rw[fAu]at h2
 rw[mAb]at h3
 rw[kAm]at h5
 rw[laidNames]at h6
 rw[kAb]at h7
 rw[kAa]at h8
 refine⟨⟨⟨cell_of_shapedOpen_int (zero:= #[.int .i64 0]) (t:=3) hS (zB1 (by kernel_rfl)) (by kernel_rfl) rfl (by kernel_rfl) (by kernel_rfl) Tryz.underlying3,?_,?_⟩,?_,?_,?_⟩,?_⟩
 ·exact Lib.tabIs_of_head Y4 (by kernel_rfl) Tryz.underlying222 Tryz.underlying201 (by kernel_rfl) (by kernel_rfl) h3
 ·have:=Lib.tabIs_of_head X4 (by kernel_rfl) Tryz.underlying232 Tryz.underlying5 (by kernel_rfl) (by kernel_rfl) h2
  exact this.cell X4 15 (by decide)
 ·exact Lib.tabIs_of_head YT (by kernel_rfl) Tryz.underlying220 Tryz.underlying3 (by kernel_rfl) (by kernel_rfl) h5
 ·exact NW dQ (by kernel_rfl) Tryz.underlying167 Tryz.underlying9 (by kernel_rfl) (by kernel_rfl) h6
 ·exact NW ZT (by kernel_rfl) Tryz.underlying166 Tryz.underlying9 (by kernel_rfl) (by kernel_rfl) h7
 ·exact NW eQ (by kernel_rfl) Tryz.underlying168 Tryz.underlying9 (by kernel_rfl) (by kernel_rfl) h8
end Go.Proofs.YtabgoobcliijeaaGreatDoor
