/- Plain functions on what a Set-Cookie header says, and plain lemmas on them. No program is named here. -/
import Derived.Test.YtdaaoopkkhfbhaaGreatDoorY2
import Derived.Laws.Runes
import Derived.WalkMore
import Derived.Lib.OthersKept
set_option maxHeartbeats 4000000
set_option maxRecDepth 100000
namespace Go.Proofs.YtdaaoopkkhfbhaaGreatDoor
namespace Hd
open Oct
def ED(c:UInt8):Bool:=decide (c.toNat<=8\/(10<=c.toNat/\c.toNat<=31)\/c.toNat=127)
def fD(c:UInt8):Bool:=decide (c≠61)
structure Head where
 name:List UInt8
 value:List UInt8
 domain:List UInt8
 path:List UInt8
 exp:Option Int
 age:Option Nat
 secure:Bool
 only:Bool
 same:Nat
 deriving DecidableEq
def zero:Head:=⟨[],[],[],[],none,none,false,false,0⟩
def ahead(l:List UInt8):List UInt8:=trim (l.takeWhile fD)
def behind(l:List UInt8):List UInt8:=trim ((l.dropWhile fD).drop 1)
def pair(l:List UInt8):List UInt8×List UInt8:=if 61∈l then(ahead l,behind l)else([],trim l)
def XC(v:List UInt8):Option Nat:=if v.head?=some 45 then(if digits (v.drop 1)=true then some 0 else none)else if digits v=true then some (min (numOf v) 34560000)else none
def pC(v:List UInt8):List UInt8:=if v.head?=some 46 then v.drop 1 else v
def oZ:List UInt8:= [110,111,110,101]
def nZ:List UInt8:= [108,97,120]
def pZ:List UInt8:= [115,116,114,105,99,116]
def KD(v:List UInt8):Nat:=if v=oZ then 1 else if v=nZ then 2 else if v=pZ then 3 else 0
def KG:List UInt8:= [101,120,112,105,114,101,115]
def JG:List UInt8:= [109,97,120,45,97,103,101]
def KH:List UInt8:= [100,111,109,97,105,110]
def MH:List UInt8:= [112,97,116,104]
def NH:List UInt8:= [115,101,99,117,114,101]
def LH:List UInt8:= [104,116,116,112,111,110,108,121]
def OH:List UInt8:= [115,97,109,101,115,105,116,101]
def put(h:Head)(k v:List UInt8):Head:=
 if 1024<v.length then h
 else if k=KG then(if(Dt.OA v).2=true then {h with exp:=some (Dt.OA v).1} else h)
 else if k=JG then(match XC v with|some n=> {h with age:=some n} |none=>h)
 else if k=KH then {h with domain:=pC (v.map low)}
 else if k=MH then {h with path:=if v.head?=some 47 then v else []}
 else if k=NH then {h with secure:=true}
 else if k=LH then {h with only:=true}
 else if k=OH then {h with same:=KD (v.map low)}
 else h
def attr(h:Head)(l:List UInt8):Head:=put h ((ahead l).map low) (behind l)
def start(p:List UInt8):Head:= {zero with name:=(pair p).1,value:=(pair p).2}
def said(ps:List (List UInt8)):Int×Head:=
 match ps with
 |p::r=>if(pair p).1= []/\(pair p).2= []then(82,zero)else if 4096<(pair p).1.length+(pair p).2.length then(83,zero)else(0,r.foldl attr (start p))
 | []=>(82,zero)
def parse(s:List UInt8):Int×Head:=if s.any ED=true then(81,zero)else said (split 59 s)
structure LC(l:List UInt8):Prop where
 left: ∀c,l.head?=some c->EA c=false
 right: ∀c,l.getLast?=some c->EA c=false
theorem NU {l:List UInt8}(h: ∀c,l.head?=some c->EA c=false):l.dropWhile EA=l:=by
 cases l with
 |nil=>rfl
 |cons c r=>rw[List.dropWhile_cons_of_neg (by rw[h c rfl];simp)]
theorem GP: ∀(l:List UInt8)(c:UInt8),(l.dropWhile EA).head?=some c->EA c=false
 | [],c,h=>by cases h
 |x::r,c,h=>by
  cases hx:EA x with
  |true=>rw[List.dropWhile_cons_of_pos hx]at h;exact GP r c h
  |false=>
   rw[List.dropWhile_cons_of_neg (by rw[hx];simp)]at h
   have e:x=c:=zB2 h
   rw[<-e];exact hx
theorem bAu {l:List UInt8}(h: ∀c,l.getLast?=some c->EA c=false):xC l=l:=by
 unfold xC
 rw[NU (fun c hc=>h c (by rw[List.head?_reverse]at hc;exact hc)),List.reverse_reverse]
theorem bAt(l:List UInt8)(c:UInt8)(h:(xC l).getLast?=some c):EA c=false:=by
 unfold xC at h
 rw[List.getLast?_reverse]at h
 exact GP _ c h
theorem oP(l:List UInt8):xC l<+:l:=by
 unfold xC
 have:=(List.dropWhile_suffix EA (l:=l.reverse))
 rw[<-List.reverse_prefix]at this
 rw[List.reverse_reverse]at this
 exact this
theorem SN(l:List UInt8):LC (trim l):=by
 refine⟨?_,fun c h=>bAt _ c h⟩
 intro c h
 unfold trim at h
 obtain⟨m,hm⟩:=oP (l.dropWhile EA)
 refine GP l c ?_
 rw[<-hm]
 cases e:xC (l.dropWhile EA)with
 |nil=>rw[e]at h;cases h
 |cons x r=>rw[e]at h;rw[List.cons_append];exact h
theorem aL {l:List UInt8}(h:LC l):trim l=l:=by
 unfold trim
 rw[NU h.left,bAu h.right]
theorem PR {l:List UInt8}{c:UInt8}(h:c∈trim l):c∈l:=by
 unfold trim at h
 exact(List.dropWhile_suffix _).mem ((oP _).mem h)
theorem lAE:LC []:=⟨fun _ h=>(by cases h),fun _ h=>(by cases h)⟩
theorem I2 {c:UInt8}(h:EA c=true)(l:List UInt8):trim (c::l)=trim l:=by
 unfold trim
 rw[List.dropWhile_cons_of_pos h]
theorem VQ(c:UInt8):fD c=true↔c≠61:=decide_eq_true_iff
theorem VZ: ∀ {a:List UInt8},(∀c∈a,c≠61)-> ∀v,(a++61::v).takeWhile fD=a/\(a++61::v).dropWhile fD=61::v
 | [],_,v=>⟨by rw[List.nil_append,List.takeWhile_cons_of_neg (by decide)],by rw[List.nil_append,List.dropWhile_cons_of_neg (by decide)]⟩
 |x::a,h,v=>by
  have hx:fD x=true:=(VQ x).2 (h x (by simp))
  obtain⟨h1,h2⟩:=VZ (a:=a) (fun c hc=>h c (by simp[hc])) v
  rw[List.cons_append,List.takeWhile_cons_of_pos hx,List.dropWhile_cons_of_pos hx,h1,h2]
  exact⟨rfl,rfl⟩
theorem TZ: ∀ {a:List UInt8},(∀c∈a,c≠61)->a.takeWhile fD=a/\a.dropWhile fD= []
 | [],_=>⟨rfl,rfl⟩
 |x::a,h=>by
  have hx:fD x=true:=(VQ x).2 (h x (by simp))
  obtain⟨h1,h2⟩:=TZ (a:=a) (fun c hc=>h c (by simp[hc]))
  rw[List.takeWhile_cons_of_pos hx,List.dropWhile_cons_of_pos hx,h1,h2]
  exact⟨rfl,rfl⟩
theorem SZ: ∀(l:List UInt8),∀c∈l.takeWhile fD,c≠61
 | [],c,h=>by cases h
 |x::r,c,h=>by
  cases hx:fD x with
  |true=>
   rw[List.takeWhile_cons_of_pos hx]at h
   rcases List.mem_cons.1 h with e|e
   ·rw[e];exact(VQ x).1 hx
   ·exact SZ r c e
  |false=>rw[List.takeWhile_cons_of_neg (by rw[hx];simp)]at h;cases h
theorem zT {a:List UInt8}(h: ∀c∈a,c≠61)(v:List UInt8):ahead (a++61::v)=trim a/\behind (a++61::v)=trim v:=by
 obtain⟨h1,h2⟩:=VZ h v
 unfold ahead behind
 rw[h1,h2]
 exact⟨rfl,rfl⟩
theorem aAA {a:List UInt8}(h: ∀c∈a,c≠61):ahead a=trim a/\behind a= []:=by
 obtain⟨h1,h2⟩:=TZ h
 unfold ahead behind
 rw[h1,h2]
 exact⟨rfl,rfl⟩
theorem aAz {l:List UInt8}{c:UInt8}(h:c∈ahead l):c∈l/\c≠61:=by
 unfold ahead at h
 have:=PR h
 exact⟨(List.takeWhile_prefix _).mem this,SZ l c this⟩
theorem MT {l:List UInt8}{c:UInt8}(h:c∈behind l):c∈l:=by
 unfold behind at h
 exact(List.dropWhile_suffix _).mem (List.mem_of_mem_drop (PR h))
theorem CZ(a:UInt8): ∀(l:List UInt8)(p:List UInt8),p∈split a l-> ∀c∈p,c∈l/\c≠a
 | [],p,hp,c,hc=>by
  rw[show split a []= [[]] from rfl,List.mem_singleton]at hp
  subst hp;cases hc
 |x::r,p,hp,c,hc=>by
  have ih:=CZ a r
  rw[DC]at hp
  split at hp
  ·rcases List.mem_cons.1 hp with e|e
   ·subst e;cases hc
   ·exact⟨List.mem_cons_of_mem _ (ih p e c hc).1,(ih p e c hc).2⟩
  ·rename_i hx
   split at hp
   ·rename_i e
    exact absurd e (ZF a r)
   ·rename_i q qs e
    rcases List.mem_cons.1 hp with e2|e2
    ·subst e2
     rcases List.mem_cons.1 hc with e3|e3
     ·subst e3;exact⟨List.mem_cons_self,hx⟩
     ·have:=ih q (by rw[e];exact List.mem_cons_self) c e3
      exact⟨List.mem_cons_of_mem _ this.1,this.2⟩
    ·have:=ih p (by rw[e];exact List.mem_cons_of_mem _ e2) c hc
     exact⟨List.mem_cons_of_mem _ this.1,this.2⟩
theorem GN(a:UInt8)(r:List UInt8): ∀l:List UInt8,split a (l++a::r)=split a l++split a r
 | []=>by rw[List.nil_append,DC,if_pos rfl];rfl
 |x::l=>by
  have ih:=GN a r l
  rw[List.cons_append,DC,DC,ih]
  split
  ·rfl
  ·cases e:split a l with
   |nil=>exact absurd e (ZF a l)
   |cons q qs=>rfl
theorem wY {s:List UInt8}{h:Head} :parse s=(0,h)↔s.any ED=false/\said (split 59 s)=(0,h):=by
 unfold parse
 constructor
 ·intro hp
  split at hp
  ·cases congrArg Prod.fst hp
  ·rename_i k
   exact⟨by simpa using k,hp⟩
 ·intro ⟨h1,h2⟩
  rw[if_neg (by rw[h1];simp),h2]
def gB(c:UInt8):Bool:= !ED c&&decide (c≠59)
theorem wH {c:UInt8} :gB c=true↔ED c=false/\c≠59:=by
 unfold gB
 rw[Bool.and_eq_true,Bool.not_eq_true',decide_eq_true_iff]
theorem gAt: ∀c:UInt8,gB c=true->gB (low c)=true:=by
 intro c
 by_cases k:65<=c.toNat/\c.toNat<=90
 ·intro _
  have e:(low c).toNat=c.toNat+32:=by rw[CE,if_pos k]
  refine wH.2 ⟨?_,?_⟩
  ·unfold ED;exact zA8 (by omega)
  ·intro h
   rw[h]at e
   have:(59:UInt8).toNat=59:=rfl
   omega
 ·intro h
  have e:low c=c:=by unfold low;rw[if_neg k]
  rw[e];exact h
theorem mX(c:UInt8):EA (low c)=EA c:=by
 by_cases k:65<=c.toNat/\c.toNat<=90
 ·have e:(low c).toNat=c.toNat+32:=by rw[CE,if_pos k]
  unfold EA
  rw[decide_eq_decide]
  omega
 ·have e:low c=c:=by unfold low;rw[if_neg k]
  rw[e]
def IF(l:List UInt8):Bool:=decide (l.head?=some 46\/l.head?=some 32\/l.head?=some 9)
structure Good(h:Head):Prop where
 name:LC h.name
 KX: ∀c∈h.name,gB c=true
 sign: ∀c∈h.name,c≠61
 value:LC h.value
 D5: ∀c∈h.value,gB c=true
 some_: ¬(h.name= []/\h.value= [])
 few:h.name.length+h.value.length<=4096
 gM: ∀c∈h.domain,gB c=true
 iM:h.domain.map low=h.domain
 jM: ∀c,h.domain.getLast?=some c->EA c=false
 tH:h.domain.length+(if IF h.domain=true then 1 else 0)<=1024
 pN: ∀c∈h.path,gB c=true
 qN:h.path= []\/h.path.head?=some 47
 rN: ∀c,h.path.getLast?=some c->EA c=false
 YH:h.path.length<=1024
 exp: ∀n,h.exp=some n-> ∃t,Dt.civil (n/86400)=some t
 age: ∀n,h.age=some n->n<=34560000
 same:h.same<=3
theorem bAO {v:List UInt8}(h:(Dt.OA v).2=true): ∃t,Dt.civil ((Dt.OA v).1/86400)=some t:=by
 unfold Dt.OA at h⊢
 unfold Dt.moment at h⊢
 split at h
 ·rename_i a b c d m y e1 e2 e3 e4
  split at h
  ·rename_i k
   rw[if_pos k]
   refine⟨_,Dt.FF.2 ⟨k.1,?_⟩⟩
   obtain⟨_,k1,k2,k3⟩:=k
   have:((a*3600+(b*60+c):Nat):Int)<86400:=by omega
   simp only
   omega
  ·cases h
 ·cases h
theorem lAR(v:List UInt8):(∃r,v=46::r/\pC v=r)\/(v.head?≠some 46/\pC v=v):=by
 unfold pC
 split
 ·rename_i h
  cases v with
  |nil=>cases h
  |cons x r=>
   left
   have e:x=46:=zB2 h
   exact⟨r,by rw[e],rfl⟩
 ·rename_i h;exact .inr ⟨h,rfl⟩
theorem gAD {v:List UInt8}(h:LC v):LC (v.map low):=by
 refine⟨?_,?_⟩
 ·intro c hc
  rw[List.head?_map]at hc
  obtain⟨x,hx,rfl⟩:=Option.map_eq_some_iff.1 hc
  rw[mX];exact h.left x hx
 ·intro c hc
  rw[List.getLast?_map]at hc
  obtain⟨x,hx,rfl⟩:=Option.map_eq_some_iff.1 hc
  rw[mX];exact h.right x hx
theorem gAw(v:List UInt8):(v.map low).map low=v.map low:=bA.tX v
theorem aAv {v:List UInt8}{n:Nat}(h:XC v=some n):n<=34560000:=by
 unfold XC at h
 split at h
 ·split at h
  ·cases h;omega
  ·cases h
 ·split at h
  ·have e:=zB2 h
   omega
  ·cases h
theorem kA4(v:List UInt8):KD v<=3:=by unfold KD;split<;>(try split)<;>(try split)<;>omega
theorem dAW {h:Head}(hg:Good h){k v:List UInt8}(hv:LC v)(hb: ∀c∈v,gB c=true):Good (put h k v):=by
 unfold put
 split
 ·exact hg
 rename_i hl
 split
 ·split
  ·rename_i hc
   exact {hg with
    exp:=fun n hn=>by
     have e:=zB2 hn
     rw[<-e];exact bAO hc}
  ·exact hg
 split
 ·split
  ·rename_i n hn
   exact {hg with
    age:=fun m hm=>by
     have e:=zB2 hm
     rw[<-e];exact aAv hn}
  ·exact hg
 split
 ·have ht:=gAD hv
  have hbl: ∀c∈v.map low,gB c=true:=by
   intro c hc
   obtain⟨x,hx,rfl⟩:=List.mem_map.1 hc
   exact gAt x (hb x hx)
  have hlow:=gAw v
  have hlen:(v.map low).length<=1024:=by rw[List.length_map];omega
  generalize v.map low=u at*
  rcases lAR u with⟨r,e1,e2⟩|⟨e1,e2⟩
  ·rw[e2]
   subst e1
   exact {hg with
    gM:=fun c hc=>hbl c (by simp[hc])
    iM:=by rw[List.map_cons]at hlow;exact(List.cons.inj hlow).2
    jM:=fun c hc=>ht.right c (by
     cases r with
     |nil=>cases hc
     |cons x q=>rw[List.getLast?_cons_cons];exact hc)
    tH:=by
     show r.length+_<=1024
     rw[zB5]at hlen
     split<;>omega}
  ·rw[e2]
   exact {hg with
    gM:=hbl
    iM:=hlow
    jM:=ht.right
    tH:=by
     show u.length+_<=1024
     rw[if_neg ?_]
     ·omega
     ·intro hd
      unfold IF at hd
      rcases zB1 hd with a|a|a
      ·exact e1 a
      ·exact absurd (ht.left _ a) (by decide)
      ·exact absurd (ht.left _ a) (by decide)}
 split
 ·split
  ·rename_i hp
   exact {hg with pN:=hb,qN:= .inr hp,rN:=hv.right,YH:=by show v.length<=1024;omega}
  ·exact {hg with pN:=(fun _ hc=>by cases hc),qN:= .inl rfl,rN:=(fun _ hc=>by cases hc),YH:=(by show(0:Nat)<=1024;omega)}
 split
 ·exact {hg with}
 split
 ·exact {hg with}
 split
 ·exact {hg with same:=kA4 _}
 ·exact hg
theorem dAV {h:Head}(hg:Good h){p:List UInt8}(hp: ∀c∈p,gB c=true):Good (attr h p):=
 dAW hg (SN _) (fun c hc=>hp c (MT hc))
theorem yV: ∀ {r:List (List UInt8)}{h:Head},Good h->(∀p∈r,∀c∈p,gB c=true)->Good (r.foldl attr h)
 | [],h,hg,_=>hg
 |p::r,h,hg,hp=>yV (r:=r) (dAV hg (hp p (by simp))) (fun q hq=>hp q (by simp[hq]))
theorem iA9(p:List UInt8):LC (pair p).1/\LC (pair p).2/\(∀c∈ (pair p).1,c∈p/\c≠61)/\(∀c∈ (pair p).2,c∈p):=by
 unfold pair
 split
 ·exact⟨SN _,SN _,fun c hc=>aAz hc,fun c hc=>MT hc⟩
 ·exact⟨lAE,SN _,fun c hc=>(by cases hc),fun c hc=>PR hc⟩
theorem good_start {p:List UInt8}(hb: ∀c∈p,gB c=true)(h1: ¬((pair p).1= []/\(pair p).2= []))(h2: ¬4096<(pair p).1.length+(pair p).2.length):Good (start p):=by
 obtain⟨p1,p2,p3,p4⟩:=iA9 p
 exact {
  name:=p1,KX:=fun c hc=>hb c (p3 c hc).1,sign:=fun c hc=>(p3 c hc).2,value:=p2,D5:=fun c hc=>hb c (p4 c hc),some_:=h1
  few:=by show(pair p).1.length+(pair p).2.length<=4096;omega
  gM:=fun _ hc=>by cases hc
  iM:=rfl
  jM:=fun _ hc=>by cases hc
  tH:=by show 0+_<=1024;split<;>omega
  pN:=fun _ hc=>by cases hc
  qN:= .inl rfl
  rN:=fun _ hc=>by cases hc
  YH:=by show(0:Nat)<=1024;omega
  exp:=fun _ hc=>by cases hc
  age:=fun _ hc=>by cases hc
  same:=by show(0:Nat)<=3;omega}
theorem mJ {s:List UInt8}{h:Head}(hp:parse s=(0,h)):Good h:=by
 obtain⟨h1,h2⟩:=wY.1 hp
 have hb: ∀p∈split 59 s,∀c∈p,gB c=true:=by
  intro p hp c hc
  obtain⟨m1,m2⟩:=CZ 59 s p hp c hc
  refine wH.2 ⟨?_,m2⟩
  rw[List.any_eq_false]at h1
  have:=h1 c m1
  simpa using this
 cases e:split 59 s with
 |nil=>exact absurd e (ZF 59 s)
 |cons p r=>
  rw[e]at h2 hb
  unfold said at h2
  dsimp only at h2
  split at h2
  ·cases congrArg Prod.fst h2
  rename_i k1
  split at h2
  ·cases congrArg Prod.fst h2
  rename_i k2
  have eh:r.foldl attr (start p)=h:=congrArg Prod.snd h2
  rw[<-eh]
  exact yV (good_start (hb p (by simp)) k1 k2) (fun q hq=>hb q (by simp[hq]))
end Hd
end Go.Proofs.YtdaaoopkkhfbhaaGreatDoor
namespace Go.Proofs.YtdaaoopkkhfbhaaGreatDoor
namespace Hd
open Oct
def XN:List UInt8:= [69,120,112,105,114,101,115]
def cL:List UInt8:= [77,97,120,45,65,103,101]
def dL:List UInt8:= [68,111,109,97,105,110]
def fL:List UInt8:= [80,97,116,104]
def gL:List UInt8:= [83,101,99,117,114,101]
def eL:List UInt8:= [72,116,116,112,79,110,108,121]
def iL:List UInt8:= [83,97,109,101,83,105,116,101]
def kI:List UInt8:= [78,111,110,101]
def WG:List UInt8:= [76,97,120]
def fG:List UInt8:= [83,116,114,105,99,116]
def bC(d:List UInt8):List UInt8:=if IF d=true then 46::d else d
def UG(n:Nat):List UInt8:=if n=1 then kI else if n=2 then WG else fG
noncomputable def UF(o:Option Int):List (List UInt8):=match o with|some n=> [XN++61::Dt.text n]|none=> []
def OG(o:Option Nat):List (List UInt8):=match o with|some n=> [cL++61::Lib.decDigits n]|none=> []
def TF(d:List UInt8):List (List UInt8):=if d= []then []else [dL++61::bC d]
def partPath(d:List UInt8):List (List UInt8):=if d= []then []else [fL++61::d]
def QG(b:Bool):List (List UInt8):=if b=true then [gL]else []
def PG(b:Bool):List (List UInt8):=if b=true then [eL]else []
def VF(n:Nat):List (List UInt8):=if n=0 then []else [iL++61::UG n]
noncomputable def parts(h:Head):List (List UInt8):=UF h.exp++(OG h.age++(TF h.domain++(partPath h.path++(QG h.secure++(PG h.only++VF h.same)))))
def joined(ps:List (List UInt8)):List UInt8:=ps.flatMap fun p=>59::32::p
noncomputable def text(h:Head):List UInt8:=(h.name++61::h.value)++joined (parts h)
theorem BZ: ∀(ps:List (List UInt8))(a:List UInt8),(∀c∈a,c≠59)->(∀p∈ps,∀c∈p,c≠59)->split 59 (a++joined ps)=a::ps.map (32:: ·)
 | [],a,h,_=>by
  rw[show joined []= [] from rfl,List.append_nil,vR 59 a h];rfl
 |p::ps,a,h,hp=>by
  have ih:=BZ ps (32::p) (fun c hc=>by
   rcases List.mem_cons.1 hc with e|e
   ·rw[e];decide
   ·exact hp p (by simp) c e) (fun q hq=>hp q (by simp[hq]))
  rw[show joined (p::ps)=59::((32::p)++joined ps) from rfl,tR 59 _ a h,ih]
  rfl
theorem dG {l:List UInt8}(h: ∀c∈l,EA c=false):LC l:=
 ⟨fun c hc=>h c (List.mem_of_mem_head? hc),fun c hc=>h c (List.mem_of_getLast? hc)⟩
theorem kK(h:Head){k v:List UInt8}(hk: ∀c∈k,c≠61)(kt:LC k)(vt:LC v):attr h (32::(k++61::v))=put h (k.map low) v:=by
 obtain⟨e1,e2⟩:=zT (a:=32::k) (fun c hc=>by
  rcases List.mem_cons.1 hc with e|e
  ·rw[e];decide
  ·exact hk c e) v
 unfold attr
 rw[List.cons_append]at e1 e2
 rw[e1,e2,I2 (by decide),aL kt,aL vt]
theorem GT(h:Head){k:List UInt8}(hk: ∀c∈k,c≠61)(kt:LC k):attr h (32::k)=put h (k.map low) []:=by
 obtain⟨e1,e2⟩:=aAA (a:=32::k) (fun c hc=>by
  rcases List.mem_cons.1 hc with e|e
  ·rw[e];decide
  ·exact hk c e)
 unfold attr
 rw[e1,e2,I2 (by decide),aL kt]
theorem aR(h:Head){v:List UInt8}(hv:v.length<=1024):put h KG v=if(Dt.OA v).2=true then {h with exp:=some (Dt.OA v).1} else h:=by
 unfold put;rw[if_neg (by omega),if_pos rfl]
theorem YQ(h:Head){v:List UInt8}(hv:v.length<=1024):put h JG v=match XC v with|some n=> {h with age:=some n} |none=>h:=by
 unfold put;rw[if_neg (by omega),if_neg (by decide),if_pos rfl];try (cases XC v<;>rfl)
theorem LY(h:Head){v:List UInt8}(hv:v.length<=1024):put h KH v= {h with domain:=pC (v.map low)} :=by
 unfold put;rw[if_neg (by omega),if_neg (by decide),if_neg (by decide),if_pos rfl]
theorem PY(h:Head){v:List UInt8}(hv:v.length<=1024):put h MH v= {h with path:=if v.head?=some 47 then v else []} :=by
 unfold put;rw[if_neg (by omega),if_neg (by decide),if_neg (by decide),if_neg (by decide),if_pos rfl]
theorem QY(h:Head){v:List UInt8}(hv:v.length<=1024):put h NH v= {h with secure:=true} :=by
 unfold put;rw[if_neg (by omega),if_neg (by decide),if_neg (by decide),if_neg (by decide),if_neg (by decide),if_pos rfl]
theorem NY(h:Head){v:List UInt8}(hv:v.length<=1024):put h LH v= {h with only:=true} :=by
 unfold put;rw[if_neg (by omega),if_neg (by decide),if_neg (by decide),if_neg (by decide),if_neg (by decide),if_neg (by decide),if_pos rfl]
theorem RY(h:Head){v:List UInt8}(hv:v.length<=1024):put h OH v= {h with same:=KD (v.map low)} :=by
 unfold put;rw[if_neg (by omega),if_neg (by decide),if_neg (by decide),if_neg (by decide),if_neg (by decide),if_neg (by decide),if_neg (by decide),if_pos rfl]
theorem MY(h:Head){k v:List UInt8}(hk:k≠KG/\k≠JG/\k≠KH/\k≠MH/\k≠NH/\k≠LH/\k≠OH):put h k v=h:=by
 obtain⟨k1,k2,k3,k4,k5,k6,k7⟩:=hk
 unfold put
 rw[if_neg k1,if_neg k2,if_neg k3,if_neg k4,if_neg k5,if_neg k6,if_neg k7]
 split<;>rfl
theorem iAX(h:Head){k v:List UInt8}(hv:1024<v.length):put h k v=h:=by
 unfold put;rw[if_pos hv]
theorem mAn: ∀j,j<7->(((Dt.week[j]?).getD []).all fun c=>gB c&& !EA c)=true/\(Dt.week[j]?).getD []≠ []:=by decide+kernel
theorem gAS: ∀j,j<12->(((Dt.kB[j]?).getD []).all fun c=>gB c&& !EA c)=true:=by decide+kernel
theorem DU: ∀k,k<10->gB (Dt.dg k)=true/\EA (Dt.dg k)=false:=by decide+kernel
theorem vJ(n:Nat): ∀c∈Dt.two n,gB c=true:=by
 intro c hc
 rw[Dt.tJ]at hc
 rcases List.mem_cons.1 hc with e|e
 ·rw[e];exact(DU _ (by omega)).1
 ·rw[List.mem_singleton.1 e];exact(DU _ (by omega)).1
theorem Y5(k:Int):(∀c∈Dt.VD k,gB c=true/\EA c=false)/\Dt.VD k≠ []:=by
 obtain⟨h1,h2⟩:=mAn (k%7).toNat (by omega)
 refine⟨fun c hc=>?_,h2⟩
 have:=List.all_eq_true.1 h1 c hc
 rw[Bool.and_eq_true,Bool.not_eq_true']at this
 exact this
theorem gAR {m:Int}(h1:1<=m)(h2:m<=12): ∀c∈Dt.mname m,gB c=true:=by
 intro c hc
 have:=List.all_eq_true.1 (gAS (m-1).toNat (by omega)) c hc
 rw[Bool.and_eq_true]at this
 exact this.1
theorem cAa {y m d:Int}(h:Dt.Is y m d)(k:Int)(n:Nat): ∀c∈Dt.aD y m d k n,gB c=true:=by
 intro c hc
 unfold Dt.aD Dt.clock at hc
 simp only[List.mem_append,List.mem_cons,List.not_mem_nil,or_false]at hc
 obtain⟨_,_,m1,m2,_,_⟩:=h
 rcases hc with e|e|e|e|e|e|e|(e|e)|e|(e|e|e|e|e)|e|e|e|e
 ·exact((Y5 k).1 c e).1
 ·rw[e];decide
 ·rw[e];decide
 ·exact vJ _ c e
 ·rw[e];decide
 ·exact gAR m1 m2 c e
 ·rw[e];decide
 ·exact vJ _ c e
 ·exact vJ _ c e
 ·rw[e];decide
 ·exact vJ _ c e
 ·rw[e];decide
 ·exact vJ _ c e
 ·rw[e];decide
 ·exact vJ _ c e
 ·rw[e];decide
 ·rw[e];decide
 ·rw[e];decide
 ·rw[e];decide
theorem cAf(y m d k:Int)(n:Nat):LC (Dt.aD y m d k n):=by
 refine⟨?_,?_⟩
 ·intro c hc
  obtain⟨h1,h2⟩:=Y5 k
  unfold Dt.aD at hc
  cases e:Dt.VD k with
  |nil=>exact absurd e h2
  |cons x r=>
   rw[e,List.cons_append]at hc
   have ex:x=c:=zB2 hc
   rw[<-ex]
   exact(h1 x (by rw[e];exact List.mem_cons_self)).2
 ·intro c hc
  have e: ∃u,Dt.aD y m d k n=u++ [84]:=by
   unfold Dt.aD
   refine⟨Dt.VD k++44::32::(Dt.two d.toNat++32::(Dt.mname m++32::((Dt.two (y.toNat/100)++Dt.two (y.toNat%100))++32::(Dt.clock n++32:: [71,77])))),?_⟩
   simp only[List.append_assoc,List.cons_append,List.nil_append]
  obtain⟨u,e⟩:=e
  rw[e,List.getLast?_append]at hc
  have ex:(84:UInt8)=c:=zB2 hc
  rw[<-ex];decide
theorem FR {n:Int}(h: ∃t,Dt.civil (n/86400)=some t):(∀c∈Dt.text n,gB c=true)/\LC (Dt.text n)/\(Dt.text n).length=29/\Dt.OA (Dt.text n)=(n,true):=by
 obtain⟨⟨y,m,d⟩,h⟩:=h
 have hI:=(Dt.FF.1 h).1
 have hk:=Dt.bAP h
 have e:Dt.text n=Dt.aD y m d (n/86400) (n%86400).toNat:=by unfold Dt.text;rw[h]
 refine⟨?_,?_,?_,hk⟩<;>rw[e]
 ·exact cAa hI _ _
 ·exact cAf _ _ _ _ _
 ·exact Dt.cAc hI _ _
theorem EP {c:UInt8}(h:RA c=true):gB c=true/\EA c=false/\c≠45:=by
 have k:=zB1 h
 refine⟨wH.2 ⟨zA8 (by omega),?_⟩,zA8 (by omega),?_⟩
 ·intro e;rw[e]at k;have:(59:UInt8).toNat=59:=rfl;omega
 ·intro e;rw[e]at k;have:(45:UInt8).toNat=45:=rfl;omega
theorem DP {n:Nat}(h:n<=34560000):(∀c∈Lib.decDigits n,gB c=true/\EA c=false)/\(Lib.decDigits n).length<=8/\XC (Lib.decDigits n)=some n:=by
 obtain⟨h1,h2,h3⟩:=Ur.cAm n
 have hd: ∀c∈Lib.decDigits n,RA c=true:=fun c hc=>List.all_eq_true.1 h1 c hc
 refine⟨fun c hc=>⟨(EP (hd c hc)).1,(EP (hd c hc)).2.1⟩,Ur.rK 8 n (by omega) (by omega),?_⟩
 unfold XC
 rw[if_neg ?_,if_pos ?_,h2]
 ·congr 1;omega
 ·unfold digits;rw[h1,zA9 h3];rfl
 ·intro e
  exact(EP (hd 45 (List.mem_of_mem_head? e))).2.2 rfl
theorem KU {h:Head}(hg:Good h)(hne:h.domain≠ []):(∀c∈bC h.domain,gB c=true)/\LC (bC h.domain)/\(bC h.domain).length<=1024/\pC ((bC h.domain).map low)=h.domain:=by
 have n1:=hg.tH
 have hl:=hg.iM
 have hr:=hg.jM
 have hb:=hg.gM
 generalize h.domain=d at*
 unfold bC
 by_cases k:IF d=true
 ·rw[if_pos k]at n1⊢
  refine⟨?_,⟨?_,?_⟩,?_,?_⟩
  ·intro c hc
   rcases List.mem_cons.1 hc with e|e
   ·rw[e];decide
   ·exact hb c e
  ·intro c hc
   have e:(46:UInt8)=c:=zB2 hc
   rw[<-e];decide
  ·intro c hc
   cases d with
   |nil=>exact absurd rfl hne
   |cons x r=>rw[List.getLast?_cons_cons]at hc;exact hr c hc
  ·rw[zB5];exact n1
  ·rw[List.map_cons,hl];rfl
 ·rw[if_neg k]at n1⊢
  have k2: ¬(d.head?=some 46\/d.head?=some 32\/d.head?=some 9):=fun hh=>k (zA9 hh)
  refine⟨hb,⟨?_,hr⟩,by omega,?_⟩
  ·intro c hc
   unfold EA
   refine zA8 ?_
   intro hh
   rcases hh with hh|hh
   ·exact k2 (.inr (.inl (by rw[hc];congr 1;exact TB (by rw[hh];rfl))))
   ·exact k2 (.inr (.inr (by rw[hc];congr 1;exact TB (by rw[hh];rfl))))
  ·rw[hl]
   unfold pC
   rw[if_neg (fun hh=>k2 (.inl hh))]
theorem dAv {g:Head}{o:Option Int}(ho: ∀n,o=some n-> ∃t,Dt.civil (n/86400)=some t)(hg:g.exp=none):((UF o).map (32:: ·)).foldl attr g= {g with exp:=o} :=by
 cases o with
 |none=>
  obtain⟨a,b,c,d,e,f,i,j,k⟩:=g
  have:e=none:=hg
  subst this
  rfl
 |some n=>
  obtain⟨_,h2,h3,h4⟩:=FR (ho n rfl)
  show attr g (32::(XN++61::Dt.text n))=_
  rw[kK g (by decide) (dG (by decide)) h2,show XN.map low=KG from by decide,aR g (by omega),h4]
  rfl
theorem dAs {g:Head}{o:Option Nat}(ho: ∀n,o=some n->n<=34560000)(hg:g.age=none):((OG o).map (32:: ·)).foldl attr g= {g with age:=o} :=by
 cases o with
 |none=>
  obtain⟨a,b,c,d,e,f,i,j,k⟩:=g
  have:f=none:=hg
  subst this
  rfl
 |some n=>
  obtain⟨h1,h2,h3⟩:=DP (ho n rfl)
  show attr g (32::(cL++61::Lib.decDigits n))=_
  rw[kK g (by decide) (dG (by decide)) (dG fun c hc=>(h1 c hc).2),show cL.map low=JG from by decide,YQ g (by omega),h3]
theorem dAu {g h:Head}(hh:Good h)(hg:g.domain= []):((TF h.domain).map (32:: ·)).foldl attr g= {g with domain:=h.domain} :=by
 unfold TF
 split
 ·rename_i e
  rw[e]
  obtain⟨a,b,c,d,e,f,i,j,k⟩:=g
  have:c= []:=hg
  subst this
  rfl
 ·rename_i hne
  obtain⟨_,h2,h3,h4⟩:=KU hh hne
  show attr g (32::(dL++61::bC h.domain))=_
  rw[kK g (by decide) (dG (by decide)) h2,show dL.map low=KH from by decide,LY g h3,h4]
theorem iAy {h:Head}(hh:Good h)(hne:h.path≠ []):h.path.head?=some 47/\LC h.path:=by
 have e:=hh.qN.resolve_left hne
 refine⟨e,⟨?_,hh.rN⟩⟩
 intro c hc
 rw[e]at hc
 have:(47:UInt8)=c:=zB2 hc
 rw[<-this];decide
theorem dAy {g h:Head}(hh:Good h)(hg:g.path= []):((partPath h.path).map (32:: ·)).foldl attr g= {g with path:=h.path} :=by
 unfold partPath
 split
 ·rename_i e
  rw[e]
  obtain⟨a,b,c,d,e,f,i,j,k⟩:=g
  have:d= []:=hg
  subst this
  rfl
 ·rename_i hne
  obtain⟨h1,h2⟩:=iAy hh hne
  show attr g (32::(fL++61::h.path))=_
  rw[kK g (by decide) (dG (by decide)) h2,show fL.map low=MH from by decide,PY g hh.YH,if_pos h1]
theorem dAA {g:Head}{b:Bool}(hg:g.secure=false):((QG b).map (32:: ·)).foldl attr g= {g with secure:=b} :=by
 cases b with
 |false=>
  obtain⟨a,b,c,d,e,f,i,j,k⟩:=g
  have:i=false:=hg
  subst this
  rfl
 |true=>
  show attr g (32::gL)=_
  rw[GT g (by decide) (dG (by decide)),show gL.map low=NH from by decide,QY g (by decide)]
theorem dAx {g:Head}{b:Bool}(hg:g.only=false):((PG b).map (32:: ·)).foldl attr g= {g with only:=b} :=by
 cases b with
 |false=>
  obtain⟨a,b,c,d,e,f,i,j,k⟩:=g
  have:j=false:=hg
  subst this
  rfl
 |true=>
  show attr g (32::eL)=_
  rw[GT g (by decide) (dG (by decide)),show eL.map low=LH from by decide,NY g (by decide)]
theorem tZ: ∀n,n<=3->n≠0->KD ((UG n).map low)=n/\(UG n).length<=1024/\((UG n).all fun c=>gB c&& !EA c)=true:=by decide+kernel
theorem uZ {n:Nat}(h:n<=3)(h0:n≠0): ∀c∈UG n,gB c=true/\EA c=false:=by
 intro c hc
 have:=List.all_eq_true.1 (tZ n h h0).2.2 c hc
 rw[Bool.and_eq_true,Bool.not_eq_true']at this
 exact this
theorem dAB {g:Head}{n:Nat}(hn:n<=3)(hg:g.same=0):((VF n).map (32:: ·)).foldl attr g= {g with same:=n} :=by
 unfold VF
 split
 ·rename_i e
  subst e
  obtain⟨a,b,c,d,e,f,i,j,k⟩:=g
  have:k=0:=hg
  subst this
  rfl
 ·rename_i h0
  obtain⟨h1,h2,_⟩:=tZ n hn h0
  show attr g (32::(iL++61::UG n))=_
  rw[kK g (by decide) (dG (by decide)) (dG fun c hc=>(uZ hn h0 c hc).2),show iL.map low=OH from by decide,RY g h2,h1]
theorem IK {k v:List UInt8}(hk:(k.all gB)=true)(hv: ∀c∈v,gB c=true): ∀c∈k++61::v,gB c=true:=by
 intro c hc
 rcases List.mem_append.1 hc with e|e
 ·exact List.all_eq_true.1 hk c e
 ·rcases List.mem_cons.1 e with e|e
  ·rw[e];decide
  ·exact hv c e
theorem iAn {h:Head}(hg:Good h): ∀p∈parts h,∀c∈p,gB c=true:=by
 intro p hp
 unfold parts at hp
 simp only[List.mem_append]at hp
 rcases hp with e|e|e|e|e|e|e
 ·unfold UF at e
  split at e
  ·rename_i n hn
   rw[List.mem_singleton.1 e]
   exact IK (by decide) (FR (hg.exp n hn)).1
  ·cases e
 ·unfold OG at e
  split at e
  ·rename_i n hn
   rw[List.mem_singleton.1 e]
   exact IK (by decide) (fun c hc=>((DP (hg.age n hn)).1 c hc).1)
  ·cases e
 ·unfold TF at e
  split at e
  ·cases e
  ·rename_i hne
   rw[List.mem_singleton.1 e]
   exact IK (by decide) (KU hg hne).1
 ·unfold partPath at e
  split at e
  ·cases e
  ·rw[List.mem_singleton.1 e]
   exact IK (by decide) hg.pN
 ·unfold QG at e
  split at e
  ·rw[List.mem_singleton.1 e]
   exact fun c hc=>List.all_eq_true.1 (show(gL.all gB)=true by decide) c hc
  ·cases e
 ·unfold PG at e
  split at e
  ·rw[List.mem_singleton.1 e]
   exact fun c hc=>List.all_eq_true.1 (show(eL.all gB)=true by decide) c hc
  ·cases e
 ·unfold VF at e
  split at e
  ·cases e
  ·rename_i h0
   rw[List.mem_singleton.1 e]
   exact IK (by decide) (fun c hc=>(uZ hg.same h0 c hc).1)
theorem iAh {h:Head}(hg:Good h):parse (text h)=(0,h):=by
 have hpf:=iAn hg
 have hname: ∀c∈h.name++61::h.value,gB c=true:=by
  intro c hc
  rcases List.mem_append.1 hc with e|e
  ·exact hg.KX c e
  ·rcases List.mem_cons.1 e with e|e
   ·rw[e];decide
   ·exact hg.D5 c e
 refine wY.2 ⟨?_,?_⟩
 ·rw[List.any_eq_false]
  intro c hc
  have:ED c=false:=by
   unfold text joined at hc
   rcases List.mem_append.1 hc with e|e
   ·exact(wH.1 (hname c e)).1
   ·obtain⟨p,hp,hcp⟩:=List.mem_flatMap.1 e
    rcases List.mem_cons.1 hcp with e|e
    ·rw[e];decide
    rcases List.mem_cons.1 e with e|e
    ·rw[e];decide
    ·exact(wH.1 (hpf p hp c e)).1
  rw[this];simp
 ·have hs:split 59 (text h)=(h.name++61::h.value)::(parts h).map (32:: ·):=
   BZ (parts h) _ (fun c hc=>(wH.1 (hname c hc)).2) (fun p hp c hc=>(wH.1 (hpf p hp c hc)).2)
  have qW:pair (h.name++61::h.value)=(h.name,h.value):=by
   obtain⟨e1,e2⟩:=zT hg.sign h.value
   unfold pair
   rw[if_pos (by simp),e1,e2,aL hg.name,aL hg.value]
  rw[hs]
  unfold said
  dsimp only
  rw[qW,if_neg hg.some_,if_neg (by have:=hg.few;dsimp only;omega)]
  congr 1
  have hst:start (h.name++61::h.value)= {zero with name:=h.name,value:=h.value} :=by unfold start;rw[qW]
  rw[hst]
  unfold parts
  simp only[List.map_append,List.foldl_append]
  rw[dAv hg.exp rfl,dAs hg.age rfl,dAu hg rfl,dAy hg rfl,dAA rfl,dAx rfl,dAB hg.same rfl]
end Hd
end Go.Proofs.YtdaaoopkkhfbhaaGreatDoor
namespace Go.Proofs.YtdaaoopkkhfbhaaGreatDoor
namespace Hd
open Oct
end Hd
end Go.Proofs.YtdaaoopkkhfbhaaGreatDoor
namespace Go.Proofs.YtdaaoopkkhfbhaaGreatDoor
namespace Hd
open Oct
def kC(a c:UInt8):Bool:=decide (c≠a)
def gD(l:List UInt8):List UInt8:=l.takeWhile (kC 59)
def wD(l:List UInt8):List UInt8:=(l.dropWhile (kC 59)).drop 1
theorem dA8(a c:UInt8)(l:List UInt8):Ur.find (c::l) [a]=if c=a then 0 else Ur.find l [a]+1:=by
 unfold Ur.find
 rw[List.findIdx_cons]
 by_cases h:c=a
 ·subst h;simp
 ·have e:([a]:List UInt8).contains c=false:=by simp[h]
  rw[e,if_neg h];rfl
theorem jV(a:UInt8): ∀l:List UInt8,l.take (Ur.find l [a])=l.takeWhile (kC a)/\l.drop (Ur.find l [a])=l.dropWhile (kC a)/\(Ur.find l [a]<l.length↔a∈l)
 | []=>by simp[Ur.find]
 |c::l=>by
  obtain⟨h1,h2,h3⟩:=jV a l
  rw[dA8]
  by_cases h:c=a
  ·subst h
   rw[if_pos rfl,List.takeWhile_cons_of_neg (by simp[kC]),List.dropWhile_cons_of_neg (by simp[kC])]
   simp
  ·rw[if_neg h,List.takeWhile_cons_of_pos (by simp[kC,h]),List.dropWhile_cons_of_pos (by simp[kC,h]),List.take_succ_cons,List.drop_succ_cons,h1,h2]
   refine⟨rfl,rfl,?_⟩
   rw[zB5,List.mem_cons]
   constructor
   ·intro k;exact .inr (h3.1 (by omega))
   ·rintro(k|k)
    ·exact absurd k.symm h
    ·have:=h3.2 k;omega
theorem MN {a:UInt8} : ∀ {l:List UInt8},a∉l->l.takeWhile (kC a)=l/\l.dropWhile (kC a)= []
 | [],_=>⟨rfl,rfl⟩
 |c::l,h=>by
  have hc:c≠a:=fun e=>h (by rw[e];exact List.mem_cons_self)
  obtain⟨h1,h2⟩:=MN (a:=a) (l:=l) (fun k=>h (List.mem_cons_of_mem _ k))
  rw[List.takeWhile_cons_of_pos (by simp[kC,hc]),List.dropWhile_cons_of_pos (by simp[kC,hc]),h1,h2]
  exact⟨rfl,rfl⟩
theorem wP(a:UInt8)(l:List UInt8):Lib.cut l [a]=(l.takeWhile (kC a),(l.dropWhile (kC a)).drop 1,decide (a∈l)):=by
 obtain⟨h1,h2,h3⟩:=jV a l
 rw[Ur.cA0]
 by_cases h:a∈l
 ·rw[if_pos (h3.2 h),<-h1,<-h2,List.drop_drop,zA9 h]
 ·obtain⟨e1,e2⟩:=MN h
  rw[if_neg (fun k=>h (h3.1 k)),e1,e2,zA8 h];rfl
theorem aY:kC 61=fD:=by funext c;rfl
theorem cA4(l:List UInt8):trim (Lib.cut l [61]).1=ahead l/\trim (Lib.cut l [61]).2.1=behind l/\(Lib.cut l [61]).2.2=decide (61∈l):=by
 rw[wP,aY]
 exact⟨rfl,rfl,rfl⟩
theorem xU(l:List UInt8):(Lib.cut l [59]).1=gD l/\(Lib.cut l [59]).2.1=wD l:=by
 rw[wP]
 exact⟨rfl,rfl⟩
theorem AY(l:List UInt8):(gD l).length<=l.length:=(List.takeWhile_prefix _).length_le
theorem ZY: ∀l:List UInt8,(wD l).length<=l.length-1
 | []=>by simp[wD]
 |c::l=>by
  have:=(List.dropWhile_suffix (kC 59) (l:=c::l)).length_le
  unfold wD
  rw[List.length_drop];omega
theorem wR: ∀l:List UInt8,split 59 l=gD l::(if 59∈l then split 59 (wD l)else [])
 | []=>rfl
 |c::l=>by
  rw[DC]
  by_cases h:c=59
  ·subst h
   rw[if_pos rfl,if_pos List.mem_cons_self]
   unfold gD wD
   rw[List.takeWhile_cons_of_neg (by simp[kC]),List.dropWhile_cons_of_neg (by simp[kC])]
   rfl
  ·rw[if_neg h,wR l]
   unfold gD wD
   rw[List.takeWhile_cons_of_pos (by simp[kC,h]),List.dropWhile_cons_of_pos (by simp[kC,h])]
   by_cases k:59∈l
   ·rw[if_pos k,if_pos (List.mem_cons_of_mem _ k)]
   ·rw[if_neg k,if_neg (fun q=>by
     rcases List.mem_cons.1 q with e|e
     ·exact h e.symm
     ·exact k e)]
theorem aZ {l:List UInt8}(h:59∉l):wD l= []:=by
 unfold wD
 rw[(MN h).2];rfl
theorem aAN(h:Head):attr h []=h:=by
 unfold attr
 exact MY h (by decide)
theorem vK(h:Head):(split 59 []).foldl attr h=h:=aAN h
theorem dAz(h:Head)(l:List UInt8):(split 59 l).foldl attr h=(split 59 (wD l)).foldl attr (attr h (gD l)):=by
 rw[wR l,List.foldl_cons]
 split
 ·rfl
 ·rename_i k
  rw[aZ k,vK];rfl
theorem kA0(s:List UInt8):said (split 59 s)=if(pair (gD s)).1= []/\(pair (gD s)).2= []then(82,zero)else if 4096<(pair (gD s)).1.length+(pair (gD s)).2.length then(83,zero)else(0,(split 59 (wD s)).foldl attr (start (gD s))):=by
 rw[wR s]
 unfold said
 dsimp only
 by_cases k:59∈s
 ·rw[if_pos k]
 ·rw[if_neg k,aZ k,vK];rfl
theorem aAM(h:Head){p:List UInt8}(hv:1024<(behind p).length):attr h p=h:=by unfold attr;exact iAX h hv
theorem aAO(h:Head)(p:List UInt8):attr h p=put h ((ahead p).map low) (behind p):=rfl
theorem RN(l:List UInt8):(trim l).length<=l.length:=by
 unfold trim
 have h1:=(oP (l.dropWhile EA)).length_le
 have h2:=(List.dropWhile_suffix EA (l:=l)).length_le
 omega
theorem aAy(l:List UInt8):(ahead l).length<=l.length:=by
 unfold ahead
 have h1:=RN (l.takeWhile fD)
 have h2:=(List.takeWhile_prefix fD (l:=l)).length_le
 omega
theorem aAW(l:List UInt8):(ahead l).length+(behind l).length<=l.length:=by
 unfold ahead behind
 have h1:=RN (l.takeWhile fD)
 have h2:=RN ((l.dropWhile fD).drop 1)
 have h3:=congrArg List.length (List.takeWhile_append_dropWhile (p:=fD) (l:=l))
 rw[zB4]at h3
 rw[List.length_drop]at h2
 omega
theorem iAa(l:List UInt8):(pair l).1.length+(pair l).2.length<=l.length:=by
 unfold pair
 split
 ·exact aAW l
 ·have:=RN l
  dsimp only[List.length_nil];omega
theorem iAb {l:List UInt8}(h:61∈l):pair l=(ahead l,behind l):=by unfold pair;rw[if_pos h]
theorem iA8 {l:List UInt8}(h:61∉l):pair l=([],ahead l):=by
 unfold pair
 rw[if_neg h]
 obtain⟨h1,_⟩:=MN h
 unfold ahead
 rw[<-aY,h1]
theorem gAs(c:UInt8):low c=46↔c=46:=by
 constructor
 ·intro h
  have e:=congrArg UInt8.toNat h
  rw[CE]at e
  have k:(46:UInt8).toNat=46:=rfl
  rw[k]at e
  apply TB
  rw[k]
  split at e<;>omega
 ·intro h;rw[h];decide
theorem lAT(v:List UInt8):pC (v.map low)=(pC v).map low:=by
 unfold pC
 cases v with
 |nil=>rfl
 |cons c r=>
  rw[List.map_cons,List.head?_cons,List.head?_cons]
  by_cases h:c=46
  ·rw[if_pos (by rw[h];rfl),if_pos (by rw[h])];rfl
  ·rw[if_neg (fun k=>h ((gAs c).1 (zB2 k))),if_neg (fun k=>h (zB2 k))];rfl
theorem UP(c:UInt8)(v:List UInt8):Lib.hasPrefix v [c]=decide (v.head?=some c):=by
 cases v with
 |nil=>rfl
 |cons x r=>
  unfold Lib.hasPrefix
  rw[List.isPrefixOf_cons_cons,List.isPrefixOf_nil_left,Bool.and_true,List.head?_cons]
  by_cases h:c=x
  ·subst h;rw[beq_self_eq_true,zA9 rfl]
  ·rw[beq_false_of_ne h,zA8 (fun k=>h (zB2 k).symm)]
theorem U2(c:UInt8)(v:List UInt8):Lib.trimPrefix v [c]=if v.head?=some c then v.drop 1 else v:=by
 unfold Lib.trimPrefix
 rw[UP]
 by_cases h:v.head?=some c
 ·rw[zA9 h,if_pos rfl,if_pos h];rfl
 ·rw[zA8 h,if_neg (by simp),if_neg h]
theorem lAU(v:List UInt8):Lib.trimPrefix v [46]=pC v:=U2 46 v
theorem lAS(v:List UInt8):(pC v).length<=v.length:=by
 unfold pC
 split
 ·rw[List.length_drop];omega
 ·exact zB3 _
theorem aAw {v:List UInt8}(h:v.head?=some 45):XC v=if digits (v.drop 1)=true then some 0 else none:=by unfold XC;rw[if_pos h]
theorem aAx {v:List UInt8}(h:v.head?≠some 45):XC v=if digits v=true then some (min (numOf v) 34560000)else none:=by unfold XC;rw[if_neg h]
def held(l:List UInt8)(k:Nat):Nat:=min (numOf (l.take k)) 34560000
theorem eAG(l:List UInt8):held l 0=0:=by simp[held,numOf]
theorem eAE(l:List UInt8)(k:Nat):held l k<=34560000:=by unfold held;omega
theorem eAF(s:ByteArray)(k:Nat)(h:k<s.size):held s.data.toList (k+1)=min (held s.data.toList k*10+(s[k].toNat-48)) 34560000:=by
 unfold held
 rw[QK s k h]
 omega
theorem eAD(s:ByteArray)(k:Nat)(h:s.size<=k):held s.data.toList k=min (numOf s.data.toList) 34560000:=by unfold held;rw[oD s k h]
def FC:List (List UInt8):= [[],kI,WG,fG]
theorem kA5(v:List UInt8):KD (v.map low)=if NB v []=true then 0 else if NB v kI=true then 1 else if NB v WG=true then 2 else if NB v fG=true then 3 else 0:=by
 unfold NB
 simp only[decide_eq_true_eq]
 rw[show kI.map low=oZ from by decide,show WG.map low=nZ from by decide,show fG.map low=pZ from by decide,show([]:List UInt8).map low= [] from rfl]
 generalize v.map low=u
 by_cases h:u= []
 ·subst h;decide
 ·rw[if_neg h];rfl
theorem fAN(k:List UInt8){w x:List UInt8}(h:w.map low=x):NB k w=decide (k.map low=x):=by unfold NB;rw[h]
theorem QM(a b:List UInt8):Lib.join [a,b] [61]=a++61::b:=by simp[Lib.join,List.intercalate,List.intersperse]
theorem join_one(a:List UInt8):Lib.join [a] [61]=a:=by simp[Lib.join,List.intercalate,List.intersperse]
theorem join_cons(a:List UInt8): ∀ps:List (List UInt8),Lib.join (a::ps) [59,32]=a++joined ps
 | []=>by simp[Lib.join,List.intercalate,List.intersperse,joined]
 |p::ps=>by
  have ih:=join_cons p ps
  unfold Lib.join List.intercalate at ih⊢
  simp only[List.intersperse,List.flatten_cons]at ih⊢
  rw[ih]
  simp[joined]
theorem E0(h:Head):Lib.join ((h.name++61::h.value)::parts h) [59,32]=text h:=join_cons _ _
theorem gAr(d:List UInt8):(Lib.trimLeftS d [46,32,9]=d↔IF d=false):=by
 unfold Lib.trimLeftS IF
 rw[decide_eq_false_iff_not]
 cases d with
 |nil=>simp
 |cons c r=>
  by_cases h:c=46\/c=32\/c=9
  ·rw[List.dropWhile_cons_of_pos (by simpa using h)]
   constructor
   ·intro k
    have l1:=(List.dropWhile_suffix (fun x=>([46,32,9]:List UInt8).contains x) (l:=r)).length_le
    have l2:=congrArg List.length k
    rw[zB5]at l2
    omega
   ·intro k
    exact absurd (by simpa using h) k
  ·rw[List.dropWhile_cons_of_neg (by simpa using h)]
   simpa using h
structure Small(h:Head):Prop where
 name:h.name.length<=4096
 value:h.value.length<=4096
 domain:h.domain.length<=1024
 path:h.path.length<=1024
 same:h.same<=3
theorem AV {h:Head}(g:Good h):Small h:=by
 have h1:=g.few
 have h2:=g.tH
 have h3:=g.YH
 exact⟨by omega,by omega,by split at h2<;>omega,h3,g.same⟩
theorem rJ {n:Int}(h: ∃t,Dt.civil (n/86400)=some t):(Dt.text n).length=29:=(FR h).2.2.1
end Hd
end Go.Proofs.YtdaaoopkkhfbhaaGreatDoor
namespace Go.Proofs.YtdaaoopkkhfbhaaGreatDoor
open Go.RowKit
theorem bV {P:Program}{d:Nat}{cs:Array Value}{W:World} : ∀fs:List Field,(∀f∈fs,f.name≠ "_" /\ ∃v,(part f.type cs f.offset).run P W= .ok v W/\(Op.equalIn d f.type v v).run P W= .ok true W)->(Op.eqFields d cs cs fs).run P W= .ok true W
 | [],_=>by simp[Op.eqFields]
 |f::fs,h=>by
  obtain⟨h1,v,h2,h3⟩:=h f (by simp)
  have ih:=bV (P:=P) (d:=d) (cs:=cs) (W:=W) fs (fun g hg=>h g (by simp[hg]))
  simp only[Op.eqFields,Sem.run_bind,h1,h2,h3,Result.andThen_ok,Sem.run_ite,Sem.run_pure,ne_eq,not_false_eq_true,if_true,ih]
  rfl
end Go.Proofs.YtdaaoopkkhfbhaaGreatDoor
namespace Go.Proofs.YtdaaoopkkhfbhaaGreatDoor
open Go.RowKit
def headA(h:Hd.Head):Array Value:= #[gA h.name,gA h.value,gA h.domain,gA h.path,.bool h.exp.isSome,.int .i64 (h.exp.getD 0),.bool h.age.isSome,.int .i64 ((h.age.getD 0:Nat):Int),.bool h.secure,.bool h.only,.int .i64 (h.same:Int)]
theorem eAr(h:Hd.Head):(headA h).size=11:=rfl
theorem MF(h:Hd.Head):(headA h).all (·.oneCell')=true:=by simp[headA,gA,Value.oneCell']
theorem CB:(Tryz.prog.info? 114).map (·.size)=some 11:=by kernel_rfl
theorem cO: #[Value.string ⟨#[]⟩,.string ⟨#[]⟩,.string ⟨#[]⟩,.string ⟨#[]⟩,.bool false,.int .i64 0,.bool false,.int .i64 0,.bool false,.bool false,.int .i64 0]=headA Hd.zero:=rfl
theorem cAR(h:Hd.Head)(W:World):(Op.equalIn 10000 114 (.agg (headA h)) (.agg (headA h))).run Tryz.prog W= .ok true W:=by
 obtain⟨fs,hf,hall⟩: ∃fs:Array Field,Tryz.prog.underlying 114=some (.struct fs)/\ ∀f∈fs.toList,f.name≠ "_" /\ ∃v,(part f.type (headA h) f.offset).run Tryz.prog W= .ok v W/\(Op.equalIn 9999 f.type v v).run Tryz.prog W= .ok true W:=by
  refine⟨_,Tryz.underlying114,?_⟩
  have ks: ∀s:List UInt8,(Op.equalIn 9999 9 (gA s) (gA s)).run Tryz.prog W= .ok true W:=fun s=>by
   unfold gA
   rw[run_equalIn_string W 9998 9 _ _ Tryz.underlying9]
   simp
  have kb: ∀b:Bool,(Op.equalIn 9999 4 (.bool b) (.bool b)).run Tryz.prog W= .ok true W:=fun b=>by
   rw[run_equalIn_bool' W 9998 4 _ _ Tryz.underlying4]
   simp
  have ki: ∀b:Int,(Op.equalIn 9999 2 (.int .i64 b) (.int .i64 b)).run Tryz.prog W= .ok true W:=fun b=>by
   rw[run_equalIn_int W 9998 2 .i64 .i64 _ _ Tryz.underlying2]
   simp
  have kn: ∀b:Int,(Op.equalIn 9999 3 (.int .i64 b) (.int .i64 b)).run Tryz.prog W= .ok true W:=fun b=>by
   rw[run_equalIn_int W 9998 3 .i64 .i64 _ _ Tryz.underlying3]
   simp
  have ps: ∀i v,(headA h)[i]? =some v->(part 9 (headA h) i).run Tryz.prog W= .ok v W:=fun i v hv=>run_part_plain W (by kernel_rfl) hv
  have pb: ∀i v,(headA h)[i]? =some v->(part 4 (headA h) i).run Tryz.prog W= .ok v W:=fun i v hv=>run_part_plain W (by kernel_rfl) hv
  have pi: ∀i v,(headA h)[i]? =some v->(part 2 (headA h) i).run Tryz.prog W= .ok v W:=fun i v hv=>run_part_plain W (by kernel_rfl) hv
  have pn: ∀i v,(headA h)[i]? =some v->(part 3 (headA h) i).run Tryz.prog W= .ok v W:=fun i v hv=>run_part_plain W (by kernel_rfl) hv
  intro f hfm
  simp only[List.mem_cons,List.not_mem_nil,or_false]at hfm
  rcases hfm with rfl|rfl|rfl|rfl|rfl|rfl|rfl|rfl|rfl|rfl|rfl
  ·exact⟨by decide,_,ps 0 _ rfl,ks _⟩
  ·exact⟨by decide,_,ps 1 _ rfl,ks _⟩
  ·exact⟨by decide,_,ps 2 _ rfl,ks _⟩
  ·exact⟨by decide,_,ps 3 _ rfl,ks _⟩
  ·exact⟨by decide,_,pb 4 _ rfl,kb _⟩
  ·exact⟨by decide,_,pi 5 _ rfl,ki _⟩
  ·exact⟨by decide,_,pb 6 _ rfl,kb _⟩
  ·exact⟨by decide,_,pi 7 _ rfl,ki _⟩
  ·exact⟨by decide,_,pb 8 _ rfl,kb _⟩
  ·exact⟨by decide,_,pb 9 _ rfl,kb _⟩
  ·exact⟨by decide,_,pn 10 _ rfl,kn _⟩
 have hl:Tryz.prog.fieldsOf 114=fs:=by unfold Program.fieldsOf;rw[hf]
 rw[run_equalIn_struct W 9999 114 _ _ (by rw[hl];exact hf) (by kernel_rfl),hl]
 exact bV fs.toList hall
theorem cAU(h:Hd.Head)(W:World):(binOp .eql 114 (.agg (headA h)) (.agg (headA h))).run Tryz.prog W= .ok (.bool true) W:=by
 rw[run_eql_struct,cAR h W];rfl
structure vC(g:Nat)(h:Hd.Head)(w w':World):Prop where
 row:Row w' g 114 (headA h)
 below:Below g w w'
section
variable {g:Nat} {h h':Hd.Head} {w w' w'':World}
theorem vC.on (k:vC g h w w')(hb:Below w'.heap.size w' w''):vC g h w w'':=⟨k.row.stays hb,k.below.trans (hb.mono (Nat.le_of_lt k.row.lt))⟩
theorem vC.cell (k:vC g h w w')(i:Nat):w'.cell? ⟨g,i,none⟩=(headA h)[i]? :=k.row.cell i
theorem vC.free (k:vC g h w w')(i:Nat):w'.frozen? ⟨g,i,none⟩=false:=k.row.free i
theorem vC.one (k:vC g h w w'){i:Nat}{u:Value}(e:(headA h).setIfInBounds i u=headA h'):vC g h' w (w'.setCell ⟨g,i,none⟩ u):=
 ⟨by have:=k.row.set i u;rw[e]at this;exact this,k.below.setCell (p:=⟨g,i,none⟩) (zB3 _) u⟩
theorem vC.two (k:vC g h w w'){i j:Nat}{u v:Value}(e:((headA h).setIfInBounds i u).setIfInBounds j v=headA h'):vC g h' w ((w'.setCell ⟨g,i,none⟩ u).setCell ⟨g,j,none⟩ v):=
 ⟨by have:=(k.row.set i u).set j v;rw[e]at this;exact this,(k.below.setCell (p:=⟨g,i,none⟩) (zB3 _) u).setCell (p:=⟨g,j,none⟩) (zB3 _) v⟩
end
theorem eAv(h:Hd.Head)(n:Int):((headA h).setIfInBounds 4 (.bool true)).setIfInBounds 5 (.int .i64 n)=headA {h with exp:=some n} :=rfl
theorem eAt(h:Hd.Head)(n:Nat):((headA h).setIfInBounds 6 (.bool true)).setIfInBounds 7 (.int .i64 (n:Int))=headA {h with age:=some n} :=rfl
theorem eAu(h:Hd.Head)(d:List UInt8):(headA h).setIfInBounds 2 (.string ⟨d.toArray⟩)=headA {h with domain:=d} :=rfl
theorem eAz(h:Hd.Head)(d:List UInt8):(headA h).setIfInBounds 3 (.string ⟨d.toArray⟩)=headA {h with path:=d} :=rfl
theorem eAC(h:Hd.Head):(headA h).setIfInBounds 8 (.bool true)=headA {h with secure:=true} :=rfl
theorem eAy(h:Hd.Head):(headA h).setIfInBounds 9 (.bool true)=headA {h with only:=true} :=rfl
theorem eAB(h:Hd.Head)(n:Nat):(headA h).setIfInBounds 10 (.int .i64 (n:Int))=headA {h with same:=n} :=rfl
def ZJ(o:Int×Hd.Head)(w:World)(e:Ending)(w':World):Prop:=e= .returned (.tuple #[.agg (headA o.2),.int .i64 o.1])/\Below w.heap.size w w'
structure mB(w:World):Prop where
 MC:PB w
 same:w.var? Tryz.prog "cracknel/header.sameNames" =some (FA Hd.FC)
theorem sM:Tryz.prog.globalNamed "cracknel/header.sameNames" =some 0:=by kernel_rfl
theorem mB.below {w w':World}(h:mB w)(hb:Below w.heap.size w w'):mB w':=⟨h.MC.below hb,Go.Joins.var_stays sM h.same hb (zB3 _)⟩
theorem mB.word {w:World}(h:mB w){i:Nat}{s:List UInt8}(hs:Hd.FC[i]? =some s):w.cell? ⟨0,i,none⟩=some (gA s):=by
 rw[World.var?_cell sM h.same i,ZK,hs];rfl
theorem mB.row {w:World}(h:mB w): ∃t fr,w.heap[0]? =some (.cells (FA Hd.FC) t fr):=by
 have hn:=h.same
 unfold World.var? at hn
 rw[sM]at hn
 dsimp only[Option.bind]at hn
 split at hn
 ·rename_i cs t fr hb
  cases hn
  exact⟨t,fr,hb⟩
 ·cases hn
end Go.Proofs.YtdaaoopkkhfbhaaGreatDoor
namespace Go.Proofs.YtdaaoopkkhfbhaaGreatDoor
open Go.ChangeShapes Go.WideShapes Go.ChangeAt Go.WideMaps Go.WideElems Go.RowKit
def LK:List (String×DataW Unit):= [("math/bits.deBruijn32tab",Rows.laid_math_bits_deBruijn32tab),("math/bits.deBruijn64tab",Rows.laid_math_bits_deBruijn64tab),("internal/strconv.uint64pow10",Rows.laid_internal_strconv_uint64pow10),("unicode/utf8.acceptRanges",Rows.laid_unicode_utf8_acceptRanges),("cracknel/date.monthLengths",Rows.laid_cracknel_date_monthLengths),("cracknel/date.monthNames",Rows.laid_cracknel_date_monthNames),("cracknel/date.weekDays",Rows.laid_cracknel_date_weekDays),("cracknel/header.sameNames",Rows.laid_cracknel_header_sameNames),("unicode/utf8.first",Rows.laid_unicode_utf8_first)]
theorem fAZ:Rows.laid_cracknel_header_sameNames (H:=Unit)= .agg (Hd.FC.map fun s=> .lit (.string s)):=by rfl
theorem eAd {W:World}(hL:laidMetH Tryz.prog LK W)(hS:W.ShapedOpen Tryz.prog):mB W:=by
 rw[MakeChecks.laidMetH_plain _ _ _ (by kernel_rfl)]at hL
 have h2:laidMet Tryz.prog (("math/bits.deBruijn64tab",Rows.laid_math_bits_deBruijn64tab):: [("internal/strconv.uint64pow10",Rows.laid_internal_strconv_uint64pow10),("unicode/utf8.acceptRanges",Rows.laid_unicode_utf8_acceptRanges),("cracknel/date.monthLengths",Rows.laid_cracknel_date_monthLengths),("cracknel/date.monthNames",Rows.laid_cracknel_date_monthNames),("cracknel/date.weekDays",Rows.laid_cracknel_date_weekDays),("cracknel/header.sameNames",Rows.laid_cracknel_header_sameNames),("unicode/utf8.first",Rows.laid_unicode_utf8_first)]) W:=laidMet.tail hL
 have h3:=laidMet.tail h2
 have h5:=laidMet.tail (laidMet.tail h3)
 have h6:=laidMet.tail h5
 have h7:=laidMet.tail h6
 have h8:=laidMet.tail h7
 rw[aAU]at h2
 rw[iAG]at h3
 rw[gAj]at h5
 rw[laidNames]at h6
 rw[gA1]at h7
 rw[fAZ]at h8
 refine⟨⟨⟨cell_of_shapedOpen_int (zero:= #[.int .i64 0]) (t:=3) hS (zB1 (by kernel_rfl)) (by kernel_rfl) rfl (by kernel_rfl) (by kernel_rfl) Tryz.underlying3,?_,?_⟩,?_,?_,?_⟩,?_⟩
 ·exact Lib.tabIs_of_head sV (by kernel_rfl) Tryz.underlying322 Tryz.underlying230 (by kernel_rfl) (by kernel_rfl) h3
 ·have:=Lib.tabIs_of_head rV (by kernel_rfl) Tryz.underlying329 Tryz.underlying5 (by kernel_rfl) (by kernel_rfl) h2
  exact this.cell rV 15 (by decide)
 ·exact Lib.tabIs_of_head NP (by kernel_rfl) Tryz.underlying312 Tryz.underlying3 (by kernel_rfl) (by kernel_rfl) h5
 ·exact aS rM (by kernel_rfl) Tryz.underlying304 Tryz.underlying9 (by kernel_rfl) (by kernel_rfl) h6
 ·exact aS OP (by kernel_rfl) Tryz.underlying305 Tryz.underlying9 (by kernel_rfl) (by kernel_rfl) h7
 ·exact aS sM (by kernel_rfl) Tryz.underlying248 Tryz.underlying9 (by kernel_rfl) (by kernel_rfl) h8
end Go.Proofs.YtdaaoopkkhfbhaaGreatDoor
namespace Go.Proofs.YtdaaoopkkhfbhaaGreatDoor
namespace Sx
abbrev Way:=Nat×List UInt8
def find(es:List Way)(k:Way):Option Nat:=if k∈es then some (es.idxOf k+1)else none
def walk(es:List Way):Nat->List (List UInt8)->Option Nat
 |j,[]=>some j
 |j,l::r=>match find es (j,l)with|some i=>walk es i r|none=>none
structure Kinds where
 name:Bool
 dC:Bool
 spare:Bool
def no:Kinds:=⟨false,false,false⟩
def Kinds.mark (K:Kinds)(k:Int):Kinds:=if k=1 then {K with name:=true} else if k=2 then {K with dC:=true} else {K with spare:=true}
def Kinds.of (K:Kinds)(k:Int):Bool:=if k=1 then K.name else if k=2 then K.dC else K.spare
structure Tab where
 es:List Way
 ends:List Kinds
def Tab.bare:Tab:=⟨[],[no]⟩
def step(t:Tab)(j:Nat)(l:List UInt8):Tab×Nat:=match find t.es (j,l)with|some i=>(t,i)|none=>(⟨t.es++ [(j,l)],t.ends++ [no]⟩,t.ends.length)
def lay(t:Tab)(ls:List (List UInt8)):Tab×Nat:=ls.foldl (fun s l=>step s.1 s.2 l) (t,0)
def mark(t:Tab)(j:Nat)(k:Int):Tab:=⟨t.es,t.ends.modify j (fun K=>K.mark k)⟩
def path(r:Ru.Rule):List (List UInt8):=(bA.labels ⟨1,r.name,bA.IA⟩).reverse
def right(r:Ru.Rule):Bool:=decide (Ru.line (Ru.text r)=(0,true,r))
def add(t:Tab)(r:Ru.Rule):Tab:=mark (lay t (path r)).1 (lay t (path r)).2 r.kind
def put(t:Tab)(r:Ru.Rule):Tab:=if right r=true then add t r else t
def new(rs:List Ru.Rule):Tab:=rs.foldl put Tab.bare
def along(t:Tab):Nat->List (List UInt8)->List Kinds
 |_,[]=> []
 |j,l::r=>match find t.es (j,l)with|some i=>(t.ends[i]?).getD no::along t i r|none=> []
def next(n:Nat)(K:Kinds)(c:Nat)(s:Nat×Nat):Nat×Nat:=
 (if K.dC=true/\c<n then max (if K.name=true then max s.1 c else s.1) (c+1)else if K.name=true then max s.1 c else s.1,if K.spare=true then c-1 else s.2)
def tally(n:Nat):List Kinds->Nat->Nat×Nat->Nat×Nat
 | [],_,s=>s
 |K::r,i,s=>tally n r (i+1) (next n K (i+1) s)
def pick(s:Nat×Nat):Nat:=if 0<s.2 then s.2 else s.1
def suffix(t:Tab)(h:bA.Host):Nat:=if bA.labels h= []then 0 else pick (tally (bA.labels h).length (along t 0 (bA.labels h).reverse) 0 (1,0))
def isPublic(n:Nat)(h:bA.Host):Bool:=decide (0<(bA.labels h).length)&&decide ((bA.labels h).length=n)
def site(n:Nat)(h:bA.Host):List UInt8:=
 if h.kind=1 then(match bA.XB h ((n:Int)+1)with|some d=>d.name|none=> [])else if bA.can h=true then bA.text h else []
theorem zN {r:Ru.Rule} :right r=true↔Ru.Can r:=by
 unfold right
 rw[decide_eq_true_eq]
 exact⟨fun h=>Ru.gAl h,fun h=>Ru.gAn h⟩
theorem jAB(r:Ru.Rule):right r=((Ru.line (Ru.text r)).2.1&&decide ((Ru.line (Ru.text r)).2.2=r)):=by
 unfold right
 rcases Ru.DQ (Ru.text r)with⟨x,h1,_⟩|h1|h1
 ·rw[h1,Bool.true_and,decide_eq_decide];simp
 ·rw[h1,Bool.false_and,decide_eq_false_iff_not];simp
 ·rw[h1,Bool.false_and,decide_eq_false_iff_not];simp
theorem iAs {r:Ru.Rule}(h:Ru.Can r):path r=(Oct.split 46 r.name).reverse:=by unfold path;rw[bA.uM h.good]
theorem uR: ∀s:List UInt8,(Oct.split 46 s).length<=s.length+1
 | []=>zB3 _
 |c::r=>by
  have ih:=uR r
  rw[Oct.DC]
  split
  ·rw[zB5,zB5];omega
  ·cases e:Oct.split 46 r with
   |nil=>exact absurd e (Oct.ZF 46 r)
   |cons p ps=>rw[e,zB5]at ih;simp;omega
theorem xY {r:Ru.Rule}(h:Ru.Can r):(path r).length<=254:=by
 have:=uR r.name
 have:=h.good.few
 rw[iAs h,List.length_reverse];omega
theorem aX(h:bA.Host):(bA.labels h).length<=254:=by
 by_cases hl:bA.labels h= []
 ·rw[hl];simp
 ·obtain⟨_,g,_,e⟩:=bA.MG hl
  have:=uR h.name
  have:=g.few
  rw[e];omega
structure Tree(es:List Way):Prop where
 once:es.Nodup
 back: ∀(i:Nat)(e:Way),es[i]? =some e->e.1<=i
theorem uK {es:List Way}{k:Way}{i:Nat}(h:find es k=some i):1<=i/\i<=es.length/\es[i-1]? =some k:=by
 unfold find at h
 split at h
 ·rename_i hm
  have e:=zB2 h
  have hl:=List.idxOf_lt_length_of_mem hm
  subst e
  refine⟨by omega,by omega,?_⟩
  rw[Nat.add_sub_cancel,List.getElem?_eq_getElem hl,List.getElem_idxOf]
 ·cases h
theorem dAc {es m:List Way}{k:Way}{i:Nat}(h:find es k=some i):find (es++m) k=some i:=by
 unfold find at h⊢
 split at h
 ·rename_i hm
  rw[if_pos (List.mem_append.2 (.inl hm)),List.idxOf_append,if_pos hm];exact h
 ·cases h
theorem bF {es:List Way}{k:Way} :find es k=none↔k∉es:=by
 unfold find
 split
 ·simp_all
 ·simp_all
theorem kV {es:List Way}{k:Way}(h:find es k=none):find (es++ [k]) k=some (es.length+1):=by
 unfold find
 rw[if_pos (by simp),List.idxOf_append,if_neg (bF.1 h)]
 simp
theorem dAe {es:List Way}{k q:Way}(h:k≠q):find (es++ [q]) k=find es k:=by
 unfold find
 by_cases hm:k∈es
 ·rw[if_pos hm,if_pos (List.mem_append.2 (.inl hm)),List.idxOf_append,if_pos hm]
 ·rw[if_neg hm,if_neg]
  intro e
  rcases List.mem_append.1 e with e|e
  ·exact hm e
  ·exact h (List.mem_singleton.1 e)
theorem cS {es m:List Way} : ∀ {p:List (List UInt8)}{j i:Nat},walk es j p=some i->walk (es++m) j p=some i
 | [],_,_,h=>h
 |l::r,j,i,h=>by
  unfold walk at h⊢
  cases e:find es (j,l)with
  |none=>rw[e]at h;cases h
  |some x=>
   rw[e]at h
   rw[dAc e]
   exact cS h
theorem bS(es:List Way)(j:Nat)(l:List UInt8)(r:List (List UInt8)):walk es j (l::r)=(find es (j,l)).bind fun i=>walk es i r:=by
 rw[walk]
 cases find es (j,l)<;>rfl
theorem YN(es:List Way): ∀(p:List (List UInt8))(j:Nat)(l:List UInt8),walk es j (p++ [l])=(walk es j p).bind fun i=>find es (i,l)
 | [],j,l=>by
  rw[List.nil_append,bS]
  show(find es (j,l)).bind some=find es (j,l)
  cases find es (j,l)<;>rfl
 |q::p,j,l=>by
  rw[List.cons_append,bS,bS]
  cases find es (j,q)with
  |none=>rfl
  |some i=>exact YN es p i l
theorem dI {α:Type} : ∀(p:List α),p= []\/ ∃q x,p=q++ [x]
 | []=> .inl rfl
 |x::r=>by
  rcases dI r with rfl|⟨q,y,rfl⟩
  ·exact .inr ⟨[],x,rfl⟩
  ·exact .inr ⟨x::q,y,rfl⟩
theorem walk_last {es:List Way}{p:List (List UInt8)}{l:List UInt8}{j:Nat}(h:walk es 0 (p++ [l])=some j): ∃i,walk es 0 p=some i/\find es (i,l)=some j:=by
 rw[YN]at h
 cases e:walk es 0 p with
 |none=>rw[e]at h;cases h
 |some i=>rw[e]at h;exact⟨i,rfl,h⟩
theorem mAh {es:List Way}{p:List (List UInt8)}{j:Nat}(h:walk es 0 p=some j):j<=es.length:=by
 rcases dI p with rfl|⟨p,l,rfl⟩
 ·have e:j=0:=(zB2 h).symm
  omega
 ·obtain⟨i,_,hf⟩:=walk_last h
  exact(uK hf).2.1
structure Well(t:Tab):Prop where
 tree:Tree t.es
 size:t.ends.length=t.es.length+1
theorem KT:Well Tab.bare:=⟨⟨List.nodup_nil,fun i e h=>by simp[Tab.bare]at h⟩,rfl⟩
theorem DZ {t:Tab}{j:Nat}{l:List UInt8}(ht:Well t)(hj:j<=t.es.length):Well (step t j l).1/\(step t j l).2<=(step t j l).1.es.length/\(∃m,(step t j l).1.es=t.es++m)/\find (step t j l).1.es (j,l)=some (step t j l).2/\(step t j l).1.es.length<=t.es.length+1/\(∀i:Nat,((step t j l).1.ends[i]?).getD no=(t.ends[i]?).getD no):=by
 unfold step
 cases e:find t.es (j,l)with
 |some i=>exact⟨ht,(uK e).2.1,⟨[],by simp⟩,e,by dsimp only;omega,fun _=>rfl⟩
 |none=>
  dsimp only
  refine⟨⟨⟨?_,?_⟩,?_⟩,?_,⟨_,rfl⟩,?_,?_,?_⟩
  ·rw[List.nodup_append]
   refine⟨ht.tree.once,by simp,fun a ha b hb hab=>?_⟩
   rw[List.mem_singleton]at hb
   rw[hab,hb]at ha
   exact bF.1 e ha
  ·intro i x hx
   dsimp only at hx
   rcases Nat.lt_or_ge i t.es.length with hi|hi
   ·rw[List.getElem?_append_left hi]at hx
    exact ht.tree.back i x hx
   ·rw[List.getElem?_append_right hi]at hx
    obtain⟨hz,hx⟩:=List.getElem?_eq_some_iff.1 hx
    rw[List.length_singleton]at hz
    have:x=(j,l):=by rw[<-hx];simp
    rw[this];dsimp only;omega
  ·rw[zB4,zB4,ht.size];rfl
  ·rw[zB4,ht.size];simp
  ·rw[kV e,ht.size]
  ·rw[zB4];simp
  ·intro i
   rcases Nat.lt_or_ge i t.ends.length with hi|hi
   ·rw[List.getElem?_append_left hi]
   ·rw[List.getElem?_append_right hi,List.getElem?_eq_none_iff.2 hi]
    match i-t.ends.length with
    |0=>rfl
    |k+1=>rfl
theorem xQ(t:Tab)(p:List (List UInt8))(l:List UInt8):lay t (p++ [l])=step (lay t p).1 (lay t p).2 l:=by
 unfold lay
 rw[List.foldl_append];rfl
theorem MK {t:Tab}(ht:Well t): ∀(n:Nat)(p:List (List UInt8)),p.length=n->
  Well (lay t p).1/\(lay t p).2<=(lay t p).1.es.length/\(∃m,(lay t p).1.es=t.es++m)/\walk (lay t p).1.es 0 p=some (lay t p).2/\(lay t p).1.es.length<=t.es.length+p.length/\(∀i:Nat,((lay t p).1.ends[i]?).getD no=(t.ends[i]?).getD no)
 |0,p,hp=>by
  have e:p= []:=List.eq_nil_of_length_eq_zero hp
  subst e
  exact⟨ht,Nat.zero_le _,⟨[],by simp[lay]⟩,rfl,zB3 _,fun _=>rfl⟩
 |n+1,p,hp=>by
  rcases dI p with rfl|⟨p,l,rfl⟩
  ·cases hp
  ·have hpn:p.length=n:=by simpa using hp
   obtain⟨h1,h2,⟨m,h3⟩,h4,h5,h6⟩:=MK ht n p hpn
   rw[xQ]
   obtain⟨g1,g2,⟨m2,g3⟩,g4,g5,g6⟩:=DZ (l:=l) h1 h2
   refine⟨g1,g2,⟨m++m2,by rw[g3,h3,List.append_assoc]⟩,?_,by rw[zB4,List.length_singleton];omega,fun i=>(g6 i).trans (h6 i)⟩
   rw[YN]
   have:walk (step (lay t p).1 (lay t p).2 l).1.es 0 p=some (lay t p).2:=by rw[g3];exact cS h4
   rw[this];exact g4
theorem gAF(K:Kinds){k q:Int}(hk:k=1\/k=2\/k=3)(hq:q=1\/q=2\/q=3):(K.mark k).of q=(decide (k=q)||K.of q):=by
 obtain⟨a,b,c⟩:=K
 rcases hk with rfl|rfl|rfl<;>rcases hq with rfl|rfl|rfl<;>rfl
structure Told(t:Tab)(rs:List Ru.Rule):Prop where
 well:Well t
 laid: ∀r∈rs,Ru.Can r-> ∃j,walk t.es 0 (path r)=some j
 told: ∀(j:Nat)(k:Int),k=1\/k=2\/k=3->(((t.ends[j]?).getD no).of k=true↔ ∃r∈rs,Ru.Can r/\r.kind=k/\walk t.es 0 (path r)=some j)
theorem hAr(k:Int):no.of k=false:=by unfold Kinds.of;split<;>(try split)<;>rfl
theorem lAu:Told Tab.bare []:=by
 refine⟨KT,by simp,fun j k hk=>?_⟩
 have e:(Tab.bare.ends[j]?).getD no=no:=by
  match j with
  |0=>rfl
  |j+1=>rfl
 rw[e,hAr];simp
theorem lAt {t:Tab}{rs:List Ru.Rule}{r:Ru.Rule}(h:Told t rs)(hr:Ru.Can r):Told (add t r) (rs++ [r]):=by
 obtain⟨h1,h2,⟨m,h3⟩,h4,h5,h6⟩:=MK h.well _ (path r) rfl
 unfold add mark
 generalize hs:lay t (path r)=s at*
 have hes: ∀x∈rs,Ru.Can x-> ∀j,walk s.1.es 0 (path x)=some j↔walk t.es 0 (path x)=some j:=by
  intro x hx hc j
  obtain⟨i,hi⟩:=h.laid x hx hc
  have hi2:walk s.1.es 0 (path x)=some i:=by rw[h3];exact cS hi
  rw[hi,hi2]
 refine⟨⟨h1.tree,by dsimp only;rw[List.length_modify];exact h1.size⟩,?_,?_⟩
 ·intro x hx hc
  rcases List.mem_append.1 hx with hx|hx
  ·obtain⟨i,hi⟩:=h.laid x hx hc
   exact⟨i,(hes x hx hc i).2 hi⟩
  ·rw[List.mem_singleton]at hx
   subst hx
   exact⟨_,h4⟩
 ·intro j k hk
  dsimp only
  have hlt:s.2<s.1.ends.length:=by rw[h1.size];omega
  have e:((s.1.ends.modify s.2 (fun K=>K.mark r.kind))[j]?).getD no=if s.2=j then((t.ends[j]?).getD no).mark r.kind else(t.ends[j]?).getD no:=by
   rw[List.getElem?_modify,<-h6 j]
   split
   ·rename_i he
    subst he
    rw[List.getElem?_eq_getElem hlt];rfl
   ·cases s.1.ends[j]? <;>rfl
  have ex:(∃x∈rs++ [r],Ru.Can x/\x.kind=k/\walk s.1.es 0 (path x)=some j)↔ ((s.2=j/\r.kind=k)\/ ∃x∈rs,Ru.Can x/\x.kind=k/\walk t.es 0 (path x)=some j):=by
   constructor
   ·rintro⟨x,hx,hc,hk2,hw⟩
    rcases List.mem_append.1 hx with hx|hx
    ·exact .inr ⟨x,hx,hc,hk2,(hes x hx hc j).1 hw⟩
    ·rw[List.mem_singleton]at hx
     subst hx
     rw[h4]at hw
     exact .inl ⟨zB2 hw,hk2⟩
   ·rintro(⟨e1,e2⟩|⟨x,hx,hc,hk2,hw⟩)
    ·exact⟨r,by simp,hr,e2,by rw[h4,e1]⟩
    ·exact⟨x,by simp[hx],hc,hk2,(hes x hx hc j).2 hw⟩
  rw[e,ex,<-h.told j k hk]
  by_cases hj:s.2=j
  ·rw[if_pos hj,gAF _ hr.kind hk]
   simp[hj]
  ·rw[if_neg hj]
   simp[hj]
theorem lAx {t:Tab}{rs:List Ru.Rule}(h:Told t rs)(r:Ru.Rule):Told (put t r) (rs++ [r]):=by
 unfold put
 split
 ·rename_i hr
  exact lAt h (zN.1 hr)
 ·rename_i hr
  have hn: ¬Ru.Can r:=fun e=>hr (zN.2 e)
  refine⟨h.well,fun x hx hc=>?_,fun j k hk=>?_⟩
  ·rcases List.mem_append.1 hx with hx|hx
   ·exact h.laid x hx hc
   ·rw[List.mem_singleton]at hx
    exact absurd (hx▸hc) hn
  ·rw[h.told j k hk]
   constructor
   ·rintro⟨x,hx,hh⟩;exact⟨x,by simp[hx],hh⟩
   ·rintro⟨x,hx,hc,hh⟩
    rcases List.mem_append.1 hx with hx|hx
    ·exact⟨x,hx,hc,hh⟩
    ·rw[List.mem_singleton]at hx
     exact absurd (hx▸hc) hn
theorem LQ(rs:List Ru.Rule)(r:Ru.Rule):new (rs++ [r])=put (new rs) r:=by
 unfold new
 rw[List.foldl_append];rfl
theorem NR: ∀(n:Nat)(rs:List Ru.Rule),rs.length=n->Told (new rs) rs
 |0,rs,h=>by
  have e:rs= []:=List.eq_nil_of_length_eq_zero h
  subst e
  exact lAu
 |n+1,rs,h=>by
  rcases dI rs with rfl|⟨q,x,rfl⟩
  ·cases h
  ·rw[LQ]
   exact lAx (NR n q (by simpa using h)) x
theorem iAU {t:Tab}(ht:Well t)(r:Ru.Rule):(put t r).es.length<=t.es.length+254:=by
 unfold put
 split
 ·rename_i hr
  have h5:=(MK ht _ (path r) rfl).2.2.2.2.1
  have:=xY (zN.1 hr)
  unfold add mark
  dsimp only
  omega
 ·omega
theorem UX: ∀(n:Nat)(rs:List Ru.Rule),rs.length=n->(new rs).es.length<=n*254
 |0,rs,h=>by
  have e:rs= []:=List.eq_nil_of_length_eq_zero h
  subst e
  exact Nat.zero_le _
 |n+1,rs,h=>by
  rcases dI rs with rfl|⟨q,x,rfl⟩
  ·cases h
  ·rw[LQ]
   have:=UX n q (by simpa using h)
   have:=iAU (NR _ q rfl).well x
   omega
end Sx
end Go.Proofs.YtdaaoopkkhfbhaaGreatDoor
namespace Go.Proofs.YtdaaoopkkhfbhaaGreatDoor
namespace Sx
structure Top(N W:Nat->Prop)(n p:Nat):Prop where
 one:1<=p
 is:p=1\/N p\/ ∃c,W c/\c<n/\p=c+1
 name: ∀c,N c->c<=p
 dC: ∀c,W c->c<n->c+1<=p
structure BI(X:Nat->Prop)(s:Nat):Prop where
 is:s=0\/X (s+1)
 all: ∀c,X c->c-1<=s
theorem Top.le {N W N' W':Nat->Prop}{n p q:Nat}(h:Top N W n p)(g:Top N' W' n q)(hN: ∀c,N c->N' c)(hW: ∀c,W c->W' c):p<=q:=by
 rcases h.is with e|e|⟨c,hc,hn,e⟩
 ·rw[e];exact g.one
 ·exact g.name _ (hN _ e)
 ·rw[e];exact g.dC _ (hW _ hc) hn
theorem Top.same {N W:Nat->Prop}{n p q:Nat}(h:Top N W n p)(g:Top N W n q):p=q:=Nat.le_antisymm (h.le g (fun _ k=>k) (fun _ k=>k)) (g.le h (fun _ k=>k) (fun _ k=>k))
theorem BI.le {X X':Nat->Prop}{s q:Nat}(h:BI X s)(g:BI X' q)(hX: ∀c,X c->X' c):s<=q:=by
 rcases h.is with e|e
 ·omega
 ·have:=g.all _ (hX _ e);omega
theorem BI.same {X:Nat->Prop}{s q:Nat}(h:BI X s)(g:BI X q):s=q:=Nat.le_antisymm (h.le g fun _ k=>k) (g.le h fun _ k=>k)
theorem XZ(n:Nat)(K:Kinds): ∀(Ks:List Kinds)(i:Nat)(s:Nat×Nat),tally n (Ks++ [K]) i s=next n K (i+Ks.length+1) (tally n Ks i s)
 | [],i,s=>rfl
 |Q::Ks,i,s=>by
  have ih:=XZ n K Ks (i+1) (next n Q (i+1) s)
  rw[List.cons_append,tally,ih,tally,zB5]
  congr 1;omega
def N(Ks:List Kinds)(c:Nat):Prop:=1<=c/\((Ks[c-1]?).getD no).name=true
def W(Ks:List Kinds)(c:Nat):Prop:=1<=c/\((Ks[c-1]?).getD no).dC=true
def X(Ks:List Kinds)(c:Nat):Prop:=1<=c/\((Ks[c-1]?).getD no).spare=true
theorem kAR {t:Tab}{h:bA.Host}(hl:bA.labels h= []):suffix t h=0:=by unfold suffix;rw[if_pos hl]
end Sx
end Go.Proofs.YtdaaoopkkhfbhaaGreatDoor
namespace Go.Proofs.YtdaaoopkkhfbhaaGreatDoor
open Go.RowKit
theorem A5(r:Int)(w:World):
  Calls Tryz.prog 242 #[.int .i32 r] w fun e w'=>e= .returned (.bool (validRune r))/\w=w':=by
 go_enter Tryz.func242,Tryz.ntmps242
 go_wp2
 all_goals
  go_ret
  exact⟨tA (by unfold validRune;rw[Bool.eq_iff_iff];simp;try omega),rfl⟩
theorem jA6 {P:Program}{f:FuncId}{args:Array Value}{w:World}{k n:Nat}{v:Value}(h:Calls P f args (w.drewN (k+n)) fun e w'=>e= .returned v/\w.drewN (k+n)=w'):
  Calls P f args (w.drewN (k+n)) fun e w''=>e= .returned v/\ ∃m,w''=w.drewN (k+m):=h.mono fun _ _ hh=>⟨hh.1,n,hh.2.symm⟩
theorem below_draws(B:Nat)(w:World)(n:Nat):Below B w (w.drewN n):=(show eC w (w.drewN n) from⟨n,rfl⟩).below B
theorem eAQ(s:ByteArray)(c:UInt8)(k:Nat)(hc:128<=c.toNat)(hs: ∀b∈s.data.toList,b.toNat<128)(W:World):
  Calls Tryz.prog 241 #[.string (s.extract k s.size),.int .u8 (c.toNat:Int)] W fun e w'=>e= .returned (.int .i64 (-1))/\W=w':=by
 refine(Tryz.strings_IndexByte (s.extract k s.size) (c.toNat:Int) W).mono fun e w' ⟨he,hw⟩=>⟨?_,hw.symm⟩
 rw[he]
 have e1:((c.toNat:Int)).toNat.toUInt8=c:=by simp
 rw[e1,iK.YX hc (fun b hb=>hs b (mem_extract hb))]
theorem jAV(s:ByteArray)(r:Int)(w:World)(h0:128<=r)(hs: ∀b∈s.data.toList,b.toNat<128)(hz:s.size<=1000):
  Calls Tryz.prog 193 #[.string s,.int .i32 r] w fun e w'=>e= .returned (.int .i64 (-1))/\Below w.heap.size w w':=by
 have h1:(0:Int)<=r:=by omega
 have h2: ¬r<128:=by omega
 by_cases he:r=65533
 ·have he1:(r==65533)=true:=by rw[he];rfl
  have HS:=zA7 hs
  clear hs he
  go_enter Tryz.func193,Tryz.ntmps193
  go_wp2
  go_loopg [5,6] s.size (fun g _ _ wx=> ∃i:Nat,i+g=s.size/\wx=w.iter s i)
  case atStart=>exact⟨0,by omega,rfl⟩
  case round=>
   obtain⟨i,hig,rfl⟩:=hrel
   cases gk with
   |zero=>
    obtain rfl:i=s.size:=by omega
    have hnx:=run_next_end (P:=Tryz.prog) w s s.size
    go_wp2
    go_ret
    exact⟨rfl,(Below.refl w.heap.size w).alloc (zB3 _) _⟩
   |succ g=>
    have hi:i<s.size:=by omega
    obtain⟨x,hx⟩: ∃x:UInt8,s[i]'hi=x:=⟨_,rfl⟩
    have hx128:x.toNat<128:=HS.out x (by rw[<-hx];exact Array.getElem_mem_toList (xs:=s.data) hi)
    have hnx:=fun ty=>run_next_ascii (P:=Tryz.prog) w s i ty hi (by rw[hx];exact hx128)
    rw[hx]at hnx
    have hne:((x.toNat:Int)==65533)=false:=beq_eq_false_iff_ne.2 (by omega)
    go_wp2
    go_roundg g
    case measure=>omega
    case rel=>exact⟨i+1,by omega,rfl⟩
 have he1:(r==65533)=false:=beq_eq_false_iff_ne.2 he
 cases hv:validRune r with
 |false=>
  have H:=zA7 (fun W=>A5 r W)
  rw[hv]at H
  clear hv hs
  go_enter Tryz.func193,Tryz.ntmps193
  go_wp2_with (go_at_call 242;refine(H.out _).mono ?_;rintro e w' ⟨rfl,rfl⟩)
  go_ret
  exact⟨rfl,Below.refl _ _⟩
 |true=>
  obtain⟨f1,f2,f3⟩:=encode_facts r (by rw[validRune_eq];exact hv) h0
  have H:=zA7 (fun W=>A5 r W)
  rw[hv]at H
  have eAO:=Tryz.underlying21
  have hstr:=Tryz.underlying9
  obtain⟨E,hE⟩: ∃E,Utf8.encode r=E:=⟨_,rfl⟩
  have HE:=fun W=>run_convert_int_string (P:=Tryz.prog) (w:=W) (src:=21) (dst:=9) (k:= .i32) (n:=r) (hs:=by rw[eAO];rfl) (hd:=hstr)
  rw[hE]at f1 f2 f3
  have hlast:E.size-1<E.size:=by omega
  obtain⟨c,hc⟩: ∃c,E[E.size-1]'hlast=c:=⟨_,rfl⟩
  have eAo:=f3 hlast
  rw[hc]at eAo
  have hw1:IntKind.i64.wrap ((E.size:Int)-1)=((E.size-1:Nat):Int):=by rw[IntKind.wrap_i64];omega
  have HS:=zA7 hs
  have HC:=zA7 hc
  clear hv hs f3 hc
  generalize hl:E.size-1=l at*
  go_enter Tryz.func193,Tryz.ntmps193
  go_wp2_with (go_at_call 242;refine(H.out _).mono ?_;rintro e w' ⟨rfl,rfl⟩)
  go_step3
  go_wp2
  go_loopw [9,10,11,12] (fun i _ _ _ wr=>i= .int .i64 (l:Int)/\wr=w) (fun _ _ _ _ _=>0)
  case atStart=>exact⟨rfl,rfl⟩
  case round=>
   obtain⟨rfl,rfl⟩:=hrel
   by_cases hlt:l<s.size
   ·have hsl:(s[l]'hlt).toNat<128:=HS.out _ (Array.getElem_mem_toList (xs:=s.data) hlt)
    have hcl:(E[l]'hlast).toNat=c.toNat:=by rw[HC.out]
    have hne:(((s[l]'hlt).toNat:Int) !=((E[l]'hlast).toNat:Int))=true:=by rw[bne_iff_ne];omega
    have HI:=zA7 (eAQ s (E[l]'hlast) (l+1) (by omega) HS.out)
    have hw2:IntKind.i64.wrap ((l:Int)+1)=(l:Int)+1:=by rw[IntKind.wrap_i64];omega
    have hle0:(0:Int)<=(l:Int)+1:=by omega
    have hle1:(l:Int)+1<=(s.size:Int):=by omega
    have hto:((l:Int)+1).toNat=l+1:=by omega
    clear hsl hcl HS HC
    go_wp2
    go_step3
    go_wp2
    go_quiet (fail)
    go_wp2
    go_quiet ((go_at_call 241;exact jA6 (HI.out _)))
    go_wp2
    rw[Exit.noGoto_ret]
    go_wp2
    rw[Exit.noGoto_ret]
    go_ret
    exact⟨rfl,below_draws _ _ _⟩
   ·go_wp2
    rw[Exit.noGoto_ret]
    go_ret
    exact⟨rfl,Below.refl _ _⟩
theorem aAH(s chars:ByteArray)(w:World)(h2:2<=chars.size)(h8:s.size<=8)(hz:chars.size<=1000)(hch: ∀b∈chars.data.toList,b.toNat<128):
  Calls Tryz.prog 139 #[.string s,.string chars] w fun e w'=>e= .returned (.int .i64 (Lib.indexAny s.data.toList chars.data.toList))/\Below w.heap.size w w':=by
 have hemp:chars.toList.isEmpty=false:=by
  rw[Lib.toList_data]
  cases h:chars.data.toList with
  |nil=>have:=Lib.size_eq chars;rw[h,List.length_nil]at this;omega
  |cons _ _=>rfl
 have hn1:((chars.size:Int)==1)=false:=beq_eq_false_iff_ne.2 (by omega)
 have h8z:decide ((8:Int)<(s.size:Int))=false:=zA8 (by omega)
 have HS:=zA7 (fun W=>Tryz.strings_shouldUseASCIISet (s.size:Int) W)
 rw[h8z]at HS
 have HR:=zA7 (fun r W h=>jAV chars r W h hch hz)
 have HA:=zA7 (fun r W h0 h1=>Tryz.strings_IndexRune_ascii chars r W h0 h1)
 have HC:=zA7 hch
 clear h8z hch
 go_enter Tryz.func139,Tryz.ntmps139
 go_wp2_with (go_at_call 194;refine(HS.out _).mono ?_;rintro e w' ⟨rfl,hw⟩;rw[hw])
 go_loopg [9,10] s.size (fun g _ _ wx=> ∃i:Nat,i+g=s.size/\wx.heap[w.heap.size]? =some (.stringIter s i)/\Below w.heap.size w wx/\Lib.NoAny s.data.toList chars.data.toList i)
 case atStart=>exact⟨0,by omega,World.iter_heap w s 0,(Below.refl w.heap.size w).alloc (zB3 _) _,Lib.NoAny.zero _ _⟩
 case round=>
  obtain⟨i,hig,hk,hb,hno⟩:=hrel
  have HN:=zA7 hno
  clear hno
  cases gk with
  |zero=>
   obtain rfl:i=s.size:=by omega
   have hnx:=fun ty=>Go.Lib.run_next_end_at (P:=Tryz.prog) wr w.heap.size s s.size ty hk (by omega)
   have HB:=zA7 hb
   clear hb hk
   go_wp2
   go_ret
   exact⟨BC (by rw[Lib.indexAny_none (by rw[<-Lib.size_eq];exact HN.out)]),HB.out⟩
  |succ g=>
   have hi:i<s.size:=by omega
   obtain⟨x,hx⟩: ∃x:UInt8,s[i]'hi=x:=⟨_,rfl⟩
   have hxl:s.data.toList[i]? =some x:=by rw[<-hx];exact Lib.data_getElem? s i hi
   have hk2:=fun p=>Go.Lib.iterAt_heap wr w.heap.size s i p hk
   have hb2:=fun p=>Go.Lib.below_iterAt hb (zB3 w.heap.size) s p
   by_cases hx128:x.toNat<128
   ·have hnx:=fun ty=>Go.Lib.run_next_ascii_at (P:=Tryz.prog) wr w.heap.size s i ty hk hi (by rw[hx];exact hx128)
    rw[hx]at hnx
    have hk3:=zA7 (hk2 (i+1))
    have hb3:=zA7 (hb2 (i+1))
    have Hx:=zA7 hxl
    clear hk2 hb2 hk hb hxl hx
    generalize wr.iterAt w.heap.size s (i+1)=wy at*
    have hcon:=Lib.contains_iff_indexByte chars.data.toList x
    have hback:((x.toNat:Int)).toNat.toUInt8=x:=by simp
    have HX:=zA7 (HA.out (x.toNat:Int) wy (by omega) (by omega))
    rw[hback]at HX
    clear hback
    cases hin:chars.data.toList.contains x with
    |false=>
     rw[hin]at hcon
     have hlt: ¬((0:Int)<=Lib.indexByte chars.data.toList x):=of_decide_eq_false hcon.symm
     have HI:=zA7 hin
     clear hcon hin
     go_wp2_with (go_at_call 193;refine HX.out.mono ?_;rintro e w' ⟨rfl,hw⟩;rw[hw])
     go_roundg g
     case measure=>omega
     case rel=>exact⟨i+1,by omega,hk3.out,hb3.out,HN.out.succ Hx.out HI.out⟩
    |true=>
     rw[hin]at hcon
     have hge:(0:Int)<=Lib.indexByte chars.data.toList x:=zB1 hcon.symm
     have HI:=zA7 hin
     clear hcon hin
     go_wp2_with (go_at_call 193;refine HX.out.mono ?_;rintro e w' ⟨rfl,hw⟩;rw[hw])
     go_ret
     exact⟨BC (Lib.indexAny_hit HN.out Hx.out HI.out).symm,hb3.out⟩
   ·have hx2:128<=(s[i]'hi).toNat:=by rw[hx];omega
    obtain⟨d1,d2⟩:=decode_high s i hi hx2
    have d3:=iK.cAo s i hi hx2
    have hnx:=fun ty=>Go.Lib.run_next_any_at (P:=Tryz.prog) wr w.heap.size s i ty hk hi
    generalize(Utf8.decode s i).2=wd at*
    generalize(Utf8.decode s i).1=r at*
    have hle:i+wd<=s.size:=by
     obtain⟨hh,_⟩:=d3 (i+wd-1) (by omega) (by omega)
     omega
    have eAZ:=zA7 (iK.aAJ (j:=i+wd) HN.out (fun k b h1 h2 h3=>by
     obtain⟨hh,h4⟩:=d3 k h1 h2
     have e:=Lib.data_getElem? s k hh
     rw[h3]at e
     refine iK.gAu HC.out ?_
     rw[zB2 e];exact h4))
    have hk3:=zA7 (hk2 (i+wd))
    have hb3:=zA7 (hb2 (i+wd))
    clear hk2 hb2 hk hb hxl hx d3 HN
    generalize wr.iterAt w.heap.size s (i+wd)=wy at*
    have hlt:w.heap.size<wy.heap.size:=(Array.getElem?_eq_some_iff.1 hk3.out).1
    have HX:=zA7 (HR.out (r:Int) wy (by omega))
    go_wp2_with fail
    refine HX.out.mono ?_
    rintro e w4 ⟨rfl,hb4⟩
    have hk5:=zA7 ((hb4.block _ hlt).trans hk3.out)
    have hb5:=zA7 (hb3.out.trans (hb4.mono (by omega)))
    clear hb4 hk3 hb3
    go_wp2
    go_roundg (s.size- (i+wd))
    case measure=>omega
    case rel=>exact⟨i+wd,by omega,hk5.out,hb5.out,eAZ.out⟩
theorem aAI(s chars:ByteArray)(w:World)(h2:2<=chars.size)(hz:chars.size<=1000)(hch: ∀b∈chars.data.toList,b.toNat<128)(hs:s.size<=4294967280):
  Calls Tryz.prog 139 #[.string s,.string chars] w fun e w'=>e= .returned (.int .i64 (Lib.indexAny s.data.toList chars.data.toList))/\Below w.heap.size w w':=by
 by_cases h8:s.size<=8
 ·exact aAH s chars w h2 h8 hz hch
 ·refine(Tryz.strings_IndexAny_long (zero_of_info (n:=256) (by kernel_rfl)).1 s chars w h2 (by omega) (by omega) (by omega) (fun j b hj=>hch b (List.mem_of_getElem? hj))).mono fun e w' ⟨he,hw⟩=>⟨he,?_⟩
  rw[hw]
  exact((Below.refl w.heap.size w).alloc (zB3 _) _).alloc (by show w.heap.size<=(w.heap.push _).size;simp) _
end Go.Proofs.YtdaaoopkkhfbhaaGreatDoor
