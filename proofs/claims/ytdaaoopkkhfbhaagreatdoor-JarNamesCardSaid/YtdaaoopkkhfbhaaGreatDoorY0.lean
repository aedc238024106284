/- Plain functions on lists of bytes, and plain lemmas on them: what the calls of package octet answer. No program is named here. -/
import Derived.Test.YtdaaoopkkhfbhaaGreatDoorYSteps
import Derived.WalkKit
import Derived.Lib.Strings
import Derived.Lib.IndexMore
import Derived.Lib.Join
import Derived.Lib.ItoaNum
import Derived.Laws.BitsAllLaws
import Derived.Lib.IndexAny
import Derived.Lib.IndexBytes
import Derived.Laws.RangeAny
import Derived.Lib.SlTrimSet
namespace Go.Proofs.YtdaaoopkkhfbhaaGreatDoor
namespace Oct
def low(c:UInt8):UInt8:=if 65<=c.toNat/\c.toNat<=90 then c+32 else c
def EA(c:UInt8):Bool:=decide (c.toNat=32\/c.toNat=9)
def iAD(c:UInt8):Bool:=decide (33<=c.toNat/\c.toNat<=126/\c.toNat≠37)
def RA(c:UInt8):Bool:=decide (48<=c.toNat/\c.toNat<=57)
def fW(n:Nat):UInt8:=if n<10 then UInt8.ofNat (48+n)else UInt8.ofNat (55+n)
def mAz(c:UInt8):List UInt8:=if iAD c then [c]else [37,fW (c.toNat/16),fW (c.toNat%16)]
def digits(l:List UInt8):Bool:=decide (l≠ [])&&l.all RA
def numOf(l:List UInt8):Nat:=l.foldl (fun n c=>n*10+(c.toNat-48)) 0
def isNum(l:List UInt8):Bool:=digits l&&decide (l.length<=18)&&decide (l.head?=some 48->l.length=1)
def number(l:List UInt8):Nat:=if isNum l then numOf l else 0
theorem TB {a b:UInt8}(h:a.toNat=b.toNat):a=b:=UInt8.toNat_inj.1 h
def NB(a b:List UInt8):Bool:=decide (a.map low=b.map low)
theorem kA7 {a b:ByteArray}(h:a.size≠b.size):NB a.data.toList b.data.toList=false:=by
 unfold NB
 refine zA8 fun e=>h ?_
 have:=congrArg List.length e
 simpa using this
theorem map_take {a b:ByteArray}{k:Nat}(ha:k<a.size)(hb:k<b.size)(h:(a.data.toList.take k).map low=(b.data.toList.take k).map low)(hc:low a[k]=low b[k]):
  (a.data.toList.take (k+1)).map low=(b.data.toList.take (k+1)).map low:=by
 rw[List.take_succ_eq_append_getElem (by rw[Array.length_toList];exact ha),List.take_succ_eq_append_getElem (by rw[Array.length_toList];exact hb),List.map_append,List.map_append,h]
 show _++ [low a[k]]=_++ [low b[k]]
 rw[hc]
theorem kA8 {a b:ByteArray}{k:Nat}(ha:k<a.size)(hb:k<b.size)(hc:low a[k]≠low b[k]):NB a.data.toList b.data.toList=false:=by
 unfold NB
 refine zA8 fun e=>hc ?_
 have h:=congrArg (fun l=>l[k]?) e
 simp only[List.getElem?_map]at h
 rw[List.getElem?_eq_getElem (by rw[Array.length_toList];exact ha),List.getElem?_eq_getElem (by rw[Array.length_toList];exact hb)]at h
 exact zB2 h
theorem kA9 {a b:ByteArray}{k:Nat}(ha:a.size<=k)(hb:b.size<=k)(h:(a.data.toList.take k).map low=(b.data.toList.take k).map low):NB a.data.toList b.data.toList=true:=by
 unfold NB
 rw[List.take_of_length_le (by rw[Array.length_toList];exact ha),List.take_of_length_le (by rw[Array.length_toList];exact hb)]at h
 exact zA9 h
theorem MI(s:ByteArray)(k:Nat)(h:k<s.size):s.data.toList[k]'(by simpa using h)=s[k]:=rfl
theorem iI(s:ByteArray)(k:Nat)(h:k<s.size):s.data.toList.take (k+1)=s.data.toList.take k++ [s[k]]:=by
 rw[List.take_succ_eq_append_getElem (by simpa using h)];rfl
theorem oD(s:ByteArray)(k:Nat)(h:s.size<=k):s.data.toList.take k=s.data.toList:=List.take_of_length_le (by simpa using h)
theorem aB(s:ByteArray):s.toList=s.data.toList:=Lib.toList_data s
theorem WX(s:ByteArray):s.toList= []↔s.data.toList= []:=by rw[aB]
theorem lD(s:ByteArray):s.data.toList= []↔s.size=0:=by
 rw[<-List.length_eq_zero_iff,Array.length_toList];rfl
theorem cA8(s:ByteArray):s.data= #[]↔s.size=0:=⟨fun h=>by show s.data.size=0;rw[h];rfl,fun h=>Array.size_eq_zero_iff.1 h⟩
theorem oA(s:ByteArray):s.data.toList.length=s.size:=by rw[Array.length_toList];rfl
theorem pH {p:UInt8->Bool}(s:ByteArray)(k:Nat)(h:k<s.size)(ha:(s.data.toList.take k).all p=true)(hp:p s[k]=true):(s.data.toList.take (k+1)).all p=true:=by
 rw[iI s k h,List.all_append,ha];simp[hp]
theorem VL {p:UInt8->Bool}(s:ByteArray)(k:Nat)(h:k<s.size)(hp:p s[k]=false):s.data.toList.all p=false:=by
 rw[List.all_eq_false]
 exact⟨s[k],by rw[<-MI s k h];exact List.getElem_mem _,by simp[hp]⟩
theorem JU(s:ByteArray)(k:Nat)(h:k<s.size)(hp:RA s[k]=false):digits s.data.toList=false:=by
 unfold digits;rw[VL s k h hp];simp
theorem FU(s:ByteArray)(k:Nat)(h:s.size<=k)(ha:(s.data.toList.take k).all RA=true):digits s.data.toList=decide (s.data.toList≠ []):=by
 unfold digits;rw[oD s k h]at ha;rw[ha];simp
theorem fM {s:ByteArray}(h:digits s.data.toList=true)(k:Nat)(hk:k<s.size):48<=s[k].toNat/\s[k].toNat<=57:=by
 unfold digits at h
 rw[Bool.and_eq_true]at h
 have:=(List.all_eq_true.1 h.2) s[k] (by rw[<-MI s k hk];exact List.getElem_mem _)
 simpa[RA]using this
theorem sE {s:ByteArray}(h:digits s.data.toList=true):0<s.size:=by
 unfold digits at h
 rw[Bool.and_eq_true]at h
 have h1:s.data.toList≠ []:=by simpa using h.1
 exact Nat.pos_of_ne_zero fun e=>h1 ((lD s).2 e)
theorem dY(l:List UInt8)(c:UInt8):numOf (l++ [c])=numOf l*10+(c.toNat-48):=by simp[numOf]
theorem QK(s:ByteArray)(k:Nat)(h:k<s.size):numOf (s.data.toList.take (k+1))=numOf (s.data.toList.take k)*10+(s[k].toNat-48):=by
 rw[iI s k h,dY]
theorem PQ {s:ByteArray}(h:digits s.data.toList=true): ∀k,k<=s.size->numOf (s.data.toList.take k)<10^k
 |0,_=>by simp[numOf]
 |k+1,hk=>by
  have ih:=PQ h k (by omega)
  have hd:=fM h k (by omega)
  rw[QK s k (by omega),Nat.pow_succ]
  omega
theorem cY {s:ByteArray}(h:digits s.data.toList=true)(h18:s.size<=18)(k:Nat)(hk:k<s.size):numOf (s.data.toList.take k)<=99999999999999999:=by
 have h1:=PQ h k (by omega)
 have h2:10^k<=10^17:=Nat.pow_le_pow_right (by omega) (by omega)
 omega
theorem NF(s:ByteArray)(h:0<s.size):s.data.toList.head?=some s[0]:=by
 rw[List.head?_eq_getElem?,List.getElem?_eq_getElem (by rw[Array.length_toList];exact h)];rfl
theorem sY(s:ByteArray)(h:0<s.size)(c:UInt8):s.data.toList= [c]↔s[0]=c/\s.size=1:=by
 constructor
 ·intro e
  refine⟨?_,?_⟩
  ·have:=NF s h
   rw[e]at this
   simpa using this.symm
  ·have:s.data.toList.length=1:=by rw[e];rfl
   rw[Array.length_toList]at this
   exact this
 ·rintro⟨e,h1⟩
  have hl:s.data.toList.length=1:=by rw[Array.length_toList];exact h1
  obtain⟨d,hd⟩:=List.length_eq_one_iff.1 hl
  have:=NF s h
  rw[hd]at this⊢
  simp at this
  rw[this,e]
theorem eY(s:ByteArray)(h:18<s.size):isNum s.data.toList=false:=by
 have: ¬s.data.toList.length<=18:=by rw[Array.length_toList];show ¬s.size<=18;omega
 unfold isNum;rw[zA8 this];simp
theorem gY(s:ByteArray)(h:digits s.data.toList=false):isNum s.data.toList=false:=by unfold isNum;rw[h];rfl
theorem iY(s:ByteArray)(h:1<s.size)(h0:(s[0].toNat:Int)=48):isNum s.data.toList=false:=by
 have e:s[0]=48:=TB (by show _=48;omega)
 have h1:=NF s (by omega)
 rw[e]at h1
 have h2: ¬(s.data.toList.head?=some 48->s.data.toList.length=1):=fun k=>by
  have:=k h1
  rw[Array.length_toList]at this
  have:s.size=1:=this
  omega
 unfold isNum;rw[zA8 h2];simp
theorem kY(s:ByteArray)(h:digits s.data.toList=true)(h18:s.size<=18)(h0:(s[0]'(sE h)).toNat=48->s.size=1):isNum s.data.toList=true:=by
 have h1:=NF s (sE h)
 unfold isNum
 rw[h,zA9 (by rw[Array.length_toList];exact h18),zA9 (by
  rw[h1,Array.length_toList]
  intro k
  have:s[0]'(sE h)=48:=by simpa using k
  exact h0 (by rw[this];rfl))]
 rfl
theorem gJ {l:List UInt8}(h:isNum l=false):number l=0:=by unfold number;rw[h];rfl
theorem jN {l:List UInt8}(h:isNum l=true):number l=numOf l:=by unfold number;rw[h];rfl
theorem CE(c:UInt8):(low c).toNat=if 65<=c.toNat/\c.toNat<=90 then c.toNat+32 else c.toNat:=by
 unfold low
 split
 ·rw[UInt8.toNat_add];simp;omega
 ·rfl
def out(l:List UInt8)(k:Nat):List UInt8:=(l.take k).flatMap mAz
end Oct
def BA(c:UInt8):Value:= .int .u8 (c.toNat:Int)
theorem BC {k:IntKind}{a b:Int}(h:a=b):Ending.returned (.int k a)= .returned (.int k b):=by rw[h]
theorem iD {a b:ByteArray}(h:a=b):Ending.returned (.string a)= .returned (.string b):=by rw[h]
theorem nD {a b c d:Value}(h:a=b)(k:c=d):Ending.returned (.tuple #[a,c])= .returned (.tuple #[b,d]):=by rw[h,k]
theorem dB {k:IntKind}{a b:Int}(h:a=b):Value.int k a= .int k b:=by rw[h]
theorem eE {a b:Bool}(h:a=b):Value.bool a= .bool b:=by rw[h]
theorem ZR {a b:ByteArray}(h:a=b):Value.string a= .string b:=by rw[h]
theorem tA {a b:Bool}(h:a=b):Ending.returned (.bool a)= .returned (.bool b):=by rw[h]
end Go.Proofs.YtdaaoopkkhfbhaaGreatDoor
namespace Go.Proofs.YtdaaoopkkhfbhaaGreatDoor
namespace Oct
def split(at_:UInt8):List UInt8->List (List UInt8)
 | []=> [[]]
 |c::r=>if c=at_ then []::split at_ r else match split at_ r with
  | []=> [[c]]
  |p::ps=>(c::p)::ps
theorem DC(at_ c:UInt8)(r:List UInt8):split at_ (c::r)=if c=at_ then []::split at_ r else match split at_ r with
  | []=> [[c]]
  |p::ps=>(c::p)::ps:=rfl
theorem ZF(at_:UInt8): ∀l,split at_ l≠ []
 | []=>by simp[split]
 |c::r=>by
  unfold split
  split
  ·simp
  ·split<;>simp
theorem vR(at_:UInt8): ∀l:List UInt8,(∀c∈l,c≠at_)->split at_ l= [l]
 | [],_=>rfl
 |c::r,h=>by
  unfold split
  rw[if_neg (h c (by simp)),vR at_ r (fun d hd=>h d (by simp[hd]))]
theorem tR(at_:UInt8)(r:List UInt8): ∀p:List UInt8,(∀c∈p,c≠at_)->split at_ (p++at_::r)=p::split at_ r
 | [],_=>by simp[split]
 |c::p,h=>by
  rw[List.cons_append,DC,if_neg (h c (by simp)),tR at_ r p (fun d hd=>h d (by simp[hd]))]
theorem eI(at_:UInt8): ∀l:List UInt8,(split at_ l).length<=l.length+1
 | []=>by simp[split]
 |c::r=>by
  have ih:=eI at_ r
  unfold split
  split
  ·simp;omega
  ·split
   ·simp
   ·rename_i h;rw[h]at ih;simp at ih⊢;omega
structure Cut(at_:UInt8)(l:List UInt8)(k:Nat)(done:List (List UInt8))(from_:Nat):Prop where
 le:from_<=k
 few:done.length<=k
 all:split at_ l=done++split at_ (l.drop from_)
 none: ∀c∈ (l.drop from_).take (k-from_),c≠at_
theorem Cut.start (at_:UInt8)(l:List UInt8):Cut at_ l 0 [] 0:=⟨zB3 _,by simp,by simp,by simp⟩
theorem Cut.miss {at_:UInt8}{l:List UInt8}{k:Nat}{done:List (List UInt8)}{f:Nat}(h:Cut at_ l k done f)(hk:k<l.length)(hne:l[k]≠at_):Cut at_ l (k+1) done f:=by
 refine⟨by have:=h.le;omega,by have:=h.few;omega,h.all,?_⟩
 intro c hc
 have hf:=h.le
 rw[show k+1-f=(k-f)+1 by omega,List.take_succ_eq_append_getElem (by rw[List.length_drop];omega)]at hc
 rcases List.mem_append.1 hc with hc|hc
 ·exact h.none c hc
 ·rw[List.mem_singleton]at hc
  rw[hc,List.getElem_drop]
  have:f+(k-f)=k:=by omega
  simp only[this]
  exact hne
theorem Cut.hit {at_:UInt8}{l:List UInt8}{k:Nat}{done:List (List UInt8)}{f:Nat}(h:Cut at_ l k done f)(hk:k<l.length)(he:l[k]=at_):Cut at_ l (k+1) (done++ [(l.drop f).take (k-f)]) (k+1):=by
 have hf:=h.le
 refine⟨zB3 _,by have:=h.few;simp;omega,?_,by simp⟩
 have e:l.drop f=(l.drop f).take (k-f)++at_::l.drop (k+1):=by
  have e1:(l.drop f).drop (k-f)=l.drop k:=by rw[List.drop_drop];congr 1;omega
  have e2:l.drop k=at_::l.drop (k+1):=by rw[List.drop_eq_getElem_cons hk,he]
  rw[<-e2,<-e1,List.take_append_drop]
 rw[h.all,List.append_assoc]
 congr 1
 have:=tR at_ (l.drop (k+1)) _ h.none
 rw[<-e]at this
 rw[this];rfl
theorem Cut.done {at_:UInt8}{l:List UInt8}{k:Nat}{done:List (List UInt8)}{f:Nat}(h:Cut at_ l k done f)(hk:l.length<=k):split at_ l=done++ [l.drop f]:=by
 rw[h.all,vR at_ (l.drop f)]
 have:=h.none
 rw[List.take_of_length_le (by rw[List.length_drop];omega)]at this
 exact this
theorem aG(at_:UInt8)(l:List UInt8):0<(split at_ l).length:=List.length_pos_iff.2 (ZF at_ l)
theorem qJ {α:Type}{l:List α}{k:Nat}{p:α}{Q:α->Prop}(h: ∀x∈l.take k,Q x)(hp:l[k]? =some p)(hq:Q p): ∀x∈l.take (k+1),Q x:=by
 intro x hx
 obtain⟨hk,e⟩:=List.getElem?_eq_some_iff.1 hp
 rw[List.take_succ_eq_append_getElem hk]at hx
 rcases List.mem_append.1 hx with hx|hx
 ·exact h x hx
 ·rw[List.mem_singleton]at hx;rw[hx,e];exact hq
theorem gA3(s:ByteArray)(h:s.size-1<s.size):s.data.toList.getLast?=some s[s.size-1]:=by
 rw[List.getLast?_eq_getElem?,Array.length_toList,List.getElem?_eq_getElem (by rw[Array.length_toList];exact h)]
 rfl
theorem fI(at_:UInt8): ∀l:List UInt8,∀p∈split at_ l,p.length<=l.length
 | [],p,h=>by simp[split]at h;simp[h]
 |c::r,p,h=>by
  have ih:=fI at_ r
  rw[DC]at h
  split at h
  ·rcases List.mem_cons.1 h with rfl|h
   ·simp
   ·have:=ih p h;simp;omega
  ·split at h
   ·simp at h;simp[h]
   ·rename_i q qs e
    rw[e]at ih
    rcases List.mem_cons.1 h with rfl|h
    ·have:=ih q (by simp);simp;omega
    ·have:=ih p (by simp[h]);simp;omega
end Oct
def gA(p:List UInt8):Value:= .string ⟨p.toArray⟩
theorem yR(s:ByteArray)(a b:Nat):Value.string (s.extract a b)=gA ((s.data.toList.drop a).take (b-a)):=by
 unfold gA;rw[Lib.extract_eq]
theorem GZ(s:ByteArray)(a b:Nat)(h:s.size<=b):Value.string (s.extract a b)=gA (s.data.toList.drop a):=by
 rw[yR,List.take_of_length_le]
 rw[List.length_drop,Array.length_toList]
 show s.size-a<=b-a
 omega
theorem lAf {ps:List (List UInt8)}{k:Nat}(hk:k<ps.length): ∃(p:List UInt8)(s:ByteArray),ps[k]? =some p/\gA p= .string s/\s.data.toList=p/\s.toList.isEmpty=p.isEmpty/\s.size=p.length:=by
 refine⟨ps[k],⟨ps[k].toArray⟩,List.getElem?_eq_getElem hk,rfl,rfl,by rw[Oct.aB],by show(List.toArray _).size=_;simp⟩
end Go.Proofs.YtdaaoopkkhfbhaaGreatDoor
namespace Go.Proofs.YtdaaoopkkhfbhaaGreatDoor
namespace aA
def fill {α:Type}(l:List α)(z:α)(n k:Nat):List α:=l.take k++List.replicate (n-k) z
theorem KF {α:Type}(l:List α)(z:α)(n:Nat):fill l z n 0=List.replicate n z:=by simp[fill]
theorem CG {α:Type}{l:List α}{z:α}{n:Nat}(h:l.length=n):fill l z n n=l:=by
 unfold fill;rw[List.take_of_length_le (by omega),Nat.sub_self];simp
theorem DG {α:Type}{l:List α}{z:α}{n k:Nat}(h:l.length=n)(hk:k<=n):(fill l z n k).length=n:=by
 unfold fill;simp;omega
theorem aF {α:Type}{l:List α}{z v:α}{n k:Nat}(h:l.length=n)(hk:k<n)(hv:l[k]? =some v):(fill l z n k).set k v=fill l z n (k+1):=by
 have hv':l[k]'(by omega)=v:=by rw[List.getElem?_eq_getElem (by omega)]at hv;exact zB2 hv
 unfold fill
 rw[List.set_append_right _ _ (by simp;omega),List.take_succ_eq_append_getElem (by omega),hv',List.append_assoc]
 have e1:k- (l.take k).length=0:=by simp;omega
 have e2:n-k=(n- (k+1))+1:=by omega
 rw[e1,e2,List.replicate_succ];rfl
def hi(x:UInt16):UInt8:=UInt8.ofNat (x.toNat/256)
def lo(x:UInt16):UInt8:=UInt8.ofNat (x.toNat%256)
def mk(a b:UInt8):UInt16:=UInt16.ofNat (a.toNat*256+b.toNat)
theorem UN(x:UInt16):x.toNat<65536:=x.toNat_lt
theorem BM(x:UInt16):(hi x).toNat=x.toNat/256:=by
 have:=UN x;unfold hi;rw[UInt8.toNat_ofNat'];omega
theorem YM(x:UInt16):(lo x).toNat=x.toNat%256:=by
 unfold lo;rw[UInt8.toNat_ofNat'];omega
theorem gN(a b:UInt8):(mk a b).toNat=a.toNat*256+b.toNat:=by
 have h1:=a.toNat_lt;have h2:=b.toNat_lt
 unfold mk;rw[UInt16.toNat_ofNat'];omega
theorem dV {a b:UInt16}(h:a.toNat=b.toNat):a=b:=UInt16.toNat_inj.1 h
theorem gAP(x:UInt16):mk (hi x) (lo x)=x:=dV (by rw[gN,BM,YM];omega)
theorem eAP(a b:UInt8):hi (mk a b)=a:=Oct.TB (by have:=b.toNat_lt;rw[BM,gN];omega)
theorem gAq(a b:UInt8):lo (mk a b)=b:=Oct.TB (by have:=b.toNat_lt;rw[YM,gN];omega)
def groups:List UInt8->List UInt16
 |a::b::r=>mk a b::groups r
 |_=> []
def from_:List UInt16->List UInt8
 | []=> []
 |x::r=>hi x::lo x::from_ r
theorem eA0: ∀g,groups (from_ g)=g
 | []=>rfl
 |x::r=>by unfold from_ groups;rw[gAP,eA0 r]
theorem dAH: ∀(n:Nat)(a:List UInt8),a.length=2*n->from_ (groups a)=a
 |0,[],_=>rfl
 |n+1,x::y::r,h=>by
  simp at h
  unfold groups from_;rw[eAP,gAq,dAH n r (by omega)]
theorem cF: ∀g:List UInt16,(from_ g).length=2*g.length
 | []=>rfl
 |x::r=>by unfold from_;simp[cF r];omega
theorem wK: ∀(n:Nat)(a:List UInt8),a.length=2*n->(groups a).length=n
 |0,[],_=>rfl
 |n+1,x::y::r,h=>by
  simp at h
  unfold groups;simp[wK n r (by omega)]
theorem MP: ∀(g:List UInt16)(k:Nat)(x:UInt16),g[k]? =some x->(from_ g)[2*k]? =some (hi x)/\(from_ g)[2*k+1]? =some (lo x)
 | [],k,x,h=>by simp at h
 |y::r,0,x,h=>by simp at h;subst h;exact⟨rfl,rfl⟩
 |y::r,k+1,x,h=>by
  have:=MP r k x (by simpa using h)
  have e:2*(k+1)=2*k+1+1:=by omega
  unfold from_
  rw[e]
  exact this
theorem BV: ∀(a:List UInt8)(k:Nat)(x y:UInt8),a[2*k]? =some x->a[2*k+1]? =some y->(groups a)[k]? =some (mk x y)
 | [],k,x,y,h,_=>by simp at h
 | [c],k,x,y,_,h=>by
  have:2*k+1<1:=by simpa using(List.getElem?_eq_some_iff.1 h).1
  omega
 |c::d::r,0,x,y,h1,h2=>by simp at h1 h2;subst h1;subst h2;rfl
 |c::d::r,k+1,x,y,h1,h2=>by
  have e:2*(k+1)=2*k+1+1:=by omega
  rw[e]at h1 h2
  have:=BV r k x y (by simpa using h1) (by simpa using h2)
  unfold groups
  simpa using this
def RD(c:UInt8):Bool:=decide ((48<=c.toNat/\c.toNat<=57)\/(97<=c.toNat/\c.toNat<=102)\/(65<=c.toNat/\c.toNat<=70))
def cD(c:UInt8):Nat:=if 48<=c.toNat/\c.toNat<=57 then c.toNat-48 else if 97<=c.toNat/\c.toNat<=102 then c.toNat-87 else if 65<=c.toNat/\c.toNat<=70 then c.toNat-55 else 0
theorem bQ(c:UInt8):cD c<16:=by unfold cD;split<;>(try split)<;>(try split)<;>omega
def bD(l:List UInt8):Nat:=l.foldl (fun n c=>n*16+cD c) 0
def UA(l:List UInt8):Bool:=decide (1<=l.length/\l.length<=4)&&l.all RD
def yB(l:List UInt8):UInt16:=UInt16.ofNat (bD l)
theorem eA2(l:List UInt8)(c:UInt8):bD (l++ [c])=bD l*16+cD c:=by simp[bD]
theorem CV: ∀(l:List UInt8)(n:Nat),l.foldl (fun n c=>n*16+cD c) n<(n+1)*16^l.length
 | [],n=>by simp
 |c::r,n=>by
  have ih:=CV r (n*16+cD c)
  have hc:=bQ c
  have h2:(n*16+cD c+1)*16^r.length<=(n+1)*16*16^r.length:=Nat.mul_le_mul_right _ (by omega)
  rw[List.foldl_cons,zB5,Nat.pow_succ,Nat.mul_comm (16^r.length),<-Nat.mul_assoc]
  omega
theorem DV(l:List UInt8):bD l<16^l.length:=by
 have:=CV l 0
 unfold bD;omega
theorem JV {l:List UInt8}(h:l.length<=4):(yB l).toNat=bD l:=by
 have h1:=DV l
 have h2:16^l.length<=16^4:=Nat.pow_le_pow_right (by omega) h
 unfold yB;rw[UInt16.toNat_ofNat'];omega
def isRow(s:List UInt8):Bool:=decide (s= [])||(Oct.split 58 s).all UA
def row(s:List UInt8):List UInt16:=if s= []then []else(Oct.split 58 s).map yB
def fits(n:Nat)(gap:Bool):Bool:=if gap then decide (n<8)else decide (n=8)
def v6(s:List UInt8):Option (List UInt16):=
 if isRow (Lib.cut s [58,58]).1=true/\isRow (Lib.cut s [58,58]).2.1=true/\fits ((row (Lib.cut s [58,58]).1).length+(row (Lib.cut s [58,58]).2.1).length) (Lib.cut s [58,58]).2.2=true then
  some (row (Lib.cut s [58,58]).1++List.replicate (8- ((row (Lib.cut s [58,58]).1).length+(row (Lib.cut s [58,58]).2.1).length)) 0++row (Lib.cut s [58,58]).2.1)
 else none
def addrOf:Option (List UInt16)->List UInt8
 |some g=>from_ g
 |none=>List.replicate 16 0
def JD(p:List UInt8):Bool:=Oct.isNum p&&decide (Oct.number p<=255)
def v4(s:List UInt8):Option (List UInt8):=
 if(Oct.split 46 s).length=4/\(Oct.split 46 s).all JD=true then some ((Oct.split 46 s).map fun p=>UInt8.ofNat (Oct.number p))else none
def WC:Option (List UInt8)->List UInt8
 |some l=>List.replicate 12 0++l
 |none=>List.replicate 16 0
end aA
end Go.Proofs.YtdaaoopkkhfbhaaGreatDoor
namespace Go.Proofs.YtdaaoopkkhfbhaaGreatDoor
namespace aA
def NC(k:Nat):UInt8:=if k<10 then UInt8.ofNat (48+k)else UInt8.ofNat (87+k)
def uD(n:Nat):Nat->List UInt8
 |0=> []
 |k+1=>NC (n/16^k%16)::uD n k
def yC(n:Nat):List UInt8:=
 if n<16 then [NC n]else if n<256 then [NC (n/16),NC (n%16)]else if n<4096 then [NC (n/256),NC (n/16%16),NC (n%16)]else [NC (n/4096),NC (n/256%16),NC (n/16%16),NC (n%16)]
theorem EQ(n:Nat): ∀k,(uD n k).length=k
 |0=>rfl
 |k+1=>by unfold uD;simp[EQ n k]
theorem eAH {n k:Nat}(hn:n<65536)(hk:k<=3)(hu:n/16^k<16)(hl:0<k->16<=n/16^ (k-1)):yC n=NC (n/16^k)::uD n k:=by
 match k,hk with
 |0,_=>simp[uD]at*;unfold yC;rw[if_pos hu]
 |1,_=>
  simp at hu hl
  unfold yC;rw[if_neg (by omega),if_pos (by omega)]
  simp[uD]
 |2,_=>
  simp at hu hl
  unfold yC;rw[if_neg (by omega),if_neg (by omega),if_pos (by omega)]
  simp[uD]
 |3,_=>
  simp at hu hl
  unfold yC;rw[if_neg (by omega),if_neg (by omega),if_neg (by omega)]
  simp[uD]
theorem eAI(n:Nat):1<=(yC n).length/\(yC n).length<=4:=by
 unfold yC;split<;>(try split)<;>(try split)<;>simp
theorem EU: ∀(n:Nat)(h:n<16),((((⟨#[48,49,50,51,52,53,54,55,56,57,97,98,99,100,101,102,103,104,105,106,107,108,109,110,111,112,113,114,115,116,117,118,119,120,121,122]⟩:ByteArray)[n]'(by show n<36;omega))).toNat:Int)=((NC n).toNat:Int):=by decide
theorem kAj(m:Nat)(c:UInt8)(l:List UInt8):(List.replicate (m+1) (0:UInt8)++l).set m c=List.replicate m 0++c::l:=by
 rw[List.set_append_left _ _ (by simp),List.replicate_succ',List.set_append_right _ _ (by simp)]
 simp
theorem aAG(x:Nat)(hx:x<65536):bits .and .u64 (x:Int) 15=((x%16:Nat):Int):=by
 have:=u64_and_nat x 15 (by omega) (by omega)
 rw[show((15:Nat):Int)=15 from rfl]at this
 rw[this]
 have h:x&&&15=x%16:=Nat.and_two_pow_sub_one_eq_mod x 4
 rw[h]
end aA
end Go.Proofs.YtdaaoopkkhfbhaaGreatDoor
namespace Go.Proofs.YtdaaoopkkhfbhaaGreatDoor
namespace aA
def NG(i:Nat)(zero:Bool)(st:Nat×Nat×Nat):Nat×Nat×Nat:=
 if zero=false then(st.1,st.2.1,i+1)
 else if 2<=i+1-st.2.2/\st.2.1-st.1<i+1-st.2.2 then(st.2.2,i+1,st.2.2)else st
def VA(z:List Bool):Nat->Nat×Nat×Nat
 |0=>(0,0,0)
 |k+1=>NG k (z.getD k false) (VA z k)
theorem OQ(z:List Bool): ∀k,(VA z k).1<=(VA z k).2.1/\(VA z k).2.1<=k/\(VA z k).2.2<=k
 |0=>by simp[VA]
 |k+1=>by
  have ih:=OQ z k
  unfold VA NG
  split
  ·simp;omega
  ·split
   ·simp;omega
   ·omega
theorem hAy {z:List Bool}{k:Nat}(h:z.getD k false=false):VA z (k+1)=((VA z k).1,(VA z k).2.1,k+1):=by
 show NG k _ _=_
 unfold NG;rw[if_pos h]
theorem hAx {z:List Bool}{k:Nat}(h:z.getD k false=true)(h2:2<=k+1- (VA z k).2.2/\(VA z k).2.1- (VA z k).1<k+1- (VA z k).2.2):VA z (k+1)=((VA z k).2.2,k+1,(VA z k).2.2):=by
 show NG k _ _=_
 unfold NG;rw[h,if_neg (by simp),if_pos h2]
theorem hAz {z:List Bool}{k:Nat}(h:z.getD k false=true)(h2: ¬(2<=k+1- (VA z k).2.2/\(VA z k).2.1- (VA z k).1<k+1- (VA z k).2.2)):VA z (k+1)=VA z k:=by
 show NG k _ _=_
 unfold NG;rw[h,if_neg (by simp),if_neg h2]
def zeros(g:List UInt16):List Bool:=g.map fun x=>decide (x=0)
def nf(g:List UInt16):Nat:=(VA (zeros g) 8).1
def nt(g:List UInt16):Nat:=(VA (zeros g) 8).2.1
theorem D7 {g:List UInt16}{k:Nat}{x:UInt16}(h:g[k]? =some x):(zeros g).getD k false=decide (x=0):=by
 unfold zeros
 rw[List.getD_eq_getElem?_getD,List.getElem?_map,h];rfl
theorem iAA: ∀b0 b1 b2 b3 b4 b5 b6 b7:Bool,
  let z:= [b0,b1,b2,b3,b4,b5,b6,b7]
  let f:=(VA z 8).1;let t:=(VA z 8).2.1
  (f=t\/f+2<=t)/\t<=8/\((List.range 8).all fun i=> !(decide (f<=i)&&decide (i<t))||z.getD i false)=true:=by decide
theorem eight {α:Type}{l:List α}(h:l.length=8): ∃a b c d e f g i,l= [a,b,c,d,e,f,g,i]:=by
 match l,h with
 | [a,b,c,d,e,f,g,i],_=>exact⟨a,b,c,d,e,f,g,i,rfl⟩
theorem hAt {g:List UInt16}(hg:g.length=8):(nf g=nt g\/nf g+2<=nt g)/\nf g<=nt g/\nt g<=8/\ ∀i,nf g<=i->i<nt g->g[i]? =some 0:=by
 have hz:(zeros g).length=8:=by unfold zeros;rw[List.length_map,hg]
 obtain⟨a,b,c,d,e,f,k,i,hzz⟩:=eight hz
 have h:=iAA a b c d e f k i
 simp only at h
 rw[<-hzz]at h
 refine⟨h.1,(OQ _ 8).1,h.2.1,fun j h1 h2=>?_⟩
 have hj:j<8:=by have:=h.2.1;unfold nt at h2;omega
 have:=List.all_eq_true.1 h.2.2 j (List.mem_range.2 hj)
 have e1:decide ((VA (zeros g) 8).1<=j)=true:=zA9 h1
 have e2:decide (j<(VA (zeros g) 8).2.1)=true:=zA9 h2
 rw[e1,e2]at this
 simp only[Bool.and_self,Bool.not_true,Bool.false_or]at this
 obtain⟨x,hx⟩: ∃x,g[j]? =some x:=⟨_,List.getElem?_eq_getElem (by omega)⟩
 rw[D7 hx]at this
 rw[hx,zB1 this]
end aA
end Go.Proofs.YtdaaoopkkhfbhaaGreatDoor
namespace Go.Proofs.YtdaaoopkkhfbhaaGreatDoor
namespace aA
def xD(g:List UInt16):List UInt8:=Lib.join (g.map fun x=>yC x.toNat) [58]
theorem joinTail_length(sep:List UInt8)(hs:sep.length=1)(m:Nat): ∀r:List (List UInt8),(∀p∈r,p.length<=m)->(Lib.joinTail sep r).length<=(m+1)*r.length
 | [],_=>by simp[Lib.joinTail]
 |p::r,h=>by
  have ih:=joinTail_length sep hs m r (fun q hq=>h q (by simp[hq]))
  have hp:=h p (by simp)
  unfold Lib.joinTail at ih⊢
  simp only[List.map_cons,List.flatten_cons,zB4,zB5]
  rw[Nat.mul_add]
  omega
theorem join_length(sep:List UInt8)(hs:sep.length=1)(m:Nat)(r:List (List UInt8))(h: ∀p∈r,p.length<=m):(Lib.join r sep).length<=(m+1)*r.length:=by
 cases r with
 |nil=>simp[Lib.join_nil]
 |cons p r=>
  rw[Lib.join_cons,zB4,zB5]
  have h1:=joinTail_length sep hs m r (fun q hq=>h q (by simp[hq]))
  have h2:=h p (by simp)
  rw[Nat.mul_add]
  omega
theorem gW(g:List UInt16): ∀p∈g.map fun x=>yC x.toNat,p.length<=4:=by
 intro p hp
 obtain⟨x,_,rfl⟩:=List.mem_map.1 hp
 exact(eAI _).2
theorem oJ(g:List UInt16):(xD g).length<=5*g.length:=by
 have:=join_length [58] rfl 4 (g.map fun x=>yC x.toNat) (gW g)
 rw[List.length_map]at this
 exact this
end aA
namespace aA
def UD(g:List UInt16):List UInt8:=if nf g=nt g then xD g else xD (g.take (nf g))++58::58::xD (g.drop (nt g))
end aA
namespace aA
def bL(l:List UInt8):List UInt8:=Lib.join (l.map fun c=>Lib.decDigits c.toNat) [46]
theorem cAl(n:Nat)(h:n<256):(Lib.decDigits n).length<=3:=by
 unfold Lib.decDigits
 split
 ·simp
 ·unfold Lib.decDigits
  split
  ·simp
  ·unfold Lib.decDigits
   split
   ·simp
   ·omega
theorem cAp(l:List UInt8): ∀p∈l.map fun c=>Lib.decDigits c.toNat,p.length<=3:=by
 intro p hp
 obtain⟨c,_,rfl⟩:=List.mem_map.1 hp
 exact cAl _ c.toNat_lt
end aA
end Go.Proofs.YtdaaoopkkhfbhaaGreatDoor
namespace Go.Proofs.YtdaaoopkkhfbhaaGreatDoor
namespace aA
theorem join_step(x y:List UInt8)(r:List (List UInt8))(c:UInt8):Lib.join (x::y::r) [c]=x++c::Lib.join (y::r) [c]:=by
 rw[Lib.join_cons,Lib.join_cons]
 simp[Lib.joinTail]
def Tidy(l:List UInt8):Prop:= ∀j:Nat,l[j]? =some 58-> ∃d,l[j+1]? =some d/\d≠58
theorem lAn: ∀(ps:List (List UInt8)),(∀p∈ps,p≠ []/\ ∀d∈p,d≠58)->Tidy (Lib.join ps [58])
 | [],_=>fun j h=>by simp[Lib.join_nil]at h
 | [x],h=>fun j hj=>by
  rw[Lib.join_one]at hj
  exact absurd rfl ((h x (by simp)).2 58 (List.mem_of_getElem? hj))
 |x::y::r,h=>fun j hj=>by
  have ih:=lAn (y::r) (fun p hp=>h p (by simp[List.mem_cons.1 hp]))
  rw[join_step]at hj⊢
  rcases Nat.lt_trichotomy j x.length with hlt|heq|hgt
  ·rw[List.getElem?_append_left hlt]at hj
   exact absurd rfl ((h x (by simp)).2 58 (List.mem_of_getElem? hj))
  ·subst heq
   obtain⟨hy,hyc⟩:=h y (by simp)
   obtain⟨d,y',rfl⟩: ∃d y',y=d::y':=by
    cases y with
    |nil=>exact absurd rfl hy
    |cons d y'=>exact⟨d,y',rfl⟩
   refine⟨d,?_,hyc d (by simp)⟩
   rw[List.getElem?_append_right (by omega),Lib.join_cons]
   simp
  ·rw[List.getElem?_append_right (by omega)]at hj⊢
   have e:j-x.length=(j-x.length-1)+1:=by omega
   rw[e,List.getElem?_cons_succ]at hj
   obtain⟨d,h1,h2⟩:=ih _ hj
   refine⟨d,?_,h2⟩
   have e2:j+1-x.length=(j-x.length-1)+1+1:=by omega
   rw[e2,List.getElem?_cons_succ]
   exact h1
theorem oY(s:List UInt8)(j:Nat):Lib.occAt s [58,58] j=true↔s[j]? =some 58/\s[j+1]? =some 58:=by
 unfold Lib.occAt
 rw[List.isPrefixOf_iff_prefix]
 constructor
 ·rintro⟨t,ht⟩
  have h0:=congrArg (fun l=>l[0]?) ht
  have h1:=congrArg (fun l=>l[1]?) ht
  simp only[List.getElem?_drop,Nat.add_zero]at h0 h1
  exact⟨h0.symm,h1.symm⟩
 ·rintro⟨h0,h1⟩
  obtain⟨l0,e0⟩:=List.getElem?_eq_some_iff.1 h0
  obtain⟨l1,e1⟩:=List.getElem?_eq_some_iff.1 h1
  refine⟨s.drop (j+2),?_⟩
  rw[List.drop_eq_getElem_cons l0,List.drop_eq_getElem_cons l1,e0,e1]
  rfl
theorem nY {s:List UInt8}{j:Nat}(h: ¬(s[j]? =some 58/\s[j+1]? =some 58)):Lib.occAt s [58,58] j=false:=by
 cases hb:Lib.occAt s [58,58] j with
 |false=>rfl
 |true=>exact absurd ((oY s j).1 hb) h
theorem wU {s:List UInt8}(h: ∀j:Nat,¬(s[j]? =some 58/\s[j+1]? =some 58)):Lib.cut s [58,58]=(s,[],false):=by
 unfold Lib.cut
 rw[Lib.index_none (fun j _=>nY (h j))]
 rfl
theorem uU {b h:List UInt8}(hb: ∀j:Nat,j<b.length-> ¬((b++58::58::h)[j]? =some 58/\(b++58::58::h)[j+1]? =some 58)):Lib.cut (b++58::58::h) [58,58]=(b,h,true):=by
 unfold Lib.cut
 rw[Lib.index_first (i:=b.length) (by simp) ((oY _ _).2 ⟨by simp,by rw[List.getElem?_append_right (by omega)];simp⟩) (fun j hj=>nY (hb j hj))]
 rw[if_pos (by omega)]
 simp
end aA
end Go.Proofs.YtdaaoopkkhfbhaaGreatDoor
namespace Go.Proofs.YtdaaoopkkhfbhaaGreatDoor
namespace aA
end aA
end Go.Proofs.YtdaaoopkkhfbhaaGreatDoor
namespace Go.Proofs.YtdaaoopkkhfbhaaGreatDoor
namespace aA
theorem dAo {n:Nat}{g:Bool}(h:fits n g=true):n<=8:=by
 unfold fits at h
 cases g<;>simp at h<;>omega
theorem zJ {s:List UInt8}{g:List UInt16}(h:v6 s=some g):g.length=8:=by
 unfold v6 at h
 split at h
 ·next hc=>
  have h8:=dAo hc.2.2
  rw[<-zB2 h,zB4,zB4,List.length_replicate]
  omega
 ·exact absurd h (by simp)
theorem XO(s:List UInt8):(addrOf (v6 s)).length=16:=by
 cases h:v6 s with
 |none=>rfl
 |some g=>show(from_ g).length=16;rw[cF,zJ h]
end aA
end Go.Proofs.YtdaaoopkkhfbhaaGreatDoor
namespace Go.Proofs.YtdaaoopkkhfbhaaGreatDoor
namespace aA
def e8(s:List UInt8):Option (List UInt16):=if(Oct.split 58 s).length=8/\(Oct.split 58 s).all UA=true then some ((Oct.split 58 s).map yB)else none
theorem YK(c:UInt8)(r:List UInt8): ∀b:List UInt8,Oct.split c (b++c::r)=Oct.split c b++Oct.split c r
 | []=>by rw[List.nil_append,Oct.DC,if_pos rfl];rfl
 |d::b=>by
  rw[List.cons_append,Oct.DC,Oct.DC,YK c r b]
  by_cases h:d=c
  ·rw[if_pos h,if_pos h];rfl
  ·rw[if_neg h,if_neg h]
   cases hb:Oct.split c b with
   |nil=>exact absurd hb (Oct.ZF c b)
   |cons p ps=>rfl
def P(s:List UInt8):List (List UInt8):=if s= []then []else Oct.split 58 s
theorem PM(s:List UInt8):isRow s=(P s).all UA:=by
 unfold isRow P
 by_cases h:s= []
 ·rw[if_pos h,h];rfl
 ·rw[if_neg h,zA8 h];rfl
theorem lR(s:List UInt8):row s=(P s).map yB:=by
 unfold row P
 split<;>rfl
def F(b:List UInt8):List UInt8:=if b= []then []else b++ [58]
def H(h:List UInt8):List UInt8:=if h= []then []else 58::h
def Z:Nat->List UInt8
 |0=> [48]
 |k+1=>Z k++ [58,48]
theorem UL(k:Nat):(Z k).length=2*k+1:=by
 induction k with
 |zero=>rfl
 |succ k ih=>unfold Z;rw[zB4,ih];simp;omega
theorem yZ(k:Nat):Oct.split 58 (Z k)=List.replicate (k+1) [48]:=by
 induction k with
 |zero=>decide
 |succ k ih=>
  unfold Z
  rw[YK,ih,show Oct.split 58 [48]= [[48]] by decide,List.replicate_succ' (n:=k+1)]
theorem kAM(k:Nat)(h:List UInt8):Oct.split 58 (Z k++H h)=List.replicate (k+1) [48]++P h:=by
 unfold H P
 by_cases e:h= []
 ·rw[if_pos e,if_pos e,List.append_nil,List.append_nil,yZ]
 ·rw[if_neg e,if_neg e,YK,yZ]
theorem kAL(b h:List UInt8)(k:Nat):Oct.split 58 (F b++Z k++H h)=P b++List.replicate (k+1) [48]++P h:=by
 have e1:=kAM k h
 unfold F
 by_cases e:b= []
 ·rw[if_pos e,List.nil_append,e1]
  unfold P
  rw[if_pos e,List.nil_append]
 ·rw[if_neg e,List.append_assoc,List.append_assoc]
  show Oct.split 58 (b++58::(Z k++H h))=_
  rw[YK,e1,<-List.append_assoc]
  congr 2
  unfold P
  rw[if_neg e]
theorem RU(b h:List UInt8)(k:Nat):e8 (F b++Z k++H h)=if isRow b=true/\isRow h=true/\(row b).length+(row h).length+(k+1)=8 then some (row b++List.replicate (k+1) 0++row h)else none:=by
 unfold e8
 rw[kAL,PM,PM,lR,lR]
 have e0:UA [48]=true:=by decide
 have e1:yB [48]=0:=by decide
 have hl:(P b++List.replicate (k+1) [48]++P h).length=8↔ ((P b).map yB).length+((P h).map yB).length+(k+1)=8:=by
  simp only[zB4,List.length_replicate,List.length_map];omega
 have ha:(P b++List.replicate (k+1) [48]++P h).all UA=true↔ (P b).all UA=true/\(P h).all UA=true:=by
  rw[List.all_append,List.all_append,Bool.and_eq_true,Bool.and_eq_true]
  have:(List.replicate (k+1) [(48:UInt8)]).all UA=true:=by
   rw[List.all_eq_true]
   intro x hx
   rw[List.eq_of_mem_replicate hx];exact e0
  rw[this];simp
 have hm:(P b++List.replicate (k+1) [48]++P h).map yB=(P b).map yB++List.replicate (k+1) 0++(P h).map yB:=by
  rw[List.map_append,List.map_append,List.map_replicate,e1]
 rw[hm]
 by_cases c:(P b).all UA=true/\(P h).all UA=true/\((P b).map yB).length+((P h).map yB).length+(k+1)=8
 ·rw[if_pos c,if_pos ⟨hl.2 c.2.2,ha.2 ⟨c.1,c.2.1⟩⟩]
 ·rw[if_neg c,if_neg fun h=>c ⟨(ha.1 h.2).1,(ha.1 h.2).2,hl.1 h.1⟩]
def cand(b h:List UInt8):Option (List UInt16):=
 if isRow b=true/\isRow h=true/\fits ((row b).length+(row h).length) true=true then some (row b++List.replicate (8- ((row b).length+(row h).length)) 0++row h)else none
theorem cM {b h:List UInt8}{k:Nat}{g:List UInt16}(e:e8 (F b++Z k++H h)=some g):cand b h=some g:=by
 rw[RU]at e
 unfold cand
 split at e
 ·next c=>
  have hf:fits ((row b).length+(row h).length) true=true:=by unfold fits;simp;omega
  rw[if_pos ⟨c.1,c.2.1,hf⟩,<-e]
  have:8- ((row b).length+(row h).length)=k+1:=by omega
  rw[this]
 ·cases e
theorem bM {b h:List UInt8}(e: ∀k,k<8->e8 (F b++Z k++H h)=none):cand b h=none:=by
 unfold cand
 rw[if_neg]
 rintro⟨h1,h2,h3⟩
 have hf:(row b).length+(row h).length<8:=by unfold fits at h3;simpa using h3
 have:=e (7- ((row b).length+(row h).length)) (by omega)
 rw[RU,if_pos ⟨h1,h2,by omega⟩]at this
 cases this
def Two(s:List UInt8)(j:Nat):Prop:=s[j]? =some 58/\s[j+1]? =some 58
theorem Two.split {s:List UInt8}{j:Nat}(h:Two s j):s=s.take j++58::58::s.drop (j+2):=by
 obtain⟨h1,h2⟩:=h
 obtain⟨l1,e1⟩:=List.getElem?_eq_some_iff.1 h1
 obtain⟨l2,e2⟩:=List.getElem?_eq_some_iff.1 h2
 conv=>lhs;rw[<-List.take_append_drop j s,List.drop_eq_getElem_cons l1,List.drop_eq_getElem_cons l2,e1,e2]
theorem not_row {s x y:List UInt8}(h:s=x++58::y)(hy:y= []\/ ∃z,y=58::z):isRow s=false:=by
 have hm: []∈Oct.split 58 s:=by
  rw[h,YK]
  refine List.mem_append_right _ ?_
  rcases hy with rfl|⟨z,rfl⟩
  ·decide
  ·rw[Oct.DC,if_pos rfl];exact List.mem_cons_self
 have hn:s≠ []:=by rw[h];simp
 unfold isRow
 rw[zA8 hn,Bool.false_or]
 cases ha:(Oct.split 58 s).all UA with
 |false=>rfl
 |true=>
  have:=List.all_eq_true.1 ha [] hm
  exact absurd this (by decide)
theorem gA6 {s:List UInt8}{i j:Nat}(hi:Two s i)(hij:i<j)(h:List UInt8):cand (s.take j) h=none:=by
 have e:=hi.split
 have hl:(s.take i).length=i:=by
  have:=(List.getElem?_eq_some_iff.1 hi.1).1
  rw[List.length_take];omega
 have ht:s.take j=s.take i++58::(58::s.drop (i+2)).take (j- (i+1)):=by
  conv=>lhs;rw[e,List.take_append,hl]
  rw[List.take_of_length_le (by omega),show j-i=(j- (i+1))+1 by omega,List.take_succ_cons]
 have hr:isRow (s.take j)=false:=by
  refine not_row ht ?_
  cases hk:j- (i+1)with
  |zero=>left;rfl
  |succ k=>right;exact⟨_,List.take_succ_cons⟩
 unfold cand
 rw[if_neg]
 rintro⟨h1,_⟩
 rw[hr]at h1;cases h1
theorem KP {s:List UInt8}{j:Nat}(h:Two s j): ∃i,i<=j/\Two s i/\ ∀k,k<i-> ¬Two s k:=by
 induction j using Nat.strongRecOn with
 |_ j ih=>
  by_cases hk: ∃k,k<j/\Two s k
  ·obtain⟨k,hk1,hk2⟩:=hk
   obtain⟨i,h1,h2,h3⟩:=ih k hk1 hk2
   exact⟨i,by omega,h2,h3⟩
  ·exact⟨j,zB3 _,h,fun k hkj hk2=>hk ⟨k,hkj,hk2⟩⟩
theorem W4 {s:List UInt8}{i:Nat}(h:Two s i)(hn: ∀k,k<i-> ¬Two s k):v6 s=cand (s.take i) (s.drop (i+2)):=by
 have hl:(s.take i).length=i:=by
  have:=(List.getElem?_eq_some_iff.1 h.1).1
  rw[List.length_take];omega
 have hc:Lib.cut s [58,58]=(s.take i,s.drop (i+2),true):=by
  have e:=h.split
  conv=>lhs;rw[e]
  refine uU fun k hk=>?_
  rw[hl]at hk
  rw[<-e]
  exact hn k hk
 unfold v6
 rw[hc]
 rfl
theorem X4 {s:List UInt8}(hn: ∀j,¬Two s j):v6 s=e8 s:=by
 have hc:Lib.cut s [58,58]=(s,[],false):=wU hn
 unfold v6 e8
 rw[hc]
 simp only
 by_cases h:s= []
 ·subst h;decide
 ·have e1:isRow s=(Oct.split 58 s).all UA:=by rw[PM];unfold P;rw[if_neg h]
  have e2:row s=(Oct.split 58 s).map yB:=by rw[lR];unfold P;rw[if_neg h]
  have e3:isRow []=true:=rfl
  have e4:row []= []:=rfl
  rw[e1,e2,e3,e4]
  by_cases c:(Oct.split 58 s).length=8/\(Oct.split 58 s).all UA=true
  ·rw[if_pos c,if_pos ⟨c.2,rfl,by unfold fits;simp[c.1]⟩]
   simp[c.1]
  ·rw[if_neg c,if_neg]
   rintro⟨h1,_,h3⟩
   unfold fits at h3
   simp at h3
   exact c ⟨h3,h1⟩
theorem cAK {s:List UInt8}{j:Nat}(h:Two s j):e8 s=none:=by
 have e:=h.split
 unfold e8
 rw[if_neg]
 rintro⟨_,ha⟩
 have hr:=not_row e (.inr ⟨_,rfl⟩)
 have hne:s≠ []:=by rw[e];simp
 rw[PM]at hr
 unfold P at hr
 rw[if_neg hne,ha]at hr
 cases hr
theorem V4 {s:List UInt8}{g:List UInt16}(h:e8 s=some g):v6 s=some g:=by
 rw[X4,h]
 intro j hj
 rw[cAK hj]at h;cases h
theorem mA9 {s:List UInt8}{j:Nat}{g:List UInt16}(h:Two s j)(hc:cand (s.take j) (s.drop (j+2))=some g):v6 s=some g:=by
 obtain⟨i,h1,h2,h3⟩:=KP h
 have e:i=j:=by
  rcases Nat.lt_or_ge i j with hlt|hge
  ·have:=gA6 h2 hlt (s.drop (j+2))
   rw[this]at hc;cases hc
  ·omega
 subst e
 rw[W4 h2 h3,hc]
theorem mAb {s:List UInt8}(h8:e8 s=none)(h: ∀j,Two s j->cand (s.take j) (s.drop (j+2))=none):v6 s=none:=by
 by_cases hk: ∃k,Two s k
 ·obtain⟨k,hk⟩:=hk
  obtain⟨i,_,h2,h3⟩:=KP hk
  rw[W4 h2 h3,h i h2]
 ·rw[X4 fun j hj=>hk ⟨j,hj⟩,h8]
end aA
end Go.Proofs.YtdaaoopkkhfbhaaGreatDoor
namespace Go.Proofs.YtdaaoopkkhfbhaaGreatDoor
namespace bA
structure Host where
 kind:Int
 name:List UInt8
 addr:List UInt8
instance:DecidableEq Host:=fun a b=>
 if h:a.kind=b.kind/\a.name=b.name/\a.addr=b.addr then isTrue (by
  cases a;cases b
  obtain⟨h1,h2,h3⟩:=h
  simp only at h1 h2 h3
  rw[h1,h2,h3])
 else isFalse (by rintro rfl;exact h ⟨rfl,rfl,rfl⟩)
def IA:List UInt8:=List.replicate 16 0
def zero:Host:=⟨0,[],IA⟩
def okB(c:UInt8):Bool:=decide ((97<=c.toNat/\c.toNat<=122)\/(65<=c.toNat/\c.toNat<=90)\/(48<=c.toNat/\c.toNat<=57)\/c.toNat=45\/c.toNat=95)
def lab(p:List UInt8):Bool:=decide (1<=p.length/\p.length<=63)&&p.all okB
def bI(c:UInt8):Bool:=decide ((97<=c.toNat/\c.toNat<=122)\/(48<=c.toNat/\c.toNat<=57)\/c.toNat=45\/c.toNat=95)
def PC(p:List UInt8):Bool:=decide (1<=p.length/\p.length<=63)&&p.all bI
def last(s:List UInt8):List UInt8:=((Oct.split 46 s)[(Oct.split 46 s).length-1]?).getD []
def jD(r:List UInt8):Option Host:=if r.getLast?=some 93 then(aA.v6 r.dropLast).map fun g=>⟨3,[],aA.from_ g⟩else none
def yD(s:List UInt8):Option Host:=(aA.v4 s).map fun l=>⟨2,[],aA.WC (some l)⟩
def parse(s:List UInt8):Option Host:=
 if 253<s.length then none
 else if s.head?=some 91 then jD s.tail
 else if Oct.digits (last s)=true then yD s
 else if(Oct.split 46 s).all lab=true then some ⟨1,s.map Oct.low,IA⟩else none
def SG(s:List UInt8):Option Host:=
 if s.head?=some 91 then jD s.tail
 else if Oct.digits (last (s.map Oct.low))=true then yD s
 else if(Oct.split 46 (s.map Oct.low)).all PC=true/\s.length<=253 then some ⟨1,s.map Oct.low,IA⟩else none
def right(h:Host):Bool:=decide (parse h.name=some h)
def labels(h:Host):List (List UInt8):=if h.kind=1/\right h=true then Oct.split 46 h.name else []
def XB(h:Host)(n:Int):Option Host:=
 if 1<=n/\n<=((labels h).length:Int)then some ⟨1,Lib.join ((labels h).drop ((labels h).length-n.toNat)) [46],IA⟩else none
def under(h d:Host):Bool:=
 match XB h ((labels d).length:Int)with
 |some t=>decide (t=d)&& !decide (t=h)
 |none=>false
def eR(h d:Host):Bool:=
 decide (labels h≠ []/\labels d≠ [])&& (decide (d.name.length+1<h.name.length)&&decide (h.name.drop (h.name.length- (d.name.length+1))=46::d.name))
theorem lX(c:UInt8):Oct.low c=46↔c=46:=by
 constructor
 ·intro h
  have e:=congrArg UInt8.toNat h
  rw[Oct.CE]at e
  have h46:(46:UInt8).toNat=46:=rfl
  rw[h46]at e
  apply Oct.TB
  rw[h46]
  split at e<;>omega
 ·rintro rfl;decide
theorem IN: ∀s:List UInt8,Oct.split 46 (s.map Oct.low)=(Oct.split 46 s).map (List.map Oct.low)
 | []=>rfl
 |c::r=>by
  have ih:=IN r
  rw[List.map_cons,Oct.DC,Oct.DC,ih]
  by_cases h:c=46
  ·rw[if_pos ((lX c).2 h),if_pos h];rfl
  ·rw[if_neg (fun e=>h ((lX c).1 e)),if_neg h]
   cases Oct.split 46 r<;>rfl
theorem cAv(c:UInt8):Oct.RA (Oct.low c)=Oct.RA c:=by
 unfold Oct.RA
 rw[Oct.CE,decide_eq_decide]
 split<;>omega
theorem GU(p:List UInt8):Oct.digits (p.map Oct.low)=Oct.digits p:=by
 unfold Oct.digits
 rw[List.all_map]
 congr 1
 ·simp
 ·congr 1
  funext c
  exact cAv c
theorem eX(s:List UInt8):last (s.map Oct.low)=(last s).map Oct.low:=by
 unfold last
 rw[IN,List.length_map,List.getElem?_map]
 cases(Oct.split 46 s)[(Oct.split 46 s).length-1]? <;>rfl
theorem jAf(c:UInt8):bI (Oct.low c)=okB c:=by
 unfold bI okB
 rw[Oct.CE,decide_eq_decide]
 split<;>omega
theorem jAg(p:List UInt8):PC (p.map Oct.low)=lab p:=by
 unfold PC lab
 rw[List.length_map,List.all_map]
 congr 1
 congr 1
 funext c
 exact jAf c
theorem JH(c:UInt8): ∀l:List UInt8,Lib.join (Oct.split c l) [c]=l
 | []=>rfl
 |d::r=>by
  have ih:=JH c r
  rw[Oct.DC]
  by_cases h:d=c
  ·rw[if_pos h]
   cases e:Oct.split c r with
   |nil=>exact absurd e (Oct.ZF c r)
   |cons p ps=>rw[aA.join_step,<-e,ih,h];rfl
  ·rw[if_neg h]
   cases e:Oct.split c r with
   |nil=>exact absurd e (Oct.ZF c r)
   |cons p ps=>
    rw[e]at ih
    show Lib.join ((d::p)::ps) [c]=d::r
    cases ps with
    |nil=>rw[Lib.join_one]at ih⊢;rw[ih]
    |cons q qs=>rw[aA.join_step]at ih⊢;rw[List.cons_append,ih]
theorem mA8 {s:List UInt8}(h:253<s.length):aA.v4 s=none:=by
 unfold aA.v4
 rw[if_neg]
 rintro⟨h4,hok⟩
 have hs: ∀p∈Oct.split 46 s,p.length<=18:=by
  intro p hp
  have:=List.all_eq_true.1 hok p hp
  unfold aA.JD Oct.isNum at this
  simp only[Bool.and_eq_true,decide_eq_true_eq]at this
  exact this.1.1.2
 have:=aA.join_length [46] rfl 18 _ hs
 rw[JH,h4]at this
 omega
theorem jZ {b:List UInt8}(h:aA.isRow b=true):b.length<=5*(aA.row b).length:=by
 unfold aA.isRow at h
 by_cases hb:b= []
 ·subst hb;simp
 ·rw[zA8 hb,Bool.false_or]at h
  unfold aA.row
  rw[if_neg hb,List.length_map]
  have hs: ∀p∈Oct.split 58 b,p.length<=4:=by
   intro p hp
   have:=List.all_eq_true.1 h p hp
   unfold aA.UA at this
   simp only[Bool.and_eq_true,decide_eq_true_eq]at this
   exact this.1.2
  have:=aA.join_length [58] rfl 4 _ hs
  rw[JH]at this
  exact this
theorem cA1 {s:List UInt8}{i:Nat}(h:aA.Two s i)(hn: ∀k,k<i-> ¬aA.Two s k):Lib.cut s [58,58]=(s.take i,s.drop (i+2),true):=by
 have hl:(s.take i).length=i:=by
  have:=(List.getElem?_eq_some_iff.1 h.1).1
  rw[List.length_take];omega
 have e:=h.split
 conv=>lhs;rw[e]
 refine aA.uU fun k hk=>?_
 rw[hl]at hk
 rw[<-e]
 exact hn k hk
theorem cA2(s:List UInt8):s.length<=(Lib.cut s [58,58]).1.length+(Lib.cut s [58,58]).2.1.length+2:=by
 by_cases h: ∃j,aA.Two s j
 ·obtain⟨j,hj⟩:=h
  obtain⟨i,_,hi,hn⟩:=aA.KP hj
  rw[cA1 hi hn]
  have hl:=(List.getElem?_eq_some_iff.1 hi.2).1
  simp only[List.length_take,List.length_drop]
  omega
 ·have hc:Lib.cut s [58,58]=(s,[],false):=aA.wU fun j hj=>h ⟨j,hj⟩
  rw[hc]
  simp
theorem mAd {s:List UInt8}(h:200<s.length):aA.v6 s=none:=by
 unfold aA.v6
 rw[if_neg]
 rintro⟨h1,h2,h3⟩
 have a:=jZ h1
 have b:=jZ h2
 have c:=cA2 s
 have d:(aA.row (Lib.cut s [58,58]).1).length+(aA.row (Lib.cut s [58,58]).2.1).length<=8:=by
  unfold aA.fits at h3
  split at h3
  ·have:=zB1 h3;omega
  ·have:=zB1 h3;omega
 omega
theorem mAf {r:List UInt8}(h:201<r.length):jD r=none:=by
 unfold jD
 split
 ·rw[mAd (by rw[List.length_dropLast];omega)];rfl
 ·rfl
theorem jAo(s:List UInt8):SG s=parse s:=by
 unfold SG parse
 rw[eX,GU,IN,List.all_map]
 have e:((PC∘List.map Oct.low):List UInt8->Bool)=lab:=by funext p;exact jAg p
 rw[e]
 by_cases hl:253<s.length
 ·rw[if_pos hl]
  split
  ·exact mAf (by rw[List.length_tail];omega)
  ·split
   ·unfold yD;rw[mA8 hl];rfl
   ·rw[if_neg (fun k=>by have:=k.2;omega)]
 ·rw[if_neg hl]
  split
  ·rfl
  ·split
   ·rfl
   ·by_cases ha:(Oct.split 46 s).all lab=true
    ·rw[if_pos ⟨ha,by omega⟩,if_pos ha]
    ·rw[if_neg (fun k=>ha k.1),if_neg ha]
structure Good(n:List UInt8):Prop where
 few:n.length<=253
 all:(Oct.split 46 n).all lab=true
 num:Oct.digits (last n)=false
 low:n.map Oct.low=n
theorem Good.head {n:List UInt8}(h:(Oct.split 46 n).all lab=true):n.head?≠some 91:=by
 intro e
 cases n with
 |nil=>cases e
 |cons c r=>
  simp at e
  subst e
  rw[Oct.DC,if_neg (by decide)]at h
  split at h
  ·exact absurd h (by decide)
  ·rename_i p ps _
   rw[List.all_cons,Bool.and_eq_true]at h
   have:=h.1
   unfold lab at this
   rw[List.all_cons]at this
   have e:okB 91=false:=by decide
   rw[e]at this
   simp at this
theorem Good.parse {n:List UInt8}(h:Good n):bA.parse n=some ⟨1,n,IA⟩:=by
 unfold bA.parse
 rw[if_neg (by have:=h.few;omega),if_neg (Good.head h.all),if_neg (by rw[h.num];simp),if_pos h.all,h.low]
theorem jAA {h:Host}(hk:h.kind=1)(hr:right h=true):Good h.name/\h.addr=IA:=by
 have hp:=zB1 hr
 unfold bA.parse at hp
 split at hp
 ·cases hp
 ·rename_i h1
  split at hp
  ·unfold jD at hp
   split at hp
   ·cases hv:aA.v6 h.name.tail.dropLast with
    |none=>rw[hv]at hp;cases hp
    |some g=>
     rw[hv]at hp
     have:=congrArg (fun o=>o.map Host.kind) hp
     simp[hk]at this
   ·cases hp
  ·split at hp
   ·unfold yD at hp
    cases hv:aA.v4 h.name with
    |none=>rw[hv]at hp;cases hp
    |some l=>
     rw[hv]at hp
     have:=congrArg (fun o=>o.map Host.kind) hp
     simp[hk]at this
   ·rename_i hd
    split at hp
    ·rename_i ha
     have e:=zB2 hp
     have e1:=congrArg Host.name e
     have e2:=congrArg Host.addr e
     exact⟨⟨by omega,ha,by simpa using hd,e1⟩,e2.symm⟩
    ·cases hp
theorem dAX {n:List UInt8}(h:Good n):right ⟨1,n,IA⟩=true:=zA9 h.parse
theorem uM {n:List UInt8}(h:Good n):labels ⟨1,n,IA⟩=Oct.split 46 n:=by
 unfold labels;rw[if_pos ⟨rfl,dAX h⟩]
theorem MG {h:Host}(hl:labels h≠ []):h.kind=1/\Good h.name/\h=⟨1,h.name,IA⟩/\labels h=Oct.split 46 h.name:=by
 unfold labels at hl⊢
 split at hl
 ·rename_i hh
  obtain⟨g,ha⟩:=jAA hh.1 hh.2
  refine⟨hh.1,g,?_,by rw[if_pos hh]⟩
  cases h
  simp at hh ha⊢
  exact⟨hh.1,ha⟩
 ·exact absurd rfl hl
theorem PW(c:UInt8): ∀(A B:List (List UInt8)),A≠ []->B≠ []->Lib.join (A++B) [c]=Lib.join A [c]++c::Lib.join B [c]
 | [],_,h,_=>absurd rfl h
 | [x],B,_,hB=>by
  cases B with
  |nil=>exact absurd rfl hB
  |cons y r=>rw[List.singleton_append,aA.join_step,Lib.join_one]
 |x::y::A,B,_,hB=>by
  have ih:=PW c (y::A) B (by simp) hB
  rw[List.cons_append,List.cons_append,aA.join_step,<-List.cons_append,ih,aA.join_step,List.append_assoc,List.cons_append]
theorem UM {p:List UInt8}(h:lab p=true):1<=p.length/\p.length<=63/\ ∀d∈p,okB d=true:=by
 unfold lab at h
 simp only[Bool.and_eq_true,decide_eq_true_eq]at h
 exact⟨h.1.1,h.1.2,List.all_eq_true.1 h.2⟩
def ending(n:List UInt8)(k:Nat):List UInt8:=Lib.join ((Oct.split 46 n).drop ((Oct.split 46 n).length-k)) [46]
theorem ZU {n:List UInt8}{k:Nat}(h:k=(Oct.split 46 n).length):ending n k=n:=by
 unfold ending
 rw[h,Nat.sub_self,List.drop_zero,JH]
theorem YU {n:List UInt8}{k:Nat}(h1:1<=k)(h2:k<(Oct.split 46 n).length):n=Lib.join ((Oct.split 46 n).take ((Oct.split 46 n).length-k)) [46]++46::ending n k:=by
 have e:=JH 46 n
 have e2:=List.take_append_drop ((Oct.split 46 n).length-k) (Oct.split 46 n)
 unfold ending
 rw[<-PW 46 _ _ ?_ ?_,e2,e]
 ·intro e
  have:=congrArg List.length e
  rw[List.length_take,List.length_nil]at this
  omega
 ·intro e
  have:=congrArg List.length e
  rw[List.length_drop,List.length_nil]at this
  omega
theorem cAO {n:List UInt8}{k:Nat}(h1:1<=k)(h2:k<(Oct.split 46 n).length):(ending n k).length<n.length:=by
 have:=congrArg List.length (YU h1 h2)
 rw[zB4,zB5]at this
 omega
theorem PZ {h:Host}{k:Nat}(h1:1<=k)(h2:k<=(labels h).length):XB h (k:Int)=some ⟨1,ending h.name k,IA⟩:=by
 have hl:labels h≠ []:=by intro e;rw[e]at h2;simp at h2;omega
 obtain⟨_,_,_,e⟩:=MG hl
 unfold XB ending
 rw[if_pos ⟨by omega,by omega⟩,e];rfl
theorem CR {h:Host}{n:Int}(hn: ¬(1<=n/\n<=((labels h).length:Int))):XB h n=none:=by
 unfold XB;rw[if_neg hn]
theorem X2 {h d:Host}(hd:labels d≠ [])(hle:(labels d).length<=(labels h).length):under h d=(decide (ending h.name (labels d).length=d.name)&& !decide (ending h.name (labels d).length=h.name)):=by
 have h1:1<=(labels d).length:=List.length_pos_iff.2 hd
 have hh:labels h≠ []:=by intro e;rw[e]at hle;simp at hle;exact hd hle
 obtain⟨_,_,ed,_⟩:=MG hd
 obtain⟨_,_,eh,_⟩:=MG hh
 unfold under
 rw[PZ h1 hle]
 have a:decide ((⟨1,ending h.name (labels d).length,IA⟩:Host)=d)=decide (ending h.name (labels d).length=d.name):=by
  rw[decide_eq_decide]
  constructor
  ·intro e;exact congrArg Host.name e
  ·intro e;rw[e,<-ed]
 have b:decide ((⟨1,ending h.name (labels d).length,IA⟩:Host)=h)=decide (ending h.name (labels d).length=h.name):=by
  rw[decide_eq_decide]
  constructor
  ·intro e;exact congrArg Host.name e
  ·intro e;rw[e,<-eh]
 show(decide _&& !decide _)=_
 rw[a,b]
theorem SR {h d:Host}(hn:labels d= []\/(labels h).length<(labels d).length):under h d=false:=by
 unfold under
 rw[CR]
 rcases hn with e|e
 ·rw[e];simp
 ·omega
theorem GN(c:UInt8): ∀x y:List UInt8,Oct.split c (x++c::y)=Oct.split c x++Oct.split c y
 | [],y=>by rw[List.nil_append,Oct.DC,if_pos rfl];rfl
 |d::x,y=>by
  have ih:=GN c x y
  rw[List.cons_append,Oct.DC,Oct.DC,ih]
  split
  ·rfl
  ·cases e:Oct.split c x with
   |nil=>exact absurd e (Oct.ZF c x)
   |cons p ps=>rfl
theorem lAQ(h d:Host):under h d=eR h d:=by
 unfold eR
 by_cases hd:labels d= []
 ·rw[SR (.inl hd),hd];simp
 by_cases hh:labels h= []
 ·rw[SR (.inr (by rw[hh];exact List.length_pos_iff.2 hd)),hh];simp
 obtain⟨_,gd,ed,ld⟩:=MG hd
 obtain⟨_,gh,eh,lh⟩:=MG hh
 rw[zA9 (show labels h≠ []/\labels d≠ [] from⟨hh,hd⟩),Bool.true_and]
 have hd1:1<=(labels d).length:=List.length_pos_iff.2 hd
 rw[Bool.eq_iff_iff]
 constructor
 ·intro hu
  have hle:(labels d).length<=(labels h).length:=by
   rcases Nat.lt_or_ge (labels h).length (labels d).length with k|k
   ·rw[SR (.inr k)]at hu;cases hu
   ·exact k
  rw[X2 hd hle,Bool.and_eq_true,decide_eq_true_eq,Bool.not_eq_true',decide_eq_false_iff_not]at hu
  obtain⟨e1,e2⟩:=hu
  have hlt:(labels d).length<(Oct.split 46 h.name).length:=by
   rcases Nat.lt_or_eq_of_le hle with k|k
   ·rw[<-lh];exact k
   ·exact absurd (ZU (by rw[k,lh])) e2
  have ep:=YU hd1 hlt
  rw[e1]at ep
  have hx:1<=(Lib.join ((Oct.split 46 h.name).take ((Oct.split 46 h.name).length- (labels d).length)) [46]).length:=by
   cases e:(Oct.split 46 h.name).take ((Oct.split 46 h.name).length- (labels d).length)with
   |nil=>
    have:=congrArg List.length e
    rw[List.length_take,List.length_nil]at this
    omega
   |cons p ps=>
    have hp:p∈Oct.split 46 h.name:=List.mem_of_mem_take (by rw[e];simp)
    have:=(UM (List.all_eq_true.1 gh.all p hp)).1
    rw[Lib.join_cons,zB4]
    omega
  generalize Lib.join ((Oct.split 46 h.name).take ((Oct.split 46 h.name).length- (labels d).length)) [46]=X at*
  have el:=congrArg List.length ep
  rw[zB4,zB5]at el
  rw[Bool.and_eq_true,decide_eq_true_eq,decide_eq_true_eq]
  refine⟨by omega,?_⟩
  have:h.name.length- (d.name.length+1)=X.length:=by omega
  rw[this,ep,List.drop_left]
 ·intro hr
  rw[Bool.and_eq_true,decide_eq_true_eq,decide_eq_true_eq]at hr
  obtain⟨h1,h2⟩:=hr
  have ep:h.name=h.name.take (h.name.length- (d.name.length+1))++46::d.name:=by rw[<-h2,List.take_append_drop]
  have es:labels h=Oct.split 46 (h.name.take (h.name.length- (d.name.length+1)))++labels d:=by
   rw[lh,ld,<-GN,<-ep]
  have hp:=Oct.aG 46 (h.name.take (h.name.length- (d.name.length+1)))
  generalize Oct.split 46 (h.name.take (h.name.length- (d.name.length+1)))=X at*
  have hlen:=congrArg List.length es
  rw[zB4]at hlen
  rw[X2 hd (by omega)]
  have e1:ending h.name (labels d).length=d.name:=by
   unfold ending
   rw[<-lh,es,zB4,Nat.add_sub_cancel,List.drop_left,ld,JH]
  rw[e1,zA9 rfl,Bool.true_and,Bool.not_eq_true',decide_eq_false_iff_not]
  intro e
  have:=congrArg List.length e
  omega
end bA
end Go.Proofs.YtdaaoopkkhfbhaaGreatDoor
namespace Go.Proofs.YtdaaoopkkhfbhaaGreatDoor
namespace bA
def text(h:Host):List UInt8:=if h.kind=1 then h.name else if h.kind=2 then aA.bL (h.addr.drop 12)else if h.kind=3 then 91::(aA.UD (aA.groups h.addr)++ [93])else []
def can(h:Host):Bool:=decide (parse (text h)=some h)
theorem bAf {h:Host}(hk:h.kind=1):can h=right h:=by unfold can right text;rw[if_pos hk]
theorem xX {at_ c:UInt8} : ∀ {ps:List (List UInt8)},c∈Lib.join ps [at_]->c=at_\/ ∃p∈ps,c∈p
 | [],h=>by rw[Lib.join_nil]at h;cases h
 | [x],h=>by rw[Lib.join_one]at h;exact .inr ⟨x,by simp,h⟩
 |x::y::r,h=>by
  rw[aA.join_step]at h
  rcases List.mem_append.1 h with h|h
  ·exact .inr ⟨x,by simp,h⟩
  ·rcases List.mem_cons.1 h with h|h
   ·exact .inl h
   ·rcases xX h with h|⟨p,hp,hc⟩
    ·exact .inl h
    ·exact .inr ⟨p,by simp[List.mem_cons.1 hp],hc⟩
theorem gAH {at_ c:UInt8}{l:List UInt8}(h:c∈l):c=at_\/ ∃p∈Oct.split at_ l,c∈p:=by
 rw[<-JH at_ l]at h
 exact xX h
theorem hA6 {s:List UInt8}(h:(Oct.split 46 s).all lab=true):s≠ []/\ ∀c∈s,okB c=true\/c=46:=by
 refine⟨by rintro rfl;exact absurd h (by decide),fun c hc=>?_⟩
 rcases gAH (at_:=46) hc with rfl|⟨p,hp,hcp⟩
 ·exact .inr rfl
 ·exact .inl ((UM (List.all_eq_true.1 h p hp)).2.2 c hcp)
end bA
namespace Ur
structure URL where
 secure:Bool
 host:bA.Host
 port:Int
 path:List UInt8
instance:DecidableEq URL:=fun a b=>
 if h:a.secure=b.secure/\a.host=b.host/\a.port=b.port/\a.path=b.path then isTrue (by
  cases a;cases b
  obtain⟨h1,h2,h3,h4⟩:=h
  simp only at h1 h2 h3 h4
  rw[h1,h2,h3,h4])
 else isFalse (by rintro rfl;exact h ⟨rfl,rfl,rfl,rfl⟩)
def zero:URL:=⟨false,bA.zero,0,[]⟩
def EE(c:UInt8):Bool:=decide (33<=c.toNat/\c.toNat<=126/\c.toNat≠63/\c.toNat≠35)
def cC(s:List UInt8):Bool:=s.all EE&& (decide (1<=s.length/\s.length<=2048)&&decide (s.head?=some 47))
def right(u:URL):Bool:=bA.can u.host&& (decide (1<=u.port/\u.port<=65535)&&cC u.path)
def http:List UInt8:= [104,116,116,112,58,47,47]
def https:List UInt8:= [104,116,116,112,115,58,47,47]
def find(s some:List UInt8):Nat:=s.findIdx fun c=>some.contains c
def scheme(s:List UInt8):Option (Bool×List UInt8):=
 if(s.take 7).map Oct.low=http then some (false,s.drop 7)else if(s.take 8).map Oct.low=https then some (true,s.drop 8)else none
def usual(secure:Bool):Int:=if secure then 443 else 80
def place(rest:List UInt8):List UInt8:=rest.take (find rest [47,63,35])
def behind(rest:List UInt8):List UInt8:=rest.drop (find rest [47,63,35])
def raw(rest:List UInt8):List UInt8:=(behind rest).take (find (behind rest) [63,35])
def pathOf(rest:List UInt8):List UInt8:=if raw rest= []then [47]else raw rest
def jB(pl:List UInt8):Nat:=if pl.head?=some 91 then min (find pl [93]+1) pl.length else find pl [58]
def SD(secure:Bool)(b:List UInt8):Option Int:=
 if b= []then some (usual secure)else if Oct.isNum b.tail=true/\1<=Oct.number b.tail/\Oct.number b.tail<=65535 then some (Oct.number b.tail:Int)else none
def go(secure:Bool)(pl p:List UInt8):Int×URL:=
 match bA.parse (pl.take (jB pl))with
 |none=>(31,zero)
 |some h=>
  if pl.drop (jB pl)≠ []/\(pl.drop (jB pl)).head?≠some 58 then(31,zero)
  else match SD secure (pl.drop (jB pl))with
   |none=>(42,zero)
   |some n=>if cC p=true then(0,⟨secure,h,n,p⟩)else(43,zero)
def parse(s:List UInt8):Int×URL:=
 match scheme s with
 |none=>(41,zero)
 |some (secure,rest)=>go secure (place rest) (pathOf rest)
theorem KI(s some:List UInt8):find s some<=s.length:=List.findIdx_le_length
theorem dA7 {s m some:List UInt8}(hm:m= []\/ ∃c r,m=c::r/\some.contains c=true):find (s++m) some=find s some:=by
 unfold find
 rw[List.findIdx_append]
 split
 ·rfl
 ·have hle:=List.findIdx_le_length (p:=fun c=>some.contains c) (xs:=s)
  have h0:m.findIdx (fun c=>some.contains c)=0:=by
   rcases hm with rfl|⟨c,r,rfl,hc⟩
   ·rfl
   ·rw[List.findIdx_cons,hc];rfl
  omega
theorem bF {s some:List UInt8}(h: ∀c∈s,some.contains c=false):find s some=s.length:=by
 unfold find
 rw[List.findIdx_eq_length]
 exact h
theorem uK {s m some:List UInt8}(h: ∀c∈s,some.contains c=false)(hm:m= []\/ ∃c r,m=c::r/\some.contains c=true):find (s++m) some=s.length:=by
 rw[dA7 hm,bF h]
theorem cAm: ∀n:Nat,(Lib.decDigits n).all Oct.RA=true/\Oct.numOf (Lib.decDigits n)=n/\Lib.decDigits n≠ []:=by
 intro n
 induction n using Nat.strongRecOn with
 |_ n ih=>
  unfold Lib.decDigits
  split
  ·rename_i h
   have e:(UInt8.ofNat (48+n)).toNat=48+n:=by rw[UInt8.toNat_ofNat'];omega
   refine⟨?_,?_,by simp⟩
   ·show(Oct.RA (UInt8.ofNat (48+n))&&true)=true
    unfold Oct.RA
    rw[e,zA9 (by omega)];rfl
   ·show 0*10+((UInt8.ofNat (48+n)).toNat-48)=n
    omega
  ·rename_i h
   obtain⟨h1,h2,h3⟩:=ih (n/10) (by omega)
   have e:(UInt8.ofNat (48+n%10)).toNat=48+n%10:=by rw[UInt8.toNat_ofNat'];omega
   refine⟨?_,?_,by simp⟩
   ·rw[List.all_append,h1]
    show(true&& (Oct.RA (UInt8.ofNat (48+n%10))&&true))=true
    unfold Oct.RA
    rw[e,zA9 (by omega)];rfl
   ·rw[Oct.dY,h2,e];omega
theorem rK: ∀(k n:Nat),1<=k->n<10^k->(Lib.decDigits n).length<=k
 |0,_,h,_=>by omega
 |1,n,_,h=>by unfold Lib.decDigits;rw[dif_pos (by omega)];simp
 |k+2,n,_,h=>by
  unfold Lib.decDigits
  split
  ·simp
  ·have:=rK (k+1) (n/10) (by omega) (by rw[Nat.pow_succ]at h;omega)
   rw[zB4,List.length_singleton]
   omega
end Ur
end Go.Proofs.YtdaaoopkkhfbhaaGreatDoor
namespace Go.Proofs.YtdaaoopkkhfbhaaGreatDoor
namespace Ur
theorem LM: ∀(s any:List UInt8),Lib.indexAny s any=if find s any<s.length then(find s any:Int)else-1
 | [],any=>by unfold find;simp[Lib.indexAny]
 |c::r,any=>by
  have ih:=LM r any
  have hf:find (c::r) any=if any.contains c then 0 else find r any+1:=by
   unfold find
   rw[List.findIdx_cons]
   cases any.contains c<;>rfl
  unfold Lib.indexAny
  rw[hf,ih]
  cases any.contains c with
  |true=>simp
  |false=>
   have hle:=KI r any
   by_cases h:find r any<r.length
   ·simp[h]
    try omega
   ·simp[h]
theorem fA6 {s some:List UInt8}(h:Lib.indexAny s some<0):s.take (find s some)=s/\s.drop (find s some)= []:=by
 have hle:=KI s some
 rw[LM]at h
 split at h
 ·omega
 ·have e:find s some=s.length:=by omega
  rw[e,List.take_length,List.drop_length]
  exact⟨rfl,rfl⟩
theorem fA7 {s some:List UInt8}(h: ¬Lib.indexAny s some<0):Lib.indexAny s some=(find s some:Int)/\find s some<s.length:=by
 rw[LM]at h⊢
 split
 ·rename_i k;exact⟨rfl,k⟩
 ·rename_i k;rw[if_neg k]at h;omega
def secure?(s:List UInt8):Bool:=match scheme s with|some (b,_)=>b|none=>false
def rest?(s:List UInt8):List UInt8:=match scheme s with|some (_,r)=>r|none=> []
theorem cAN {pl:List UInt8}(h:pl.head?≠some 91):jB pl=find pl [58]:=by unfold jB;rw[if_neg h]
theorem cA0(l:List UInt8)(c:UInt8):Lib.cut l [c]=if find l [c]<l.length then(l.take (find l [c]),l.drop (find l [c]+1),true)else(l,[],false):=by
 unfold Lib.cut
 rw[Lib.index_one,<-Lib.indexAny_one,LM]
 by_cases h:find l [c]<l.length
 ·rw[if_pos h,if_pos h,if_pos (by omega),Int.toNat_natCast];rfl
 ·rw[if_neg h,if_neg h,if_neg (by omega)]
theorem iAE {b:List UInt8}(secure:Bool)(h:b.head?=some 58):SD secure b=if Oct.isNum b.tail=true/\1<=Oct.number b.tail/\Oct.number b.tail<=65535 then some (Oct.number b.tail:Int)else none:=by
 unfold SD
 rw[if_neg (by rintro rfl;cases h)]
theorem iAF {b:List UInt8}(secure:Bool)(h:b= []):SD secure b=some (usual secure):=by
 unfold SD;rw[if_pos h]
end Ur
end Go.Proofs.YtdaaoopkkhfbhaaGreatDoor
namespace Go.Proofs.YtdaaoopkkhfbhaaGreatDoor
namespace iK
theorem dAK(s:ByteArray)(k:Nat)(h:k<s.size):s.get! k=s[k]'h:=by
 simp[ByteArray.get!,getElem!_pos,h]
 rfl
theorem bAH {n:Nat}(h:n/64=2):128<=n:=by omega
theorem cAo(s:ByteArray)(pos:Nat)(h:pos<s.size)(ha:128<=(s[pos]'h).toNat):
  ∀k,pos<=k->k<pos+(Utf8.decode s pos).2-> ∃hk:k<s.size,128<=(s[k]'hk).toNat:=by
 have hn: ¬(s[pos]'h).toNat<128:=by omega
 have one: ∀k,pos<=k->k<pos+1-> ∃hk:k<s.size,128<=(s[k]'hk).toNat:=by
  intro k h1 h2
  obtain rfl:k=pos:=by omega
  exact⟨h,ha⟩
 have more: ∀j,(decide (pos+j<s.size)&& ((s.get! (pos+j)).toNat/64==2))=true-> ∃hk:pos+j<s.size,128<=(s[pos+j]'hk).toNat:=by
  intro j hj
  rw[Bool.and_eq_true,decide_eq_true_eq,beq_iff_eq]at hj
  refine⟨hj.1,?_⟩
  rw[dAK s _ hj.1]at hj
  exact bAH hj.2
 simp only[Utf8.decode,get_at s pos h,hn,if_false]
 split
 ·rename_i hc
  rw[Bool.and_eq_true]at hc
  have m1:=more 1 hc.2
  split
  ·intro k h1 h2
   rcases Nat.lt_or_ge k (pos+1)with hk|hk
   ·exact one k h1 hk
   ·obtain rfl:k=pos+1:=by simp at h2;omega
    exact m1
  ·exact one
 ·split
  ·rename_i hc
   rw[Bool.and_eq_true,Bool.and_eq_true]at hc
   have m1:=more 1 hc.1.2
   have m2:=more 2 hc.2
   split
   ·intro k h1 h2
    rcases Nat.lt_or_ge k (pos+1)with hk|hk
    ·exact one k h1 hk
    ·rcases Nat.lt_or_ge k (pos+2)with hk2|hk2
     ·obtain rfl:k=pos+1:=by omega
      exact m1
     ·obtain rfl:k=pos+2:=by simp at h2;omega
      exact m2
   ·exact one
  ·split
   ·rename_i hc
    rw[Bool.and_eq_true,Bool.and_eq_true,Bool.and_eq_true]at hc
    have m1:=more 1 hc.1.1.2
    have m2:=more 2 hc.1.2
    have m3:=more 3 hc.2
    split
    ·intro k h1 h2
     rcases Nat.lt_or_ge k (pos+1)with hk|hk
     ·exact one k h1 hk
     ·rcases Nat.lt_or_ge k (pos+2)with hk2|hk2
      ·obtain rfl:k=pos+1:=by omega
       exact m1
      ·rcases Nat.lt_or_ge k (pos+3)with hk3|hk3
       ·obtain rfl:k=pos+2:=by omega
        exact m2
       ·obtain rfl:k=pos+3:=by simp at h2;omega
        exact m3
    ·exact one
   ·exact one
theorem aAJ {s chars:List UInt8}{i j:Nat}(hi:Lib.NoAny s chars i)(hm: ∀(k:Nat) b,i<=k->k<j->s[k]? =some b->chars.contains b=false):Lib.NoAny s chars j:=by
 intro k b hk hb
 rcases Nat.lt_or_ge k i with h|h
 ·exact hi k b h hb
 ·exact hm k b h hk hb
theorem gAu {chars:List UInt8}{b:UInt8}(hch: ∀c∈chars,c.toNat<128)(hb:128<=b.toNat):chars.contains b=false:=by
 cases e:chars.contains b with
 |false=>rfl
 |true=>
  have:=hch b (List.contains_iff_mem.1 e)
  omega
theorem YX {c:UInt8}(hc:128<=c.toNat): ∀ {l:List UInt8},(∀b∈l,b.toNat<128)->Lib.indexByte l c= -1
 | [],_=>rfl
 |x::r,h=>by
  have hne:x≠c:=fun e=>by have:=h x (by simp);rw[e]at this;omega
  have ih:=YX hc (l:=r) fun b hb=>h b (by simp[hb])
  show(if x==c then 0 else if Lib.indexByte r c== -1 then-1 else Lib.indexByte r c+1)= -1
  rw[ih,beq_eq_false_iff_ne.2 hne];rfl
end iK
end Go.Proofs.YtdaaoopkkhfbhaaGreatDoor
namespace Go.Proofs.YtdaaoopkkhfbhaaGreatDoor
namespace bA
theorem W2 {g:List UInt16}(hg:g.length=8):(aA.UD g).length<=82:=by
 have h1:=aA.oJ g
 have h2:=aA.oJ (g.take (aA.nf g))
 have h3:=aA.oJ (g.drop (aA.nt g))
 rw[List.length_take]at h2
 rw[List.length_drop]at h3
 unfold aA.UD
 split
 ·omega
 ·rw[zB4,zB5,zB5]
  omega
theorem lAI {l:List UInt8}(hl:l.length=4):(aA.bL l).length<=16:=by
 have:=aA.join_length [46] rfl 3 (l.map fun c=>Lib.decDigits c.toNat) (fun p hp=>by
  obtain⟨c,_,rfl⟩:=List.mem_map.1 hp
  have:=c.toNat_lt
  exact Ur.rK 3 _ (by omega) (by omega))
 rw[List.length_map,hl]at this
 exact this
theorem rJ(h:Host)(ha:h.addr.length=16):(text h).length<=h.name.length+84:=by
 unfold text
 split
 ·omega
 ·split
  ·have:=lAI (l:=h.addr.drop 12) (by rw[List.length_drop,ha])
   omega
  ·split
   ·have:=W2 (aA.wK 8 h.addr ha)
    rw[zB5,zB4,List.length_singleton]
    omega
   ·exact Nat.zero_le _
end bA
end Go.Proofs.YtdaaoopkkhfbhaaGreatDoor
namespace Go.Proofs.YtdaaoopkkhfbhaaGreatDoor
theorem vH(s:ByteArray)(n:Nat):s.extract 0 n=⟨(s.data.toList.take n).toArray⟩:=by
 apply ByteArray.ext
 rw[ByteArray.data_extract]
 apply Array.ext'
 rw[Array.toList_extract]
 simp[List.extract]
theorem extract_drop(s:ByteArray)(n:Nat):s.extract n s.size=⟨(s.data.toList.drop n).toArray⟩:=by
 apply ByteArray.ext
 rw[ByteArray.data_extract]
 apply Array.ext'
 rw[Array.toList_extract]
 have h:s.size=s.data.toList.length:=(Oct.oA s).symm
 rw[List.extract_eq_drop_take',List.drop_take,h,List.take_of_length_le (by rw[List.length_drop];exact zB3 _)]
theorem DE(s:ByteArray):(⟨s.data.toList.toArray⟩:ByteArray)=s:=by
 apply ByteArray.ext
 simp
namespace Oct
def xC(l:List UInt8):List UInt8:=(l.reverse.dropWhile EA).reverse
def trim(l:List UInt8):List UInt8:=xC (l.dropWhile EA)
theorem bAv(u:List UInt8)(c:UInt8)(h:EA c=true):xC (u++ [c])=xC u:=by
 unfold xC;rw[List.reverse_append,List.reverse_singleton,List.singleton_append,List.dropWhile_cons_of_pos h]
theorem ZT(u:List UInt8)(c:UInt8)(h:EA c=false):xC (u++ [c])=u++ [c]:=by
 unfold xC;rw[List.reverse_append,List.reverse_singleton,List.singleton_append,List.dropWhile_cons_of_neg (by simp[h])];simp
theorem cAH {l:List UInt8}{k:Nat}(h:k<l.length)(hb:EA l[k]=true):(l.drop k).dropWhile EA=(l.drop (k+1)).dropWhile EA:=by
 rw[List.drop_eq_getElem_cons h,List.dropWhile_cons_of_pos hb]
theorem cAC {l:List UInt8}{k:Nat}(h:k<l.length)(hb:EA l[k]=false):(l.drop k).dropWhile EA=l.drop k:=by
 rw[List.drop_eq_getElem_cons h,List.dropWhile_cons_of_neg (by simp[hb])]
theorem cAA {l:List UInt8}{k:Nat}(h:l.length<=k):(l.drop k).dropWhile EA=l.drop k:=by
 rw[List.drop_eq_nil_of_le h];rfl
def mid(l:List UInt8)(k m:Nat):List UInt8:=(l.drop k).take (m-k)
theorem gAO {l:List UInt8}{k m:Nat}(hk:k<m)(hm:m<=l.length):mid l k m=mid l k (m-1)++ [l[m-1]]:=by
 unfold mid
 rw[show m-k=(m-1-k)+1 by omega,List.take_succ_eq_append_getElem (by rw[List.length_drop];omega),List.getElem_drop]
 have:k+(m-1-k)=m-1:=by omega
 simp only[this]
theorem gAM {l:List UInt8}{k m:Nat}(hm:l.length<=m):mid l k m=l.drop k:=by unfold mid;rw[List.take_of_length_le (by rw[List.length_drop];omega)]
theorem gAN {l:List UInt8}{k m:Nat}(hm:m<=k):mid l k m= []:=by unfold mid;rw[Nat.sub_eq_zero_of_le hm];rfl
end Oct
namespace Oct
end Oct
end Go.Proofs.YtdaaoopkkhfbhaaGreatDoor
namespace Go.Proofs.YtdaaoopkkhfbhaaGreatDoor
namespace bA
theorem gAv(c:UInt8):Oct.low (Oct.low c)=Oct.low c:=by
 apply Oct.TB
 rw[Oct.CE (Oct.low c),Oct.CE]
 by_cases h:65<=c.toNat/\c.toNat<=90
 ·simp only[if_pos h];rw[if_neg (by omega)]
 ·simp only[if_neg h]
theorem hAN(c:UInt8):okB (Oct.low c)=okB c:=by
 unfold okB
 rw[Oct.CE,decide_eq_decide]
 split<;>omega
theorem fAW(p:List UInt8):lab (p.map Oct.low)=lab p:=by
 unfold lab
 rw[List.length_map,List.all_map]
 congr 1
 congr 1
 funext c
 exact hAN c
theorem tX(s:List UInt8):(s.map Oct.low).map Oct.low=s.map Oct.low:=by
 rw[List.map_map]
 congr 1
 funext c
 exact gAv c
theorem mJ {s:List UInt8}{h:Host}(hp:parse s=some h)(hk:h.kind=1):Good h.name/\h=⟨1,h.name,IA⟩/\h.name.length=s.length:=by
 unfold parse at hp
 split at hp
 ·cases hp
 ·rename_i h1
  split at hp
  ·unfold jD at hp
   split at hp
   ·cases hv:aA.v6 s.tail.dropLast with
    |none=>rw[hv]at hp;cases hp
    |some g=>
     rw[hv]at hp
     have:=congrArg (fun o=>o.map Host.kind) hp
     simp[hk]at this
   ·cases hp
  ·split at hp
   ·unfold yD at hp
    cases hv:aA.v4 s with
    |none=>rw[hv]at hp;cases hp
    |some l=>
     rw[hv]at hp
     have:=congrArg (fun o=>o.map Host.kind) hp
     simp[hk]at this
   ·rename_i hd
    split at hp
    ·rename_i ha
     have e:=(zB2 hp).symm
     subst e
     refine⟨⟨?_,?_,?_,tX s⟩,rfl,List.length_map _⟩
     ·show(s.map Oct.low).length<=253
      rw[List.length_map];omega
     ·show(Oct.split 46 (s.map Oct.low)).all lab=true
      rw[IN,List.all_map]
      have e:(lab∘List.map Oct.low)=lab:=by funext p;exact fAW p
      rw[e];exact ha
     ·show Oct.digits (last (s.map Oct.low))=false
      rw[eX,GU];simpa using hd
    ·cases hp
end bA
namespace Ru
structure Rule where
 kind:Int
 name:List UInt8
instance:DecidableEq Rule:=fun a b=>
 if h:a.kind=b.kind/\a.name=b.name then isTrue (by
  cases a;cases b
  obtain⟨h1,h2⟩:=h
  simp only at h1 h2
  rw[h1,h2])
 else isFalse (by rintro rfl;exact h ⟨rfl,rfl⟩)
def zero:Rule:=⟨0,[]⟩
def first(l:List UInt8):List UInt8:=l.take (Ur.find l [32,9])
def kind(t:List UInt8):Int:=if Lib.hasPrefix t [33]=true then 3 else if Lib.hasPrefix t [42,46]=true then 2 else 1
def rest(t:List UInt8):List UInt8:=if Lib.hasPrefix t [33]=true then Lib.trimPrefix t [33]else if Lib.hasPrefix t [42,46]=true then Lib.trimPrefix t [42,46]else t
def named(k:Int)(n:List UInt8):Option Rule:=
 match bA.parse n with
 |some h=>if h.kind=1/\(k=3->2<=(bA.labels h).length)then some ⟨k,h.name⟩else none
 |none=>none
def mute(t:List UInt8):Bool:=decide (t= [])||Lib.hasPrefix t [47,47]
def rule(t:List UInt8):Option Rule:=named (kind (first t)) (rest (first t))
def said(o:Option Rule):Int×Bool×Rule:=match o with|some r=>(0,true,r)|none=>(51,false,zero)
def line(l:List UInt8):Int×Bool×Rule:=if mute (Oct.trim l)=true then(0,false,zero)else said (rule (Oct.trim l))
def text(r:Rule):List UInt8:=if r.kind=3 then 33::r.name else if r.kind=2 then 42::46::r.name else r.name
structure L7 where
 code:Int
 line:Int
 col:Int
instance:DecidableEq L7:=fun a b=>
 if h:a.code=b.code/\a.line=b.line/\a.col=b.col then isTrue (by
  cases a;cases b
  obtain⟨h1,h2,h3⟩:=h
  simp only at h1 h2 h3
  rw[h1,h2,h3])
 else isFalse (by rintro rfl;exact h ⟨rfl,rfl,rfl⟩)
theorem gAm {l:List UInt8}(h:mute (Oct.trim l)=false):line l=said (rule (Oct.trim l)):=by unfold line;rw[if_neg (by rw[h];simp)]
theorem DQ(l:List UInt8):(∃r,line l=(0,true,r)/\rule (Oct.trim l)=some r)\/line l=(0,false,zero)\/line l=(51,false,zero):=by
 unfold line
 split
 ·exact .inr (.inl rfl)
 ·cases h:rule (Oct.trim l)with
  |none=>exact .inr (.inr rfl)
  |some r=>exact .inl ⟨r,rfl,rfl⟩
theorem fAO(t:List UInt8):kind t=1\/kind t=2\/kind t=3:=by
 unfold kind
 split
 ·exact .inr (.inr rfl)
 ·split
  ·exact .inr (.inl rfl)
  ·exact .inl rfl
theorem hA9 {k:Int}{n:List UInt8}{r:Rule}(h:named k n=some r):r.kind=k/\bA.Good r.name/\(k=3->2<=(Oct.split 46 r.name).length)/\r.name.length=n.length:=by
 unfold named at h
 cases hp:bA.parse n with
 |none=>rw[hp]at h;cases h
 |some x=>
  rw[hp]at h
  dsimp only at h
  split at h
  ·rename_i hk
   have e:=(zB2 h).symm
   subst e
   have g:=bA.mJ hp hk.1
   refine⟨rfl,g.1,fun h3=>?_,g.2.2⟩
   have:=hk.2 h3
   rw[show x=⟨1,x.name,bA.IA⟩ from g.2.1,bA.uM g.1]at this
   exact this
  ·cases h
structure Can(r:Rule):Prop where
 kind:r.kind=1\/r.kind=2\/r.kind=3
 good:bA.Good r.name
 two:r.kind=3->2<=(Oct.split 46 r.name).length
theorem jAQ {t:List UInt8}{r:Rule}(h:rule t=some r):Can r:=by
 obtain⟨h1,h2,h3,_⟩:=hA9 h
 exact⟨by rw[h1];exact fAO _,h2,fun k=>h3 (by rw[<-h1];exact k)⟩
theorem gAl {l:List UInt8}{r:Rule}(h:line l=(0,true,r)):Can r:=by
 rcases DQ l with⟨x,h1,h2⟩|h1|h1
 ·rw[h1]at h
  simp only[Prod.mk.injEq,true_and]at h
  subst h
  exact jAQ h2
 ·rw[h1]at h;simp at h
 ·rw[h1]at h;simp at h
def SF(c:UInt8):Bool:=bA.okB c||decide (c.toNat=46\/c.toNat=33\/c.toNat=42)
theorem kN {c:UInt8}(h:SF c=true):Oct.EA c=false/\([32,9]:List UInt8).contains c=false/\c≠10/\c≠13/\c≠47:=by
 have hn: ∀d:UInt8,d.toNat=32\/d.toNat=9\/d.toNat=10\/d.toNat=13\/d.toNat=47->c≠d:=by
  intro d hd e
  subst e
  unfold SF bA.okB at h
  simp only[Bool.or_eq_true,decide_eq_true_eq]at h
  omega
 have h1:=hn 32 (by decide)
 have h2:=hn 9 (by decide)
 refine⟨?_,?_,hn 10 (by decide),hn 13 (by decide),hn 47 (by decide)⟩
 ·unfold Oct.EA
  rw[decide_eq_false_iff_not]
  rintro(e|e)
  ·exact h1 (Oct.TB e)
  ·exact h2 (Oct.TB e)
 ·simp[h1,h2]
theorem xV {n:List UInt8}(h:bA.Good n):n≠ []/\ ∀c∈n,bA.okB c=true\/c=46:=bA.hA6 h.all
theorem SQ {c:UInt8}(h:bA.okB c=true\/c=46):SF c=true:=by
 unfold SF
 rcases h with h|h
 ·rw[h];rfl
 ·subst h;decide
theorem ZZ {r:Rule}(h:Can r):text r≠ []/\ ∀c∈text r,SF c=true:=by
 obtain⟨h1,h2⟩:=xV h.good
 unfold text
 split
 ·refine⟨by simp,fun c hc=>?_⟩
  rcases List.mem_cons.1 hc with rfl|hc
  ·decide
  ·exact SQ (h2 c hc)
 ·split
  ·refine⟨by simp,fun c hc=>?_⟩
   rcases List.mem_cons.1 hc with rfl|hc
   ·decide
   ·rcases List.mem_cons.1 hc with rfl|hc
    ·decide
    ·exact SQ (h2 c hc)
  ·exact⟨h1,fun c hc=>SQ (h2 c hc)⟩
theorem VK {t:List UInt8}{c:UInt8}{r:List UInt8}(h:t.head?≠some c):Lib.hasPrefix t (c::r)=false:=by
 cases t with
 |nil=>rfl
 |cons d u=>
  have hn:c≠d:=fun e=>h (by rw[<-e];rfl)
  show((c==d)&&_)=false
  rw[beq_eq_false_iff_ne.2 hn];rfl
theorem zV {n:List UInt8}(h:bA.Good n){c:UInt8}(hc:bA.okB c=false)(hd:c≠46):n.head?≠some c:=by
 intro e
 have hm:c∈n:=List.mem_of_mem_head? e
 rcases(xV h).2 c hm with k|k
 ·rw[hc]at k;cases k
 ·exact hd k
theorem L0 {r:Rule}(h:Can r):kind (text r)=r.kind/\rest (text r)=r.name:=by
 rcases h.kind with k|k|k
 ·have e:text r=r.name:=by unfold text;rw[if_neg (by omega),if_neg (by omega)]
  have p1:=VK (r:= []) (zV h.good (c:=33) (by decide) (by decide))
  have p2:=VK (r:= [46]) (zV h.good (c:=42) (by decide) (by decide))
  rw[e]
  unfold kind rest
  rw[p1,p2,k];exact⟨rfl,rfl⟩
 ·have e:text r=42::46::r.name:=by unfold text;rw[if_neg (by omega),if_pos k]
  rw[e,k];exact⟨rfl,rfl⟩
 ·have e:text r=33::r.name:=by unfold text;rw[if_pos k]
  rw[e,k];exact⟨rfl,rfl⟩
theorem hA8 {r:Rule}(h:Can r):named r.kind r.name=some r:=by
 unfold named
 rw[h.good.parse]
 dsimp only
 rw[if_pos ⟨rfl,fun k=>by rw[bA.uM h.good];exact h.two k⟩]
theorem dAa {t m:List UInt8}(h: ∀c∈t,SF c=true)(hm:m= []\/ ∃c r,m=c::r/\([32,9]:List UInt8).contains c=true):first (t++m)=t:=by
 unfold first
 rw[Ur.uK (fun c hc=>(kN (h c hc)).2.1) hm,List.take_left]
theorem jAR {r:Rule}(h:Can r){m:List UInt8}(hm:m= []\/ ∃c r,m=c::r/\([32,9]:List UInt8).contains c=true):rule (text r++m)=some r:=by
 unfold rule
 rw[dAa (ZZ h).2 hm,(L0 h).1,(L0 h).2,hA8 h]
theorem cAz {t:List UInt8}(ht:t≠ [])(h: ∀c∈t,SF c=true)(m:List UInt8):(t++m).dropWhile Oct.EA=t++m:=by
 cases t with
 |nil=>exact absurd rfl ht
 |cons c r=>rw[List.cons_append,List.dropWhile_cons_of_neg (by rw[(kN (h c (by simp))).1];simp)]
theorem bAs {t:List UInt8}(m:List UInt8){c:UInt8}(hc:Oct.EA c=false):t=m++ [c]->Oct.xC t=t:=by
 rintro rfl
 exact Oct.ZT m c hc
theorem lAC {t m:List UInt8}(ht:t≠ [])(h: ∀c∈t,SF c=true){c:UInt8}{u:List UInt8}(hu:t++m=u++ [c])(hc:Oct.EA c=false):Oct.trim (t++m)=t++m:=by
 unfold Oct.trim
 rw[cAz ht h m,bAs u hc hu]
theorem hA4 {t:List UInt8}(ht:t≠ [])(h: ∀c∈t,SF c=true)(m:List UInt8):mute (t++m)=false:=by
 cases t with
 |nil=>exact absurd rfl ht
 |cons c r=>
  unfold mute
  have hn:(c::r++m).head?≠some 47:=by
   intro e
   exact(kN (h c (by simp))).2.2.2.2 (zB2 e)
  rw[VK hn];simp
theorem kAE {t:List UInt8}(ht:t≠ []): ∃u c,t=u++ [c]/\c∈t:=⟨t.dropLast,t.getLast ht,(List.dropLast_concat_getLast ht).symm,List.getLast_mem ht⟩
theorem gAn {r:Rule}(h:Can r):line (text r)=(0,true,r):=by
 obtain⟨h1,h2⟩:=ZZ h
 obtain⟨u,c,hu,hc⟩:=kAE h1
 have e:=lAC (m:= []) h1 h2 (by rw[List.append_nil];exact hu) (kN (h2 c hc)).1
 have hm:=hA4 h1 h2 []
 have hr:=jAR h (m:= []) (.inl rfl)
 rw[List.append_nil]at e hm hr
 rw[gAm (by rw[e];exact hm),e,hr];rfl
theorem Y1 {t p:List UInt8}(h:Lib.hasPrefix t p=true):(Lib.trimPrefix t p).length+p.length=t.length:=by
 obtain⟨r,rfl⟩:=List.isPrefixOf_iff_prefix.1 (show p.isPrefixOf t=true from h)
 unfold Lib.trimPrefix
 rw[if_pos h]
 simp
 try omega
theorem lAD(l:List UInt8):(Oct.trim l).length<=l.length:=by
 unfold Oct.trim Oct.xC
 have h1:=(List.dropWhile_sublist Oct.EA (l:=(l.dropWhile Oct.EA).reverse)).length_le
 have h2:=(List.dropWhile_sublist Oct.EA (l:=l)).length_le
 rw[List.length_reverse]at h1⊢
 omega
theorem dAl(l:List UInt8):(first l).length<=l.length:=by
 unfold first
 rw[List.length_take];omega
end Ru
end Go.Proofs.YtdaaoopkkhfbhaaGreatDoor
