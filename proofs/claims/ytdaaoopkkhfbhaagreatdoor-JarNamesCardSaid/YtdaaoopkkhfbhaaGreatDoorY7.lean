/- URLs as values, and held against each other. -/
import Derived.Laws.Small
import Derived.Deep.Strs
import Derived.Maps.AppendAt
import Derived.Maps.OwnSet
import Derived.Great.BuildSlice
import Derived.Test.YtdaaoopkkhfbhaaGreatDoorY3
import Derived.Maps.RangeWalk
import Derived.DeepKeys4
set_option maxHeartbeats 2000000
set_option maxRecDepth 100000
namespace Go.Proofs.YtdaaoopkkhfbhaaGreatDoor
open Go.RowKit
def nA(u:Ur.URL):Array Value:=(Value.bool u.secure::Value.int .i64 u.host.kind::gA u.host.name::(u.host.addr.map BA++ [Value.int .i64 u.port,gA u.path])).toArray
theorem VG(u:Ur.URL)(ha:u.host.addr.length=16):(nA u).size=21:=by simp[nA,ha]
theorem KE(u:Ur.URL):(nA u).all (·.oneCell')=true:=by simp[nA,BA,gA,Value.oneCell']
theorem lAY(u:Ur.URL):(nA u)[0]? =some (.bool u.secure):=rfl
theorem UR(u:Ur.URL)(ha:u.host.addr.length=16):(nA u)[19]? =some (.int .i64 u.port):=by
 unfold nA
 rw[List.getElem?_toArray]
 show(u.host.addr.map BA++ [Value.int .i64 u.port,gA u.path])[16]? =_
 rw[List.getElem?_append_right (by simp[ha])]
 simp[ha]
theorem yJ(u:Ur.URL)(ha:u.host.addr.length=16):(nA u)[20]? =some (gA u.path):=by
 unfold nA
 rw[List.getElem?_toArray]
 show(u.host.addr.map BA++ [Value.int .i64 u.port,gA u.path])[17]? =_
 rw[List.getElem?_append_right (by simp[ha])]
 simp[ha]
theorem TR(u:Ur.URL)(ha:u.host.addr.length=16):(nA u).extract 1 19=cA u.host:=by
 apply Array.ext'
 rw[Array.toList_extract]
 unfold nA cA
 have e:List.take 16 (List.map BA u.host.addr++ [Value.int .i64 u.port,gA u.path])=List.map BA u.host.addr:=by
  rw[List.take_append_of_le_length (by simp[ha]),List.take_of_length_le (by simp[ha])]
 simp[List.extract,e]
theorem DB:(Tryz.prog.info? 34).map (·.size)=some 21:=by kernel_rfl
theorem kS: #[Value.bool false,.int .i64 0,.string ⟨#[]⟩,.int .u8 0,.int .u8 0,.int .u8 0,.int .u8 0,.int .u8 0,.int .u8 0,.int .u8 0,.int .u8 0,.int .u8 0,.int .u8 0,.int .u8 0,.int .u8 0,.int .u8 0,.int .u8 0,.int .u8 0,.int .u8 0,.int .i64 0,.string ⟨#[]⟩]=nA Ur.zero:=by rfl
theorem bA6:Tryz.prog.built 34 []=some (nA Ur.zero):=by kernel_rfl
theorem VT:Tryz.prog.cellsOf 32=18:=by kernel_rfl
def ML(o:Int×Ur.URL)(w:World)(e:Ending)(w':World):Prop:=e= .returned (.tuple #[.agg (nA o.2),.int .i64 o.1])/\Below w.heap.size w w'
end Go.Proofs.YtdaaoopkkhfbhaaGreatDoor
namespace Go.Proofs.YtdaaoopkkhfbhaaGreatDoor
namespace Ma
structure iA where
 name:List UInt8
 value:List UInt8
 host:bA.Host
 only:Bool
 path:List UInt8
 secure:Bool
 http:Bool
 same:Int
 expires:Int
 born:Int
 used:Int
 seq:Int
 deriving DecidableEq
structure Request where
 secure:Bool
 host:bA.Host
 path:List UInt8
 cross:Int
 deriving DecidableEq
def domain(h d:bA.Host):Bool:=bA.can h&&bA.can d&& (decide (h=d)||bA.under h d)
def edge(p f:List UInt8):Bool:=decide (p[f.length]? =some 47)||decide (f.getLast?=some 47)
def path(p f:List UInt8):Bool:=decide (p=f)||(decide (f.length<p.length)&&decide (p.take f.length=f)&&edge p f)
theorem yY(p f:List UInt8):path p f=true↔p=f\/ ∃c r,p=f++c::r/\(c=47\/f.getLast?=some 47):=by
 unfold path edge
 simp only[Bool.or_eq_true,Bool.and_eq_true,decide_eq_true_eq]
 constructor
 ·rintro(h|⟨⟨h1,h2⟩,h3⟩)
  ·exact .inl h
  ·right
   have e:p=f++p.drop f.length:=by
    have:=List.take_append_drop f.length p
    rw[h2]at this;exact this.symm
   cases ed:p.drop f.length with
   |nil=>
    have:=congrArg List.length ed
    rw[List.length_drop,List.length_nil]at this
    omega
   |cons c r=>
    rw[ed]at e
    refine⟨c,r,e,h3.imp (fun k=>?_) id⟩
    rw[e,List.getElem?_append_right (zB3 _),Nat.sub_self]at k
    exact zB2 k
 ·rintro(h|⟨c,r,rfl,h3⟩)
  ·exact .inl h
  ·right
   refine⟨⟨by rw[zB4,zB5];omega,List.take_left⟩,h3.imp (fun k=>?_) id⟩
   rw[List.getElem?_append_right (zB3 _),Nat.sub_self,k];rfl
def MB(p:List UInt8):List UInt8:=((p.reverse.dropWhile (fun c=>decide (c≠47))).drop 1).reverse
def default(p:List UInt8):List UInt8:=if p.head?=some 47/\MB p≠ []then MB p else [47]
theorem PU: ∀ {l:List UInt8},(47:UInt8)∈l-> ∃a r,l=a++47::r/\(∀c∈a,c≠47)/\l.dropWhile (fun c=>decide (c≠47))=47::r
 | [],h=>by cases h
 |x::l,h=>by
  by_cases k:x=47
  ·subst k
   exact⟨[],l,rfl,(by intro c hc;cases hc),by rw[List.dropWhile_cons_of_neg (by simp)]⟩
  ·obtain⟨a,r,h1,h2,h3⟩:=PU (l:=l) ((List.mem_cons.1 h).resolve_left (fun e=>k e.symm))
   refine⟨x::a,r,by rw[h1];rfl,?_,by rw[List.dropWhile_cons_of_pos (by simp[k])];exact h3⟩
   intro c hc
   rcases List.mem_cons.1 hc with e|e
   ·rw[e];exact k
   ·exact h2 c e
theorem nU {p:List UInt8}(h:(47:UInt8)∈p): ∃r,p=MB p++47::r/\ ∀c∈r,c≠47:=by
 obtain⟨a,r,h1,h2,h3⟩:=PU (l:=p.reverse) (List.mem_reverse.2 h)
 refine⟨a.reverse,?_,fun c hc=>h2 c (List.mem_reverse.1 hc)⟩
 unfold MB
 rw[h3,List.drop_one,List.tail_cons]
 have e:=congrArg List.reverse h1
 rw[List.reverse_reverse]at e
 rw[e];simp
theorem mU {a r:List UInt8}(h: ∀c∈r,c≠47):MB (a++47::r)=a:=by
 unfold MB
 rw[List.reverse_append,List.reverse_cons,List.append_assoc,List.dropWhile_append_of_pos (fun c hc=>by simp[h c (List.mem_reverse.1 hc)])]
 simp
theorem cAq {p:List UInt8}(h:p.head?=some 47):(default p).length<=p.length:=by
 unfold default
 split
 ·obtain⟨r,e,_⟩:=nU (p:=p) (List.mem_of_mem_head? h)
  have:=congrArg List.length e
  rw[zB4,zB5]at this
  omega
 ·cases p with
  |nil=>cases h
  |cons x q=>simp
def sH(same cross:Int):Bool:=decide (cross=0)||(decide (cross=1)&& !decide (same=3))||(decide (cross=2)&&decide (same=1))
def sends(c:iA)(r:Request)(now:Int):Bool:=
 ((decide (r.host=c.host)&&bA.can r.host)||(!c.only&&domain r.host c.host))&&path r.path c.path&& (!c.secure||r.secure)&&sH c.same r.cross&&decide (now<c.expires)
theorem MU(h:bA.Host):domain h h=bA.can h:=by
 unfold domain
 rw[zA9 (show h=h from rfl)]
 cases bA.can h<;>rfl
theorem LU {h d:bA.Host}(k:domain h d=true):bA.can h=true:=by
 unfold domain at k
 simp only[Bool.and_eq_true]at k
 exact k.1.1
theorem sends_iff(c:iA)(r:Request)(now:Int):sends c r now=true↔
  (c.only=true->c.host=r.host)/\domain r.host c.host=true/\path r.path c.path=true/\(c.secure=true->r.secure=true)/\now<c.expires/\sH c.same r.cross=true:=by
 unfold sends
 simp only[Bool.and_eq_true,Bool.or_eq_true,decide_eq_true_eq,Bool.not_eq_true']
 constructor
 ·rintro⟨⟨⟨⟨h1,h2⟩,h3⟩,h4⟩,h5⟩
  refine⟨?_,?_,h2,?_,h5,h4⟩
  ·intro ho
   rcases h1 with⟨e,_⟩|⟨e,_⟩
   ·exact e.symm
   ·rw[ho]at e;cases e
  ·rcases h1 with⟨e,k⟩|⟨_,k⟩
   ·rw[e,MU,<-e];exact k
   ·exact k
  ·intro hs
   rcases h3 with e|e
   ·rw[hs]at e;cases e
   ·exact e
 ·rintro⟨h1,h2,h3,h4,h5,h6⟩
  refine⟨⟨⟨⟨?_,h3⟩,?_⟩,h6⟩,h5⟩
  ·cases ho:c.only with
   |true=>exact .inl ⟨(h1 ho).symm,LU h2⟩
   |false=>exact .inr ⟨rfl,h2⟩
  ·cases hs:c.secure with
   |true=>exact .inr (h4 hs)
   |false=>exact .inl rfl
def key(a b:iA):Bool:=decide (a.name=b.name)&&decide (a.host=b.host)&&decide (a.only=b.only)&&decide (a.path=b.path)
def goes(a b:iA):Bool:=decide (b.path.length<a.path.length)||(decide (a.path.length=b.path.length)&&decide (a.seq<b.seq))
theorem kF(a:iA):key a a=true:=by unfold key;simp
theorem uV(a b:iA): ¬(goes a b=true/\goes b a=true):=by
 unfold goes
 simp only[Bool.or_eq_true,Bool.and_eq_true,decide_eq_true_eq]
 omega
theorem dAU(a:iA):goes a a=false:=by
 cases k:goes a a with
 |false=>rfl
 |true=>exact absurd ⟨k,k⟩ (uV a a)
end Ma
end Go.Proofs.YtdaaoopkkhfbhaaGreatDoor
namespace Go.Proofs.YtdaaoopkkhfbhaaGreatDoor
open Go.RowKit
def dA(c:Ma.iA):Array Value:=(gA c.name::gA c.value::((cA c.host).toList++ [.bool c.only,gA c.path,.bool c.secure,.bool c.http,.int .i64 c.same,.int .i64 c.expires,.int .i64 c.born,.int .i64 c.used,.int .i64 c.seq])).toArray
def EB(r:Ma.Request):Array Value:=(Value.bool r.secure::((cA r.host).toList++ [gA r.path,.int .i64 r.cross])).toArray
theorem vE(h:bA.Host)(ha:h.addr.length=16):(cA h).toList.length=18:=by rw[Array.length_toList,XA h ha]
theorem eP {h:bA.Host}(ha:h.addr.length=16)(t:List Value)(i:Nat):((cA h).toList++t)[18+i]? =t[i]? :=by
 rw[List.getElem?_append_right (by rw[vE h ha];omega),vE h ha]
 congr 1;omega
theorem NN {h:bA.Host}(ha:h.addr.length=16)(t:List Value):((cA h).toList++t).take 18=(cA h).toList:=by
 rw[List.take_append_of_le_length (by rw[vE h ha];exact zB3 _),List.take_of_length_le (by rw[vE h ha];exact zB3 _)]
theorem TA(c:Ma.iA)(ha:c.host.addr.length=16):(dA c).size=29:=by
 unfold dA
 rw[List.size_toArray,zB5,zB5,zB4,vE _ ha];rfl
theorem gR(r:Ma.Request)(ha:r.host.addr.length=16):(EB r).size=21:=by
 unfold EB
 rw[List.size_toArray,zB5,zB4,vE _ ha];rfl
theorem pW(h:bA.Host): ∀v∈ (cA h).toList,v.oneCell'=true:=fun v hv=>Array.all_eq_true'.1 (bB h) v (Array.mem_toList_iff.1 hv)
theorem FD(c:Ma.iA):(dA c).all (·.oneCell')=true:=by
 rw[Array.all_eq_true']
 intro v hv
 unfold dA at hv
 rw[List.mem_toArray]at hv
 simp only[List.mem_cons,List.mem_append,List.not_mem_nil,or_false]at hv
 rcases hv with rfl|rfl|hv|rfl|rfl|rfl|rfl|rfl|rfl|rfl|rfl|rfl
 ·rfl
 ·rfl
 ·exact pW _ v hv
 all_goals rfl
section
variable (c:Ma.iA) (ha:c.host.addr.length=16)
include ha
theorem yG(i:Nat):(dA c)[20+i]? =([.bool c.only,gA c.path,.bool c.secure,.bool c.http,.int .i64 c.same,.int .i64 c.expires,.int .i64 c.born,.int .i64 c.used,.int .i64 c.seq]:List Value)[i]? :=by
 unfold dA
 rw[List.getElem?_toArray,show 20+i=(18+i)+1+1 by omega,List.getElem?_cons_succ,List.getElem?_cons_succ]
 exact eP ha _ i
theorem eU:(dA c)[20]? =some (.bool c.only):=yG c ha 0
theorem FI:(dA c)[21]? =some (gA c.path):=yG c ha 1
theorem fU:(dA c)[22]? =some (.bool c.secure):=yG c ha 2
theorem bAL:(dA c)[24]? =some (.int .i64 c.same):=yG c ha 4
theorem dU:(dA c)[25]? =some (.int .i64 c.expires):=yG c ha 5
theorem cU:(dA c)[26]? =some (.int .i64 c.born):=yG c ha 6
theorem rP:(dA c)[27]? =some (.int .i64 c.used):=yG c ha 7
theorem GF:(dA c)[28]? =some (.int .i64 c.seq):=yG c ha 8
theorem pK:(dA c).extract 2 20=cA c.host:=by
 apply Array.ext'
 rw[Array.toList_extract]
 unfold dA
 show List.take 18 ((cA c.host).toList++_)=_
 exact NN ha _
end
theorem pP(c:Ma.iA):(dA c)[0]? =some (gA c.name):=rfl
section
variable (r:Ma.Request) (ha:r.host.addr.length=16)
include ha
theorem YY(i:Nat):(EB r)[19+i]? =([gA r.path,.int .i64 r.cross]:List Value)[i]? :=by
 unfold EB
 rw[List.getElem?_toArray,show 19+i=(18+i)+1 by omega,List.getElem?_cons_succ]
 exact eP ha _ i
theorem jAv:(EB r)[19]? =some (gA r.path):=YY r ha 0
theorem jAt:(EB r)[20]? =some (.int .i64 r.cross):=YY r ha 1
theorem jAu:(EB r).extract 1 19=cA r.host:=by
 apply Array.ext'
 rw[Array.toList_extract]
 unfold EB
 show List.take 18 ((cA r.host).toList++_)=_
 exact NN ha _
end
theorem jAw(r:Ma.Request):(EB r)[0]? =some (.bool r.secure):=rfl
theorem uB:(Tryz.prog.info? 64).map (·.size)=some 29:=by kernel_rfl
theorem CW:(Tryz.prog.info? 52).map (·.size)=some 21:=by kernel_rfl
end Go.Proofs.YtdaaoopkkhfbhaaGreatDoor
namespace Go.Proofs.YtdaaoopkkhfbhaaGreatDoor
open Go.ChangeShapes Go.WideShapes Go.ChangeAt Go.WideMaps Go.WideElems Go.RowKit Go.Deep
structure oT(h:bA.Host):Prop where
 addr:h.addr.length=16
 kind:(Lit.int .i64 h.kind).wf=true
 name:h.name.length<=maxLen
section
variable {H:Type} {enc:TypeId×Value->H} {w:World} {base:Nat} {spare:Nat->Bool} {held:Bool}
end
end Go.Proofs.YtdaaoopkkhfbhaaGreatDoor
namespace Go.Proofs.YtdaaoopkkhfbhaaGreatDoor
open Go.RowKit
theorem qP(c:Ma.iA)(ha:c.host.addr.length=16)(k:Nat)(v:Value):(dA c).setIfInBounds (20+k) v=(gA c.name::gA c.value::((cA c.host).toList++([.bool c.only,gA c.path,.bool c.secure,.bool c.http,.int .i64 c.same,.int .i64 c.expires,.int .i64 c.born,.int .i64 c.used,.int .i64 c.seq]:List Value).set k v)).toArray:=by
 unfold dA
 rw[zA1,show 20+k=(18+k)+1+1 by omega,zA2,zA2,List.set_append_right _ _ (by rw[vE _ ha];omega),vE _ ha,Nat.add_sub_cancel_left]
def Ma.xA:Ma.iA:=⟨[],[],bA.zero,false,[],false,false,0,0,0,0,0⟩
theorem XG: #[Value.string ⟨#[]⟩,.string ⟨#[]⟩,.int .i64 0,.string ⟨#[]⟩,.int .u8 0,.int .u8 0,.int .u8 0,.int .u8 0,.int .u8 0,.int .u8 0,.int .u8 0,.int .u8 0,.int .u8 0,.int .u8 0,.int .u8 0,.int .u8 0,.int .u8 0,.int .u8 0,.int .u8 0,.int .u8 0,.bool false,.string ⟨#[]⟩,.bool false,.bool false,.int .i64 0,.int .i64 0,.int .i64 0,.int .i64 0,.int .i64 0]=dA Ma.xA:=by rfl
end Go.Proofs.YtdaaoopkkhfbhaaGreatDoor
namespace Go.Proofs.YtdaaoopkkhfbhaaGreatDoor
namespace Sh
open Ma
structure Kept where
 c:iA
 site:List UInt8
 deriving DecidableEq
structure Shelf where
 l:List Kept
 last:Int
 deriving DecidableEq
def empty:Shelf:=⟨[],0⟩
def hit(c:iA)(k:Kept):Bool:=key k.c c
def place(s:Shelf)(c:iA):Option Nat:=s.l.findIdx? (hit c)
def get(s:Shelf)(c:iA):Option iA:=(s.l.find? (hit c)).map (·.c)
def old(c:iA)(site:List UInt8)(k:Kept):Kept:=⟨{c with born:=k.c.born,seq:=k.c.seq},site⟩
def put(s:Shelf)(c:iA)(site:List UInt8):Shelf×Bool:=
 match place s c with
 |some i=>(⟨s.l.modify i (old c site),s.last⟩,true)
 |none=>(⟨s.l++ [⟨{c with seq:=s.last+1},site⟩],s.last+1⟩,false)
def drop(s:Shelf)(c:iA):Shelf×Bool:=match place s c with|some i=>(⟨s.l.eraseIdx i,s.last⟩,true)|none=>(s,false)
def used(now:Int)(k:Kept):Kept:=⟨{k.c with used:=now},k.site⟩
def use(s:Shelf)(c:iA)(now:Int):Shelf×Bool:=match place s c with|some i=>(⟨s.l.modify i (used now),s.last⟩,true)|none=>(s,false)
def expire(s:Shelf)(now:Int):Shelf×Nat:=
 let l:=s.l.filter fun k=>decide (now<k.c.expires)
 (⟨l,s.last⟩,s.l.length-l.length)
def all(s:Shelf):List iA:=s.l.map (·.c)
def count(s:Shelf)(site:List UInt8):Nat:=s.l.countP fun k=>decide (k.site=site)
def older(b:Option iA)(k:Kept):Option iA:=match b with|none=>some k.c|some c=>if k.c.used<c.used then some k.c else some c
def oldest(p:Kept->Bool)(s:Shelf):Option iA:=(s.l.filter p).foldl older none
theorem BE(a b:iA):key a b=key b a:=by
 unfold key
 rw[decide_eq_decide.2 (eq_comm (a:=a.name)),decide_eq_decide.2 (eq_comm (a:=a.host)),decide_eq_decide.2 (eq_comm (a:=a.only)),decide_eq_decide.2 (eq_comm (a:=a.path))]
theorem TM {a b:iA} :key a b=true↔a.name=b.name/\a.host=b.host/\a.only=b.only/\a.path=b.path:=by
 unfold key
 simp only[Bool.and_eq_true,decide_eq_true_eq]
 constructor
 ·rintro⟨⟨⟨h1,h2⟩,h3⟩,h4⟩;exact⟨h1,h2,h3,h4⟩
 ·rintro⟨h1,h2,h3,h4⟩;exact⟨⟨⟨h1,h2⟩,h3⟩,h4⟩
theorem tQ {a b:iA}(h:key a b=true)(c:iA):key a c=key b c:=by
 obtain⟨h1,h2,h3,h4⟩:=TM.1 h
 unfold key
 rw[h1,h2,h3,h4]
theorem VI {a b:iA}(h:key a b=true)(c:iA):key c a=key c b:=by rw[BE c a,BE c b,tQ h]
structure Well(s:Shelf):Prop where
 apart:s.l.Pairwise fun a b=>key a.c b.c=false/\a.c.seq<b.c.seq
 num: ∀k∈s.l,1<=k.c.seq/\k.c.seq<=s.last
 last:0<=s.last
theorem Q5:Well empty:=⟨List.Pairwise.nil,(fun k hk=>by cases hk),Int.le_refl 0⟩
theorem vN {s:Shelf}{c:iA}{i:Nat}(h:place s c=some i): ∃k,s.l[i]? =some k/\key k.c c=true/\get s c=some k.c:=by
 unfold place at h
 have h2:=h
 rw[List.findIdx?_eq_some_iff_getElem]at h
 obtain⟨hl,hp,hq⟩:=h
 refine⟨s.l[i],List.getElem?_eq_getElem hl,hp,?_⟩
 unfold get
 have:s.l.find? (hit c)=some s.l[i]:=by
  rw[List.find?_eq_some_iff_getElem]
  exact⟨hp,i,hl,rfl,fun j hj=>by
   have:=hq j hj
   simpa using this⟩
 rw[this];rfl
theorem uN {s:Shelf}{c:iA}(h:place s c=none):(∀k∈s.l,key k.c c=false)/\get s c=none:=by
 unfold place at h
 rw[List.findIdx?_eq_none_iff]at h
 refine⟨fun k hk=>by have:=h k hk;simpa[hit]using this,?_⟩
 unfold get
 rw[List.find?_eq_none.2 (fun k hk=>by rw[h k hk];simp)];rfl
theorem vY {R:Kept->Kept->Prop}{f:Kept->Kept} : ∀ {l:List Kept}{i:Nat},l.Pairwise R->(∀k,l[i]? =some k->(∀b,R k b->R (f k) b)/\(∀b,R b k->R b (f k)))->(l.modify i f).Pairwise R
 | [],i,_,_=>by rw[List.modify_nil];exact List.Pairwise.nil
 |a::l,0,h,hf=>by
  obtain⟨h1,h2⟩:=List.pairwise_cons.1 h
  rw[List.modify_zero_cons]
  exact List.pairwise_cons.2 ⟨fun b hb=>(hf a rfl).1 b (h1 b hb),h2⟩
 |a::l,i+1,h,hf=>by
  obtain⟨h1,h2⟩:=List.pairwise_cons.1 h
  rw[List.modify_succ_cons]
  refine List.pairwise_cons.2 ⟨fun b hb=>?_,vY h2 (fun k hk=>hf k hk)⟩
  obtain⟨j,hj⟩:=List.getElem?_of_mem hb
  rw[List.getElem?_modify]at hj
  cases e:l[j]? with
  |none=>rw[e]at hj;cases hj
  |some k=>
   rw[e]at hj
   have hk:=h1 k (List.mem_of_getElem? e)
   split at hj
   ·rename_i ij
    have hj2:f k=b:=zB2 hj
    rw[<-hj2]
    exact(hf k (by rw[List.getElem?_cons_succ,ij];exact e)).2 a hk
   ·have hj2:k=b:=zB2 hj
    rw[<-hj2];exact hk
theorem mem_modify {f:Kept->Kept}{l:List Kept}{i:Nat}{b:Kept}(h:b∈l.modify i f):b∈l\/ ∃k,l[i]? =some k/\b=f k:=by
 obtain⟨j,hj⟩:=List.getElem?_of_mem h
 rw[List.getElem?_modify]at hj
 cases e:l[j]? with
 |none=>rw[e]at hj;cases hj
 |some k=>
  rw[e]at hj
  split at hj
  ·rename_i ij
   exact .inr ⟨k,by rw[ij];exact e,(zB2 hj).symm⟩
  ·have:k=b:=zB2 hj
   rw[<-this];exact .inl (List.mem_of_getElem? e)
theorem V5 {s:Shelf}(h:Well s){i:Nat}{f:Kept->Kept}(hf: ∀k,s.l[i]? =some k->key (f k).c k.c=true/\(f k).c.seq=k.c.seq):Well ⟨s.l.modify i f,s.last⟩:=by
 refine⟨vY h.apart fun k hk=>?_,?_,h.last⟩
 ·obtain⟨h1,h2⟩:=hf k hk
  refine⟨?_,?_⟩
  ·rintro b ⟨r1,r2⟩
   exact⟨by rw[tQ h1];exact r1,by rw[h2];exact r2⟩
  ·rintro b ⟨r1,r2⟩
   exact⟨by rw[VI h1];exact r1,by rw[h2];exact r2⟩
 ·intro b hb
  rcases mem_modify hb with e|⟨k,hk,rfl⟩
  ·exact h.num b e
  ·rw[(hf k hk).2];exact h.num k (List.mem_of_getElem? hk)
theorem rY {c:iA}{site:List UInt8}{k:Kept}(h:key k.c c=true):key (old c site k).c k.c=true:=by
 rw[BE,TM]at*
 exact⟨h.1.symm,h.2.1.symm,h.2.2.1.symm,h.2.2.2.symm⟩
theorem eS {s:Shelf}(h:Well s)(c:iA)(site:List UInt8):Well (put s c site).1:=by
 unfold put
 cases e:place s c with
 |some i=>
  obtain⟨k,h1,h2,_⟩:=vN e
  refine V5 h fun x hx=>?_
  rw[h1]at hx
  have:k=x:=zB2 hx
  subst this
  exact⟨rY h2,rfl⟩
 |none=>
  obtain⟨h1,_⟩:=uN e
  refine⟨?_,?_,?_⟩
  ·refine List.pairwise_append.2 ⟨h.apart,List.pairwise_singleton _ _,?_⟩
   intro a ha b hb
   rw[List.mem_singleton.1 hb]
   refine⟨h1 a ha,?_⟩
   have:=(h.num a ha).2
   show a.c.seq<s.last+1
   omega
  ·intro k hk
   rcases List.mem_append.1 hk with e|e
   ·have:=h.num k e
    exact⟨this.1,by show k.c.seq<=s.last+1;omega⟩
   ·rw[List.mem_singleton.1 e]
    have:=h.last
    exact⟨by show 1<=s.last+1;omega,by show s.last+1<=s.last+1;omega⟩
  ·have:=h.last
   show 0<=s.last+1
   omega
theorem fS {s:Shelf}(h:Well s){l:List Kept}(hl:l.Sublist s.l):Well ⟨l,s.last⟩:=⟨h.apart.sublist hl,fun k hk=>h.num k (hl.subset hk),h.last⟩
theorem N5 {s:Shelf}(h:Well s)(c:iA):Well (drop s c).1:=by
 unfold drop
 cases place s c with
 |some i=>exact fS h (List.eraseIdx_sublist _ _)
 |none=>exact h
theorem W5 {s:Shelf}(h:Well s)(c:iA)(now:Int):Well (use s c now).1:=by
 unfold use
 cases place s c with
 |some i=>exact V5 h fun k _=>⟨kF k.c,rfl⟩
 |none=>exact h
theorem dS {s:Shelf}(h:Well s)(now:Int):Well (expire s now).1:=fS h List.filter_sublist
theorem PP {s:Shelf}(h:Well s){k:Kept}(hk:k∈s.l){c:iA}(hc:key k.c c=true):get s c=some k.c:=by
 unfold get
 have hp:=h.apart
 generalize s.l=l at*
 induction l with
 |nil=>cases hk
 |cons a l ih=>
  obtain⟨p1,p2⟩:=List.pairwise_cons.1 hp
  rcases List.mem_cons.1 hk with e|e
  ·subst e
   rw[List.find?_cons_of_pos (by exact hc)];rfl
  ·have:key a.c c=false:=by
    rw[<-VI hc];exact(p1 k e).1
   rw[List.find?_cons_of_neg (by unfold hit;rw[this];simp)]
   exact ih e p2
theorem get_none {s:Shelf}{c:iA}(h: ∀k∈s.l,key k.c c=false):get s c=none:=by
 unfold get
 rw[List.find?_eq_none.2 (fun k hk=>by unfold hit;rw[h k hk];simp)];rfl
theorem dAL {s:Shelf}(h:Well s)(c:iA):get (drop s c).1 c=none:=by
 unfold drop
 cases e:place s c with
 |none=>exact(uN e).2
 |some i=>
  obtain⟨k,h1,h2,_⟩:=vN e
  refine get_none fun x hx=>?_
  have hi:=(List.getElem?_eq_some_iff.1 h1).1
  have hk:s.l[i]=k:=(List.getElem?_eq_some_iff.1 h1).2
  obtain⟨j,hji,hj⟩:=List.mem_eraseIdx_iff_getElem?.1 hx
  have hjl:=(List.getElem?_eq_some_iff.1 hj).1
  have kW:s.l[j]=x:=(List.getElem?_eq_some_iff.1 hj).2
  have hp:=List.pairwise_iff_getElem.1 h.apart
  rw[<-VI h2]
  rcases Nat.lt_trichotomy i j with r|r|r
  ·have:=(hp i j hi hjl r).1
   rw[hk,kW]at this
   rw[BE];exact this
  ·exact absurd r.symm hji
  ·have:=(hp j i hjl hi r).1
   rw[hk,kW]at this
   exact this
theorem aAB {s:Shelf}(h:Well s):(all s).Pairwise fun a b=>key a b=false/\a.seq<b.seq:=by
 unfold all
 rw[List.pairwise_map]
 exact h.apart
theorem qM: ∀(l:List Kept)(b:Option iA),(l.foldl older b=none↔b=none/\l= [])/\
  ∀c,l.foldl older b=some c->(b=some c\/ ∃k∈l,k.c=c)/\(∀k∈l,c.used<=k.c.used)/\(∀a,b=some a->c.used<=a.used)
 | [],b=>by
  refine⟨by simp,fun c hc=>⟨.inl hc,(fun k hk=>by cases hk),fun a ha=>?_⟩⟩
  have e:b=some c:=hc
  rw[e]at ha
  rw[zB2 ha]
  exact Int.le_refl _
 |x::l,b=>by
  obtain⟨i1,i2⟩:=qM l (older b x)
  rw[List.foldl_cons]
  have hne:older b x≠none:=by
   unfold older
   split
   ·simp
   ·split<;>simp
  refine⟨⟨fun h=>absurd (i1.1 h).1 hne,fun h=>by cases h.2⟩,fun c hc=>?_⟩
  obtain⟨j1,j2,j3⟩:=i2 c hc
  have hold: ∃a,older b x=some a/\a.used<=x.c.used/\(∀y,b=some y->a.used<=y.used)/\(b=some a\/x.c=a):=by
   unfold older
   split
   ·exact⟨x.c,rfl,Int.le_refl _,(fun y hy=>by cases hy),.inr rfl⟩
   ·rename_i y
    split
    ·rename_i hlt
     refine⟨x.c,rfl,Int.le_refl _,(fun z hz=>?_),.inr rfl⟩
     rw[<-zB2 hz];omega
    ·rename_i hlt
     refine⟨y,rfl,by omega,(fun z hz=>?_),.inl rfl⟩
     rw[<-zB2 hz];exact Int.le_refl _
  obtain⟨a,a1,a2,a3,a4⟩:=hold
  have ca:=j3 a a1
  refine⟨?_,?_,?_⟩
  ·rcases j1 with e|⟨k,hk,e⟩
   ·rw[a1]at e
    have e:=zB2 e
    subst e
    rcases a4 with r|r
    ·exact .inl r
    ·exact .inr ⟨x,by simp,r⟩
   ·exact .inr ⟨k,by simp[hk],e⟩
  ·intro k hk
   rcases List.mem_cons.1 hk with e|e
   ·rw[e];omega
   ·exact j2 k e
  ·intro y hy
   have:=a3 y hy
   omega
theorem TQ {p:Kept->Bool}{s:Shelf} :oldest p s=none↔s.l.filter p= []:=by
 unfold oldest
 rw[(qM _ none).1]
 exact⟨fun h=>h.2,fun h=>⟨rfl,h⟩⟩
theorem lN {p:Kept->Bool}{s:Shelf}{c:iA}(h:oldest p s=some c):(∃k∈s.l,p k=true/\k.c=c)/\ ∀k∈s.l,p k=true->c.used<=k.c.used:=by
 obtain⟨h1,h2,_⟩:=(qM (s.l.filter p) none).2 c h
 refine⟨?_,fun k hk hp=>h2 k (List.mem_filter.2 ⟨hk,hp⟩)⟩
 rcases h1 with e|⟨k,hk,e⟩
 ·cases e
 ·obtain⟨m1,m2⟩:=List.mem_filter.1 hk
  exact⟨k,m1,m2,e⟩
end Sh
end Go.Proofs.YtdaaoopkkhfbhaaGreatDoor
namespace Go.Proofs.YtdaaoopkkhfbhaaGreatDoor
open Go.RowKit
def flat {α:Type}(enc:α->Array Value)(xs:List α):List Value:=xs.flatMap fun x=>(enc x).toList
section
variable {α:Type} {enc:α->Array Value} {n:Nat}
theorem dAq:flat enc []= []:=rfl
theorem LI(x:α)(xs:List α):flat enc (x::xs)=(enc x).toList++flat enc xs:=rfl
theorem mV(xs ys:List α):flat enc (xs++ys)=flat enc xs++flat enc ys:=by unfold flat;exact List.flatMap_append
theorem dAr(x:α):flat enc [x]=(enc x).toList:=by rw[LI,dAq,List.append_nil]
theorem oM: ∀ {xs:List α},(∀x∈xs,(enc x).size=n)->(flat enc xs).length=xs.length*n
 | [],_=>by simp[flat]
 |x::xs,h=>by
  rw[LI,zB4,Array.length_toList,h x (by simp),oM (fun y hy=>h y (by simp[hy])),zB5,Nat.add_mul]
  omega
theorem LP: ∀ {xs:List α}{k:Nat}{x:α},(∀x∈xs,(enc x).size=n)->xs[k]? =some x-> ∀i u,(enc x)[i]? =some u->(flat enc xs)[k*n+i]? =some u
 | [],k,x,_,h,_,_,_=>by simp at h
 |y::xs,0,x,hs,h,i,u,hu=>by
  have e:y=x:=by simpa using h
  subst e
  rw[LI,Nat.zero_mul,Nat.zero_add,List.getElem?_append_left]
  ·rw[Array.getElem?_toList];exact hu
  ·rw[Array.length_toList];exact(Array.getElem?_eq_some_iff.1 hu).1
 |y::xs,k+1,x,hs,h,i,u,hu=>by
  have ih:=LP (xs:=xs) (k:=k) (x:=x) (fun y hy=>hs y (by simp[hy])) (by simpa using h) i u hu
  rw[LI,List.getElem?_append_right (by rw[Array.length_toList,hs y (by simp),Nat.add_mul];omega),Array.length_toList,hs y (by simp),
   show(k+1)*n+i-n=k*n+i by rw[Nat.add_mul];omega]
  exact ih
end
def QB {α:Type}(enc:α->Array Value)(w:World)(v:Value)(xs:List α):Prop:=
 ∃A c,v= .slice A xs.length c/\xs.length<=c/\(0<xs.length-> ∃g off,A=some ⟨g,off,none⟩/\g<w.heap.size/\ ∀j u,(flat enc xs)[j]? =some u->w.cell? ⟨g,off+j,none⟩=some u)
section
variable {α:Type} {enc:α->Array Value} {n:Nat} {w w':World} {v:Value} {xs:List α}
theorem gX:QB enc w (.slice none 0 0) []:=⟨none,0,rfl,zB3 _,fun h=>absurd h (by simp)⟩
theorem QB.stays (h:QB enc w v xs)(hb:Below w.heap.size w w'):QB enc w' v xs:=by
 obtain⟨A,c,hv,hc,hh⟩:=h
 refine⟨A,c,hv,hc,fun h0=>?_⟩
 obtain⟨g,off,hA,hg,hcell⟩:=hh h0
 exact⟨g,off,hA,Nat.lt_of_lt_of_le hg hb.size,fun j u hu=>(hb.cell (p:=⟨g,off+j,none⟩) hg).trans (hcell j u hu)⟩
theorem VO(g off j:Nat):(⟨g,off,none⟩:Addr).add j=⟨g,off+j,none⟩:=by unfold Addr.add;split<;>simp_all
theorem ZM {P:Program}{ops:Array Oper}{Q:Exit->Act->World->Prop}{rest:List Oper}{o:Oper}{a:Act}{w:World}(hw:Region.wanted o (yielded ops a.tmps)=true)(ty:TypeId)(x:Operand)(ho:o.op= .load ty x)
  (g off:Nat)(hx:a.eval x= .pointer (some ⟨g,off,none⟩))(cs:Array Value)(hc: ∀j u,cs[j]? =some u->w.cell? ⟨g,off+j,none⟩=some u){d:TypeDesc}
  (hu:P.underlying ty=some d)(hd:(match d with| .struct _| .array _ _=>true|_=>false)=true)(hi:(P.info? ty).map (·.size)=some cs.size)
  (h:wpList P ops Q rest (a.put o.dst (.agg cs)) w):wpList P ops Q (o::rest) a w:=by
 have hl:(loadCells ⟨g,off,none⟩ cs.toList.length).run P w= .ok cs.toList.toArray w:=
  run_loadCells_list (P:=P) w ⟨g,off,none⟩ cs.toList (fun j v hv=>by
   rw[VO]
   rw[Array.getElem?_toList]at hv
   exact hc j v hv)
 rw[Array.length_toList,Array.toArray_toList]at hl
 have hagg:(isAgg ty).run P w= .ok true w:=by
  unfold isAgg
  rw[Sem.run_bind,run_underlying hu w]
  cases d<;>simp_all
 have hv:(loadVar ty ⟨g,off,none⟩).run P w= .ok (.agg cs) w:=by
  cases hq:P.info? ty with
  |none=>simp[hq]at hi
  |some i=>
   have hs:i.size=cs.size:=by simpa[hq]using hi
   simp[loadVar,Sem.run_bind,hagg,sizeOf,typeInfo,hq,hs,hl]
 refine wpList_step fun K hK=>?_
 simp only[hw,if_true]
 unfold Oper.wp execOp
 simp only[ho,hx,Instr.loadAt,Instr.sureAddr,Sem.run_bind,Sem.run_pure,Result.andThen_ok,hv]
 exact hK _ _ h
theorem QB.one {g off c:Nat}(hs: ∀x∈xs,(enc x).size=n)(h:QB enc w (.slice (some ⟨g,off,none⟩) xs.length c) xs){k:Nat}{x:α}(hk:xs[k]? =some x): ∀j u,(enc x)[j]? =some u->w.cell? ⟨g,off+k*n+j,none⟩=some u:=by
 obtain⟨A',c',hv,hc,hh⟩:=h
 obtain⟨rfl,_,rfl⟩:=Value.slice.inj hv
 obtain⟨g',off',hA,hg,hcell⟩:=hh (Nat.lt_of_le_of_lt (Nat.zero_le _) (List.getElem?_eq_some_iff.1 hk).1)
 have hA:=zB2 hA
 simp only[Addr.mk.injEq]at hA
 obtain⟨rfl,rfl,_⟩:=hA
 intro j u hu
 have:=hcell _ _ (LP hs hk j u hu)
 rw[Nat.add_assoc]
 exact this
theorem QB.block {A:Option Addr}{m c:Nat}(h:QB enc w (.slice A m c) xs):m=xs.length/\m<=c/\(0<xs.length-> ∃g off,A=some ⟨g,off,none⟩/\g<w.heap.size):=by
 obtain⟨A',c',hv,hc,hh⟩:=h
 obtain⟨rfl,rfl,rfl⟩:=Value.slice.inj hv
 refine⟨rfl,hc,fun h0=>?_⟩
 obtain⟨g,off,hA,hg,_⟩:=hh h0
 exact⟨g,off,hA,hg⟩
end
theorem run_append_lies {P:Program}{α:Type}{enc:α->Array Value}{n vG:Nat}{w:World}{B:Nat}{S E ty:TypeId}{z:Value}(hS:P.underlying S=some (.slice E))(hI:(P.info? E).map (fun i=>(i.zero,i.size,i.bytes))=some (some z,n,vG))(hz:z.cells.size=n)(hn0:0<n)(h8:vG<=1000)
  {s:Value}{m:Nat}{ys:List Value}(hown:w.ownsRow B E n s m ys){v:Value}{xs:List α}(hs: ∀x∈xs,(enc x).size=n)(h1: ∀x∈xs,(enc x).all (·.oneCell')=true)(hv:QB enc w v xs)(hm:m+xs.length<=1048576)(hB:B<=w.heap.size):
  ∃v' w',(Builtin.append_ #[S,S] ty #[s,v]).run P w= .ok v' w'/\w'.ownsRow B E n v' (m+xs.length) (ys++flat enc xs)/\w.grownBy w' s.ownBlock/\(v'.ownBlock=s.ownBlock\/v'.ownBlock=some w.heap.size):=by
 obtain⟨i0,hi,hz0,hz1,hz2⟩:=info_parts hI
 obtain⟨A,c,rfl,hc,hh⟩:=hv
 by_cases h0:xs.length=0
 ·have hxs:xs= []:=List.eq_nil_of_length_eq_zero h0
  subst hxs
  refine⟨s,w,?_,by simpa[flat]using hown,⟨rfl,rfl,rfl,zB3 _,fun _ _ _=>rfl⟩,.inl rfl⟩
  rcases hown.2 with⟨rfl,rfl⟩|⟨g,cap,cur,rfl,_,_,hcc,_⟩
  ·cases A<;>simp[Builtin.append_,run_underlying hS,sizeOf,typeInfo,hi,Builtin.lenOf,Builtin.firstCells,loadCells,loadCellsFrom]
  ·cases A<;>simp[Builtin.append_,run_underlying hS,sizeOf,typeInfo,hi,Builtin.lenOf,Builtin.firstCells,loadCells,loadCellsFrom,hcc,storeCells]
 ·obtain⟨g,off,rfl,hg,hcell⟩:=hh (by omega)
  obtain⟨v',w',r1,r2,r3,_,r5⟩:=run_append_own_at w B S ty E i0 z n vG hS hi hz0 hz1 hz2 hz hn0 s m ys hown ⟨g,off,none⟩ xs.length c (flat enc xs) (oM hs) (fun j u hu=>by rw[VO];exact hcell j u hu)
   (fun u hu=>by
    unfold flat at hu
    obtain⟨x,hx,hux⟩:=List.mem_flatMap.1 hu
    exact Array.all_eq_true'.1 (h1 x hx) u (Array.mem_toList_iff.1 hux)) (by unfold maxLen;omega) (Nat.le_trans (Nat.mul_le_mul hm h8) (by decide)) hB
  exact⟨v',w',r1,r2,r3,r5⟩
theorem bP {P:Program}{α:Type}{enc:α->Array Value}{n vG:Nat}{w:World}{B:Nat}{S E:TypeId}{z:Value}{ops:Array Oper}{rest:List Oper}{o:Oper}{a:Act}{Q:Exit->Act->World->Prop}(hgd:o.guard=none)(s x:Operand)
  (ho:o.op= .call {callee:= .builtin .append,args:= #[s,x],argTypes:= #[S,S]})(hS:P.underlying S=some (.slice E))(hI:(P.info? E).map (fun i=>(i.zero,i.size,i.bytes))=some (some z,n,vG))(hz:z.cells.size=n)(hn0:0<n)(h8:vG<=1000)
  {sv:Value}(hsv:a.eval s=sv){m:Nat}{ys:List Value}(hown:w.ownsRow B E n sv m ys){v:Value}(hv0:a.eval x=v){xs:List α}(hs: ∀x∈xs,(enc x).size=n)(h1: ∀x∈xs,(enc x).all (·.oneCell')=true)(hv:QB enc w v xs)(hm:m+xs.length<=1048576)(hB:B<=w.heap.size)
  (h: ∀v' w',w'.ownsRow B E n v' (m+xs.length) (ys++flat enc xs)->w.grownBy w' sv.ownBlock->(v'.ownBlock=sv.ownBlock\/v'.ownBlock=some w.heap.size)->wpList P ops Q rest (a.put o.dst v') w'):wpList P ops Q (o::rest) a w:=by
 refine wpList_plain hgd fun K hK=>?_
 obtain⟨v',w',hr,h2,h3,h4⟩:=run_append_lies (ty:=o.type) hS hI hz hn0 h8 hown hs h1 hv hm hB
 unfold Oper.wp execOp
 simp only[ho,resolve,invoke,builtin,Sem.run_bind,Sem.run_pure,Result.andThen_ok,List.map_toArray,List.map_cons,List.map_nil,hsv,hv0,hr]
 exact hK _ _ (h v' w' h2 h3 h4)
theorem NT {P:Program}{n vG:Nat}{w:World}{S E:TypeId}{z:Value}{ops:Array Oper}{rest:List Oper}{o:Oper}{a:Act}{Q:Exit->Act->World->Prop}(hg:o.guard=none)(x:Operand)(ho:o.op= .buildSlice S 1 #[(0,x)])(Y:Array Value)(hx:a.eval x= .agg Y)
  (hS:P.underlying S=some (.slice E))(hI:(P.info? E).map (fun i=>(i.zero,i.size,i.bytes))=some (some z,n,vG))(hY:Y.size=n)(hn0:0<n)(hn:n<=1000)
  (h:wpList P ops Q rest (a.put o.dst (.slice (some ⟨w.heap.size,0,none⟩) 1 1)) (w.alloc (.cells Y E))):wpList P ops Q (o::rest) a w:=by
 obtain⟨i0,hi,hz0,hz1,hz2⟩:=info_parts hI
 refine wpList_buildSlice hg S E 1 _ ho Y i0 z hS hi hz0 (by rw[hz1];omega) (by rw[hz1];omega) ?_ h
 have e:=Great.fill_whole hn0 [.agg Y] ((Array.range (1*i0.size)).map (z.cells[·%z.cells.size]!)) (fun v hv=>by rw[List.mem_singleton.1 hv];exact hY) (by rw[hz1];simp)
 have e2:((#[(0,x)]:Array (Nat×Operand)).map fun(i,x)=>(i,a.eval x)).toList=(([.agg Y]:List Value).zipIdx 0).map fun x=>(x.2,x.1):=by simp[hx]
 rw[e2,hz1]
 rw[hz1]at e
 rw[e]
 congr 1
 show([Value.agg Y].flatMap fun v=>v.cells.toList).toArray=Y
 rw[List.flatMap_cons,List.flatMap_nil,List.append_nil]
 exact Array.toArray_toList
theorem CQ {α:Type}{enc:α->Array Value}{w:World}{g:Nat}{t:TypeId}{x:α}(h:Row w g t (enc x)):QB enc w (.slice (some ⟨g,0,none⟩) 1 1) [x]:=
 ⟨_,_,rfl,zB3 _,fun _=>⟨g,0,rfl,h.lt,fun j u hu=>by
  rw[dAr,Array.getElem?_toList]at hu
  rw[Nat.zero_add,h.cell]
  exact hu⟩⟩
end Go.Proofs.YtdaaoopkkhfbhaaGreatDoor
namespace Go.Proofs.YtdaaoopkkhfbhaaGreatDoor
namespace Ur
theorem bZ {u:URL}(h:right u=true):bA.can u.host=true/\(1<=u.port/\u.port<=65535)/\cC u.path=true:=by
 unfold right at h
 simp only[Bool.and_eq_true,decide_eq_true_eq]at h
 exact⟨h.1,h.2.1,h.2.2⟩
end Ur
namespace Ad
open Oct
def never:Int:=9223372036854775807
def zero:Ma.iA:=⟨[],[],bA.zero,false,[],false,false,0,0,0,0,0⟩
def AE(rs:List Ru.Rule)(h:bA.Host):Bool:=Sx.isPublic (Sx.suffix (Sx.new rs) h) h
def BN:List UInt8:= [95,95,115,101,99,117,114,101,45]
def AN:List UInt8:= [95,95,104,111,115,116,45]
def pre(n:List UInt8):Int:=if(n.take 9).map low=BN then 1 else if(n.take 7).map low=AN then 2 else 0
def whose(rs:List Ru.Rule)(host:bA.Host)(dom:List UInt8):Int×bA.Host×Bool:=
 if dom= []then(0,host,true)
 else match bA.parse dom with
  |none=>(101,bA.zero,false)
  |some d=>if AE rs d=true/\d≠host then(102,bA.zero,false)else if Ma.domain host d=false then(103,bA.zero,false)else if AE rs d=true then(0,host,true)else(0,d,false)
def ends(h:Hd.Head)(now:Int):Int:=match h.age with
 |some a=>now+(a:Int)
 |none=>match h.exp with
  |some e=>min e (now+34560000)
  |none=>never
def told(h:Hd.Head):List UInt8:=if h.name= []then h.value else h.name
def breaks(h:Hd.Head)(only:Bool):Bool:=(decide (pre (told h)=1)&& !h.secure)||(decide (pre (told h)=2)&& (!h.secure|| !only|| !decide (h.path= [47])))
def pathOf(u:Ur.URL)(h:Hd.Head):List UInt8:=if h.path= []then Ma.default u.path else h.path
def OA(u:Ur.URL)(h:Hd.Head)(now:Int)(host:bA.Host)(only:Bool):Ma.iA:=⟨h.name,h.value,host,only,pathOf u h,h.secure,h.only,h.same,ends h now,now,now,0⟩
def take(rs:List Ru.Rule)(u:Ur.URL)(h:Hd.Head)(now:Int):Int×Ma.iA:=
 if now<0\/1099511627776<now then(122,zero)
 else if(whose rs u.host h.domain).1≠0 then((whose rs u.host h.domain).1,zero)
 else if h.secure=true/\u.secure=false then(104,zero)
 else if h.same=1/\h.secure=false then(105,zero)
 else if breaks h (whose rs u.host h.domain).2.2=true then(106,zero)
 else(0,OA u h now (whose rs u.host h.domain).2.1 (whose rs u.host h.domain).2.2)
theorem mAs {rs:List Ru.Rule}{host:bA.Host}{dom:List UInt8}(hw:(whose rs host dom).1=0):
  ((whose rs host dom).2.2=true/\(whose rs host dom).2.1=host)\/((whose rs host dom).2.2=false/\Ma.domain host (whose rs host dom).2.1=true/\AE rs (whose rs host dom).2.1=false):=by
 unfold whose at hw⊢
 split
 ·exact .inl ⟨rfl,rfl⟩
 ·rename_i hd
  rw[if_neg hd]at hw
  cases hp:bA.parse dom with
  |none=>rw[hp]at hw;cases hw
  |some d=>
   rw[hp]at hw
   dsimp only at hw⊢
   by_cases k1:AE rs d=true/\d≠host
   ·rw[if_pos k1]at hw;cases hw
   ·rw[if_neg k1]at hw⊢
    by_cases k2:Ma.domain host d=false
    ·rw[if_pos k2]at hw;cases hw
    ·rw[if_neg k2]
     by_cases k3:AE rs d=true
     ·rw[if_pos k3];exact .inl ⟨rfl,rfl⟩
     ·rw[if_neg k3]
      exact .inr ⟨rfl,by simpa using k2,by simpa using k3⟩
theorem take_zero {rs:List Ru.Rule}{u:Ur.URL}{h:Hd.Head}{now:Int}{c:Ma.iA}(ht:take rs u h now=(0,c)):
  (0<=now/\now<=1099511627776)/\(whose rs u.host h.domain).1=0/\ ¬(h.secure=true/\u.secure=false)/\ ¬(h.same=1/\h.secure=false)/\breaks h (whose rs u.host h.domain).2.2=false/\c=OA u h now (whose rs u.host h.domain).2.1 (whose rs u.host h.domain).2.2:=by
 unfold take at ht
 split at ht
 ·cases congrArg Prod.fst ht
 rename_i h1
 split at ht
 ·rename_i h2
  exact absurd (congrArg Prod.fst ht) h2
 rename_i h2
 split at ht
 ·cases congrArg Prod.fst ht
 rename_i h3
 split at ht
 ·cases congrArg Prod.fst ht
 rename_i h4
 split at ht
 ·cases congrArg Prod.fst ht
 rename_i h5
 exact⟨by omega,Decidable.byContradiction h2,h3,h4,by simpa using h5,(congrArg Prod.snd ht).symm⟩
theorem lA1 {rs:List Ru.Rule}{u:Ur.URL}{h:Hd.Head}{now:Int}(ht:(take rs u h now).1≠0):(take rs u h now).2=zero:=by
 unfold take at ht⊢
 split
 ·rfl
 rename_i h1
 rw[if_neg h1]at ht
 split
 ·rfl
 rename_i h2
 rw[if_neg h2]at ht
 split
 ·rfl
 rename_i h3
 rw[if_neg h3]at ht
 split
 ·rfl
 rename_i h4
 rw[if_neg h4]at ht
 split
 ·rfl
 rename_i h5
 rw[if_neg h5]at ht
 exact absurd rfl ht
theorem iAI(n:List UInt8):pre n=0\/pre n=1\/pre n=2:=by
 unfold pre
 split
 ·exact .inr (.inl rfl)
 ·split
  ·exact .inr (.inr rfl)
  ·exact .inl rfl
end Ad
end Go.Proofs.YtdaaoopkkhfbhaaGreatDoor
namespace Go.Proofs.YtdaaoopkkhfbhaaGreatDoor
namespace Jr
open Ma Sh
structure MA where
 rules:List Ru.Rule
 s:Shelf
 now:Int
def top:Int:=1099511627776
def fresh(rs:List Ru.Rule):MA:=⟨rs,empty,0⟩
def QC(rs:List Ru.Rule)(h:bA.Host):List UInt8:=if Sx.site (Sx.suffix (Sx.new rs) h) h= []then bA.text h else Sx.site (Sx.suffix (Sx.new rs) h) h
def vD(o c:iA):Bool:=o.secure&&decide (o.name=c.name)&& (domain o.host c.host||domain c.host o.host)&&path c.path o.path
def JF(p:Kept->Bool):Nat->Shelf->Shelf
 |0,s=>s
 |n+1,s=>match oldest p s with|none=>s|some c=>JF p n (drop s c).1
def IH(to:List UInt8)(k:Kept):Bool:=decide (k.site=to)
def laid(j:MA)(c:iA):Shelf:=(expire (put j.s c (QC j.rules c.host)).1 j.now).1
def few(to:List UInt8)(s:Shelf):Shelf:=JF (IH to) (count s to-50) s
def fewer(s:Shelf):Shelf:=JF (fun _=>true) (s.l.length-3000) s
def store(j:MA)(c:iA):Shelf:=fewer (few (QC j.rules c.host) (laid j c))
def cP(j:MA)(u:Ur.URL)(c:iA):Bool:= !u.secure&& (all j.s).any fun o=>vD o c
def set(j:MA)(u:Ur.URL)(t:List UInt8):MA×Int:=
 if Ur.right u=false then(j,41)
 else if(Hd.parse t).1≠0 then(j,(Hd.parse t).1)
 else if(Ad.take j.rules u (Hd.parse t).2 j.now).1≠0 then(j,(Ad.take j.rules u (Hd.parse t).2 j.now).1)
 else if cP j u (Ad.take j.rules u (Hd.parse t).2 j.now).2=true then(j,121)
 else(⟨j.rules,store j (Ad.take j.rules u (Hd.parse t).2 j.now).2,j.now⟩,0)
def ins(c:iA):List iA->List iA
 | []=> [c]
 |x::l=>if goes c x=true then c::x::l else x::ins c l
def row(j:MA)(r:Request):List iA:=((all j.s).filter fun c=>sends c r j.now).foldl (fun o c=>ins c o) []
def said(c:iA):List UInt8:=if c.name= []then c.value else c.name++61::c.value
def join:List (List UInt8)->List UInt8
 | []=> []
 | [x]=>x
 |x::y::l=>x++59::32::join (y::l)
def uses(now:Int)(l:List iA)(s:Shelf):Shelf:=l.foldl (fun s c=>(use s c now).1) s
def get(j:MA)(r:Request):MA×List UInt8:=(⟨j.rules,uses j.now (row j r) j.s,j.now⟩,join ((row j r).map said))
def tick(j:MA)(n:Int):MA×Int:=if n<0\/top-j.now<n then(j,122)else(⟨j.rules,(expire j.s (j.now+n)).1,j.now+n⟩,0)
structure rF(j:MA):Prop where
 well:Well j.s
 live: ∀k∈j.s.l,j.now<k.c.expires/\k.c.born<=j.now/\k.c.used<=j.now
 lo:0<=j.now
 hi:j.now<=top
theorem dAf(rs:List Ru.Rule):rF (fresh rs):=⟨Q5,(fun k hk=>by cases hk),Int.le_refl 0,by show(0:Int)<=top;decide⟩
theorem QU(s:Shelf)(c:iA):(drop s c).1.l.Sublist s.l:=by
 unfold drop
 cases place s c with
 |some i=>exact List.eraseIdx_sublist _ _
 |none=>exact List.Sublist.refl _
theorem cAB(s:Shelf)(c:iA):(drop s c).1.last=s.last:=by
 unfold drop
 cases place s c<;>rfl
theorem IP(p:Kept->Bool): ∀(n:Nat)(s:Shelf),(JF p n s).l.Sublist s.l/\(JF p n s).last=s.last
 |0,s=>⟨List.Sublist.refl _,rfl⟩
 |n+1,s=>by
  unfold JF
  cases oldest p s with
  |none=>exact⟨List.Sublist.refl _,rfl⟩
  |some c=>
   obtain⟨h1,h2⟩:=IP p n (drop s c).1
   exact⟨h1.trans (QU s c),h2.trans (cAB s c)⟩
theorem FZ(j:MA)(c:iA):(store j c).l.Sublist (laid j c).l/\(store j c).last=(laid j c).last:=by
 unfold store fewer few
 obtain⟨h1,h2⟩:=IP (IH (QC j.rules c.host)) (count (laid j c) (QC j.rules c.host)-50) (laid j c)
 obtain⟨h3,h4⟩:=IP (fun _=>true) ((JF (IH (QC j.rules c.host)) (count (laid j c) (QC j.rules c.host)-50) (laid j c)).l.length-3000) (JF (IH (QC j.rules c.host)) (count (laid j c) (QC j.rules c.host)-50) (laid j c))
 exact⟨h3.trans h1,h4.trans h2⟩
theorem mAp {s x:Shelf}(h:Well ⟨s.l,x.last⟩)(e:s.last=x.last):Well s:=by
 rw[<-e]at h
 exact h
attribute [local irreducible] store
theorem yX {s:Shelf}{c:iA}{to:List UInt8}{k:Kept}(h:k∈ (put s c to).1.l):k∈s.l\/(∃x∈s.l,k=old c to x)\/k=⟨{c with seq:=s.last+1},to⟩:=by
 unfold put at h
 cases e:place s c with
 |some i=>
  rw[e]at h
  rcases mem_modify h with m|⟨x,m,r⟩
  ·exact .inl m
  ·exact .inr (.inl ⟨x,List.mem_of_getElem? m,r⟩)
 |none=>
  rw[e]at h
  rcases List.mem_append.1 h with m|m
  ·exact .inl m
  ·exact .inr (.inr (List.mem_singleton.1 m))
theorem dAh {j:MA}(h:rF j)(u:Ur.URL)(t:List UInt8):rF (set j u t).1/\(set j u t).1.now=j.now/\(set j u t).1.rules=j.rules:=by
 unfold set
 split
 ·exact⟨h,rfl,rfl⟩
 split
 ·exact⟨h,rfl,rfl⟩
 split
 ·exact⟨h,rfl,rfl⟩
 rename_i k2 k3
 split
 ·exact⟨h,rfl,rfl⟩
 refine⟨?_,rfl,rfl⟩
 have ht:Ad.take j.rules u (Hd.parse t).2 j.now=(0,(Ad.take j.rules u (Hd.parse t).2 j.now).2):=by
  rw[<-Decidable.not_not.1 k3]
 obtain⟨_,_,_,_,_,hc⟩:=Ad.take_zero ht
 generalize(Ad.take j.rules u (Hd.parse t).2 j.now).2=c at*
 have hb:c.born=j.now/\c.used=j.now:=by rw[hc];exact⟨rfl,rfl⟩
 obtain⟨e1,e2⟩:=FZ j c
 have hw:Well (laid j c):=dS (eS h.well c _) j.now
 refine⟨?_,?_,h.lo,h.hi⟩
 ·exact mAp (fS hw e1) e2
 ·intro k hk
  have m:=e1.subset hk
  obtain⟨m1,m2⟩:=List.mem_filter.1 m
  have m2:=zB1 m2
  refine⟨m2,?_⟩
  rcases yX m1 with q|⟨x,q,rfl⟩|rfl
  ·exact(h.live k q).2
  ·exact⟨(h.live x q).2.1,by show c.used<=j.now;omega⟩
  ·exact⟨by show c.born<=j.now;omega,by show c.used<=j.now;omega⟩
theorem dAi {j:MA}(h:rF j)(n:Int):rF (tick j n).1:=by
 unfold tick
 split
 ·exact h
 ·rename_i k
  refine⟨dS h.well _,?_,by have:=h.lo;show 0<=j.now+n;omega,by show j.now+n<=top;omega⟩
  intro x hx
  obtain⟨m1,m2⟩:=List.mem_filter.1 hx
  have:=h.live x m1
  exact⟨zB1 m2,by show x.c.born<=j.now+n;omega,by show x.c.used<=j.now+n;omega⟩
def mark(now:Int)(p:iA->Bool)(k:Kept):Kept:=if p k.c=true then used now k else k
theorem uX {now:Int}{p q:iA->Bool}{k:Kept}(h:p k.c=q k.c):mark now p k=mark now q k:=by unfold mark;rw[h]
theorem vX {now:Int}{p:iA->Bool}{k:Kept}(h:p k.c=false):mark now p k=k:=by unfold mark;rw[h];rfl
theorem AX {f:Kept->Kept}{q:Kept->Bool} : ∀ {l:List Kept}{i:Nat}{k:Kept},l[i]? =some k->q k=true->(∀n x,l[n]? =some x->n≠i->q x=false)->l.modify i f=l.map fun x=>if q x=true then f x else x
 | [],i,k,h,_,_=>by cases h
 |a::l,0,k,h,hq,hn=>by
  have e:a=k:=zB2 h
  subst e
  rw[List.modify_zero_cons,List.map_cons,if_pos hq]
  have:l.map (fun x=>if q x=true then f x else x)=l:=by
   refine(List.map_congr_left fun x hx=>?_).trans (List.map_id l)
   obtain⟨n,hx⟩:=List.getElem?_of_mem hx
   rw[hn (n+1) x (by rw[List.getElem?_cons_succ];exact hx) (by omega)]
   rfl
  rw[this]
 |a::l,i+1,k,h,hq,hn=>by
  have ha:q a=false:=hn 0 a rfl (by omega)
  rw[List.modify_succ_cons,List.map_cons,ha,AX (l:=l) (i:=i) h hq (fun n x hx hi=>hn (n+1) x (by rw[List.getElem?_cons_succ];exact hx) (by omega))]
  rfl
theorem mA2 {s:Shelf}(h:Well s)(c:iA)(now:Int):(use s c now).1=⟨s.l.map (mark now fun x=>key x c),s.last⟩:=by
 unfold use
 cases e:place s c with
 |some i=>
  obtain⟨k,h1,h2,_⟩:=vN e
  dsimp only
  rw[AX (q:=fun x=>key x.c c) h1 h2]
  ·rfl
  ·intro n x hx hn
   obtain⟨a1,a2⟩:=List.getElem?_eq_some_iff.1 h1
   obtain⟨b1,b2⟩:=List.getElem?_eq_some_iff.1 hx
   have hp:=List.pairwise_iff_getElem.1 h.apart
   rw[<-VI h2]
   rcases Nat.lt_trichotomy i n with r|r|r
   ·have:=(hp i n a1 b1 r).1
    rw[a2,b2]at this
    rw[BE];exact this
   ·exact absurd r.symm hn
   ·have:=(hp n i b1 a1 r).1
    rw[b2,a2]at this
    exact this
 |none=>
  have h1:=(uN e).1
  dsimp only
  have:s.l.map (mark now fun x=>key x c)=s.l:=by
   refine(List.map_congr_left fun x hx=>?_).trans (List.map_id s.l)
   exact vX (h1 x hx)
  rw[this]
theorem WR {now:Int} : ∀(l:List iA){s:Shelf},Well s->uses now l s=⟨s.l.map (mark now fun x=>l.any fun c=>key x c),s.last⟩/\Well (uses now l s)
 | [],s,h=>by
  refine⟨?_,h⟩
  show s=_
  have:s.l.map (mark now fun x=>([]:List iA).any fun c=>key x c)=s.l:=(List.map_congr_left fun x _=>rfl).trans (List.map_id s.l)
  rw[this]
 |c::l,s,h=>by
  obtain⟨h1,h2⟩:=WR l (W5 h c now)
  refine⟨?_,h2⟩
  show uses now l (use s c now).1=_
  rw[h1,mA2 h]
  dsimp only
  rw[List.map_map]
  congr 1
  refine List.map_congr_left fun x _=>?_
  show mark now _ (mark now _ x)=mark now _ x
  by_cases k1:key x.c c=true
  ·have:((c::l).any fun c=>key x.c c)=true:=by rw[List.any_cons,k1];rfl
   unfold mark
   rw[if_pos k1,if_pos this]
   split<;>rfl
  ·have:((c::l).any fun c=>key x.c c)=l.any fun c=>key x.c c:=by rw[List.any_cons,Bool.eq_false_iff.2 k1,Bool.false_or]
   rw[vX (p:=fun x=>key x c) (Bool.eq_false_iff.2 k1)]
   exact uX this.symm
theorem NM {c x:iA} : ∀ {l:List iA},x∈ins c l↔x=c\/x∈l
 | []=>by simp[ins]
 |a::l=>by
  unfold ins
  split
  ·exact List.mem_cons
  ·rw[List.mem_cons,NM,List.mem_cons]
   constructor
   ·rintro(h|h|h)
    ·exact .inr (.inl h)
    ·exact .inl h
    ·exact .inr (.inr h)
   ·rintro(h|h|h)
    ·exact .inr (.inl h)
    ·exact .inl h
    ·exact .inr (.inr h)
theorem oV {x:iA} : ∀ {l o:List iA},x∈l.foldl (fun o c=>ins c o) o↔x∈l\/x∈o
 | [],o=>by simp
 |c::l,o=>by
  rw[List.foldl_cons,oV,NM,List.mem_cons]
  constructor
  ·rintro(h|h|h)
   ·exact .inl (.inr h)
   ·exact .inl (.inl h)
   ·exact .inr h
  ·rintro((h|h)|h)
   ·exact .inr (.inl h)
   ·exact .inl h
   ·exact .inr (.inr h)
theorem mR {j:MA}{r:Request}{x:iA} :x∈row j r↔x∈all j.s/\sends x r j.now=true:=by
 unfold row
 rw[oV,List.mem_filter]
 simp
theorem dAJ {j:MA}(h:rF j)(r:Request):(get j r).1.s=⟨j.s.l.map (mark j.now fun x=>sends x r j.now),j.s.last⟩:=by
 unfold get
 dsimp only
 rw[(WR _ h.well).1]
 congr 1
 refine List.map_congr_left fun k hk=>?_
 have e:((row j r).any fun c=>key k.c c)=sends k.c r j.now:=by
  rw[Bool.eq_iff_iff,List.any_eq_true]
  constructor
  ·rintro⟨x,hx,hkx⟩
   obtain⟨m1,m2⟩:=mR.1 hx
   obtain⟨y,hy,rfl⟩:=List.mem_map.1 m1
   have e1:=PP h.well hk hkx
   have e2:=PP h.well hy (kF y.c)
   rw[e1]at e2
   rw[zB2 e2];exact m2
  ·intro hs
   exact⟨k.c,mR.2 ⟨List.mem_map.2 ⟨k,hk,rfl⟩,hs⟩,kF _⟩
 exact uX e
theorem dAg {j:MA}(h:rF j)(r:Request):rF (get j r).1:=by
 refine⟨(WR _ h.well).2,?_,h.lo,h.hi⟩
 intro k hk
 rw[dAJ h]at hk
 obtain⟨x,hx,rfl⟩:=List.mem_map.1 hk
 have:=h.live x hx
 show j.now<(mark _ _ x).c.expires/\(mark _ _ x).c.born<=j.now/\(mark _ _ x).c.used<=j.now
 unfold mark
 split
 ·exact⟨this.1,this.2.1,Int.le_refl _⟩
 ·exact this
theorem iAW(s:Shelf)(c:iA)(to:List UInt8):(put s c to).1.l.length<=s.l.length+1:=by
 unfold put
 cases place s c with
 |some i=>show(s.l.modify i _).length<=_;rw[List.length_modify];omega
 |none=>show(s.l++_).length<=_;rw[zB4];exact zB3 _
theorem gA2(j:MA)(c:iA):(laid j c).l.length<=j.s.l.length+1:=Nat.le_trans List.filter_sublist.length_le (iAW j.s c _)
theorem dA0 {to:List UInt8}{s:Shelf}(h:count s to<=50):few to s=s:=by
 unfold few
 rw[Nat.sub_eq_zero_of_le h];rfl
theorem dA3 {s:Shelf}(h:s.l.length<=3000):fewer s=s:=by
 unfold fewer
 rw[Nat.sub_eq_zero_of_le h];rfl
theorem cAw {h d:bA.Host}(k:domain h d=true):bA.can d=true:=by
 unfold domain at k
 simp only[Bool.and_eq_true]at k
 exact k.1.2
theorem cAD {p:Kept->Bool}{s:Shelf}(h:Well s){c:iA}(ho:oldest p s=some c):
  (∃k∈s.l,p k=true/\k.c=c/\k∉ (drop s c).1.l)/\((drop s c).1.l.filter p).length+1=(s.l.filter p).length/\(drop s c).1.l.filter (fun k=> !p k)=s.l.filter fun k=> !p k:=by
 obtain⟨⟨k,hk,hp,hc⟩,_⟩:=lN ho
 subst hc
 have hg:=dAL h k.c
 refine⟨⟨k,hk,hp,rfl,fun hm=>?_⟩,?_⟩
 ·rw[PP (N5 h k.c) hm (kF k.c)]at hg
  cases hg
 ·unfold drop at hg⊢
  cases e:place s k.c with
  |none=>
   have:=(uN e).1 k hk
   rw[kF]at this
   cases this
  |some i=>
   obtain⟨x,h1,h2,_⟩:=vN e
   have hx:x=k:=by
    obtain⟨n,hn⟩:=List.getElem?_of_mem hk
    obtain⟨a1,a2⟩:=List.getElem?_eq_some_iff.1 h1
    obtain⟨b1,b2⟩:=List.getElem?_eq_some_iff.1 hn
    have hq:=List.pairwise_iff_getElem.1 h.apart
    rcases Nat.lt_trichotomy i n with r|r|r
    ·have:=(hq i n a1 b1 r).1
     rw[a2,b2,h2]at this
     cases this
    ·subst r
     rw[<-a2,<-b2]
    ·have:=(hq n i b1 a1 r).1
     rw[a2,b2,BE,h2]at this
     cases this
   subst hx
   dsimp only
   have go: ∀ {l:List Kept}{i:Nat},l[i]? =some x->((l.eraseIdx i).filter p).length+1=(l.filter p).length/\(l.eraseIdx i).filter (fun k=> !p k)=l.filter fun k=> !p k:=by
    intro l
    induction l with
    |nil=>intro i hi;cases hi
    |cons a l ih=>
     intro i hi
     cases i with
     |zero=>
      have ea:a=x:=zB2 hi
      subst ea
      rw[List.eraseIdx_cons_zero,List.filter_cons_of_pos hp,List.filter_cons_of_neg (by rw[hp];simp)]
      exact⟨rfl,rfl⟩
     |succ i=>
      obtain⟨g1,g2⟩:=ih (i:=i) hi
      rw[List.eraseIdx_cons_succ]
      cases ea:p a with
      |true=>
       rw[List.filter_cons_of_pos ea,List.filter_cons_of_pos ea,List.filter_cons_of_neg (by rw[ea];simp),List.filter_cons_of_neg (by rw[ea];simp),zB5,zB5,g1]
       exact⟨rfl,g2⟩
      |false=>
       rw[List.filter_cons_of_neg (by rw[ea];simp),List.filter_cons_of_neg (by rw[ea];simp),List.filter_cons_of_pos (by rw[ea];rfl),List.filter_cons_of_pos (by rw[ea];rfl),g2]
       exact⟨g1,rfl⟩
   exact go h1
end Jr
end Go.Proofs.YtdaaoopkkhfbhaaGreatDoor
namespace Go.Proofs.YtdaaoopkkhfbhaaGreatDoor
open Go.RowKit
section
variable {P:Program} {ops:Array Oper} {C:World->Prop} {Q:Act->Prop} {a:Act} {o:Oper} {rest:List Oper}
theorem nAH {v:Value}(hy:YieldsIf P ops C o v a)(h:wpQuiet P ops C Q rest (a.put o.dst v)):wpQuiet P ops C Q (o::rest) a:=by
 refine wpQuiet_step fun K hK=>?_
 rcases hy with⟨hw,hr⟩|⟨hw,hv⟩
 ·rw[if_pos hw]
  exact⟨v,fun w hC=>by unfold Oper.quietAt;rw[hr w hC];exact⟨rfl,rfl⟩,hK _ h⟩
 ·rw[if_neg (by rw[hw];decide),<-hv]
  exact hK _ h
theorem nAG(hw:Region.wanted o (yielded ops a.tmps)=true)(v:Value)(hc: ∀w,C w->o.quietAt P a C w v)(h:wpQuiet P ops C Q rest (a.put o.dst v)):wpQuiet P ops C Q (o::rest) a:=by
 refine wpQuiet_step fun K hK=>?_
 rw[if_pos hw]
 exact⟨v,hc,hK _ h⟩
end
theorem nF {P:Program}{C:World->Prop}{id:Nat}{Q:Exit->Act->World->Prop}{a:Act}{w:World}{l:List Oper}(hm:P.follows .mixedOrders=true)(hB:Region.lexB .any l.toArray=true)(hC:C w.drew)
  (h:wpQuiet P l.toArray C (fun a'=> ∀w',C w'->Q .normal a' w') l a):(Code.region id l.toArray true).wp P Q a w:=
 wp_region_quiet (C:=C) hm hB hC (by simpa using h)
end Go.Proofs.YtdaaoopkkhfbhaaGreatDoor
namespace Go.Proofs.YtdaaoopkkhfbhaaGreatDoor
open Go.RowKit
def uA(c:Ma.iA):Array Value:=(gA c.name::((cA c.host).toList++ [.bool c.only,gA c.path])).toArray
theorem FE(c:Ma.iA)(ha:c.host.addr.length=16):(uA c).size=21:=by
 unfold uA
 rw[List.size_toArray,zB5,zB4,vE _ ha];rfl
theorem TK(c:Ma.iA):(uA c).all (·.oneCell')=true:=by
 rw[Array.all_eq_true']
 intro v hv
 unfold uA at hv
 rw[List.mem_toArray]at hv
 simp only[List.mem_cons,List.mem_append,List.not_mem_nil,or_false]at hv
 rcases hv with rfl|hv|rfl|rfl
 ·rfl
 ·exact pW _ v hv
 all_goals rfl
section
variable (c:Ma.iA) (ha:c.host.addr.length=16)
include ha
theorem EY(i:Nat):(uA c)[19+i]? =([.bool c.only,gA c.path]:List Value)[i]? :=by
 unfold uA
 rw[List.getElem?_toArray,show 19+i=(18+i)+1 by omega,List.getElem?_cons_succ]
 exact eP ha _ i
theorem CY:(uA c)[19]? =some (.bool c.only):=EY c ha 0
theorem DY:(uA c)[20]? =some (gA c.path):=EY c ha 1
theorem BY:(uA c).extract 1 19=cA c.host:=by
 apply Array.ext'
 rw[Array.toList_extract]
 unfold uA
 show List.take 18 ((cA c.host).toList++_)=_
 exact NN ha _
end
theorem iAB(c:Ma.iA):(uA c)[0]? =some (gA c.name):=rfl
def Ma.zero:Ma.iA:=⟨[],[],bA.zero,false,[],false,false,0,0,0,0,0⟩
theorem nL: #[Value.string ⟨#[]⟩,.int .i64 0,.string ⟨#[]⟩,.int .u8 0,.int .u8 0,.int .u8 0,.int .u8 0,.int .u8 0,.int .u8 0,.int .u8 0,.int .u8 0,.int .u8 0,.int .u8 0,.int .u8 0,.int .u8 0,.int .u8 0,.int .u8 0,.int .u8 0,.int .u8 0,.bool false,.string ⟨#[]⟩]=uA Ma.zero:=by rfl
end Go.Proofs.YtdaaoopkkhfbhaaGreatDoor
namespace Go.Proofs.YtdaaoopkkhfbhaaGreatDoor
open Go.RowKit
theorem CI {P:Program}{ops:Array Oper}{rest:List Oper}{o:Oper}{a:Act}{w:World}{Q:Exit->Act->World->Prop}(hg:o.guard=none)(t:TypeId)(ps:Array (Nat×Operand))(ho:o.op= .build t ps)(vs:List (Nat×Value))(hv:ps.toList.map (fun p=>(p.1,a.eval p.2))=vs)(cells:Array Value)
  (hc:P.built t vs=some cells)(h:wpList P ops Q rest (a.put o.dst (.agg cells)) w):wpList P ops Q (o::rest) a w:=by
 have e:(ps.map fun(i,x)=>(i,a.eval x)).toList=vs:=by rw[Array.toList_map];exact hv
 refine wpList_build hg t ps ho ?_ ?_
 ·rw[e,hc];rfl
 ·rw[e,hc];exact h
theorem bA5:Tryz.prog.built 64 []=some (dA Ma.xA):=by kernel_rfl
def iU(c:Ma.iA):List (Nat×Value):= [(0,gA c.name),(1,gA c.value),(2,.agg (cA c.host)),(3,.bool c.only),(4,gA c.path),(5,.bool c.secure),(6,.bool c.http),(7,.int .i64 c.same),(8,.int .i64 c.expires),(9,.int .i64 c.born),(10,.int .i64 c.used)]
theorem bA0(c:Ma.iA)(ha:c.host.addr.length=16)(hs:c.seq=0):Tryz.prog.built 64 (iU c)=some (dA c):=by
 obtain⟨n,v,⟨k,m,a⟩,o,p,s,h,sm,ex,bo,us,sq⟩:=c
 obtain rfl:sq=0:=hs
 obtain⟨x0,x1,x2,x3,x4,x5,x6,x7,x8,x9,x10,gG,hG,iG,jG,kG,rfl⟩:=sixteen ha
 kernel_rfl
end Go.Proofs.YtdaaoopkkhfbhaaGreatDoor
namespace Go.Proofs.YtdaaoopkkhfbhaaGreatDoor
open Go.RowKit
def rA(k:Sh.Kept):Array Value:=((dA k.c).toList++ [gA k.site]).toArray
def Sh.JA:Sh.Kept:=⟨Ma.xA,[]⟩
theorem EI(c:Ma.iA)(ha:c.host.addr.length=16):(dA c).toList.length=29:=by rw[Array.length_toList,TA c ha]
theorem zC(k:Sh.Kept)(ha:k.c.host.addr.length=16):(rA k).size=30:=by
 unfold rA
 rw[List.size_toArray,zB4,EI _ ha];rfl
theorem PH(k:Sh.Kept):(rA k).all (·.oneCell')=true:=by
 rw[Array.all_eq_true']
 intro v hv
 unfold rA at hv
 rw[List.mem_toArray,List.mem_append]at hv
 rcases hv with hv|hv
 ·exact Array.all_eq_true'.1 (FD k.c) v (Array.mem_toList_iff.1 hv)
 ·rw[List.mem_singleton.1 hv];rfl
theorem LG {k:Sh.Kept}{i:Nat}{u:Value}(h:(dA k.c)[i]? =some u):(rA k)[i]? =some u:=by
 unfold rA
 rw[List.getElem?_toArray,List.getElem?_append_left (by rw[Array.length_toList];exact(Array.getElem?_eq_some_iff.1 h).1),Array.getElem?_toList]
 exact h
theorem VW(k:Sh.Kept)(ha:k.c.host.addr.length=16):(rA k)[29]? =some (gA k.site):=by
 unfold rA
 rw[List.getElem?_toArray,List.getElem?_append_right (by rw[EI _ ha];exact zB3 _),EI _ ha];rfl
theorem UW(k:Sh.Kept)(ha:k.c.host.addr.length=16):(rA k).extract 0 29=dA k.c:=by
 apply Array.ext'
 rw[Array.toList_extract]
 unfold rA
 show List.take 29 (List.drop 0 _)=_
 rw[List.drop_zero,<-EI k.c ha,List.take_left]
theorem fAM(k:Sh.Kept)(ha:k.c.host.addr.length=16)(n:Int):(rA k).setIfInBounds 27 (.int .i64 n)=rA (Sh.used n k):=by
 have h:=qP k.c ha 7 (.int .i64 n)
 have h2:(dA k.c).setIfInBounds 27 (.int .i64 n)=dA {k.c with used:=n} :=h
 have h3:=congrArg Array.toList h2
 rw[Array.toList_setIfInBounds]at h3
 unfold rA Sh.used
 rw[zA1,List.set_append_left _ _ (by rw[EI _ ha];omega),h3]
theorem bAM(c:Ma.iA)(ha:c.host.addr.length=16)(n:Int):(dA c).setIfInBounds 26 (.int .i64 n)=dA {c with born:=n} :=qP c ha 6 (.int .i64 n)
theorem gU(c:Ma.iA)(ha:c.host.addr.length=16)(n:Int):(dA c).setIfInBounds 28 (.int .i64 n)=dA {c with seq:=n} :=qP c ha 8 (.int .i64 n)
theorem lI: #[Value.string ⟨#[]⟩,.string ⟨#[]⟩,.int .i64 0,.string ⟨#[]⟩,.int .u8 0,.int .u8 0,.int .u8 0,.int .u8 0,.int .u8 0,.int .u8 0,.int .u8 0,.int .u8 0,.int .u8 0,.int .u8 0,.int .u8 0,.int .u8 0,.int .u8 0,.int .u8 0,.int .u8 0,.int .u8 0,.bool false,.string ⟨#[]⟩,.bool false,.bool false,.int .i64 0,.int .i64 0,.int .i64 0,.int .i64 0,.int .i64 0,.string ⟨#[]⟩]=rA Sh.JA:=by rfl
theorem PF:(Tryz.prog.info? 136).map (·.size)=some 30:=by kernel_rfl
theorem MM:(Tryz.prog.info? 64).map (fun i=>(i.zero,i.size,i.bytes))=some (some (.agg (dA Ma.xA)),29,144):=by kernel_rfl
theorem OT(c:Ma.iA)(ha:c.host.addr.length=16)(s:ByteArray):Tryz.prog.built 136 [(0,.agg (dA c)),(1,.string s)]=some (rA ⟨c,s.data.toList⟩):=by
 obtain⟨n,v,⟨k,m,a⟩,o,p,q,h,sm,ex,bo,us,sq⟩:=c
 obtain⟨x0,x1,x2,x3,x4,x5,x6,x7,x8,x9,x10,gG,hG,iG,jG,kG,rfl⟩:=sixteen ha
 kernel_rfl
structure wB(c:Ma.iA):Prop where
 host:oT c.host
 name:c.name.length<=maxLen
 path:c.path.length<=maxLen
structure zI(k:Sh.Kept):Prop where
 OA:wB k.c
 site:k.site.length<=maxLen
theorem zI.addr {k:Sh.Kept}(h:zI k):k.c.host.addr.length=16:=h.OA.host.addr
theorem TI:(Tryz.prog.info? 134).map (·.size)=some 21:=by kernel_rfl
theorem bA3(c:Ma.iA)(ha:c.host.addr.length=16):Tryz.prog.built 134 [(0,gA c.name),(1,.agg (cA c.host)),(2,.bool c.only),(3,gA c.path)]=some (uA c):=by
 obtain⟨n,v,⟨k,m,a⟩,o,p,s,h,sm,ex,bo,us,sq⟩:=c
 obtain⟨x0,x1,x2,x3,x4,x5,x6,x7,x8,x9,x10,gG,hG,iG,jG,kG,rfl⟩:=sixteen ha
 kernel_rfl
theorem XQ(c:Ma.iA)(ha:c.host.addr.length=16)(w:World):
  Calls Tryz.prog 75 #[.agg (dA c)] w fun e w'=>e= .returned (.agg (uA c))/\Below w.heap.size w w':=by
 have z0:=nL
 have HC:=zA7 (TA c ha)
 have HP:=zA7 (FE c ha)
 have mC:=zA7 (TK c)
 have HZ:=zA7 (FE Ma.zero rfl)
 have HB:=zA7 (bA3 c ha)
 have HH:=zA7 (pK c ha)
 have k0:=pP c
 have k20:=eU c ha
 have k21:=FI c ha
 unfold gA at HB k0 k21
 have R0:=Row.new w 64 (dA c)
 have B0:=(Below.refl w.heap.size w).alloc (zB3 _) (.cells (dA c) 64)
 generalize(⟨c.name.toArray⟩:ByteArray)=n at*
 generalize(⟨c.path.toArray⟩:ByteArray)=p at*
 generalize c.only=b at*
 generalize cA c.host=H at*
 generalize uA Ma.zero=Z at*
 have R1:=R0.alloc (.cells Z 134)
 have hN:(w.alloc (.cells (dA c) 64)).heap.size=w.heap.size+1:=by simp
 have T1:=Row.new (w.alloc (.cells (dA c) 64)) 134 Z
 rw[hN]at T1
 have C1:=B0.alloc B0.size (.cells Z 134)
 have c0:=(R1.cell 0).trans k0
 have c20:=(R1.cell 20).trans k20
 have c21:=(R1.cell 21).trans k21
 have s0:w.heap.size<=w.heap.size+1:=by omega
 clear k0 k20 k21 hN R0 B0
 generalize dA c=X at*
 go_enter Tryz.func75,Tryz.ntmps75
 go_wp2_with (first
  |(refine jA 6 rfl ?_;refine eD rfl 32 _ rfl w.heap.size 2 18 rfl R1 Tryz.underlying32 rfl mA (by rw[HC.out];decide) H HH.out ?_)
  |(refine jA 11 rfl ?_;refine aAY rfl 134 0 1 2 3 _ _ _ _ rfl _ _ _ _ rfl rfl rfl rfl (uA c) HB.out ?_)
  |(refine wpList_store_row rfl 134 _ _ rfl (w.heap.size+1) (uA c) rfl rfl 134 _ T1 (by rw[HP.out];exact TI) (by rw[HP.out,HZ.out]) mC.out ?_))
 exact bodyPost_ret (v:= .agg (uA c)) (results_cell_row rfl _ _ _ _ _ _ _ rfl (T1.whole _) Tryz.underlying134 rfl (by rw[HP.out];exact TI)) rfl ⟨rfl,below_setRow C1 s0 _⟩
end Go.Proofs.YtdaaoopkkhfbhaaGreatDoor
namespace Go.Proofs.YtdaaoopkkhfbhaaGreatDoor
open Go.RowKit Go.Maps
theorem gA0:laidOutB Tryz.prog=true:=by kernel_rfl
theorem YF:Keyed Tryz.prog 134:=Keyed.of_law (deep_law_laid gA0 (m:=9) (by omega) (zB1 (by kernel_rfl)) (by kernel_rfl) (by kernel_rfl))
theorem iAC:Tryz.prog.keyType 134=true:=by kernel_rfl
theorem WT:Tryz.prog.cellsOf 134=21:=by kernel_rfl
theorem bAn:Tryz.prog.cellsOf 5=1:=by kernel_rfl
theorem bAp:Tryz.prog.cellsOf 3=1:=by kernel_rfl
theorem XT:Tryz.prog.cellsOf 9=1:=by kernel_rfl
theorem bAm:Tryz.prog.cellsOf 4=1:=by kernel_rfl
theorem UT:Tryz.prog.cellsOf 30=16:=by kernel_rfl
theorem lAJ: ∃n,Tryz.prog.types.size=n+4:=⟨Tryz.prog.types.size-4,by have:4<=Tryz.prog.types.size:=zB1 (by kernel_rfl);omega⟩
theorem uQ(n:Nat)(s:List UInt8)(h:s.length<=maxLen):Tryz.prog.keyLits (n+1) 9 [gA s]=some [.string s]:=by
 have hs:(⟨s.toArray⟩:ByteArray).size<=maxLen:=by show(List.toArray _).size<=_;simp;exact h
 simp[Program.keyLits,Tryz.underlying9,gA,hs]
theorem fAR(n:Nat)(b:Bool):Tryz.prog.keyLits (n+1) 4 [.bool b]=some [.bool b]:=by simp[Program.keyLits,Tryz.underlying4]
theorem fAU(n:Nat)(k:Int)(h:(Lit.int .i64 k).wf=true):Tryz.prog.keyLits (n+1) 3 [.int .i64 k]=some [.int .i64 k]:=by simp[Program.keyLits,Tryz.underlying3,h]
theorem fAS(n:Nat)(c:UInt8):Tryz.prog.keyLits (n+1) 5 [BA c]=some [.int .u8 (c.toNat:Int)]:=by
 have h:(Lit.int .u8 (c.toNat:Int)).wf=true:=WalkArith.wf_u8 (by have:=c.toNat_lt;omega)
 simp[Program.keyLits,Tryz.underlying5,BA,h]
def QT(a:List UInt8):List Lit:=a.map fun c=> .int .u8 (c.toNat:Int)
theorem fAQ(n:Nat)(a:List UInt8)(ha:a.length=16):Tryz.prog.keyLits (n+2) 30 (a.map BA)=some (QT a):=by
 have hm:=gAB (fun i=>Tryz.prog.keyLits (n+1) 5 (((a.map BA).drop (i*1)).take 1)) (fun i=> [Lit.int .u8 ((a.getD i 0).toNat:Int)]) 16 (fun i hi=>by
  have hl:i<(a.map BA).length:=by simp;omega
  have hl2:i<a.length:=by omega
  rw[Nat.mul_one,List.drop_eq_getElem_cons hl,List.take_succ_cons,List.take_zero,List.getElem_map,List.getD_eq_getElem?_getD,List.getElem?_eq_getElem hl2]
  exact fAS n _)
 unfold Program.keyLits
 rw[Tryz.underlying30]
 simp only[UT,bAn,List.length_map,ha,if_true,hm]
 obtain⟨x0,x1,x2,x3,x4,x5,x6,x7,x8,x9,x10,gG,hG,iG,jG,kG,rfl⟩:=sixteen ha
 rfl
def kQ(h:bA.Host):List Lit:= .int .i64 h.kind:: .string h.name::QT h.addr
theorem fAT(n:Nat)(h:bA.Host)(ho:oT h):Tryz.prog.keyLits (n+3) 32 (cA h).toList=some (kQ h):=by
 obtain⟨f0,f1,f2,hu,⟨n0,n1,n2⟩,⟨o0,o1,o2⟩,t0,t1,t2⟩: ∃f0 f1 f2,Tryz.prog.underlying 32=some (.struct #[f0,f1,f2])/\(f0.name≠ "_" /\f1.name≠ "_" /\f2.name≠ "_")/\(f0.offset=0/\f1.offset=1/\f2.offset=2)/\f0.type=3/\f1.type=9/\f2.type=30:=
  ⟨_,_,_,Tryz.underlying32,⟨by decide,by decide,by decide⟩,⟨rfl,rfl,rfl⟩,rfl,rfl,rfl⟩
 have hls:=fAQ n h.addr ho.addr
 have k0:=fAU (n+1) h.kind ho.kind
 have k1:=uQ (n+1) h.name ho.name
 have hl:(cA h).toList=Value.int .i64 h.kind::gA h.name::h.addr.map BA:=rfl
 have ht:(h.addr.map BA).take 16=h.addr.map BA:=List.take_of_length_le (by simp[ho.addr])
 unfold Program.keyLits
 rw[hu,hl]
 simp[VT,bAp,XT,UT,n0,n1,n2,o0,o1,o2,t0,t1,t2,k0,k1,ho.addr,ht,hls,kQ]
def nJ(c:Ma.iA):List Lit:= .string c.name::(kQ c.host++ [.bool c.only,.string c.path])
def iB(c:Ma.iA):Lit:= .string (keyBytes (nJ c))
theorem RG(c:Ma.iA)(h:wB c):keyOf Tryz.prog 134 (.agg (uA c))=some (iB c):=by
 obtain⟨f0,f1,f2,f3,hu,⟨n0,n1,n2,n3⟩,⟨o0,o1,o2,o3⟩,t0,t1,t2,t3⟩: ∃f0 f1 f2 f3,Tryz.prog.underlying 134=some (.struct #[f0,f1,f2,f3])/\(f0.name≠ "_" /\f1.name≠ "_" /\f2.name≠ "_" /\f3.name≠ "_")/\(f0.offset=0/\f1.offset=1/\f2.offset=19/\f3.offset=20)/\f0.type=9/\f1.type=32/\f2.type=4/\f3.type=9:=
  ⟨_,_,_,_,Tryz.underlying134,⟨by decide,by decide,by decide,by decide⟩,⟨rfl,rfl,rfl,rfl⟩,rfl,rfl,rfl,rfl⟩
 obtain⟨n,hn⟩:=lAJ
 have ha:=h.host.addr
 have hls:=fAT (n+1) c.host h.host
 have k0:=uQ (n+3) c.name h.name
 have k2:=fAR (n+3) c.only
 have k3:=uQ (n+3) c.path h.path
 have hl:(Value.agg (uA c)).cells.toList=gA c.name::((cA c.host).toList++ [.bool c.only,gA c.path]):=rfl
 have hlen:((cA c.host).toList++ [Value.bool c.only,gA c.path]).length=20:=by rw[zB4,vE _ ha];rfl
 have ht:=NN ha [Value.bool c.only,gA c.path]
 have hd: ∀k,((cA c.host).toList++ [Value.bool c.only,gA c.path]).drop (18+k)=([Value.bool c.only,gA c.path]:List Value).drop k:=fun k=>by
  rw[<-List.drop_drop,show(18:Nat)=(cA c.host).toList.length from(vE _ ha).symm,List.drop_left]
 have d18:((cA c.host).toList++ [Value.bool c.only,gA c.path]).drop 18= [Value.bool c.only,gA c.path]:=hd 0
 have d19:((cA c.host).toList++ [Value.bool c.only,gA c.path]).drop 19= [gA c.path]:=hd 1
 have hform:(Value.agg (uA c)).formed Tryz.prog 134=true:=by
  simp[Value.formed,hu,WT,FE c ha]
 have hk:Tryz.prog.keyLits (n+4+1) 134 (gA c.name::((cA c.host).toList++ [.bool c.only,gA c.path]))=some (nJ c):=by
  generalize(cA c.host).toList++ [Value.bool c.only,gA c.path]=X at*
  unfold Program.keyLits
  rw[hu]
  simp[WT,VT,bAm,XT,n0,n1,n2,n3,o0,o1,o2,o3,t0,t1,t2,t3,k0,k2,k3,hlen,ht,d18,d19,hls,nJ]
 unfold keyOf
 rw[hu]
 simp only[iAC,hform,Bool.and_self,if_true]
 rw[hn,hl,hk]
 rfl
theorem eAX {a b:bA.Host}(h:cA a=cA b):a=b:=by
 have e:=congrArg Array.toList h
 have e:Value.int .i64 a.kind::gA a.name::a.addr.map BA=Value.int .i64 b.kind::gA b.name::b.addr.map BA:=e
 obtain⟨e0,e⟩:=List.cons.inj e
 obtain⟨e1,e2⟩:=List.cons.inj e
 have e2:a.addr=b.addr:=List.map_inj_right (fun x y hxy=>bA9 hxy)|>.1 e2
 have e0:a.kind=b.kind:=(Value.int.inj e0).2
 have e1:a.name=b.name:=by
  unfold gA at e1
  have:=congrArg (fun b:ByteArray=>b.data.toList) (Value.string.inj e1)
  simpa using this
 cases a;cases b
 simp only at e0 e1 e2
 rw[e0,e1,e2]
theorem IZ {a b:List UInt8}(h:gA a=gA b):a=b:=by
 unfold gA at h
 have:=congrArg (fun b:ByteArray=>b.data.toList) (Value.string.inj h)
 simpa using this
theorem tN {a b:Ma.iA}(ha:wB a)(hb:wB b):iB a=iB b↔Ma.key a b=true:=by
 constructor
 ·intro h
  have e:=YF.inj (RG a ha) (h▸RG b hb)
  have e:uA a=uA b:=Value.agg.inj e
  refine Sh.TM.2 ⟨?_,?_,?_,?_⟩
  ·have:=congrArg (fun c=>c[0]?) e
   simp only[iAB,Option.some.injEq]at this
   exact IZ this
  ·have:=congrArg (fun c=>c.extract 1 19) e
   simp only[BY _ ha.host.addr,BY _ hb.host.addr]at this
   exact eAX this
  ·have:=congrArg (fun c=>c[19]?) e
   simp only[CY _ ha.host.addr,CY _ hb.host.addr,Option.some.injEq,Value.bool.injEq]at this
   exact this
  ·have:=congrArg (fun c=>c[20]?) e
   simp only[DY _ ha.host.addr,DY _ hb.host.addr,Option.some.injEq]at this
   exact IZ this
 ·intro h
  obtain⟨e0,e1,e2,e3⟩:=Sh.TM.1 h
  have e:nJ a=nJ b:=by unfold nJ;rw[e0,e1,e2,e3]
  unfold iB
  rw[e]
theorem WQ {c:Ma.iA}(h:wB c):WideAt.IsKeyLit (iB c):=YF.key (RG c h)
theorem UK {a b:Ma.iA}(ha:wB a)(hb:wB b):(iB a).sameKey (iB b)=Ma.key a b:=by
 rw[Bool.eq_iff_iff,<-tN ha hb]
 exact⟨WideAt.sameKey_eq,fun e=>by rw[e];exact WideAt.sameKey_self (WQ hb)⟩
def BG(v:Value):Option (DataW Value×List MemPlace):=some (.held v,[])
def tE(k:Sh.Kept):Lit×DataW Value:=(iB k.c,.held (.agg (rA k)))
def Apart(L:List Sh.Kept):Prop:=L.Pairwise fun a b=>Ma.key a.c b.c=false
def lC(L:List Sh.Kept):Prop:= ∀k∈L,zI k
def Tied(D:DataW Value)(L:List Sh.Kept):Prop:= ∃es,D= .map es/\es.Perm (L.map tE)
theorem Apart.perm {L L':List Sh.Kept}(h:Apart L)(hp:L.Perm L'):Apart L':=
 (hp.pairwise_iff (fun {a b} h=>by rw[Sh.BE];exact h)).1 h
theorem lC.perm {L L':List Sh.Kept}(h:lC L)(hp:L.Perm L'):lC L':=fun k hk=>h k (hp.mem_iff.2 hk)
theorem cAP {L:List Sh.Kept}(h:Apart L)(ho:lC L):(L.map tE).Pairwise fun p q=>p.1≠q.1:=by
 rw[List.pairwise_map]
 have:L.Pairwise fun a b=>Ma.key a.c b.c=false/\a∈L/\b∈L:=by
  refine List.Pairwise.imp_of_mem ?_ h
  intro a b ha hb hab
  exact⟨hab,ha,hb⟩
 refine this.imp ?_
 rintro a b ⟨hab,ha,hb⟩ e
 have:=(tN (ho a ha).OA (ho b hb).OA).1 e
 rw[hab]at this
 cases this
theorem Tied.apart {D:DataW Value}{L:List Sh.Kept}(h:Tied D L)(ha:Apart L)(ho:lC L): ∃es,D= .map es/\es.Perm (L.map tE)/\es.Pairwise fun p q=>p.1≠q.1:=by
 obtain⟨es,hD,hp⟩:=h
 exact⟨es,hD,hp,(hp.pairwise_iff (fun {a b} h=>Ne.symm h)).2 (cAP ha ho)⟩
theorem Tied.at_ {D:DataW Value}{L:List Sh.Kept}(h:Tied D L)(ha:Apart L)(ho:lC L){k:Sh.Kept}(hk:k∈L)(z:DataW Value):D.atKey (iB k.c) z= .held (.agg (rA k)):=by
 obtain⟨es,rfl,hp,hap⟩:=h.apart ha ho
 exact WideAt.atKey_mem z (WQ (ho k hk).OA) hap (hp.mem_iff.2 (List.mem_map.2 ⟨k,hk,rfl⟩))
theorem Tied.ZV {D:DataW Value}{L:List Sh.Kept}(h:Tied D L)(ho:lC L){c:Ma.iA}(hc:wB c):Maps.has D (iB c)=L.any (Sh.hit c):=by
 obtain⟨es,rfl,hp⟩:=h
 rw[Bool.eq_iff_iff,has_eq,List.any_eq_true,List.any_eq_true]
 constructor
 ·rintro⟨p,hpm,hs⟩
  obtain⟨k,hk,rfl⟩:=List.mem_map.1 (hp.mem_iff.1 hpm)
  exact⟨k,hk,by
   have:(iB k.c).sameKey (iB c)=true:=hs
   rw[UK (ho k hk).OA hc]at this
   exact this⟩
 ·rintro⟨k,hk,hh⟩
  exact⟨tE k,hp.mem_iff.2 (List.mem_map.2 ⟨k,hk,rfl⟩),by
   show(iB k.c).sameKey (iB c)=true
   rw[UK (ho k hk).OA hc];exact hh⟩
theorem Tied.look {D:DataW Value}{L:List Sh.Kept}(h:Tied D L)(ha:Apart L)(ho:lC L){c:Ma.iA}(hc:wB c):
  Maps.has D (iB c)=(L.find? (Sh.hit c)).isSome/\D.atKey (iB c) (.held (.agg (rA Sh.JA)))= .held (.agg (rA ((L.find? (Sh.hit c)).getD Sh.JA))):=by
 have h1:=h.ZV ho hc
 have hf:(L.find? (Sh.hit c)).isSome=L.any (Sh.hit c):=by
  rw[Bool.eq_iff_iff,List.find?_isSome,List.any_eq_true]
 refine⟨by rw[h1,hf],?_⟩
 cases e:L.find? (Sh.hit c)with
 |some k=>
  have hk:=List.mem_of_find?_eq_some e
  have hh:Sh.hit c k=true:=List.find?_some e
  rw[<-(tN (ho k hk).OA hc).2 hh]
  exact h.at_ ha ho hk _
 |none=>
  have h2:Maps.has D (iB c)=false:=by rw[h1,<-hf,e];rfl
  obtain⟨es,rfl,hp⟩:=h
  exact atKey_of_not_has h2 _
theorem iV {L:List Sh.Kept}(ho:lC L){c:Ma.iA}(hc:wB c):(L.map tE).filter (fun p=> !p.1.sameKey (iB c))=(L.filter fun k=> !Sh.hit c k).map tE:=by
 rw[List.filter_map]
 congr 1
 refine List.filter_congr fun k hk=>?_
 show(!(iB k.c).sameKey (iB c))=_
 rw[UK (ho k hk).OA hc]
 rfl
theorem Tied.put {D:DataW Value}{L L':List Sh.Kept}(h:Tied D L)(ho:lC L){c:Ma.iA}(hc:wB c){k:Sh.Kept}(hk:iB k.c=iB c)(hp:L'.Perm (k::L.filter fun k=> !Sh.hit c k)):Tied (D.put (iB c) (.held (.agg (rA k)))) L':=by
 obtain⟨es,rfl,he⟩:=h
 refine⟨_,rfl,?_⟩
 refine(Go.WideShapes.insert_perm _ _).trans (List.Perm.trans ?_ (hp.map tE).symm)
 rw[List.map_cons]
 have e:tE k=(iB c,.held (.agg (rA k))):=by unfold tE;rw[hk]
 rw[e]
 refine List.Perm.cons _ ?_
 rw[<-iV ho hc]
 exact he.filter _
theorem Tied.del {D:DataW Value}{L L':List Sh.Kept}(h:Tied D L)(ho:lC L){c:Ma.iA}(hc:wB c)(hp:L'.Perm (L.filter fun k=> !Sh.hit c k)):Tied (D.del (iB c)) L':=by
 obtain⟨es,rfl,he⟩:=h
 refine⟨_,rfl,?_⟩
 refine List.Perm.trans ?_ (hp.map tE).symm
 rw[<-iV ho hc]
 exact he.filter _
theorem Tied.size {D:DataW Value}{L:List Sh.Kept}(h:Tied D L):Maps.size D=L.length:=by
 obtain⟨es,rfl,hp⟩:=h
 rw[size_eq,hp.length_eq,List.length_map]
theorem iA6 {H:Type}{P:Program}{k:TypeId}{R:Value->Option (DataW H×List MemPlace)}{w:World}{b n:Nat}{D:DataW H}(h:w.ownsMap P k R b n D):w.ownsMap P k R b (Maps.size D) D:=by
 obtain⟨es,clock,hb,F,hs,rfl⟩:=h
 exact⟨es,clock,hb,F,by simp[Maps.size,length_sorted],rfl⟩
def MapAt(w:World)(mb:Nat)(L:List Sh.Kept):Prop:= ∃D,w.ownsMap Tryz.prog 134 BG mb L.length D/\Tied D L
theorem MapAt.of {w:World}{mb n:Nat}{L:List Sh.Kept}{D:DataW Value}(h:w.ownsMap Tryz.prog 134 BG mb n D)(ht:Tied D L):MapAt w mb L:=⟨D,by rw[<-ht.size];exact iA6 h,ht⟩
theorem MapAt.lt {w:World}{mb:Nat}{L:List Sh.Kept}(h:MapAt w mb L):mb<w.heap.size:=by
 obtain⟨D,h1,_⟩:=h
 exact h1.lt
theorem MapAt.kept {w w':World}{mb:Nat}{L:List Sh.Kept}{row:Option Nat}(h:MapAt w mb L)(hg:w.grownBy w' row)(hne:some mb≠row):MapAt w' mb L:=by
 obtain⟨D,h1,h2⟩:=h
 exact⟨D,h1.kept hg hne,h2⟩
theorem below_grown {w w':World}(hb:Below w.heap.size w w'):w.grownBy w' none:=⟨hb.os,hb.tape,hb.output,hb.size,fun i hi _=>hb.block i hi⟩
theorem MapAt.stays {w w':World}{mb:Nat}{L:List Sh.Kept}(h:MapAt w mb L)(hb:Below w.heap.size w w'):MapAt w' mb L:=h.kept (below_grown hb) (by simp)
theorem mAL(w:World):(zeroValue 136).run Tryz.prog w= .ok (.agg (rA Sh.JA)) w:=by kernel_rfl
theorem jAT {w:World}{mb:Nat}{L:List Sh.Kept}(h:MapAt w mb L)(ha:Apart L)(ho:lC L){c:Ma.iA}(hc:wB c):
  (Instr.lookup 99 (.map (some mb)) (.agg (uA c)) true).run Tryz.prog w= .ok (.tuple #[.agg (rA ((L.find? (Sh.hit c)).getD Sh.JA)),.bool (L.find? (Sh.hit c)).isSome]) w:=by
 obtain⟨D,h1,h2⟩:=h
 obtain⟨v,ps,hrun,hv⟩:=h1.look_ok YF Tryz.underlying99 (mAL w) (show BG (.agg (rA Sh.JA))=some (.held (.agg (rA Sh.JA)),[]) from rfl) (RG c hc)
 obtain⟨e1,e2⟩:=h2.look ha ho hc
 rw[e2]at hv
 have hv:v= .agg (rA ((L.find? (Sh.hit c)).getD Sh.JA)):=by
  have:=congrArg Prod.fst (zB2 hv)
  exact DataW.held.inj this
 rw[hrun,hv,e1]
theorem run_store {w:World}{mb:Nat}{L L':List Sh.Kept}(h:MapAt w mb L)(ho:lC L){c:Ma.iA}(hc:wB c){k:Sh.Kept}(hk:Ma.key k.c c=true)(hko:wB k.c)(hp:L'.Perm (k::L.filter fun k=> !Sh.hit c k))(hn:L.length<=1048576):
  ∃w',(Instr.mapUpdate 99 (.map (some mb)) (.agg (uA c)) (.agg (rA k))).run Tryz.prog w= .ok () w'/\MapAt w' mb L'/\w.mapTurned w' mb:=by
 obtain⟨D,h1,h2⟩:=h
 obtain⟨w',r1,r2,r3⟩:=h1.store YF Tryz.underlying99 (by unfold maxLen;omega) (RG c hc) (show BG (.agg (rA k))=some (.held (.agg (rA k)),[]) from rfl)
 exact⟨w',r1,.of r2 (h2.put ho hc ((tN hko hc).2 hk) hp),r3⟩
theorem jAS {w:World}{mb:Nat}{L L':List Sh.Kept}(h:MapAt w mb L)(ho:lC L){c:Ma.iA}(hc:wB c)(hp:L'.Perm (L.filter fun k=> !Sh.hit c k))(ty:TypeId):
  ∃w',(Builtin.delete_ #[99,134] ty #[.map (some mb),.agg (uA c)]).run Tryz.prog w= .ok (.tuple #[]) w'/\MapAt w' mb L'/\w.mapTurned w' mb:=by
 obtain⟨D,h1,h2⟩:=h
 obtain⟨w',r1,r2,r3⟩:=h1.drop YF Tryz.underlying99 (RG c hc) ty
 exact⟨w',r1,.of r2 (h2.del ho hc hp),r3⟩
def xB(w:World)(mb rb n:Nat)(L T:List Sh.Kept):Prop:=
 ∃D left cnt,w.ranges Tryz.prog 134 BG mb rb n D left cnt/\Tied D L/\Apart L/\lC L/\Apart T/\(∀k∈T,k∈L)/\(∀kl,left kl=true-> ∃k∈T,iB k.c=kl)/\ ∀k∈T,left (iB k.c)=true
theorem xB.map {w:World}{mb rb n:Nat}{L T:List Sh.Kept}(h:xB w mb rb n L T):MapAt w mb L:=by
 obtain⟨D,left,cnt,h1,h2,_⟩:=h
 exact .of h1.owns h2
theorem xB.kept {w w':World}{mb rb n:Nat}{L T:List Sh.Kept}{row:Option Nat}(h:xB w mb rb n L T)(hg:w.grownBy w' row)(hm:some mb≠row)(hr:some rb≠row):xB w' mb rb n L T:=by
 obtain⟨D,left,cnt,h1,r⟩:=h
 exact⟨D,left,cnt,h1.kept hg hm hr,r⟩
theorem xB.stays {w w':World}{mb rb n:Nat}{L T:List Sh.Kept}(h:xB w mb rb n L T)(hb:Below w.heap.size w w'):xB w' mb rb n L T:=h.kept (below_grown hb) (by simp) (by simp)
theorem cR {w w':World}{mb rb n:Nat}{L T:List Sh.Kept}{row:Option Nat}(h:xB w mb rb n L T)(hg:w.grownBy w' row)(hm:some mb≠row)(hr:some rb≠row):w'.rangeLeft mb rb=w.rangeLeft mb rb:=by
 obtain⟨D,left,cnt,h1,_⟩:=h
 rw[h1.left_eq,(h1.kept hg hm hr).left_eq]
section
variable {w:World} {ops:Array Oper} {rest:List Oper} {o:Oper} {a:Act} {Q:Exit->Act->World->Prop}
theorem yN(hg:o.guard=none)(m:Operand)(hop:o.op=Op.range 99 m){mb:Nat}{L:List Sh.Kept}(hm:a.eval m= .map (some mb))(h:MapAt w mb L)(ha:Apart L)(ho:lC L)
  (hK: ∀w',xB w' mb w.heap.size L.length L L->w.grownBy w' none->w'.heap.size=w.heap.size+1->wpList Tryz.prog ops Q rest (a.put o.dst (.pointer (some ⟨w.heap.size,0,none⟩))) w'):wpList Tryz.prog ops Q (o::rest) a w:=by
 obtain⟨D,h1,h2⟩:=h
 refine wpList_range_own w hg m 99 hop 134 136 YF Tryz.underlying99 BG mb L.length D hm h1 fun w' r1 r2 r3=>hK w' ⟨D,_,_,r1,h2,ha,ho,ha,fun k hk=>hk,fun kl hkl=>?_,fun k hk=>?_⟩ r2 r3
 ·obtain⟨es,rfl,hp⟩:=h2
  obtain⟨p,hpm,hs⟩:=List.any_eq_true.1 hkl
  obtain⟨k,hk,rfl⟩:=List.mem_map.1 (hp.mem_iff.1 hpm)
  exact⟨k,hk,WideAt.sameKey_eq hs⟩
 ·rw[h2.ZV ho (ho k hk).OA,List.any_eq_true]
  exact⟨k,hk,Ma.kF k.c⟩
theorem iN(hg:o.guard=none)(it:Operand)(hop:o.op=Op.next it false){mb rb n:Nat}{L T:List Sh.Kept}(hit:a.eval it= .pointer (some ⟨rb,0,none⟩))(h:xB w mb rb n L T)
  (hDone:T= []->wpList Tryz.prog ops Q rest (a.put o.dst (.tuple #[.bool false])) w)
  (hMore: ∀(k:Sh.Kept)(T':List Sh.Kept)(w':World),T.Perm (k::T')->xB w' mb rb n L T'->w'.rangeLeft mb rb<w.rangeLeft mb rb->w.grownBy w' (some rb)->w'.heap.size=w.heap.size->
   (Instr.entry (.pointer (some ⟨rb,0,none⟩))).run Tryz.prog w'= .ok (.tuple #[.agg (uA k.c),.agg (rA k)]) w'->wpList Tryz.prog ops Q rest (a.put o.dst (.tuple #[.bool true,.agg (uA k.c),.agg (rA k)])) w'):wpList Tryz.prog ops Q (o::rest) a w:=by
 obtain⟨D,left,cnt,h1,h2,h3,h4,h5,h6,h7,h8⟩:=h
 refine wpList_next_ranges (α:=Value) (β:=Value) w hg it hop 134 YF BG id id (fun key _ _=>⟨key,rfl⟩) (fun v _ _=>⟨v,rfl⟩) mb rb n D left cnt hit h1 (fun _ hl=>hDone ?_) ?_
 ·cases T with
  |nil=>rfl
  |cons k T=>have:=h8 k (by simp);rw[hl]at this;cases this
 ·intro x v kl y w' cnt' hkey hlk hv hat hrg hlt hgr hsz hen
  obtain⟨k,hk,rfl⟩:=h7 kl hlk
  have hko:=(h4 k (h6 k hk)).OA
  have hx:x= .agg (uA k.c):=YF.inj hkey (RG k.c hko)
  have hv:v= .agg (rA k):=by
   have e1:=hat .nil
   rw[h2.at_ h3 h4 (h6 k hk)]at e1
   have e2:=congrArg Prod.fst (zB2 hv)
   rw[<-e1]at e2
   exact DataW.held.inj e2
  have hp:=List.perm_cons_erase hk
  have hap:=h5.perm hp
  obtain⟨p1,p2⟩:=List.pairwise_cons.1 hap
  simp only[id]at hen⊢
  rw[hx,hv]at hen⊢
  refine hMore k (T.erase k) w' hp ⟨D,_,cnt',hrg,h2,h3,h4,p2,fun z hz=>h6 z (List.mem_of_mem_erase hz),fun kl hkl=>?_,fun z hz=>?_⟩ (by rw[hrg.left_eq,h1.left_eq];exact hlt) hgr hsz hen
  ·simp only[Bool.and_eq_true,Bool.not_eq_true']at hkl
   obtain⟨z,hz,rfl⟩:=h7 kl hkl.1
   refine⟨z,?_,rfl⟩
   rcases List.mem_cons.1 (hp.mem_iff.1 hz)with e|e
   ·rw[e,WideAt.sameKey_self (WQ hko)]at hkl
    cases hkl.2
   ·exact e
  ·have hzo:=(h4 z (h6 z (List.mem_of_mem_erase hz))).OA
   show(left (iB z.c)&& !(iB z.c).sameKey (iB k.c))=true
   rw[h8 z (List.mem_of_mem_erase hz),UK hzo hko,Sh.BE,p1 z hz]
   rfl
end
theorem xB.drop {w:World}{mb rb n:Nat}{L T L':List Sh.Kept}(h:xB w mb rb n L T){k:Sh.Kept}(hk:k∈L)(hp:L.Perm (k::L'))(hT: ∀z∈T,Ma.key z.c k.c=false)(ty:TypeId):
  ∃w',(Builtin.delete_ #[99,134] ty #[.map (some mb),.agg (uA k.c)]).run Tryz.prog w= .ok (.tuple #[]) w'/\xB w' mb rb n L' T/\w'.rangeLeft mb rb<=w.rangeLeft mb rb/\w.mapTurned w' mb:=by
 obtain⟨D,left,cnt,h1,h2,h3,h4,h5,h6,h7,h8⟩:=h
 have hko:=(h4 k hk).OA
 obtain⟨w',cnt',r1,r2,r3,r4⟩:=h1.drop YF Tryz.underlying99 (RG k.c hko) ty
 have hap:=h3.perm hp
 have hao:=h4.perm hp
 obtain⟨p1,p2⟩:=List.pairwise_cons.1 hap
 have hf:L'.Perm (L.filter fun z=> !Sh.hit k.c z):=by
  refine List.Perm.trans ?_ (hp.filter _).symm
  have e1:(!Sh.hit k.c k)=false:=by unfold Sh.hit;rw[Ma.kF];rfl
  rw[List.filter_cons_of_neg (by rw[e1];simp)]
  rw[List.filter_eq_self.2]
  intro z hz
  show(!Ma.key z.c k.c)=true
  rw[Sh.BE,p1 z hz]
  rfl
 refine⟨w',r1,⟨D.del (iB k.c),_,cnt',r2,h2.del h4 hko hf,p2,fun z hz=>hao z (by simp[hz]),h5,fun z hz=>?_,fun kl hkl=>?_,fun z hz=>?_⟩,by rw[r2.left_eq,h1.left_eq];exact r3,r4⟩
 ·rcases List.mem_cons.1 (hp.mem_iff.1 (h6 z hz))with e|e
  ·have:=hT z hz
   rw[e,Ma.kF]at this
   cases this
  ·exact e
 ·simp only[Bool.and_eq_true]at hkl
  exact h7 kl hkl.1
 ·show(left (iB z.c)&& !(iB z.c).sameKey (iB k.c))=true
  rw[h8 z hz,UK (h4 z (h6 z hz)).OA hko,hT z hz]
  rfl
end Go.Proofs.YtdaaoopkkhfbhaaGreatDoor
