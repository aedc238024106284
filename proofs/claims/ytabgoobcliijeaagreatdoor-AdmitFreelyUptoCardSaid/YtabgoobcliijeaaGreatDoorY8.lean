/- Lists of rules as the reader of a call's arguments has them: taken apart, and read again behind the call. -/
import Derived.Test.YtabgoobcliijeaaGreatDoorY7
import Derived.Deep.SlicePairs
import Derived.Carry
import Derived.Deep.Strs
import Derived.Test.YtabgoobcliijeaaGreatDoorY3
set_option maxHeartbeats 8000000
set_option maxRecDepth 100000
namespace Go.Proofs.YtabgoobcliijeaaGreatDoor
open Go.ChangeShapes Go.WideShapes Go.ChangeAt Go.WideMaps Go.WideElems Go.RowKit Go.Deep
section
variable {H:Type} {enc:TypeId×Value->H} {w:World}
def aAu:Value->Int| .int _ z=>z|_=>0
def yW:Value->List UInt8| .string s=>s.data.toList|_=> []
theorem bR {r:Reach}{b0:Nat}{v:Value}{d:DataW H}{p:List MemPlace}(hv:Value.okWide Tryz.prog w r b0 43 v)(h:DataW.Trod enc Tryz.prog w 0 (fun _=>true) true 43 v d p):
  ∃rs:List Ru.Rule,ZD w v rs/\rs.length<=maxLen/\ ∀r∈rs,r.name.length<=maxLen:=by
 obtain⟨f0,f1,hu,⟨o0,o1⟩,t0,t1⟩: ∃f0 f1,Tryz.prog.underlying 26=some (.struct #[f0,f1])/\(f0.offset=0/\f1.offset=1)/\f0.type=3/\f1.type=9:=
  ⟨_,_,Tryz.underlying26,⟨rfl,rfl⟩,rfl,rfl⟩
 obtain⟨a0,len,cap,rfl⟩:=okWide_slice Tryz.underlying43 hv
 obtain⟨fuel,hf⟩:=h
 rcases open_slice_pairs Tryz.underlying43 hu (by kernel_rfl) o0 o1 (by rw[t0];kernel_rfl) (by rw[t1];kernel_rfl) hf with⟨hcs,_⟩|⟨a,len',cap',m,n,V0,V1,D0,D1,P0,P1,hcs,_,hl,hm,hmm,_,hall⟩
 ·simp[Value.cells]at hcs
  obtain⟨rfl,rfl,rfl⟩:=hcs
  exact⟨[],⟨none,0,rfl,fun h=>absurd h (by simp)⟩,Nat.zero_le _,by simp⟩
 ·simp[Value.cells]at hcs
  obtain⟨rfl,rfl,rfl⟩:=hcs
  simp only[if_true]at hmm
  rw[hmm]at hall
  have key: ∀i,i<len->w.cell? (a.add (i*2))=some (.int .i64 (aAu (V0 i)))/\w.cell? (a.add (i*2+1))=some (lA (yW (V1 i)))/\(yW (V1 i)).length<=maxLen:=by
   intro i hi
   obtain⟨c0,c1,r0,r1⟩:=hall i (by omega)
   rw[t0]at r0
   rw[t1]at r1
   obtain⟨z,e0,_,_⟩:=DataW.trod_int Tryz.underlying3 r0
   obtain⟨s,e1,_,hs⟩:=DataW.trod_string Tryz.underlying9 r1
   obtain e0:=(List.cons.inj e0).1
   obtain e1:=(List.cons.inj e1).1
   rw[c0,c1,e0,e1]
   refine⟨rfl,?_,?_⟩
   ·show some (Value.string s)=some (Value.string ⟨s.data.toList.toArray⟩)
    congr
   ·show s.data.toList.length<=maxLen
    simpa using hs
  let R:Nat->Ru.Rule:=fun i=>⟨aAu (V0 i),yW (V1 i)⟩
  have hat: ∀k r,((List.range len).map R)[k]? =some r->k<len/\r=R k:=by
   intro k r hk
   obtain⟨h1,h2⟩:=List.getElem?_eq_some_iff.1 hk
   simp at h1 h2
   exact⟨h1,h2.symm⟩
  refine⟨(List.range len).map R,⟨some a,cap,by simp,fun h0=>?_⟩,?_,?_⟩
  ·have h0:0<len:=by simpa using h0
   have hc0:=(key 0 h0).1
   obtain⟨g,off,spot⟩:=a
   have hsp:spot=none:=by
    have:=World.cell?_spot hc0
    unfold Addr.add at this
    split at this<;>simp_all
   subst hsp
   refine⟨g,off,rfl,?_,by simpa using hl,fun k r hk=>?_⟩
   ·have:=by first|exact World.block_lt_of_cell? w hc0|exact World.block_lt_of_cell? w _ hc0
    rwa [add_plain]at this
   ·obtain⟨h1,rfl⟩:=hat k r hk
    obtain⟨k1,k2,_⟩:=key k h1
    rw[add_plain]at k1 k2
    exact⟨k1,k2⟩
  ·simp;omega
  ·intro r hr
   obtain⟨k,hk⟩:=List.getElem?_of_mem hr
   obtain⟨h1,rfl⟩:=hat k r hk
   exact(key k h1).2.2
theorem qR {w':World}{v:Value}{d:DataW H}{p:List MemPlace}(h:DataW.Trod enc Tryz.prog w 0 (fun _=>true) true 43 v d p)(hb:Below w.heap.size w w'):
  DataW.Trod enc Tryz.prog w' 0 (fun b=>decide (b<w.heap.size)) true 43 v d p:=
 Below.trod (by kernel_rfl) (by kernel_rfl) (zB1 (by kernel_rfl)) h hb (by obtain⟨fuel,hf⟩:=h;exact DataW.trod_lt _ _ _ _ hf)
end
end Go.Proofs.YtabgoobcliijeaaGreatDoor
namespace Go.Proofs.YtabgoobcliijeaaGreatDoor
open Go.ChangeShapes Go.WideShapes Go.ChangeAt Go.WideMaps Go.WideElems Go.RowKit Go.Deep
section
variable {H:Type} {enc:TypeId×Value->H} {P:Program} {w:World} {base:Nat} {spare:Nat->Bool} {held:Bool}
theorem lAq {t e:TypeId}{n:Nat}{k:IntKind}{fuel:Nat}{cs:List Value}{y:DataW H×List MemPlace}(ht:P.underlying t=some (.array n e))(he:P.underlying e=some (.int k))(hce:P.cellsOf e=1)(hct:P.cellsOf t=n)
  (hf:DataW.trod enc P w base spare held fuel t cs=some y):
  ∃zs:List Int,zs.length=n/\cs=(zs.map fun z=>Value.int k z)/\y=(.agg (zs.map fun z=> .lit (.int k z)),[])/\ ∀z∈zs,(Lit.int k z).wf=true:=by
 obtain⟨xs,m,_,hx,hlen,hxl,hat⟩:=DataW.trod_array ht hf
 rw[hce]at hat
 rw[hct]at hlen
 have key: ∀i,i<n-> ∃z,cs[i]? =some (Value.int k z)/\xs[i]? =some (.lit (.int k z),[])/\(Lit.int k z).wf=true:=by
  intro i hi
  have h1:=hat i hi
  have hlt:i<xs.length:=by omega
  rw[List.getElem?_eq_getElem hlt]at h1
  obtain⟨z,e1,e2,e3⟩:=DataW.trod_int he h1
  refine⟨z,?_,by rw[List.getElem?_eq_getElem hlt,e2],e3⟩
  have h0:=congrArg (fun l=>l[0]?) e1
  simp only[Nat.mul_one]at h0
  rw[List.getElem?_take_of_lt (by omega),List.getElem?_drop]at h0
  simpa using h0
 let num:Value->Int:=fun v=>match v with| .int _ z=>z|_=>0
 have hzs: ∀i,i<n-> ∃z,(cs.map num)[i]? =some z/\cs[i]? =some (Value.int k z)/\xs[i]? =some (.lit (.int k z),[])/\(Lit.int k z).wf=true:=by
  intro i hi
  obtain⟨z,e1,e2,e3⟩:=key i hi
  exact⟨z,by rw[List.getElem?_map,e1];rfl,e1,e2,e3⟩
 refine⟨cs.map num,by rw[List.length_map,hlen],?_,?_,?_⟩
 ·apply List.ext_getElem?
  intro i
  by_cases hi:i<n
  ·obtain⟨z,e0,e1,_,_⟩:=hzs i hi
   rw[List.getElem?_map,e0,e1];rfl
  ·rw[List.getElem?_eq_none (by omega),List.getElem?_eq_none (by simp;omega)]
 ·rw[hx]
  refine Prod.ext ?_ ?_
  ·show DataW.agg _=DataW.agg _
   congr 1
   apply List.ext_getElem?
   intro i
   by_cases hi:i<n
   ·obtain⟨z,e0,_,e2,_⟩:=hzs i hi
    rw[List.getElem?_map,List.getElem?_map,e2,e0];rfl
   ·rw[List.getElem?_eq_none (by simp;omega),List.getElem?_eq_none (by simp;omega)]
  ·show List.flatMap _ _= []
   rw[List.flatMap_eq_nil_iff]
   intro x hxm
   obtain⟨i,hi,e1⟩:=List.getElem_of_mem hxm
   obtain⟨z,_,_,e2,_⟩:=hzs i (by omega)
   rw[List.getElem?_eq_getElem hi,e1]at e2
   rw[zB2 e2]
 ·intro z hz
  obtain⟨i,hi,e1⟩:=List.getElem_of_mem hz
  obtain⟨z',e0,_,_,e3⟩:=hzs i (by simp at hi;omega)
  rw[List.getElem?_eq_getElem hi,e1]at e0
  rw[zB2 e0];exact e3
theorem dAy: ∀ {zs:List Int},(∀z∈zs,(Lit.int .u8 z).wf=true)-> ∃l:List UInt8,zs=l.map fun c=>(c.toNat:Int)
 | [],_=>⟨[],rfl⟩
 |z::zs,h=>by
  obtain⟨l,rfl⟩:=dAy (zs:=zs) fun y hy=>h y (by simp[hy])
  obtain⟨c,rfl⟩:=byte_of (h z (by simp))
  exact⟨c::l,rfl⟩
def QN(x:dA.Host):DataW H:= .agg [.lit (.int .i64 x.kind),.lit (.string x.name),.agg ((x.addr.map fun c=>(c.toNat:Int)).map fun z=> .lit (.int .u8 z))]
theorem pAc {α:Type}{l:List α}(h:l.length=18){a b:α}{r:List α}(h0:(l.drop 0).take 1= [a])(h1:(l.drop 1).take 1= [b])(h2:(l.drop 2).take 16=r):l=a::b::r:=by
 match l,h with
 |x::y::t,h=>
  simp at h0 h1 h2
  rw[List.take_of_length_le (by simp at h;omega)]at h2
  rw[h0,h1,h2]
theorem aAa: ∃f0 f1 f2,Tryz.prog.underlying 31=some (.struct #[f0,f1,f2])/\(f0.offset=0/\f1.offset=1/\f2.offset=2)/\f0.type=3/\f1.type=9/\f2.type=29:=
 ⟨_,_,_,Tryz.underlying31,⟨rfl,rfl,rfl⟩,rfl,rfl,rfl⟩
theorem oF:Tryz.prog.cellsOf 9=1:=by kernel_rfl
theorem IP:Tryz.prog.cellsOf 29=16:=by kernel_rfl
theorem cellsByte:Tryz.prog.cellsOf 5=1:=by kernel_rfl
theorem JP:Tryz.prog.cellsOf 31=18:=by kernel_rfl
theorem nAZ {x:dA.Host}(ha:x.addr.length=16)(wk:(Lit.int .i64 x.kind).wf=true)(wn:x.name.length<=maxLen):
  DataW.Trod enc Tryz.prog w base spare held 31 (.agg (fA x)) (QN x) []:=by
 obtain⟨f0,f1,f2,hs,⟨o0,o1,o2⟩,t0,t1,t2⟩:=aAa
 obtain⟨m0,g0⟩:=shut_int (enc:=enc) (P:=Tryz.prog) (w:=w) (base:=base) (spare:=spare) (held:=held) Tryz.underlying3 wk
 obtain⟨m1,g1⟩:=Go.ChangeMaps.shut_string (enc:=enc) (P:=Tryz.prog) (w:=w) (base:=base) (sp:=spare) (held:=held) (s:=⟨x.name.toArray⟩) Tryz.underlying9 (Nat.le_trans (Nat.le_of_eq (List.size_toArray ..)) wn)
 have hz: ∀z∈ (x.addr.map fun c=>(c.toNat:Int)),(Lit.int .u8 z).wf=true:=by
  intro z hz
  obtain⟨c,_,rfl⟩:=List.mem_map.1 hz
  have:=c.toNat_lt
  simp only[Lit.wf,Bool.and_eq_true,decide_eq_true_eq]
  exact⟨by show(0:Int)<=_;omega,by show _<=(255:Int);omega⟩
 obtain⟨m2,g2⟩:=oA1 (enc:=enc) (P:=Tryz.prog) (w:=w) (base:=base) (spare:=spare) (held:=held) Tryz.underlying29 Tryz.underlying5 cellsByte IP (zs:=x.addr.map fun c=>(c.toNat:Int)) (by rw[List.length_map,ha]) hz
 have hc:(Value.agg (fA x)).cells.toList=Value.int .i64 x.kind::lA x.name::x.addr.map OA:=rfl
 have hlen:(Value.int .i64 x.kind::lA x.name::x.addr.map OA).length=Tryz.prog.cellsOf 31:=by
  rw[JP,zB5,zB5,List.length_map,ha]
 refine⟨max m0 (max m1 m2)+1,?_⟩
 rw[hc]
 refine trod_struct3_mk (y0:=(.lit (.int .i64 x.kind),[])) (y1:=(.lit (.string x.name),[])) (y2:=(.agg ((x.addr.map fun c=>(c.toNat:Int)).map fun z=> .lit (.int .u8 z)),[])) hs hlen ?_ ?_ ?_
 ·rw[o0,t0,LJ]
  exact DataW.trod_le (by omega) g0
 ·rw[o1,t1,oF]
  exact DataW.trod_le (by omega) g1
 ·rw[o2,t2,IP]
  have e:((Value.int .i64 x.kind::lA x.name::x.addr.map OA).drop 2).take 16=x.addr.map OA:=by
   show(x.addr.map OA).take 16=_
   rw[List.take_of_length_le (by rw[List.length_map,ha];exact zB3 _)]
  rw[e]
  have g3:(Value.agg ((x.addr.map fun c=>(c.toNat:Int)).map fun z=>Value.int .u8 z).toArray).cells.toList=x.addr.map OA:=by
   show((x.addr.map fun c=>(c.toNat:Int)).map fun z=>Value.int .u8 z)=_
   rw[List.map_map];rfl
  rw[g3]at g2
  exact DataW.trod_le (by omega) g2
end
end Go.Proofs.YtabgoobcliijeaaGreatDoor
namespace Go.Proofs.YtabgoobcliijeaaGreatDoor
open Go.RowKit
def pA(u:Ur.URL):Array Value:=(Value.bool u.secure::Value.int .i64 u.host.kind::lA u.host.name::(u.host.addr.map OA++ [Value.int .i64 u.port,lA u.path])).toArray
theorem aC(u:Ur.URL)(ha:u.host.addr.length=16):(pA u).size=21:=by simp[pA,ha]
theorem kE(u:Ur.URL):(pA u).all (·.oneCell')=true:=by simp[pA,OA,lA,Value.oneCell']
theorem pAR(u:Ur.URL):(pA u)[0]? =some (.bool u.secure):=rfl
theorem NR(u:Ur.URL)(ha:u.host.addr.length=16):(pA u)[19]? =some (.int .i64 u.port):=by
 unfold pA
 rw[List.getElem?_toArray]
 show(u.host.addr.map OA++ [Value.int .i64 u.port,lA u.path])[16]? =_
 rw[List.getElem?_append_right (by simp[ha])]
 simp[ha]
theorem vI(u:Ur.URL)(ha:u.host.addr.length=16):(pA u)[20]? =some (lA u.path):=by
 unfold pA
 rw[List.getElem?_toArray]
 show(u.host.addr.map OA++ [Value.int .i64 u.port,lA u.path])[17]? =_
 rw[List.getElem?_append_right (by simp[ha])]
 simp[ha]
theorem gG(u:Ur.URL)(ha:u.host.addr.length=16):(pA u).extract 1 19=fA u.host:=by
 apply Array.ext'
 rw[Array.toList_extract]
 unfold pA fA
 have e:List.take 16 (List.map OA u.host.addr++ [Value.int .i64 u.port,lA u.path])=List.map OA u.host.addr:=by
  rw[List.take_append_of_le_length (by simp[ha]),List.take_of_length_le (by simp[ha])]
 simp[List.extract,e]
theorem qB:(Tryz.prog.info? 33).map (·.size)=some 21:=by kernel_rfl
theorem iJ: #[Value.bool false,.int .i64 0,.string ⟨#[]⟩,.int .u8 0,.int .u8 0,.int .u8 0,.int .u8 0,.int .u8 0,.int .u8 0,.int .u8 0,.int .u8 0,.int .u8 0,.int .u8 0,.int .u8 0,.int .u8 0,.int .u8 0,.int .u8 0,.int .u8 0,.int .u8 0,.int .i64 0,.string ⟨#[]⟩]=pA Ur.zero:=by rfl
theorem fAG:Tryz.prog.built 33 []=some (pA Ur.zero):=by kernel_rfl
theorem nAA {P:Program}{W:World}{t:TypeId}{fs:Array Field}{i:TypeInfo}{xs:Array Value}{off:Nat}(ht:P.underlying t=some (.struct fs))(hi:P.info? t=some i):(part t xs off).run P W= .ok (.agg (xs.extract off (off+P.cellsOf t))) W:=by
 have hs:=run_sizeOf (w:=W) hi
 simp[part,isAgg,run_underlying ht,hs]
theorem hAk(h g:dA.Host)(hh:h.addr.length=16)(hg:g.addr.length=16)(d:Nat)(W:World):
  (Op.equalIn (d+3) 31 (.agg (fA h)) (.agg (fA g))).run Tryz.prog W= .ok (decide (h=g)) W:=by
 obtain⟨ie,hie⟩:=aAq
 obtain⟨ia,hia⟩:=aAr
 obtain⟨f0,f1,f2,hf⟩: ∃f0 f1 f2,Tryz.prog.underlying 31=some (.struct #[f0,f1,f2])/\(f0.name≠ "_" /\f1.name≠ "_" /\f2.name≠ "_")/\(f0.offset=0/\f1.offset=1/\f2.offset=2)/\f0.type=3/\f1.type=9/\f2.type=29:=
  ⟨_,_,_,Tryz.underlying31,⟨by decide,by decide,by decide⟩,⟨rfl,rfl,rfl⟩,rfl,rfl,rfl⟩
 obtain⟨hu,⟨n0,n1,n2⟩,⟨o0,o1,o2⟩,t0,t1,t2⟩:=hf
 have hl:Tryz.prog.fieldsOf 31= #[f0,f1,f2]:=by unfold Program.fieldsOf;rw[hu]
 rw[run_equalIn_struct W (d+2) 31 _ _ (by rw[hl];exact hu) (by kernel_rfl),hl]
 exact J1 n0 n1 n2 o0 o1 o2 (by rw[t0];exact Tryz.underlying3) (by rw[t1];exact Tryz.underlying9) (by rw[t2];exact Tryz.underlying29) Tryz.underlying5
  (by rw[t0];kernel_rfl) (by rw[t1];kernel_rfl) (by kernel_rfl) (by rw[t2];exact hia) hie (by kernel_rfl) (by rw[t2];kernel_rfl) h g hh hg d W
theorem jAO: ∃i,Tryz.prog.info? 31=some i:=Option.isSome_iff_exists.1 (by kernel_rfl)
theorem fAQ:Tryz.prog.cellsOf 31=18:=by kernel_rfl
def iP(o:Int×Ur.URL)(w:World)(e:Ending)(w':World):Prop:=e= .returned (.tuple #[.agg (pA o.2),.int .i64 o.1])/\Below w.heap.size w w'
end Go.Proofs.YtabgoobcliijeaaGreatDoor
namespace Go.Proofs.YtabgoobcliijeaaGreatDoor
open Go.ChangeShapes Go.WideShapes Go.ChangeAt Go.WideMaps Go.WideElems Go.RowKit Go.Deep
section
variable {H:Type} {enc:TypeId×Value->H} {w:World} {base:Nat} {spare:Nat->Bool} {held:Bool}
theorem lAy {fuel:Nat}{cs:List Value}{y:DataW H×List MemPlace}(hf:DataW.trod enc Tryz.prog w base spare held fuel 31 cs=some y):
  ∃x:dA.Host,x.addr.length=16/\cs=(fA x).toList/\y=(QN x,[])/\(Lit.int .i64 x.kind).wf=true/\x.name.length<=maxLen:=by
 obtain⟨f0,f1,f2,hs,⟨o0,o1,o2⟩,t0,t1,t2⟩:=aAa
 obtain⟨y0,y1,y2,n,hx,hl,h0,h1,h2⟩:=trod_struct3 hs hf
 rw[o0,t0,LJ]at h0
 rw[o1,t1,oF]at h1
 rw[o2,t2,IP]at h2
 obtain⟨k,e0,rfl,wk⟩:=DataW.trod_int Tryz.underlying3 h0
 obtain⟨s,e1,rfl,ws⟩:=DataW.trod_string Tryz.underlying9 h1
 obtain⟨zs,hzl,e2,rfl,wz⟩:=lAq Tryz.underlying29 Tryz.underlying5 cellsByte IP h2
 obtain⟨l,rfl⟩:=dAy wz
 rw[List.length_map]at hzl
 rw[JP]at hl
 have he:=pAc hl e0 e1 e2
 refine⟨⟨k,s.data.toList,l⟩,hzl,?_,?_,wk,?_⟩
 ·rw[he]
  show _=Value.int .i64 k::lA s.data.toList::l.map OA
  rw[List.map_map];rfl
 ·rw[hx];rfl
 ·show s.data.toList.length<=maxLen
  rw[Oct.nA];exact ws
theorem oA0 {x:dA.Host}(ha:x.addr.length=16)(wk:(Lit.int .i64 x.kind).wf=true)(wn:x.name.length<=maxLen):
  ∃m,DataW.trod enc Tryz.prog w base spare held m 31 (fA x).toList=some (QN x,[]):=
 nAZ (enc:=enc) (w:=w) (base:=base) (spare:=spare) (held:=held) ha wk wn
def dAA(u:Ur.URL):DataW H:= .agg [.lit (.bool u.secure),QN u.host,.lit (.int .i64 u.port),.lit (.string u.path)]
theorem hAX {α:Type}{l:List α}(h:l.length=21){a c d:α}{r:List α}(h0:(l.drop 0).take 1= [a])(h1:(l.drop 1).take 18=r)(h2:(l.drop 19).take 1= [c])(h3:(l.drop 20).take 1= [d]):l=a::(r++ [c,d]):=by
 match l,h with
 | [x0,x1,x2,x3,x4,x5,x6,x7,x8,x9,x10,wK,xK,yK,zK,AK,x16,x17,x18,x19,x20],_=>
  simp at h0 h1 h2 h3
  subst h0;subst h1;subst h2;subst h3;rfl
theorem trod_struct4 {t:TypeId}{f0 f1 f2 f3:Field}{fuel:Nat}{cs:List Value}{x:DataW H×List MemPlace}(ht:Tryz.prog.underlying t=some (.struct #[f0,f1,f2,f3]))(h:DataW.trod enc Tryz.prog w base spare held fuel t cs=some x):
  ∃y0 y1 y2 y3 n,x=(.agg [y0.1,y1.1,y2.1,y3.1],y0.2++(y1.2++(y2.2++y3.2)))/\cs.length=Tryz.prog.cellsOf t/\DataW.trod enc Tryz.prog w base spare held n f0.type ((cs.drop f0.offset).take (Tryz.prog.cellsOf f0.type))=some y0/\
   DataW.trod enc Tryz.prog w base spare held n f1.type ((cs.drop f1.offset).take (Tryz.prog.cellsOf f1.type))=some y1/\DataW.trod enc Tryz.prog w base spare held n f2.type ((cs.drop f2.offset).take (Tryz.prog.cellsOf f2.type))=some y2/\
   DataW.trod enc Tryz.prog w base spare held n f3.type ((cs.drop f3.offset).take (Tryz.prog.cellsOf f3.type))=some y3:=by
 obtain⟨xs,n,_,rfl,hl,hlen,hf⟩:=DataW.trod_struct ht h
 match xs,hlen with
 | [y0,y1,y2,y3],_=>exact⟨y0,y1,y2,y3,n,by simp,hl,by simpa using hf 0 f0 rfl,by simpa using hf 1 f1 rfl,by simpa using hf 2 f2 rfl,by simpa using hf 3 f3 rfl⟩
theorem trod_struct4_mk {t:TypeId}{f0 f1 f2 f3:Field}{n:Nat}{cs:List Value}{y0 y1 y2 y3:DataW H×List MemPlace}(ht:Tryz.prog.underlying t=some (.struct #[f0,f1,f2,f3]))(hl:cs.length=Tryz.prog.cellsOf t)
  (h0:DataW.trod enc Tryz.prog w base spare held n f0.type ((cs.drop f0.offset).take (Tryz.prog.cellsOf f0.type))=some y0)
  (h1:DataW.trod enc Tryz.prog w base spare held n f1.type ((cs.drop f1.offset).take (Tryz.prog.cellsOf f1.type))=some y1)
  (h2:DataW.trod enc Tryz.prog w base spare held n f2.type ((cs.drop f2.offset).take (Tryz.prog.cellsOf f2.type))=some y2)
  (h3:DataW.trod enc Tryz.prog w base spare held n f3.type ((cs.drop f3.offset).take (Tryz.prog.cellsOf f3.type))=some y3):
  DataW.trod enc Tryz.prog w base spare held (n+1) t cs=some (.agg [y0.1,y1.1,y2.1,y3.1],y0.2++(y1.2++(y2.2++y3.2))):=by
 have:=trod_struct_mk (enc:=enc) (w:=w) (base:=base) (spare:=spare) (held:=held) (n:=n) (xs:= [y0,y1,y2,y3]) ht hl (by simp[h0,h1,h2,h3])
 simpa using this
theorem dAB: ∃f0 f1 f2 f3,Tryz.prog.underlying 33=some (.struct #[f0,f1,f2,f3])/\(f0.offset=0/\f1.offset=1/\f2.offset=19/\f3.offset=20)/\f0.type=4/\f1.type=31/\f2.type=3/\f3.type=9:=
 ⟨_,_,_,_,Tryz.underlying33,⟨rfl,rfl,rfl,rfl⟩,rfl,rfl,rfl,rfl⟩
theorem iH:Tryz.prog.cellsOf 4=1:=by kernel_rfl
theorem bZ:Tryz.prog.cellsOf 33=21:=by kernel_rfl
theorem lAz {r:Reach}{b0:Nat}{v:Value}{d:DataW H}{p:List MemPlace}(hv:Value.okWide Tryz.prog w r b0 33 v)(h:DataW.Trod enc Tryz.prog w base spare held 33 v d p):
  ∃x:Ur.URL,x.host.addr.length=16/\v= .agg (pA x)/\d=dAA x/\p= []/\((Lit.int .i64 x.host.kind).wf=true/\x.host.name.length<=maxLen)/\(Lit.int .i64 x.port).wf=true/\x.path.length<=maxLen:=by
 obtain⟨f0,f1,f2,f3,hs,⟨o0,o1,o2,o3⟩,t0,t1,t2,t3⟩:=dAB
 obtain⟨cs,rfl,hsz⟩:=okWide_struct hs hv
 obtain⟨fuel,hf⟩:=h
 obtain⟨y0,y1,y2,y3,n,hx,hl,h0,h1,h2,h3⟩:=trod_struct4 hs hf
 rw[o0,t0,iH]at h0
 rw[o1,t1,JP]at h1
 rw[o2,t2,LJ]at h2
 rw[o3,t3,oF]at h3
 obtain⟨b,e0,rfl⟩:=DataW.trod_bool Tryz.underlying4 h0
 obtain⟨x,ha,e1,rfl,wk,wn⟩:=lAy h1
 obtain⟨k,e2,rfl,wp⟩:=DataW.trod_int Tryz.underlying3 h2
 obtain⟨s,e3,rfl,ws⟩:=DataW.trod_string Tryz.underlying9 h3
 rw[bZ]at hl
 have hc:(Value.agg cs).cells.toList=cs.toList:=rfl
 rw[hc]at hl e0 e1 e2 e3
 have he:=hAX hl e0 e1 e2 e3
 simp only[Prod.mk.injEq]at hx
 refine⟨⟨b,x,k,s.data.toList⟩,ha,?_,hx.1,?_,⟨wk,wn⟩,wp,?_⟩
 ·congr 1
  apply Array.ext'
  rw[he];rfl
 ·rw[hx.2];rfl
 ·show s.data.toList.length<=maxLen
  rw[Oct.nA];exact ws
theorem oA2 {x:Ur.URL}(ha:x.host.addr.length=16)(wh:(Lit.int .i64 x.host.kind).wf=true/\x.host.name.length<=maxLen)(wp:(Lit.int .i64 x.port).wf=true)(ws:x.path.length<=maxLen):
  DataW.Trod enc Tryz.prog w base spare held 33 (.agg (pA x)) (dAA x) []:=by
 obtain⟨f0,f1,f2,f3,hs,⟨o0,o1,o2,o3⟩,t0,t1,t2,t3⟩:=dAB
 obtain⟨m0,g0⟩:=shut_bool (enc:=enc) (P:=Tryz.prog) (w:=w) (base:=base) (spare:=spare) (held:=held) Tryz.underlying4 x.secure
 obtain⟨m1,g1⟩:=oA0 (enc:=enc) (w:=w) (base:=base) (spare:=spare) (held:=held) ha wh.1 wh.2
 obtain⟨m2,g2⟩:=shut_int (enc:=enc) (P:=Tryz.prog) (w:=w) (base:=base) (spare:=spare) (held:=held) Tryz.underlying3 wp
 obtain⟨m3,g3⟩:=Go.ChangeMaps.shut_string (enc:=enc) (P:=Tryz.prog) (w:=w) (base:=base) (sp:=spare) (held:=held) (s:=⟨x.path.toArray⟩) Tryz.underlying9 (Nat.le_trans (Nat.le_of_eq (List.size_toArray ..)) ws)
 have hc:(Value.agg (pA x)).cells.toList=Value.bool x.secure::((fA x.host).toList++ [Value.int .i64 x.port,lA x.path]):=rfl
 have jA4:(fA x.host).toList.length=18:=by rw[Array.length_toList,QA x.host ha]
 have hlen:(Value.bool x.secure::((fA x.host).toList++ [Value.int .i64 x.port,lA x.path])).length=Tryz.prog.cellsOf 33:=by
  rw[bZ,zB5,zB4,jA4];rfl
 refine⟨max (max m0 m1) (max m2 m3)+1,?_⟩
 rw[hc]
 refine trod_struct4_mk (y0:=(.lit (.bool x.secure),[])) (y1:=(QN x.host,[])) (y2:=(.lit (.int .i64 x.port),[])) (y3:=(.lit (.string x.path),[])) hs hlen ?_ ?_ ?_ ?_
 ·rw[o0,t0,iH]
  exact DataW.trod_le (by omega) g0
 ·rw[o1,t1,JP]
  have e:((Value.bool x.secure::((fA x.host).toList++ [Value.int .i64 x.port,lA x.path])).drop 1).take 18=(fA x.host).toList:=by
   show((fA x.host).toList++ [Value.int .i64 x.port,lA x.path]).take 18=_
   rw[List.take_append_of_le_length (by omega),List.take_of_length_le (by omega)]
  rw[e]
  exact DataW.trod_le (by omega) g1
 ·rw[o2,t2,LJ]
  have e:((Value.bool x.secure::((fA x.host).toList++ [Value.int .i64 x.port,lA x.path])).drop 19).take 1= [Value.int .i64 x.port]:=by
   show(((fA x.host).toList++ [Value.int .i64 x.port,lA x.path]).drop 18).take 1=_
   rw[List.drop_append_of_le_length (by omega),List.drop_of_length_le (by omega)];rfl
  rw[e]
  exact DataW.trod_le (by omega) g2
 ·rw[o3,t3,oF]
  have e:((Value.bool x.secure::((fA x.host).toList++ [Value.int .i64 x.port,lA x.path])).drop 20).take 1= [lA x.path]:=by
   show(((fA x.host).toList++ [Value.int .i64 x.port,lA x.path]).drop 19).take 1=_
   have e2:(19:Nat)=(fA x.host).toList.length+1:=by omega
   rw[e2,<-List.drop_drop,List.drop_left];rfl
  rw[e]
  exact DataW.trod_le (by omega) g3
end
end Go.Proofs.YtabgoobcliijeaaGreatDoor
namespace Go.Proofs.YtabgoobcliijeaaGreatDoor
namespace Ma
structure bB where
 name:List UInt8
 value:List UInt8
 host:dA.Host
 only:Bool
 path:List UInt8
 secure:Bool
 http:Bool
 same:Int
 expires:Int
 born:Int
 used:Int
 seq:Int
 deriving DecidableEq
structure Request where
 secure:Bool
 host:dA.Host
 path:List UInt8
 cross:Int
 deriving DecidableEq
def domain(h d:dA.Host):Bool:=dA.can h&&dA.can d&& (decide (h=d)||dA.under h d)
def edge(p f:List UInt8):Bool:=decide (p[f.length]? =some 47)||decide (f.getLast?=some 47)
def path(p f:List UInt8):Bool:=decide (p=f)||(decide (f.length<p.length)&&decide (p.take f.length=f)&&edge p f)
theorem lAX(p f:List UInt8):path p f=true↔p=f\/ ∃c r,p=f++c::r/\(c=47\/f.getLast?=some 47):=by
 unfold path edge
 simp only[Bool.or_eq_true,Bool.and_eq_true,decide_eq_true_eq]
 constructor
 ·rintro(h|⟨⟨h1,h2⟩,h3⟩)
  ·exact .inl h
  ·right
   have e:p=f++p.drop f.length:=by
    have:=List.take_append_drop f.length p
    rw[h2]at this;exact this.symm
   cases ed:p.drop f.length with
   |nil=>
    have:=congrArg List.length ed
    rw[List.length_drop,List.length_nil]at this
    omega
   |cons c r=>
    rw[ed]at e
    refine⟨c,r,e,h3.imp (fun k=>?_) id⟩
    rw[e,List.getElem?_append_right (zB3 _),Nat.sub_self]at k
    exact zB2 k
 ·rintro(h|⟨c,r,rfl,h3⟩)
  ·exact .inl h
  ·right
   refine⟨⟨by rw[zB4,zB5];omega,List.take_left⟩,h3.imp (fun k=>?_) id⟩
   rw[List.getElem?_append_right (zB3 _),Nat.sub_self,k];rfl
theorem bAS(p:List UInt8):path p p=true:=(lAX p p).2 (.inl rfl)
def vB(p:List UInt8):List UInt8:=((p.reverse.dropWhile (fun c=>decide (c≠47))).drop 1).reverse
def default(p:List UInt8):List UInt8:=if p.head?=some 47/\vB p≠ []then vB p else [47]
theorem XZ: ∀ {l:List UInt8},(47:UInt8)∈l-> ∃a r,l=a++47::r/\(∀c∈a,c≠47)/\l.dropWhile (fun c=>decide (c≠47))=47::r
 | [],h=>by cases h
 |x::l,h=>by
  by_cases k:x=47
  ·subst k
   exact⟨[],l,rfl,(by intro c hc;cases hc),by rw[List.dropWhile_cons_of_neg (by simp)]⟩
  ·obtain⟨a,r,h1,h2,h3⟩:=XZ (l:=l) ((List.mem_cons.1 h).resolve_left (fun e=>k e.symm))
   refine⟨x::a,r,by rw[h1];rfl,?_,by rw[List.dropWhile_cons_of_pos (by simp[k])];exact h3⟩
   intro c hc
   rcases List.mem_cons.1 hc with e|e
   ·rw[e];exact k
   ·exact h2 c e
theorem AT {p:List UInt8}(h:(47:UInt8)∈p): ∃r,p=vB p++47::r/\ ∀c∈r,c≠47:=by
 obtain⟨a,r,h1,h2,h3⟩:=XZ (l:=p.reverse) (List.mem_reverse.2 h)
 refine⟨a.reverse,?_,fun c hc=>h2 c (List.mem_reverse.1 hc)⟩
 unfold vB
 rw[h3,List.drop_one,List.tail_cons]
 have e:=congrArg List.reverse h1
 rw[List.reverse_reverse]at e
 rw[e];simp
theorem zT {a r:List UInt8}(h: ∀c∈r,c≠47):vB (a++47::r)=a:=by
 unfold vB
 rw[List.reverse_append,List.reverse_cons,List.append_assoc,List.dropWhile_append_of_pos (fun c hc=>by simp[h c (List.mem_reverse.1 hc)])]
 simp
theorem gAQ(p:List UInt8):(default p).head?=some 47:=by
 unfold default
 split
 ·rename_i h
  obtain⟨h1,h2⟩:=h
  obtain⟨r,e,_⟩:=AT (p:=p) (List.mem_of_mem_head? h1)
  cases ec:vB p with
  |nil=>exact absurd ec h2
  |cons x q=>rw[e,ec,List.cons_append]at h1;exact h1
 ·rfl
theorem gAR {p:List UInt8}(h:p.head?=some 47):(default p).length<=p.length:=by
 unfold default
 split
 ·obtain⟨r,e,_⟩:=AT (p:=p) (List.mem_of_mem_head? h)
  have:=congrArg List.length e
  rw[zB4,zB5]at this
  omega
 ·cases p with
  |nil=>cases h
  |cons x q=>simp
def rN(same cross:Int):Bool:=decide (cross=0)||(decide (cross=1)&& !decide (same=3))||(decide (cross=2)&&decide (same=1))
def sends(c:bB)(r:Request)(now:Int):Bool:=
 ((decide (r.host=c.host)&&dA.can r.host)||(!c.only&&domain r.host c.host))&&path r.path c.path&& (!c.secure||r.secure)&&rN c.same r.cross&&decide (now<c.expires)
theorem TZ(h:dA.Host):domain h h=dA.can h:=by
 unfold domain
 rw[zA9 (show h=h from rfl)]
 cases dA.can h<;>rfl
theorem gAX {h d:dA.Host}(k:domain h d=true):dA.can h=true:=by
 unfold domain at k
 simp only[Bool.and_eq_true]at k
 exact k.1.1
theorem sends_iff(c:bB)(r:Request)(now:Int):sends c r now=true↔
  (c.only=true->c.host=r.host)/\domain r.host c.host=true/\path r.path c.path=true/\(c.secure=true->r.secure=true)/\now<c.expires/\rN c.same r.cross=true:=by
 unfold sends
 simp only[Bool.and_eq_true,Bool.or_eq_true,decide_eq_true_eq,Bool.not_eq_true']
 constructor
 ·rintro⟨⟨⟨⟨h1,h2⟩,h3⟩,h4⟩,h5⟩
  refine⟨?_,?_,h2,?_,h5,h4⟩
  ·intro ho
   rcases h1 with⟨e,_⟩|⟨e,_⟩
   ·exact e.symm
   ·rw[ho]at e;cases e
  ·rcases h1 with⟨e,k⟩|⟨_,k⟩
   ·rw[e,TZ,<-e];exact k
   ·exact k
  ·intro hs
   rcases h3 with e|e
   ·rw[hs]at e;cases e
   ·exact e
 ·rintro⟨h1,h2,h3,h4,h5,h6⟩
  refine⟨⟨⟨⟨?_,h3⟩,?_⟩,h6⟩,h5⟩
  ·cases ho:c.only with
   |true=>exact .inl ⟨(h1 ho).symm,gAX h2⟩
   |false=>exact .inr ⟨rfl,h2⟩
  ·cases hs:c.secure with
   |true=>exact .inr (h4 hs)
   |false=>exact .inl rfl
def key(a b:bB):Bool:=decide (a.name=b.name)&&decide (a.host=b.host)&&decide (a.only=b.only)&&decide (a.path=b.path)
end Ma
end Go.Proofs.YtabgoobcliijeaaGreatDoor
namespace Go.Proofs.YtabgoobcliijeaaGreatDoor
open Go.RowKit
def gA(c:Ma.bB):Array Value:=(lA c.name::lA c.value::((fA c.host).toList++ [.bool c.only,lA c.path,.bool c.secure,.bool c.http,.int .i64 c.same,.int .i64 c.expires,.int .i64 c.born,.int .i64 c.used,.int .i64 c.seq])).toArray
def tC(r:Ma.Request):Array Value:=(Value.bool r.secure::((fA r.host).toList++ [lA r.path,.int .i64 r.cross])).toArray
theorem eI(h:dA.Host)(ha:h.addr.length=16):(fA h).toList.length=18:=by rw[Array.length_toList,QA h ha]
theorem OY {h:dA.Host}(ha:h.addr.length=16)(t:List Value)(i:Nat):((fA h).toList++t)[18+i]? =t[i]? :=by
 rw[List.getElem?_append_right (by rw[eI h ha];omega),eI h ha]
 congr 1;omega
theorem dAa {h:dA.Host}(ha:h.addr.length=16)(t:List Value):((fA h).toList++t).take 18=(fA h).toList:=by
 rw[List.take_append_of_le_length (by rw[eI h ha];exact zB3 _),List.take_of_length_le (by rw[eI h ha];exact zB3 _)]
theorem GD(c:Ma.bB)(ha:c.host.addr.length=16):(gA c).size=29:=by
 unfold gA
 rw[List.size_toArray,zB5,zB5,zB4,eI _ ha];rfl
theorem cW(r:Ma.Request)(ha:r.host.addr.length=16):(tC r).size=21:=by
 unfold tC
 rw[List.size_toArray,zB5,zB4,eI _ ha];rfl
theorem aA9(h:dA.Host): ∀v∈ (fA h).toList,v.oneCell'=true:=fun v hv=>Array.all_eq_true'.1 (aB h) v (Array.mem_toList_iff.1 hv)
theorem zE(c:Ma.bB):(gA c).all (·.oneCell')=true:=by
 rw[Array.all_eq_true']
 intro v hv
 unfold gA at hv
 rw[List.mem_toArray]at hv
 simp only[List.mem_cons,List.mem_append,List.not_mem_nil,or_false]at hv
 rcases hv with rfl|rfl|hv|rfl|rfl|rfl|rfl|rfl|rfl|rfl|rfl|rfl
 ·rfl
 ·rfl
 ·exact aA9 _ v hv
 all_goals rfl
theorem nAc(r:Ma.Request):(tC r).all (·.oneCell')=true:=by
 rw[Array.all_eq_true']
 intro v hv
 unfold tC at hv
 rw[List.mem_toArray]at hv
 simp only[List.mem_cons,List.mem_append,List.not_mem_nil,or_false]at hv
 rcases hv with rfl|hv|rfl|rfl
 ·rfl
 ·exact aA9 _ v hv
 all_goals rfl
section
variable (c:Ma.bB) (ha:c.host.addr.length=16)
include ha
theorem YH(i:Nat):(gA c)[20+i]? =([.bool c.only,lA c.path,.bool c.secure,.bool c.http,.int .i64 c.same,.int .i64 c.expires,.int .i64 c.born,.int .i64 c.used,.int .i64 c.seq]:List Value)[i]? :=by
 unfold gA
 rw[List.getElem?_toArray,show 20+i=(18+i)+1+1 by omega,List.getElem?_cons_succ,List.getElem?_cons_succ]
 exact OY ha _ i
theorem aL:(gA c)[20]? =some (.bool c.only):=YH c ha 0
theorem bL:(gA c)[21]? =some (lA c.path):=YH c ha 1
theorem NP:(gA c)[22]? =some (.bool c.secure):=YH c ha 2
theorem gAd:(gA c)[23]? =some (.bool c.http):=YH c ha 3
theorem wT:(gA c)[24]? =some (.int .i64 c.same):=YH c ha 4
theorem ZK:(gA c)[25]? =some (.int .i64 c.expires):=YH c ha 5
theorem gAc:(gA c)[26]? =some (.int .i64 c.born):=YH c ha 6
theorem gAi:(gA c)[27]? =some (.int .i64 c.used):=YH c ha 7
theorem gAe:(gA c)[28]? =some (.int .i64 c.seq):=YH c ha 8
theorem MP:(gA c).extract 2 20=fA c.host:=by
 apply Array.ext'
 rw[Array.toList_extract]
 unfold gA
 show List.take 18 ((fA c.host).toList++_)=_
 exact dAa ha _
end
theorem uT(c:Ma.bB):(gA c)[0]? =some (lA c.name):=rfl
theorem iZ(c:Ma.bB):(gA c)[1]? =some (lA c.value):=rfl
section
variable (r:Ma.Request) (ha:r.host.addr.length=16)
include ha
theorem cAz(i:Nat):(tC r)[19+i]? =([lA r.path,.int .i64 r.cross]:List Value)[i]? :=by
 unfold tC
 rw[List.getElem?_toArray,show 19+i=(18+i)+1 by omega,List.getElem?_cons_succ]
 exact OY ha _ i
theorem nAd:(tC r)[19]? =some (lA r.path):=cAz r ha 0
theorem nAa:(tC r)[20]? =some (.int .i64 r.cross):=cAz r ha 1
theorem nAb:(tC r).extract 1 19=fA r.host:=by
 apply Array.ext'
 rw[Array.toList_extract]
 unfold tC
 show List.take 18 ((fA r.host).toList++_)=_
 exact dAa ha _
end
theorem nAe(r:Ma.Request):(tC r)[0]? =some (.bool r.secure):=rfl
theorem rD:(Tryz.prog.info? 39).map (·.size)=some 29:=by kernel_rfl
theorem jAN:(Tryz.prog.info? 53).map (·.size)=some 21:=by kernel_rfl
end Go.Proofs.YtabgoobcliijeaaGreatDoor
namespace Go.Proofs.YtabgoobcliijeaaGreatDoor
open Go.ChangeShapes Go.WideShapes Go.ChangeAt Go.WideMaps Go.WideElems Go.RowKit Go.Deep
section
variable {H:Type} {enc:TypeId×Value->H} {w:World} {base:Nat} {spare:Nat->Bool} {held:Bool}
theorem KP:Tryz.prog.cellsOf 2=1:=by kernel_rfl
end
end Go.Proofs.YtabgoobcliijeaaGreatDoor
namespace Go.Proofs.YtabgoobcliijeaaGreatDoor
open Go.RowKit
def CF(gp:Nat)(ps:List (List UInt8))(w:World):Prop:= ∃sl,Row w gp 27 #[sl]/\w.ownsRow (gp+1) 9 1 sl ps.length (ps.map lA)
theorem CF.stays {gp:Nat}{ps:List (List UInt8)}{w w':World}(h:CF gp ps w)(hb:Below w.heap.size w w'):CF gp ps w':=by
 obtain⟨sl,R,O⟩:=h
 exact⟨sl,R.stays hb,NG O hb⟩
def oP(gp:Nat)(ps:List (List UInt8))(w:World)(e:Ending)(w':World):Prop:=e= .returned (.tuple #[])/\CF gp ps w'/\Below gp w w'
theorem NV {gp g cap:Nat}{ps:List (List UInt8)}{x:List UInt8}{X:ByteArray}{sl:Value}{w w6:World}(hXv: [Value.string X]= [x].map lA)(_hgp:gp<w.heap.size)(R6:Row w6 gp 27 #[sl])
  (O6:w6.ownsRow (gp+1) 9 1 (.slice (some ⟨g,0,none⟩) (ps.length+1) cap) (ps.length+1) (ps.map lA++ [Value.string X]))(B6:Below gp w w6):
  oP gp (ps++ [x]) w (.returned (.tuple #[])) (w6.setCell ⟨gp,0,none⟩ (.slice (some ⟨g,0,none⟩) (ps.length+1) cap)):=by
 have hg:gp+1<=g:=(O6.lt g rfl).1
 refine⟨rfl,⟨_,R6.set 0 _,?_⟩,B6.setCell (p:=⟨gp,0,none⟩) (zB3 _) _⟩
 have O7:=QL O6 (p:=⟨gp,0,none⟩) (by show some g≠some gp;intro e;have:=zB2 e;omega) (.slice (some ⟨g,0,none⟩) (ps.length+1) cap)
 rw[hXv,<-List.map_append]at O7
 rw[zB4]
 exact O7
theorem cA0(b:Bool)(xs ps:List (List UInt8))(bp gp:Nat)(w:World)(hP:CF gp ps w)(hx:Row w bp 9 (GA xs))(hn:xs.length<=1000)(hj:(Lib.join xs [61]).length<=1048576)(hps:ps.length<=1000):
  Calls Tryz.prog 118 #[.bool b,.slice (some ⟨bp,0,none⟩) xs.length xs.length,.pointer (some ⟨gp,0,none⟩)] w (oP gp (if b=true then ps++ [Lib.join xs [61]]else ps) w):=by
 cases b with
 |false=>
  rw[if_neg (by simp)]
  go_enter Tryz.func118,Tryz.ntmps118
  go_wp2
  go_end0
  exact⟨rfl,hP,Below.refl _ _⟩
 |true=>
  rw[if_pos rfl]
  obtain⟨sl,R,O⟩:=hP
  have hlt:=R.lt
  obtain⟨i0,hi,hz0,hz1,hz2⟩:=info_parts UU
  have HJ:Hid (∀W,Below w.heap.size w W->Calls Tryz.prog 119 #[.slice (some ⟨bp,0,none⟩) xs.length xs.length,.string ⟨#[61]⟩] W fun e w'=>e= .returned (.string ⟨(Lib.join xs [61]).toArray⟩)/\Below W.heap.size W w'):=zA7 (fun W hb=>by
   have R2:=hx.stays hb
   have e1:((xs.map fun p=>(⟨p.toArray⟩:ByteArray)).map (·.data.toList))=xs:=by rw[List.map_map];exact List.map_id xs
   have e2:(⟨#[61]⟩:ByteArray).data.toList= [61]:=rfl
   have h:=Tryz.strings_Join bp 0 xs.length (xs.map fun p=>⟨p.toArray⟩) ⟨#[61]⟩ W (fun j x DG=>by
    rw[Nat.zero_add,R2.cell,eJ]
    rw[List.getElem?_map]at DG
    cases hp:xs[j]? with
    |none=>rw[hp]at DG;cases DG
    |some p=>rw[hp]at DG;rw[<-zB2 DG];rfl) R2.lt (by rw[List.length_map];omega) (by rw[List.length_map];exact zB3 _) (by rw[e1,e2];omega)
   rw[List.length_map,e1,e2]at h
   exact h)
  clear hx
  generalize Lib.join xs [61]=x at*
  have oS:Hid (Calls Tryz.prog 119 #[.slice (some ⟨bp,0,none⟩) xs.length xs.length,.string ⟨#[61]⟩] w.drew fun e w'=>e= .returned (.string ⟨x.toArray⟩)/\Below w.heap.size w w'):=zA7 ((HJ.out w.drew (Below.refl _ _).drew).mono fun e w' ⟨h1,h2⟩=>⟨h1,(Below.refl _ w).drew.trans h2⟩)
  clear HJ
  have q0:w.cell? ⟨gp,0,none⟩=some sl:=R.cell 0
  obtain⟨X,hX⟩: ∃X:ByteArray,(⟨x.toArray⟩:ByteArray)=X:=⟨_,rfl⟩
  have US:Hid ([Value.string X]= [x].map lA):=zA7 (by rw[<-hX];rfl)
  rw[hX]at oS
  clear hX
  go_enter Tryz.func118,Tryz.ntmps118
  go_wp2_with fail
  have JN:gp<w.heap.size:=hlt
  refine wp_region_held_drew (S:=fun _=>True) (by kernel_rfl) trivial (fun _=>?_)
  refine mA (i:=1) rfl ?_
  refine wpAnyH_ready (rs:= [0,2]) (by kernel_rfl) (by simp) (AllReadyH.cons rfl (fun K hK=>?_) (AllReadyH.cons rfl (fun K hK=>?_) AllReadyH.nil))
  ·rw[if_pos (by rfl)]
   go_simp
   refine hK.out _ _ trivial (fun _=>?_)
   clear hK K
   refine yA (i:=2) fun K hK=>?_
   go_simp
   refine oS.out.mono ?_
   rintro e w4 ⟨rfl,VH⟩
   have R4:=R.stays VH
   have O4:=NG O VH
   have q4:w4.cell? ⟨gp,0,none⟩=some sl:=R4.cell 0
   have R5:=R4.alloc (.cells #[Value.string X] 9)
   have O5:=O4.alloc (.cells #[Value.string X] 9)
   have q5:(w4.alloc (.cells #[Value.string X] 9)).cell? ⟨gp,0,none⟩=some sl:=R5.cell 0
   have B5:=VH.alloc VH.size (.cells #[Value.string X] 9)
   go_wp2_with fail
   refine hK.out _ _ trivial (fun _=>?_)
   clear hK K
   refine yA (i:=3) fun K hK=>?_
   go_simp
   refine hK.out _ _ trivial (fun _=>?_)
   clear hK K
   refine wpAnyH_ready (rs:= [4]) (by kernel_rfl) (by simp) (AllReadyH.cons rfl (fun K hK=>?_) AllReadyH.nil)
   refine step_append_lies _ (by rfl) _ _ _ (by rfl) (gp+1) 9 i0 _ 1 16 Tryz.underlying27 hi hz0 hz1 hz2 rfl (by omega) _ _ _ (by rfl) O5 ⟨w4.heap.size,0,none⟩ 1 1 [Value.string X] (by rfl) (by rfl) (World.news_of_block (t:=9) (fr:=(0,0)) (heap_alloc_new w4 _)) (by simp[Value.oneCell']) (by omega) (by simp only[maxLen];omega) (by omega) (by have:=R5.lt;omega) (w4.heap.size+1) (by simp) ?_
   intro g cap w6 O6 hgrow hat aA8
   have hne:some gp≠sl.ownBlock:=fun e=>by have:=(O5.lt gp e.symm).1;omega
   have R6:Row w6 gp 27 #[sl]:=(hgrow.block gp R5.lt hne).trans R5
   have B6:Below gp w w6:=(B5.mono (Nat.le_of_lt hlt)).grown hgrow (by have:=R5.lt;omega) (fun k hk=>by have:=(O5.lt k hk).1;omega)
   have q6:w6.cell? ⟨gp,0,none⟩=some sl:=R6.cell 0
   have f6:w6.frozen? ⟨gp,0,none⟩=false:=R6.free 0
   refine hK.out _ _ trivial (fun _=>?_)
   clear hK K
   refine yA (i:=5) fun K hK=>?_
   go_simp
   refine hK.out _ _ trivial (fun _=>?_)
   clear hK K
   refine wpAnyH_done (by kernel_rfl) ?_ _
   have hF:=NV US.out JN R6 O6 B6
   clear O6 hgrow R6 B6 O5 R5 B5 R4 O4 q4 q5 q6 f6
   go_wp2
   go_end0
   exact hF
  ·rw[if_pos (by rfl)]
   go_simp
   refine oS.out.mono ?_
   rintro e w4 ⟨rfl,VH⟩
   have R4:=R.stays VH
   have O4:=NG O VH
   have q4:w4.cell? ⟨gp,0,none⟩=some sl:=R4.cell 0
   have R5:=R4.alloc (.cells #[Value.string X] 9)
   have O5:=O4.alloc (.cells #[Value.string X] 9)
   have q5:(w4.alloc (.cells #[Value.string X] 9)).cell? ⟨gp,0,none⟩=some sl:=R5.cell 0
   have B5:=VH.alloc VH.size (.cells #[Value.string X] 9)
   go_wp2_with fail
   refine hK.out _ _ trivial (fun _=>?_)
   clear hK K
   refine wpAnyH_ready (rs:= [0,3]) (by kernel_rfl) (by simp) (AllReadyH.cons rfl (fun K hK=>?_) (AllReadyH.cons rfl (fun K hK=>?_) AllReadyH.nil))
   ·rw[if_pos (by rfl)]
    go_simp
    refine hK.out _ _ trivial (fun _=>?_)
    clear hK K
    refine yA (i:=3) fun K hK=>?_
    go_simp
    refine hK.out _ _ trivial (fun _=>?_)
    clear hK K
    refine wpAnyH_ready (rs:= [4]) (by kernel_rfl) (by simp) (AllReadyH.cons rfl (fun K hK=>?_) AllReadyH.nil)
    refine step_append_lies _ (by rfl) _ _ _ (by rfl) (gp+1) 9 i0 _ 1 16 Tryz.underlying27 hi hz0 hz1 hz2 rfl (by omega) _ _ _ (by rfl) O5 ⟨w4.heap.size,0,none⟩ 1 1 [Value.string X] (by rfl) (by rfl) (World.news_of_block (t:=9) (fr:=(0,0)) (heap_alloc_new w4 _)) (by simp[Value.oneCell']) (by omega) (by simp only[maxLen];omega) (by omega) (by have:=R5.lt;omega) (w4.heap.size+1) (by simp) ?_
    intro g cap w6 O6 hgrow hat aA8
    have hne:some gp≠sl.ownBlock:=fun e=>by have:=(O5.lt gp e.symm).1;omega
    have R6:Row w6 gp 27 #[sl]:=(hgrow.block gp R5.lt hne).trans R5
    have B6:Below gp w w6:=(B5.mono (Nat.le_of_lt hlt)).grown hgrow (by have:=R5.lt;omega) (fun k hk=>by have:=(O5.lt k hk).1;omega)
    have q6:w6.cell? ⟨gp,0,none⟩=some sl:=R6.cell 0
    have f6:w6.frozen? ⟨gp,0,none⟩=false:=R6.free 0
    refine hK.out _ _ trivial (fun _=>?_)
    clear hK K
    refine yA (i:=5) fun K hK=>?_
    go_simp
    refine hK.out _ _ trivial (fun _=>?_)
    clear hK K
    refine wpAnyH_done (by kernel_rfl) ?_ _
    have hF:=NV US.out JN R6 O6 B6
    clear O6 hgrow R6 B6 O5 R5 B5 R4 O4 q4 q5 q6 f6
    go_wp2
    go_end0
    exact hF
   ·rw[if_pos (by rfl)]
    go_simp
    refine hK.out _ _ trivial (fun _=>?_)
    clear hK K
    refine yA (i:=0) fun K hK=>?_
    go_simp
    refine hK.out _ _ trivial (fun _=>?_)
    clear hK K
    refine wpAnyH_ready (rs:= [4]) (by kernel_rfl) (by simp) (AllReadyH.cons rfl (fun K hK=>?_) AllReadyH.nil)
    refine step_append_lies _ (by rfl) _ _ _ (by rfl) (gp+1) 9 i0 _ 1 16 Tryz.underlying27 hi hz0 hz1 hz2 rfl (by omega) _ _ _ (by rfl) O5 ⟨w4.heap.size,0,none⟩ 1 1 [Value.string X] (by rfl) (by rfl) (World.news_of_block (t:=9) (fr:=(0,0)) (heap_alloc_new w4 _)) (by simp[Value.oneCell']) (by omega) (by simp only[maxLen];omega) (by omega) (by have:=R5.lt;omega) (w4.heap.size+1) (by simp) ?_
    intro g cap w6 O6 hgrow hat aA8
    have hne:some gp≠sl.ownBlock:=fun e=>by have:=(O5.lt gp e.symm).1;omega
    have R6:Row w6 gp 27 #[sl]:=(hgrow.block gp R5.lt hne).trans R5
    have B6:Below gp w w6:=(B5.mono (Nat.le_of_lt hlt)).grown hgrow (by have:=R5.lt;omega) (fun k hk=>by have:=(O5.lt k hk).1;omega)
    have q6:w6.cell? ⟨gp,0,none⟩=some sl:=R6.cell 0
    have f6:w6.frozen? ⟨gp,0,none⟩=false:=R6.free 0
    refine hK.out _ _ trivial (fun _=>?_)
    clear hK K
    refine yA (i:=5) fun K hK=>?_
    go_simp
    refine hK.out _ _ trivial (fun _=>?_)
    clear hK K
    refine wpAnyH_done (by kernel_rfl) ?_ _
    have hF:=NV US.out JN R6 O6 B6
    clear O6 hgrow R6 B6 O5 R5 B5 R4 O4 q4 q5 q6 f6
    go_wp2
    go_end0
    exact hF
end Go.Proofs.YtabgoobcliijeaaGreatDoor
namespace Go.Proofs.YtabgoobcliijeaaGreatDoor
open Go.RowKit
theorem jAo(s:ByteArray)(c:UInt8)(w:World):
  Calls Tryz.prog 182 #[.string s,.string ⟨#[c]⟩] w fun e w'=>e= .returned (.int .i64 (Lib.indexByte s.data.toList c))/\w'=w:=
 Any.stringslite_Index_one {Tryz.lays145 with} s c w
theorem jAD(s:ByteArray)(c:UInt8):Lib.indexByte s.data.toList c=Lib.indexB s ⟨#[c]⟩:=by
 show _=Lib.index s.data.toList [c]
 rw[Lib.index_one]
def kG(s:ByteArray)(c:UInt8)(w:World)(e:Ending)(w':World):Prop:=e= .returned (.tuple #[.string ⟨(Lib.cut s.data.toList [c]).1.toArray⟩,.string ⟨(Lib.cut s.data.toList [c]).2.1.toArray⟩,.bool (Lib.cut s.data.toList [c]).2.2])/\Below w.heap.size w w'
theorem yZ {s a b:ByteArray}{c:UInt8}{x:Bool}{w w':World}(ha:(⟨(Lib.cut s.data.toList [c]).1.toArray⟩:ByteArray)=a)(hb:(⟨(Lib.cut s.data.toList [c]).2.1.toArray⟩:ByteArray)=b)(hx:(Lib.cut s.data.toList [c]).2.2=x)(h:Below w.heap.size w w'):
  kG s c w (.returned (.tuple #[.string a,.string b,.bool x])) w':=by
 subst ha hb hx
 exact⟨rfl,h⟩
theorem kAs(s:ByteArray)(c:UInt8)(w:World)(hs:s.size<=maxLen):
  Calls Tryz.prog 148 #[.string s,.string ⟨#[c]⟩] w (kG s c w):=by
 unfold maxLen at hs
 have HI:=zA7 (fun W=>jAo s c W)
 have HE:=zA7 (jAD s c)
 have hsz:(⟨#[c]⟩:ByteArray).size=1:=rfl
 rcases Lib.indexB_cases s ⟨#[c]⟩with hix|⟨i,hix,hroom⟩
 ·obtain⟨e1,e2,e3⟩:=Lib.cutB_miss s ⟨#[c]⟩ hix
  have HQ:Hid (∀w',Below w.heap.size w w'->kG s c w (.returned (.tuple #[.string s,.string ByteArray.empty,.bool false])) w'):=zA7 (fun w' h=>yZ e1 e2 e3 h)
  rw[HE.out,hix]at HI
  clear e1 e2 e3 hix HE
  generalize kG s c w=post at*
  go_enter Tryz.func148,Tryz.ntmps148
  go_wp2_with (go_at_call 182;refine(HI.out _).mono ?_;rintro e w' ⟨rfl,rfl⟩)
  have h:=HQ.out _ (Below.refl _ _)
  first|exact h|(go_ret3;exact h)
 ·obtain⟨e1,e2,e3⟩:=Lib.cutB_hit s ⟨#[c]⟩ i hix
  rw[hsz]at hroom e2
  have HQ:Hid (∀w',Below w.heap.size w w'->kG s c w (.returned (.tuple #[.string (s.extract 0 i),.string (s.extract (i+1) s.size),.bool true])) w'):=zA7 (fun w' h=>yZ e1 e2 e3 h)
  rw[HE.out,hix]at HI
  have c1:(0:Int)<= ↑i:=by omega
  have c2:(↑i:Int)<= ↑s.size:=by omega
  have c3:(0:Int)<= ↑i+1:=by omega
  have c4:(↑i+1:Int)<= ↑s.size:=by omega
  clear e1 e2 e3 hix HE
  generalize kG s c w=post at*
  go_enter Tryz.func148,Tryz.ntmps148
  go_wp2_with (go_at_call 182;refine(HI.out _).mono ?_;rintro e w' ⟨rfl,rfl⟩)
  go_region
  go_wp2
  have h:=HQ.out _ (Below.refl _ _).drew
  first|exact h|(go_ret3;exact h)
theorem DT(s:ByteArray)(c:UInt8)(w:World)(hs:s.size<=maxLen):
  Calls Tryz.prog 114 #[.string s,.string ⟨#[c]⟩] w (kG s c w):=by
 have HI:=zA7 (fun W=>kAs s c W hs)
 unfold kG at HI⊢
 generalize(Lib.cut s.data.toList [c]).1=a at*
 generalize(Lib.cut s.data.toList [c]).2.1=b at*
 generalize(Lib.cut s.data.toList [c]).2.2=x at*
 go_enter Tryz.func114,Tryz.ntmps114
 go_wp2_with (go_at_call 148;refine(HI.out _).mono ?_;rintro e w1 ⟨rfl,b1⟩)
 first|exact⟨rfl,b1⟩|(go_ret3;exact⟨rfl,b1⟩)
end Go.Proofs.YtabgoobcliijeaaGreatDoor
namespace Go.Proofs.YtabgoobcliijeaaGreatDoor
open Go.RowKit
theorem iAC(s:ByteArray)(w:World)(hs:s.size<=maxLen):
  Calls Tryz.prog 113 #[.string s] w fun e w'=>e= .returned (.bool (s.data.toList.any Hd.kD))/\w=w':=by
 unfold maxLen at hs
 obtain⟨B,hB⟩: ∃B,s.data.toList.any Hd.kD=B:=⟨_,rfl⟩
 rw[hB]
 have yI:=zA7 hB
 clear hB
 go_enter Tryz.func113,Tryz.ntmps113
 go_wp2
 go_loop [7] (fun i=> ∃k:Nat,k<=s.size/\i= .int .i64 k/\(s.data.toList.take k).any Hd.kD=false) (fun i=>s.size- (intOf i).toNat)
 case atStart=>exact⟨0,Nat.zero_le _,rfl,by simp⟩
 case round=>
  obtain⟨k,hk,rfl,hall⟩:=hrel
  have HA:=zA7 hall
  clear hall
  by_cases hlt:k<s.size
  ·have hl:k<s.data.toList.length:=by rw[Oct.nA];exact hlt
   have HT:=zA7 (Oct.fG s k hlt)
   have HB:=zA7 (show Hd.kD s[k]=true->B=true from fun h=>yI.out▸List.any_eq_true.2 ⟨s[k],by rw[<-Oct.TF s k hlt];exact List.getElem_mem hl,h⟩)
   have HN:=zA7 (show Hd.kD s[k]=false->(s.data.toList.take (k+1)).any Hd.kD=false from fun h=>by rw[HT.out,List.any_append,HA.out,List.any_cons,h];rfl)
   have hbd:Hd.kD s[k]=decide (s[k].toNat<=8\/(10<=s[k].toNat/\s[k].toNat<=31)\/s[k].toNat=127):=rfl
   have HD:=zA7 hbd
   clear hbd HT HA
   have hor:((s[k].toNat:Int)<32/\((s[k].toNat:Int) !=9)=true)\/(¬(s[k].toNat:Int)<32/\((s[k].toNat:Int)==127)=true)\/(¬(s[k].toNat:Int)<32/\((s[k].toNat:Int)==127)=false)\/((s[k].toNat:Int)<32/\((s[k].toNat:Int) !=9)=false/\((s[k].toNat:Int)==127)=false):=by
    by_cases h1:(s[k].toNat:Int)<32
    ·by_cases h2:s[k].toNat=9
     ·exact .inr (.inr (.inr ⟨h1,by rw[h2];rfl,by rw[h2];rfl⟩))
     ·exact .inl ⟨h1,by rw[bne_iff_ne];omega⟩
    ·by_cases h2:s[k].toNat=127
     ·exact .inr (.inl ⟨h1,by rw[h2];rfl⟩)
     ·exact .inr (.inr (.inl ⟨h1,by rw[beq_eq_false_iff_ne];omega⟩))
   rcases hor with⟨h1,h2⟩|⟨h1,h2⟩|⟨h1,h2⟩|⟨h1,h2,h3⟩
   ·have HR:=zA7 (HB.out (by rw[HD.out];rw[bne_iff_ne]at h2;exact zA9 (by omega)))
    go_wp2
    go_ret
    exact⟨vA (by rw[HR.out]),rfl⟩
   ·have HR:=zA7 (HB.out (by rw[HD.out];rw[beq_iff_eq]at h2;exact zA9 (by omega)))
    go_wp2
    go_ret
    exact⟨vA (by rw[HR.out]),rfl⟩
   ·have HR:=zA7 (HN.out (by rw[HD.out];rw[beq_eq_false_iff_ne]at h2;exact zA8 (by omega)))
    go_wp2
    go_round
    case rel=>exact⟨k+1,by omega,by go_num,HR.out⟩
    case measure=>simp[intOf];omega
   ·have HR:=zA7 (HN.out (by rw[HD.out];rw[bne_eq_false_iff_eq]at h2;exact zA8 (by omega)))
    go_wp2
    go_round
    case rel=>exact⟨k+1,by omega,by go_num,HR.out⟩
    case measure=>simp[intOf];omega
  ·have HR:=zA7 (show B=false from by have:=HA.out;rw[Oct.vD s k (by omega)]at this;rw[<-yI.out];exact this)
   go_wp2
   go_ret
   exact⟨vA (by rw[HR.out]),rfl⟩
def rP(l:List UInt8)(w:World)(e:Ending)(w':World):Prop:=e= .returned (.tuple #[.string ⟨(Hd.ahead l).toArray⟩,.string ⟨(Hd.behind l).toArray⟩,.bool (decide (61∈l))])/\Below w.heap.size w w'
theorem oAv(s:ByteArray):(⟨(Lib.cut s.data.toList [61]).1.toArray⟩:ByteArray).size<=s.size/\(⟨(Lib.cut s.data.toList [61]).2.1.toArray⟩:ByteArray).size<=s.size:=by
 have e: ∀l:List UInt8,(⟨l.toArray⟩:ByteArray).size=l.length:=fun l=>by show(List.toArray _).size=_;simp
 rw[e (Lib.cut s.data.toList [61]).1,e (Lib.cut s.data.toList [61]).2.1,Hd.IT,<-Oct.nA s]
 have h1:=(List.takeWhile_prefix (Hd.ZC 61) (l:=s.data.toList)).length_le
 have h2:=(List.dropWhile_suffix (Hd.ZC 61) (l:=s.data.toList)).length_le
 exact⟨h1,by show(List.drop 1 _).length<=_;rw[List.length_drop];omega⟩
theorem uZ(s:ByteArray)(w:World)(hs:s.size<=maxLen):
  Calls Tryz.prog 116 #[.string s] w (rP s.data.toList w):=by
 have HC:=zA7 (fun W=>DT s 61 W hs)
 unfold kG at HC
 obtain⟨z1,z2⟩:=oAv s
 obtain⟨a,ha⟩: ∃a:ByteArray,(⟨(Lib.cut s.data.toList [61]).1.toArray⟩:ByteArray)=a:=⟨_,rfl⟩
 obtain⟨b,hb⟩: ∃b:ByteArray,(⟨(Lib.cut s.data.toList [61]).2.1.toArray⟩:ByteArray)=b:=⟨_,rfl⟩
 obtain⟨e1,e2,e3⟩:=Hd.gAx s.data.toList
 rw[ha,hb,e3]at HC
 rw[ha]at z1
 rw[hb]at z2
 have ha2:a.data.toList=(Lib.cut s.data.toList [61]).1:=by rw[<-ha]
 have hb2:b.data.toList=(Lib.cut s.data.toList [61]).2.1:=by rw[<-hb]
 have T1:=zA7 (fun W=>EW a W (Nat.le_trans z1 hs))
 have T2:=zA7 (fun W=>EW b W (Nat.le_trans z2 hs))
 rw[ha2,e1]at T1
 rw[hb2,e2]at T2
 clear ha hb ha2 hb2 e1 e2 e3 z1 z2
 unfold rP
 generalize decide (61∈s.data.toList)=x at*
 generalize Hd.ahead s.data.toList=p at*
 generalize Hd.behind s.data.toList=q at*
 go_enter Tryz.func116,Tryz.ntmps116
 go_wp2_with fail
 refine(HC.out _).mono ?_
 rintro e w1 ⟨rfl,b1⟩
 go_wp2_with fail
 refine(T1.out _).mono ?_
 rintro e w2 ⟨rfl,rfl⟩
 go_wp2_with fail
 refine(T2.out _).mono ?_
 rintro e w3 ⟨rfl,rfl⟩
 go_wp2
 first|exact⟨rfl,b1⟩|(go_ret3;exact⟨rfl,b1⟩)
def jN(l:List UInt8)(w:World)(e:Ending)(w':World):Prop:=e= .returned (.tuple #[.string ⟨(Hd.pair l).1.toArray⟩,.string ⟨(Hd.pair l).2.toArray⟩])/\Below w.heap.size w w'
theorem mAt(s:ByteArray)(w:World)(hs:s.size<=maxLen):
  Calls Tryz.prog 115 #[.string s] w (jN s.data.toList w):=by
 have HC:=zA7 (fun W=>uZ s W hs)
 unfold rP at HC
 have HP:Hid (∀a b w',Hd.pair s.data.toList=(a,b)->Below w.heap.size w w'->jN s.data.toList w (.returned (.tuple #[.string ⟨a.toArray⟩,.string ⟨b.toArray⟩])) w'):=zA7 (fun a b w' h k=>by unfold jN;rw[h];exact⟨rfl,k⟩)
 generalize hpost:jN s.data.toList w=post at*
 clear hpost
 by_cases h:61∈s.data.toList
 ·have HQ:=zA7 (fun w'=>HP.out _ _ w' (Hd.bAO h))
  rw[zA9 h]at HC
  clear h HP
  generalize Hd.ahead s.data.toList=p at*
  generalize Hd.behind s.data.toList=q at*
  go_enter Tryz.func115,Tryz.ntmps115
  go_wp2_with fail
  refine(HC.out _).mono ?_
  rintro e w1 ⟨rfl,b1⟩
  go_wp2
  first|exact HQ.out _ b1|(go_ret2;exact HQ.out _ b1)
 ·have HQ:=zA7 (fun w'=>HP.out _ _ w' (Hd.bAM h))
  rw[zA8 h]at HC
  clear h HP
  generalize Hd.ahead s.data.toList=p at*
  generalize Hd.behind s.data.toList=q at*
  go_enter Tryz.func115,Tryz.ntmps115
  go_wp2_with fail
  refine(HC.out _).mono ?_
  rintro e w1 ⟨rfl,b1⟩
  go_wp2
  first|exact HQ.out _ b1|(go_ret2;exact HQ.out _ b1)
def nM(v:List UInt8)(w:World)(e:Ending)(w':World):Prop:=e= .returned (.tuple #[.int .i64 (((Hd.jD v).getD 0:Nat):Int),.bool (Hd.jD v).isSome])/\w=w'
theorem mAr(s:ByteArray)(w:World)(hs:s.size<=1048576):
  Calls Tryz.prog 150 #[.string s] w (nM s.data.toList w):=by
 have HC:=zA7 (fun W=>Tryz.strings_CutPrefix s ⟨#[45]⟩ W)
 have e1:(⟨#[45]⟩:ByteArray).data.toList= [45]:=rfl
 rw[e1,Hd.dAw,Hd.rU]at HC
 have HD:=zA7 (fun W=>fL s W (by unfold maxLen;omega))
 have HP:Hid (∀o:Option Nat,Hd.jD s.data.toList=o->nM s.data.toList w (.returned (.tuple #[.int .i64 ((o.getD 0:Nat):Int),.bool o.isSome])) w):=zA7 (fun o h=>by unfold nM;rw[h];exact⟨rfl,rfl⟩)
 generalize hpost:nM s.data.toList w=post at*
 clear hpost e1
 by_cases h:s.data.toList.head?=some 45
 ·have HA:=Hd.tY h
  rw[if_pos h,zA9 h]at HC
  have HE:=zA7 (fun W=>fL ⟨(s.data.toList.drop 1).toArray⟩ W (by
   unfold maxLen
   have:(⟨(s.data.toList.drop 1).toArray⟩:ByteArray).size=(s.data.toList.drop 1).length:=by show(List.toArray _).size=_;simp
   rw[this,List.length_drop,Oct.nA];omega))
  have e2:(⟨(s.data.toList.drop 1).toArray⟩:ByteArray).data.toList=s.data.toList.drop 1:=rfl
  rw[e2]at HE
  have HQ:Hid (post (.returned (.tuple #[.int .i64 0,.bool (Oct.digits (s.data.toList.drop 1))])) w):=zA7 (by
   cases hd:Oct.digits (s.data.toList.drop 1)with
   |true=>rw[hd,if_pos rfl]at HA;exact HP.out _ HA
   |false=>rw[hd,if_neg (by simp)]at HA;exact HP.out _ HA)
  clear HP HA HD e2 h
  generalize Oct.digits (s.data.toList.drop 1)=d at*
  generalize(⟨(s.data.toList.drop 1).toArray⟩:ByteArray)=r at*
  go_enter Tryz.func150,Tryz.ntmps150
  go_wp2_with fail
  refine(HC.out _).mono ?_
  rintro e w1 ⟨rfl,rfl⟩
  go_wp2_with fail
  refine(HE.out _).mono ?_
  rintro e w2 ⟨rfl,rfl⟩
  go_wp2
  first|exact HQ.out|(go_ret2;exact HQ.out)
 ·have HA:=Hd.uY h
  rw[if_neg h,zA8 h,gE]at HC
  clear h
  cases hd:Oct.digits s.data.toList with
  |false=>
   rw[hd,if_neg (by simp)]at HA
   have HQ:=zA7 (HP.out _ HA)
   rw[hd]at HD
   clear HA HP hd
   go_enter Tryz.func150,Tryz.ntmps150
   go_wp2_with fail
   refine(HC.out _).mono ?_
   rintro e w1 ⟨rfl,rfl⟩
   go_wp2_with fail
   refine(HD.out _).mono ?_
   rintro e w2 ⟨rfl,rfl⟩
   go_wp2
   first|exact HQ.out|(go_ret2;exact HQ.out)
  |true=>
   rw[hd,if_pos rfl]at HA
   have HQ:Hid (post (.returned (.tuple #[.int .i64 ((min (Oct.numOf s.data.toList) 34560000:Nat):Int),.bool true])) w):=zA7 (HP.out _ HA)
   have lS:=zA7 hd
   rw[hd]at HD
   clear HA HP hd
   go_enter Tryz.func150,Tryz.ntmps150
   go_wp2_with fail
   refine(HC.out _).mono ?_
   rintro e w1 ⟨rfl,rfl⟩
   go_wp2_with fail
   refine(HD.out _).mono ?_
   rintro e w2 ⟨rfl,rfl⟩
   go_wp2
   go_loop [6,21] (fun n i=> ∃k:Nat,k<=s.size/\i= .int .i64 k/\n= .int .i64 ((Hd.held s.data.toList k:Nat):Int)) (fun _ i=>s.size- (intOf i).toNat)
   case atStart=>exact⟨0,Nat.zero_le _,rfl,by rw[Hd.Q9];rfl⟩
   case round=>
    obtain⟨k,hk,rfl,rfl⟩:=hrel
    by_cases hlt:k<s.size
    ·have hc:=Oct.tN lS.out k hlt
     have HT:=zA7 (Hd.N9 s k hlt)
     have hb:=Hd.M9 s.data.toList k
     generalize Hd.held s.data.toList k=n at*
     go_wp2
     go_round
     case rel=>exact⟨k+1,by omega,by go_num,IA (by have:=HT.out;omega)⟩
     case measure=>simp[intOf];omega
    ·have e:=Hd.J9 s k (by omega)
     rw[<-e]at HQ
     have HR:=HQ
     clear e HQ
     generalize Hd.held s.data.toList k=n at*
     go_wp2
     first|exact HR.out|(go_ret2;exact HR.out)
theorem mAu(s:ByteArray)(w:World):
  Calls Tryz.prog 152 #[.string s] w fun e w'=>e= .returned (.string ⟨(if s.data.toList.head?=some 47 then s.data.toList else []).toArray⟩)/\w=w':=by
 have HC:=zA7 (fun W=>Tryz.strings_HasPrefix s ⟨#[47]⟩ W)
 have e1:(⟨#[47]⟩:ByteArray).data.toList= [47]:=rfl
 rw[e1,Hd.rU]at HC
 clear e1
 by_cases h:s.data.toList.head?=some 47
 ·rw[if_pos h,gE]
  rw[zA9 h]at HC
  clear h
  go_enter Tryz.func152,Tryz.ntmps152
  go_wp2_with fail
  refine(HC.out _).mono ?_
  rintro e w1 ⟨rfl,rfl⟩
  go_wp2
  go_ret
  exact⟨rfl,rfl⟩
 ·rw[if_neg h]
  rw[zA8 h]at HC
  clear h
  go_enter Tryz.func152,Tryz.ntmps152
  go_wp2_with fail
  refine(HC.out _).mono ?_
  rintro e w1 ⟨rfl,rfl⟩
  go_wp2
  go_ret
  exact⟨rfl,rfl⟩
end Go.Proofs.YtabgoobcliijeaaGreatDoor
namespace Go.Proofs.YtabgoobcliijeaaGreatDoor
open Go.RowKit
namespace Hd
def DO(v:List UInt8)(k:Nat):Nat:=if k=0 then iF (v.map Oct.low)else if k=1 then(if Oct.kC v vK=true then 1 else if Oct.kC v fJ=true then 2 else if Oct.kC v wI=true then 3 else 0)else if k=2 then(if Oct.kC v fJ=true then 2 else if Oct.kC v wI=true then 3 else 0)else if k=3 then(if Oct.kC v wI=true then 3 else 0)else 0
theorem TW {k:Nat}(h:k<4): ∃x,WD[k]? =some x:=⟨_,List.getElem?_eq_getElem h⟩
theorem qAp(v:List UInt8){k:Nat}{x:List UInt8}(h:WD[k]? =some x):DO v k=if Oct.kC v x=true then k else DO v (k+1):=by
 have hk:k<4:=(List.getElem?_eq_some_iff.1 h).1
 have:k=0\/k=1\/k=2\/k=3:=by omega
 rcases this with rfl|rfl|rfl|rfl
 ·have e:x= []:=(zB2 h).symm
  subst e
  exact nAL v
 ·have e:x=vK:=(zB2 h).symm
  subst e;rfl
 ·have e:x=fJ:=(zB2 h).symm
  subst e;rfl
 ·have e:x=wI:=(zB2 h).symm
  subst e;rfl
theorem qAn(v:List UInt8):DO v 4=0:=rfl
end Hd
theorem jAK:(Tryz.prog.info? 168).map (·.size)=some (GA Hd.WD).size:=by kernel_rfl
theorem jAF(W:World):(Instr.index 168 (.agg (GA Hd.WD)) (.int .i64 0)).run Tryz.prog W= .ok (lA []) W:=by kernel_rfl
theorem jAG(W:World):(Instr.index 168 (.agg (GA Hd.WD)) (.int .i64 1)).run Tryz.prog W= .ok (lA [78,111,110,101]) W:=by kernel_rfl
theorem jAH(W:World):(Instr.index 168 (.agg (GA Hd.WD)) (.int .i64 2)).run Tryz.prog W= .ok (lA [76,97,120]) W:=by kernel_rfl
theorem jAI(W:World):(Instr.index 168 (.agg (GA Hd.WD)) (.int .i64 3)).run Tryz.prog W= .ok (lA [83,116,114,105,99,116]) W:=by kernel_rfl
theorem jAE {k:Nat}(hk:k<4){n:List UInt8}(hn:Hd.WD[k]? =some n)(W:World):(Instr.index 168 (.agg (GA Hd.WD)) (.int .i64 (k:Int))).run Tryz.prog W= .ok (lA n) W:=by
 have:k=0\/k=1\/k=2\/k=3:=by omega
 rcases this with rfl|rfl|rfl|rfl
 ·have e:=zB2 hn;rw[<-e];exact jAF W
 ·have e:=zB2 hn;rw[<-e];exact jAG W
 ·have e:=zB2 hn;rw[<-e];exact jAH W
 ·have e:=zB2 hn;rw[<-e];exact jAI W
def xP(n:Nat)(w:World)(e:Ending)(w':World):Prop:=e= .returned (.int .i64 (n:Int))/\Below w.heap.size w w'
theorem qAo {m n:Nat}(h:m=n){w w':World}(hb:Below w.heap.size w w'):xP m w (.returned (.int .i64 (n:Int))) w':=by subst h;exact⟨rfl,hb⟩
theorem mAv(s:ByteArray)(w:World)(hw:uB w)(hs:s.size<=maxLen):
  Calls Tryz.prog 153 #[.string s] w (xP (Hd.iF (s.data.toList.map Oct.low)) w):=by
 have HST:Hid (Hd.iF (s.data.toList.map Oct.low)=Hd.DO s.data.toList 0):=zA7 rfl
 have HP:=zA7 (fun n (h:Hd.iF (s.data.toList.map Oct.low)=n) w' (hb:Below w.heap.size w w')=>qAo h hb)
 generalize hpost:xP (Hd.iF (s.data.toList.map Oct.low)) w=post at*
 clear hpost
 have HC:Hid (∀(n:List UInt8) W,Calls Tryz.prog 69 #[.string s,lA n] W (KH (Oct.kC s.data.toList n) W)):=zA7 (fun n W=>uR s ⟨n.toArray⟩ W hs)
 have JX:=zA7 (fun k x (h:Hd.WD[k]? =some x)=>Hd.qAp s.data.toList h)
 generalize Hd.iF (s.data.toList.map Oct.low)=res at*
 obtain⟨t,fr,hrow⟩:=hw.row
 go_enter Tryz.func153,Tryz.ntmps153
 go_wp2_with (refine iA 5 rfl ?_;refine wpList_load_row rfl 168 _ rfl 2 rfl t _ fr _ hrow Tryz.underlying168 rfl jAK ?_)
 clear hrow
 go_loopw [6] (fun i wr=> ∃k:Nat,k<=4/\i= .int .i64 k/\res=Hd.DO s.data.toList k/\pB w wr) (fun i _=>4- (intOf i).toNat)
 case atStart=>exact⟨0,Nat.zero_le _,rfl,HST.out,pB.refl _⟩
 case round=>
  obtain⟨k,hk,rfl,hm,hd⟩:=hrel
  have HM:=zA7 hm
  clear hm
  by_cases hlt:k<4
  ·obtain⟨x,hx⟩:=Hd.TW hlt
   have hidx:=jAE hlt hx
   have GC:=JX.out k x hx
   rw[<-HM.out]at GC
   have hki:(k:Int)<4:=by omega
   have mG:=zA7 (HC.out x)
   unfold KH lA at mG
   unfold lA at hidx
   cases hb:Oct.kC s.data.toList x with
   |true=>
    rw[hb]at mG
    rw[hb,if_pos rfl]at GC
    have HR:=zA7 (HP.out k GC)
    generalize hnb:(⟨x.toArray⟩:ByteArray)=nb at*
    clear hnb hb GC hx JX HM
    go_wp2_with fail
    refine(mG.out _).mono ?_
    rintro e w2 ⟨rfl,d2⟩
    have HRR:=zA7 (HR.out w2 ((hd.below w.heap.size).trans (d2.below w.heap.size)))
    go_wp2
    first|exact HRR.out|(go_ret;exact HRR.out)
   |false=>
    rw[hb]at mG
    rw[hb,if_neg (by simp)]at GC
    have HR:=zA7 GC
    generalize hnb:(⟨x.toArray⟩:ByteArray)=nb at*
    clear hnb hb GC hx HM
    go_wp2_with fail
    refine(mG.out _).mono ?_
    rintro e w2 ⟨rfl,d2⟩
    have hD:pB w w2:=by
     obtain⟨a,rfl⟩:=hd
     obtain⟨b,rfl⟩:=d2
     exact⟨a+b,World.drewN_drewN _ _ _⟩
    go_wp2
    go_roundw
    case rel=>exact⟨k+1,by omega,by go_num,HR.out,hD⟩
    case measure=>simp[intOf];omega
  ·have hk4:k=4:=by omega
   subst hk4
   have HR:=zA7 (HP.out 0 (HM.out.trans (Hd.qAn _)) wr (hd.below _))
   go_wp2
   first|exact HR.out|(go_ret;exact HR.out)
theorem cAQ(n:Nat)(w:World)(hw:uB w){x:List UInt8}(hx:Hd.WD[n]? =some x):
  Calls Tryz.prog 123 #[.int .i64 (n:Int)] w fun e w'=>e= .returned (.string ⟨x.toArray⟩)/\Below w.heap.size w w':=by
 have hn:n<4:=(List.getElem?_eq_some_iff.1 hx).1
 have hcell:=hw.word hx
 unfold lA at hcell
 generalize(⟨x.toArray⟩:ByteArray)=nb at*
 have h1: ¬(n:Int)<0:=by omega
 have h2: ¬(4:Int)<=(n:Int):=by omega
 have h3:(n:Int)<4:=by omega
 have h4:(0:Int)<=(n:Int):=by omega
 clear hx
 go_enter Tryz.func123,Tryz.ntmps123
 go_wp2
 go_ret
 exact⟨rfl,Below.refl _ _⟩
theorem pAt(s:ByteArray)(w:World):
  Calls Tryz.prog 163 #[.string s,.string ⟨#[46,32,9]⟩] w fun e w'=>e= .returned (.string ⟨(Lib.trimLeftS s.data.toList [46,32,9]).toArray⟩)/\Below w.heap.size w w':=
 (Any.strings_TrimLeft_laid Tryz.lays161 (by kernel_rfl) s ⟨#[46,32,9]⟩ w (by decide) (ascii_of_all (by decide))).mono fun _ _ ⟨h1,h2⟩=>⟨h1,h2⟩
theorem bA1(s:ByteArray)(w:World)(hs:s.size<=1048576):
  Calls Tryz.prog 122 #[.string s] w (XC w.heap.size (Hd.qC s.data.toList) w):=by
 have HC:=zA7 (fun W=>pAt s W)
 have hl:=Hd.kAu s.data.toList
 have HP:Hid (∀a w',(⟨(Hd.qC s.data.toList).toArray⟩:ByteArray)=a->Below w.heap.size w w'->XC w.heap.size (Hd.qC s.data.toList) w (.returned (.string a)) w'):=zA7 (fun a w' h hb=>by subst h;exact⟨rfl,hb⟩)
 generalize hpost:XC w.heap.size (Hd.qC s.data.toList) w=post at*
 clear hpost
 obtain⟨a,ha⟩: ∃a:ByteArray,(⟨(Lib.trimLeftS s.data.toList [46,32,9]).toArray⟩:ByteArray)=a:=⟨_,rfl⟩
 have ha2:a.data.toList=Lib.trimLeftS s.data.toList [46,32,9]:=by rw[<-ha]
 rw[ha]at HC
 rw[<-ha2]at hl
 have hz:((⟨#[46]⟩:ByteArray).size)=1:=rfl
 have hne:(!(a.toList==s.toList))=Hd.AE s.data.toList:=by
  rw[Oct.SA,Oct.SA]
  cases hd:Hd.AE s.data.toList with
  |false=>rw[hl.2 hd];simp
  |true=>
   rw[Bool.not_eq_true',beq_eq_false_iff_ne]
   intro e
   rw[hl.1 e]at hd
   cases hd
 clear ha ha2 hl
 cases hd:Hd.AE s.data.toList with
 |true=>
  rw[hd]at hne
  have HQ:=zA7 (fun w'=>HP.out (⟨#[46]⟩++s) w' (by unfold Hd.qC;rw[if_pos hd];apply ByteArray.ext;simp[ByteArray.data_append]))
  clear hd HP
  have hsum: ¬9223372036854775807<(⟨#[46]⟩:ByteArray).size+s.size:=by rw[hz];omega
  have rAn: ¬9223372036854775807<1+s.size:=by omega
  go_enter Tryz.func122,Tryz.ntmps122
  go_wp2_with fail
  refine(HC.out _).mono ?_
  rintro e w1 ⟨rfl,b1⟩
  go_wp2
  first|exact HQ.out _ b1|(go_ret;exact HQ.out _ b1)
 |false=>
  rw[hd]at hne
  have HQ:=zA7 (fun w'=>HP.out s w' (by unfold Hd.qC;rw[if_neg (by rw[hd];simp),gE]))
  clear hd HP
  go_enter Tryz.func122,Tryz.ntmps122
  go_wp2_with fail
  refine(HC.out _).mono ?_
  rintro e w1 ⟨rfl,b1⟩
  go_wp2
  first|exact HQ.out _ b1|(go_ret;exact HQ.out _ b1)
end Go.Proofs.YtabgoobcliijeaaGreatDoor
namespace Go.Proofs.YtabgoobcliijeaaGreatDoor
open Go.RowKit
namespace Dt
theorem kAl {y:Int}(h:0<=y):((y.tmod 4==0)=decide (y%4=0))/\((y.tmod 100 !=0)=decide (y%100≠0))/\((y.tmod 400==0)=decide (y%400=0)):=by
 rw[Int.tmod_eq_emod_of_nonneg h,Int.tmod_eq_emod_of_nonneg h,Int.tmod_eq_emod_of_nonneg h]
 refine⟨?_,?_,?_⟩
 ·by_cases k:y%4=0<;>simp[k]
 ·by_cases k:y%100=0<;>simp[k]
 ·by_cases k:y%400=0<;>simp[k]
end Dt
theorem kAk(y:Int)(w:World)(h1:0<=y):
  Calls Tryz.prog 214 #[.int .i64 y] w fun e w'=>e= .returned (.bool (Dt.leap y))/\w=w':=by
 obtain⟨t4,rAG,rAH⟩:=Dt.kAl h1
 have q4:y.tmod 4=y%4:=Int.tmod_eq_emod_of_nonneg h1
 have mAo:y.tmod 100=y%100:=Int.tmod_eq_emod_of_nonneg h1
 have mAp:y.tmod 400=y%400:=Int.tmod_eq_emod_of_nonneg h1
 by_cases k4:y%4=0
 ·by_cases LQ:y%100=0
  ·by_cases MQ:y%400=0
   ·have HL:=zA7 (show Dt.leap y=true from Dt.FL.2 ⟨k4,.inr MQ⟩)
    go_enter Tryz.func214,Tryz.ntmps214
    go_wp2
    go_ret
    exact⟨vA (by rw[HL.out]),rfl⟩
   ·have HL:=zA7 (show Dt.leap y=false from zA8 (by omega))
    go_enter Tryz.func214,Tryz.ntmps214
    go_wp2
    go_ret
    exact⟨vA (by rw[HL.out];simpa using MQ),rfl⟩
  ·have HL:=zA7 (show Dt.leap y=true from Dt.FL.2 ⟨k4,.inl LQ⟩)
   go_enter Tryz.func214,Tryz.ntmps214
   go_wp2
   go_ret
   exact⟨vA (by rw[HL.out]),rfl⟩
 ·have HL:=zA7 (show Dt.leap y=false from zA8 (by omega))
  go_enter Tryz.func214,Tryz.ntmps214
  go_wp2
  go_ret
  exact⟨vA (by rw[HL.out]),rfl⟩
theorem cAo(y:Int)(w:World)(h1:0<=y):
  Calls Tryz.prog 147 #[.int .i64 y] w fun e w'=>e= .returned (.bool (Dt.leap y))/\w=w':=by
 have q4:y.tmod 4=y%4:=Int.tmod_eq_emod_of_nonneg h1
 have mAo:y.tmod 100=y%100:=Int.tmod_eq_emod_of_nonneg h1
 have mAp:y.tmod 400=y%400:=Int.tmod_eq_emod_of_nonneg h1
 by_cases MQ:y%400=0
 ·have HL:=zA7 (show Dt.leap y=true from Dt.FL.2 ⟨by omega,.inr MQ⟩)
  go_enter Tryz.func147,Tryz.ntmps147
  go_wp2
  go_ret
  exact⟨vA (by rw[HL.out]),rfl⟩
 ·by_cases k4:y%4=0
  ·by_cases LQ:y%100=0
   ·have HL:=zA7 (show Dt.leap y=false from zA8 (by omega))
    go_enter Tryz.func147,Tryz.ntmps147
    go_wp2
    go_ret
    exact⟨vA (by rw[HL.out]),rfl⟩
   ·have HL:=zA7 (show Dt.leap y=true from Dt.FL.2 ⟨k4,.inl LQ⟩)
    go_enter Tryz.func147,Tryz.ntmps147
    go_wp2
    go_ret
    exact⟨vA (by rw[HL.out];simpa using LQ),rfl⟩
  ·have HL:=zA7 (show Dt.leap y=false from zA8 (by omega))
   go_enter Tryz.func147,Tryz.ntmps147
   go_wp2
   go_ret
   exact⟨vA (by rw[HL.out]),rfl⟩
theorem cAw(y:Int)(w:World)(h1:0<=y):
  Calls Tryz.prog 111 #[.int .i64 y] w fun e w'=>e= .returned (.int .i64 (Dt.cD y))/\w=w':=by
 have HC:=zA7 (fun W=>cAo y W h1)
 have HY:Hid (Dt.cD y=if Dt.leap y=true then 366 else 365):=zA7 rfl
 generalize Dt.cD y=n at*
 cases hl:Dt.leap y
 all_goals
  rw[hl]at HC HY
  go_enter Tryz.func111,Tryz.ntmps111
  go_wp2_with (go_at_call 147;refine(HC.out _).mono ?_;rintro e w' ⟨rfl,rfl⟩)
  go_ret
  exact⟨uC (by rw[HY.out];rfl),rfl⟩
theorem KL(y:Int)(w:World)(h1:1<=y)(h2:y<=20000):
  Calls Tryz.prog 158 #[.int .i64 y] w fun e w'=>e= .returned (.int .i64 (Dt.before y-134774))/\w=w':=by
 have HY:=zA7 (Dt.fAq y)
 have q1:(y-1).tdiv 4=(y-1)/4:=Int.tdiv_eq_ediv_of_nonneg (by omega)
 have q2:(y-1).tdiv 100=(y-1)/100:=Int.tdiv_eq_ediv_of_nonneg (by omega)
 have q3:(y-1).tdiv 400=(y-1)/400:=Int.tdiv_eq_ediv_of_nonneg (by omega)
 generalize Dt.before y-134774=n at*
 go_enter Tryz.func158,Tryz.ntmps158
 go_wp2
 go_ret
 exact⟨uC (by rw[HY.out]),rfl⟩
theorem qAj(y:Nat)(w:World)(h2:y<=20000):
  Calls Tryz.prog 210 #[.int .i64 (y:Int)] w fun e w'=>e= .returned (.int .i64 (Dt.dD y))/\w=w':=by
 have HY:Hid (Dt.dD y=if 70<=y/\y<=99 then(y:Int)+1900 else if y<=69 then(y:Int)+2000 else y):=zA7 rfl
 generalize Dt.dD y=n at*
 by_cases k1:(y:Int)<70
 ·go_enter Tryz.func210,Tryz.ntmps210
  go_wp2
  go_ret
  exact⟨uC (by rw[HY.out,if_neg (by omega),if_pos (by omega)]),rfl⟩
 ·by_cases k2:(y:Int)<100
  ·go_enter Tryz.func210,Tryz.ntmps210
   go_wp2
   go_ret
   exact⟨uC (by rw[HY.out,if_pos (by omega)]),rfl⟩
  ·go_enter Tryz.func210,Tryz.ntmps210
   go_wp2
   go_ret
   exact⟨uC (by rw[HY.out,if_neg (by omega),if_neg (by omega)]),rfl⟩
end Go.Proofs.YtabgoobcliijeaaGreatDoor
