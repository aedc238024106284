/- Rules and faults as values, and held against each other. -/
import Derived.Laws.Small
import Derived.Maps.AppendAt
import Derived.Maps.OwnSet
import Derived.DeepKeys4
import Derived.Test.YtdaaoopkkhfbhaaGreatDoorY3
import Derived.Laws.CopyOwn
import Derived.Deep.MidRow
import Derived.Deep.RegionHeld3
set_option maxHeartbeats 4000000
set_option maxRecDepth 100000
namespace Go.Proofs.YtdaaoopkkhfbhaaGreatDoor
open Go.RowKit
def qA(r:Ru.Rule):Array Value:= #[Value.int .i64 r.kind,gA r.name]
theorem kZ(r:Ru.Rule):(qA r).size=2:=rfl
theorem GE(r:Ru.Rule):(qA r).all (·.oneCell')=true:=by simp[qA,gA,Value.oneCell']
theorem jAM(r:Ru.Rule):(qA r)[0]? =some (.int .i64 r.kind):=rfl
theorem jAN(r:Ru.Rule):(qA r)[1]? =some (gA r.name):=rfl
theorem oC:(Tryz.prog.info? 78).map (·.size)=some 2:=by kernel_rfl
theorem jS: #[Value.int .i64 0,.string ⟨#[]⟩]=qA Ru.zero:=rfl
theorem PT(k:Int)(s:ByteArray):Tryz.prog.built 78 [(0,.int .i64 k),(1,.string s)]=some (qA ⟨k,s.data.toList⟩):=by kernel_rfl
theorem cAT(r q:Ru.Rule)(W:World):(Op.equalIn 10000 78 (.agg (qA r)) (.agg (qA q))).run Tryz.prog W= .ok (decide (r=q)) W:=by
 obtain⟨f0,f1,hf⟩: ∃f0 f1,Tryz.prog.underlying 78=some (.struct #[f0,f1])/\(f0.name≠ "_" /\f1.name≠ "_")/\(f0.offset=0/\f1.offset=1)/\f0.type=3/\f1.type=9:=
  ⟨_,_,Tryz.underlying78,⟨by decide,by decide⟩,⟨rfl,rfl⟩,rfl,rfl⟩
 obtain⟨hu,⟨n0,n1⟩,⟨o0,o1⟩,t0,t1⟩:=hf
 have hl:Tryz.prog.fieldsOf 78= #[f0,f1]:=by unfold Program.fieldsOf;rw[hu]
 rw[run_equalIn_struct W 9999 78 _ _ (by rw[hl];exact hu) (by kernel_rfl),hl]
 have a0:(part f0.type (qA r) f0.offset).run Tryz.prog W= .ok (.int .i64 r.kind) W:=run_part_plain W (by rw[t0];kernel_rfl) (by rw[o0];rfl)
 have b0:(part f0.type (qA q) f0.offset).run Tryz.prog W= .ok (.int .i64 q.kind) W:=run_part_plain W (by rw[t0];kernel_rfl) (by rw[o0];rfl)
 have a1:(part f1.type (qA r) f1.offset).run Tryz.prog W= .ok (gA r.name) W:=run_part_plain W (by rw[t1];kernel_rfl) (by rw[o1];rfl)
 have b1:(part f1.type (qA q) f1.offset).run Tryz.prog W= .ok (gA q.name) W:=run_part_plain W (by rw[t1];kernel_rfl) (by rw[o1];rfl)
 have q0:(Op.equalIn 9999 f0.type (.int .i64 r.kind) (.int .i64 q.kind)).run Tryz.prog W= .ok (r.kind==q.kind) W:=run_equalIn_int W 9998 f0.type .i64 .i64 r.kind q.kind (by rw[t0];exact Tryz.underlying3)
 have q1:(Op.equalIn 9999 f1.type (gA r.name) (gA q.name)).run Tryz.prog W= .ok (decide (r.name=q.name)) W:=by
  unfold gA
  rw[run_equalIn_string W 9998 f1.type _ _ (by rw[t1];exact Tryz.underlying9),Oct.aB,Oct.aB]
  refine congrArg (fun b=>Result.ok b W) ?_
  rw[Bool.eq_iff_iff]
  simp
 have hd:decide (r=q)=((r.kind==q.kind)&&decide (r.name=q.name)):=by
  rw[Bool.eq_iff_iff]
  simp only[decide_eq_true_eq,Bool.and_eq_true,beq_iff_eq]
  constructor
  ·rintro rfl;exact⟨rfl,rfl⟩
  ·rintro⟨e0,e1⟩
   cases r;cases q
   simp only at e0 e1
   rw[e0,e1]
 rw[hd]
 show(Op.eqFields 9999 (qA r) (qA q) [f0,f1]).run Tryz.prog W=_
 simp only[Op.eqFields,Sem.run_bind,a0,b0,a1,b1,q0,q1,Result.andThen_ok,Sem.run_ite,Sem.run_pure,ne_eq,n0,n1,not_false_eq_true,if_true]
 cases(r.kind==q.kind)<;>cases decide (r.name=q.name)<;>rfl
theorem cAW(r q:Ru.Rule)(W:World):(binOp .eql 78 (.agg (qA r)) (.agg (qA q))).run Tryz.prog W= .ok (.bool (decide (r=q))) W:=by
 rw[run_eql_struct,cAT r q W];rfl
theorem mD {P:Program}{fn:Func}{p u x:Tmp}{ty:TypeId}(h:fn.results= #[.cell p ty,.tmp u,.tmp x])(tmps:Array Value)(w:World)(g:Nat)(t:TypeId)(cs:Array Value)(d:TypeDesc)
  (hp:tmps.getD p undef= .pointer (some ⟨g,0,none⟩))(v1 v2:Value)(hv1:tmps.getD u undef=v1)(hv2:tmps.getD x undef=v2)(hg:Row w g t cs)
  (hu:P.underlying ty=some d)(hd:(match d with| .struct _| .array _ _=>true|_=>false)=true)(hi:(P.info? ty).map (·.size)=some cs.size):
  (results fn tmps).run P w= .ok (.tuple #[.agg cs,v1,v2]) w:=by
 have hp':(asAddr (tmps.getD p undef)).run P w= .ok ⟨g,0,none⟩ w:=by rw[hp];rfl
 have e:(results fn tmps).run P w=((asAddr (tmps.getD p undef)).run P w).andThen fun a w₁=>((loadVar ty a).run P w₁).andThen fun v w₂=> .ok (.tuple #[v,tmps.getD u undef,tmps.getD x undef]) w₂:=by
  simp only[results,h]
  simp[Sem.run_bind,Result.andThen]
 rw[e,hp',Result.andThen_ok,run_loadVar_row (P:=P) w g t ty cs (0,0) d hg hu hd hi,Result.andThen_ok,hv1,hv2]
def LL(o:Int×Bool×Ru.Rule)(w:World)(e:Ending)(w':World):Prop:=e= .returned (.tuple #[.agg (qA o.2.2),.bool o.2.1,.int .i64 o.1])/\Below w.heap.size w w'
end Go.Proofs.YtdaaoopkkhfbhaaGreatDoor
namespace Go.Proofs.YtdaaoopkkhfbhaaGreatDoor
open Go.RowKit
theorem uY(g j:Nat):(⟨g,0,none⟩:Addr).add j=⟨g,j,none⟩:=by unfold Addr.add;split<;>simp_all
theorem jX {ops:Array Oper}{Q:Exit->Act->World->Prop}{rest:List Oper}{o:Oper}{a:Act}{w:World}(hw:Region.wanted o (yielded ops a.tmps)=true)(x:Operand)(ho:o.op= .load 78 x)
  (g off:Nat)(hx:a.eval x= .pointer (some ⟨g,off,none⟩))(r:Ru.Rule)(h0:w.cell? ⟨g,off,none⟩=some (.int .i64 r.kind))(h1:w.cell? ⟨g,off+1,none⟩=some (gA r.name))
  (h:wpList Tryz.prog ops Q rest (a.put o.dst (.agg (qA r))) w):wpList Tryz.prog ops Q (o::rest) a w:=by
 have hl:(loadCells ⟨g,off,none⟩ [Value.int .i64 r.kind,gA r.name].length).run Tryz.prog w= .ok [Value.int .i64 r.kind,gA r.name].toArray w:=
  run_loadCells_list (P:=Tryz.prog) w ⟨g,off,none⟩ [Value.int .i64 r.kind,gA r.name] (fun j v hv=>by
   have hadd:(⟨g,off,none⟩:Addr).add j=⟨g,off+j,none⟩:=by unfold Addr.add;split<;>simp_all
   rw[hadd]
   match j,hv with
   |0,hv=>rw[<-zB2 (show some (Value.int .i64 r.kind)=some v from hv)];exact h0
   |1,hv=>rw[<-zB2 (show some (gA r.name)=some v from hv)];exact h1)
 have hagg:(isAgg 78).run Tryz.prog w= .ok true w:=by kernel_rfl
 obtain⟨i,hq,hs⟩: ∃i,Tryz.prog.info? 78=some i/\i.size=2:=by
  cases hq:Tryz.prog.info? 78 with
  |none=>have:=oC;rw[hq]at this;cases this
  |some i=>have:=oC;rw[hq]at this;exact⟨i,rfl,zB2 this⟩
 have hv:(loadVar 78 ⟨g,off,none⟩).run Tryz.prog w= .ok (.agg (qA r)) w:=by
  have hl2:(loadCells ⟨g,off,none⟩ 2).run Tryz.prog w= .ok (qA r) w:=hl
  simp[loadVar,Sem.run_bind,hagg,sizeOf,typeInfo,hq,hs,hl2]
 refine wpList_step fun K hK=>?_
 simp only[hw,if_true]
 unfold Oper.wp execOp
 simp only[ho,hx,Instr.loadAt,Instr.sureAddr,Sem.run_bind,Sem.run_pure,Result.andThen_ok,hv]
 exact hK _ _ h
end Go.Proofs.YtdaaoopkkhfbhaaGreatDoor
namespace Go.Proofs.YtdaaoopkkhfbhaaGreatDoor
open Go.RowKit Go.Maps
theorem laidOut:laidOutB Tryz.prog=true:=by kernel_rfl
theorem bAo:Tryz.prog.cellsOf 3=1:=by kernel_rfl
theorem bAq:Tryz.prog.cellsOf 9=1:=by kernel_rfl
theorem lAK: ∃n,Tryz.prog.types.size=n+1:=⟨Tryz.prog.types.size-1,by have:0<Tryz.prog.types.size:=zB1 (by kernel_rfl);omega⟩
end Go.Proofs.YtdaaoopkkhfbhaaGreatDoor
namespace Go.Proofs.YtdaaoopkkhfbhaaGreatDoor
open Go.RowKit Go.Maps
theorem dAj(s:ByteArray)(w:World)(hs:s.size<=4294967280):
  Calls Tryz.prog 84 #[.string s] w (VC w.heap.size (Ru.first s.data.toList) w):=by
 have H1:=zA7 (fun W=>aAI s ⟨#[32,9]⟩ W (by decide) (by decide) (by decide) hs)
 have e1:(⟨#[32,9]⟩:ByteArray).data.toList= [32,9]:=rfl
 rw[e1]at H1
 by_cases hn:Lib.indexAny s.data.toList [32,9]<0
 ·obtain⟨e1,_⟩:=Ur.fA6 hn
  have HE:Hid ((⟨(Ru.first s.data.toList).toArray⟩:ByteArray)=s):=zA7 (by unfold Ru.first;rw[e1,DE])
  clear e1
  generalize Ru.first s.data.toList=l at*
  generalize Lib.indexAny s.data.toList [32,9]=r at*
  go_enter Tryz.func84,Tryz.ntmps84
  go_wp2_with fail
  refine(H1.out _).mono ?_
  rintro e v1 ⟨rfl,d1⟩
  go_wp2
  go_ret
  exact⟨iD HE.out.symm,d1⟩
 ·obtain⟨e1,e2⟩:=Ur.fA7 hn
  rw[e1]at H1
  have hle:Ur.find s.data.toList [32,9]<=s.size:=by rw[Oct.oA]at e2;omega
  have HA:Hid (s.extract 0 (Ur.find s.data.toList [32,9])=⟨(Ru.first s.data.toList).toArray⟩):=zA7 (vH s _)
  clear hn e1 e2
  generalize Ru.first s.data.toList=l at*
  generalize Ur.find s.data.toList [32,9]=n at*
  have hn0: ¬(n:Int)<0:=by omega
  have hle1:(n:Int)<=(s.size:Int):=by omega
  go_enter Tryz.func84,Tryz.ntmps84
  go_wp2_with fail
  refine(H1.out _).mono ?_
  rintro e v1 ⟨rfl,d1⟩
  go_wp2
  go_ret
  exact⟨iD HA.out,d1⟩
theorem gAE(s:ByteArray)(w:World):
  Calls Tryz.prog 83 #[.string s] w fun e w'=>e= .returned (.tuple #[.int .i64 (Ru.kind s.data.toList),.string ⟨(Ru.rest s.data.toList).toArray⟩])/\w=w':=by
 have H1:=zA7 (fun W=>Tryz.strings_CutPrefix s ⟨#[33]⟩ W)
 have H2:=zA7 (fun W=>Tryz.strings_CutPrefix s ⟨#[42,46]⟩ W)
 have e1:(⟨#[33]⟩:ByteArray).data.toList= [33]:=rfl
 have e2:(⟨#[42,46]⟩:ByteArray).data.toList= [42,46]:=rfl
 rw[e1]at H1
 rw[e2]at H2
 have HK:Hid (Ru.kind s.data.toList=if Lib.hasPrefix s.data.toList [33]=true then 3 else if Lib.hasPrefix s.data.toList [42,46]=true then 2 else 1):=zA7 rfl
 have HR:Hid (Ru.rest s.data.toList=if Lib.hasPrefix s.data.toList [33]=true then Lib.trimPrefix s.data.toList [33]else if Lib.hasPrefix s.data.toList [42,46]=true then Lib.trimPrefix s.data.toList [42,46]else s.data.toList):=zA7 rfl
 clear e1 e2
 generalize Ru.kind s.data.toList=K at*
 generalize Ru.rest s.data.toList=R at*
 generalize Lib.trimPrefix s.data.toList [33]=t1 at*
 generalize Lib.trimPrefix s.data.toList [42,46]=t2 at*
 cases h1:Lib.hasPrefix s.data.toList [33]with
 |true=>
  rw[h1]at H1 HK HR
  have KK:Hid (K=3):=zA7 (by rw[HK.out,if_pos rfl])
  have RR:Hid (R=t1):=zA7 (by rw[HR.out,if_pos rfl])
  clear h1 HK HR
  go_enter Tryz.func83,Tryz.ntmps83
  go_wp2_with fail
  refine(H1.out _).mono ?_
  rintro e v1 ⟨rfl,rfl⟩
  go_wp2
  go_ret2
  exact⟨nD (dB KK.out.symm) (ZR (by rw[RR.out])),rfl⟩
 |false=>
  rw[h1]at H1 HK HR
  clear h1
  cases h2:Lib.hasPrefix s.data.toList [42,46]with
  |true=>
   rw[h2]at H2 HK HR
   have KK:Hid (K=2):=zA7 (by rw[HK.out,if_neg (by simp),if_pos rfl])
   have RR:Hid (R=t2):=zA7 (by rw[HR.out,if_neg (by simp),if_pos rfl])
   clear h2 HK HR
   go_enter Tryz.func83,Tryz.ntmps83
   go_wp2_with fail
   refine(H1.out _).mono ?_
   rintro e v1 ⟨rfl,rfl⟩
   go_wp2_with fail
   refine(H2.out _).mono ?_
   rintro e v2 ⟨rfl,rfl⟩
   go_wp2
   go_ret2
   exact⟨nD (dB KK.out.symm) (ZR (by rw[RR.out])),rfl⟩
  |false=>
   rw[h2]at H2 HK HR
   have KK:Hid (K=1):=zA7 (by rw[HK.out,if_neg (by simp),if_neg (by simp)])
   have RR:Hid (R=s.data.toList):=zA7 (by rw[HR.out,if_neg (by simp),if_neg (by simp)])
   clear h2 HK HR
   go_enter Tryz.func83,Tryz.ntmps83
   go_wp2_with fail
   refine(H1.out _).mono ?_
   rintro e v1 ⟨rfl,rfl⟩
   go_wp2_with fail
   refine(H2.out _).mono ?_
   rintro e v2 ⟨rfl,rfl⟩
   go_wp2
   go_ret2
   exact⟨nD (dB KK.out.symm) (ZR (by rw[RR.out,DE])),rfl⟩
theorem jAP(r:Ru.Rule)(w:World)(hr:r.name.length<=1048576):
  Calls Tryz.prog 44 #[.agg (qA r)] w (VC w.heap.size (Ru.text r) w):=by
 obtain⟨t,ht⟩: ∃t:ByteArray,t=⟨r.name.toArray⟩:=⟨_,rfl⟩
 have R0:=Row.new w 78 (qA r)
 have c0:(w.alloc (.cells (qA r) 78)).cell? ⟨w.heap.size,0,none⟩=some (.int .i64 r.kind):=by rw[R0.cell,jAM]
 have c1:(w.alloc (.cells (qA r) 78)).cell? ⟨w.heap.size,1,none⟩=some (.string t):=by rw[R0.cell,jAN,ht];rfl
 have B0:=(Below.refl w.heap.size w).alloc (zB3 _) (.cells (qA r) 78)
 have hts:t.size<=1048576:=by rw[ht];show(List.toArray _).size<=_;simp;exact hr
 have hn1: ¬9223372036854775807<(⟨#[33]⟩:ByteArray).size+t.size:=by show ¬9223372036854775807<1+t.size;omega
 have hn2: ¬9223372036854775807<(⟨#[42,46]⟩:ByteArray).size+t.size:=by show ¬9223372036854775807<2+t.size;omega
 have htl:t.data.toList=r.name:=by rw[ht]
 have E1:Hid ((⟨#[33]⟩++t:ByteArray)=⟨(33::r.name).toArray⟩):=zA7 (by apply ByteArray.ext;rw[ht];simp)
 have E2:Hid ((⟨#[42,46]⟩++t:ByteArray)=⟨(42::46::r.name).toArray⟩):=zA7 (by apply ByteArray.ext;rw[ht];simp)
 have E3:=zA7 ht
 have HT:Hid (Ru.text r=if r.kind=3 then 33::r.name else if r.kind=2 then 42::46::r.name else r.name):=zA7 rfl
 clear ht htl R0 hr
 generalize Ru.text r=T at*
 generalize r.kind=k at*
 generalize r.name=m at*
 generalize qA r=X at*
 by_cases h3:k=3
 ·have h31:(k==3)=true:=by simpa using h3
  have HY:Hid (T=33::m):=zA7 (by rw[HT.out,if_pos h3])
  clear h3 HT
  go_enter Tryz.func44,Tryz.ntmps44
  go_wp2
  go_ret
  exact⟨iD (by rw[HY.out];exact E1.out),B0⟩
 ·have h31:(k==3)=false:=by simpa using h3
  by_cases h2:k=2
  ·have h21:(k==2)=true:=by simpa using h2
   have HY:Hid (T=42::46::m):=zA7 (by rw[HT.out,if_neg h3,if_pos h2])
   clear h3 h2 HT
   go_enter Tryz.func44,Tryz.ntmps44
   go_wp2
   go_ret
   exact⟨iD (by rw[HY.out];exact E2.out),B0⟩
  ·have h21:(k==2)=false:=by simpa using h2
   have HY:Hid (T=m):=zA7 (by rw[HT.out,if_neg h3,if_neg h2])
   clear h3 h2 HT
   go_enter Tryz.func44,Tryz.ntmps44
   go_wp2
   go_ret
   exact⟨iD (by rw[HY.out];exact E3.out),B0⟩
end Go.Proofs.YtdaaoopkkhfbhaaGreatDoor
namespace Go.Proofs.YtdaaoopkkhfbhaaGreatDoor
open Go.RowKit
theorem lV(n m:Nat)(gap:Bool)(w:World)(hn:n+m<=1099511627776):
  Calls Tryz.prog 247 #[.int .i64 ((n:Int)+(m:Int)),.bool gap] w fun e w'=>e= .returned (.bool (aA.fits (n+m) gap))/\w=w':=by
 rw[show(n:Int)+(m:Int)=((n+m:Nat):Int) by omega]
 exact dAm (n+m) gap w hn
namespace aA
theorem fZ(s:List UInt8):(row s).length<=s.length+1:=by
 unfold row
 split
 ·simp
 ·rw[List.length_map];exact Oct.eI 58 s
theorem cA5(s:List UInt8):(Lib.cut s [58,58]).1.length<=s.length/\(Lib.cut s [58,58]).2.1.length<=s.length:=by
 unfold Lib.cut
 split
 ·simp;omega
 ·simp
theorem mAe {s b h:List UInt8}{gap:Bool}(hc:Lib.cut s [58,58]=(b,h,gap))(h1:isRow b=true)(h2:isRow h=true)(h3:fits ((row b).length+(row h).length) gap=true):
  v6 s=some (row b++List.replicate (8- ((row b).length+(row h).length)) 0++row h):=by
 unfold v6;rw[hc];simp only;rw[if_pos ⟨h1,h2,h3⟩]
theorem XR {s b h:List UInt8}{gap:Bool}(hc:Lib.cut s [58,58]=(b,h,gap))(hn:isRow b=false\/isRow h=false\/fits ((row b).length+(row h).length) gap=false):v6 s=none:=by
 unfold v6;rw[hc];simp only
 refine if_neg fun⟨h1,h2,h3⟩=>?_
 rcases hn with hn|hn|hn
 ·rw[hn]at h1;cases h1
 ·rw[hn]at h2;cases h2
 ·rw[hn]at h3;cases h3
theorem dAn {n:Nat}{gap:Bool}(h:fits n gap=true):n<=8:=by
 unfold fits at h
 split at h<;>(have:=zB1 h;omega)
end aA
theorem FW:(Tryz.prog.info? 252).map (·.size)=some 1:=by kernel_rfl
def SA(a:List UInt8)(ok:Bool)(w:World)(e:Ending)(w':World):Prop:=e= .returned (.tuple #[.agg (fA a),.bool ok])/\Below w.heap.size w w'
theorem NQ {s:List UInt8}(h:aA.v6 s=none):SA (aA.addrOf (aA.v6 s)) (aA.v6 s).isSome=SA zA false:=by rw[h];rfl
theorem jU(r:List UInt16)(n:Nat)(h:r.length<=n):Hid ((r.map FB).length=Nat.min r.length n):=by
 show(r.map FB).length=Nat.min r.length n
 rw[List.length_map];exact(Nat.min_eq_left h).symm
theorem kU {w w':World}{A:Option Addr}{r:List UInt16}{B:Nat}(h:0<r.length-> ∃g,A=some ⟨g,0,none⟩/\B<=g/\Row w g 252 (DA r))(hb:Below w.heap.size w w'):
  Hid (0<(r.map FB).length-> ∃ad,A=some ad/\ ∀j v,(r.map FB)[j]? =some v->w'.cell? (ad.add j)=some v):=by
 intro hp
 rw[List.length_map]at hp
 obtain⟨g,e,hg,hr⟩:=h hp
 refine⟨_,e,fun j v hj=>?_⟩
 have R:=hr.stays hb
 rw[Addr.add_mid,Nat.zero_add,R.cell,DA,List.getElem?_toArray]
 exact hj
theorem bJ:Tryz.prog.arrayLen 253=8:=by kernel_rfl
theorem kM:Tryz.prog.elem 253=252:=by kernel_rfl
theorem vZ(g m:Nat)(hm:m<=8): ∃A:Addr,(0<m->A=⟨g,8-m,none⟩)/\
  ∀W,(Instr.sliceAt 253 (.pointer (some ⟨g,0,none⟩)) (some (.int .i64 (8- (m:Int)))) none none).run Tryz.prog W= .ok (.slice (some A) m m) W:=by
 refine⟨if 8=8-m then⟨g,0,none⟩else(⟨g,0,none⟩:Addr).add ((8-m)*1),fun h=>?_,fun W=>?_⟩
 ·rw[if_neg (by omega),Addr.add_mid,Nat.zero_add,Nat.mul_one]
 ·have ht:Tryz.prog.underlying 253=some (.array (Tryz.prog.arrayLen 253) (Tryz.prog.elem 253)):=by rw[bJ,kM];exact Tryz.underlying253
  rw[run_sliceAt_array_l W 253 ⟨g,0,none⟩ ht .i64 (8- (m:Int)) (by omega) (by rw[bJ];omega),kM]
  have hs:(sizeOf 252).run Tryz.prog W= .ok 1 W:=by kernel_rfl
  rw[hs,Result.andThen_ok,bJ,slicedAt]
  have e:(8- (m:Int)).toNat=8-m:=by omega
  have e2:8- (8-m)=m:=by omega
  rw[e,e2]
theorem rR {α β:Type}(f:α->β)(l:List α)(o:Nat)(c:List α):splice (l.map f) o (c.map f)=(splice l o c).map f:=by
 unfold splice;simp[List.map_take,List.map_drop]
theorem kAK(b h:List UInt16)(hle:b.length+h.length<=8):splice (splice zG 0 b) (8-h.length) h=b++List.replicate (8- (b.length+h.length)) 0++h:=by
 unfold splice zG
 have e1:b++List.drop (0+b.length) (List.replicate 8 (0:UInt16))=b++List.replicate (8-b.length) 0:=by rw[Nat.zero_add,List.drop_replicate]
 have e2:([]:List UInt16)++(b++List.replicate (8-b.length) 0)=b++List.replicate (8-b.length) 0:=rfl
 rw[List.take_zero,e1,e2,List.take_append,List.take_of_length_le (by omega),List.take_replicate,List.drop_eq_nil_of_le (by simp;omega),List.append_nil]
 have e3:min (8-h.length-b.length) (8-b.length)=8- (b.length+h.length):=by omega
 rw[e3]
theorem jAF {w:World}{g:Nat}(b h:List UInt16)(hle:b.length+h.length<=8)(hw:w.heap[g]? =some (.cells (splice (splice (zG.map FB) 0 (b.map FB)) (8-h.length) (h.map FB)).toArray 253 (0,0))):
  Row w g 253 (DA (b++List.replicate (8- (b.length+h.length)) 0++h)):=by
 rw[rR,rR,kAK b h hle]at hw
 exact hw
theorem N6(r:List UInt16): ∀v∈r.map FB,v.oneCell'=true:=by
 intro v hv;obtain⟨x,_,rfl⟩:=List.mem_map.1 hv;rfl
theorem mAa(s:ByteArray)(w:World)(hw:Std w)(hs:s.size<=1048576):
  Calls Tryz.prog 198 #[.string s] w (SA (aA.addrOf (aA.v6 s.data.toList)) (aA.v6 s.data.toList).isSome w):=by
 have hcs:=aA.cA5 s.data.toList
 rw[Oct.oA]at hcs
 have HC:=zA7 (fun W (h:Std W)=>bAZ s ⟨#[58,58]⟩ W h (by omega))
 have eV:(⟨#[58,58]⟩:ByteArray).data.toList= [58,58]:=rfl
 rw[eV]at HC
 clear eV
 generalize hcut:Lib.cut s.data.toList [58,58]=c at*
 obtain⟨b,h,gap⟩:=c
 have tL:=zA7 hcut
 clear hcut
 simp only at HC hcs
 have lb:=aA.fZ b
 have lh:=aA.fZ h
 obtain⟨sb,hsb⟩: ∃x:ByteArray,x=⟨b.toArray⟩:=⟨_,rfl⟩
 obtain⟨sh,hsh⟩: ∃x:ByteArray,x=⟨h.toArray⟩:=⟨_,rfl⟩
 have zb:sb.size=b.length:=by rw[hsb];exact List.size_toArray
 have zh:sh.size=h.length:=by rw[hsh];exact List.size_toArray
 have RB:=zA7 (fun W=>eZ sb W (by omega))
 have RH:=zA7 (fun W=>eZ sh W (by omega))
 have eb:sb.data.toList=b:=by rw[hsb]
 have eh:sh.data.toList=h:=by rw[hsh]
 rw[eb]at RB
 rw[eh]at RH
 rw[<-hsb,<-hsh]at HC
 clear hsb hsh zb zh eb eh
 have z1:=wG
 have z2:=L6
 go_enter Tryz.func198,Tryz.ntmps198
 go_wp2_with fail
 have H0:=hw.below ((Below.refl _ _).alloc (zB3 _) (.cells (fA zA) 30))
 have R0:=Row.new w 30 (fA zA)
 have B0:=(Below.refl w.heap.size w).alloc (zB3 _) (.cells (fA zA) 30)
 have s0:w.heap.size<(w.alloc (.cells (fA zA) 30)).heap.size:=by simp
 generalize w.alloc (.cells (fA zA) 30)=w0 at*
 refine(HC.out _ H0).mono ?_
 rintro e w1 ⟨rfl,b1⟩
 have R1:=R0.stays b1
 have B1:=B0.trans (b1.mono (Nat.le_of_lt s0))
 have s1:=b1.size
 clear R0 B0 b1 HC H0
 go_wp2_with fail
 refine(RB.out _).mono ?_
 rintro e w2 hr
 obtain⟨b2,hr⟩:=hr.parts
 have R2:=R1.stays b2
 have B2:=B1.trans (b2.mono (by omega))
 have s2:=b2.size
 clear R1 B1 b2
 cases hf:aA.fits ((aA.row b).length+(aA.row h).length) gap with
 |true=>
  have hle:=aA.dAn hf
  have FT:=zA7 (fun W=>lV (aA.row b).length (aA.row h).length gap W (by omega))
  rw[hf]at FT
  have HF:=zA7 hf
  clear hf
  rcases hr with⟨y1,rfl⟩|⟨y1,A,rfl,hA⟩
  ·have HN:=zA7 (NQ (aA.XR tL.out (.inl y1)))
   clear y1
   go_wp2_with fail
   refine(RH.out _).mono ?_
   rintro e w3 hr
   obtain⟨b3,hr⟩:=hr.parts
   have R3:=R2.stays b3
   have B3:=B2.trans (b3.mono (by omega))
   clear R2 B2 b3
   rcases hr with⟨y2,rfl⟩|⟨y2,A2,rfl,hA2⟩
   all_goals
    clear y2
    go_wp2_with (refine wpList_store_row rfl 30 _ _ rfl w.heap.size (fA zA) rfl rfl 30 _ R3 vA rfl (WA _) ?_)
    rw[HN.out]
    exact bodyPost_ret (yA rfl _ _ w.heap.size _ _ _ rfl _ rfl (R3.whole _) Tryz.underlying30 rfl vA) rfl ⟨rfl,below_setRow B3 (zB3 _) _⟩
  ·have TE:=zA7 y1
   clear y1
   go_wp2_with fail
   refine(RH.out _).mono ?_
   rintro e w3 hr
   obtain⟨b3,hr⟩:=hr.parts
   have R3:=R2.stays b3
   have B3:=B2.trans (b3.mono (by omega))
   have hA3:0<(aA.row b).length-> ∃g,A=some ⟨g,0,none⟩/\w1.heap.size<=g/\Row w3 g 252 (DA (aA.row b)):=fun hp=>by
    obtain⟨g,e,hg,hr⟩:=hA hp
    exact⟨g,e,hg,hr.stays b3⟩
   have s3:=b3.size
   clear R2 B2 b3 hA
   rcases hr with⟨y2,rfl⟩|⟨y2,A2,rfl,hA2⟩
   ·have HN:=zA7 (NQ (aA.XR tL.out (.inr (.inl y2))))
    clear y2
    go_wp2_with (refine wpList_store_row rfl 30 _ _ rfl w.heap.size (fA zA) rfl rfl 30 _ R3 vA rfl (WA _) ?_)
    rw[HN.out]
    exact bodyPost_ret (yA rfl _ _ w.heap.size _ _ _ rfl _ rfl (R3.whole _) Tryz.underlying30 rfl vA) rfl ⟨rfl,below_setRow B3 (zB3 _) _⟩
   ·have HS:=zA7 (aA.mAe tL.out TE.out y2 HF.out)
    have HG:=zA7 (show(aA.row b++List.replicate (8- ((aA.row b).length+(aA.row h).length)) 0++aA.row h).length=8 by simp;omega)
    clear y2
    have M7:=zA7 hA3
    have HA2:=zA7 hA2
    clear hA3 hA2
    have P1:=jU (aA.row b) 8 (by omega)
    have P2:=kU M7.out ((Below.refl w3.heap.size w3).alloc (zB3 _) (.cells (DA zG) 253))
    have P3:=zA7 (show 0+((aA.row b).map FB).length<=(zG.map FB).length by simp[Z6];omega)
    have Q1:=jU (aA.row h) (aA.row h).length (zB3 _)
    obtain⟨A3,hA3,hsl⟩:=vZ w3.heap.size (aA.row h).length (by omega)
    have Q7:=zA7 hA3
    clear hA3
    have Q3:=zA7 (show 8- (aA.row h).length+((aA.row h).map FB).length<=(splice (zG.map FB) 0 ((aA.row b).map FB)).length by rw[length_splice _ _ _ P3.out,List.length_map,List.length_map,Z6];omega)
    go_wp2_with (first
     |(go_at_call 247;refine(FT.out _).mono ?_;rintro e w4 ⟨rfl,rfl⟩)
     |(refine jA 47 rfl ?_
       refine wpList_copy_splice rfl (.tmp 45) (.tmp 46) 258 258 rfl 252 Tryz.underlying258 FW (some ⟨w3.heap.size,0,none⟩) A 8 8 (aA.row b).length (aA.row b).length rfl rfl
        w3.heap.size 0 (zG.map FB) 253 (Row.new w3 253 (DA zG)) ((aA.row b).map FB) P1.out (fun hp=>⟨rfl,P2.out hp⟩) P3.out (N6 _) w3.heap.size _ (Below.refl _ _) (zB3 _) ?_
       intro w4 hw4 hb4
       have nS:=zA7 (((Below.refl w3.heap.size w3).alloc (zB3 _) (.cells (DA zG) 253)).trans hb4)
       have s4:w3.heap.size<w4.heap.size:=by have:=hb4.size;simp at this;omega
       have Q2:=kU HA2.out nS.out
       clear hb4)
     |(refine jA 53 rfl ?_
       refine wpList_copy_splice rfl (.tmp 51) (.tmp 52) 258 258 rfl 252 Tryz.underlying258 FW (some A3) A2 (aA.row h).length (aA.row h).length (aA.row h).length (aA.row h).length rfl rfl
        w3.heap.size (8- (aA.row h).length) (splice (zG.map FB) 0 ((aA.row b).map FB)) 253 hw4.out ((aA.row h).map FB) Q1.out (fun hp=>⟨by rw[Q7.out (by simpa using hp)],Q2.out hp⟩) Q3.out (N6 _) w3.heap.size _ (Below.refl _ _) (zB3 _) ?_
       intro w5 GM hb5
       have jO:=zA7 (nS.out.trans hb5)
       have R5:=jAF (aA.row b) (aA.row h) hle GM.out
       generalize aA.row b++List.replicate (8- ((aA.row b).length+(aA.row h).length)) 0++aA.row h=G at*
       have R6:=R3.stays jO.out
       have HT:=zA7 (fun W=>dAG G HG.out W)
       have HZ:=zA7 (show(DA G).size=8 by rw[lL,HG.out])
       clear hb5)
     |(refine jA 54 rfl ?_
       refine wpList_load_row rfl 253 _ rfl w3.heap.size rfl 253 _ (0,0) _ R5 Tryz.underlying253 rfl (by rw[HZ.out];exact SI) ?_)
     |(go_at_call 248
       refine(HT.out _).mono ?_
       rintro e w6 ⟨rfl,b6⟩
       have R7:=R6.stays b6
       have HZ2:=zA7 (show(fA (aA.from_ G)).size=16 by rw[gC,aA.cF,HG.out]))
     |(refine wpList_store_row rfl 30 _ _ rfl w.heap.size (fA (aA.from_ G)) rfl rfl 30 _ R7 (by rw[HZ2.out];exact vA) (by rw[HZ2.out];rfl) (WA _) ?_))
    rw[HS.out]
    have s35:w3.heap.size<=w5.heap.size:=jO.out.size
    have s03:w.heap.size<=w3.heap.size:=B3.size
    have B6:=B3.trans ((jO.out.trans (b6.mono s35)).mono s03)
    exact bodyPost_ret (yA rfl _ _ w.heap.size _ _ _ rfl _ rfl (R7.whole _) Tryz.underlying30 rfl (by rw[HZ2.out];exact vA)) rfl ⟨rfl,below_setRow B6 (zB3 _) _⟩
 |false=>
  have HN:=zA7 (NQ (aA.XR tL.out (.inr (.inr hf))))
  have FT:=zA7 (fun W=>lV (aA.row b).length (aA.row h).length gap W (by omega))
  rw[hf]at FT
  have HF:=zA7 hf
  clear hf
  rcases hr with⟨y1,rfl⟩|⟨y1,A,rfl,hA⟩
  all_goals
   have TE:=zA7 y1
   clear y1
   go_wp2_with fail
   refine(RH.out _).mono ?_
   rintro e w3 hr
   obtain⟨b3,hr⟩:=hr.parts
   have R3:=R2.stays b3
   have B3:=B2.trans (b3.mono (by omega))
   clear R2 B2 b3
   rcases hr with⟨y2,rfl⟩|⟨y2,A2,rfl,hA2⟩
   all_goals
    have HY2:=zA7 y2
    clear y2
    go_wp2_with (first
     |(go_at_call 247;refine(FT.out _).mono ?_;rintro e w4 ⟨rfl,rfl⟩)
     |(refine wpList_store_row rfl 30 _ _ rfl w.heap.size (fA zA) rfl rfl 30 _ R3 vA rfl (WA _) ?_))
    rw[HN.out]
    exact bodyPost_ret (yA rfl _ _ w.heap.size _ _ _ rfl _ rfl (R3.whole _) Tryz.underlying30 rfl vA) rfl ⟨rfl,below_setRow B3 (zB3 _) _⟩
end Go.Proofs.YtdaaoopkkhfbhaaGreatDoor
namespace Go.Proofs.YtdaaoopkkhfbhaaGreatDoor
open Go.RowKit
namespace aA
def nums(ps:List (List UInt8)):List UInt8:=ps.map fun p=>UInt8.ofNat (Oct.number p)
theorem nums_length(ps:List (List UInt8)):(nums ps).length=ps.length:=by simp[nums]
theorem mY {ps:List (List UInt8)}{k:Nat}{p:List UInt8}(h:ps[k]? =some p):(nums ps)[k]? =some (UInt8.ofNat (Oct.number p)):=by simp[nums,h]
theorem X3 {s:List UInt8}(h:(Oct.split 46 s).length≠4):v4 s=none:=by unfold v4;rw[if_neg fun h1=>h h1.1]
theorem VN {s:List UInt8}{k:Nat}{p:List UInt8}(hp:(Oct.split 46 s)[k]? =some p)(hn:JD p=false):v4 s=none:=by
 unfold v4
 rw[if_neg fun h1=>?_]
 have:=List.all_eq_true.1 h1.2 p (List.mem_of_getElem? hp)
 rw[hn]at this;cases this
theorem A4 {s:List UInt8}(h:(Oct.split 46 s).length=4)(ha:(Oct.split 46 s).all JD=true):v4 s=some (nums (Oct.split 46 s)):=by unfold v4;rw[if_pos ⟨h,ha⟩];rfl
theorem fY {ps:List (List UInt8)}{k:Nat}{p:List UInt8}(h:(ps.take k).all JD=true)(hp:ps[k]? =some p)(hq:JD p=true):(ps.take (k+1)).all JD=true:=by
 rw[List.all_eq_true]at h⊢
 exact Oct.qJ (Q:=fun p=>JD p=true) h hp hq
theorem qY(p:List UInt8):(JD p=false/\Oct.isNum p=false)\/(JD p=false/\Oct.isNum p=true/\255<Oct.number p)\/(JD p=true/\Oct.isNum p=true/\Oct.number p<=255):=by
 unfold JD
 cases h:Oct.isNum p
 ·exact .inl ⟨by simp,rfl⟩
 ·by_cases h2:Oct.number p<=255
  ·exact .inr (.inr ⟨by simp[h2],rfl,h2⟩)
  ·exact .inr (.inl ⟨by simp[h2],rfl,by omega⟩)
theorem lY(p:List UInt8):Oct.number p<=999999999999999999:=by
 unfold Oct.number
 split
 ·rename_i h
  unfold Oct.isNum at h
  rw[Bool.and_eq_true,Bool.and_eq_true]at h
  obtain⟨⟨hd,hl⟩,_⟩:=h
  have hl:=zB1 hl
  have:=Oct.PQ (s:=⟨p.toArray⟩) hd p.length (by show p.length<=p.toArray.size;simp)
  rw[List.take_of_length_le (by show p.toArray.toList.length<=_;simp)]at this
  have h2:10^p.length<=10^18:=Nat.pow_le_pow_right (by omega) hl
  have e:(⟨p.toArray⟩:ByteArray).data.toList=p:=rfl
  rw[e]at this
  omega
 ·omega
end aA
def zF:List UInt8:=List.replicate 4 0
theorem bAa: #[Value.int .u8 0,.int .u8 0,.int .u8 0,.int .u8 0]=fA zF:=by rfl
theorem dA5(l:List UInt8):aA.fill l 0 4 0=zF:=aA.KF l 0 4
theorem fAv:(Tryz.prog.info? 5).map (·.size)=some 1:=by kernel_rfl
theorem bAc(r:List UInt8): ∀v∈r.map BA,v.oneCell'=true:=by
 intro v hv;obtain⟨x,_,rfl⟩:=List.mem_map.1 hv;rfl
theorem kAJ(l:List UInt8)(hl:l.length=4):splice zA 12 l=List.replicate 12 0++l:=by
 unfold splice zA
 rw[List.take_replicate,List.drop_eq_nil_of_le (by simp;omega),List.append_nil];rfl
theorem jAE {w:World}{g:Nat}(l:List UInt8)(hl:l.length=4)(hw:w.heap[g]? =some (.cells (splice (zA.map BA) 12 (l.map BA)).toArray 30 (0,0))):Row w g 30 (fA (List.replicate 12 0++l)):=by
 rw[rR,kAJ l hl]at hw
 exact hw
theorem jAJ {w:World}{g:Nat}{t:TypeId}{l:List UInt8}(h:Row w g t (fA l)): ∀j v,(l.map BA)[j]? =some v->w.cell? ((⟨g,0,none⟩:Addr).add j)=some v:=by
 intro j v hj
 rw[Addr.add_mid,Nat.zero_add,h.cell,fA,List.getElem?_toArray]
 exact hj
theorem mA6(s:ByteArray)(w:World)(hs:s.size<=1048576):
  Calls Tryz.prog 199 #[.string s] w (SA (aA.WC (aA.v4 s.data.toList)) (aA.v4 s.data.toList).isSome w):=by
 have hlen:=Oct.eI 46 s.data.toList
 have hp:=Oct.aG 46 s.data.toList
 have hsm:=Oct.fI 46 s.data.toList
 rw[Oct.oA]at hlen hsm
 obtain⟨ps,hps⟩: ∃ps,ps=Oct.split 46 s.data.toList:=⟨_,rfl⟩
 rw[<-hps]at hlen hp hsm
 have HP:=zA7 hps
 have UC:=zA7 hsm
 have HC: ∀W,Calls Tryz.prog 88 #[.string s,.int .u8 46] W (AI W.heap.size ps W):=fun W=>by rw[hps];exact sR s 46 W (by omega)
 have uC:=zA7 HC
 clear hps HC hsm
 have z1:=wG
 go_enter Tryz.func199,Tryz.ntmps199
 go_wp2_with fail
 have R0:=Row.new w 30 (fA zA)
 have B0:=(Below.refl w.heap.size w).alloc (zB3 _) (.cells (fA zA) 30)
 have s0:w.heap.size<(w.alloc (.cells (fA zA) 30)).heap.size:=by simp
 generalize w.alloc (.cells (fA zA) 30)=w0 at*
 refine(uC.out _).mono ?_
 rintro e w1 ⟨g,cap,rfl,hown,hb⟩
 have R1:=R0.stays hb
 have B1:=B0.trans (hb.mono (Nat.le_of_lt s0))
 have s1:=hb.size
 have hgl:=(hown.lt g rfl)
 clear R0 B0 hb
 by_cases h4:ps.length=4
 ·have HL:=zA7 h4
  have RP:((ps.length:Int) !=4)=false:=by rw[h4];rfl
  clear h4
  have z4:=bAa
  go_wp2
  have hown2:=hown.alloc (.cells (fA zF) 283)
  have R2:=R1.alloc (.cells (fA zF) 283)
  have F2:=Row.new w1 283 (fA zF)
  rw[<-dA5 (aA.nums ps)]at F2
  have B2:=B1.alloc (by omega) (.cells (fA zF) 283)
  have n1:w0.heap.size<=w1.heap.size:=s1
  generalize w1.heap.size=N at*
  clear hown R1 B1
  have qC:=zA7 (show(aA.nums ps).length=4 by rw[aA.nums_length,HL.out])
  go_loopw [16] (fun i wr=> ∃k:Nat,k<=4/\i= .int .i64 k/\wr.ownsRow w0.heap.size 9 1 (.slice (some ⟨g,0,none⟩) ps.length cap) ps.length (ps.map gA)/\Row wr w.heap.size 30 (fA zA)/\Row wr N 283 (fA (aA.fill (aA.nums ps) 0 4 k))/\(ps.take k).all aA.JD=true/\Below w.heap.size w wr) (fun i _=>4- (intOf i).toNat)
  case atStart=>exact⟨0,Nat.zero_le _,rfl,hown2,R2,F2,by simp,B2⟩
  case round=>
   clear hown2 R2 F2 B2
   obtain⟨k,hk,rfl,hown,R,F,hall,hb⟩:=hrel
   have HA:=zA7 hall
   clear hall
   by_cases hlt:k<4
   ·have hkl:k<ps.length:=by rw[HL.out];exact hlt
    obtain⟨p,t,h1,hcell,h3,_,h5⟩:=kJ hown hkl
    have hpl:=UC.out p (List.mem_of_getElem? h1)
    have ht:t.size<=maxLen:=by unfold maxLen;omega
    have HC:=zA7 (fun W=>hAF t W ht)
    rw[h3]at HC
    have H1:=zA7 h1
    have hbig:=aA.lY p
    clear h1 h3 h5 hpl ht
    rcases aA.qY p with⟨hk1,hk2⟩|⟨hk1,hk2,hk3⟩|⟨hk1,hk2,hk3⟩
    ·have HN:=zA7 (show SA (aA.WC (aA.v4 s.data.toList)) (aA.v4 s.data.toList).isSome=SA zA false by rw[aA.VN (by rw[<-HP.out];exact H1.out) hk1];rfl)
     rw[hk2]at HC
     clear hk1 hk2
     go_wp2_with (first
      |(go_at_call 249;refine(HC.out _).mono ?_;rintro e w' ⟨rfl,rfl⟩)
      |(refine wpList_store_row rfl 30 _ _ rfl w.heap.size (fA zA) rfl rfl 30 _ R vA rfl (WA _) ?_))
     rw[HN.out]
     exact bodyPost_ret (yA rfl _ _ w.heap.size _ _ _ rfl _ rfl (R.whole _) Tryz.underlying30 rfl vA) rfl ⟨rfl,below_setRow hb (zB3 _) _⟩
    ·have HN:=zA7 (show SA (aA.WC (aA.v4 s.data.toList)) (aA.v4 s.data.toList).isSome=SA zA false by rw[aA.VN (by rw[<-HP.out];exact H1.out) hk1];rfl)
     rw[hk2]at HC
     clear hk1 hk2
     go_wp2_with (first
      |(go_at_call 249;refine(HC.out _).mono ?_;rintro e w' ⟨rfl,rfl⟩)
      |(refine wpList_store_row rfl 30 _ _ rfl w.heap.size (fA zA) rfl rfl 30 _ R vA rfl (WA _) ?_))
     rw[HN.out]
     exact bodyPost_ret (yA rfl _ _ w.heap.size _ _ _ rfl _ rfl (R.whole _) Tryz.underlying30 rfl vA) rfl ⟨rfl,below_setRow hb (zB3 _) _⟩
    ·rw[hk2]at HC
     have YG:=zA7 (aA.fY HA.out H1.out hk1)
     have hw:=aA.mY H1.out
     have hv:Value.int .u8 (Oct.number p:Int)=BA (UInt8.ofNat (Oct.number p)):=by unfold BA;rw[UInt8.toNat_ofNat'];exact dB (by omega)
     have hfl:=aA.DG (z:=(0:UInt8)) (n:=4) (k:=k) qC.out hk
     obtain⟨u1,c1⟩: ∃u,wr.cell? ⟨N,k,none⟩=some u:=⟨_,by rw[F.cell];exact Array.getElem?_eq_getElem (by rw[gC,hfl];exact hlt)⟩
     have f1:=F.free k
     have F3:=F.set k (BA (UInt8.ofNat (Oct.number p)))
     rw[qH,aA.aF qC.out hlt hw,<-hv]at F3
     have B3:=hb.setCell (p:=⟨N,k,none⟩) (by simp;omega) (.int .u8 (Oct.number p:Int))
     have R3:=R.other (p:=⟨N,k,none⟩) (by simp;omega) (.int .u8 (Oct.number p:Int))
     have O3:=lJ hown (p:=⟨N,k,none⟩) (by simp[Value.ownBlock];omega) (.int .u8 (Oct.number p:Int))
     clear hk1 hk2 hw hv hfl F hb R hown
     generalize Oct.number p=x at*
     go_wp2_with (go_at_call 249;refine(HC.out _).mono ?_;rintro e w' ⟨rfl,rfl⟩)
     go_roundw
     case rel=>exact⟨k+1,by omega,by go_num,O3,R3,F3,YG.out,B3⟩
     case measure=>simp[intOf];omega
   ·have hkk:k=4:=by omega
    subst hkk
    rw[aA.CG qC.out]at F
    have HS:=zA7 (show aA.v4 s.data.toList=some (aA.nums ps) by
     have:=aA.A4 (s:=s.data.toList) (by rw[<-HP.out];exact HL.out) (by rw[<-HP.out];have:=HA.out;rw[List.take_of_length_le (by have:=HL.out;omega)]at this;exact this)
     rw[<-HP.out]at this
     exact this)
    have P1:=zA7 (show((aA.nums ps).map BA).length=Nat.min 4 4 by rw[List.length_map,qC.out];rfl)
    have P3:=zA7 (show 12+((aA.nums ps).map BA).length<=(zA.map BA).length by rw[List.length_map,List.length_map,qC.out,mAJ];exact zB3 16)
    have P2:=zA7 (jAJ ((F.alloc (.cells (fA zA) 30)).drew))
    have PN:=zA7 ((Row.new wr 30 (fA zA)).drew)
    have BB:=zA7 (((Below.refl wr.heap.size wr).alloc (zB3 _) (.cells (fA zA) 30)).drew)
    have sB:=hb.size
    go_wp2
    go_region_held3 (fun _=>True) (trivial) ((refine step_copy_splice (by rfl) (.tmp 39) (.tmp 40) 61 61 (by rfl) 5 Tryz.underlying61 fAv (some ⟨wr.heap.size,12,none⟩) (some ⟨N,0,none⟩) 4 4 4 4 (by rfl) (by rfl) wr.heap.size 12 (zA.map BA) 30 PN.out ((aA.nums ps).map BA) P1.out (fun _=>⟨rfl,_,rfl,P2.out⟩) P3.out (bAc _) wr.heap.size _ (Below.refl _ _) (zB3 _) ?_;intro w5 GM hb5))
    all_goals
     have R5:=jAE (aA.nums ps) qC.out GM.out
     have H5:=zA7 (BB.out.trans hb5)
     have R6:=R.stays H5.out
     have HZ:=zA7 (show(fA (List.replicate 12 0++aA.nums ps)).size=16 by rw[gC,zB4,qC.out,List.length_replicate])
     have HD:=zA7 (show aA.WC (some (aA.nums ps))=List.replicate 12 0++aA.nums ps from rfl)
     generalize List.replicate 12 0++aA.nums ps=G at*
     have B6:=hb.trans (H5.out.mono sB)
     clear hb5 GM hown F
     go_wp2_with (first
      |(refine jA 42 rfl ?_
        refine wpList_load_row rfl 30 _ rfl wr.heap.size rfl 30 _ (0,0) _ R5 Tryz.underlying30 rfl (by rw[HZ.out];exact vA) ?_)
      |(refine wpList_store_row rfl 30 _ _ rfl w.heap.size (fA G) rfl rfl 30 _ R6 (by rw[HZ.out];exact vA) (by rw[HZ.out];rfl) (WA _) ?_))
     rw[HS.out,HD.out]
     exact bodyPost_ret (yA rfl _ _ w.heap.size _ _ _ rfl _ rfl (R6.whole _) Tryz.underlying30 rfl (by rw[HZ.out];exact vA)) rfl ⟨rfl,below_setRow B6 (zB3 _) _⟩
 ·have HN:=zA7 (show SA (aA.WC (aA.v4 s.data.toList)) (aA.v4 s.data.toList).isSome=SA zA false by rw[aA.X3 (by rw[<-HP.out];exact h4)];rfl)
  have RP:((ps.length:Int) !=4)=true:=by rw[bne_iff_ne];omega
  clear h4
  go_wp2_with (refine wpList_store_row rfl 30 _ _ rfl w.heap.size (fA zA) rfl rfl 30 _ R1 vA rfl (WA _) ?_)
  rw[HN.out]
  exact bodyPost_ret (yA rfl _ _ w.heap.size _ _ _ rfl _ rfl (R1.whole _) Tryz.underlying30 rfl vA) rfl ⟨rfl,below_setRow B1 (zB3 _) _⟩
end Go.Proofs.YtdaaoopkkhfbhaaGreatDoor
namespace Go.Proofs.YtdaaoopkkhfbhaaGreatDoor
open Go.RowKit
namespace bA
theorem kAT {l:List UInt8}(h:l.getLast?=some 93):Lib.hasSuffix l [93]=true/\Lib.trimSuffix l [93]=l.dropLast:=by
 obtain⟨r,rfl⟩: ∃r,l=r++ [93]:=by
  rcases List.eq_nil_or_concat l with rfl|⟨r,c,rfl⟩
  ·cases h
  ·rw[List.concat_eq_append,List.getLast?_append]at h
   simp at h
   exact⟨r,by rw[List.concat_eq_append,h]⟩
 have e:Lib.hasSuffix (r++ [93]) [93]=true:=by unfold Lib.hasSuffix;exact List.isSuffixOf_iff_suffix.2 ⟨r,rfl⟩
 refine⟨e,?_⟩
 unfold Lib.trimSuffix
 rw[if_pos e]
 simp
theorem kAQ {l:List UInt8}(h:l.getLast?≠some 93):Lib.hasSuffix l [93]=false:=by
 cases e:Lib.hasSuffix l [93]with
 |false=>rfl
 |true=>
  obtain⟨r,rfl⟩:=List.isSuffixOf_iff_suffix.1 e
  exact absurd (by simp) h
theorem YR(l:List UInt8):jD l=if(Lib.hasSuffix l [93]&& (aA.v6 (Lib.trimSuffix l [93])).isSome)=true then some ⟨3,[],aA.addrOf (aA.v6 (Lib.trimSuffix l [93]))⟩else none:=by
 unfold jD
 by_cases h:l.getLast?=some 93
 ·obtain⟨e1,e2⟩:=kAT h
  rw[if_pos h,e1,e2]
  cases aA.v6 l.dropLast<;>rfl
 ·rw[if_neg h,kAQ h];rfl
theorem WN(l:List UInt8):yD l=if(aA.v4 l).isSome=true then some ⟨2,[],aA.WC (aA.v4 l)⟩else none:=by
 unfold yD
 cases aA.v4 l<;>rfl
theorem WO(s:List UInt8):(aA.WC (aA.v4 s)).length=16:=by
 unfold aA.v4
 split
 ·next h=>show(List.replicate 12 0++_).length=16;rw[zB4,List.length_replicate,List.length_map,h.1]
 ·rfl
end bA
theorem eAL(r:ByteArray)(w:World)(hw:Std w)(hs:r.size<=1048576):
  Calls Tryz.prog 140 #[.string r] w (aC (bA.jD r.data.toList) w):=by
 have z0:=WD
 have z1:=wG
 have HZ0:=zA7 (show(cA bA.zero).size=18 from rfl)
 have H1:=zA7 (fun W=>Tryz.strings_CutSuffix r ⟨#[93]⟩ W (by omega))
 have hle:=Lib.trimSuffix_le r.data.toList [93]
 rw[Oct.oA]at hle
 have H2:=zA7 (fun W h=>mAa ⟨(Lib.trimSuffix r.data.toList [93]).toArray⟩ W h (by show(List.toArray _).size<=_;simp;omega))
 have HN:=zA7 (bA.YR r.data.toList)
 have ha:(aA.addrOf (aA.v6 (Lib.trimSuffix r.data.toList [93]))).length=16:=aA.XO _
 have e1:(⟨#[93]⟩:ByteArray).data.toList= [93]:=rfl
 have e2:(⟨(Lib.trimSuffix r.data.toList [93]).toArray⟩:ByteArray).data.toList=Lib.trimSuffix r.data.toList [93]:=rfl
 rw[e1]at H1
 rw[e2]at H2
 generalize bA.jD r.data.toList=V at*
 generalize aA.addrOf (aA.v6 (Lib.trimSuffix r.data.toList [93]))=a at*
 generalize(aA.v6 (Lib.trimSuffix r.data.toList [93])).isSome=ok at*
 generalize Lib.hasSuffix r.data.toList [93]=closed at*
 generalize(⟨(Lib.trimSuffix r.data.toList [93]).toArray⟩:ByteArray)=i at*
 clear hle e1 e2
 have sD:=zA7 (show(fA a).size=16 by rw[gC,ha])
 have HH:=zA7 (XA ⟨3,[],a⟩ ha)
 have HB:=zA7 (ZL 3 a ha)
 clear ha
 go_enter Tryz.func140,Tryz.ntmps140
 go_wp2_with fail
 have R0:=Row.new w 32 (cA bA.zero)
 have B0:=(Below.refl w.heap.size w).alloc (zB3 _) (.cells (cA bA.zero) 32)
 generalize w.alloc (.cells (cA bA.zero) 32)=w0 at*
 refine(H1.out _).mono ?_
 rintro e v1 ⟨rfl,rfl⟩
 go_wp2_with fail
 refine(H2.out _ (hw.below B0)).mono ?_
 rintro e v2 ⟨rfl,d2⟩
 have R1:=R0.stays d2
 have B1:=B0.trans (d2.mono B0.size)
 obtain⟨T,U,C,L⟩:=PA 30 (fA zA) (fA a) B1 B1.size
 have R2:=L _ _ _ R1
 clear L R0 R1 B0 B1 d2
 cases closed<;>cases ok
 all_goals
  go_wp2_with (first
   |(refine wpList_store_row rfl 30 _ _ rfl v2.heap.size (fA a) rfl rfl 30 _ T (by rw[sD.out];exact vA) (by rw[sD.out];rfl) (WA _) ?_)
   |(refine jA 25 rfl ?_;refine pA rfl 30 _ rfl v2.heap.size rfl U Tryz.underlying30 rfl (by rw[sD.out];exact vA) ?_)
   |(refine jA 26 rfl ?_;refine YD rfl 32 0 2 _ _ rfl _ _ rfl rfl (cA ⟨3,[],a⟩) HB.out ?_)
   |(refine wpList_store_row rfl 32 _ _ rfl w.heap.size (cA bA.zero) rfl rfl 32 _ R2 (by rw[HZ0.out];exact mA) rfl (bB _) ?_)
   |(refine wpList_store_row rfl 32 _ _ rfl w.heap.size (cA ⟨3,[],a⟩) rfl rfl 32 _ R2 (by rw[HH.out];exact mA) (by rw[HH.out];rfl) (bB _) ?_))
  rw[HN.out]
  first
   |exact bodyPost_ret (v:= .tuple #[.agg (cA bA.zero),.int .i64 31]) (yA rfl _ _ w.heap.size _ _ _ rfl _ rfl (R2.whole _) Tryz.underlying32 rfl (by rw[HZ0.out];exact mA)) rfl ⟨rfl,below_setRow C (zB3 _) _⟩
   |exact bodyPost_ret (v:= .tuple #[.agg (cA ⟨3,[],a⟩),.int .i64 0]) (yA rfl _ _ w.heap.size _ _ _ rfl _ rfl (R2.whole _) Tryz.underlying32 rfl (by rw[HH.out];exact mA)) rfl ⟨rfl,below_setRow C (zB3 _) _⟩
theorem hAJ(s:ByteArray)(w:World)(hs:s.size<=1048576):
  Calls Tryz.prog 142 #[.string s] w (aC (bA.yD s.data.toList) w):=by
 have z0:=WD
 have z1:=wG
 have HZ0:=zA7 (show(cA bA.zero).size=18 from rfl)
 have H2:=zA7 (fun W=>mA6 s W hs)
 have HN:=zA7 (bA.WN s.data.toList)
 have ha:(aA.WC (aA.v4 s.data.toList)).length=16:=bA.WO _
 generalize bA.yD s.data.toList=V at*
 generalize aA.WC (aA.v4 s.data.toList)=a at*
 generalize(aA.v4 s.data.toList).isSome=ok at*
 have sD:=zA7 (show(fA a).size=16 by rw[gC,ha])
 have HH:=zA7 (XA ⟨2,[],a⟩ ha)
 have HB:=zA7 (ZL 2 a ha)
 clear ha
 go_enter Tryz.func142,Tryz.ntmps142
 go_wp2_with fail
 have R0:=Row.new w 32 (cA bA.zero)
 have B0:=(Below.refl w.heap.size w).alloc (zB3 _) (.cells (cA bA.zero) 32)
 generalize w.alloc (.cells (cA bA.zero) 32)=w0 at*
 refine(H2.out _).mono ?_
 rintro e v2 ⟨rfl,d2⟩
 have R1:=R0.stays d2
 have B1:=B0.trans (d2.mono B0.size)
 obtain⟨T,U,C,L⟩:=PA 30 (fA zA) (fA a) B1 B1.size
 have R2:=L _ _ _ R1
 clear L R0 R1 B0 B1 d2
 cases ok
 all_goals
  go_wp2_with (first
   |(refine wpList_store_row rfl 30 _ _ rfl v2.heap.size (fA a) rfl rfl 30 _ T (by rw[sD.out];exact vA) (by rw[sD.out];rfl) (WA _) ?_)
   |(refine jA 14 rfl ?_;refine pA rfl 30 _ rfl v2.heap.size rfl U Tryz.underlying30 rfl (by rw[sD.out];exact vA) ?_)
   |(refine jA 15 rfl ?_;refine YD rfl 32 0 2 _ _ rfl _ _ rfl rfl (cA ⟨2,[],a⟩) HB.out ?_)
   |(refine wpList_store_row rfl 32 _ _ rfl w.heap.size (cA bA.zero) rfl rfl 32 _ R2 (by rw[HZ0.out];exact mA) rfl (bB _) ?_)
   |(refine wpList_store_row rfl 32 _ _ rfl w.heap.size (cA ⟨2,[],a⟩) rfl rfl 32 _ R2 (by rw[HH.out];exact mA) (by rw[HH.out];rfl) (bB _) ?_))
  rw[HN.out]
  first
   |exact bodyPost_ret (v:= .tuple #[.agg (cA bA.zero),.int .i64 31]) (yA rfl _ _ w.heap.size _ _ _ rfl _ rfl (R2.whole _) Tryz.underlying32 rfl (by rw[HZ0.out];exact mA)) rfl ⟨rfl,below_setRow C (zB3 _) _⟩
   |exact bodyPost_ret (v:= .tuple #[.agg (cA ⟨2,[],a⟩),.int .i64 0]) (yA rfl _ _ w.heap.size _ _ _ rfl _ rfl (R2.whole _) Tryz.underlying32 rfl (by rw[HH.out];exact mA)) rfl ⟨rfl,below_setRow C (zB3 _) _⟩
end Go.Proofs.YtdaaoopkkhfbhaaGreatDoor
namespace Go.Proofs.YtdaaoopkkhfbhaaGreatDoor
open Go.RowKit
theorem hAL(c:UInt8)(w:World):
  Calls Tryz.prog 202 #[.int .u8 (c.toNat:Int)] w fun e w'=>e= .returned (.bool (bA.okB c))/\w=w':=by
 have hc:c.toNat<256:=c.toNat_lt
 go_enter Tryz.func202,Tryz.ntmps202
 go_wp2
 all_goals
  go_ret
  exact⟨tA (by rw[Bool.eq_iff_iff];simp[bA.okB];omega),rfl⟩
theorem AT(c:UInt8)(w:World):
  Calls Tryz.prog 201 #[.int .u8 (c.toNat:Int)] w fun e w'=>e= .returned (.bool (!bA.okB c))/\w=w':=by
 go_enter Tryz.func201,Tryz.ntmps201
 go_wp2_with (go_at_call 202;refine(hAL _ _).mono ?_;rintro e w' ⟨rfl,rfl⟩)
 go_ret
 exact⟨rfl,rfl⟩
theorem CT {α:Type}{p:α->Bool}{l:List α}{k:Nat}{x:α}(h:l[k]? =some x)(hp:p x=true):l.any p=true:=
 List.any_eq_true.2 ⟨x,List.mem_of_getElem? h,hp⟩
theorem DT {α:Type}{p:α->Bool}{l:List α}{k:Nat}(hk:l.length<=k)(h: ∀x∈l.take k,p x=false):l.any p=false:=by
 rw[List.take_of_length_le hk]at h
 rw[List.any_eq_false]
 intro x hx
 rw[h x hx];simp
theorem BT {α:Type}(p:α->Bool)(l:List α):(l.any fun x=> !p x)= !l.all p:=by
 induction l with
 |nil=>rfl
 |cons a l ih=>rw[List.any_cons,List.all_cons,ih,Bool.not_and]
theorem fA8(w:World)(g n cap:Nat)(l:List UInt8)(hn:l.length=n)(hl:n<=1099511627776)(hB:Bytes w g l):
  Calls Tryz.prog 250 #[.slice (some ⟨g,0,none⟩) n cap,.func (.func 201) #[] #[]] w fun e w'=>(∃r:Int,e= .returned (.int .i64 r)/\decide (0<=r)=l.any (fun c=> !bA.okB c))/\w=w':=by
 go_enter Tryz.func250,Tryz.ntmps250
 go_wp2
 go_loop [5,8] (fun _ i=> ∃k:Nat,k<=n/\i= .int .i64 k/\ ∀c∈l.take k,(!bA.okB c)=false) (fun _ i=>n- (intOf i).toNat)
 case atStart=>exact⟨0,Nat.zero_le _,rfl,by simp⟩
 case round=>
  obtain⟨k,hk,rfl,hall⟩:=hrel
  have HA:=zA7 hall
  clear hall
  by_cases hlt:k<n
  ·obtain⟨c,hc⟩: ∃c,l[k]? =some c:=⟨_,List.getElem?_eq_getElem (by omega)⟩
   have hcell:=hB.cell k c hc
   unfold BA at hcell
   have HC:=zA7 hc
   clear hc hB
   cases hq:bA.okB c with
   |true=>
    go_wp2_with (go_at_call 201;refine(AT _ _).mono ?_;rintro e w' ⟨rfl,rfl⟩;rw[hq])
    go_round
    case rel=>exact⟨k+1,by omega,by go_num,Oct.qJ HA.out HC.out (by rw[hq];rfl)⟩
    case measure=>simp[intOf];omega
   |false=>
    go_wp2_with (go_at_call 201;refine(AT _ _).mono ?_;rintro e w' ⟨rfl,rfl⟩;rw[hq])
    go_ret
    exact⟨⟨k,rfl,by rw[CT (p:=fun c=> !bA.okB c) HC.out (by show(!bA.okB c)=true;rw[hq];rfl)];simp⟩,rfl⟩
  ·go_wp2
   go_ret
   exact⟨⟨-1,rfl,by rw[DT (k:=k) (by omega) HA.out];rfl⟩,rfl⟩
theorem bAI(w:World)(g n cap:Nat)(l:List UInt8)(hn:l.length=n)(hl:n<=1099511627776)(hB:Bytes w g l):
  Calls Tryz.prog 203 #[.slice (some ⟨g,0,none⟩) n cap,.func (.func 201) #[] #[]] w fun e w'=>e= .returned (.bool (l.any (fun c=> !bA.okB c)))/\w=w':=by
 have HC:=zA7 (fA8 w g n cap l hn hl hB)
 go_enter Tryz.func203,Tryz.ntmps203
 go_wp2_with (go_at_call 250;refine HC.out.mono ?_;rintro e w' ⟨⟨r,rfl,hr⟩,rfl⟩)
 go_ret
 exact⟨rfl,rfl⟩
theorem mAG(s:ByteArray)(w:World)(hs:s.size<=1099511627776):
  Calls Tryz.prog 200 #[.string s] w fun e w'=>e= .returned (.bool (!bA.lab s.data.toList))/\Below w.heap.size w w':=by
 have hcv:=fun W=>run_bytes_of_string (P:=Tryz.prog) W 9 61 5 s Tryz.underlying9 Tryz.underlying61 Tryz.underlying5
 have HL:=zA7 (Oct.oA s)
 by_cases h0:s.size=0
 ·have e0:s.toList= []:=(Oct.WX s).2 ((Oct.lD s).2 h0)
  go_enter Tryz.func200,Tryz.ntmps200
  go_wp2
  go_ret
  exact⟨tA (by unfold bA.lab;rw[HL.out];simp[h0]),Below.refl _ _⟩
 ·have e0:s.toList.isEmpty=false:=by
   cases e:s.toList with
   |nil=>exact absurd ((Oct.lD s).1 ((Oct.WX s).1 e)) h0
   |cons=>rfl
  by_cases h1:s.size<=63
  ·have HB:=zA7 (Bytes.new w s)
   generalize s.data.toList=l at*
   go_enter Tryz.func200,Tryz.ntmps200
   go_wp2_with (go_at_call 203;refine(bAI _ w.heap.size s.size _ l HL.out (by omega) (HB.out _ _)).mono ?_;rintro e w' ⟨rfl,rfl⟩)
   go_ret
   exact⟨tA (by rw[zA8 (show ¬(63:Int)<(s.size:Int) by omega),BT];unfold bA.lab;rw[HL.out,zA9 (show 1<=s.size/\s.size<=63 by omega)];rfl),((Below.refl _ w).alloc (zB3 _) _).drew⟩
  ·go_enter Tryz.func200,Tryz.ntmps200
   go_wp2
   go_ret
   exact⟨tA (by unfold bA.lab;rw[HL.out,zA8 (show ¬(1<=s.size/\s.size<=63) by omega)];rfl),Below.refl _ _⟩
theorem fAb(w:World)(B g n cap:Nat)(ps:List (List UInt8))(hn:ps.length=n)(hl:n<=1099511627776)(hz: ∀p∈ps,p.length<=1099511627776)(hown:w.ownsRow B 9 1 (.slice (some ⟨g,0,none⟩) n cap) n (ps.map gA)):
  Calls Tryz.prog 251 #[.slice (some ⟨g,0,none⟩) n cap,.func (.func 200) #[] #[]] w fun e w'=>(∃r:Int,e= .returned (.int .i64 r)/\decide (0<=r)=ps.any (fun p=> !bA.lab p))/\Below w.heap.size w w':=by
 subst hn
 have HO:=zA7 hown
 have HZ:=zA7 hz
 clear hown hz
 go_enter Tryz.func251,Tryz.ntmps251
 go_wp2
 go_loopw [5,8] (fun _ i wr=> ∃k:Nat,k<=ps.length/\i= .int .i64 k/\(∀p∈ps.take k,(!bA.lab p)=false)/\Below w.heap.size w wr) (fun _ i _=>ps.length- (intOf i).toNat)
 case atStart=>exact⟨0,Nat.zero_le _,rfl,by simp,Below.refl _ _⟩
 case round=>
  obtain⟨k,hk,rfl,hall,hb⟩:=hrel
  have HA:=zA7 hall
  clear hall
  by_cases hlt:k<ps.length
  ·obtain⟨p,s,hp,hcell,hd,_,hsz⟩:=kJ (RK HO.out hb) hlt
   have hps:=HZ.out p (List.mem_of_getElem? hp)
   have HP:=zA7 hp
   have hw:=fun W=>mAG s W (by omega)
   rw[hd]at hw
   clear hp hd
   cases hq:bA.lab p with
   |true=>
    rw[hq]at hw
    have HW:=zA7 hw
    clear hw
    go_wp2_with (go_at_call 200;refine(HW.out _).mono ?_;rintro e w' ⟨rfl,hb2⟩)
    go_roundw
    case rel=>exact⟨k+1,by omega,by go_num,Oct.qJ HA.out HP.out (by rw[hq];rfl),hb.trans (hb2.mono hb.size)⟩
    case measure=>simp[intOf];omega
   |false=>
    rw[hq]at hw
    have HW:=zA7 hw
    clear hw
    go_wp2_with (go_at_call 200;refine(HW.out _).mono ?_;rintro e w' ⟨rfl,hb2⟩)
    go_ret
    exact⟨⟨k,rfl,by rw[CT (p:=fun p=> !bA.lab p) HP.out (by show(!bA.lab p)=true;rw[hq];rfl)];simp⟩,hb.trans (hb2.mono hb.size)⟩
  ·go_wp2
   go_ret
   exact⟨⟨-1,rfl,by rw[DT (k:=k) (by omega) HA.out];rfl⟩,hb⟩
theorem bAK(w:World)(B g n cap:Nat)(ps:List (List UInt8))(hn:ps.length=n)(hl:n<=1099511627776)(hz: ∀p∈ps,p.length<=1099511627776)(hown:w.ownsRow B 9 1 (.slice (some ⟨g,0,none⟩) n cap) n (ps.map gA)):
  Calls Tryz.prog 204 #[.slice (some ⟨g,0,none⟩) n cap,.func (.func 200) #[] #[]] w fun e w'=>e= .returned (.bool (ps.any (fun p=> !bA.lab p)))/\Below w.heap.size w w':=by
 have HC:=zA7 (fAb w B g n cap ps hn hl hz hown)
 clear hown
 go_enter Tryz.func204,Tryz.ntmps204
 go_wp2_with (go_at_call 251;refine HC.out.mono ?_;rintro e w' ⟨⟨r,rfl,hr⟩,hb⟩)
 go_ret
 exact⟨rfl,hb⟩
theorem hA7(w:World)(B g n cap:Nat)(ps:List (List UInt8))(hn:ps.length=n)(hl:n<=1099511627776)(hz: ∀p∈ps,p.length<=1099511627776)(hown:w.ownsRow B 9 1 (.slice (some ⟨g,0,none⟩) n cap) n (ps.map gA)):
  Calls Tryz.prog 143 #[.slice (some ⟨g,0,none⟩) n cap] w fun e w'=>e= .returned (.bool (ps.all bA.lab))/\Below w.heap.size w w':=by
 have HC:=zA7 (bAK w B g n cap ps hn hl hz hown)
 clear hown
 go_enter Tryz.func143,Tryz.ntmps143
 go_wp2_with (go_at_call 204;refine HC.out.mono ?_;rintro e w' ⟨rfl,hb⟩)
 go_ret
 exact⟨tA (by rw[BT,Bool.not_not]),hb⟩
end Go.Proofs.YtdaaoopkkhfbhaaGreatDoor
namespace Go.Proofs.YtdaaoopkkhfbhaaGreatDoor
open Go.RowKit
namespace bA
theorem iAL {l:List UInt8}(h:l.head?=some 91):Lib.hasPrefix l [91]=true/\Lib.trimPrefix l [91]=l.tail:=by
 cases l with
 |nil=>cases h
 |cons c r=>
  simp at h
  subst h
  exact⟨rfl,rfl⟩
theorem iAJ {l:List UInt8}(h:l.head?≠some 91):Lib.hasPrefix l [91]=false:=by
 cases l with
 |nil=>rfl
 |cons c r=>
  have hn:(91:UInt8)≠c:=fun e=>h (by rw[<-e];rfl)
  show((91:UInt8)==c&&_)=false
  rw[beq_eq_false_iff_ne.2 hn];rfl
def code(o:Option Host):Int:=if o.isSome then 0 else 31
def host(o:Option Host):Host:=o.getD zero
theorem Y4(l:List UInt8):(host (jD l)).addr.length=16:=by
 rw[YR]
 split
 ·exact aA.XO _
 ·rfl
theorem I4(l:List UInt8):(host (yD l)).addr.length=16:=by
 rw[WN]
 split
 ·exact WO _
 ·rfl
theorem XH(l:List UInt8):(host (parse l)).addr.length=16:=by
 unfold parse
 split
 ·rfl
 ·split
  ·exact Y4 _
  ·split
   ·exact I4 _
   ·split<;>rfl
end bA
theorem bE {o:Option bA.Host}{w w':World}{h:bA.Host}{c:Int}(hh:bA.host o=h)(hc:bA.code o=c)(hb:Below w.heap.size w w'):aC o w (.returned (.tuple #[.agg (cA h),.int .i64 c])) w':=by
 subst hh;subst hc;exact⟨rfl,hb⟩
theorem dJ {o:Option bA.Host}{w w':World}{e:Ending}(h:aC o w e w'):e= .returned (.tuple #[.agg (cA (bA.host o)),.int .i64 (bA.code o)])/\Below w.heap.size w w':=h
theorem oN(s:ByteArray)(w:World)(hw:Std w)(hs:s.size<=1048576):
  Calls Tryz.prog 85 #[.string s] w (aC (bA.parse s.data.toList) w):=by
 have z0:=WD
 have HZ0:=zA7 (show(cA bA.zero).size=18 from rfl)
 have hl:=Oct.oA s
 by_cases hbig:253<s.size
 ·have HN:=zA7 (show bA.parse s.data.toList=none by unfold bA.parse;rw[if_pos (by omega)])
  have ZP:(253:Int)<(s.size:Int):=by omega
  clear hl
  go_enter Tryz.func85,Tryz.ntmps85
  have R0:=Row.new w 32 (cA bA.zero)
  have B0:=(Below.refl w.heap.size w).alloc (zB3 _) (.cells (cA bA.zero) 32)
  go_wp2_with (first
   |(refine wpList_store_row rfl 32 _ _ rfl w.heap.size (cA bA.zero) rfl rfl 32 _ R0 (by rw[HZ0.out];exact mA) rfl (bB _) ?_))
  rw[HN.out]
  exact bodyPost_ret (v:= .tuple #[.agg (cA bA.zero),.int .i64 31]) (yA rfl _ _ w.heap.size _ _ _ rfl _ rfl (R0.whole _) Tryz.underlying32 rfl (by rw[HZ0.out];exact mA)) rfl (bE rfl rfl (below_setRow B0 (zB3 _) _))
 have ZP: ¬(253:Int)<(s.size:Int):=by omega
 have H1:=zA7 (fun W=>Tryz.strings_CutPrefix s ⟨#[91]⟩ W)
 have e1:(⟨#[91]⟩:ByteArray).data.toList= [91]:=rfl
 rw[e1]at H1
 clear e1
 by_cases hhead:s.data.toList.head?=some 91
 ·obtain⟨p1,p2⟩:=bA.iAL hhead
  rw[p1,p2]at H1
  have HN:=zA7 (show bA.parse s.data.toList=bA.jD s.data.toList.tail by unfold bA.parse;rw[if_neg (by omega),if_pos hhead])
  have hx:=bA.Y4 s.data.toList.tail
  have H2:=zA7 (fun W h=>(eAL ⟨s.data.toList.tail.toArray⟩ W h (by show(List.toArray _).size<=_;simp;omega)).mono fun e w' h=>dJ h)
  have e2:(⟨s.data.toList.tail.toArray⟩:ByteArray).data.toList=s.data.toList.tail:=rfl
  rw[e2]at H2
  rw[HN.out]
  clear HN
  generalize bA.jD s.data.toList.tail=o at*
  have HO:Hid (∀w',Below w.heap.size w w'->aC o w (.returned (.tuple #[.agg (cA (bA.host o)),.int .i64 (bA.code o)])) w'):=zA7 (fun w' hb=>bE rfl rfl hb)
  generalize aC o w=post at*
  generalize bA.code o=c at*
  generalize bA.host o=X at*
  have HX:=zA7 (XA X hx)
  generalize(⟨s.data.toList.tail.toArray⟩:ByteArray)=i at*
  clear hx p1 p2 hhead hl e2
  go_enter Tryz.func85,Tryz.ntmps85
  go_wp2_with fail
  have R0:=Row.new w 32 (cA bA.zero)
  have B0:=(Below.refl w.heap.size w).alloc (zB3 _) (.cells (cA bA.zero) 32)
  generalize w.alloc (.cells (cA bA.zero) 32)=w0 at*
  refine(H1.out _).mono ?_
  rintro e v1 ⟨rfl,rfl⟩
  go_wp2_with fail
  refine(H2.out _ (hw.below B0)).mono ?_
  rintro e v2 ⟨rfl,d2⟩
  have R1:=R0.stays d2
  have B1:=B0.trans (d2.mono B0.size)
  go_wp2_with (first
   |(refine wpList_store_row rfl 32 _ _ rfl w.heap.size (cA X) rfl rfl 32 _ R1 (by rw[HX.out];exact mA) (by rw[HX.out];rfl) (bB _) ?_))
  exact bodyPost_ret (v:= .tuple #[.agg (cA X),.int .i64 c]) (yA rfl _ _ w.heap.size _ _ _ rfl _ rfl (R1.whole _) Tryz.underlying32 rfl (by rw[HX.out];exact mA)) rfl (HO.out _ (below_setRow B1 (zB3 _) _))
 have p1:=bA.iAJ hhead
 rw[p1]at H1
 generalize(⟨(Lib.trimPrefix s.data.toList [91]).toArray⟩:ByteArray)=i at*
 have hlen:=Oct.eI 46 s.data.toList
 have hpos:=Oct.aG 46 s.data.toList
 have hsm:=Oct.fI 46 s.data.toList
 have H3: ∀W,Calls Tryz.prog 88 #[.string s,.int .u8 46] W (AI W.heap.size (Oct.split 46 s.data.toList) W):=fun W=>sR s 46 W (by omega)
 have H3:=zA7 H3
 rw[hl]at hlen
 have hlast: ∃p,(Oct.split 46 s.data.toList)[(Oct.split 46 s.data.toList).length-1]? =some p:=⟨_,List.getElem?_eq_getElem (by omega)⟩
 obtain⟨p,hp⟩:=hlast
 have BK:bA.last s.data.toList=p:=by unfold bA.last;rw[hp];rfl
 have hps:p.length<=s.size:=by have:=hsm p (List.mem_of_getElem? hp);omega
 have hsz: ∀q∈Oct.split 46 s.data.toList,q.length<=1099511627776:=fun q hq=>by have:=hsm q hq;omega
 have R9:=zA7 hsz
 have HP:=zA7 hp
 have HNP:Hid (bA.parse s.data.toList=if Oct.digits p=true then bA.yD s.data.toList else if(Oct.split 46 s.data.toList).all bA.lab=true then some ⟨1,s.data.toList.map Oct.low,bA.IA⟩else none):=
  zA7 (by unfold bA.parse;rw[if_neg (by omega),if_neg hhead,BK])
 have H5:=zA7 (fun W=>(hAJ s W hs).mono fun e w' h=>dJ h)
 have hx:=bA.I4 s.data.toList
 have H7:=zA7 (fun W=>oX s W (by omega))
 rw[HNP.out]
 clear HNP hp hsz hsm BK p1 hhead hl
 generalize Oct.split 46 s.data.toList=ps at*
 obtain⟨t,ht⟩: ∃t:ByteArray,t=⟨p.toArray⟩:=⟨_,rfl⟩
 have hts:t.size<=s.size:=by rw[ht];show(List.toArray _).size<=_;simp;omega
 have H4: ∀W,Calls Tryz.prog 141 #[.string t] W fun e w'=>e= .returned (.bool (Oct.digits p))/\W=w':=fun W=>by
  have:=II t W (by unfold maxLen;omega)
  have e:t.data.toList=p:=by rw[ht]
  rw[e]at this
  exact this
 have H4:=zA7 H4
 have HT:=zA7 ht
 clear ht
 have hz:((ps.length:Int)-1).toNat=ps.length-1:=by omega
 cases hd:Oct.digits p with
 |true=>
  rw[hd]at H4
  rw[if_pos rfl]
  generalize bA.yD s.data.toList=o at*
  have HO:Hid (∀w',Below w.heap.size w w'->aC o w (.returned (.tuple #[.agg (cA (bA.host o)),.int .i64 (bA.code o)])) w'):=zA7 (fun w' hb=>bE rfl rfl hb)
  generalize aC o w=post at*
  generalize bA.code o=c at*
  generalize bA.host o=X at*
  have HX:=zA7 (XA X hx)
  clear hx hd H7
  go_enter Tryz.func85,Tryz.ntmps85
  go_wp2_with fail
  have R0:=Row.new w 32 (cA bA.zero)
  have B0:=(Below.refl w.heap.size w).alloc (zB3 _) (.cells (cA bA.zero) 32)
  generalize w.alloc (.cells (cA bA.zero) 32)=w0 at*
  refine(H1.out _).mono ?_
  rintro e v1 ⟨rfl,rfl⟩
  go_wp2_with fail
  refine(H3.out _).mono ?_
  rintro e v2 ⟨g,cap,rfl,hown,d2⟩
  have R1:=R0.stays d2
  have B1:=B0.trans (d2.mono B0.size)
  have hcell:=WH (k:=ps.length-1) hown HP.out HT.out
  have hcap:=jJ hown
  clear hown d2 R0 B0
  go_wp2_with fail
  refine(H4.out _).mono ?_
  rintro e v3 ⟨rfl,rfl⟩
  go_wp2_with fail
  refine(H5.out _).mono ?_
  rintro e v4 ⟨rfl,d4⟩
  have R2:=R1.stays d4
  have B2:=B1.trans (d4.mono B1.size)
  go_wp2_with (first
   |(refine wpList_store_row rfl 32 _ _ rfl w.heap.size (cA X) rfl rfl 32 _ R2 (by rw[HX.out];exact mA) (by rw[HX.out];rfl) (bB _) ?_))
  exact bodyPost_ret (v:= .tuple #[.agg (cA X),.int .i64 c]) (yA rfl _ _ w.heap.size _ _ _ rfl _ rfl (R2.whole _) Tryz.underlying32 rfl (by rw[HX.out];exact mA)) rfl (HO.out _ (below_setRow B2 (zB3 _) _))
 |false=>
  rw[hd]at H4
  rw[if_neg (by simp)]
  clear hd hx H5
  have E9:=zA7 (fun W B g cap h=>hA7 W B g ps.length cap ps rfl (by omega) R9.out h)
  obtain⟨u,hu⟩: ∃u:ByteArray,u=⟨(s.data.toList.map Oct.low).toArray⟩:=⟨_,rfl⟩
  have AB:s.data.toList.map Oct.low=u.data.toList:=by rw[hu]
  have HB:=zA7 (fP 1 u)
  rw[AB]
  unfold VC at H7
  rw[<-hu]at H7
  clear AB hu
  generalize u.data.toList=ul at*
  have vB:=zA7 (XA ⟨1,ul,bA.IA⟩ rfl)
  generalize ps.all bA.lab=ok at*
  have HF:Hid (ok=false-> ∀w',Below w.heap.size w w'->aC (if ok=true then some ⟨1,ul,bA.IA⟩else none) w (.returned (.tuple #[.agg (cA bA.zero),.int .i64 31])) w'):=zA7 (fun h w' hb=>by subst h;exact bE rfl rfl hb)
  have wF:Hid (ok=true-> ∀w',Below w.heap.size w w'->aC (if ok=true then some ⟨1,ul,bA.IA⟩else none) w (.returned (.tuple #[.agg (cA ⟨1,ul,bA.IA⟩),.int .i64 0])) w'):=zA7 (fun h w' hb=>by subst h;exact bE rfl rfl hb)
  generalize aC (if ok=true then some ⟨1,ul,bA.IA⟩else none) w=post at*
  go_enter Tryz.func85,Tryz.ntmps85
  go_wp2_with fail
  have R0:=Row.new w 32 (cA bA.zero)
  have B0:=(Below.refl w.heap.size w).alloc (zB3 _) (.cells (cA bA.zero) 32)
  generalize w.alloc (.cells (cA bA.zero) 32)=w0 at*
  refine(H1.out _).mono ?_
  rintro e v1 ⟨rfl,rfl⟩
  go_wp2_with fail
  refine(H3.out _).mono ?_
  rintro e v2 ⟨g,cap,rfl,hown,d2⟩
  have R1:=R0.stays d2
  have B1:=B0.trans (d2.mono B0.size)
  have hcell:=WH (k:=ps.length-1) hown HP.out HT.out
  have hcap:=jJ hown
  have HOWN:=zA7 hown
  clear hown d2 R0 B0
  go_wp2_with fail
  refine(H4.out _).mono ?_
  rintro e v3 ⟨rfl,rfl⟩
  go_wp2_with fail
  refine(E9.out _ _ _ _ HOWN.out).mono ?_
  rintro e v4 ⟨rfl,d4⟩
  have R2:=R1.stays d4
  have B2:=B1.trans (d4.mono B1.size)
  clear R1 B1 d4 hcell
  cases ok with
  |false=>
   go_wp2_with (first
    |(refine wpList_store_row rfl 32 _ _ rfl w.heap.size (cA bA.zero) rfl rfl 32 _ R2 (by rw[HZ0.out];exact mA) rfl (bB _) ?_))
   exact bodyPost_ret (v:= .tuple #[.agg (cA bA.zero),.int .i64 31]) (yA rfl _ _ w.heap.size _ _ _ rfl _ rfl (R2.whole _) Tryz.underlying32 rfl (by rw[HZ0.out];exact mA)) rfl (HF.out (by trivial) _ (below_setRow B2 (zB3 _) _))
  |true=>
   go_wp2_with fail
   refine(H7.out _).mono ?_
   rintro e v5 ⟨rfl,d5⟩
   have R3:=R2.stays d5
   have B3:=B2.trans (d5.mono B2.size)
   go_wp2_with (first
    |(refine jA 40 rfl ?_;refine YD rfl 32 0 1 _ _ rfl _ _ rfl rfl (cA ⟨1,ul,bA.IA⟩) HB.out ?_)
    |(refine wpList_store_row rfl 32 _ _ rfl w.heap.size (cA ⟨1,ul,bA.IA⟩) rfl rfl 32 _ R3 (by rw[vB.out];exact mA) rfl (bB _) ?_))
   exact bodyPost_ret (v:= .tuple #[.agg (cA ⟨1,ul,bA.IA⟩),.int .i64 0]) (yA rfl _ _ w.heap.size _ _ _ rfl _ rfl (R3.whole _) Tryz.underlying32 rfl (by rw[vB.out];exact mA)) rfl (wF.out (by trivial) _ (below_setRow B3 (zB3 _) _))
end Go.Proofs.YtdaaoopkkhfbhaaGreatDoor
namespace Go.Proofs.YtdaaoopkkhfbhaaGreatDoor
open Go.RowKit
theorem YZ(h:bA.Host)(hk:h.kind=1)(t:ByteArray)(ht:t=⟨h.name.toArray⟩)(w:World):
  Calls Tryz.prog 106 #[.agg (cA h)] w fun e w'=>e= .returned (.string t)/\Below w.heap.size w w':=by
 have R:=Row.new w 32 (cA h)
 have c0:(w.alloc (.cells (cA h) 32)).cell? ⟨w.heap.size,0,none⟩=some (.int .i64 1):=by rw[R.cell,EK,hk]
 have c1:(w.alloc (.cells (cA h) 32)).cell? ⟨w.heap.size,1,none⟩=some (.string t):=by rw[R.cell,FM,ht];rfl
 have B:=(Below.refl w.heap.size w).alloc (zB3 _) (.cells (cA h) 32)
 have HB:=zA7 B
 clear B R ht
 go_enter Tryz.func106,Tryz.ntmps106
 generalize cA h=H at*
 go_wp2
 go_ret
 exact⟨rfl,HB.out⟩
theorem jAy(h:bA.Host)(hk:h.kind=1)(ha:h.addr.length=16)(hs:h.name.length<=1048576)(w:World)(hw:Std w):
  Calls Tryz.prog 87 #[.agg (cA h)] w fun e w'=>e= .returned (.bool (bA.right h))/\Below w.heap.size w w':=by
 have z0:=WD
 obtain⟨t,ht⟩: ∃t:ByteArray,t=⟨h.name.toArray⟩:=⟨_,rfl⟩
 have H1:=zA7 (fun W=>YZ h hk t ht W)
 have htl:t.data.toList=h.name:=by rw[ht]
 have hts:t.size=h.name.length:=by rw[<-htl,Oct.oA]
 have H2:=zA7 (fun W hW=>(oN t W hW (by omega)).mono fun e w' h=>dJ h)
 rw[htl]at H2
 have hx:=bA.XH h.name
 have HR:Hid (bA.right h=decide (bA.parse h.name=some h)):=zA7 rfl
 have HZ0:=zA7 (show(cA bA.zero).size=18 from rfl)
 have HH:=zA7 (XA h ha)
 cases ho:bA.parse h.name with
 |none=>
  rw[ho]at H2 HR
  have HR2:Hid (bA.right h=false):=zA7 (by rw[HR.out];rfl)
  have e1:bA.host none=bA.zero:=rfl
  have e2:bA.code none=31:=rfl
  rw[e1,e2]at H2
  clear ho hx hts htl ht HR e1 e2
  rw[HR2.out]
  generalize cA h=H at*
  have R0:=Row.new w 32 H
  have B0:=(Below.refl w.heap.size w).alloc (zB3 _) (.cells H 32)
  go_enter Tryz.func87,Tryz.ntmps87
  go_wp2_with (refine jA 6 rfl ?_;refine pA rfl 32 _ rfl w.heap.size rfl R0 Tryz.underlying32 rfl (by rw[HH.out];exact mA) ?_)
  generalize w.alloc (.cells H 32)=w0 at*
  refine(H1.out _).mono ?_
  rintro e v1 ⟨rfl,d1⟩
  have B1:=B0.trans (d1.mono B0.size)
  go_wp2_with fail
  refine(H2.out _ (hw.below B1)).mono ?_
  rintro e v2 ⟨rfl,d2⟩
  have B2:=B1.trans (d2.mono B1.size)
  obtain⟨T,U,C,L⟩:=PA 32 (cA bA.zero) (cA bA.zero) B2 B2.size
  clear B0 B1 B2 d1 d2 R0 L
  go_wp2_with (first
   |(refine wpList_store_row rfl 32 _ _ rfl v2.heap.size (cA bA.zero) rfl rfl 32 _ T (by rw[HZ0.out];exact mA) rfl (bB _) ?_))
  go_ret
  exact⟨rfl,C⟩
 |some g=>
  rw[ho]at H2 HR hx
  have hx:g.addr.length=16:=hx
  have HR2:Hid (bA.right h=decide (g=h)):=zA7 (by rw[HR.out,decide_eq_decide];exact⟨fun e=>zB2 e,fun e=>by rw[e]⟩)
  have e1:bA.host (some g)=g:=rfl
  have e2:bA.code (some g)=0:=rfl
  rw[e1,e2]at H2
  have q:=lM g h hx ha
  have HG:=zA7 (XA g hx)
  have qO:=zA7 (bB g)
  clear ho hx hts htl ht HR e1 e2
  rw[HR2.out]
  generalize cA h=H at*
  generalize cA g=G at*
  generalize decide (g=h)=b at*
  have R0:=Row.new w 32 H
  have B0:=(Below.refl w.heap.size w).alloc (zB3 _) (.cells H 32)
  go_enter Tryz.func87,Tryz.ntmps87
  go_wp2_with (refine jA 6 rfl ?_;refine pA rfl 32 _ rfl w.heap.size rfl R0 Tryz.underlying32 rfl (by rw[HH.out];exact mA) ?_)
  generalize w.alloc (.cells H 32)=w0 at*
  refine(H1.out _).mono ?_
  rintro e v1 ⟨rfl,d1⟩
  have B1:=B0.trans (d1.mono B0.size)
  have R1:=R0.stays d1
  go_wp2_with fail
  refine(H2.out _ (hw.below B1)).mono ?_
  rintro e v2 ⟨rfl,d2⟩
  have R2:=R1.stays d2
  have B2:=B1.trans (d2.mono B1.size)
  obtain⟨T,U,C,L⟩:=PA 32 (cA bA.zero) G B2 B2.size
  have R3:=L _ _ _ R2
  clear B0 B1 B2 d1 d2 R0 R1 R2 L
  go_wp2_with (first
   |(refine wpList_store_row rfl 32 _ _ rfl v2.heap.size G rfl rfl 32 _ T (by rw[HG.out];exact mA) (by rw[HG.out];rfl) qO.out ?_)
   |(refine jA 14 rfl ?_;refine pA rfl 32 _ rfl v2.heap.size rfl U Tryz.underlying32 rfl (by rw[HG.out];exact mA) ?_)
   |(refine jA 15 rfl ?_;refine pA rfl 32 _ rfl w.heap.size rfl R3 Tryz.underlying32 rfl (by rw[HH.out];exact mA) ?_))
  go_ret
  exact⟨rfl,C⟩
end Go.Proofs.YtdaaoopkkhfbhaaGreatDoor
namespace Go.Proofs.YtdaaoopkkhfbhaaGreatDoor
open Go.RowKit
theorem ZI(h:bA.Host)(ha:h.addr.length=16)(hs:h.name.length<=1048576)(w:World)(hw:Std w):
  Calls Tryz.prog 46 #[.agg (cA h)] w (OD w.heap.size (bA.labels h) w):=by
 have HH:=zA7 (XA h ha)
 obtain⟨t,ht⟩: ∃t:ByteArray,t=⟨h.name.toArray⟩:=⟨_,rfl⟩
 have R0:=Row.new w 32 (cA h)
 have c0:(w.alloc (.cells (cA h) 32)).cell? ⟨w.heap.size,0,none⟩=some (.int .i64 h.kind):=by rw[R0.cell,EK]
 have c1:(w.alloc (.cells (cA h) 32)).cell? ⟨w.heap.size,1,none⟩=some (.string t):=by rw[R0.cell,FM,ht];rfl
 have B0:=(Below.refl w.heap.size w).alloc (zB3 _) (.cells (cA h) 32)
 by_cases hk:h.kind=1
 ·have htl:t.data.toList=h.name:=by rw[ht]
  have hts:t.size=h.name.length:=by rw[<-htl,Oct.oA]
  have H1:=zA7 (fun W hW=>jAy h hk ha hs W hW)
  have H2: ∀W,Calls Tryz.prog 88 #[.string t,.int .u8 46] W (OD W.heap.size (Oct.split 46 h.name) W):=fun W=>by
   have:=zZ t 46 W (by omega)
   rw[htl]at this
   exact this
  have H2:=zA7 H2
  rw[hk]at c0
  cases hr:bA.right h with
  |false=>
   rw[hr]at H1
   have HL:Hid (bA.labels h= []):=zA7 (by unfold bA.labels;rw[if_neg (fun k=>by rw[hr]at k;simp at k)])
   rw[HL.out]
   generalize cA h=H at*
   clear hr htl hts ht hk ha HL
   go_enter Tryz.func46,Tryz.ntmps46
   go_wp2_with (refine jA 7 rfl ?_;refine pA rfl 32 _ rfl w.heap.size rfl R0 Tryz.underlying32 rfl (by rw[HH.out];exact mA) ?_)
   generalize w.alloc (.cells H 32)=w0 at*
   refine(H1.out _ (hw.below B0)).mono ?_
   rintro e v1 ⟨rfl,d1⟩
   have B1:=B0.trans (d1.mono B0.size)
   go_wp2
   go_ret
   exact⟨_,rfl,World.ownsRow_nil _ _ _ _,B1⟩
  |true=>
   rw[hr]at H1
   have HL:Hid (bA.labels h=Oct.split 46 h.name):=zA7 (by unfold bA.labels;rw[if_pos ⟨hk,hr⟩])
   rw[HL.out]
   generalize Oct.split 46 h.name=ps at*
   generalize cA h=H at*
   clear hr htl hts ht hk ha HL
   go_enter Tryz.func46,Tryz.ntmps46
   go_wp2_with (refine jA 7 rfl ?_;refine pA rfl 32 _ rfl w.heap.size rfl R0 Tryz.underlying32 rfl (by rw[HH.out];exact mA) ?_)
   have hlt:=R0.lt
   generalize w.alloc (.cells H 32)=w0 at*
   refine(H1.out _ (hw.below B0)).mono ?_
   rintro e v1 ⟨rfl,d1⟩
   have B1:=B0.trans (d1.mono B0.size)
   have c2:=(d1.cell (p:=⟨w.heap.size,1,none⟩) hlt).trans c1
   clear c0 c1 d1 R0 B0
   go_wp2_with fail
   refine(H2.out _).mono ?_
   rintro e v2 ⟨v,rfl,hown,d2⟩
   have B2:=B1.trans (d2.mono B1.size)
   have HO:=zA7 (iA1 hown B1.size)
   clear hown
   go_wp2
   go_ret
   exact⟨_,rfl,HO.out,B2⟩
 ·have HL:Hid (bA.labels h= []):=zA7 (by unfold bA.labels;rw[if_neg (fun k=>hk k.1)])
  rw[HL.out]
  generalize cA h=H at*
  generalize h.kind=k at*
  clear HL ha
  go_enter Tryz.func46,Tryz.ntmps46
  go_wp2
  go_ret
  exact⟨_,rfl,World.ownsRow_nil _ _ _ _,B0⟩
end Go.Proofs.YtdaaoopkkhfbhaaGreatDoor
namespace Go.Proofs.YtdaaoopkkhfbhaaGreatDoor
open Go.RowKit
namespace bA
theorem fAX(h:Host):(labels h).length<=h.name.length+1:=by
 unfold labels
 split
 ·exact Oct.eI 46 h.name
 ·simp
theorem fAY(h:Host): ∀p∈labels h,p.length<=h.name.length:=by
 unfold labels
 split
 ·exact Oct.fI 46 h.name
 ·simp
theorem QZ(h:Host)(n:Int):(host (XB h n)).addr.length=16:=by
 unfold XB
 split<;>rfl
theorem kAX(h:Host)(n:Int):(host (XB h n)).name.length<=h.name.length:=by
 by_cases hn:1<=n/\n<=((labels h).length:Int)
 ·obtain⟨k,rfl⟩: ∃k:Nat,n=k:=⟨n.toNat,by omega⟩
  have hl:labels h≠ []:=by intro e;rw[e]at hn;simp at hn;omega
  obtain⟨_,_,_,e⟩:=MG hl
  rw[PZ (by omega) (by omega)]
  show(ending h.name k).length<=_
  rcases Nat.lt_or_ge k (Oct.split 46 h.name).length with a|a
  ·exact Nat.le_of_lt (cAO (by omega) a)
  ·rw[ZU (by rw[e]at hn;omega)];exact zB3 _
 ·rw[CR hn];simp[host,zero]
end bA
theorem fAK {w:World}{B g cap L:Nat}{ps:List (List UInt8)}(hL:ps.length=L)(hown:w.ownsRow B 9 1 (.slice (some ⟨g,0,none⟩) L cap) L (ps.map gA))(m:Nat)(hm: ∀p∈ps,p.length<=m)(hm1:m<=1048576)(hn:L<=1048577)(k:Nat)(hk:k<=L):
  Calls Tryz.prog 40 #[.slice (some ⟨g,L-k,none⟩) k (cap- (L-k)),.string ⟨#[46]⟩] w fun e w'=>e= .returned (.string ⟨(Lib.join (ps.drop (L-k)) [46]).toArray⟩)/\Below w.heap.size w w':=by
 subst hL
 have hdl:(ps.drop (ps.length-k)).length=k:=by rw[List.length_drop];omega
 have hl:=aA.join_length [46] rfl m (ps.drop (ps.length-k)) (fun p hp=>hm p (List.mem_of_mem_drop hp))
 rw[hdl]at hl
 have h2:(m+1)*k<=1048577*1048577:=Nat.mul_le_mul (by omega) (by omega)
 have e1:(((ps.drop (ps.length-k)).map fun p=>(⟨p.toArray⟩:ByteArray)).map (·.data.toList))=ps.drop (ps.length-k):=by rw[List.map_map];exact List.map_id _
 have e2:(⟨#[46]⟩:ByteArray).data.toList= [46]:=rfl
 have hcap:=jJ hown
 have hlt:g<w.heap.size:=(hown.lt g rfl).2
 have h:=Tryz.strings_Join g (ps.length-k) (cap- (ps.length-k)) ((ps.drop (ps.length-k)).map fun p=>⟨p.toArray⟩) ⟨#[46]⟩ w (fun j x hx=>by
  rw[List.getElem?_map,List.getElem?_drop]at hx
  cases hp:ps[ps.length-k+j]? with
  |none=>rw[hp]at hx;cases hx
  |some p=>rw[hp]at hx;exact WH hown hp (zB2 hx).symm) hlt (by rw[List.length_map,hdl];omega) (by rw[List.length_map,hdl];omega) (by rw[e1,e2];omega)
 rw[List.length_map,e1,e2,hdl]at h
 exact h
def CF(o:Option bA.Host)(w:World)(e:Ending)(w':World):Prop:=e= .returned (.tuple #[.agg (cA (bA.host o)),.bool o.isSome])/\Below w.heap.size w w'
theorem OZ(h:bA.Host)(ha:h.addr.length=16)(hs:h.name.length<=1048576)(n:Int)(w:World)(hw:Std w):
  Calls Tryz.prog 159 #[.agg (cA h),.int .i64 n] w (CF (bA.XB h n) w):=by
 have z0:=WD
 have HZ0:=zA7 (show(cA bA.zero).size=18 from rfl)
 have HH:=zA7 (XA h ha)
 have H1:=zA7 (fun W hW=>ZI h ha hs W hW)
 have hll:=bA.fAX h
 have UC:=zA7 (bA.fAY h)
 by_cases hn:1<=n/\n<=((bA.labels h).length:Int)
 ·obtain⟨k,rfl⟩: ∃k:Nat,n=k:=⟨n.toNat,by omega⟩
  have HT:Hid (bA.XB h k=some ⟨1,Lib.join ((bA.labels h).drop ((bA.labels h).length-k)) [46],bA.IA⟩):=zA7 (by unfold bA.XB;rw[if_pos hn];rfl)
  rw[HT.out]
  clear HT
  generalize bA.labels h=ps at*
  obtain⟨L,hL⟩: ∃L,ps.length=L:=⟨_,rfl⟩
  rw[hL]at hn hll⊢
  have HJ:=zA7 (fun W B g cap ho=>fAK (w:=W) (B:=B) (g:=g) (cap:=cap) hL ho h.name.length UC.out hs (by omega) k (by omega))
  unfold OD at H1
  rw[hL]at H1
  obtain⟨u,hu⟩: ∃u:ByteArray,u=⟨(Lib.join (ps.drop (L-k)) [46]).toArray⟩:=⟨_,rfl⟩
  have AB:Lib.join (ps.drop (L-k)) [46]=u.data.toList:=by rw[hu]
  rw[<-hu]at HJ
  rw[AB]
  have HB:=zA7 (fP 1 u)
  clear AB hu
  generalize u.data.toList=ul at*
  have vB:=zA7 (XA ⟨1,ul,bA.IA⟩ rfl)
  have DL:Hid (∀w',Below w.heap.size w w'->CF (some ⟨1,ul,bA.IA⟩) w (.returned (.tuple #[.agg (cA ⟨1,ul,bA.IA⟩),.bool true])) w'):=zA7 (fun w' hb=>⟨rfl,hb⟩)
  generalize CF (some ⟨1,ul,bA.IA⟩) w=post at*
  generalize cA h=H at*
  have hz:((L:Int)- (k:Int)).toNat=L-k:=by omega
  have hk1:L- (L-k)=k:=by omega
  have hn1: ¬(k:Int)<1:=by omega
  have hn2: ¬(L:Int)<(k:Int):=by omega
  have hLk:1<=k/\k<=L:=by omega
  clear hn UC hL ha
  have R0:=Row.new w 32 H
  have B0:=(Below.refl w.heap.size w).alloc (zB3 _) (.cells H 32)
  go_enter Tryz.func159,Tryz.ntmps159
  go_wp2_with (refine jA 8 rfl ?_;refine pA rfl 32 _ rfl w.heap.size rfl (R0.alloc _) Tryz.underlying32 rfl (by rw[HH.out];exact mA) ?_)
  have hN:(w.alloc (.cells H 32)).heap.size=w.heap.size+1:=by simp
  generalize w.alloc (.cells H 32)=w0 at*
  have T0:=Row.new w0 32 (cA bA.zero)
  have C0:=B0.alloc B0.size (.cells (cA bA.zero) 32)
  have s0:w.heap.size<=w.heap.size+1:=by omega
  generalize w0.alloc (.cells (cA bA.zero) 32)=x0 at*
  rw[hN]at T0
  clear hN
  refine(H1.out _ (hw.below C0)).mono ?_
  rintro e v1 ⟨v,rfl,hown,d1⟩
  rcases hown.2 with⟨_,h0⟩|⟨g,cap,cur,rfl,hg,_⟩
  ·omega
  have T1:=T0.stays d1
  have C1:=C0.trans (d1.mono C0.size)
  have hcap:=jJ hown
  have HO:=zA7 hown
  clear hown T0 C0 d1 R0 B0
  go_wp2_with fail
  refine(HJ.out _ _ _ _ HO.out).mono ?_
  rintro e v2 ⟨rfl,d2⟩
  have T2:=T1.stays d2
  have C2:=C1.trans (d2.mono C1.size)
  go_wp2_with (first
   |(refine jA 27 rfl ?_;refine YD rfl 32 0 1 _ _ rfl _ _ rfl rfl (cA ⟨1,ul,bA.IA⟩) HB.out ?_)
   |(refine wpList_store_row rfl 32 _ _ rfl (w.heap.size+1) (cA ⟨1,ul,bA.IA⟩) rfl rfl 32 _ T2 (by rw[vB.out];exact mA) rfl (bB _) ?_))
  exact bodyPost_ret (v:= .tuple #[.agg (cA ⟨1,ul,bA.IA⟩),.bool true]) (yA rfl _ _ (w.heap.size+1) _ _ _ rfl _ rfl (T2.whole _) Tryz.underlying32 rfl (by rw[vB.out];exact mA)) rfl (DL.out _ (below_setRow C2 s0 _))
 ·have HT:Hid (bA.XB h n=none):=zA7 (bA.CR hn)
  rw[HT.out]
  clear HT
  generalize bA.labels h=ps at*
  obtain⟨L,hL⟩: ∃L,ps.length=L:=⟨_,rfl⟩
  rw[hL]at hn hll
  unfold OD at H1
  rw[hL]at H1
  have DL:Hid (∀w',Below w.heap.size w w'->CF none w (.returned (.tuple #[.agg (cA bA.zero),.bool false])) w'):=zA7 (fun w' hb=>⟨rfl,hb⟩)
  generalize CF none w=post at*
  generalize cA h=H at*
  clear UC hL ha
  have R0:=Row.new w 32 H
  have B0:=(Below.refl w.heap.size w).alloc (zB3 _) (.cells H 32)
  go_enter Tryz.func159,Tryz.ntmps159
  go_wp2_with (refine jA 8 rfl ?_;refine pA rfl 32 _ rfl w.heap.size rfl (R0.alloc _) Tryz.underlying32 rfl (by rw[HH.out];exact mA) ?_)
  have hN:(w.alloc (.cells H 32)).heap.size=w.heap.size+1:=by simp
  generalize w.alloc (.cells H 32)=w0 at*
  have T0:=Row.new w0 32 (cA bA.zero)
  have C0:=B0.alloc B0.size (.cells (cA bA.zero) 32)
  have s0:w.heap.size<=w.heap.size+1:=by omega
  generalize w0.alloc (.cells (cA bA.zero) 32)=x0 at*
  rw[hN]at T0
  clear hN
  refine(H1.out _ (hw.below C0)).mono ?_
  rintro e v1 ⟨v,rfl,hown,d1⟩
  have T1:=T0.stays d1
  have C1:=C0.trans (d1.mono C0.size)
  have hnn:n<1\/(¬n<1/\(L:Int)<n):=by omega
  rcases hown.2 with⟨rfl,h0⟩|⟨g,cap,cur,rfl,hg,_⟩
  ·subst h0
   clear hown d1 hn
   rcases hnn with h1|⟨h1,h2⟩
   all_goals
    go_wp2_with (first
     |(refine wpList_store_row rfl 32 _ _ rfl (w.heap.size+1) (cA bA.zero) rfl rfl 32 _ T1 (by rw[HZ0.out];exact mA) rfl (bB _) ?_))
    exact bodyPost_ret (v:= .tuple #[.agg (cA bA.zero),.bool false]) (yA rfl _ _ (w.heap.size+1) _ _ _ rfl _ rfl (T1.whole _) Tryz.underlying32 rfl (by rw[HZ0.out];exact mA)) rfl (DL.out _ (below_setRow C1 s0 _))
  ·clear hown d1 hn
   rcases hnn with h1|⟨h1,h2⟩
   all_goals
    go_wp2_with (first
     |(refine wpList_store_row rfl 32 _ _ rfl (w.heap.size+1) (cA bA.zero) rfl rfl 32 _ T1 (by rw[HZ0.out];exact mA) rfl (bB _) ?_))
    exact bodyPost_ret (v:= .tuple #[.agg (cA bA.zero),.bool false]) (yA rfl _ _ (w.heap.size+1) _ _ _ rfl _ rfl (T1.whole _) Tryz.underlying32 rfl (by rw[HZ0.out];exact mA)) rfl (DL.out _ (below_setRow C1 s0 _))
end Go.Proofs.YtdaaoopkkhfbhaaGreatDoor
namespace Go.Proofs.YtdaaoopkkhfbhaaGreatDoor
open Go.RowKit
theorem OR(s:ByteArray)(w:World)(hs:s.size<=maxLen):
  Calls Tryz.prog 81 #[.string s] w fun e w'=>e= .returned (.string ⟨(Oct.trim s.data.toList).toArray⟩)/\w=w':=by
 unfold maxLen at hs
 go_enter Tryz.func81,Tryz.ntmps81
 go_wp2
 go_loop [3] (fun i=> ∃k:Nat,k<=s.size/\i= .int .i64 k/\s.data.toList.dropWhile Oct.EA=(s.data.toList.drop k).dropWhile Oct.EA) (fun i=>s.size- (intOf i).toNat)
 case atStart=>exact⟨0,Nat.zero_le _,rfl,by simp⟩
 case round=>
  obtain⟨k,hk,rfl,hd⟩:=hrel
  have HD:=zA7 hd
  clear hd
  have hor:(∃h:k<s.size,Oct.EA s[k]=true)\/((∃h:k<s.size,Oct.EA s[k]=false)\/ ¬k<s.size):=by
   by_cases h:k<s.size
   ·cases hb:Oct.EA s[k]
    ·exact .inr (.inl ⟨h,hb⟩)
    ·exact .inl ⟨h,hb⟩
   ·exact .inr (.inr h)
  rcases hor with⟨hlt,hbk⟩|hor
  ·have HE:=zA7 (HD.out.trans (Oct.cAH (by rw[Oct.oA];exact hlt) hbk))
   go_wp2_with (go_at_call 137;refine(YL _ _).mono ?_;rintro e w' ⟨rfl,rfl⟩)
   go_round
   case rel=>exact⟨k+1,by omega,by go_num,HE.out⟩
   case measure=>simp[intOf];omega
  ·have HE:Hid (s.data.toList.dropWhile Oct.EA=s.data.toList.drop k):=by
    refine zA7 (HD.out.trans ?_)
    rcases hor with⟨hlt,hbk⟩|hge
    ·exact Oct.cAC (by rw[Oct.oA];exact hlt) hbk
    ·exact Oct.cAA (by rw[Oct.oA];omega)
   rcases hor with⟨hlt,hbk⟩|hge
   all_goals
    go_wp2_with (go_at_call 137;refine(YL _ _).mono ?_;rintro e w' ⟨rfl,rfl⟩)
    go_loop [4] (fun i=> ∃m:Nat,k<=m/\m<=s.size/\i= .int .i64 m/\Oct.xC (s.data.toList.drop k)=Oct.xC (Oct.mid s.data.toList k m)) (fun i=>(intOf i).toNat)
    case atStart=>exact⟨s.size,hk,zB3 _,rfl,by rw[Oct.gAM (by rw[Oct.oA];exact zB3 _)]⟩
    case round=>
     obtain⟨m,hkm,hm,rfl,hc⟩:=hrel
     have HC:=zA7 hc
     clear hc
     by_cases hkl:k<m
     ·try (exfalso;omega)
      all_goals
       have hmm:((m:Int)-1).toNat=m-1:=by omega
       have hm1:m-1<s.size:=by omega
       have HS:=zA7 (Oct.gAO hkl (l:=s.data.toList) (by rw[Oct.oA];exact hm))
       cases hb:Oct.EA s[m-1]with
       |true=>
        have HF:=zA7 (show Oct.xC (s.data.toList.drop k)=Oct.xC (Oct.mid s.data.toList k (m-1)) from by rw[HC.out,HS.out];exact Oct.bAv _ _ hb)
        go_wp2_with (go_at_call 137;refine(YL _ _).mono ?_;rintro e w' ⟨rfl,rfl⟩)
        go_round
        case rel=>exact⟨m-1,by omega,by omega,by go_num,HF.out⟩
        case measure=>simp[intOf];omega
       |false=>
        have HF:=zA7 (show Oct.trim s.data.toList=Oct.mid s.data.toList k m from by unfold Oct.trim;rw[HE.out,HC.out,HS.out];exact Oct.ZT _ _ hb)
        go_wp2_with (go_at_call 137;refine(YL _ _).mono ?_;rintro e w' ⟨rfl,rfl⟩)
        go_ret
        exact⟨iD (by rw[HF.out,Lib.extract_eq,Oct.mid]),rfl⟩
     ·have HF:=zA7 (show Oct.trim s.data.toList=Oct.mid s.data.toList k m from by unfold Oct.trim;rw[HE.out,HC.out,Oct.gAN (by omega)];rfl)
      go_wp2
      go_ret
      exact⟨iD (by rw[HF.out,Lib.extract_eq,Oct.mid]),rfl⟩
end Go.Proofs.YtdaaoopkkhfbhaaGreatDoor
