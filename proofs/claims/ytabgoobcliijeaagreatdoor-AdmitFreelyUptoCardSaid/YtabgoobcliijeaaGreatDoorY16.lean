/- The walk of write on headers of any parts, and Right on them. -/
import Derived.Test.YtabgoobcliijeaaGreatDoorY11
import Derived.Test.YtabgoobcliijeaaGreatDoorY15
set_option maxHeartbeats 16000000
set_option maxRecDepth 100000
namespace Go.Proofs.YtabgoobcliijeaaGreatDoor
open Go.RowKit
namespace Hd
structure Raw where
 name:List UInt8
 value:List UInt8
 domain:List UInt8
 path:List UInt8
 ZE:Bool
 exp:Int
 BE:Bool
 age:Int
 secure:Bool
 only:Bool
 same:Int
 deriving DecidableEq
def Raw.of (h:Head):Raw:=⟨h.name,h.value,h.domain,h.path,h.exp.isSome,h.exp.getD 0,h.age.isSome,((h.age.getD 0:Nat):Int),h.secure,h.only,(h.same:Int)⟩
theorem bAF {a b:Head}(e:Raw.of a=Raw.of b):a=b:=by
 obtain⟨a1,a2,a3,a4,a5,a6,a7,a8,a9⟩:=a
 obtain⟨b1,b2,b3,b4,b5,b6,b7,b8,b9⟩:=b
 unfold Raw.of at e
 simp only[Raw.mk.injEq]at e
 obtain⟨e1,e2,e3,e4,e5,e6,e7,e8,e9,e10,e11⟩:=e
 have h5:a5=b5:=by
  cases a5<;>cases b5
  ·rfl
  ·cases e5
  ·cases e5
  ·exact congrArg some e6
 have h6:a6=b6:=by
  cases a6<;>cases b6
  ·rfl
  ·cases e7
  ·cases e7
  ·exact congrArg some (Int.ofNat.inj e8)
 subst e1 e2 e3 e4 e9 e10 h5 h6
 have h9:a9=b9:=Int.ofNat.inj e11
 subst h9;rfl
def QG(n:Int):List UInt8:=if 0<=n/\n<4 then(WD[n.toNat]?).getD []else []
theorem nAM(n:Int):(QG n).length<=6:=by
 unfold QG
 split
 ·rename_i h
  have key: ∀k,k<4->((WD[k]?).getD []).length<=6:=by decide+kernel
  exact key _ (by omega)
 ·decide
theorem DZ(n:Int):(Dt.text n).length<=29:=by
 cases h:Dt.civil (n/86400)with
 |none=>rw[Dt.AW h];decide
 |some t=>rw[rO ⟨t,h⟩];exact zB3 _
theorem jAV {n:Int}(h0: -9223372036854775808<=n)(h1:n<=9223372036854775807):(Lib.itoa n).length<=20:=by
 unfold Lib.itoa
 split
 ·have:=Ur.OJ 19 n.natAbs (by omega) (by omega)
  rw[zB5];omega
 ·have:=Ur.OJ 19 n.toNat (by omega) (by omega)
  omega
theorem aAG(m:Nat): ∀ps:List (List UInt8),(∀p∈ps,p.length<=m)->(joined ps).length<=(m+2)*ps.length
 | [],_=>by simp[joined]
 |p::ps,h=>by
  have ih:=aAG m ps (fun q hq=>h q (by simp[hq]))
  have h0:=h p (by simp)
  have e:(joined (p::ps)).length=p.length+2+(joined ps).length:=by
   show(59::32::p++joined ps).length=_
   rw[zB4,zB5,zB5]
  rw[e,zB5,Nat.mul_add,Nat.mul_one]
  omega
theorem join_le(m:Nat){ps:List (List UInt8)}(h: ∀p∈ps,p.length<=m):(Lib.join ps [59,32]).length<=(m+2)*ps.length:=by
 cases ps with
 |nil=>simp[Lib.join,List.intercalate]
 |cons p ps=>
  rw[join_cons,zB4,zB5,Nat.mul_add,Nat.mul_one]
  have:=aAG m ps (fun q hq=>h q (by simp[hq]))
  have h0:=h p (by simp)
  omega
end Hd
def uA(r:Hd.Raw):Array Value:= #[lA r.name,lA r.value,lA r.domain,lA r.path,.bool r.ZE,.int .i64 r.exp,.bool r.BE,.int .i64 r.age,.bool r.secure,.bool r.only,.int .i64 r.same]
theorem TL(h:Hd.Head):uA (Hd.Raw.of h)=headA h:=rfl
theorem Z0 {P:Program}{d:Nat}{xs ys:Array Value}{W:World} : ∀l:List (Field×Bool),(∀q∈l,q.1.name≠ "_" /\ ∃u v,(part q.1.type xs q.1.offset).run P W= .ok u W/\(part q.1.type ys q.1.offset).run P W= .ok v W/\(Op.equalIn d q.1.type u v).run P W= .ok q.2 W)->
  (Op.eqFields d xs ys (l.map (·.1))).run P W= .ok (l.all (·.2)) W
 | [],_=>by simp[Op.eqFields]
 |(f,b)::l,h=>by
  obtain⟨h1,u,v,h2,h3,h4⟩:=h (f,b) (by simp)
  have ih:=Z0 (P:=P) (d:=d) (xs:=xs) (ys:=ys) (W:=W) l (fun q hq=>h q (by simp[hq]))
  simp only[List.map_cons,List.all_cons,Op.eqFields,Sem.run_bind,h1,h2,h3,h4,Result.andThen_ok,Sem.run_ite,Sem.run_pure,ne_eq,not_false_eq_true,if_true,ih]
  cases b<;>rfl
theorem I2(r s:Hd.Raw)(W:World):(Op.equalIn 10000 35 (.agg (uA r)) (.agg (uA s))).run Tryz.prog W= .ok (decide (r=s)) W:=by
 have ks: ∀a b:List UInt8,(Op.equalIn 9999 9 (lA a) (lA b)).run Tryz.prog W= .ok (decide (a=b)) W:=fun a b=>by
  unfold lA
  rw[run_equalIn_string W 9998 9 _ _ Tryz.underlying9,Oct.SA,Oct.SA]
  refine congrArg (fun b=>Result.ok b W) ?_
  rw[Bool.eq_iff_iff]
  simp
 have kb: ∀a b:Bool,(Op.equalIn 9999 4 (.bool a) (.bool b)).run Tryz.prog W= .ok (a==b) W:=fun a b=>run_equalIn_bool' W 9998 4 _ _ Tryz.underlying4
 have ki: ∀a b:Int,(Op.equalIn 9999 2 (.int .i64 a) (.int .i64 b)).run Tryz.prog W= .ok (a==b) W:=fun a b=>run_equalIn_int W 9998 2 .i64 .i64 _ _ Tryz.underlying2
 have kn: ∀a b:Int,(Op.equalIn 9999 3 (.int .i64 a) (.int .i64 b)).run Tryz.prog W= .ok (a==b) W:=fun a b=>run_equalIn_int W 9998 3 .i64 .i64 _ _ Tryz.underlying3
 have ps: ∀(q:Hd.Raw) i v,(uA q)[i]? =some v->(part 9 (uA q) i).run Tryz.prog W= .ok v W:=fun q i v hv=>run_part_plain W (by kernel_rfl) hv
 have pb: ∀(q:Hd.Raw) i v,(uA q)[i]? =some v->(part 4 (uA q) i).run Tryz.prog W= .ok v W:=fun q i v hv=>run_part_plain W (by kernel_rfl) hv
 have pi: ∀(q:Hd.Raw) i v,(uA q)[i]? =some v->(part 2 (uA q) i).run Tryz.prog W= .ok v W:=fun q i v hv=>run_part_plain W (by kernel_rfl) hv
 have pn: ∀(q:Hd.Raw) i v,(uA q)[i]? =some v->(part 3 (uA q) i).run Tryz.prog W= .ok v W:=fun q i v hv=>run_part_plain W (by kernel_rfl) hv
 obtain⟨f0,f1,f2,f3,f4,f5,f6,f7,f8,f9,f10,hf,hn,ho,ht⟩: ∃f0 f1 f2 f3 f4 f5 f6 f7 f8 f9 f10:Field,Tryz.prog.underlying 35=some (.struct #[f0,f1,f2,f3,f4,f5,f6,f7,f8,f9,f10])/\
   (f0.name≠ "_" /\f1.name≠ "_" /\f2.name≠ "_" /\f3.name≠ "_" /\f4.name≠ "_" /\f5.name≠ "_" /\f6.name≠ "_" /\f7.name≠ "_" /\f8.name≠ "_" /\f9.name≠ "_" /\f10.name≠ "_")/\
   (f0.offset=0/\f1.offset=1/\f2.offset=2/\f3.offset=3/\f4.offset=4/\f5.offset=5/\f6.offset=6/\f7.offset=7/\f8.offset=8/\f9.offset=9/\f10.offset=10)/\
   (f0.type=9/\f1.type=9/\f2.type=9/\f3.type=9/\f4.type=4/\f5.type=2/\f6.type=4/\f7.type=2/\f8.type=4/\f9.type=4/\f10.type=3):=
  ⟨_,_,_,_,_,_,_,_,_,_,_,Tryz.underlying35,⟨by decide,by decide,by decide,by decide,by decide,by decide,by decide,by decide,by decide,by decide,by decide⟩,⟨rfl,rfl,rfl,rfl,rfl,rfl,rfl,rfl,rfl,rfl,rfl⟩,⟨rfl,rfl,rfl,rfl,rfl,rfl,rfl,rfl,rfl,rfl,rfl⟩⟩
 obtain⟨n0,n1,n2,n3,n4,n5,n6,n7,n8,n9,n10⟩:=hn
 obtain⟨o0,o1,o2,o3,o4,o5,o6,o7,o8,o9,iK⟩:=ho
 obtain⟨t0,t1,t2,t3,t4,t5,t6,t7,t8,t9,t10⟩:=ht
 have hl:Tryz.prog.fieldsOf 35= #[f0,f1,f2,f3,f4,f5,f6,f7,f8,f9,f10]:=by unfold Program.fieldsOf;rw[hf]
 rw[run_equalIn_struct W 9999 35 _ _ (by rw[hl];exact hf) (by kernel_rfl),hl]
 have key:=Z0 (P:=Tryz.prog) (d:=9999) (xs:=uA r) (ys:=uA s) (W:=W) [(f0,decide (r.name=s.name)),(f1,decide (r.value=s.value)),(f2,decide (r.domain=s.domain)),(f3,decide (r.path=s.path)),(f4,r.ZE==s.ZE),(f5,r.exp==s.exp),(f6,r.BE==s.BE),(f7,r.age==s.age),(f8,r.secure==s.secure),(f9,r.only==s.only),(f10,r.same==s.same)] (by
  intro q hq
  simp only[List.mem_cons,List.not_mem_nil,or_false]at hq
  rcases hq with rfl|rfl|rfl|rfl|rfl|rfl|rfl|rfl|rfl|rfl|rfl
  ·dsimp only;rw[t0,o0];exact⟨n0,_,_,ps r 0 _ rfl,ps s 0 _ rfl,ks _ _⟩
  ·dsimp only;rw[t1,o1];exact⟨n1,_,_,ps r 1 _ rfl,ps s 1 _ rfl,ks _ _⟩
  ·dsimp only;rw[t2,o2];exact⟨n2,_,_,ps r 2 _ rfl,ps s 2 _ rfl,ks _ _⟩
  ·dsimp only;rw[t3,o3];exact⟨n3,_,_,ps r 3 _ rfl,ps s 3 _ rfl,ks _ _⟩
  ·dsimp only;rw[t4,o4];exact⟨n4,_,_,pb r 4 _ rfl,pb s 4 _ rfl,kb _ _⟩
  ·dsimp only;rw[t5,o5];exact⟨n5,_,_,pi r 5 _ rfl,pi s 5 _ rfl,ki _ _⟩
  ·dsimp only;rw[t6,o6];exact⟨n6,_,_,pb r 6 _ rfl,pb s 6 _ rfl,kb _ _⟩
  ·dsimp only;rw[t7,o7];exact⟨n7,_,_,pi r 7 _ rfl,pi s 7 _ rfl,ki _ _⟩
  ·dsimp only;rw[t8,o8];exact⟨n8,_,_,pb r 8 _ rfl,pb s 8 _ rfl,kb _ _⟩
  ·dsimp only;rw[t9,o9];exact⟨n9,_,_,pb r 9 _ rfl,pb s 9 _ rfl,kb _ _⟩
  ·dsimp only;rw[t10,iK];exact⟨n10,_,_,pn r 10 _ rfl,pn s 10 _ rfl,kn _ _⟩)
 have e:decide (r=s)=([(f0,decide (r.name=s.name)),(f1,decide (r.value=s.value)),(f2,decide (r.domain=s.domain)),(f3,decide (r.path=s.path)),(f4,r.ZE==s.ZE),(f5,r.exp==s.exp),(f6,r.BE==s.BE),(f7,r.age==s.age),(f8,r.secure==s.secure),(f9,r.only==s.only),(f10,r.same==s.same)]:List (Field×Bool)).all (·.2):=by
  rw[Bool.eq_iff_iff,decide_eq_true_iff]
  simp only[List.all_cons,List.all_nil,Bool.and_true,Bool.and_eq_true,decide_eq_true_eq,beq_iff_eq]
  constructor
  ·rintro rfl;exact⟨rfl,rfl,rfl,rfl,rfl,rfl,rfl,rfl,rfl,rfl,rfl⟩
  ·rintro⟨e0,e1,e2,e3,e4,e5,e6,e7,e8,e9,e10⟩
   cases r;cases s
   simp only at e0 e1 e2 e3 e4 e5 e6 e7 e8 e9 e10
   subst e0 e1 e2 e3 e4 e5 e6 e7 e8 e9 e10;rfl
 rw[e]
 exact key
theorem hAn(r s:Hd.Raw)(W:World):(binOp .eql 35 (.agg (uA r)) (.agg (uA s))).run Tryz.prog W= .ok (.bool (decide (r=s))) W:=by
 rw[run_eql_struct,I2 r s W];rfl
theorem bAk(r s:Hd.Raw)(W:World):(binOp .neq 35 (.agg (uA r)) (.agg (uA s))).run Tryz.prog W= .ok (.bool (!decide (r=s))) W:=by
 rw[run_neq_struct,I2 r s W];rfl
theorem jM {x y:ByteArray}(h1:x.size<=10000)(h2:y.size<=10000):(x.data.toList++61::y.data.toList).length<=30000:=by
 rw[zB4,zB5,Oct.nA,Oct.nA];omega
theorem one_le {x:ByteArray}(h1:x.size<=10000):x.data.toList.length<=30000:=by rw[Oct.nA];omega
theorem kK {gp n:Nat}{b:Bool}{x:List UInt8}{ps:List (List UInt8)}{w:World}(h:CF gp (if b=true then ps++ [x]else ps) w)(hx:x.length<=30000)(l:1<=ps.length)(m:ps.length<=n)(z: ∀p∈ps,p.length<=30000):
  ∃qs,CF gp qs w/\1<=qs.length/\qs.length<=n+1/\ ∀p∈qs,p.length<=30000:=by
 cases b with
 |false=>rw[if_neg (by simp)]at h;exact⟨ps,h,l,by omega,z⟩
 |true=>
  rw[if_pos rfl]at h
  refine⟨_,h,by rw[zB4];omega,by rw[zB4];simp;omega,?_⟩
  intro p hp
  rcases List.mem_append.1 hp with e|e
  ·exact z p e
  ·rw[List.mem_singleton.1 e];exact hx
structure SB(b0:Nat)(r:Hd.Raw)(w w':World):Prop where
 row:Row w' b0 35 (uA r)
 below:Below w.heap.size w w'
section
variable {b0:Nat} {r:Hd.Raw} {w w' w'':World}
theorem SB.on (k:SB b0 r w w')(hb:Below w'.heap.size w' w''):SB b0 r w w'':=⟨k.row.stays hb,k.below.trans (hb.mono k.below.size)⟩
theorem SB.drew (k:SB b0 r w w'):SB b0 r w w'.drew:=k.on (Below.refl _ _).drew
theorem SB.alloc (k:SB b0 r w w')(o:Obj):SB b0 r w (w'.alloc o):=k.on ((Below.refl _ _).alloc (zB3 _) o)
theorem SB.put (k:SB b0 r w w'){gp:Nat}(h0:b0<gp)(h1:w.heap.size<=gp)(hb:Below gp w' w''):SB b0 r w w'':=⟨k.row.below hb h0,k.below.trans (hb.mono h1)⟩
theorem SB.c2 (k:SB b0 r w w'):w'.cell? ⟨b0,2,none⟩=some (.string ⟨r.domain.toArray⟩):=k.row.cell 2
theorem SB.c4 (k:SB b0 r w w'):w'.cell? ⟨b0,4,none⟩=some (.bool r.ZE):=k.row.cell 4
theorem SB.c5 (k:SB b0 r w w'):w'.cell? ⟨b0,5,none⟩=some (.int .i64 r.exp):=k.row.cell 5
theorem SB.c6 (k:SB b0 r w w'):w'.cell? ⟨b0,6,none⟩=some (.bool r.BE):=k.row.cell 6
theorem SB.c7 (k:SB b0 r w w'):w'.cell? ⟨b0,7,none⟩=some (.int .i64 r.age):=k.row.cell 7
theorem SB.c10 (k:SB b0 r w w'):w'.cell? ⟨b0,10,none⟩=some (.int .i64 r.same):=k.row.cell 10
end
theorem hAU(n:Int)(w:World)(h:Std w)(h0: -9223372036854775808<=n)(h1:n<=9223372036854775807):
  Calls Tryz.prog 121 #[.int .i64 n,.int .i64 10] w fun e w'=>e= .returned (.string ⟨(Lib.itoa n).toArray⟩)/\Below w.heap.size w w':=by
 refine(Tryz.strconv_FormatInt_10 n h0 h1 w h.ten).mono fun e w' ⟨he,k,os,hw⟩=>⟨he,?_⟩
 rw[hw];exact below_grow (MI _ _ _) (by have:=(MI w.heap.size w k).size;exact this) _
theorem nAJ(n:Int)(w:World)(hw:uB w):
  Calls Tryz.prog 123 #[.int .i64 n] w fun e w'=>e= .returned (.string ⟨(Hd.QG n).toArray⟩)/\Below w.heap.size w w':=by
 by_cases h:0<=n/\n<4
 ·obtain⟨x,hx⟩:=Hd.TW (k:=n.toNat) (by omega)
  have:=cAQ n.toNat w hw hx
  have e:((n.toNat:Nat):Int)=n:=by omega
  rw[e]at this
  have e2:Hd.QG n=x:=by unfold Hd.QG;rw[if_pos h,hx];rfl
  rw[e2]
  exact this
 ·have e2:Hd.QG n= []:=by unfold Hd.QG;rw[if_neg h]
  rw[e2]
  have hor:n<0\/(¬n<0/\(4:Int)<=n):=by omega
  clear h e2
  rcases hor with h1|⟨h1,h2⟩
  all_goals
   go_enter Tryz.func123,Tryz.ntmps123
   go_wp2
   go_ret
   exact⟨rfl,Below.refl _ _⟩
structure lN(r:Hd.Raw):Prop where
 name:r.name.length<=9000
 value:r.value.length<=9000
 domain:r.domain.length<=9000
 path:r.path.length<=9000
 exp: -9223372036854775808<=r.exp/\r.exp<=9223372036854775807
 age: -9223372036854775808<=r.age/\r.age<=9223372036854775807
def qY(B:Nat)(w:World)(e:Ending)(w':World):Prop:= ∃X:ByteArray,e= .returned (.string X)/\X.size<=1000000/\Below B w w'
theorem qAr(r:Hd.Raw)(hr:lN r)(w:World)(hw:uB w):
  Calls Tryz.prog 88 #[.agg (uA r)] w (qY w.heap.size w):=by
 have hd0:=Hd.RT r.domain
 have hde:(⟨(Dt.text r.exp).toArray⟩:ByteArray).size<=10000:=by rw[lD];have:=Hd.DZ r.exp;omega
 have hae:(⟨(Lib.itoa r.age).toArray⟩:ByteArray).size<=10000:=by rw[lD];have:=Hd.jAV hr.age.1 hr.age.2;omega
 have hdo:(⟨(Hd.qC r.domain).toArray⟩:ByteArray).size<=10000:=by rw[lD];have:=hr.domain;omega
 have hpa:(⟨r.path.toArray⟩:ByteArray).size<=10000:=by rw[lD];have:=hr.path;omega
 have hsa:(⟨(Hd.QG r.same).toArray⟩:ByteArray).size<=10000:=by rw[lD];have:=Hd.nAM r.same;omega
 have hna:(⟨r.name.toArray⟩:ByteArray).size<=10000:=by rw[lD];have:=hr.name;omega
 have hva:(⟨r.value.toArray⟩:ByteArray).size<=10000:=by rw[lD];have:=hr.value;omega
 have HW:Hid (∀W,Below w.heap.size w W->uB W):=zA7 (fun W hb=>hw.below hb)
 have zM:=zA7 (fun W hW=>BZ r.exp W hW hr.exp.1 hr.exp.2)
 unfold fH at zM
 have eS:=zA7 (fun W hW=>hAU r.age W hW hr.age.1 hr.age.2)
 have nJ:=zA7 (fun W=>bA1 ⟨r.domain.toArray⟩ W (by rw[lD];have:=hr.domain;omega))
 unfold XC at nJ
 have ed:(⟨r.domain.toArray⟩:ByteArray).data.toList=r.domain:=rfl
 rw[ed]at nJ
 have HSame:=zA7 (fun W hW=>nAJ r.same W hW)
 have R0:=Row.new w 35 (uA r)
 have K0:SB w.heap.size r w (w.alloc (.cells (uA r) 35)):=⟨R0,(Below.refl w.heap.size w).alloc (zB3 _) _⟩
 have P0:=bAm (w.alloc (.cells (uA r) 35))
 have K1:=K0.alloc (.cells #[.slice none 0 0] 27)
 have q3:(uA r)[3]? =some (.string ⟨r.path.toArray⟩):=rfl
 have q8:(uA r)[8]? =some (.bool r.secure):=rfl
 have q9:(uA r)[9]? =some (.bool r.only):=rfl
 have c0:=K1.row.cell 0
 have c1:=K1.row.cell 1
 have q0:(uA r)[0]? =some (.string ⟨r.name.toArray⟩):=rfl
 have q1:(uA r)[1]? =some (.string ⟨r.value.toArray⟩):=rfl
 rw[q0]at c0
 rw[q1]at c1
 clear q0 q1
 go_enter Tryz.func88,Tryz.ntmps88
 go_wp2_with fail
 have hs1:(w.alloc (.cells (uA r) 35)).heap.size=w.heap.size+1:=by simp
 have hs2:((w.alloc (.cells (uA r) 35)).alloc (.cells #[.slice none 0 0] 27)).heap.size=w.heap.size+1+1:=by simp
 rw[hs1]at P0
 generalize(w.alloc (.cells (uA r) 35)).alloc (.cells #[.slice none 0 0] 27)=W1 at*
 have N1:=Row.new W1 9 #[.string ⟨r.name.toArray⟩,.string ⟨r.value.toArray⟩]
 have K2:=K1.alloc (.cells #[Value.string ⟨r.name.toArray⟩,.string ⟨r.value.toArray⟩] 9)
 have P1:=P0.stays ((Below.refl W1.heap.size W1).alloc (zB3 _) (.cells #[Value.string ⟨r.name.toArray⟩,.string ⟨r.value.toArray⟩] 9))
 rw[hs2]at N1
 refine(ZF true _ _ [] _ _ _ P1 N1 hna hva (by simp)).mono ?_
 rintro e w2 ⟨rfl,T2,B2⟩
 have K3:=K2.put (by omega) (by omega) B2
 obtain⟨ps2,P2,l2,n2,z2⟩: ∃qs,CF (w.heap.size+1) qs w2/\1<=qs.length/\qs.length<=1/\ ∀p∈qs,p.length<=30000:=
  ⟨_,T2,by simp,by simp,fun p hp=>by rw[if_pos rfl,List.nil_append]at hp;rw[List.mem_singleton.1 hp];exact jM hna hva⟩
 clear T2 P1 N1 K1 P0 c0 c1 hs1 hs2 B2 K2
 have K2:=K3
 clear K3
 go_wp2_with fail
 refine wp_region_held_drew (S:=SB w.heap.size r w) (by kernel_rfl) K2.drew (fun _=>?_)
 refine mA (i:=0) rfl ?_
 refine mA (i:=1) rfl ?_
 refine mA (i:=2) rfl ?_ (hv:=by intro _ hS;have hcell:=hS.c4;clear hS;go_simp;with_reducible rfl)
 refine mA (i:=3) rfl ?_
 refine mA (i:=4) rfl ?_ (hv:=by intro _ hS;have hcell:=hS.c5;clear hS;go_simp;with_reducible rfl)
 refine yA (i:=5) fun K hK=>?_
 go_simp
 refine(zM.out w2.drew (HW.out _ K2.drew.below).UE).mono ?_
 rintro e v2 ⟨rfl,b2⟩
 have D2:=K2.drew.on b2
 have Q2:=P2.stays ((Below.refl _ w2).drew.trans b2)
 go_wp2_with fail
 refine hK.out _ _ D2 (fun _=>?_)
 clear hK K
 refine yA (i:=6) fun K hK=>?_
 go_simp
 have E2:=D2.alloc (.cells #[Value.string ⟨#[69,120,112,105,114,101,115]⟩,.string ⟨(Dt.text r.exp).toArray⟩] 9)
 have R2:=Row.new v2 9 #[Value.string ⟨#[69,120,112,105,114,101,115]⟩,.string ⟨(Dt.text r.exp).toArray⟩]
 have S2:=Q2.stays ((Below.refl _ v2).alloc (zB3 _) (.cells #[Value.string ⟨#[69,120,112,105,114,101,115]⟩,.string ⟨(Dt.text r.exp).toArray⟩] 9))
 refine hK.out _ _ E2 (fun _=>?_)
 clear hK K
 refine yA (i:=7) fun K hK=>?_
 go_simp
 refine(ZF _ _ _ _ _ _ _ S2 R2 (by decide) hde (by omega)).mono ?_
 rintro e w3 ⟨rfl,T3,B3⟩
 have K3:=E2.put (by omega) (by omega) B3
 obtain⟨ps3,P3,l3,n3,z3⟩:=kK T3 (jM (by decide) hde) l2 n2 z2
 clear T3 B3 S2 R2 E2
 go_wp2_with fail
 refine hK.out _ _ K3 (fun _=>?_)
 clear hK K
 refine wpAnyH_done (by kernel_rfl) ?_ _
 clear Q2 D2 b2 P2 K2 l2 n2 z2
 go_wp2_with fail
 refine wp_region_held_drew (S:=SB w.heap.size r w) (by kernel_rfl) K3.drew (fun _=>?_)
 refine mA (i:=0) rfl ?_
 refine mA (i:=1) rfl ?_
 refine mA (i:=2) rfl ?_ (hv:=by intro _ hS;have hcell:=hS.c6;clear hS;go_simp;with_reducible rfl)
 refine mA (i:=3) rfl ?_
 refine mA (i:=4) rfl ?_ (hv:=by intro _ hS;have hcell:=hS.c7;clear hS;go_simp;with_reducible rfl)
 refine yA (i:=5) fun K hK=>?_
 go_simp
 refine(eS.out w3.drew (HW.out _ K3.drew.below).UE.std).mono ?_
 rintro e v3 ⟨rfl,b3⟩
 have D3:=K3.drew.on b3
 have Q3:=P3.stays ((Below.refl _ w3).drew.trans b3)
 go_wp2_with fail
 refine hK.out _ _ D3 (fun _=>?_)
 clear hK K
 refine yA (i:=6) fun K hK=>?_
 go_simp
 have E3:=D3.alloc (.cells #[Value.string ⟨#[77,97,120,45,65,103,101]⟩,.string ⟨(Lib.itoa r.age).toArray⟩] 9)
 have R3:=Row.new v3 9 #[Value.string ⟨#[77,97,120,45,65,103,101]⟩,.string ⟨(Lib.itoa r.age).toArray⟩]
 have S3:=Q3.stays ((Below.refl _ v3).alloc (zB3 _) (.cells #[Value.string ⟨#[77,97,120,45,65,103,101]⟩,.string ⟨(Lib.itoa r.age).toArray⟩] 9))
 refine hK.out _ _ E3 (fun _=>?_)
 clear hK K
 refine yA (i:=7) fun K hK=>?_
 go_simp
 refine(ZF _ _ _ _ _ _ _ S3 R3 (by decide) hae (by omega)).mono ?_
 rintro e w4 ⟨rfl,T4,B4⟩
 have K4:=E3.put (by omega) (by omega) B4
 obtain⟨ps4,P4,l4,n4,z4⟩:=kK T4 (jM (by decide) hae) l3 n3 z3
 clear T4 B4 S3 R3 E3
 go_wp2_with fail
 refine hK.out _ _ K4 (fun _=>?_)
 clear hK K
 refine wpAnyH_done (by kernel_rfl) ?_ _
 clear Q3 D3 b3 P3 K3 l3 n3 z3
 go_wp2_with fail
 refine wp_region_held_drew (S:=SB w.heap.size r w) (by kernel_rfl) K4.drew (fun _=>?_)
 refine mA (i:=0) rfl ?_
 refine mA (i:=1) rfl ?_
 refine mA (i:=2) rfl ?_ (hv:=by intro _ hS;have hcell:=hS.c2;clear hS;go_simp;with_reducible rfl)
 refine mA (i:=3) rfl ?_
 refine mA (i:=4) rfl ?_
 refine mA (i:=5) rfl ?_ (hv:=by intro _ hS;have hcell:=hS.c2;clear hS;go_simp;with_reducible rfl)
 refine yA (i:=6) fun K hK=>?_
 go_simp
 refine(nJ.out w4.drew).mono ?_
 rintro e v4 ⟨rfl,b4⟩
 have D4:=K4.drew.on b4
 have Q4:=P4.stays ((Below.refl _ w4).drew.trans b4)
 go_wp2_with fail
 refine hK.out _ _ D4 (fun _=>?_)
 clear hK K
 refine yA (i:=7) fun K hK=>?_
 go_simp
 have E4:=D4.alloc (.cells #[Value.string ⟨#[68,111,109,97,105,110]⟩,.string ⟨(Hd.qC r.domain).toArray⟩] 9)
 have R4:=Row.new v4 9 #[Value.string ⟨#[68,111,109,97,105,110]⟩,.string ⟨(Hd.qC r.domain).toArray⟩]
 have S4:=Q4.stays ((Below.refl _ v4).alloc (zB3 _) (.cells #[Value.string ⟨#[68,111,109,97,105,110]⟩,.string ⟨(Hd.qC r.domain).toArray⟩] 9))
 refine hK.out _ _ E4 (fun _=>?_)
 clear hK K
 refine yA (i:=8) fun K hK=>?_
 go_simp
 refine(ZF _ _ _ _ _ _ _ S4 R4 (by decide) hdo (by omega)).mono ?_
 rintro e w5 ⟨rfl,T5,B5⟩
 have K5:=E4.put (by omega) (by omega) B5
 obtain⟨ps5,P5,l5,n5,z5⟩:=kK T5 (jM (by decide) hdo) l4 n4 z4
 clear T5 B5 S4 R4 E4
 go_wp2_with fail
 refine hK.out _ _ K5 (fun _=>?_)
 clear hK K
 refine wpAnyH_done (by kernel_rfl) ?_ _
 clear Q4 D4 b4 P4 K4 l4 n4 z4
 have c3:=K5.row.cell 3
 rw[q3]at c3
 go_wp2_with fail
 have E5:=K5.alloc (.cells #[Value.string ⟨#[80,97,116,104]⟩,.string ⟨r.path.toArray⟩] 9)
 have R5:=Row.new w5 9 #[Value.string ⟨#[80,97,116,104]⟩,.string ⟨r.path.toArray⟩]
 have S5:=P5.stays ((Below.refl _ w5).alloc (zB3 _) (.cells #[Value.string ⟨#[80,97,116,104]⟩,.string ⟨r.path.toArray⟩] 9))
 refine(ZF _ _ _ _ _ _ _ S5 R5 (by decide) hpa (by omega)).mono ?_
 rintro e w6 ⟨rfl,T6,B6⟩
 have K6:=E5.put (by omega) (by omega) B6
 obtain⟨ps6,P6,l6,n6,z6⟩:=kK T6 (jM (by decide) hpa) l5 n5 z5
 clear T6 B6 S5 R5 E5
 clear P5 K5 l5 n5 z5
 clear c3
 have c8:=K6.row.cell 8
 rw[q8]at c8
 go_wp2_with fail
 have E6:=K6.alloc (.cells #[Value.string ⟨#[83,101,99,117,114,101]⟩] 9)
 have R6:=Row.new w6 9 #[Value.string ⟨#[83,101,99,117,114,101]⟩]
 have S6:=P6.stays ((Below.refl _ w6).alloc (zB3 _) (.cells #[Value.string ⟨#[83,101,99,117,114,101]⟩] 9))
 refine(kR _ _ _ _ _ _ S6 R6 (by decide) (by omega)).mono ?_
 rintro e w7 ⟨rfl,T7,B7⟩
 have K7:=E6.put (by omega) (by omega) B7
 obtain⟨ps7,P7,l7,n7,z7⟩:=kK T7 (one_le (by decide)) l6 n6 z6
 clear T7 B7 S6 R6 E6
 clear P6 K6 l6 n6 z6
 clear c8
 have c9:=K7.row.cell 9
 rw[q9]at c9
 go_wp2_with fail
 have E7:=K7.alloc (.cells #[Value.string ⟨#[72,116,116,112,79,110,108,121]⟩] 9)
 have R7:=Row.new w7 9 #[Value.string ⟨#[72,116,116,112,79,110,108,121]⟩]
 have S7:=P7.stays ((Below.refl _ w7).alloc (zB3 _) (.cells #[Value.string ⟨#[72,116,116,112,79,110,108,121]⟩] 9))
 refine(kR _ _ _ _ _ _ S7 R7 (by decide) (by omega)).mono ?_
 rintro e w8 ⟨rfl,T8,B8⟩
 have K8:=E7.put (by omega) (by omega) B8
 obtain⟨ps8,P8,l8,n8,z8⟩:=kK T8 (one_le (by decide)) l7 n7 z7
 clear T8 B8 S7 R7 E7
 clear P7 K7 l7 n7 z7
 clear c9
 go_wp2_with fail
 refine wp_region_held_drew (S:=SB w.heap.size r w) (by kernel_rfl) K8.drew (fun _=>?_)
 refine mA (i:=0) rfl ?_
 refine mA (i:=1) rfl ?_
 refine mA (i:=2) rfl ?_ (hv:=by intro _ hS;have hcell:=hS.c10;clear hS;go_simp;with_reducible rfl)
 refine mA (i:=3) rfl ?_
 refine mA (i:=4) rfl ?_
 refine mA (i:=5) rfl ?_ (hv:=by intro _ hS;have hcell:=hS.c10;clear hS;go_simp;with_reducible rfl)
 refine yA (i:=6) fun K hK=>?_
 go_simp
 refine(HSame.out w8.drew (HW.out _ K8.drew.below)).mono ?_
 rintro e v8 ⟨rfl,b8⟩
 have D8:=K8.drew.on b8
 have Q8:=P8.stays ((Below.refl _ w8).drew.trans b8)
 go_wp2_with fail
 refine hK.out _ _ D8 (fun _=>?_)
 clear hK K
 refine yA (i:=7) fun K hK=>?_
 go_simp
 have E8:=D8.alloc (.cells #[Value.string ⟨#[83,97,109,101,83,105,116,101]⟩,.string ⟨(Hd.QG r.same).toArray⟩] 9)
 have R8:=Row.new v8 9 #[Value.string ⟨#[83,97,109,101,83,105,116,101]⟩,.string ⟨(Hd.QG r.same).toArray⟩]
 have S8:=Q8.stays ((Below.refl _ v8).alloc (zB3 _) (.cells #[Value.string ⟨#[83,97,109,101,83,105,116,101]⟩,.string ⟨(Hd.QG r.same).toArray⟩] 9))
 refine hK.out _ _ E8 (fun _=>?_)
 clear hK K
 refine yA (i:=8) fun K hK=>?_
 go_simp
 refine(ZF _ _ _ _ _ _ _ S8 R8 (by decide) hsa (by omega)).mono ?_
 rintro e w9 ⟨rfl,T9,B9⟩
 have K9:=E8.put (by omega) (by omega) B9
 obtain⟨ps9,P9,l9,n9,z9⟩:=kK T9 (jM (by decide) hsa) l8 n8 z8
 clear T9 B9 S8 R8 E8
 go_wp2_with fail
 refine hK.out _ _ K9 (fun _=>?_)
 clear hK K
 refine wpAnyH_done (by kernel_rfl) ?_ _
 clear Q8 D8 b8 P8 K8 l8 n8 z8
 obtain⟨sl,nN,iN⟩:=P9
 have q:=nN.cell 0
 have q':w9.cell? ⟨w.heap.size+1,0,none⟩=some sl:=q
 have hle:=Hd.join_le 30000 z9
 have hle2:30002*ps9.length<=30002*8:=Nat.mul_le_mul_left _ n9
 have hJ:=aAB _ _ w9 sl iN (by omega) (by omega) (by omega)
 have HJ:=zA7 hJ
 have hjs:(⟨(Lib.join ps9 [59,32]).toArray⟩:ByteArray).size<=1000000:=by rw[lD];omega
 clear q hJ iN nN
 go_wp2_with fail
 refine HJ.out.mono ?_
 rintro e OW ⟨rfl,b10⟩
 go_wp2
 go_ret
 exact⟨_,rfl,hjs,K9.below.trans (b10.mono K9.below.size)⟩
end Go.Proofs.YtabgoobcliijeaaGreatDoor
