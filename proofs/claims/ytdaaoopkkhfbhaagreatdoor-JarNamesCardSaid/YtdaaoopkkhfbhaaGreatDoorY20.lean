/- The walk of write on headers of any parts, and Right on them. -/
import Derived.Test.YtdaaoopkkhfbhaaGreatDoorY19
set_option maxHeartbeats 16000000
set_option maxRecDepth 100000
namespace Go.Proofs.YtdaaoopkkhfbhaaGreatDoor
open Go.RowKit
namespace Hd
structure Raw where
 name:List UInt8
 value:List UInt8
 domain:List UInt8
 path:List UInt8
 BH:Bool
 exp:Int
 zH:Bool
 age:Int
 secure:Bool
 only:Bool
 same:Int
 deriving DecidableEq
def Raw.of (h:Head):Raw:=⟨h.name,h.value,h.domain,h.path,h.exp.isSome,h.exp.getD 0,h.age.isSome,((h.age.getD 0:Nat):Int),h.secure,h.only,(h.same:Int)⟩
def IE(n:Int):List UInt8:=if 0<=n/\n<4 then(FC[n.toNat]?).getD []else []
theorem kA6(n:Int):(IE n).length<=6:=by
 unfold IE
 split
 ·rename_i h
  have key: ∀k,k<4->((FC[k]?).getD []).length<=6:=by decide+kernel
  exact key _ (by omega)
 ·decide
theorem cAd(n:Int):(Dt.text n).length<=29:=by
 cases h:Dt.civil (n/86400)with
 |none=>rw[Dt.I0 h];decide
 |some t=>rw[rJ ⟨t,h⟩];exact zB3 _
theorem fAG {n:Int}(h0: -9223372036854775808<=n)(h1:n<=9223372036854775807):(Lib.itoa n).length<=20:=by
 unfold Lib.itoa
 split
 ·have:=Ur.rK 19 n.natAbs (by omega) (by omega)
  rw[zB5];omega
 ·have:=Ur.rK 19 n.toNat (by omega) (by omega)
  omega
theorem SW(m:Nat): ∀ps:List (List UInt8),(∀p∈ps,p.length<=m)->(joined ps).length<=(m+2)*ps.length
 | [],_=>by simp[joined]
 |p::ps,h=>by
  have ih:=SW m ps (fun q hq=>h q (by simp[hq]))
  have h0:=h p (by simp)
  have e:(joined (p::ps)).length=p.length+2+(joined ps).length:=by
   show(59::32::p++joined ps).length=_
   rw[zB4,zB5,zB5]
  rw[e,zB5,Nat.mul_add,Nat.mul_one]
  omega
theorem join_le(m:Nat){ps:List (List UInt8)}(h: ∀p∈ps,p.length<=m):(Lib.join ps [59,32]).length<=(m+2)*ps.length:=by
 cases ps with
 |nil=>simp[Lib.join,List.intercalate]
 |cons p ps=>
  rw[join_cons,zB4,zB5,Nat.mul_add,Nat.mul_one]
  have:=SW m ps (fun q hq=>h q (by simp[hq]))
  have h0:=h p (by simp)
  omega
end Hd
def KA(r:Hd.Raw):Array Value:= #[gA r.name,gA r.value,gA r.domain,gA r.path,.bool r.BH,.int .i64 r.exp,.bool r.zH,.int .i64 r.age,.bool r.secure,.bool r.only,.int .i64 r.same]
theorem UY(h:Hd.Head):KA (Hd.Raw.of h)=headA h:=rfl
theorem aV {P:Program}{d:Nat}{xs ys:Array Value}{W:World} : ∀l:List (Field×Bool),(∀q∈l,q.1.name≠ "_" /\ ∃u v,(part q.1.type xs q.1.offset).run P W= .ok u W/\(part q.1.type ys q.1.offset).run P W= .ok v W/\(Op.equalIn d q.1.type u v).run P W= .ok q.2 W)->
  (Op.eqFields d xs ys (l.map (·.1))).run P W= .ok (l.all (·.2)) W
 | [],_=>by simp[Op.eqFields]
 |(f,b)::l,h=>by
  obtain⟨h1,u,v,h2,h3,h4⟩:=h (f,b) (by simp)
  have ih:=aV (P:=P) (d:=d) (xs:=xs) (ys:=ys) (W:=W) l (fun q hq=>h q (by simp[hq]))
  simp only[List.map_cons,List.all_cons,Op.eqFields,Sem.run_bind,h1,h2,h3,h4,Result.andThen_ok,Sem.run_ite,Sem.run_pure,ne_eq,not_false_eq_true,if_true,ih]
  cases b<;>rfl
theorem cAS(r s:Hd.Raw)(W:World):(Op.equalIn 10000 114 (.agg (KA r)) (.agg (KA s))).run Tryz.prog W= .ok (decide (r=s)) W:=by
 have ks: ∀a b:List UInt8,(Op.equalIn 9999 9 (gA a) (gA b)).run Tryz.prog W= .ok (decide (a=b)) W:=fun a b=>by
  unfold gA
  rw[run_equalIn_string W 9998 9 _ _ Tryz.underlying9,Oct.aB,Oct.aB]
  refine congrArg (fun b=>Result.ok b W) ?_
  rw[Bool.eq_iff_iff]
  simp
 have kb: ∀a b:Bool,(Op.equalIn 9999 4 (.bool a) (.bool b)).run Tryz.prog W= .ok (a==b) W:=fun a b=>run_equalIn_bool' W 9998 4 _ _ Tryz.underlying4
 have ki: ∀a b:Int,(Op.equalIn 9999 2 (.int .i64 a) (.int .i64 b)).run Tryz.prog W= .ok (a==b) W:=fun a b=>run_equalIn_int W 9998 2 .i64 .i64 _ _ Tryz.underlying2
 have kn: ∀a b:Int,(Op.equalIn 9999 3 (.int .i64 a) (.int .i64 b)).run Tryz.prog W= .ok (a==b) W:=fun a b=>run_equalIn_int W 9998 3 .i64 .i64 _ _ Tryz.underlying3
 have ps: ∀(q:Hd.Raw) i v,(KA q)[i]? =some v->(part 9 (KA q) i).run Tryz.prog W= .ok v W:=fun q i v hv=>run_part_plain W (by kernel_rfl) hv
 have pb: ∀(q:Hd.Raw) i v,(KA q)[i]? =some v->(part 4 (KA q) i).run Tryz.prog W= .ok v W:=fun q i v hv=>run_part_plain W (by kernel_rfl) hv
 have pi: ∀(q:Hd.Raw) i v,(KA q)[i]? =some v->(part 2 (KA q) i).run Tryz.prog W= .ok v W:=fun q i v hv=>run_part_plain W (by kernel_rfl) hv
 have pn: ∀(q:Hd.Raw) i v,(KA q)[i]? =some v->(part 3 (KA q) i).run Tryz.prog W= .ok v W:=fun q i v hv=>run_part_plain W (by kernel_rfl) hv
 obtain⟨f0,f1,f2,f3,f4,f5,f6,f7,f8,f9,f10,hf,hn,ho,ht⟩: ∃f0 f1 f2 f3 f4 f5 f6 f7 f8 f9 f10:Field,Tryz.prog.underlying 114=some (.struct #[f0,f1,f2,f3,f4,f5,f6,f7,f8,f9,f10])/\
   (f0.name≠ "_" /\f1.name≠ "_" /\f2.name≠ "_" /\f3.name≠ "_" /\f4.name≠ "_" /\f5.name≠ "_" /\f6.name≠ "_" /\f7.name≠ "_" /\f8.name≠ "_" /\f9.name≠ "_" /\f10.name≠ "_")/\
   (f0.offset=0/\f1.offset=1/\f2.offset=2/\f3.offset=3/\f4.offset=4/\f5.offset=5/\f6.offset=6/\f7.offset=7/\f8.offset=8/\f9.offset=9/\f10.offset=10)/\
   (f0.type=9/\f1.type=9/\f2.type=9/\f3.type=9/\f4.type=4/\f5.type=2/\f6.type=4/\f7.type=2/\f8.type=4/\f9.type=4/\f10.type=3):=
  ⟨_,_,_,_,_,_,_,_,_,_,_,Tryz.underlying114,⟨by decide,by decide,by decide,by decide,by decide,by decide,by decide,by decide,by decide,by decide,by decide⟩,⟨rfl,rfl,rfl,rfl,rfl,rfl,rfl,rfl,rfl,rfl,rfl⟩,⟨rfl,rfl,rfl,rfl,rfl,rfl,rfl,rfl,rfl,rfl,rfl⟩⟩
 obtain⟨n0,n1,n2,n3,n4,n5,n6,n7,n8,n9,n10⟩:=hn
 obtain⟨o0,o1,o2,o3,o4,o5,o6,o7,o8,o9,o10⟩:=ho
 obtain⟨t0,t1,t2,t3,t4,t5,t6,t7,t8,t9,t10⟩:=ht
 have hl:Tryz.prog.fieldsOf 114= #[f0,f1,f2,f3,f4,f5,f6,f7,f8,f9,f10]:=by unfold Program.fieldsOf;rw[hf]
 rw[run_equalIn_struct W 9999 114 _ _ (by rw[hl];exact hf) (by kernel_rfl),hl]
 have key:=aV (P:=Tryz.prog) (d:=9999) (xs:=KA r) (ys:=KA s) (W:=W) [(f0,decide (r.name=s.name)),(f1,decide (r.value=s.value)),(f2,decide (r.domain=s.domain)),(f3,decide (r.path=s.path)),(f4,r.BH==s.BH),(f5,r.exp==s.exp),(f6,r.zH==s.zH),(f7,r.age==s.age),(f8,r.secure==s.secure),(f9,r.only==s.only),(f10,r.same==s.same)] (by
  intro q hq
  simp only[List.mem_cons,List.not_mem_nil,or_false]at hq
  rcases hq with rfl|rfl|rfl|rfl|rfl|rfl|rfl|rfl|rfl|rfl|rfl
  ·dsimp only;rw[t0,o0];exact⟨n0,_,_,ps r 0 _ rfl,ps s 0 _ rfl,ks _ _⟩
  ·dsimp only;rw[t1,o1];exact⟨n1,_,_,ps r 1 _ rfl,ps s 1 _ rfl,ks _ _⟩
  ·dsimp only;rw[t2,o2];exact⟨n2,_,_,ps r 2 _ rfl,ps s 2 _ rfl,ks _ _⟩
  ·dsimp only;rw[t3,o3];exact⟨n3,_,_,ps r 3 _ rfl,ps s 3 _ rfl,ks _ _⟩
  ·dsimp only;rw[t4,o4];exact⟨n4,_,_,pb r 4 _ rfl,pb s 4 _ rfl,kb _ _⟩
  ·dsimp only;rw[t5,o5];exact⟨n5,_,_,pi r 5 _ rfl,pi s 5 _ rfl,ki _ _⟩
  ·dsimp only;rw[t6,o6];exact⟨n6,_,_,pb r 6 _ rfl,pb s 6 _ rfl,kb _ _⟩
  ·dsimp only;rw[t7,o7];exact⟨n7,_,_,pi r 7 _ rfl,pi s 7 _ rfl,ki _ _⟩
  ·dsimp only;rw[t8,o8];exact⟨n8,_,_,pb r 8 _ rfl,pb s 8 _ rfl,kb _ _⟩
  ·dsimp only;rw[t9,o9];exact⟨n9,_,_,pb r 9 _ rfl,pb s 9 _ rfl,kb _ _⟩
  ·dsimp only;rw[t10,o10];exact⟨n10,_,_,pn r 10 _ rfl,pn s 10 _ rfl,kn _ _⟩)
 have e:decide (r=s)=([(f0,decide (r.name=s.name)),(f1,decide (r.value=s.value)),(f2,decide (r.domain=s.domain)),(f3,decide (r.path=s.path)),(f4,r.BH==s.BH),(f5,r.exp==s.exp),(f6,r.zH==s.zH),(f7,r.age==s.age),(f8,r.secure==s.secure),(f9,r.only==s.only),(f10,r.same==s.same)]:List (Field×Bool)).all (·.2):=by
  rw[Bool.eq_iff_iff,decide_eq_true_iff]
  simp only[List.all_cons,List.all_nil,Bool.and_true,Bool.and_eq_true,decide_eq_true_eq,beq_iff_eq]
  constructor
  ·rintro rfl;exact⟨rfl,rfl,rfl,rfl,rfl,rfl,rfl,rfl,rfl,rfl,rfl⟩
  ·rintro⟨e0,e1,e2,e3,e4,e5,e6,e7,e8,e9,e10⟩
   cases r;cases s
   simp only at e0 e1 e2 e3 e4 e5 e6 e7 e8 e9 e10
   subst e0 e1 e2 e3 e4 e5 e6 e7 e8 e9 e10;rfl
 rw[e]
 exact key
theorem cAV(r s:Hd.Raw)(W:World):(binOp .eql 114 (.agg (KA r)) (.agg (KA s))).run Tryz.prog W= .ok (.bool (decide (r=s))) W:=by
 rw[run_eql_struct,cAS r s W];rfl
theorem wJ {x y:ByteArray}(h1:x.size<=10000)(h2:y.size<=10000):(x.data.toList++61::y.data.toList).length<=30000:=by
 rw[zB4,zB5,Oct.oA,Oct.oA];omega
theorem one_le {x:ByteArray}(h1:x.size<=10000):x.data.toList.length<=30000:=by rw[Oct.oA];omega
theorem ZH {gp n:Nat}{b:Bool}{x:List UInt8}{ps:List (List UInt8)}{w:World}(h:PD gp (if b=true then ps++ [x]else ps) w)(hx:x.length<=30000)(l:1<=ps.length)(m:ps.length<=n)(z: ∀p∈ps,p.length<=30000):
  ∃qs,PD gp qs w/\1<=qs.length/\qs.length<=n+1/\ ∀p∈qs,p.length<=30000:=by
 cases b with
 |false=>rw[if_neg (by simp)]at h;exact⟨ps,h,l,by omega,z⟩
 |true=>
  rw[if_pos rfl]at h
  refine⟨_,h,by rw[zB4];omega,by rw[zB4];simp;omega,?_⟩
  intro p hp
  rcases List.mem_append.1 hp with e|e
  ·exact z p e
  ·rw[List.mem_singleton.1 e];exact hx
structure qB(b0:Nat)(r:Hd.Raw)(w w':World):Prop where
 row:Row w' b0 114 (KA r)
 below:Below w.heap.size w w'
section
variable {b0:Nat} {r:Hd.Raw} {w w' w'':World}
theorem qB.on (k:qB b0 r w w')(hb:Below w'.heap.size w' w''):qB b0 r w w'':=⟨k.row.stays hb,k.below.trans (hb.mono k.below.size)⟩
theorem qB.drew (k:qB b0 r w w'):qB b0 r w w'.drew:=k.on (Below.refl _ _).drew
theorem qB.alloc (k:qB b0 r w w')(o:Obj):qB b0 r w (w'.alloc o):=k.on ((Below.refl _ _).alloc (zB3 _) o)
theorem qB.put (k:qB b0 r w w'){gp:Nat}(h0:b0<gp)(h1:w.heap.size<=gp)(hb:Below gp w' w''):qB b0 r w w'':=⟨k.row.below hb h0,k.below.trans (hb.mono h1)⟩
theorem qB.c2 (k:qB b0 r w w'):w'.cell? ⟨b0,2,none⟩=some (.string ⟨r.domain.toArray⟩):=k.row.cell 2
theorem qB.c4 (k:qB b0 r w w'):w'.cell? ⟨b0,4,none⟩=some (.bool r.BH):=k.row.cell 4
theorem qB.c5 (k:qB b0 r w w'):w'.cell? ⟨b0,5,none⟩=some (.int .i64 r.exp):=k.row.cell 5
theorem qB.c6 (k:qB b0 r w w'):w'.cell? ⟨b0,6,none⟩=some (.bool r.zH):=k.row.cell 6
theorem qB.c7 (k:qB b0 r w w'):w'.cell? ⟨b0,7,none⟩=some (.int .i64 r.age):=k.row.cell 7
theorem qB.c10 (k:qB b0 r w w'):w'.cell? ⟨b0,10,none⟩=some (.int .i64 r.same):=k.row.cell 10
end
theorem dAD(n:Int)(w:World)(h:Std w)(h0: -9223372036854775808<=n)(h1:n<=9223372036854775807):
  Calls Tryz.prog 262 #[.int .i64 n,.int .i64 10] w fun e w'=>e= .returned (.string ⟨(Lib.itoa n).toArray⟩)/\Below w.heap.size w w':=by
 refine(Tryz.strconv_FormatInt_10 n h0 h1 w h.ten).mono fun e w' ⟨he,k,os,hw⟩=>⟨he,?_⟩
 rw[hw];exact below_grow (uG _ _ _) (by have:=(uG w.heap.size w k).size;exact this) _
theorem kA3(n:Int)(w:World)(hw:mB w):
  Calls Tryz.prog 264 #[.int .i64 n] w fun e w'=>e= .returned (.string ⟨(Hd.IE n).toArray⟩)/\Below w.heap.size w w':=by
 by_cases h:0<=n/\n<4
 ·obtain⟨x,hx⟩:=Hd.gS (k:=n.toNat) (by omega)
  have:=qZ n.toNat w hw hx
  have e:((n.toNat:Nat):Int)=n:=by omega
  rw[e]at this
  have e2:Hd.IE n=x:=by unfold Hd.IE;rw[if_pos h,hx];rfl
  rw[e2]
  exact this
 ·have e2:Hd.IE n= []:=by unfold Hd.IE;rw[if_neg h]
  rw[e2]
  have hor:n<0\/(¬n<0/\(4:Int)<=n):=by omega
  clear h e2
  rcases hor with h1|⟨h1,h2⟩
  all_goals
   go_enter Tryz.func264,Tryz.ntmps264
   go_wp2
   go_ret
   exact⟨rfl,Below.refl _ _⟩
structure eK(r:Hd.Raw):Prop where
 name:r.name.length<=9000
 value:r.value.length<=9000
 domain:r.domain.length<=9000
 path:r.path.length<=9000
 exp: -9223372036854775808<=r.exp/\r.exp<=9223372036854775807
 age: -9223372036854775808<=r.age/\r.age<=9223372036854775807
def xT(B:Nat)(w:World)(e:Ending)(w':World):Prop:= ∃X:ByteArray,e= .returned (.string X)/\X.size<=1000000/\Below B w w'
theorem mAE(r:Hd.Raw)(hr:eK r)(w:World)(hw:mB w):
  Calls Tryz.prog 211 #[.agg (KA r)] w (xT w.heap.size w):=by
 have hd0:=Hd.FP r.domain
 have hde:(⟨(Dt.text r.exp).toArray⟩:ByteArray).size<=10000:=by rw[wC];have:=Hd.cAd r.exp;omega
 have hae:(⟨(Lib.itoa r.age).toArray⟩:ByteArray).size<=10000:=by rw[wC];have:=Hd.fAG hr.age.1 hr.age.2;omega
 have hdo:(⟨(Hd.bC r.domain).toArray⟩:ByteArray).size<=10000:=by rw[wC];have:=hr.domain;omega
 have hpa:(⟨r.path.toArray⟩:ByteArray).size<=10000:=by rw[wC];have:=hr.path;omega
 have hsa:(⟨(Hd.IE r.same).toArray⟩:ByteArray).size<=10000:=by rw[wC];have:=Hd.kA6 r.same;omega
 have hna:(⟨r.name.toArray⟩:ByteArray).size<=10000:=by rw[wC];have:=hr.name;omega
 have hva:(⟨r.value.toArray⟩:ByteArray).size<=10000:=by rw[wC];have:=hr.value;omega
 have HW:Hid (∀W,Below w.heap.size w W->mB W):=zA7 (fun W hb=>hw.below hb)
 have IJ:=zA7 (fun W hW=>AU r.exp W hW hr.exp.1 hr.exp.2)
 unfold oH at IJ
 have iO:=zA7 (fun W hW=>dAD r.age W hW hr.age.1 hr.age.2)
 have bH:=zA7 (fun W=>wX ⟨r.domain.toArray⟩ W (by rw[wC];have:=hr.domain;omega))
 unfold VC at bH
 have ed:(⟨r.domain.toArray⟩:ByteArray).data.toList=r.domain:=rfl
 rw[ed]at bH
 have HSame:=zA7 (fun W hW=>kA3 r.same W hW)
 have R0:=Row.new w 114 (KA r)
 have K0:qB w.heap.size r w (w.alloc (.cells (KA r) 114)):=⟨R0,(Below.refl w.heap.size w).alloc (zB3 _) _⟩
 have P0:=VX (w.alloc (.cells (KA r) 114))
 have K1:=K0.alloc (.cells #[.slice none 0 0] 93)
 have q3:(KA r)[3]? =some (.string ⟨r.path.toArray⟩):=rfl
 have q8:(KA r)[8]? =some (.bool r.secure):=rfl
 have q9:(KA r)[9]? =some (.bool r.only):=rfl
 have c0:=K1.row.cell 0
 have c1:=K1.row.cell 1
 have q0:(KA r)[0]? =some (.string ⟨r.name.toArray⟩):=rfl
 have q1:(KA r)[1]? =some (.string ⟨r.value.toArray⟩):=rfl
 rw[q0]at c0
 rw[q1]at c1
 clear q0 q1
 go_enter Tryz.func211,Tryz.ntmps211
 go_wp2_with fail
 have hs1:(w.alloc (.cells (KA r) 114)).heap.size=w.heap.size+1:=by simp
 have hs2:((w.alloc (.cells (KA r) 114)).alloc (.cells #[.slice none 0 0] 93)).heap.size=w.heap.size+1+1:=by simp
 rw[hs1]at P0
 generalize(w.alloc (.cells (KA r) 114)).alloc (.cells #[.slice none 0 0] 93)=W1 at*
 have N1:=Row.new W1 9 #[.string ⟨r.name.toArray⟩,.string ⟨r.value.toArray⟩]
 have K2:=K1.alloc (.cells #[Value.string ⟨r.name.toArray⟩,.string ⟨r.value.toArray⟩] 9)
 have P1:=P0.stays ((Below.refl W1.heap.size W1).alloc (zB3 _) (.cells #[Value.string ⟨r.name.toArray⟩,.string ⟨r.value.toArray⟩] 9))
 rw[hs2]at N1
 refine(cE true _ _ [] _ _ _ P1 N1 hna hva (by simp)).mono ?_
 rintro e w2 ⟨rfl,T2,B2⟩
 have K3:=K2.put (by omega) (by omega) B2
 obtain⟨ps2,P2,l2,n2,z2⟩: ∃qs,PD (w.heap.size+1) qs w2/\1<=qs.length/\qs.length<=1/\ ∀p∈qs,p.length<=30000:=
  ⟨_,T2,by simp,by simp,fun p hp=>by rw[if_pos rfl,List.nil_append]at hp;rw[List.mem_singleton.1 hp];exact wJ hna hva⟩
 clear T2 P1 N1 K1 P0 c0 c1 hs1 hs2 B2 K2
 have K2:=K3
 clear K3
 go_wp2_with fail
 refine wp_region_held_drew (S:=qB w.heap.size r w) (by kernel_rfl) K2.drew (fun _=>?_)
 refine lA (i:=0) rfl ?_
 refine lA (i:=1) rfl ?_
 refine lA (i:=2) rfl ?_ (hv:=by intro _ hS;have hcell:=hS.c4;clear hS;go_simp;with_reducible rfl)
 refine lA (i:=3) rfl ?_
 refine lA (i:=4) rfl ?_ (hv:=by intro _ hS;have hcell:=hS.c5;clear hS;go_simp;with_reducible rfl)
 refine QA (i:=5) fun K hK=>?_
 go_simp
 refine(IJ.out w2.drew (HW.out _ K2.drew.below).MC).mono ?_
 rintro e v2 ⟨rfl,b2⟩
 have D2:=K2.drew.on b2
 have Q2:=P2.stays ((Below.refl _ w2).drew.trans b2)
 go_wp2_with fail
 refine hK.out _ _ D2 (fun _=>?_)
 clear hK K
 refine QA (i:=6) fun K hK=>?_
 go_simp
 have E2:=D2.alloc (.cells #[Value.string ⟨#[69,120,112,105,114,101,115]⟩,.string ⟨(Dt.text r.exp).toArray⟩] 9)
 have R2:=Row.new v2 9 #[Value.string ⟨#[69,120,112,105,114,101,115]⟩,.string ⟨(Dt.text r.exp).toArray⟩]
 have S2:=Q2.stays ((Below.refl _ v2).alloc (zB3 _) (.cells #[Value.string ⟨#[69,120,112,105,114,101,115]⟩,.string ⟨(Dt.text r.exp).toArray⟩] 9))
 refine hK.out _ _ E2 (fun _=>?_)
 clear hK K
 refine QA (i:=7) fun K hK=>?_
 go_simp
 refine(cE _ _ _ _ _ _ _ S2 R2 (by decide) hde (by omega)).mono ?_
 rintro e w3 ⟨rfl,T3,B3⟩
 have K3:=E2.put (by omega) (by omega) B3
 obtain⟨ps3,P3,l3,n3,z3⟩:=ZH T3 (wJ (by decide) hde) l2 n2 z2
 clear T3 B3 S2 R2 E2
 go_wp2_with fail
 refine hK.out _ _ K3 (fun _=>?_)
 clear hK K
 refine wpAnyH_done (by kernel_rfl) ?_ _
 clear Q2 D2 b2 P2 K2 l2 n2 z2
 go_wp2_with fail
 refine wp_region_held_drew (S:=qB w.heap.size r w) (by kernel_rfl) K3.drew (fun _=>?_)
 refine lA (i:=0) rfl ?_
 refine lA (i:=1) rfl ?_
 refine lA (i:=2) rfl ?_ (hv:=by intro _ hS;have hcell:=hS.c6;clear hS;go_simp;with_reducible rfl)
 refine lA (i:=3) rfl ?_
 refine lA (i:=4) rfl ?_ (hv:=by intro _ hS;have hcell:=hS.c7;clear hS;go_simp;with_reducible rfl)
 refine QA (i:=5) fun K hK=>?_
 go_simp
 refine(iO.out w3.drew (HW.out _ K3.drew.below).MC.std).mono ?_
 rintro e v3 ⟨rfl,b3⟩
 have D3:=K3.drew.on b3
 have Q3:=P3.stays ((Below.refl _ w3).drew.trans b3)
 go_wp2_with fail
 refine hK.out _ _ D3 (fun _=>?_)
 clear hK K
 refine QA (i:=6) fun K hK=>?_
 go_simp
 have E3:=D3.alloc (.cells #[Value.string ⟨#[77,97,120,45,65,103,101]⟩,.string ⟨(Lib.itoa r.age).toArray⟩] 9)
 have R3:=Row.new v3 9 #[Value.string ⟨#[77,97,120,45,65,103,101]⟩,.string ⟨(Lib.itoa r.age).toArray⟩]
 have S3:=Q3.stays ((Below.refl _ v3).alloc (zB3 _) (.cells #[Value.string ⟨#[77,97,120,45,65,103,101]⟩,.string ⟨(Lib.itoa r.age).toArray⟩] 9))
 refine hK.out _ _ E3 (fun _=>?_)
 clear hK K
 refine QA (i:=7) fun K hK=>?_
 go_simp
 refine(cE _ _ _ _ _ _ _ S3 R3 (by decide) hae (by omega)).mono ?_
 rintro e w4 ⟨rfl,T4,B4⟩
 have K4:=E3.put (by omega) (by omega) B4
 obtain⟨ps4,P4,l4,n4,z4⟩:=ZH T4 (wJ (by decide) hae) l3 n3 z3
 clear T4 B4 S3 R3 E3
 go_wp2_with fail
 refine hK.out _ _ K4 (fun _=>?_)
 clear hK K
 refine wpAnyH_done (by kernel_rfl) ?_ _
 clear Q3 D3 b3 P3 K3 l3 n3 z3
 go_wp2_with fail
 refine wp_region_held_drew (S:=qB w.heap.size r w) (by kernel_rfl) K4.drew (fun _=>?_)
 refine lA (i:=0) rfl ?_
 refine lA (i:=1) rfl ?_
 refine lA (i:=2) rfl ?_ (hv:=by intro _ hS;have hcell:=hS.c2;clear hS;go_simp;with_reducible rfl)
 refine lA (i:=3) rfl ?_
 refine lA (i:=4) rfl ?_
 refine lA (i:=5) rfl ?_ (hv:=by intro _ hS;have hcell:=hS.c2;clear hS;go_simp;with_reducible rfl)
 refine QA (i:=6) fun K hK=>?_
 go_simp
 refine(bH.out w4.drew).mono ?_
 rintro e v4 ⟨rfl,b4⟩
 have D4:=K4.drew.on b4
 have Q4:=P4.stays ((Below.refl _ w4).drew.trans b4)
 go_wp2_with fail
 refine hK.out _ _ D4 (fun _=>?_)
 clear hK K
 refine QA (i:=7) fun K hK=>?_
 go_simp
 have E4:=D4.alloc (.cells #[Value.string ⟨#[68,111,109,97,105,110]⟩,.string ⟨(Hd.bC r.domain).toArray⟩] 9)
 have R4:=Row.new v4 9 #[Value.string ⟨#[68,111,109,97,105,110]⟩,.string ⟨(Hd.bC r.domain).toArray⟩]
 have S4:=Q4.stays ((Below.refl _ v4).alloc (zB3 _) (.cells #[Value.string ⟨#[68,111,109,97,105,110]⟩,.string ⟨(Hd.bC r.domain).toArray⟩] 9))
 refine hK.out _ _ E4 (fun _=>?_)
 clear hK K
 refine QA (i:=8) fun K hK=>?_
 go_simp
 refine(cE _ _ _ _ _ _ _ S4 R4 (by decide) hdo (by omega)).mono ?_
 rintro e w5 ⟨rfl,T5,B5⟩
 have K5:=E4.put (by omega) (by omega) B5
 obtain⟨ps5,P5,l5,n5,z5⟩:=ZH T5 (wJ (by decide) hdo) l4 n4 z4
 clear T5 B5 S4 R4 E4
 go_wp2_with fail
 refine hK.out _ _ K5 (fun _=>?_)
 clear hK K
 refine wpAnyH_done (by kernel_rfl) ?_ _
 clear Q4 D4 b4 P4 K4 l4 n4 z4
 have c3:=K5.row.cell 3
 rw[q3]at c3
 go_wp2_with fail
 have E5:=K5.alloc (.cells #[Value.string ⟨#[80,97,116,104]⟩,.string ⟨r.path.toArray⟩] 9)
 have R5:=Row.new w5 9 #[Value.string ⟨#[80,97,116,104]⟩,.string ⟨r.path.toArray⟩]
 have S5:=P5.stays ((Below.refl _ w5).alloc (zB3 _) (.cells #[Value.string ⟨#[80,97,116,104]⟩,.string ⟨r.path.toArray⟩] 9))
 refine(cE _ _ _ _ _ _ _ S5 R5 (by decide) hpa (by omega)).mono ?_
 rintro e w6 ⟨rfl,T6,B6⟩
 have K6:=E5.put (by omega) (by omega) B6
 obtain⟨ps6,P6,l6,n6,z6⟩:=ZH T6 (wJ (by decide) hpa) l5 n5 z5
 clear T6 B6 S5 R5 E5
 clear P5 K5 l5 n5 z5
 clear c3
 have c8:=K6.row.cell 8
 rw[q8]at c8
 go_wp2_with fail
 have E6:=K6.alloc (.cells #[Value.string ⟨#[83,101,99,117,114,101]⟩] 9)
 have R6:=Row.new w6 9 #[Value.string ⟨#[83,101,99,117,114,101]⟩]
 have S6:=P6.stays ((Below.refl _ w6).alloc (zB3 _) (.cells #[Value.string ⟨#[83,101,99,117,114,101]⟩] 9))
 refine(wN _ _ _ _ _ _ S6 R6 (by decide) (by omega)).mono ?_
 rintro e w7 ⟨rfl,T7,B7⟩
 have K7:=E6.put (by omega) (by omega) B7
 obtain⟨ps7,P7,l7,n7,z7⟩:=ZH T7 (one_le (by decide)) l6 n6 z6
 clear T7 B7 S6 R6 E6
 clear P6 K6 l6 n6 z6
 clear c8
 have c9:=K7.row.cell 9
 rw[q9]at c9
 go_wp2_with fail
 have E7:=K7.alloc (.cells #[Value.string ⟨#[72,116,116,112,79,110,108,121]⟩] 9)
 have R7:=Row.new w7 9 #[Value.string ⟨#[72,116,116,112,79,110,108,121]⟩]
 have S7:=P7.stays ((Below.refl _ w7).alloc (zB3 _) (.cells #[Value.string ⟨#[72,116,116,112,79,110,108,121]⟩] 9))
 refine(wN _ _ _ _ _ _ S7 R7 (by decide) (by omega)).mono ?_
 rintro e w8 ⟨rfl,T8,B8⟩
 have K8:=E7.put (by omega) (by omega) B8
 obtain⟨ps8,P8,l8,n8,z8⟩:=ZH T8 (one_le (by decide)) l7 n7 z7
 clear T8 B8 S7 R7 E7
 clear P7 K7 l7 n7 z7
 clear c9
 go_wp2_with fail
 refine wp_region_held_drew (S:=qB w.heap.size r w) (by kernel_rfl) K8.drew (fun _=>?_)
 refine lA (i:=0) rfl ?_
 refine lA (i:=1) rfl ?_
 refine lA (i:=2) rfl ?_ (hv:=by intro _ hS;have hcell:=hS.c10;clear hS;go_simp;with_reducible rfl)
 refine lA (i:=3) rfl ?_
 refine lA (i:=4) rfl ?_
 refine lA (i:=5) rfl ?_ (hv:=by intro _ hS;have hcell:=hS.c10;clear hS;go_simp;with_reducible rfl)
 refine QA (i:=6) fun K hK=>?_
 go_simp
 refine(HSame.out w8.drew (HW.out _ K8.drew.below)).mono ?_
 rintro e v8 ⟨rfl,b8⟩
 have D8:=K8.drew.on b8
 have Q8:=P8.stays ((Below.refl _ w8).drew.trans b8)
 go_wp2_with fail
 refine hK.out _ _ D8 (fun _=>?_)
 clear hK K
 refine QA (i:=7) fun K hK=>?_
 go_simp
 have E8:=D8.alloc (.cells #[Value.string ⟨#[83,97,109,101,83,105,116,101]⟩,.string ⟨(Hd.IE r.same).toArray⟩] 9)
 have R8:=Row.new v8 9 #[Value.string ⟨#[83,97,109,101,83,105,116,101]⟩,.string ⟨(Hd.IE r.same).toArray⟩]
 have S8:=Q8.stays ((Below.refl _ v8).alloc (zB3 _) (.cells #[Value.string ⟨#[83,97,109,101,83,105,116,101]⟩,.string ⟨(Hd.IE r.same).toArray⟩] 9))
 refine hK.out _ _ E8 (fun _=>?_)
 clear hK K
 refine QA (i:=8) fun K hK=>?_
 go_simp
 refine(cE _ _ _ _ _ _ _ S8 R8 (by decide) hsa (by omega)).mono ?_
 rintro e w9 ⟨rfl,T9,B9⟩
 have K9:=E8.put (by omega) (by omega) B9
 obtain⟨JY,P9,l9,n9,z9⟩:=ZH T9 (wJ (by decide) hsa) l8 n8 z8
 clear T9 B9 S8 R8 E8
 go_wp2_with fail
 refine hK.out _ _ K9 (fun _=>?_)
 clear hK K
 refine wpAnyH_done (by kernel_rfl) ?_ _
 clear Q8 D8 b8 P8 K8 l8 n8 z8
 obtain⟨sl,gK,cK⟩:=P9
 have q:=gK.cell 0
 have q':w9.cell? ⟨w.heap.size+1,0,none⟩=some sl:=q
 have hle:=Hd.join_le 30000 z9
 have hle2:30002*JY.length<=30002*8:=Nat.mul_le_mul_left _ n9
 have hJ:=OW _ _ w9 sl cK (by omega) (by omega) (by omega)
 have HJ:=zA7 hJ
 have hjs:(⟨(Lib.join JY [59,32]).toArray⟩:ByteArray).size<=1000000:=by rw[wC];omega
 clear q hJ cK gK
 go_wp2_with fail
 refine HJ.out.mono ?_
 rintro e w10 ⟨rfl,b10⟩
 go_wp2
 go_ret
 exact⟨_,rfl,hjs,K9.below.trans (b10.mono K9.below.size)⟩
end Go.Proofs.YtdaaoopkkhfbhaaGreatDoor
