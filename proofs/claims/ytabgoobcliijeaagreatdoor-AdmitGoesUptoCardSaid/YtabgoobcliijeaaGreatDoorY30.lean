/- The walks of the reference's Text of headers of any parts, and of its numbers. -/
import Derived.Test.YtabgoobcliijeaaGreatDoorY28
import Derived.Test.YtabgoobcliijeaaGreatDoorY29
set_option maxHeartbeats 16000000
set_option maxRecDepth 100000
namespace Go.Proofs.YtabgoobcliijeaaGreatDoor
open Go.RowKit
theorem gAM(n:Nat)(hn:n<=9223372036854775807)(w:World):
  Calls Tryz.prog 63 #[.int .i64 (n:Int)] w fun e w'=>e= .returned (.string ⟨(Lib.decDigits n).toArray⟩)/\Below w.heap.size w w':=by
 have hlen:=Ur.OJ 19 n (by omega) (by omega)
 go_enter Tryz.func63,Tryz.ntmps63
 go_wp2
 go_loopw [0,3] (fun v x wr=> ∃(m:Nat)(o:ByteArray),m<=9223372036854775807/\v= .int .i64 (m:Int)/\x= .string o/\o.size<=19/\Hid (Lib.decDigits n=Lib.decDigits m++o.data.toList)/\Below w.heap.size w wr) (fun v _ _=>(intOf v).toNat)
 case atStart=>exact⟨n,⟨#[]⟩,hn,rfl,rfl,Nat.zero_le _,zA7 (by show _=_++ [];rw[List.append_nil]),Below.refl _ _⟩
 case round=>
  obtain⟨m,o,hm,rfl,rfl,hz,HO,hb⟩:=hrel
  by_cases hg:m<10
  ·have hg1: ¬(9:Int)<(m:Int):=by omega
   obtain⟨c,hc⟩: ∃c:UInt8,c=UInt8.ofNat (48+m):=⟨_,rfl⟩
   have hu:=aA.SP m hg
   rw[<-hc]at hu
   have hu':(c.toNat:Int)=48+(m:Int):=by omega
   have hcv:=dO wr c
   rw[hu']at hcv
   have hsz: ¬9223372036854775807<(⟨#[c]⟩:ByteArray).size+o.size:=by have:(⟨#[c]⟩:ByteArray).size=1:=rfl;omega
   have HT:Hid ((⟨#[c]⟩:ByteArray)++o=⟨(Lib.decDigits n).toArray⟩):=zA7 (by
    rw[HO.out,aA.GZ hg,<-hc]
    apply ByteArray.ext
    rw[ByteArray.data_append]
    apply Array.ext'
    rw[Array.toList_append])
   clear hc hu hu' hlen
   go_wp2
   go_ret
   exact⟨nB HT.out,hb.alloc hb.size _⟩
  ·have hg1:(9:Int)<(m:Int):=by omega
   have hd:m%10<10:=by omega
   obtain⟨c,hc⟩: ∃c:UInt8,c=UInt8.ofNat (48+m%10):=⟨_,rfl⟩
   have hu:=aA.SP (m%10) hd
   rw[<-hc]at hu
   have hu':(c.toNat:Int)=48+(m:Int)%10:=by omega
   have hcv:=dO wr c
   rw[hu']at hcv
   have q2:(m:Int).tmod 10=(m:Int)%10:=Int.tmod_eq_emod_of_nonneg (by omega)
   have q1:(m:Int).tdiv 10=(m:Int)/10:=Int.tdiv_eq_ediv_of_nonneg (by omega)
   have m0:0<=(m:Int)%10:=by omega
   have m1:(m:Int)%10<10:=by omega
   have hsz: ¬9223372036854775807<(⟨#[c]⟩:ByteArray).size+o.size:=by have:(⟨#[c]⟩:ByteArray).size=1:=rfl;omega
   have HT:Hid (Lib.decDigits n=Lib.decDigits (m/10)++((⟨#[c]⟩:ByteArray)++o).data.toList):=zA7 (by
    rw[HO.out,aA.FZ hg,<-hc,ByteArray.data_append,Array.toList_append,List.append_assoc])
   have hzz:((⟨#[c]⟩:ByteArray)++o).size<=19:=by
    have e:=congrArg List.length HT.out
    rw[zB4,Oct.nA]at e
    have h1:0<(Lib.decDigits (m/10)).length:=List.length_pos_iff.2 (Ur.dL (m/10)).2.2
    omega
   clear hc hu hu' hlen
   go_wp2
   go_roundw
   case rel=>exact⟨m/10,_,by omega,by go_num,rfl,hzz,HT,hb.alloc hb.size _⟩
   case measure=>simp[intOf];omega
namespace Hd
noncomputable def pW(b:Bool)(n:Int):List UInt8:=if b=true then [59,32,69,120,112,105,114,101,115,61]++Dt.text n else []
def oW(b:Bool)(n:Int):List UInt8:=if b=true then [59,32,77,97,120,45,65,103,101,61]++Lib.decDigits n.toNat else []
def pO(d:List UInt8):List UInt8:=if d= []then []else [59,32,68,111,109,97,105,110,61]++qC d
def qO(p:List UInt8):List UInt8:=if p= []then []else [59,32,80,97,116,104,61]++p
def rW(b:Bool):List UInt8:=if b=true then [59,32,83,101,99,117,114,101]else []
def qW(b:Bool):List UInt8:=if b=true then [59,32,72,116,116,112,79,110,108,121]else []
def bM(n:Int):List UInt8:=if n=1 then [59,32,83,97,109,101,83,105,116,101,61,78,111,110,101]else if n=2 then [59,32,83,97,109,101,83,105,116,101,61,76,97,120]else if n=3 then [59,32,83,97,109,101,83,105,116,101,61,83,116,114,105,99,116]else []
theorem oA4: ∀n,n<=3->bM ((n:Nat):Int)=joined (DH n):=by
 intro n hn
 have:n=0\/n=1\/n=2\/n=3:=by omega
 rcases this with rfl|rfl|rfl|rfl<;>rfl
theorem jAY(a b:List (List UInt8)):joined (a++b)=joined a++joined b:=List.flatMap_append ..
theorem KQ(p:List UInt8):joined [p]=59::32::p:=by simp[joined]
theorem nA8 {h:Head}(hg:Good h):(((((((h.name++61::h.value)++pW h.exp.isSome (h.exp.getD 0))++oW h.age.isSome ((h.age.getD 0:Nat):Int))++pO h.domain)++qO h.path)++rW h.secure)++qW h.only)++bM (h.same:Int)=text h:=by
 have e1:pW h.exp.isSome (h.exp.getD 0)=joined (PG h.exp):=by
  cases h.exp with
  |none=>rfl
  |some n=>unfold PG;dsimp only;rw[KQ];rfl
 have e2:oW h.age.isSome ((h.age.getD 0:Nat):Int)=joined (BH h.age):=by
  cases h.age with
  |none=>rfl
  |some n=>unfold BH;dsimp only;rw[KQ];rfl
 have e3:pO h.domain=joined (OG h.domain):=by
  unfold pO OG
  split
  ·rfl
  ·rw[KQ];rfl
 have e4:qO h.path=joined (partPath h.path):=by
  unfold qO partPath
  split
  ·rfl
  ·rw[KQ];rfl
 have e5:rW h.secure=joined (mI h.secure):=by cases h.secure<;>rfl
 have e6:qW h.only=joined (lI h.only):=by cases h.only<;>rfl
 have e7:=oA4 h.same hg.same
 rw[e1,e2,e3,e4,e5,e6,e7]
 unfold text parts
 simp only[jAY,List.append_assoc]
end Hd
structure eH(r:Hd.Raw):Prop where
 name:r.name.length<=4200
 value:r.value.length<=4200
 both:r.name.length+r.value.length<=5000
 domain:r.domain.length<=2500
 path:r.path.length<=2500
 exp: -9223372036854775808<=r.exp/\r.exp<=9223372036854775807
 age: -9223372036854775808<=r.age/\r.age<=9223372036854775807
theorem AC(a b:ByteArray):(a++b).data.toList=a.data.toList++b.data.toList:=by rw[ByteArray.data_append,Array.toList_append]
theorem SE(l:List UInt8):(⟨l.toArray⟩:ByteArray).size=l.length:=List.size_toArray ..
structure aN(g:Nat)(U:Array Value)(w w':World):Prop where
 row:Row w' g 35 U
 below:Below w.heap.size w w'
theorem aN.on {g:Nat}{U:Array Value}{w w' w'':World}(k:aN g U w w')(hb:Below w'.heap.size w' w''):aN g U w w'':=⟨k.row.stays hb,k.below.trans (hb.mono k.below.size)⟩
theorem dC(a b:ByteArray):(a++b).size=a.size+b.size:=ByteArray.size_append ..
def SH(T:List UInt8)(m g:Nat)(U:Array Value)(w:World)(v:Value)(w':World):Prop:= ∃E:ByteArray,v= .string E/\E.size<=m/\Hid (E.data.toList=T)/\aN g U w w'
theorem nR(r:Hd.Raw)(hr:eH r)(w:World):
  Calls Tryz.prog 30 #[.agg (uA r)] w fun e w'=>(∃X:ByteArray,e= .returned (.tuple #[.string X,.bool (Hd.jC r)]))/\Below w.heap.size w w':=by
 have z0:=jG
 have HZ:Hid (∀h:Hd.Head,(headA h).size=11):=zA7 (fun h=>rfl)
 have WS:Hid ((uA r).size=11):=zA7 rfl
 have HP:Hid (∀X w',Below w.heap.size w w'->(fun(e:Ending)(w':World)=>(∃X:ByteArray,e= .returned (.tuple #[.string X,.bool (Hd.jC r)]))/\Below w.heap.size w w') (.returned (.tuple #[.string X,.bool (Hd.jC r)])) w'):=zA7 (fun X w' hb=>⟨⟨X,rfl⟩,hb⟩)
 generalize hpost:(fun(e:Ending)(w':World)=>(∃X:ByteArray,e= .returned (.tuple #[.string X,.bool (Hd.jC r)]))/\Below w.heap.size w w')=post at*
 clear hpost
 obtain⟨nb,hnb⟩: ∃b:ByteArray,b=⟨r.name.toArray⟩:=⟨_,rfl⟩
 obtain⟨vb,hvb⟩: ∃b:ByteArray,b=⟨r.value.toArray⟩:=⟨_,rfl⟩
 obtain⟨db,hdb⟩: ∃b:ByteArray,b=⟨r.domain.toArray⟩:=⟨_,rfl⟩
 obtain⟨pb,hpb⟩: ∃b:ByteArray,b=⟨r.path.toArray⟩:=⟨_,rfl⟩
 have hdl:db.data.toList=r.domain:=by rw[hdb]
 have hpl:pb.data.toList=r.path:=by rw[hpb]
 have LM:Hid (nb.data.toList=r.name):=zA7 (by rw[hnb])
 have RX:Hid (vb.data.toList=r.value):=zA7 (by rw[hvb])
 have yM:Hid (db.data.toList=r.domain):=zA7 hdl
 have QM:Hid (pb.data.toList=r.path):=zA7 hpl
 have GI:Hid (nb.size+vb.size<=5000/\db.size<=2500/\pb.size<=2500):=zA7 (by
  rw[hnb,hvb,hdb,hpb,SE,SE,SE,SE]
  exact⟨hr.both,hr.domain,hr.path⟩)
 obtain⟨XE,lU⟩: ∃b:ByteArray,b=⟨(Dt.text r.exp).toArray⟩:=⟨_,rfl⟩
 obtain⟨XA,kU⟩: ∃b:ByteArray,b=⟨(Lib.decDigits r.age.toNat).toArray⟩:=⟨_,rfl⟩
 have lX:Hid (XE.size<=29/\XE.data.toList=Dt.text r.exp):=zA7 (by rw[lU,SE];exact⟨Hd.DZ r.exp,rfl⟩)
 have aX:Hid (XA.size<=19/\XA.data.toList=Lib.decDigits r.age.toNat):=zA7 (by
  have:=hr.age.2
  rw[kU,SE];exact⟨Ur.OJ 19 _ (by omega) (by omega),rfl⟩)
 have dP:=zA7 (show∀W,Calls Tryz.prog 62 #[.int .i64 r.exp] W (fH (Dt.text r.exp) W) from fun W=>mAB r.exp W hr.exp.1 hr.exp.2)
 unfold fH at dP
 rw[<-lU]at dP
 have XM:Hid (¬r.age<0-> ∀W,Calls Tryz.prog 63 #[.int .i64 r.age] W fun e w'=>e= .returned (.string XA)/\Below W.heap.size W w'):=zA7 (fun h W=>by
  have:=hr.age.2
  have h2:=gAM r.age.toNat (by omega) W
  rw[Int.toNat_of_nonneg (by omega),<-kU]at h2
  exact h2)
 obtain⟨T0,t0⟩: ∃T,T=r.name++61::r.value:=⟨_,rfl⟩
 obtain⟨T1,t1⟩: ∃T,T=T0++Hd.pW r.ZE r.exp:=⟨_,rfl⟩
 obtain⟨T2,t2⟩: ∃T,T=T1++Hd.oW r.BE r.age:=⟨_,rfl⟩
 obtain⟨T3,t3⟩: ∃T,T=T2++Hd.pO r.domain:=⟨_,rfl⟩
 obtain⟨T4,t4⟩: ∃T,T=T3++Hd.qO r.path:=⟨_,rfl⟩
 obtain⟨T5,t5⟩: ∃T,T=T4++Hd.rW r.secure:=⟨_,rfl⟩
 obtain⟨T6,t6⟩: ∃T,T=T5++Hd.qW r.only:=⟨_,rfl⟩
 obtain⟨T7,t7⟩: ∃T,T=T6++Hd.bM r.same:=⟨_,rfl⟩
 obtain⟨⟨pn,pg⟩,hpp⟩: ∃o,Hd.parse T7=o:=⟨_,rfl⟩
 have uJ:Hid (∀E:ByteArray,E.data.toList=T7->E.size<=20000-> ∀W,Calls Tryz.prog 23 #[.string E] W fun e w'=>e= .returned (.tuple #[.agg (headA pg),.int .i64 pn])/\Below W.heap.size W w'):=zA7 (fun E he hs W=>by
  have:=cAl E W (by omega)
  rw[he,hpp]at this
  exact this)
 have xJ:Hid (Hd.jC r=true->pn=0/\Hd.Raw.of pg=r):=zA7 (fun h=>by
  obtain⟨g,hg,e⟩:=Hd.YK h
  have hT:T7=Hd.text g:=by
   rw[t7,t6,t5,t4,t3,t2,t1,t0,e]
   exact Hd.nA8 hg
  rw[hT,Hd.bAP hg]at hpp
  obtain⟨h1,h2⟩:=Prod.mk.inj hpp
  exact⟨h1.symm,by rw[<-h2,e]⟩)
 have tB:Hid (Hd.jC r=false->pn=0->Hd.Raw.of pg≠r):=zA7 (fun h h0=>by
  rw[h0]at hpp
  exact Hd.VY h hpp)
 have sX:Hid (r.BE=true->r.age<0->Hd.jC r=false):=zA7 (fun _ h2=>by
  cases hc:Hd.jC r with
  |false=>rfl
  |true=>
   obtain⟨g,_,e⟩:=Hd.YK hc
   rw[e]at h2
   have h3:((g.age.getD 0:Nat):Int)<0:=h2
   omega)
 have WM:=zA7 (show(Tryz.prog.info? 35).map (·.size)=some (headA pg).size from WA)
 have OS:=zA7 (show(headA pg).size=(headA Hd.zero).size from rfl)
 have PX:=zA7 (show(Tryz.prog.info? 35).map (·.size)=some (uA r).size from WA)
 have kF:=zA7 (fun W=>bAk (Hd.Raw.of pg) r W)
 rw[TL]at kF
 have HD0:Hid (decide (r.domain= [])=true->(db.toList.isEmpty=true)):=zA7 (fun h=>by have h:=zB1 h;rw[Oct.SA,hdl,h];rfl)
 have HD1:Hid (decide (r.domain= [])=false-> ∃h0:0<db.size,∃b1 b2 b3:Bool,((db[0].toNat:Int)==46)=b1/\((db[0].toNat:Int)==32)=b2/\((db[0].toNat:Int)==9)=b3/\Hd.AE r.domain=(b1||(b2||b3))):=zA7 (fun h=>by
  have h:=of_decide_eq_false h
  have h0:0<db.size:=by rw[<-Oct.nA,hdl];exact List.length_pos_iff.2 h
  refine⟨h0,_,_,_,rfl,rfl,rfl,?_⟩
  have hh:=Oct.CE db h0
  rw[hdl]at hh
  cases hdd:r.domain with
  |nil=>exact absurd hdd h
  |cons c q=>
   rw[hdd]at hh
   have hc:c=db[0]:=zB2 hh
   rw[<-hc]
   have hb:Hd.AE (c::q)=decide (c=46\/c=32\/c=9):=by unfold Hd.AE;simp
   rw[hb,Bool.eq_iff_iff]
   have k: ∀d:UInt8,((c.toNat:Int)=(d.toNat:Int))↔c=d:=fun d=>⟨fun e=>Oct.mB (by omega),fun e=>by rw[e]⟩
   simp only[decide_eq_true_eq,Bool.or_eq_true,beq_iff_eq]
   rw[show(46:Int)=((46:UInt8).toNat:Int) from rfl,show(32:Int)=((32:UInt8).toNat:Int) from rfl,show(9:Int)=((9:UInt8).toNat:Int) from rfl,k,k,k])
 have HD2:Hid (decide (r.domain= [])=false->db.toList.isEmpty=false):=zA7 (fun h=>by
  have h:=of_decide_eq_false h
  rw[Oct.SA,hdl]
  cases hd:r.domain with
  |nil=>exact absurd hd h
  |cons=>rfl)
 have EX:Hid (decide (r.path= [])=true->(pb.toList.isEmpty=true)):=zA7 (fun h=>by have h:=zB1 h;rw[Oct.SA,hpl,h];rfl)
 have pC:Hid (decide (r.path= [])=false->pb.toList.isEmpty=false):=zA7 (fun h=>by
  have h:=of_decide_eq_false h
  rw[Oct.SA,hpl]
  cases hd:r.path with
  |nil=>exact absurd hd h
  |cons=>rfl)
 have G1:Hid (∀b,r.ZE=b->T1=T0++(if b=true then [59,32,69,120,112,105,114,101,115,61]++Dt.text r.exp else [])):=zA7 (fun b hb=>by subst hb;exact t1)
 have G2:Hid (∀b,r.BE=b->T2=T1++(if b=true then [59,32,77,97,120,45,65,103,101,61]++Lib.decDigits r.age.toNat else [])):=zA7 (fun b hb=>by subst hb;exact t2)
 have G3:Hid (∀b d,decide (r.domain= [])=b->Hd.AE r.domain=d->T3=T2++(if b=true then []else [59,32,68,111,109,97,105,110,61]++(if d=true then 46::r.domain else r.domain))):=zA7 (fun b d hb hd=>by
  rw[t3];subst hb;subst hd
  unfold Hd.pO Hd.qC
  simp only[decide_eq_true_eq])
 have G4:Hid (∀b,decide (r.path= [])=b->T4=T3++(if b=true then []else [59,32,80,97,116,104,61]++r.path)):=zA7 (fun b hb=>by
  rw[t4];subst hb
  unfold Hd.qO
  simp only[decide_eq_true_eq])
 have G5:Hid (∀b,r.secure=b->T5=T4++(if b=true then [59,32,83,101,99,117,114,101]else [])):=zA7 (fun b hb=>by subst hb;exact t5)
 have G6:Hid (∀b,r.only=b->T6=T5++(if b=true then [59,32,72,116,116,112,79,110,108,121]else [])):=zA7 (fun b hb=>by subst hb;exact t6)
 have G7:Hid (T7=T6++Hd.bM r.same):=zA7 t7
 have G0:Hid (T0=r.name++61::r.value):=zA7 t0
 have HU0:Hid (Hd.AE r.domain=Hd.AE r.domain):=zA7 rfl
 have R0:=Row.new w 35 (uA r)
 have B0:=(Below.refl w.heap.size w).alloc (zB3 _) (.cells (uA r) 35)
 have K0:aN w.heap.size (uA r) w (w.alloc (.cells (uA r) 35)):=⟨R0,B0⟩
 have q0:Hid ((uA r)[0]? =some (.string nb)):=zA7 (by rw[hnb];rfl)
 have q1:Hid ((uA r)[1]? =some (.string vb)):=zA7 (by rw[hvb];rfl)
 have q2:Hid ((uA r)[2]? =some (.string db)):=zA7 (by rw[hdb];rfl)
 have q3:Hid ((uA r)[3]? =some (.string pb)):=zA7 (by rw[hpb];rfl)
 have q4:Hid ((uA r)[4]? =some (.bool r.ZE)):=zA7 rfl
 have q5:Hid ((uA r)[5]? =some (.int .i64 r.exp)):=zA7 rfl
 have q6:Hid ((uA r)[6]? =some (.bool r.BE)):=zA7 rfl
 have q7:Hid ((uA r)[7]? =some (.int .i64 r.age)):=zA7 rfl
 have q8:Hid ((uA r)[8]? =some (.bool r.secure)):=zA7 rfl
 have q9:Hid ((uA r)[9]? =some (.bool r.only)):=zA7 rfl
 have aG:Hid ((uA r)[10]? =some (.int .i64 r.same)):=zA7 rfl
 clear hnb hvb hdb hpb hdl hpl lU kU t0 t1 t2 t3 t4 t5 t6 t7 hpp hr R0 B0 HU0
 generalize r.ZE=bE at*
 generalize r.exp=ex at*
 generalize r.BE=bA at*
 generalize r.age=ag at*
 generalize r.secure=bS at*
 generalize r.only=bO at*
 generalize r.same=sm at*
 generalize decide (r.domain= [])=dE at*
 generalize decide (r.path= [])=pE at*
 generalize Hd.AE r.domain=dB at*
 generalize Hd.jC r=cr at*
 generalize r.domain=dl at*
 generalize r.path=pl at*
 generalize r.name=nl at*
 generalize r.value=vl at*
 generalize uA r=U at*
 go_enter Tryz.func30,Tryz.ntmps30
 have l0:(⟨#[61]⟩:ByteArray).size=1:=rfl
 have y0: ¬9223372036854775807<nb.size+1:=by have:=GI.out;omega
 have y1:(nb++(⟨#[61]⟩:ByteArray)).size=nb.size+1:=by rw[dC,l0]
 have y2: ¬9223372036854775807<nb.size+1+vb.size:=by have:=GI.out;omega
 have c0:=(K0.row.cell 0).trans q0.out
 have c1:=(K0.row.cell 1).trans q1.out
 have c4:=(K0.row.cell 4).trans q4.out
 have c5:=(K0.row.cell 5).trans q5.out
 go_upto_if 14 with fail
 generalize w.alloc (.cells U 35)=w0 at*
 go_cut [4] (fun sx wx=>SH T1 5040 w.heap.size U w sx wx)
 case first=>as_aux_lemma=>
  obtain⟨zz,_,_⟩:=GI.out
  have l1:(⟨#[61]⟩:ByteArray).size=1:=rfl
  obtain⟨F,hF⟩: ∃F:ByteArray,nb++(⟨#[61]⟩:ByteArray)++vb=F:=⟨_,rfl⟩
  have hFs:F.size<=5001:=by rw[<-hF,dC,dC,l1];omega
  have N7:Hid (F.data.toList=T0):=zA7 (by rw[<-hF,AC,AC,LM.out,RX.out,G0.out,List.append_assoc];rfl)
  cases bE
  ·have e:=G1.out false rfl
   rw[if_neg (by decide),List.append_nil]at e
   have HE:=zA7 e
   clear e
   go_wp2
   go_meet
   exact⟨F,by first|rfl|rw[hF],by omega,zA7 (by rw[N7.out,HE.out]),K0⟩
  ·obtain⟨x1,x2⟩:=lX.out
   have QS:=zA7 x2
   clear x2
   have l2:(⟨#[59,32,69,120,112,105,114,101,115,61]⟩:ByteArray).size=10:=rfl
   have v1: ¬9223372036854775807<10+XE.size:=by omega
   have l3:((⟨#[59,32,69,120,112,105,114,101,115,61]⟩:ByteArray)++XE).size=10+XE.size:=by rw[dC,l2]
   have v2: ¬9223372036854775807<F.size+(10+XE.size):=by omega
   have e:=G1.out true rfl
   rw[if_pos rfl]at e
   have HE:=zA7 e
   clear e
   go_wp2_with (go_at_call 62;refine(dP.out _).mono ?_;rintro e w1 ⟨rfl,d1⟩)
   go_meet
   exact⟨F++((⟨#[59,32,69,120,112,105,114,101,115,61]⟩:ByteArray)++XE),by first|rfl|rw[hF],by rw[dC,l3];omega,zA7 (by rw[AC,AC,N7.out,QS.out,HE.out]),K0.on d1⟩
 case rest=>
 obtain⟨E1,rfl,z1,L1,K1⟩:=hcut
 clear l0 y0 y1 y2 c0 c1 c4 c5 K0 dP lX LM RX G0 G1
 have c6:=(K1.row.cell 6).trans q6.out
 have c7:=(K1.row.cell 7).trans q7.out
 go_upto_if 22 with fail
 go_cut [4] (fun sx wx=>SH T2 5069 w.heap.size U w sx wx)
 case first=>as_aux_lemma=>
  cases bA
  ·have e:=G2.out false rfl
   rw[if_neg (by decide),List.append_nil]at e
   have HE:=zA7 e
   clear e
   go_wp2
   go_meet
   exact⟨E1,rfl,by omega,zA7 (by rw[L1.out,HE.out]),K1⟩
  ·by_cases hn:ag<0
   ·have hc:=sX.out rfl hn
    subst hc
    go_wp2
    first|exact HP.out _ _ K1.below|(go_ret2;exact HP.out _ _ K1.below)
   ·have HC:=zA7 (XM.out hn)
    obtain⟨x1,x2⟩:=aX.out
    have QS:=zA7 x2
    clear x2
    have l2:(⟨#[59,32,77,97,120,45,65,103,101,61]⟩:ByteArray).size=10:=rfl
    have v1: ¬9223372036854775807<10+XA.size:=by omega
    have l3:((⟨#[59,32,77,97,120,45,65,103,101,61]⟩:ByteArray)++XA).size=10+XA.size:=by rw[dC,l2]
    have v2: ¬9223372036854775807<E1.size+(10+XA.size):=by omega
    have e:=G2.out true rfl
    rw[if_pos rfl]at e
    have HE:=zA7 e
    clear e
    go_wp2_with (go_at_call 63;refine(HC.out _).mono ?_;rintro e w1 ⟨rfl,d1⟩)
    go_meet
    exact⟨E1++((⟨#[59,32,77,97,120,45,65,103,101,61]⟩:ByteArray)++XA),rfl,by rw[dC,l3];omega,zA7 (by rw[AC,AC,L1.out,QS.out,HE.out]),K1.on d1⟩
 case rest=>
 obtain⟨E2,rfl,z2,L2,K2⟩:=hcut
 clear c6 c7
 clear XM aX G2 sX K1
 obtain⟨em,hem⟩: ∃b,db.toList.isEmpty=b:=⟨_,rfl⟩
 have BI:Hid (em=dE):=zA7 (by
  cases dE with
  |true=>rw[<-hem];exact HD0.out rfl
  |false=>rw[<-hem];exact HD2.out rfl)
 have c2:=(K2.row.cell 2).trans q2.out
 go_upto_if 34 with fail
 go_cut [4] (fun sx wx=>SH T3 7580 w.heap.size U w sx wx)
 case first=>as_aux_lemma=>
  have hh:=BI.out
  subst hh
  obtain⟨_,zd,_⟩:=GI.out
  cases em
  ·obtain⟨h0,b1,b2,b3,k1,k2,k3,hdb⟩:=HD1.out rfl
   have l2:(⟨#[59,32,68,111,109,97,105,110,61]⟩:ByteArray).size=9:=rfl
   have v1: ¬9223372036854775807<E2.size+9:=by omega
   have l3:(E2++(⟨#[59,32,68,111,109,97,105,110,61]⟩:ByteArray)).size=E2.size+9:=by rw[dC,l2]
   have l4:(⟨#[46]⟩:ByteArray).size=1:=rfl
   have v2: ¬9223372036854775807<E2.size+9+1:=by omega
   have l5:(E2++(⟨#[59,32,68,111,109,97,105,110,61]⟩:ByteArray)++(⟨#[46]⟩:ByteArray)).size=E2.size+9+1:=by rw[dC,l3,l4]
   have v3: ¬9223372036854775807<E2.size+9+1+db.size:=by omega
   have v4: ¬9223372036854775807<E2.size+9+db.size:=by omega
   subst hdb
   cases b1
   ·cases b2
    ·cases b3
     ·have e:=G3.out false false rfl rfl
      rw[if_neg (by decide),if_neg (by decide)]at e
      have HE:=zA7 e
      clear e
      go_wp2
      go_meet
      exact⟨E2++(⟨#[59,32,68,111,109,97,105,110,61]⟩:ByteArray)++db,rfl,by rw[dC,dC,l2];omega,zA7 (by rw[AC,AC,L2.out,yM.out,HE.out,List.append_assoc];try rfl),K2⟩
     ·have e:=G3.out false true rfl rfl
      rw[if_neg (by decide),if_pos rfl]at e
      have HE:=zA7 e
      clear e
      go_wp2
      go_meet
      exact⟨E2++(⟨#[59,32,68,111,109,97,105,110,61]⟩:ByteArray)++(⟨#[46]⟩:ByteArray)++db,rfl,by rw[dC,dC,dC,l2,l4];omega,zA7 (by rw[AC,AC,AC,L2.out,yM.out,HE.out,List.append_assoc,List.append_assoc];try rfl),K2⟩
    ·have e:=G3.out false true rfl rfl
     rw[if_neg (by decide),if_pos rfl]at e
     have HE:=zA7 e
     clear e
     go_wp2
     go_meet
     exact⟨E2++(⟨#[59,32,68,111,109,97,105,110,61]⟩:ByteArray)++(⟨#[46]⟩:ByteArray)++db,rfl,by rw[dC,dC,dC,l2,l4];omega,zA7 (by rw[AC,AC,AC,L2.out,yM.out,HE.out,List.append_assoc,List.append_assoc];try rfl),K2⟩
   ·have e:=G3.out false true rfl rfl
    rw[if_neg (by decide),if_pos rfl]at e
    have HE:=zA7 e
    clear e
    go_wp2
    go_meet
    exact⟨E2++(⟨#[59,32,68,111,109,97,105,110,61]⟩:ByteArray)++(⟨#[46]⟩:ByteArray)++db,rfl,by rw[dC,dC,dC,l2,l4];omega,zA7 (by rw[AC,AC,AC,L2.out,yM.out,HE.out,List.append_assoc,List.append_assoc];try rfl),K2⟩
  ·have e:=G3.out true dB rfl rfl
   rw[if_pos rfl,List.append_nil]at e
   have HE:=zA7 e
   clear e
   go_wp2
   go_meet
   exact⟨E2,rfl,by omega,zA7 (by rw[L2.out,HE.out]),K2⟩
 case rest=>
 obtain⟨E3,rfl,z3,L3,K3⟩:=hcut
 clear c2
 clear HD0 HD1 HD2 yM G3 K2 hem BI
 obtain⟨pm,hpm⟩: ∃b,pb.toList.isEmpty=b:=⟨_,rfl⟩
 have NK:Hid (pm=pE):=zA7 (by
  cases pE with
  |true=>rw[<-hpm];exact EX.out rfl
  |false=>rw[<-hpm];exact pC.out rfl)
 have c3:=(K3.row.cell 3).trans q3.out
 go_upto_if 61 with fail
 go_cut [4] (fun sx wx=>SH T4 10087 w.heap.size U w sx wx)
 case first=>as_aux_lemma=>
  obtain⟨_,_,zp⟩:=GI.out
  have hh:=NK.out
  subst hh
  cases pm
  ·have l2:(⟨#[59,32,80,97,116,104,61]⟩:ByteArray).size=7:=rfl
   have v1: ¬9223372036854775807<7+pb.size:=by omega
   have l3:((⟨#[59,32,80,97,116,104,61]⟩:ByteArray)++pb).size=7+pb.size:=by rw[dC,l2]
   have v2: ¬9223372036854775807<E3.size+(7+pb.size):=by omega
   have e:=G4.out false rfl
   rw[if_neg (by decide)]at e
   have HE:=zA7 e
   clear e
   go_wp2
   go_meet
   exact⟨E3++((⟨#[59,32,80,97,116,104,61]⟩:ByteArray)++pb),rfl,by rw[dC,l3];omega,zA7 (by rw[AC,AC,L3.out,QM.out,HE.out]),K3⟩
  ·have e:=G4.out true rfl
   rw[if_pos rfl,List.append_nil]at e
   have HE:=zA7 e
   clear e
   go_wp2
   go_meet
   exact⟨E3,rfl,by omega,zA7 (by rw[L3.out,HE.out]),K3⟩
 case rest=>
 obtain⟨E4,rfl,z4,L4,K4⟩:=hcut
 clear c3
 clear EX pC QM G4 K3 hpm NK GI
 have c8:=(K4.row.cell 8).trans q8.out
 go_upto_if 68 with fail
 go_cut [4] (fun sx wx=>SH T5 10095 w.heap.size U w sx wx)
 case first=>as_aux_lemma=>
  cases bS
  ·have e:=G5.out false rfl
   rw[if_neg (by decide),List.append_nil]at e
   have HE:=zA7 e
   clear e
   go_wp2
   go_meet
   exact⟨E4,rfl,by omega,zA7 (by rw[L4.out,HE.out]),K4⟩
  ·have l2:(⟨#[59,32,83,101,99,117,114,101]⟩:ByteArray).size=8:=rfl
   have v1: ¬9223372036854775807<E4.size+8:=by omega
   have e:=G5.out true rfl
   rw[if_pos rfl]at e
   have HE:=zA7 e
   clear e
   go_wp2
   go_meet
   exact⟨E4++(⟨#[59,32,83,101,99,117,114,101]⟩:ByteArray),rfl,by rw[dC,l2];omega,zA7 (by rw[AC,L4.out,HE.out]),K4⟩
 case rest=>
 obtain⟨E5,rfl,z5,L5,K5⟩:=hcut
 clear c8
 clear G5 K4
 have c9:=(K5.row.cell 9).trans q9.out
 go_upto_if 72 with fail
 go_cut [4] (fun sx wx=>SH T6 10105 w.heap.size U w sx wx)
 case first=>as_aux_lemma=>
  cases bO
  ·have e:=G6.out false rfl
   rw[if_neg (by decide),List.append_nil]at e
   have HE:=zA7 e
   clear e
   go_wp2
   go_meet
   exact⟨E5,rfl,by omega,zA7 (by rw[L5.out,HE.out]),K5⟩
  ·have l2:(⟨#[59,32,72,116,116,112,79,110,108,121]⟩:ByteArray).size=10:=rfl
   have v1: ¬9223372036854775807<E5.size+10:=by omega
   have e:=G6.out true rfl
   rw[if_pos rfl]at e
   have HE:=zA7 e
   clear e
   go_wp2
   go_meet
   exact⟨E5++(⟨#[59,32,72,116,116,112,79,110,108,121]⟩:ByteArray),rfl,by rw[dC,l2];omega,zA7 (by rw[AC,L5.out,HE.out]),K5⟩
 case rest=>
 obtain⟨E6,rfl,z6,L6,K6⟩:=hcut
 clear c9
 clear G6 K5
 obtain⟨b1,hb1⟩: ∃b,(sm==1)=b:=⟨_,rfl⟩
 obtain⟨b2,hb2⟩: ∃b,(sm==2)=b:=⟨_,rfl⟩
 obtain⟨b3,hb3⟩: ∃b,(sm==3)=b:=⟨_,rfl⟩
 have HB1:=zA7 hb1
 have HB2:=zA7 hb2
 have HB3:=zA7 hb3
 have GC:Hid (∀b,b1=b->(Hd.bM sm=if b=true then [59,32,83,97,109,101,83,105,116,101,61,78,111,110,101]else if b2=true then [59,32,83,97,109,101,83,105,116,101,61,76,97,120]else if b3=true then [59,32,83,97,109,101,83,105,116,101,61,83,116,114,105,99,116]else [])):=zA7 (fun b hb=>by
  unfold Hd.bM
  rw[<-hb,<-hb1,<-hb2,<-hb3]
  simp only[beq_iff_eq])
 have c10:=(K6.row.cell 10).trans aG.out
 go_upto_if 77 with fail
 go_cut [4] (fun sx wx=>SH (T6++(if b1=true then [59,32,83,97,109,101,83,105,116,101,61,78,111,110,101]else [])) 10125 w.heap.size U w sx wx)
 case first=>as_aux_lemma=>
  cases b1
  ·go_wp2
   go_meet
   exact⟨E6,rfl,by omega,zA7 (by rw[L6.out];exact(List.append_nil _).symm),K6⟩
  ·have l2:(⟨#[59,32,83,97,109,101,83,105,116,101,61,78,111,110,101]⟩:ByteArray).size=15:=rfl
   have v1: ¬9223372036854775807<E6.size+15:=by omega
   go_wp2
   go_meet
   exact⟨E6++(⟨#[59,32,83,97,109,101,83,105,116,101,61,78,111,110,101]⟩:ByteArray),rfl,by rw[dC,l2];omega,zA7 (by rw[AC,L6.out];rfl),K6⟩
 case rest=>
 obtain⟨E7,rfl,z7,L7,K7⟩:=hcut
 clear c10
 clear K6
 have c10:=(K7.row.cell 10).trans aG.out
 go_upto_if 82 with fail
 go_cut [4] (fun sx wx=>SH ((T6++(if b1=true then [59,32,83,97,109,101,83,105,116,101,61,78,111,110,101]else []))++(if b2=true then [59,32,83,97,109,101,83,105,116,101,61,76,97,120]else [])) 10145 w.heap.size U w sx wx)
 case first=>as_aux_lemma=>
  cases b2
  ·go_wp2
   go_meet
   exact⟨E7,rfl,by omega,zA7 (by rw[L7.out];exact(List.append_nil _).symm),K7⟩
  ·have l2:(⟨#[59,32,83,97,109,101,83,105,116,101,61,76,97,120]⟩:ByteArray).size=14:=rfl
   have v1: ¬9223372036854775807<E7.size+14:=by omega
   go_wp2
   go_meet
   exact⟨E7++(⟨#[59,32,83,97,109,101,83,105,116,101,61,76,97,120]⟩:ByteArray),rfl,by rw[dC,l2];omega,zA7 (by rw[AC,L7.out];rfl),K7⟩
 case rest=>
 obtain⟨E8,rfl,z8,L8,K8⟩:=hcut
 clear c10
 clear K7
 have c10:=(K8.row.cell 10).trans aG.out
 go_upto_if 87 with fail
 go_cut [4] (fun sx wx=>SH (((T6++(if b1=true then [59,32,83,97,109,101,83,105,116,101,61,78,111,110,101]else []))++(if b2=true then [59,32,83,97,109,101,83,105,116,101,61,76,97,120]else []))++(if b3=true then [59,32,83,97,109,101,83,105,116,101,61,83,116,114,105,99,116]else [])) 10165 w.heap.size U w sx wx)
 case first=>as_aux_lemma=>
  cases b3
  ·go_wp2
   go_meet
   exact⟨E8,rfl,by omega,zA7 (by rw[L8.out];exact(List.append_nil _).symm),K8⟩
  ·have l2:(⟨#[59,32,83,97,109,101,83,105,116,101,61,83,116,114,105,99,116]⟩:ByteArray).size=17:=rfl
   have v1: ¬9223372036854775807<E8.size+17:=by omega
   go_wp2
   go_meet
   exact⟨E8++(⟨#[59,32,83,97,109,101,83,105,116,101,61,83,116,114,105,99,116]⟩:ByteArray),rfl,by rw[dC,l2];omega,zA7 (by rw[AC,L8.out];rfl),K8⟩
 case rest=>
 obtain⟨E9,rfl,z9,L9,K9⟩:=hcut
 clear c10
 clear K8
 have HL:Hid (E9.data.toList=T7):=zA7 (by
  rw[L9.out,G7.out,GC.out b1 rfl]
  have k1:=HB1.out
  have k2:=HB2.out
  have k3:=HB3.out
  cases b1<;>cases b2<;>cases b3<;>simp at k1 k2 k3<;>first|omega|simp)
 have HC:=zA7 (uJ.out E9 HL.out (by omega))
 clear uJ GC HB1 HB2 HB3 L9 HL G7 L1 L2 L3 L4 L5 L6 L7 L8 hb1 hb2 hb3
 go_wp2_with fail
 refine(HC.out _).mono ?_
 rintro e wp ⟨rfl,dp⟩
 have GB:=K9.on dp
 obtain⟨Tz,Uz,Cz,Lz⟩:=JA 35 (headA Hd.zero) (headA pg) GB.below GB.below.size
 have Rz:=Lz _ _ _ GB.row
 have FC:=zA7 (DC pg)
 clear HC K9 dp GB Lz
 by_cases hpn:pn=0
 ·subst hpn
  have hne:=kF.out
  cases cr
  ·rw[zA8 (tB.out rfl rfl)]at hne
   simp only[Bool.not_false]at hne
   clear tB xJ kF
   generalize headA pg=V at*
   go_wp2_with (first
    |(refine wpList_store_row rfl 35 _ _ rfl wp.heap.size V rfl rfl 35 _ Tz WM.out (by rw[OS.out]) FC.out ?_)
    |(refine iA 98 rfl ?_;refine qA rfl 35 _ rfl wp.heap.size rfl Uz Tryz.underlying35 rfl WM.out ?_)
    |(refine iA 99 rfl ?_;refine qA rfl 35 _ rfl w.heap.size rfl Rz Tryz.underlying35 rfl PX.out ?_))
   first|exact HP.out _ _ Cz|(go_ret2;exact HP.out _ _ Cz)
  ·rw[zA9 (xJ.out rfl).2]at hne
   simp only[Bool.not_true]at hne
   clear tB xJ kF
   generalize headA pg=V at*
   go_wp2_with (first
    |(refine wpList_store_row rfl 35 _ _ rfl wp.heap.size V rfl rfl 35 _ Tz WM.out (by rw[OS.out]) FC.out ?_)
    |(refine iA 98 rfl ?_;refine qA rfl 35 _ rfl wp.heap.size rfl Uz Tryz.underlying35 rfl WM.out ?_)
    |(refine iA 99 rfl ?_;refine qA rfl 35 _ rfl w.heap.size rfl Rz Tryz.underlying35 rfl PX.out ?_))
   first|exact HP.out _ _ Cz|(go_ret2;exact HP.out _ _ Cz)
 ·have hb:(pn !=0)=true:=by simpa using hpn
  have hcr:cr=false:=by
   cases cr with
   |false=>rfl
   |true=>exact absurd (xJ.out rfl).1 hpn
  subst hcr
  clear tB xJ kF hpn
  generalize headA pg=V at*
  go_wp2_with (refine wpList_store_row rfl 35 _ _ rfl wp.heap.size V rfl rfl 35 _ Tz WM.out (by rw[OS.out]) FC.out ?_)
  first|exact HP.out _ _ Cz|(go_ret2;exact HP.out _ _ Cz)
end Go.Proofs.YtabgoobcliijeaaGreatDoor
