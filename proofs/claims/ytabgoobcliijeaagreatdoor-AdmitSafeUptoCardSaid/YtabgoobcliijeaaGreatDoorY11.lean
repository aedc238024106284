/- The walk of write: the pieces of a header's text, one behind the other, and joined. -/
import Derived.Test.YtabgoobcliijeaaGreatDoorY10
set_option maxHeartbeats 16000000
set_option maxRecDepth 100000
namespace Go.Proofs.YtabgoobcliijeaaGreatDoor
open Go.RowKit
namespace Hd
theorem mAm(h:Head):(if true=true then([]:List (List UInt8))++ [h.name++61::h.value]else [])= [h.name++61::h.value]:=rfl
theorem eAY(ps:List (List UInt8))(o:Option Int):(if o.isSome=true then ps++ [QR++61::Dt.text (o.getD 0)]else ps)=ps++PG o:=by
 cases o with
 |none=>rw[if_neg (by simp)];exact(List.append_nil ps).symm
 |some n=>rw[if_pos (by rfl)];rfl
theorem eAV(ps:List (List UInt8))(o:Option Nat):(if o.isSome=true then ps++ [vO++61::Lib.decDigits (o.getD 0)]else ps)=ps++BH o:=by
 cases o with
 |none=>rw[if_neg (by simp)];exact(List.append_nil ps).symm
 |some n=>rw[if_pos (by rfl)];rfl
theorem eAX(ps:List (List UInt8))(d:List UInt8):(if(!d.isEmpty)=true then ps++ [wO++61::qC d]else ps)=ps++OG d:=by
 cases d with
 |nil=>rw[if_neg (by simp)];exact(List.append_nil ps).symm
 |cons c r=>rw[if_pos (by rfl)];rfl
theorem fA0(ps:List (List UInt8))(d:List UInt8):(if(!d.isEmpty)=true then ps++ [yO++61::d]else ps)=ps++partPath d:=by
 cases d with
 |nil=>rw[if_neg (by simp)];exact(List.append_nil ps).symm
 |cons c r=>rw[if_pos (by rfl)];rfl
theorem fA1(ps:List (List UInt8))(b:Bool):(if b=true then ps++ [zO]else ps)=ps++mI b:=by
 cases b with
 |false=>rw[if_neg (by simp)];exact(List.append_nil ps).symm
 |true=>rw[if_pos rfl];rfl
theorem eAZ(ps:List (List UInt8))(b:Bool):(if b=true then ps++ [xO]else ps)=ps++lI b:=by
 cases b with
 |false=>rw[if_neg (by simp)];exact(List.append_nil ps).symm
 |true=>rw[if_pos rfl];rfl
theorem fA2(ps:List (List UInt8)){n:Nat}{x:List UInt8}(hn:n<=3)(hx:WD[n]? =some x):(if((n:Int) !=0)=true then ps++ [AO++61::x]else ps)=ps++DH n:=by
 have:n=0\/n=1\/n=2\/n=3:=by omega
 rcases this with rfl|rfl|rfl|rfl
 ·rw[if_neg (by decide)];exact(List.append_nil ps).symm
 ·have e:x=vK:=(zB2 hx).symm
  subst e;rw[if_pos (by decide)];rfl
 ·have e:x=fJ:=(zB2 hx).symm
  subst e;rw[if_pos (by decide)];rfl
 ·have e:x=wI:=(zB2 hx).symm
  subst e;rw[if_pos (by decide)];rfl
theorem I3(h:Head):(PG h.exp).length<=1:=by unfold PG;split<;>simp
theorem gL(h:Head):(PG h.exp).length<=1/\(BH h.age).length<=1/\(OG h.domain).length<=1/\(partPath h.path).length<=1/\(mI h.secure).length<=1/\(lI h.only).length<=1/\(DH h.same).length<=1:=by
 refine⟨I3 h,?_,?_,?_,?_,?_,?_⟩
 ·unfold BH;split<;>simp
 ·unfold OG;split<;>simp
 ·unfold partPath;split<;>simp
 ·unfold mI;split<;>simp
 ·unfold lI;split<;>simp
 ·unfold DH;split<;>simp
theorem jAX(a b:List (List UInt8)):joined (a++b)=joined a++joined b:=by unfold joined;rw[List.flatMap_append]
theorem TN(a:List UInt8):(joined [a]).length=a.length+2:=by simp[joined]
theorem JT {o:Option Int}(ho: ∀n,o=some n-> ∃t,Dt.civil (n/86400)=some t): -9223372036854775808<=o.getD 0/\o.getD 0<=9223372036854775807/\(Dt.text (o.getD 0)).length=29:=by
 have key: ∀n:Int,(∃t,Dt.civil (n/86400)=some t)-> -9223372036854775808<=n/\n<=9223372036854775807/\(Dt.text n).length=29:=fun n h=>by
  have hl:=rO h
  obtain⟨⟨y,m,d⟩,h⟩:=h
  obtain⟨hI,hd⟩:=Dt.jH.1 h
  have hb:=Dt.MJ hI
  rw[hd]at hb
  exact⟨by omega,by omega,hl⟩
 cases o with
 |none=>exact key 0 ⟨(1970,1,1),Dt.jH.2 ⟨by decide,by decide⟩⟩
 |some n=>exact key n (ho n rfl)
theorem sY {o:Option Nat}(ho: ∀n,o=some n->n<=34560000):o.getD 0<=34560000/\(Lib.decDigits (o.getD 0)).length<=8:=by
 have h:o.getD 0<=34560000:=by
  cases o with
  |none=>exact Nat.zero_le _
  |some n=>exact ho n rfl
 exact⟨h,(NT h).2.1⟩
theorem RT(d:List UInt8):(qC d).length<=d.length+1:=by unfold qC;split<;>simp
theorem oA5: ∀n,(bJ n).length<=6:=fun n=>by unfold bJ;split<;>(try split)<;>decide
theorem dAh {h:Head}(hg:Good h):(text h).length<=10000:=by
 have hf:=hg.few
 have hs:=N5 hg
 have h1:=(JT hg.exp).2.2
 have h2:=(sY hg.age).2
 unfold text parts
 simp only[jAX,zB4,zB5]
 have e1:(joined (PG h.exp)).length<=100:=by
  unfold PG
  split
  ·rename_i n hn
   rw[hn]at h1
   have:(Dt.text n).length=29:=h1
   rw[TN,zB4,zB5,this];decide
  ·decide
 have e2:(joined (BH h.age)).length<=100:=by
  unfold BH
  split
  ·rename_i n hn
   rw[hn]at h2
   have:(Lib.decDigits n).length<=8:=h2
   rw[TN,zB4,zB5,show vO.length=7 from rfl];omega
  ·decide
 have e3:(joined (OG h.domain)).length<=1100:=by
  unfold OG
  split
  ·decide
  ·have:=RT h.domain
   have:=hs.domain
   rw[TN,zB4,zB5,show wO.length=6 from rfl];omega
 have e4:(joined (partPath h.path)).length<=1100:=by
  unfold partPath
  split
  ·decide
  ·have:=hs.path
   rw[TN,zB4,zB5,show yO.length=4 from rfl];omega
 have e5:(joined (mI h.secure)).length<=100:=by unfold mI;split<;>decide
 have e6:(joined (lI h.only)).length<=100:=by unfold lI;split<;>decide
 have e7:(joined (DH h.same)).length<=100:=by
  unfold DH
  split
  ·decide
  ·have:=oA5 h.same
   rw[TN,zB4,zB5,show AO.length=8 from rfl];omega
 omega
end Hd
theorem hAS(n:Nat)(w:World)(h:Std w)(hn:n<=34560000):
  Calls Tryz.prog 121 #[.int .i64 (n:Int),.int .i64 10] w fun e w'=>e= .returned (.string ⟨(Lib.decDigits n).toArray⟩)/\Below w.heap.size w w':=by
 refine(Tryz.strconv_FormatInt_10 (n:Int) (by omega) (by omega) w h.ten).mono fun e w' ⟨he,k,os,hw⟩=>⟨?_,?_⟩
 ·rw[he,Lib.itoa_nonneg]
 ·rw[hw];exact below_grow (MI _ _ _) (by have:=(MI w.heap.size w k).size;exact this) _
theorem ZF(b:Bool)(x y:ByteArray)(ps:List (List UInt8))(bp gp:Nat)(w:World)(hP:CF gp ps w)(hx:Row w bp 9 #[.string x,.string y])(h1:x.size<=10000)(h2:y.size<=10000)(hps:ps.length<=1000):
  Calls Tryz.prog 118 #[.bool b,.slice (some ⟨bp,0,none⟩) 2 2,.pointer (some ⟨gp,0,none⟩)] w (oP gp (if b=true then ps++ [x.data.toList++61::y.data.toList]else ps) w):=by
 have e:Row w bp 9 (GA [x.data.toList,y.data.toList]):=by
  have e2:GA [x.data.toList,y.data.toList]= #[.string x,.string y]:=by
   unfold GA lA
   rw[List.map_cons,List.map_cons,List.map_nil,gE,gE]
  rw[e2];exact hx
 have h:=cA0 b [x.data.toList,y.data.toList] ps bp gp w hP e (by simp) (by rw[Hd.aAF,zB4,zB5,Oct.nA,Oct.nA];omega) hps
 rw[Hd.aAF]at h
 exact h
theorem kR(b:Bool)(x:ByteArray)(ps:List (List UInt8))(bp gp:Nat)(w:World)(hP:CF gp ps w)(hx:Row w bp 9 #[.string x])(h1:x.size<=10000)(hps:ps.length<=1000):
  Calls Tryz.prog 118 #[.bool b,.slice (some ⟨bp,0,none⟩) 1 1,.pointer (some ⟨gp,0,none⟩)] w (oP gp (if b=true then ps++ [x.data.toList]else ps) w):=by
 have e:Row w bp 9 (GA [x.data.toList]):=by
  have e2:GA [x.data.toList]= #[.string x]:=by
   unfold GA lA
   rw[List.map_cons,List.map_nil,gE]
  rw[e2];exact hx
 have h:=cA0 b [x.data.toList] ps bp gp w hP e (by simp) (by rw[Hd.join_one,Oct.nA];omega) hps
 rw[Hd.join_one]at h
 exact h
theorem aAB(ps:List (List UInt8))(gp:Nat)(w:World)(sl:Value)(O:w.ownsRow (gp+1) 9 1 sl ps.length (ps.map lA))(hn:0<ps.length)(hn2:ps.length<=1000)(hj:(Lib.join ps [59,32]).length<=1000000):
  Calls Tryz.prog 119 #[sl,.string ⟨#[59,32]⟩] w fun e w'=>e= .returned (.string ⟨(Lib.join ps [59,32]).toArray⟩)/\Below w.heap.size w w':=by
 obtain⟨g,cap,rfl,hg,hlt⟩:=O.form hn
 have hcap:ps.length<=cap:=by
  rcases O.2 with⟨h0,_⟩|⟨g',cap',cur,hv,_,_,hle,_⟩
  ·cases h0
  ·have e:=(Value.slice.inj hv)
   rw[e.2.2];exact hle
 have e1:((ps.map fun p=>(⟨p.toArray⟩:ByteArray)).map (·.data.toList))=ps:=by rw[List.map_map];exact List.map_id ps
 have e2:(⟨#[59,32]⟩:ByteArray).data.toList= [59,32]:=rfl
 have h:=Tryz.strings_Join g 0 cap (ps.map fun p=>⟨p.toArray⟩) ⟨#[59,32]⟩ w (fun j x DG=>by
  rw[Nat.zero_add]
  rw[List.getElem?_map]at DG
  cases hp:ps[j]? with
  |none=>rw[hp]at DG;cases DG
  |some p=>rw[hp]at DG;exact RL O hp (zB2 DG).symm) hlt (by rw[List.length_map];omega) (by rw[List.length_map];exact hcap) (by rw[e1,e2];omega)
 rw[List.length_map,e1,e2]at h
 exact h
structure WB(b0:Nat)(h:Hd.Head)(w w':World):Prop where
 row:Row w' b0 35 (headA h)
 below:Below w.heap.size w w'
section
variable {b0:Nat} {h:Hd.Head} {w w' w'':World}
theorem WB.on (k:WB b0 h w w')(hb:Below w'.heap.size w' w''):WB b0 h w w'':=⟨k.row.stays hb,k.below.trans (hb.mono k.below.size)⟩
theorem WB.drew (k:WB b0 h w w'):WB b0 h w w'.drew:=k.on (Below.refl _ _).drew
theorem WB.alloc (k:WB b0 h w w')(o:Obj):WB b0 h w (w'.alloc o):=k.on ((Below.refl _ _).alloc (zB3 _) o)
theorem WB.put (k:WB b0 h w w'){gp:Nat}(h0:b0<gp)(h1:w.heap.size<=gp)(hb:Below gp w' w''):WB b0 h w w'':=⟨k.row.below hb h0,k.below.trans (hb.mono h1)⟩
theorem WB.c2 (k:WB b0 h w w'):w'.cell? ⟨b0,2,none⟩=some (.string ⟨h.domain.toArray⟩):=k.row.cell 2
theorem WB.c4 (k:WB b0 h w w'):w'.cell? ⟨b0,4,none⟩=some (.bool h.exp.isSome):=k.row.cell 4
theorem WB.c5 (k:WB b0 h w w'):w'.cell? ⟨b0,5,none⟩=some (.int .i64 (h.exp.getD 0)):=k.row.cell 5
theorem WB.c6 (k:WB b0 h w w'):w'.cell? ⟨b0,6,none⟩=some (.bool h.age.isSome):=k.row.cell 6
theorem WB.c7 (k:WB b0 h w w'):w'.cell? ⟨b0,7,none⟩=some (.int .i64 ((h.age.getD 0:Nat):Int)):=k.row.cell 7
theorem WB.c10 (k:WB b0 h w w'):w'.cell? ⟨b0,10,none⟩=some (.int .i64 (h.same:Int)):=k.row.cell 10
end
theorem oI {gp:Nat}{ps1 ps2:List (List UInt8)}{w:World}(e:ps1=ps2)(h:CF gp ps1 w):CF gp ps2 w:=by rw[<-e];exact h
theorem bAm(w:World):CF w.heap.size [] (w.alloc (.cells #[.slice none 0 0] 27)):=⟨_,Row.new _ _ _,⟨rfl,.inl ⟨rfl,rfl⟩⟩⟩
theorem qAs(h:Hd.Head)(hg:Hd.Good h)(w:World)(hw:uB w):
  Calls Tryz.prog 88 #[.agg (headA h)] w (XC w.heap.size (Hd.text h) w):=by
 have hsm:=Hd.N5 hg
 have htl:=Hd.dAh hg
 obtain⟨x1,x2,x3⟩:=Hd.JT hg.exp
 obtain⟨a1,a2⟩:=Hd.sY hg.age
 have hd0:=Hd.RT h.domain
 obtain⟨ww,PU⟩:=Hd.TW (k:=h.same) (by have:=hsm.same;omega)
 have HW:Hid (∀W,Below w.heap.size w W->uB W):=zA7 (fun W hb=>hw.below hb)
 have zM:=zA7 (fun W hW=>BZ (h.exp.getD 0) W hW x1 x2)
 unfold fH at zM
 have eS:=zA7 (fun W hW=>hAS (h.age.getD 0) W hW a1)
 have nJ:=zA7 (fun W=>bA1 ⟨h.domain.toArray⟩ W (by rw[lD];have:=hsm.domain;omega))
 unfold XC at nJ
 have ed:(⟨h.domain.toArray⟩:ByteArray).data.toList=h.domain:=rfl
 rw[ed]at nJ
 have HSame:=zA7 (fun W hW=>cAQ h.same W hW PU)
 have R0:=Row.new w 35 (headA h)
 have K0:WB w.heap.size h w (w.alloc (.cells (headA h) 35)):=⟨R0,(Below.refl w.heap.size w).alloc (zB3 _) _⟩
 have P0:=bAm (w.alloc (.cells (headA h) 35))
 have K1:=K0.alloc (.cells #[.slice none 0 0] 27)
 have q3:(headA h)[3]? =some (.string ⟨h.path.toArray⟩):=rfl
 have q8:(headA h)[8]? =some (.bool h.secure):=rfl
 have q9:(headA h)[9]? =some (.bool h.only):=rfl
 have hwl:ww.length<=6:=by
  have: ∀x∈Hd.WD,x.length<=6:=by decide
  exact this _ (List.mem_of_getElem? PU)
 have c0:=K1.row.cell 0
 have c1:=K1.row.cell 1
 have q0:(headA h)[0]? =some (.string ⟨h.name.toArray⟩):=rfl
 have q1:(headA h)[1]? =some (.string ⟨h.value.toArray⟩):=rfl
 rw[q0]at c0
 rw[q1]at c1
 clear q0 q1
 go_enter Tryz.func88,Tryz.ntmps88
 go_wp2_with fail
 have hs1:(w.alloc (.cells (headA h) 35)).heap.size=w.heap.size+1:=by simp
 have hs2:((w.alloc (.cells (headA h) 35)).alloc (.cells #[.slice none 0 0] 27)).heap.size=w.heap.size+1+1:=by simp
 rw[hs1]at P0
 generalize(w.alloc (.cells (headA h) 35)).alloc (.cells #[.slice none 0 0] 27)=W1 at*
 have N1:=Row.new W1 9 #[.string ⟨h.name.toArray⟩,.string ⟨h.value.toArray⟩]
 have K2:=K1.alloc (.cells #[Value.string ⟨h.name.toArray⟩,.string ⟨h.value.toArray⟩] 9)
 have P1:=P0.stays ((Below.refl W1.heap.size W1).alloc (zB3 _) (.cells #[Value.string ⟨h.name.toArray⟩,.string ⟨h.value.toArray⟩] 9))
 rw[hs2]at N1
 refine(ZF true _ _ [] _ _ _ P1 N1 (by rw[lD];have:=hsm.name;omega) (by rw[lD];have:=hsm.value;omega) (by simp)).mono ?_
 rintro e w2 ⟨rfl,T2,B2⟩
 have K3:=K2.put (by omega) (by omega) B2
 have P2:=oI (Hd.mAm h) T2
 clear T2 P1 N1 K1 P0 c0 c1 hs1 hs2 B2 K2
 have K2:=K3
 clear K3
 go_wp2_with fail
 refine wp_region_held_drew (S:=WB w.heap.size h w) (by kernel_rfl) K2.drew (fun _=>?_)
 refine mA (i:=0) rfl ?_
 refine mA (i:=1) rfl ?_
 refine mA (i:=2) rfl ?_ (hv:=by intro _ hS;have hcell:=hS.c4;clear hS;go_simp;with_reducible rfl)
 refine mA (i:=3) rfl ?_
 refine mA (i:=4) rfl ?_ (hv:=by intro _ hS;have hcell:=hS.c5;clear hS;go_simp;with_reducible rfl)
 refine yA (i:=5) fun K hK=>?_
 go_simp
 refine(zM.out w2.drew (HW.out _ K2.drew.below).UE).mono ?_
 rintro e v2 ⟨rfl,b2⟩
 have D2:=K2.drew.on b2
 have Q2:=P2.stays ((Below.refl _ w2).drew.trans b2)
 go_wp2_with fail
 refine hK.out _ _ D2 (fun _=>?_)
 clear hK K
 refine yA (i:=6) fun K hK=>?_
 go_simp
 have E2:=D2.alloc (.cells #[Value.string ⟨#[69,120,112,105,114,101,115]⟩,.string ⟨(Dt.text (h.exp.getD 0)).toArray⟩] 9)
 have R2:=Row.new v2 9 #[Value.string ⟨#[69,120,112,105,114,101,115]⟩,.string ⟨(Dt.text (h.exp.getD 0)).toArray⟩]
 have S2:=Q2.stays ((Below.refl _ v2).alloc (zB3 _) (.cells #[Value.string ⟨#[69,120,112,105,114,101,115]⟩,.string ⟨(Dt.text (h.exp.getD 0)).toArray⟩] 9))
 refine hK.out _ _ E2 (fun _=>?_)
 clear hK K
 refine yA (i:=7) fun K hK=>?_
 go_simp
 refine(ZF _ _ _ _ _ _ _ S2 R2 (by decide) (by rw[lD];omega) (by simp)).mono ?_
 rintro e w3 ⟨rfl,T3,B3⟩
 have K3:=E2.put (by omega) (by omega) B3
 have P3:=oI (Hd.eAY _ h.exp) T3
 clear T3 B3 S2 R2 E2 Q2 D2 b2 P2 K2
 go_wp2_with fail
 refine hK.out _ _ K3 (fun _=>?_)
 clear hK K
 refine wpAnyH_done (by kernel_rfl) ?_ _
 go_wp2_with fail
 refine wp_region_held_drew (S:=WB w.heap.size h w) (by kernel_rfl) K3.drew (fun _=>?_)
 refine mA (i:=0) rfl ?_
 refine mA (i:=1) rfl ?_
 refine mA (i:=2) rfl ?_ (hv:=by intro _ hS;have hcell:=hS.c6;clear hS;go_simp;with_reducible rfl)
 refine mA (i:=3) rfl ?_
 refine mA (i:=4) rfl ?_ (hv:=by intro _ hS;have hcell:=hS.c7;clear hS;go_simp;with_reducible rfl)
 refine yA (i:=5) fun K hK=>?_
 go_simp
 refine(eS.out w3.drew (HW.out _ K3.drew.below).UE.std).mono ?_
 rintro e v3 ⟨rfl,b3⟩
 have D3:=K3.drew.on b3
 have Q3:=P3.stays ((Below.refl _ w3).drew.trans b3)
 go_wp2_with fail
 refine hK.out _ _ D3 (fun _=>?_)
 clear hK K
 refine yA (i:=6) fun K hK=>?_
 go_simp
 have E3:=D3.alloc (.cells #[Value.string ⟨#[77,97,120,45,65,103,101]⟩,.string ⟨(Lib.decDigits (h.age.getD 0)).toArray⟩] 9)
 have R3:=Row.new v3 9 #[Value.string ⟨#[77,97,120,45,65,103,101]⟩,.string ⟨(Lib.decDigits (h.age.getD 0)).toArray⟩]
 have S3:=Q3.stays ((Below.refl _ v3).alloc (zB3 _) (.cells #[Value.string ⟨#[77,97,120,45,65,103,101]⟩,.string ⟨(Lib.decDigits (h.age.getD 0)).toArray⟩] 9))
 refine hK.out _ _ E3 (fun _=>?_)
 clear hK K
 refine yA (i:=7) fun K hK=>?_
 go_simp
 refine(ZF _ _ _ _ _ _ _ S3 R3 (by decide) (by rw[lD];omega) (by have:=Hd.I3 h;simp only[zB4,zB5,List.length_nil];omega)).mono ?_
 rintro e w4 ⟨rfl,T4,B4⟩
 have K4:=E3.put (by omega) (by omega) B4
 have P4:=oI (Hd.eAV _ h.age) T4
 clear T4 B4 S3 R3 E3 Q3 D3 b3 P3 K3
 go_wp2_with fail
 refine hK.out _ _ K4 (fun _=>?_)
 clear hK K
 refine wpAnyH_done (by kernel_rfl) ?_ _
 go_wp2_with fail
 refine wp_region_held_drew (S:=WB w.heap.size h w) (by kernel_rfl) K4.drew (fun _=>?_)
 refine mA (i:=0) rfl ?_
 refine mA (i:=1) rfl ?_
 refine mA (i:=2) rfl ?_ (hv:=by intro _ hS;have hcell:=hS.c2;clear hS;go_simp;with_reducible rfl)
 refine mA (i:=3) rfl ?_
 refine mA (i:=4) rfl ?_
 refine mA (i:=5) rfl ?_ (hv:=by intro _ hS;have hcell:=hS.c2;clear hS;go_simp;with_reducible rfl)
 refine yA (i:=6) fun K hK=>?_
 go_simp
 refine(nJ.out w4.drew).mono ?_
 rintro e v4 ⟨rfl,b4⟩
 have D4:=K4.drew.on b4
 have Q4:=P4.stays ((Below.refl _ w4).drew.trans b4)
 go_wp2_with fail
 refine hK.out _ _ D4 (fun _=>?_)
 clear hK K
 refine yA (i:=7) fun K hK=>?_
 go_simp
 have E4:=D4.alloc (.cells #[Value.string ⟨#[68,111,109,97,105,110]⟩,.string ⟨(Hd.qC h.domain).toArray⟩] 9)
 have R4:=Row.new v4 9 #[Value.string ⟨#[68,111,109,97,105,110]⟩,.string ⟨(Hd.qC h.domain).toArray⟩]
 have S4:=Q4.stays ((Below.refl _ v4).alloc (zB3 _) (.cells #[Value.string ⟨#[68,111,109,97,105,110]⟩,.string ⟨(Hd.qC h.domain).toArray⟩] 9))
 refine hK.out _ _ E4 (fun _=>?_)
 clear hK K
 refine yA (i:=8) fun K hK=>?_
 go_simp
 refine(ZF _ _ _ _ _ _ _ S4 R4 (by decide) (by rw[lD];have:=hsm.domain;omega) (by have:=Hd.gL h;simp only[zB4,zB5,List.length_nil];omega)).mono ?_
 rintro e w5 ⟨rfl,T5,B5⟩
 have K5:=E4.put (by omega) (by omega) B5
 have P5:=oI (Hd.eAX _ h.domain) T5
 clear T5 B5 S4 R4 E4 Q4 D4 b4 P4 K4
 go_wp2_with fail
 refine hK.out _ _ K5 (fun _=>?_)
 clear hK K
 refine wpAnyH_done (by kernel_rfl) ?_ _
 have c3:=K5.row.cell 3
 rw[q3]at c3
 go_wp2_with fail
 have E5:=K5.alloc (.cells #[Value.string ⟨#[80,97,116,104]⟩,.string ⟨h.path.toArray⟩] 9)
 have R5:=Row.new w5 9 #[Value.string ⟨#[80,97,116,104]⟩,.string ⟨h.path.toArray⟩]
 have S5:=P5.stays ((Below.refl _ w5).alloc (zB3 _) (.cells #[Value.string ⟨#[80,97,116,104]⟩,.string ⟨h.path.toArray⟩] 9))
 refine(ZF _ _ _ _ _ _ _ S5 R5 (by decide) (by rw[lD];have:=hsm.path;omega) (by have:=Hd.gL h;simp only[zB4,zB5,List.length_nil];omega)).mono ?_
 rintro e w6 ⟨rfl,T6,B6⟩
 have K6:=E5.put (by omega) (by omega) B6
 have P6:=oI (Hd.fA0 _ h.path) T6
 clear T6 B6 S5 R5 E5 P5 K5
 clear c3
 have c8:=K6.row.cell 8
 rw[q8]at c8
 go_wp2_with fail
 have E6:=K6.alloc (.cells #[Value.string ⟨#[83,101,99,117,114,101]⟩] 9)
 have R6:=Row.new w6 9 #[Value.string ⟨#[83,101,99,117,114,101]⟩]
 have S6:=P6.stays ((Below.refl _ w6).alloc (zB3 _) (.cells #[Value.string ⟨#[83,101,99,117,114,101]⟩] 9))
 refine(kR _ _ _ _ _ _ S6 R6 (by decide) (by have:=Hd.gL h;simp only[zB4,zB5,List.length_nil];omega)).mono ?_
 rintro e w7 ⟨rfl,T7,B7⟩
 have K7:=E6.put (by omega) (by omega) B7
 have P7:=oI (Hd.fA1 _ h.secure) T7
 clear T7 B7 S6 R6 E6 P6 K6
 clear c8
 have c9:=K7.row.cell 9
 rw[q9]at c9
 go_wp2_with fail
 have E7:=K7.alloc (.cells #[Value.string ⟨#[72,116,116,112,79,110,108,121]⟩] 9)
 have R7:=Row.new w7 9 #[Value.string ⟨#[72,116,116,112,79,110,108,121]⟩]
 have S7:=P7.stays ((Below.refl _ w7).alloc (zB3 _) (.cells #[Value.string ⟨#[72,116,116,112,79,110,108,121]⟩] 9))
 refine(kR _ _ _ _ _ _ S7 R7 (by decide) (by have:=Hd.gL h;simp only[zB4,zB5,List.length_nil];omega)).mono ?_
 rintro e w8 ⟨rfl,T8,B8⟩
 have K8:=E7.put (by omega) (by omega) B8
 have P8:=oI (Hd.eAZ _ h.only) T8
 clear T8 B8 S7 R7 E7 P7 K7
 clear c9
 go_wp2_with fail
 refine wp_region_held_drew (S:=WB w.heap.size h w) (by kernel_rfl) K8.drew (fun _=>?_)
 refine mA (i:=0) rfl ?_
 refine mA (i:=1) rfl ?_
 refine mA (i:=2) rfl ?_ (hv:=by intro _ hS;have hcell:=hS.c10;clear hS;go_simp;with_reducible rfl)
 refine mA (i:=3) rfl ?_
 refine mA (i:=4) rfl ?_
 refine mA (i:=5) rfl ?_ (hv:=by intro _ hS;have hcell:=hS.c10;clear hS;go_simp;with_reducible rfl)
 refine yA (i:=6) fun K hK=>?_
 go_simp
 refine(HSame.out w8.drew (HW.out _ K8.drew.below)).mono ?_
 rintro e v8 ⟨rfl,b8⟩
 have D8:=K8.drew.on b8
 have Q8:=P8.stays ((Below.refl _ w8).drew.trans b8)
 go_wp2_with fail
 refine hK.out _ _ D8 (fun _=>?_)
 clear hK K
 refine yA (i:=7) fun K hK=>?_
 go_simp
 have E8:=D8.alloc (.cells #[Value.string ⟨#[83,97,109,101,83,105,116,101]⟩,.string ⟨ww.toArray⟩] 9)
 have R8:=Row.new v8 9 #[Value.string ⟨#[83,97,109,101,83,105,116,101]⟩,.string ⟨ww.toArray⟩]
 have S8:=Q8.stays ((Below.refl _ v8).alloc (zB3 _) (.cells #[Value.string ⟨#[83,97,109,101,83,105,116,101]⟩,.string ⟨ww.toArray⟩] 9))
 refine hK.out _ _ E8 (fun _=>?_)
 clear hK K
 refine yA (i:=8) fun K hK=>?_
 go_simp
 refine(ZF _ _ _ _ _ _ _ S8 R8 (by decide) (by rw[lD];omega) (by have:=Hd.gL h;simp only[zB4,zB5,List.length_nil];omega)).mono ?_
 rintro e w9 ⟨rfl,T9,B9⟩
 have K9:=E8.put (by omega) (by omega) B9
 have P9:=oI (Hd.fA2 _ hsm.same PU) T9
 clear T9 B9 S8 R8 E8 Q8 D8 b8 P8 K8
 go_wp2_with fail
 refine hK.out _ _ K9 (fun _=>?_)
 clear hK K
 refine wpAnyH_done (by kernel_rfl) ?_ _
 have P10:=oI (ps2:=(h.name++61::h.value)::Hd.parts h) (by unfold Hd.parts;simp only[List.append_assoc,List.cons_append,List.nil_append]) P9
 obtain⟨sl,nN,iN⟩:=P10
 have q:=nN.cell 0
 have q':w9.cell? ⟨w.heap.size+1,0,none⟩=some sl:=q
 have hJ:=aAB _ _ w9 sl iN (by simp) (by have:=Hd.gL h;unfold Hd.parts;simp only[zB4,zB5];omega) (by rw[Hd.dAg];omega)
 rw[Hd.dAg]at hJ
 have HJ:=zA7 hJ
 clear P9 q hJ iN nN
 go_wp2_with fail
 refine HJ.out.mono ?_
 rintro e OW ⟨rfl,b10⟩
 go_wp2
 go_ret
 exact⟨rfl,K9.below.trans (b10.mono K9.below.size)⟩
end Go.Proofs.YtabgoobcliijeaaGreatDoor
