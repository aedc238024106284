/- The walk of write: the pieces of a header's text, one behind the other, and joined. -/
import Derived.Test.YtdaaoopkkhfbhaaGreatDoorY18
import Derived.Test.YtdaaoopkkhfbhaaGreatDoorY16
set_option maxHeartbeats 16000000
set_option maxRecDepth 100000
namespace Go.Proofs.YtdaaoopkkhfbhaaGreatDoor
open Go.RowKit
namespace Hd
theorem iAV(h:Head):(if true=true then([]:List (List UInt8))++ [h.name++61::h.value]else [])= [h.name++61::h.value]:=rfl
theorem aAo(ps:List (List UInt8))(o:Option Int):(if o.isSome=true then ps++ [XN++61::Dt.text (o.getD 0)]else ps)=ps++UF o:=by
 cases o with
 |none=>rw[if_neg (by simp)];exact(List.append_nil ps).symm
 |some n=>rw[if_pos (by rfl)];rfl
theorem aAl(ps:List (List UInt8))(o:Option Nat):(if o.isSome=true then ps++ [cL++61::Lib.decDigits (o.getD 0)]else ps)=ps++OG o:=by
 cases o with
 |none=>rw[if_neg (by simp)];exact(List.append_nil ps).symm
 |some n=>rw[if_pos (by rfl)];rfl
theorem aAn(ps:List (List UInt8))(d:List UInt8):(if(!d.isEmpty)=true then ps++ [dL++61::bC d]else ps)=ps++TF d:=by
 cases d with
 |nil=>rw[if_neg (by simp)];exact(List.append_nil ps).symm
 |cons c r=>rw[if_pos (by rfl)];rfl
theorem aAq(ps:List (List UInt8))(d:List UInt8):(if(!d.isEmpty)=true then ps++ [fL++61::d]else ps)=ps++partPath d:=by
 cases d with
 |nil=>rw[if_neg (by simp)];exact(List.append_nil ps).symm
 |cons c r=>rw[if_pos (by rfl)];rfl
theorem aAr(ps:List (List UInt8))(b:Bool):(if b=true then ps++ [gL]else ps)=ps++QG b:=by
 cases b with
 |false=>rw[if_neg (by simp)];exact(List.append_nil ps).symm
 |true=>rw[if_pos rfl];rfl
theorem aAp(ps:List (List UInt8))(b:Bool):(if b=true then ps++ [eL]else ps)=ps++PG b:=by
 cases b with
 |false=>rw[if_neg (by simp)];exact(List.append_nil ps).symm
 |true=>rw[if_pos rfl];rfl
theorem aAs(ps:List (List UInt8)){n:Nat}{x:List UInt8}(hn:n<=3)(hx:FC[n]? =some x):(if((n:Int) !=0)=true then ps++ [iL++61::x]else ps)=ps++VF n:=by
 have:n=0\/n=1\/n=2\/n=3:=by omega
 rcases this with rfl|rfl|rfl|rfl
 ·rw[if_neg (by decide)];exact(List.append_nil ps).symm
 ·have e:x=kI:=(zB2 hx).symm
  subst e;rw[if_pos (by decide)];rfl
 ·have e:x=WG:=(zB2 hx).symm
  subst e;rw[if_pos (by decide)];rfl
 ·have e:x=fG:=(zB2 hx).symm
  subst e;rw[if_pos (by decide)];rfl
theorem gV(h:Head):(UF h.exp).length<=1:=by unfold UF;split<;>simp
theorem JI(h:Head):(UF h.exp).length<=1/\(OG h.age).length<=1/\(TF h.domain).length<=1/\(partPath h.path).length<=1/\(QG h.secure).length<=1/\(PG h.only).length<=1/\(VF h.same).length<=1:=by
 refine⟨gV h,?_,?_,?_,?_,?_,?_⟩
 ·unfold OG;split<;>simp
 ·unfold TF;split<;>simp
 ·unfold partPath;split<;>simp
 ·unfold QG;split<;>simp
 ·unfold PG;split<;>simp
 ·unfold VF;split<;>simp
theorem fAL(a b:List (List UInt8)):joined (a++b)=joined a++joined b:=by unfold joined;rw[List.flatMap_append]
theorem GK(a:List UInt8):(joined [a]).length=a.length+2:=by simp[joined]
theorem yP {o:Option Int}(ho: ∀n,o=some n-> ∃t,Dt.civil (n/86400)=some t): -9223372036854775808<=o.getD 0/\o.getD 0<=9223372036854775807/\(Dt.text (o.getD 0)).length=29:=by
 have key: ∀n:Int,(∃t,Dt.civil (n/86400)=some t)-> -9223372036854775808<=n/\n<=9223372036854775807/\(Dt.text n).length=29:=fun n h=>by
  have hl:=rJ h
  obtain⟨⟨y,m,d⟩,h⟩:=h
  obtain⟨hI,hd⟩:=Dt.FF.1 h
  have hb:=Dt.qK hI
  rw[hd]at hb
  exact⟨by omega,by omega,hl⟩
 cases o with
 |none=>exact key 0 ⟨(1970,1,1),Dt.FF.2 ⟨by decide,by decide⟩⟩
 |some n=>exact key n (ho n rfl)
theorem yT {o:Option Nat}(ho: ∀n,o=some n->n<=34560000):o.getD 0<=34560000/\(Lib.decDigits (o.getD 0)).length<=8:=by
 have h:o.getD 0<=34560000:=by
  cases o with
  |none=>exact Nat.zero_le _
  |some n=>exact ho n rfl
 exact⟨h,(DP h).2.1⟩
theorem FP(d:List UInt8):(bC d).length<=d.length+1:=by unfold bC;split<;>simp
theorem kAx: ∀n,(UG n).length<=6:=fun n=>by unfold UG;split<;>(try split)<;>decide
theorem G0 {h:Head}(hg:Good h):(text h).length<=10000:=by
 have hf:=hg.few
 have hs:=AV hg
 have h1:=(yP hg.exp).2.2
 have h2:=(yT hg.age).2
 unfold text parts
 simp only[fAL,zB4,zB5]
 have e1:(joined (UF h.exp)).length<=100:=by
  unfold UF
  split
  ·rename_i n hn
   rw[hn]at h1
   have:(Dt.text n).length=29:=h1
   rw[GK,zB4,zB5,this];decide
  ·decide
 have e2:(joined (OG h.age)).length<=100:=by
  unfold OG
  split
  ·rename_i n hn
   rw[hn]at h2
   have:(Lib.decDigits n).length<=8:=h2
   rw[GK,zB4,zB5,show cL.length=7 from rfl];omega
  ·decide
 have e3:(joined (TF h.domain)).length<=1100:=by
  unfold TF
  split
  ·decide
  ·have:=FP h.domain
   have:=hs.domain
   rw[GK,zB4,zB5,show dL.length=6 from rfl];omega
 have e4:(joined (partPath h.path)).length<=1100:=by
  unfold partPath
  split
  ·decide
  ·have:=hs.path
   rw[GK,zB4,zB5,show fL.length=4 from rfl];omega
 have e5:(joined (QG h.secure)).length<=100:=by unfold QG;split<;>decide
 have e6:(joined (PG h.only)).length<=100:=by unfold PG;split<;>decide
 have e7:(joined (VF h.same)).length<=100:=by
  unfold VF
  split
  ·decide
  ·have:=kAx h.same
   rw[GK,zB4,zB5,show iL.length=8 from rfl];omega
 omega
end Hd
theorem dAC(n:Nat)(w:World)(h:Std w)(hn:n<=34560000):
  Calls Tryz.prog 262 #[.int .i64 (n:Int),.int .i64 10] w fun e w'=>e= .returned (.string ⟨(Lib.decDigits n).toArray⟩)/\Below w.heap.size w w':=by
 refine(Tryz.strconv_FormatInt_10 (n:Int) (by omega) (by omega) w h.ten).mono fun e w' ⟨he,k,os,hw⟩=>⟨?_,?_⟩
 ·rw[he,Lib.itoa_nonneg]
 ·rw[hw];exact below_grow (uG _ _ _) (by have:=(uG w.heap.size w k).size;exact this) _
theorem cE(b:Bool)(x y:ByteArray)(ps:List (List UInt8))(bp gp:Nat)(w:World)(hP:PD gp ps w)(hx:Row w bp 9 #[.string x,.string y])(h1:x.size<=10000)(h2:y.size<=10000)(hps:ps.length<=1000):
  Calls Tryz.prog 260 #[.bool b,.slice (some ⟨bp,0,none⟩) 2 2,.pointer (some ⟨gp,0,none⟩)] w (OL gp (if b=true then ps++ [x.data.toList++61::y.data.toList]else ps) w):=by
 have e:Row w bp 9 (FA [x.data.toList,y.data.toList]):=by
  have e2:FA [x.data.toList,y.data.toList]= #[.string x,.string y]:=by
   unfold FA gA
   rw[List.map_cons,List.map_cons,List.map_nil,DE,DE]
  rw[e2];exact hx
 have h:=KY b [x.data.toList,y.data.toList] ps bp gp w hP e (by simp) (by rw[Hd.QM,zB4,zB5,Oct.oA,Oct.oA];omega) hps
 rw[Hd.QM]at h
 exact h
theorem wN(b:Bool)(x:ByteArray)(ps:List (List UInt8))(bp gp:Nat)(w:World)(hP:PD gp ps w)(hx:Row w bp 9 #[.string x])(h1:x.size<=10000)(hps:ps.length<=1000):
  Calls Tryz.prog 260 #[.bool b,.slice (some ⟨bp,0,none⟩) 1 1,.pointer (some ⟨gp,0,none⟩)] w (OL gp (if b=true then ps++ [x.data.toList]else ps) w):=by
 have e:Row w bp 9 (FA [x.data.toList]):=by
  have e2:FA [x.data.toList]= #[.string x]:=by
   unfold FA gA
   rw[List.map_cons,List.map_nil,DE]
  rw[e2];exact hx
 have h:=KY b [x.data.toList] ps bp gp w hP e (by simp) (by rw[Hd.join_one,Oct.oA];omega) hps
 rw[Hd.join_one]at h
 exact h
theorem OW(ps:List (List UInt8))(gp:Nat)(w:World)(sl:Value)(O:w.ownsRow (gp+1) 9 1 sl ps.length (ps.map gA))(hn:0<ps.length)(hn2:ps.length<=1000)(hj:(Lib.join ps [59,32]).length<=1000000):
  Calls Tryz.prog 40 #[sl,.string ⟨#[59,32]⟩] w fun e w'=>e= .returned (.string ⟨(Lib.join ps [59,32]).toArray⟩)/\Below w.heap.size w w':=by
 obtain⟨g,cap,rfl,hg,hlt⟩:=O.form hn
 have hcap:ps.length<=cap:=by
  rcases O.2 with⟨h0,_⟩|⟨g',cap',cur,hv,_,_,hle,_⟩
  ·cases h0
  ·have e:=(Value.slice.inj hv)
   rw[e.2.2];exact hle
 have e1:((ps.map fun p=>(⟨p.toArray⟩:ByteArray)).map (·.data.toList))=ps:=by rw[List.map_map];exact List.map_id ps
 have e2:(⟨#[59,32]⟩:ByteArray).data.toList= [59,32]:=rfl
 have h:=Tryz.strings_Join g 0 cap (ps.map fun p=>⟨p.toArray⟩) ⟨#[59,32]⟩ w (fun j x dD=>by
  rw[Nat.zero_add]
  rw[List.getElem?_map]at dD
  cases hp:ps[j]? with
  |none=>rw[hp]at dD;cases dD
  |some p=>rw[hp]at dD;exact WH O hp (zB2 dD).symm) hlt (by rw[List.length_map];omega) (by rw[List.length_map];exact hcap) (by rw[e1,e2];omega)
 rw[List.length_map,e1,e2]at h
 exact h
structure rB(b0:Nat)(h:Hd.Head)(w w':World):Prop where
 row:Row w' b0 114 (headA h)
 below:Below w.heap.size w w'
section
variable {b0:Nat} {h:Hd.Head} {w w' w'':World}
theorem rB.on (k:rB b0 h w w')(hb:Below w'.heap.size w' w''):rB b0 h w w'':=⟨k.row.stays hb,k.below.trans (hb.mono k.below.size)⟩
theorem rB.drew (k:rB b0 h w w'):rB b0 h w w'.drew:=k.on (Below.refl _ _).drew
theorem rB.alloc (k:rB b0 h w w')(o:Obj):rB b0 h w (w'.alloc o):=k.on ((Below.refl _ _).alloc (zB3 _) o)
theorem rB.put (k:rB b0 h w w'){gp:Nat}(h0:b0<gp)(h1:w.heap.size<=gp)(hb:Below gp w' w''):rB b0 h w w'':=⟨k.row.below hb h0,k.below.trans (hb.mono h1)⟩
theorem rB.c2 (k:rB b0 h w w'):w'.cell? ⟨b0,2,none⟩=some (.string ⟨h.domain.toArray⟩):=k.row.cell 2
theorem rB.c4 (k:rB b0 h w w'):w'.cell? ⟨b0,4,none⟩=some (.bool h.exp.isSome):=k.row.cell 4
theorem rB.c5 (k:rB b0 h w w'):w'.cell? ⟨b0,5,none⟩=some (.int .i64 (h.exp.getD 0)):=k.row.cell 5
theorem rB.c6 (k:rB b0 h w w'):w'.cell? ⟨b0,6,none⟩=some (.bool h.age.isSome):=k.row.cell 6
theorem rB.c7 (k:rB b0 h w w'):w'.cell? ⟨b0,7,none⟩=some (.int .i64 ((h.age.getD 0:Nat):Int)):=k.row.cell 7
theorem rB.c10 (k:rB b0 h w w'):w'.cell? ⟨b0,10,none⟩=some (.int .i64 (h.same:Int)):=k.row.cell 10
end
theorem WF {gp:Nat}{ps1 ps2:List (List UInt8)}{w:World}(e:ps1=ps2)(h:PD gp ps1 w):PD gp ps2 w:=by rw[<-e];exact h
theorem VX(w:World):PD w.heap.size [] (w.alloc (.cells #[.slice none 0 0] 93)):=⟨_,Row.new _ _ _,⟨rfl,.inl ⟨rfl,rfl⟩⟩⟩
theorem mAF(h:Hd.Head)(hg:Hd.Good h)(w:World)(hw:mB w):
  Calls Tryz.prog 211 #[.agg (headA h)] w (VC w.heap.size (Hd.text h) w):=by
 have hsm:=Hd.AV hg
 have htl:=Hd.G0 hg
 obtain⟨x1,x2,x3⟩:=Hd.yP hg.exp
 obtain⟨a1,a2⟩:=Hd.yT hg.age
 have hd0:=Hd.FP h.domain
 obtain⟨ww,pQ⟩:=Hd.gS (k:=h.same) (by have:=hsm.same;omega)
 have HW:Hid (∀W,Below w.heap.size w W->mB W):=zA7 (fun W hb=>hw.below hb)
 have IJ:=zA7 (fun W hW=>AU (h.exp.getD 0) W hW x1 x2)
 unfold oH at IJ
 have iO:=zA7 (fun W hW=>dAC (h.age.getD 0) W hW a1)
 have bH:=zA7 (fun W=>wX ⟨h.domain.toArray⟩ W (by rw[wC];have:=hsm.domain;omega))
 unfold VC at bH
 have ed:(⟨h.domain.toArray⟩:ByteArray).data.toList=h.domain:=rfl
 rw[ed]at bH
 have HSame:=zA7 (fun W hW=>qZ h.same W hW pQ)
 have R0:=Row.new w 114 (headA h)
 have K0:rB w.heap.size h w (w.alloc (.cells (headA h) 114)):=⟨R0,(Below.refl w.heap.size w).alloc (zB3 _) _⟩
 have P0:=VX (w.alloc (.cells (headA h) 114))
 have K1:=K0.alloc (.cells #[.slice none 0 0] 93)
 have q3:(headA h)[3]? =some (.string ⟨h.path.toArray⟩):=rfl
 have q8:(headA h)[8]? =some (.bool h.secure):=rfl
 have q9:(headA h)[9]? =some (.bool h.only):=rfl
 have hwl:ww.length<=6:=by
  have: ∀x∈Hd.FC,x.length<=6:=by decide
  exact this _ (List.mem_of_getElem? pQ)
 have c0:=K1.row.cell 0
 have c1:=K1.row.cell 1
 have q0:(headA h)[0]? =some (.string ⟨h.name.toArray⟩):=rfl
 have q1:(headA h)[1]? =some (.string ⟨h.value.toArray⟩):=rfl
 rw[q0]at c0
 rw[q1]at c1
 clear q0 q1
 go_enter Tryz.func211,Tryz.ntmps211
 go_wp2_with fail
 have hs1:(w.alloc (.cells (headA h) 114)).heap.size=w.heap.size+1:=by simp
 have hs2:((w.alloc (.cells (headA h) 114)).alloc (.cells #[.slice none 0 0] 93)).heap.size=w.heap.size+1+1:=by simp
 rw[hs1]at P0
 generalize(w.alloc (.cells (headA h) 114)).alloc (.cells #[.slice none 0 0] 93)=W1 at*
 have N1:=Row.new W1 9 #[.string ⟨h.name.toArray⟩,.string ⟨h.value.toArray⟩]
 have K2:=K1.alloc (.cells #[Value.string ⟨h.name.toArray⟩,.string ⟨h.value.toArray⟩] 9)
 have P1:=P0.stays ((Below.refl W1.heap.size W1).alloc (zB3 _) (.cells #[Value.string ⟨h.name.toArray⟩,.string ⟨h.value.toArray⟩] 9))
 rw[hs2]at N1
 refine(cE true _ _ [] _ _ _ P1 N1 (by rw[wC];have:=hsm.name;omega) (by rw[wC];have:=hsm.value;omega) (by simp)).mono ?_
 rintro e w2 ⟨rfl,T2,B2⟩
 have K3:=K2.put (by omega) (by omega) B2
 have P2:=WF (Hd.iAV h) T2
 clear T2 P1 N1 K1 P0 c0 c1 hs1 hs2 B2 K2
 have K2:=K3
 clear K3
 go_wp2_with fail
 refine wp_region_held_drew (S:=rB w.heap.size h w) (by kernel_rfl) K2.drew (fun _=>?_)
 refine lA (i:=0) rfl ?_
 refine lA (i:=1) rfl ?_
 refine lA (i:=2) rfl ?_ (hv:=by intro _ hS;have hcell:=hS.c4;clear hS;go_simp;with_reducible rfl)
 refine lA (i:=3) rfl ?_
 refine lA (i:=4) rfl ?_ (hv:=by intro _ hS;have hcell:=hS.c5;clear hS;go_simp;with_reducible rfl)
 refine QA (i:=5) fun K hK=>?_
 go_simp
 refine(IJ.out w2.drew (HW.out _ K2.drew.below).MC).mono ?_
 rintro e v2 ⟨rfl,b2⟩
 have D2:=K2.drew.on b2
 have Q2:=P2.stays ((Below.refl _ w2).drew.trans b2)
 go_wp2_with fail
 refine hK.out _ _ D2 (fun _=>?_)
 clear hK K
 refine QA (i:=6) fun K hK=>?_
 go_simp
 have E2:=D2.alloc (.cells #[Value.string ⟨#[69,120,112,105,114,101,115]⟩,.string ⟨(Dt.text (h.exp.getD 0)).toArray⟩] 9)
 have R2:=Row.new v2 9 #[Value.string ⟨#[69,120,112,105,114,101,115]⟩,.string ⟨(Dt.text (h.exp.getD 0)).toArray⟩]
 have S2:=Q2.stays ((Below.refl _ v2).alloc (zB3 _) (.cells #[Value.string ⟨#[69,120,112,105,114,101,115]⟩,.string ⟨(Dt.text (h.exp.getD 0)).toArray⟩] 9))
 refine hK.out _ _ E2 (fun _=>?_)
 clear hK K
 refine QA (i:=7) fun K hK=>?_
 go_simp
 refine(cE _ _ _ _ _ _ _ S2 R2 (by decide) (by rw[wC];omega) (by simp)).mono ?_
 rintro e w3 ⟨rfl,T3,B3⟩
 have K3:=E2.put (by omega) (by omega) B3
 have P3:=WF (Hd.aAo _ h.exp) T3
 clear T3 B3 S2 R2 E2 Q2 D2 b2 P2 K2
 go_wp2_with fail
 refine hK.out _ _ K3 (fun _=>?_)
 clear hK K
 refine wpAnyH_done (by kernel_rfl) ?_ _
 go_wp2_with fail
 refine wp_region_held_drew (S:=rB w.heap.size h w) (by kernel_rfl) K3.drew (fun _=>?_)
 refine lA (i:=0) rfl ?_
 refine lA (i:=1) rfl ?_
 refine lA (i:=2) rfl ?_ (hv:=by intro _ hS;have hcell:=hS.c6;clear hS;go_simp;with_reducible rfl)
 refine lA (i:=3) rfl ?_
 refine lA (i:=4) rfl ?_ (hv:=by intro _ hS;have hcell:=hS.c7;clear hS;go_simp;with_reducible rfl)
 refine QA (i:=5) fun K hK=>?_
 go_simp
 refine(iO.out w3.drew (HW.out _ K3.drew.below).MC.std).mono ?_
 rintro e v3 ⟨rfl,b3⟩
 have D3:=K3.drew.on b3
 have Q3:=P3.stays ((Below.refl _ w3).drew.trans b3)
 go_wp2_with fail
 refine hK.out _ _ D3 (fun _=>?_)
 clear hK K
 refine QA (i:=6) fun K hK=>?_
 go_simp
 have E3:=D3.alloc (.cells #[Value.string ⟨#[77,97,120,45,65,103,101]⟩,.string ⟨(Lib.decDigits (h.age.getD 0)).toArray⟩] 9)
 have R3:=Row.new v3 9 #[Value.string ⟨#[77,97,120,45,65,103,101]⟩,.string ⟨(Lib.decDigits (h.age.getD 0)).toArray⟩]
 have S3:=Q3.stays ((Below.refl _ v3).alloc (zB3 _) (.cells #[Value.string ⟨#[77,97,120,45,65,103,101]⟩,.string ⟨(Lib.decDigits (h.age.getD 0)).toArray⟩] 9))
 refine hK.out _ _ E3 (fun _=>?_)
 clear hK K
 refine QA (i:=7) fun K hK=>?_
 go_simp
 refine(cE _ _ _ _ _ _ _ S3 R3 (by decide) (by rw[wC];omega) (by have:=Hd.gV h;simp only[zB4,zB5,List.length_nil];omega)).mono ?_
 rintro e w4 ⟨rfl,T4,B4⟩
 have K4:=E3.put (by omega) (by omega) B4
 have P4:=WF (Hd.aAl _ h.age) T4
 clear T4 B4 S3 R3 E3 Q3 D3 b3 P3 K3
 go_wp2_with fail
 refine hK.out _ _ K4 (fun _=>?_)
 clear hK K
 refine wpAnyH_done (by kernel_rfl) ?_ _
 go_wp2_with fail
 refine wp_region_held_drew (S:=rB w.heap.size h w) (by kernel_rfl) K4.drew (fun _=>?_)
 refine lA (i:=0) rfl ?_
 refine lA (i:=1) rfl ?_
 refine lA (i:=2) rfl ?_ (hv:=by intro _ hS;have hcell:=hS.c2;clear hS;go_simp;with_reducible rfl)
 refine lA (i:=3) rfl ?_
 refine lA (i:=4) rfl ?_
 refine lA (i:=5) rfl ?_ (hv:=by intro _ hS;have hcell:=hS.c2;clear hS;go_simp;with_reducible rfl)
 refine QA (i:=6) fun K hK=>?_
 go_simp
 refine(bH.out w4.drew).mono ?_
 rintro e v4 ⟨rfl,b4⟩
 have D4:=K4.drew.on b4
 have Q4:=P4.stays ((Below.refl _ w4).drew.trans b4)
 go_wp2_with fail
 refine hK.out _ _ D4 (fun _=>?_)
 clear hK K
 refine QA (i:=7) fun K hK=>?_
 go_simp
 have E4:=D4.alloc (.cells #[Value.string ⟨#[68,111,109,97,105,110]⟩,.string ⟨(Hd.bC h.domain).toArray⟩] 9)
 have R4:=Row.new v4 9 #[Value.string ⟨#[68,111,109,97,105,110]⟩,.string ⟨(Hd.bC h.domain).toArray⟩]
 have S4:=Q4.stays ((Below.refl _ v4).alloc (zB3 _) (.cells #[Value.string ⟨#[68,111,109,97,105,110]⟩,.string ⟨(Hd.bC h.domain).toArray⟩] 9))
 refine hK.out _ _ E4 (fun _=>?_)
 clear hK K
 refine QA (i:=8) fun K hK=>?_
 go_simp
 refine(cE _ _ _ _ _ _ _ S4 R4 (by decide) (by rw[wC];have:=hsm.domain;omega) (by have:=Hd.JI h;simp only[zB4,zB5,List.length_nil];omega)).mono ?_
 rintro e w5 ⟨rfl,T5,B5⟩
 have K5:=E4.put (by omega) (by omega) B5
 have P5:=WF (Hd.aAn _ h.domain) T5
 clear T5 B5 S4 R4 E4 Q4 D4 b4 P4 K4
 go_wp2_with fail
 refine hK.out _ _ K5 (fun _=>?_)
 clear hK K
 refine wpAnyH_done (by kernel_rfl) ?_ _
 have c3:=K5.row.cell 3
 rw[q3]at c3
 go_wp2_with fail
 have E5:=K5.alloc (.cells #[Value.string ⟨#[80,97,116,104]⟩,.string ⟨h.path.toArray⟩] 9)
 have R5:=Row.new w5 9 #[Value.string ⟨#[80,97,116,104]⟩,.string ⟨h.path.toArray⟩]
 have S5:=P5.stays ((Below.refl _ w5).alloc (zB3 _) (.cells #[Value.string ⟨#[80,97,116,104]⟩,.string ⟨h.path.toArray⟩] 9))
 refine(cE _ _ _ _ _ _ _ S5 R5 (by decide) (by rw[wC];have:=hsm.path;omega) (by have:=Hd.JI h;simp only[zB4,zB5,List.length_nil];omega)).mono ?_
 rintro e w6 ⟨rfl,T6,B6⟩
 have K6:=E5.put (by omega) (by omega) B6
 have P6:=WF (Hd.aAq _ h.path) T6
 clear T6 B6 S5 R5 E5 P5 K5
 clear c3
 have c8:=K6.row.cell 8
 rw[q8]at c8
 go_wp2_with fail
 have E6:=K6.alloc (.cells #[Value.string ⟨#[83,101,99,117,114,101]⟩] 9)
 have R6:=Row.new w6 9 #[Value.string ⟨#[83,101,99,117,114,101]⟩]
 have S6:=P6.stays ((Below.refl _ w6).alloc (zB3 _) (.cells #[Value.string ⟨#[83,101,99,117,114,101]⟩] 9))
 refine(wN _ _ _ _ _ _ S6 R6 (by decide) (by have:=Hd.JI h;simp only[zB4,zB5,List.length_nil];omega)).mono ?_
 rintro e w7 ⟨rfl,T7,B7⟩
 have K7:=E6.put (by omega) (by omega) B7
 have P7:=WF (Hd.aAr _ h.secure) T7
 clear T7 B7 S6 R6 E6 P6 K6
 clear c8
 have c9:=K7.row.cell 9
 rw[q9]at c9
 go_wp2_with fail
 have E7:=K7.alloc (.cells #[Value.string ⟨#[72,116,116,112,79,110,108,121]⟩] 9)
 have R7:=Row.new w7 9 #[Value.string ⟨#[72,116,116,112,79,110,108,121]⟩]
 have S7:=P7.stays ((Below.refl _ w7).alloc (zB3 _) (.cells #[Value.string ⟨#[72,116,116,112,79,110,108,121]⟩] 9))
 refine(wN _ _ _ _ _ _ S7 R7 (by decide) (by have:=Hd.JI h;simp only[zB4,zB5,List.length_nil];omega)).mono ?_
 rintro e w8 ⟨rfl,T8,B8⟩
 have K8:=E7.put (by omega) (by omega) B8
 have P8:=WF (Hd.aAp _ h.only) T8
 clear T8 B8 S7 R7 E7 P7 K7
 clear c9
 go_wp2_with fail
 refine wp_region_held_drew (S:=rB w.heap.size h w) (by kernel_rfl) K8.drew (fun _=>?_)
 refine lA (i:=0) rfl ?_
 refine lA (i:=1) rfl ?_
 refine lA (i:=2) rfl ?_ (hv:=by intro _ hS;have hcell:=hS.c10;clear hS;go_simp;with_reducible rfl)
 refine lA (i:=3) rfl ?_
 refine lA (i:=4) rfl ?_
 refine lA (i:=5) rfl ?_ (hv:=by intro _ hS;have hcell:=hS.c10;clear hS;go_simp;with_reducible rfl)
 refine QA (i:=6) fun K hK=>?_
 go_simp
 refine(HSame.out w8.drew (HW.out _ K8.drew.below)).mono ?_
 rintro e v8 ⟨rfl,b8⟩
 have D8:=K8.drew.on b8
 have Q8:=P8.stays ((Below.refl _ w8).drew.trans b8)
 go_wp2_with fail
 refine hK.out _ _ D8 (fun _=>?_)
 clear hK K
 refine QA (i:=7) fun K hK=>?_
 go_simp
 have E8:=D8.alloc (.cells #[Value.string ⟨#[83,97,109,101,83,105,116,101]⟩,.string ⟨ww.toArray⟩] 9)
 have R8:=Row.new v8 9 #[Value.string ⟨#[83,97,109,101,83,105,116,101]⟩,.string ⟨ww.toArray⟩]
 have S8:=Q8.stays ((Below.refl _ v8).alloc (zB3 _) (.cells #[Value.string ⟨#[83,97,109,101,83,105,116,101]⟩,.string ⟨ww.toArray⟩] 9))
 refine hK.out _ _ E8 (fun _=>?_)
 clear hK K
 refine QA (i:=8) fun K hK=>?_
 go_simp
 refine(cE _ _ _ _ _ _ _ S8 R8 (by decide) (by rw[wC];omega) (by have:=Hd.JI h;simp only[zB4,zB5,List.length_nil];omega)).mono ?_
 rintro e w9 ⟨rfl,T9,B9⟩
 have K9:=E8.put (by omega) (by omega) B9
 have P9:=WF (Hd.aAs _ hsm.same pQ) T9
 clear T9 B9 S8 R8 E8 Q8 D8 b8 P8 K8
 go_wp2_with fail
 refine hK.out _ _ K9 (fun _=>?_)
 clear hK K
 refine wpAnyH_done (by kernel_rfl) ?_ _
 have P10:=WF (ps2:=(h.name++61::h.value)::Hd.parts h) (by unfold Hd.parts;simp only[List.append_assoc,List.cons_append,List.nil_append]) P9
 obtain⟨sl,gK,cK⟩:=P10
 have q:=gK.cell 0
 have q':w9.cell? ⟨w.heap.size+1,0,none⟩=some sl:=q
 have hJ:=OW _ _ w9 sl cK (by simp) (by have:=Hd.JI h;unfold Hd.parts;simp only[zB4,zB5];omega) (by rw[Hd.E0];omega)
 rw[Hd.E0]at hJ
 have HJ:=zA7 hJ
 clear P9 q hJ cK gK
 go_wp2_with fail
 refine HJ.out.mono ?_
 rintro e w10 ⟨rfl,b10⟩
 go_wp2
 go_ret
 exact⟨rfl,K9.below.trans (b10.mono K9.below.size)⟩
end Go.Proofs.YtdaaoopkkhfbhaaGreatDoor
