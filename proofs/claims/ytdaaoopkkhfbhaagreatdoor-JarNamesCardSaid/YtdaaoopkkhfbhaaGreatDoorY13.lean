/- The walk of date's Cookie. -/
import Derived.Test.YtdaaoopkkhfbhaaGreatDoorY12
import Derived.Lib.LastIndexByte
set_option maxHeartbeats 8000000
set_option maxRecDepth 100000
namespace Go.Proofs.YtdaaoopkkhfbhaaGreatDoor
open Go.RowKit
theorem mAM: #[Value.bool false,.bool false,.bool false,.bool false,.int .i64 0,.int .i64 0,.int .i64 0,.int .i64 0,.int .i64 0,.int .i64 0]=EC Dt.untold:=by rfl
theorem bAX(u:ByteArray):(Dt.nB u.data.toList).1.length<=u.size/\(Dt.nB u.data.toList).2.length<=u.size-1:=by
 have:=Dt.rU u.data.toList
 rw[Oct.oA]at this
 exact this
theorem bAN(s:ByteArray)(w:World)(hw:PB w)(hs:s.size<=maxLen):
  Calls Tryz.prog 148 #[.string s] w (AF (Dt.OA s.data.toList) w):=by
 have z0:=mAM
 have GA:Hid (∀T n b w',Dt.told s.data.toList=T->Dt.moment T=(n,b)->Below w.heap.size w w'->AF (Dt.OA s.data.toList) w (.returned (.tuple #[.int .i64 n,.bool b])) w'):=zA7 (fun T n b w' h1 h2 k=>BX (by unfold Dt.OA;rw[h1,h2]) k)
 generalize hpost:AF (Dt.OA s.data.toList) w=post at*
 clear hpost
 have HT0:Hid ((Dt.toks s.data.toList).foldl Dt.tell Dt.untold=Dt.told s.data.toList):=zA7 rfl
 generalize Dt.told s.data.toList=res at*
 have HS:=zA7 hs
 have HW:Hid (∀W,Below w.heap.size w W->PB W):=zA7 (fun W h=>hw.below h)
 clear hs hw
 go_enter Tryz.func148,Tryz.ntmps148
 go_wp2_with fail
 have R0:=Row.new w 245 (EC Dt.untold)
 have K0:fC w.heap.size Dt.untold w (w.alloc (.cells (EC Dt.untold) 245)):=⟨R0,(Below.refl w.heap.size w).alloc (zB3 _) _⟩
 generalize w.alloc (.cells (EC Dt.untold) 245)=w0 at*
 clear R0
 go_loopw [5] (fun v wr=> ∃(u:ByteArray)(T:Dt.Told),v= .string u/\u.size<=s.size/\(Dt.toks u.data.toList).foldl Dt.tell T=res/\fC w.heap.size T w wr) (fun v _=>match v with| .string u=>u.size|_=>0)
 case atStart=>exact⟨s,_,rfl,zB3 _,HT0.out,K0⟩
 case round=>
  clear K0
  obtain⟨u,T,rfl,RI,hT,K⟩:=hrel
  have xE:u.size<=maxLen:=Nat.le_trans RI HS.out
  by_cases hu:u.size=0
  ·have hn:u.data.toList= []:=(Oct.lD u).2 hu
   rw[hn,Dt.vK]at hT
   have hne:u.toList.isEmpty=true:=by rw[Oct.aB,hn];rfl
   have HM:=zA7 (gAU T w.heap.size wr (HW.out wr K.below) K.row)
   unfold AF at HM
   rcases hmo:Dt.moment T with⟨n,b⟩
   rw[hmo]at HM
   have HR:=zA7 (fun w' hb=>GA.out T n b w' hT.symm hmo hb)
   have B:=K.below
   clear hmo hT hn xE
   go_wp2_with (go_at_call 209;refine HM.out.mono ?_;rintro e w2 ⟨rfl,b2⟩)
   have h:=HR.out w2 (B.trans (b2.mono B.size))
   first|exact h|(go_ret2;exact h)
  ·have mO:=zA7 (fun W=>bAY u W xE)
   unfold SL at mO
   obtain⟨l1,l2⟩:=bAX u
   rw[Dt.dAt]at hT
   obtain⟨p,hp⟩: ∃x:ByteArray,(⟨(Dt.nB u.data.toList).1.toArray⟩:ByteArray)=x:=⟨_,rfl⟩
   obtain⟨r,hr⟩: ∃x:ByteArray,(⟨(Dt.nB u.data.toList).2.toArray⟩:ByteArray)=x:=⟨_,rfl⟩
   have mQ:p.data.toList=(Dt.nB u.data.toList).1:=by rw[<-hp]
   have hrd:r.data.toList=(Dt.nB u.data.toList).2:=by rw[<-hr]
   rw[hp,hr]at mO
   rw[<-mQ,<-hrd]at hT
   rw[<-mQ,Oct.oA]at l1
   rw[<-hrd,Oct.oA]at l2
   have fT:=zA7 (fun g W hw0 hR=>lA6 T p g W hw0 hR (Nat.le_trans l1 xE))
   unfold RL at fT
   generalize Dt.tell T p.data.toList=T2 at*
   have hne:u.toList.isEmpty=false:=by
    rw[Oct.aB,Bool.eq_false_iff]
    intro h
    exact hu ((Oct.lD u).1 (List.isEmpty_iff.1 h))
   clear hp hr mQ hrd xE
   have HT:=zA7 hT
   clear hT
   go_wp2_with fail
   refine(mO.out _).mono ?_
   rintro e w2 ⟨rfl,b2⟩
   have K2:=K.on b2
   go_wp2_with fail
   refine(fT.out _ _ (fun W hW=>HW.out W (K2.below.trans hW)) K2.row).mono ?_
   rintro e w3 ⟨rfl,k3⟩
   have K3:fC w.heap.size T2 w w3:=⟨k3.row,K2.below.trans k3.below⟩
   go_wp2
   go_roundw
   case rel=>exact⟨r,T2,rfl,by omega,HT.out,K3⟩
   case measure=>simp;omega
end Go.Proofs.YtdaaoopkkhfbhaaGreatDoor
namespace Go.Proofs.YtdaaoopkkhfbhaaGreatDoor
open Go.RowKit Go.Maps
theorem fJ {jb:Nat}{now:Int}(w:World)(h:w.cell? ⟨jb,0,none⟩=some (.int .i64 now)):
  Calls Tryz.prog 15 #[.pointer (some ⟨jb,0,none⟩)] w fun e w'=>e= .returned (.int .i64 now)/\w=w':=by
 go_enter Tryz.func15,Tryz.ntmps15
 go_wp2
 go_ret
 exact⟨rfl,rfl⟩
theorem bAQ {B jb tb sb mb:Nat}{j:Jr.MA}(w:World)(h:pB w B jb tb sb mb j):
  Calls Tryz.prog 19 #[.pointer (some ⟨jb,0,none⟩)] w (VE (Sh.all j.s) w):=by
 have c2:=h.WE
 have HA:=zA7 (YO w h.shelf)
 unfold VE at HA
 clear h
 go_enter Tryz.func19,Tryz.ntmps19
 go_wp2_with fail
 refine HA.out.mono ?_
 rintro e w1 ⟨v,rfl,hl,d⟩
 go_wp2
 go_ret
 exact⟨v,rfl,hl,d⟩
theorem bA1(tb sb:Nat):Tryz.prog.built 42 [(1,.pointer (some ⟨tb,0,none⟩)),(2,.pointer (some ⟨sb,0,none⟩))]=some (UI 0 tb sb):=by kernel_rfl
theorem RX {n₀ tb tm:Nat}{rs:List Ru.Rule}(B:Nat)(w:World)(h:TabAt w n₀ tb tm (Sx.new rs))(hB:B<=w.heap.size):
  Calls Tryz.prog 9 #[.pointer (some ⟨tb,0,none⟩)] w fun e w'=> ∃jb sb mb,e= .returned (.pointer (some ⟨jb,0,none⟩))/\pB w' B jb tb sb mb (Jr.fresh rs)/\Below w.heap.size w w':=by
 have HN:=zA7 (hAq w)
 have HB:=zA7 bA1
 have HT:=zA7 h
 have hlt:=h.map.lt
 clear h
 go_enter Tryz.func9,Tryz.ntmps9
 go_wp2_with fail
 refine HN.out.mono ?_
 rintro e w1 ⟨sb,mb,rfl,K1,hs,hm,d1⟩
 have R2:=Row.new w1 42 (UI 0 tb sb)
 have C2:=(Below.refl w1.heap.size w1).alloc (zB3 _) (.cells (UI 0 tb sb) 42)
 have HF:pB (w1.alloc (.cells (UI 0 tb sb) 42)) B w1.heap.size tb sb mb (Jr.fresh rs):=
  ⟨⟨⟨Nat.le_trans hB d1.size,Nat.le_trans hB hs,Nat.le_trans hB hm⟩,R2,⟨n₀,tm,(HT.out.stays d1).stays C2,by omega⟩,K1.stays C2⟩,Jr.dAf rs,Jr.hAl⟩
 have HF:=zA7 HF
 have D2:=d1.trans (C2.mono d1.size)
 clear K1 R2 C2 d1 HT HN
 go_wp2_with (refine CI rfl 42 _ rfl _ (by rfl) _ (HB.out tb sb) ?_)
 go_ret
 exact⟨_,_,_,rfl,HF.out,D2⟩
theorem NA.bAl {w:World}{sb mb:Nat}{s:Sh.Shelf}(h:NA w sb mb s){p:Addr}(h1:sb≠p.block)(h2:mb≠p.block)(u:Value):NA (w.setCell p u) sb mb s:=
 ⟨h.well,h.okay,h.few,h.apart,h.row.other h1 u,h.map.kept (row:=some p.block) ⟨rfl,rfl,rfl,by simp,fun k _ hk=>heap_setCell_other w p k u (fun e=>hk (by rw[e]))⟩ (by simpa using h2)⟩
theorem iAo {jb:Nat}{now n:Int}(w:World)(h:w.cell? ⟨jb,0,none⟩=some (.int .i64 now))(h0:0<=now)(h1:now<=1099511627776)(hb:n<0\/1099511627776-now<n):
  Calls Tryz.prog 33 #[.pointer (some ⟨jb,0,none⟩),.int .i64 n] w fun e w'=>e= .returned (.int .i64 122)/\w=w':=by
 have hw:IntKind.i64.wrap (1099511627776-now)=1099511627776-now:=by rw[IntKind.wrap_i64];omega
 by_cases k:n<0
 ·clear hb hw
  go_enter Tryz.func33,Tryz.ntmps33
  go_wp2
  go_ret
  exact⟨rfl,rfl⟩
 ·have k2:1099511627776-now<n:=by omega
  clear hb
  go_enter Tryz.func33,Tryz.ntmps33
  go_wp2
  go_ret
  exact⟨rfl,rfl⟩
theorem iAp {jb:Nat}{now n:Int}(w:World)(hf:w.frozen? ⟨jb,0,none⟩=false)(h:w.cell? ⟨jb,0,none⟩=some (.int .i64 now))(h0:0<=now)(h1:now<=1099511627776)(hb:0<=n)(hb2:n<=1099511627776-now):
  Calls Tryz.prog 33 #[.pointer (some ⟨jb,0,none⟩),.int .i64 n] w fun e w'=>e= .returned (.int .i64 0)/\w'=w.setCell ⟨jb,0,none⟩ (.int .i64 (now+n)):=by
 have hw:IntKind.i64.wrap (1099511627776-now)=1099511627776-now:=by rw[IntKind.wrap_i64];omega
 have hw2:IntKind.i64.wrap (now+n)=now+n:=by rw[IntKind.wrap_i64];omega
 have k1: ¬n<0:=by omega
 have k2: ¬1099511627776-now<n:=by omega
 clear hb hb2 h0 h1
 go_enter Tryz.func33,Tryz.ntmps33
 go_wp2
 go_ret
 exact⟨rfl,rfl⟩
theorem lAj {B jb tb sb mb:Nat}{j:Jr.MA}(n:Int)(w:World)(h:pB w B jb tb sb mb j):
  Calls Tryz.prog 14 #[.pointer (some ⟨jb,0,none⟩),.int .i64 n] w fun e w'=>e= .returned (.int .i64 (Jr.tick j n).2)/\pB w' B jb tb sb mb (Jr.tick j n).1/\AA jb sb mb w w':=by
 have c0:=h.cell0
 have hlo:=h.fine.lo
 have hhi:j.now<=1099511627776:=h.fine.hi
 have HF:=zA7 (Jr.dAi h.fine n)
 have HJ:=zA7 h
 clear h
 by_cases k:n<0\/1099511627776-j.now<n
 ·have e1:Jr.tick j n=(j,122):=by unfold Jr.tick Jr.top;rw[if_pos k]
  rw[e1]
  have HP:=zA7 (iAo w c0 hlo hhi k)
  clear k e1 HF hlo hhi
  go_enter Tryz.func14,Tryz.ntmps14
  go_wp2_with (go_at_call 33;refine HP.out.mono ?_;rintro e w' ⟨rfl,rfl⟩)
  go_ret
  exact⟨rfl,HJ.out,AA.refl _ _ _ _⟩
 ·have e1:Jr.tick j n=(⟨j.rules,(Sh.expire j.s (j.now+n)).1,j.now+n⟩,0):=by unfold Jr.tick Jr.top;rw[if_neg k]
  rw[e1]at HF⊢
  have ND:=iAp w (HJ.out.row.free 0) c0 hlo hhi (show 0<=n by omega) (by omega)
  have wO:=HJ.out.TH.expire (j.now+n)
  obtain⟨m,hm0⟩: ∃m,j.now+n=m:=⟨_,rfl⟩
  rw[hm0]at ND wO HF⊢
  have HP:=zA7 ND
  have lE:=zA7 wO
  clear k e1 hlo hhi ND wO hm0
  obtain⟨n₀,tm,hT,_,hm⟩:=HJ.out.NZ (AA.cell (jb:=jb) (sb:=sb) (mb:=mb) w 0 (.int .i64 m))
  obtain⟨a1,a2,_⟩:=HJ.out.apart
  have J1:ZA (w.setCell ⟨jb,0,none⟩ (.int .i64 m)) B jb tb sb mb ⟨j.rules,j.s,m⟩:=
   ⟨HJ.out.low,HJ.out.row.set 0 (.int .i64 m),⟨n₀,tm,hT,hm⟩,HJ.out.shelf.bAl (p:=⟨jb,0,none⟩) (Ne.symm a1) (Ne.symm a2) (.int .i64 m)⟩
  have T1:=AA.cell (jb:=jb) (sb:=sb) (mb:=mb) w 0 (.int .i64 m)
  clear hT hm c0 a1 a2
  go_enter Tryz.func14,Tryz.ntmps14
  go_wp2_with (go_at_call 33;refine HP.out.mono ?_;rintro e w' ⟨rfl,hw'⟩;rw[<-hw']at J1 T1;clear hw')
  clear HP HJ
  refine dE (C:=(fun W=>Below w'.heap.size w' W)) 8 (by kernel_rfl) (by kernel_rfl) (Below.refl _ _).drew ?_
  refine kA ?_
  refine kA ?_
  refine kA ?_
  refine kA ?_ (v:= .pointer (some ⟨sb,0,none⟩)) (hv:=fun wq hC=>by have hcell:=(show wq.cell? ⟨jb,2,none⟩=some (.pointer (some ⟨sb,0,none⟩)) by rw[(J1.stays hC).row.cell];rfl);go_simp;try with_reducible rfl)
  refine kA ?_
  refine kA ?_
  refine kA ?_
  refine rC (.int .i64 m) (fun wq hC=>by unfold Oper.quietAt;go_simp;exact(fJ (now:=m) wq (by rw[(J1.stays hC).row.cell];rfl)).mono (fun e w2 ⟨h1,h2⟩=>⟨h1,by rw[<-h2];exact hC⟩)) ?_
  refine wpQuiet_nil ?_
  intro w2 hC2
  have J2:=J1.stays hC2
  have T2:=T1.trans (AA.of hC2 (zB3 _))
  have HE:=zA7 (fV m w2 J2.shelf)
  have HJ2:=zA7 J2
  clear J1 T1 hC2 J2
  go_wp2_with (go_at_call 34;refine HE.out.mono ?_;rintro e w3 ⟨rfl,K3,t3⟩)
  go_ret
  exact⟨rfl,⟨HJ2.out.turned t3 K3,HF.out,lE.out⟩,T2.trans (AA.shelf t3)⟩
end Go.Proofs.YtdaaoopkkhfbhaaGreatDoor
namespace Go.Proofs.YtdaaoopkkhfbhaaGreatDoor
namespace Ma
theorem kAP(l:List UInt8)(c:UInt8):Lib.hasSuffix l [c]=decide (l.getLast?=some c):=by
 rw[Bool.eq_iff_iff,decide_eq_true_eq]
 unfold Lib.hasSuffix
 rw[List.isSuffixOf_iff_suffix,List.getLast?_eq_some_iff]
 constructor
 ·rintro⟨t,h⟩;exact⟨t,h.symm⟩
 ·rintro⟨t,h⟩;exact⟨t,h.symm⟩
theorem GY(l:List UInt8)(c:UInt8):Lib.hasPrefix l [c]=decide (l.head?=some c):=by
 cases l with
 |nil=>rfl
 |cons d r=>
  show((c==d)&&true)=decide (some d=some c)
  rw[Bool.and_true,Bool.eq_iff_iff,beq_iff_eq,decide_eq_true_eq,Option.some.injEq]
  exact⟨fun h=>h.symm,fun h=>h.symm⟩
theorem iAK {p f:List UInt8}(h:Lib.hasPrefix p f=true):p=f++p.drop f.length:=by
 unfold Lib.hasPrefix at h
 rw[List.isPrefixOf_iff_prefix]at h
 obtain⟨t,rfl⟩:=h
 rw[List.drop_left]
theorem iAt {p f:List UInt8}(h:Lib.hasPrefix p f=true):path p f=(decide (Lib.trimPrefix p f= [])||(decide (f.getLast?=some 47)||decide ((Lib.trimPrefix p f).head?=some 47))):=by
 have e:=iAK h
 have et:Lib.trimPrefix p f=p.drop f.length:=by unfold Lib.trimPrefix;rw[if_pos h]
 rw[et]
 generalize p.drop f.length=t at*
 subst e
 rw[Bool.eq_iff_iff,yY]
 simp only[Bool.or_eq_true,decide_eq_true_eq]
 cases t with
 |nil=>simp
 |cons c r=>
  constructor
  ·rintro(k|⟨d,q,k,hh⟩)
   ·exact absurd (congrArg List.length k) (by simp)
   ·have k2:=List.append_cancel_left k
    have hc:c=d:=(List.cons.inj k2).1
    rcases hh with rfl|hh
    ·exact .inr (.inr (by rw[hc];rfl))
    ·exact .inr (.inl hh)
  ·rintro(k|k|k)
   ·cases k
   ·exact .inr ⟨c,r,rfl,.inr k⟩
   ·exact .inr ⟨c,r,rfl,.inl (zB2 k)⟩
theorem iAw {p f:List UInt8}(h:Lib.hasPrefix p f=false):path p f=false:=by
 cases k:path p f with
 |false=>rfl
 |true=>
  have:Lib.hasPrefix p f=true:=by
   unfold Lib.hasPrefix
   rw[List.isPrefixOf_iff_prefix]
   rcases(yY p f).1 k with rfl|⟨c,r,rfl,_⟩
   ·exact List.prefix_refl _
   ·exact List.prefix_append ..
  rw[h]at this;cases this
theorem tP {p:List UInt8}(h:(47:UInt8)∉p):MB p= []:=by
 unfold MB
 have:p.reverse.dropWhile (fun c=>decide (c≠47))= []:=by
  have hp: ∀c∈p.reverse,decide (c≠47)=true:=by
   intro c hc
   have:c≠47:=fun e=>h (by rw[<-e];exact List.mem_reverse.1 hc)
   simp[this]
  have:=List.dropWhile_append_of_pos (l₂:= []) hp
  rw[List.append_nil]at this
  rw[this];rfl
 rw[this];rfl
theorem oU(p:List UInt8):p.take (MB p).length=MB p:=by
 by_cases h:(47:UInt8)∈p
 ·obtain⟨r,e,_⟩:=nU h
  conv=>lhs;rw[e]
  rw[mU (by assumption),List.take_left]
 ·rw[tP h];rfl
theorem bAT(p:List UInt8):(MB p).length<=p.length:=by
 rw[<-oU p,List.length_take];exact Nat.min_le_right _ _
theorem lU {p:List UInt8} :MB p≠ []↔0<(MB p).length:=by
 rw[List.length_pos_iff]
theorem cAr {p:List UInt8}(h1:p.head?=some 47)(h2:0<(MB p).length):default p=p.take (MB p).length:=by
 unfold default
 rw[if_pos ⟨h1,lU.2 h2⟩,oU]
theorem BU {p:List UInt8}(h:p.head?≠some 47\/(MB p).length=0):default p= [47]:=by
 unfold default
 rw[if_neg]
 rintro⟨h1,h2⟩
 have:=lU.1 h2
 rcases h with h|h
 ·exact h h1
 ·omega
theorem dX(s:ByteArray):Lib.lastIndexByte s 47=if(47:UInt8)∈s.data.toList then((MB s.data.toList).length:Int)else-1:=by
 have hb: ∀j,j<s.size-> ∃h:j<s.data.toList.length,s.data[j]! =s.data.toList[j]:=by
  intro j hj
  have hj':j<s.data.size:=hj
  refine⟨by rw[Array.length_toList];exact hj',?_⟩
  rw[getElem!_pos s.data j hj',Array.getElem_toList]
 rcases Lib.lastIndexByte_spec s 47 with⟨e,hn⟩|⟨i,hi,e,hc,hn⟩
 ·rw[e,if_neg]
  intro hm
  obtain⟨j,hj,hx⟩:=List.getElem_of_mem hm
  have hj2:j<s.size:=by rw[Array.length_toList]at hj;exact hj
  obtain⟨_,h2⟩:=hb j hj2
  exact hn j hj2 (by rw[h2,hx];rfl)
 ·obtain⟨hl,h2⟩:=hb i hi
  rw[h2]at hc
  have hx:s.data.toList[i]=47:=by
   apply UInt8.toNat_inj.1
   have:(s.data.toList[i]).toNat=47:=by omega
   rw[this];rfl
  have hs:s.data.toList=s.data.toList.take i++47::s.data.toList.drop (i+1):=by
   rw[<-hx,<-List.drop_eq_getElem_cons hl,List.take_append_drop]
  have hr: ∀c∈s.data.toList.drop (i+1),c≠47:=by
   intro c hc2 hc3
   obtain⟨j,hj,hy⟩:=List.getElem_of_mem hc2
   rw[List.getElem_drop]at hy
   have hj2:i+1+j<s.size:=by
    rw[List.length_drop,Array.length_toList]at hj
    have:s.size=s.data.size:=rfl
    omega
   obtain⟨_,h3⟩:=hb (i+1+j) hj2
   exact hn (i+1+j) (by omega) hj2 (by rw[h3,hy,hc3];rfl)
  have hcut:MB s.data.toList=s.data.toList.take i:=by
   conv=>lhs;rw[hs]
   exact mU hr
  rw[e,if_pos (by rw[<-hx];exact List.getElem_mem hl),hcut,List.length_take]
  omega
theorem gA5 {s:ByteArray} :Lib.lastIndexByte s 47<1↔ (MB s.data.toList).length=0:=by
 rw[dX]
 split
 ·omega
 ·rename_i h
  rw[tP h]
  simp
theorem gA4 {s:ByteArray}(h:0<(MB s.data.toList).length):Lib.lastIndexByte s 47=((MB s.data.toList).length:Int):=by
 rw[dX]
 split
 ·rfl
 ·rename_i k
  rw[tP k]at h
  cases h
theorem ZW {h:bA.Host}(hl:bA.labels h≠ []):bA.can h=true:=by
 unfold bA.labels at hl
 split at hl
 ·rename_i k
  rw[bA.bAf k.1];exact k.2
 ·exact absurd rfl hl
theorem lAO {h d:bA.Host}(k:bA.under h d=true):bA.can h=true/\bA.can d=true:=by
 rw[bA.lAQ]at k
 unfold bA.eR at k
 simp only[Bool.and_eq_true,decide_eq_true_eq]at k
 exact⟨ZW k.1.1,ZW k.1.2⟩
theorem cAx(h d:bA.Host):domain h d=((decide (h=d)&&bA.can h)||bA.under h d):=by
 unfold domain
 rw[Bool.eq_iff_iff]
 simp only[Bool.and_eq_true,Bool.or_eq_true,decide_eq_true_eq]
 constructor
 ·rintro⟨⟨h1,_⟩,h3|h3⟩
  ·exact .inl ⟨h3,h1⟩
  ·exact .inr h3
 ·rintro(⟨rfl,h1⟩|h1)
  ·exact⟨⟨h1,h1⟩,.inl rfl⟩
  ·exact⟨lAO h1,.inr h1⟩
def NI(c:iA)(h:bA.Host):Bool:=if c.only=true then decide (h=c.host)&&bA.can h else domain h c.host
theorem kAg(c:iA)(r:Request)(now:Int):sends c r now=(NI c r.host&& (path r.path c.path&& ((r.secure|| !c.secure)&& (sH c.same r.cross&&decide (now<c.expires))))):=by
 rw[Bool.eq_iff_iff,sends_iff]
 unfold NI
 simp only[Bool.and_eq_true,Bool.or_eq_true,decide_eq_true_eq,Bool.not_eq_true']
 constructor
 ·rintro⟨h1,h2,h3,h4,h5,h6⟩
  refine⟨?_,h3,?_,h6,h5⟩
  ·cases ho:c.only with
   |true=>rw[if_pos rfl];simp only[Bool.and_eq_true,decide_eq_true_eq];exact⟨(h1 ho).symm,LU h2⟩
   |false=>rw[if_neg (by decide)];exact h2
  ·cases hs:c.secure with
   |true=>exact .inl (h4 hs)
   |false=>exact .inr rfl
 ·rintro⟨h1,h2,h3,h4,h5⟩
  refine⟨?_,?_,h2,?_,h5,h4⟩
  ·intro ho
   rw[if_pos ho]at h1
   simp only[Bool.and_eq_true,decide_eq_true_eq]at h1
   exact h1.1.symm
  ·split at h1
   ·simp only[Bool.and_eq_true,decide_eq_true_eq]at h1
    rw[h1.1,MU,<-h1.1];exact h1.2
   ·exact h1
  ·intro hs
   rcases h3 with k|k
   ·exact k
   ·rw[hs]at k;cases k
end Ma
end Go.Proofs.YtdaaoopkkhfbhaaGreatDoor
namespace Go.Proofs.YtdaaoopkkhfbhaaGreatDoor
open Go.RowKit
theorem bA.lAP (h d:bA.Host):bA.under h d=((bA.XB h ((bA.labels d).length:Int)).isSome&& (decide (bA.host (bA.XB h ((bA.labels d).length:Int))=d)&& !decide (bA.host (bA.XB h ((bA.labels d).length:Int))=h))):=by
 unfold bA.under
 cases bA.XB h ((bA.labels d).length:Int)<;>rfl
theorem lAN(h d:bA.Host)(ha:h.addr.length=16)(hda:d.addr.length=16)(hs:h.name.length<=1048576)(hds:d.name.length<=1048576)(w:World)(hw:Std w):
  Calls Tryz.prog 104 #[.agg (cA h),.agg (cA d)] w fun e w'=>e= .returned (.bool (bA.under h d))/\Below w.heap.size w w':=by
 have z0:=WD
 have HZ0:=zA7 (show(cA bA.zero).size=18 from rfl)
 have HH:=zA7 (XA h ha)
 have HD:=zA7 (XA d hda)
 have H1:=zA7 (fun W hW=>ZI d hda hds W hW)
 have hU:=bA.lAP h d
 have jF:=bA.QZ h ((bA.labels d).length:Int)
 have H2: ∀W,Std W->Calls Tryz.prog 159 #[.agg (cA h),.int .i64 ((bA.labels d).length:Int)] W (CF (bA.XB h ((bA.labels d).length:Int)) W):=
  fun W hW=>OZ h ha hs _ W hW
 have H2:=zA7 H2
 unfold CF at H2
 unfold OD at H1
 generalize bA.labels d=ps at*
 generalize hL:ps.length=L at*
 generalize bA.XB h (L:Int)=o at*
 generalize bA.host o=T at*
 have HT:=zA7 (XA T jF)
 have HT1:=zA7 (bB T)
 have q1:=lM T d jF hda
 have q2:=QX T h jF ha
 generalize o.isSome=ok at*
 generalize bA.under h d=b at*
 generalize decide (T=d)=b1 at*
 generalize decide (T=h)=b2 at*
 generalize cA h=H at*
 generalize cA d=D at*
 generalize cA T=TT at*
 clear ha hda jF hds hs
 have R0:=Row.new w 32 H
 have B0:=(Below.refl w.heap.size w).alloc (zB3 _) (.cells H 32)
 have hN:(w.alloc (.cells H 32)).heap.size=w.heap.size+1:=by simp
 have S0:=(Row.new (w.alloc (.cells H 32)) 32 D)
 rw[hN]at S0
 go_enter Tryz.func104,Tryz.ntmps104
 go_wp2_with (refine jA 8 rfl ?_;refine pA rfl 32 _ rfl (w.heap.size+1) rfl S0 Tryz.underlying32 rfl (by rw[HD.out];exact mA) ?_)
 generalize w.alloc (.cells H 32)=w0 at*
 have C0:=B0.alloc B0.size (.cells D 32)
 have R1:=R0.alloc (.cells D 32)
 generalize w0.alloc (.cells D 32)=x0 at*
 clear R0 B0 hN
 refine(H1.out _ (hw.below C0)).mono ?_
 rintro e v1 ⟨v,rfl,hown,d1⟩
 have S1:=S0.stays d1
 have R2:=R1.stays d1
 have C1:=C0.trans (d1.mono C0.size)
 have hv: ∃A c,v= .slice A L c:=by
  rcases hown.2 with⟨rfl,h0⟩|⟨g,cap,cur,rfl,_⟩
  ·exact⟨none,0,by rw[h0]⟩
  ·exact⟨_,_,rfl⟩
 obtain⟨A,c,rfl⟩:=hv
 clear hown d1 S0 R1 C0
 go_wp2_with (refine jA 12 rfl ?_;refine pA rfl 32 _ rfl w.heap.size rfl R2 Tryz.underlying32 rfl (by rw[HH.out];exact mA) ?_)
 refine(H2.out _ (hw.below C1)).mono ?_
 rintro e v2 ⟨rfl,d2⟩
 have S2:=S1.stays d2
 have R3:=R2.stays d2
 have C2:=C1.trans (d2.mono C1.size)
 obtain⟨T0,U,C,L⟩:=PA 32 (cA bA.zero) TT C2 C2.size
 have S3:=L _ _ _ S2
 have R4:=L _ _ _ R3
 clear L S1 R2 C1 S2 R3 C2 d2
 cases ok
 ·go_wp2_with (first
   |(refine wpList_store_row rfl 32 _ _ rfl v2.heap.size TT rfl rfl 32 _ T0 (by rw[HT.out];exact mA) (by rw[HT.out];rfl) HT1.out ?_))
  go_ret
  exact⟨tA (by rw[hU];rfl),C⟩
 ·cases b1
  all_goals
   go_wp2_with (first
    |(refine wpList_store_row rfl 32 _ _ rfl v2.heap.size TT rfl rfl 32 _ T0 (by rw[HT.out];exact mA) (by rw[HT.out];rfl) HT1.out ?_)
    |(refine jA 19 rfl ?_;refine pA rfl 32 _ rfl v2.heap.size rfl U Tryz.underlying32 rfl (by rw[HT.out];exact mA) ?_)
    |(refine jA 20 rfl ?_;refine pA rfl 32 _ rfl (w.heap.size+1) rfl S3 Tryz.underlying32 rfl (by rw[HD.out];exact mA) ?_)
    |(refine jA 24 rfl ?_;refine pA rfl 32 _ rfl v2.heap.size rfl U Tryz.underlying32 rfl (by rw[HT.out];exact mA) ?_)
    |(refine jA 25 rfl ?_;refine pA rfl 32 _ rfl w.heap.size rfl R4 Tryz.underlying32 rfl (by rw[HH.out];exact mA) ?_))
   go_ret
   exact⟨tA (by rw[hU];rfl),C⟩
end Go.Proofs.YtdaaoopkkhfbhaaGreatDoor
