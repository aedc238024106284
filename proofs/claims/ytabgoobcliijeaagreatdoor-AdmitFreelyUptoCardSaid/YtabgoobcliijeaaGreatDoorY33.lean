/- The walk of the reference's Line of rules. -/
import Derived.Test.YtabgoobcliijeaaGreatDoorY23
import Derived.Deep.DeepCutAuto
import Derived.Deep.CutBlock
import Derived.Deep.DeepMust
set_option maxHeartbeats 16000000
set_option maxRecDepth 100000
namespace Go.Proofs.YtabgoobcliijeaaGreatDoor
open Go.RowKit
namespace Ru
theorem pV {k:Int}{n:List UInt8}(h:dA.parse n=none):named k n=none:=by unfold named;rw[h]
theorem rV {k:Int}{n:List UInt8}{x:dA.Host}(h:dA.parse n=some x)(hk:x.kind≠1):named k n=none:=by
 unfold named
 rw[h]
 dsimp only
 rw[if_neg (fun e=>hk e.1)]
theorem lA6 {k:Int}{n:List UInt8}{x:dA.Host}(h:dA.parse n=some x)(h3:k=3)(hl:(dA.labels x).length<2):named k n=none:=by
 unfold named
 rw[h]
 dsimp only
 rw[if_neg (fun e=>by have:=e.2 h3;omega)]
theorem qV {k:Int}{n:List UInt8}{x:dA.Host}(h:dA.parse n=some x)(hk:x.kind=1)(hl:k=3->2<=(dA.labels x).length):named k n=some ⟨k,x.name⟩:=by
 unfold named
 rw[h]
 dsimp only
 rw[if_pos ⟨hk,hl⟩]
theorem hAB {l:List UInt8}{k:Nat}(hk:k<l.length)(h: ∀c∈l.take k,([32,9]:List UInt8).contains c=false)(hc:([32,9]:List UInt8).contains l[k]=true):first l=l.take k:=by
 have e:=Ur.nH (s:=l.take k) (m:=l.drop k) (some:= [32,9]) h (.inr ⟨l[k],l.drop (k+1),List.drop_eq_getElem_cons hk,hc⟩)
 rw[List.take_append_drop]at e
 unfold first
 rw[e,List.length_take,Nat.min_eq_left (Nat.le_of_lt hk)]
theorem hAz {l:List UInt8}{k:Nat}(hk:l.length<=k)(h: ∀c∈l.take k,([32,9]:List UInt8).contains c=false):first l=l:=by
 have e:=Ur.nH (s:=l.take k) (m:=l.drop k) (some:= [32,9]) h (.inl (List.drop_eq_nil_of_le hk))
 rw[List.take_append_drop]at e
 unfold first
 rw[e,List.take_of_length_le (by rw[List.length_take];omega)]
theorem dAu {t p:List UInt8}(h:Lib.hasPrefix t p=true):Lib.trimPrefix t p=t.drop p.length:=by
 unfold Lib.trimPrefix
 rw[if_pos h]
theorem kA3 {f:List UInt8}(h:Lib.hasPrefix f [33]=true):kind f=3/\rest f=f.drop 1/\1<=f.length:=by
 unfold kind rest
 rw[if_pos h,if_pos h,dAu h]
 have:=GR h
 exact⟨rfl,rfl,by simp at this;omega⟩
theorem kA4 {f:List UInt8}(h:Lib.hasPrefix f [33]=false)(h2:Lib.hasPrefix f [42,46]=true):kind f=2/\rest f=f.drop 2/\2<=f.length:=by
 unfold kind rest
 rw[if_neg (by rw[h];simp),if_pos h2,if_neg (by rw[h];simp),if_pos h2,dAu h2]
 have:=GR h2
 exact⟨rfl,rfl,by simp at this;omega⟩
theorem kA2 {f:List UInt8}(h:Lib.hasPrefix f [33]=false)(h2:Lib.hasPrefix f [42,46]=false):kind f=1/\rest f=f:=by
 unfold kind rest
 rw[if_neg (by rw[h];simp),if_neg (by rw[h2];simp),if_neg (by rw[h];simp),if_neg (by rw[h2];simp)]
 exact⟨rfl,rfl⟩
def mF(t f:ByteArray)(x:ByteArray)(k:Nat):Prop:=(x=t/\k<=t.size/\ ∀c∈t.data.toList.take k,([32,9]:List UInt8).contains c=false)\/(x=f/\k=f.size+1)
theorem mF.start (t f:ByteArray):mF t f t 0:= .inl ⟨rfl,Nat.zero_le _,by simp⟩
theorem mF.stop {t f x:ByteArray}{k:Nat}(h:mF t f x k)(hf:f.data.toList=first t.data.toList)(hk:x.size<=k):x.data.toList=first t.data.toList:=by
 rcases h with⟨rfl,_,h3⟩|⟨rfl,_⟩
 ·rw[hAz (by rw[Oct.nA];exact hk) h3]
 ·exact hf
theorem mF.go {t f x:ByteArray}{k:Nat}(h:mF t f x k)(hk:k<x.size):x=t/\ ∀c∈t.data.toList.take k,([32,9]:List UInt8).contains c=false:=by
 rcases h with⟨rfl,_,h3⟩|⟨rfl,e⟩
 ·exact⟨rfl,h3⟩
 ·omega
theorem mF.on {t f:ByteArray}{k:Nat}(h: ∀c∈t.data.toList.take k,([32,9]:List UInt8).contains c=false)(hk:k<t.size)(hc:([32,9]:List UInt8).contains t[k]=false):mF t f t (k+1):=by
 refine .inl ⟨rfl,hk,fun c hm=>?_⟩
 rw[Oct.fG t k hk]at hm
 rcases List.mem_append.1 hm with hm|hm
 ·exact h c hm
 ·rw[List.mem_singleton]at hm;rw[hm];exact hc
theorem mF.cut {t f:ByteArray}{k:Nat}(hf:f.data.toList=first t.data.toList)(h: ∀c∈t.data.toList.take k,([32,9]:List UInt8).contains c=false)(hk:k<t.size)(hc:([32,9]:List UInt8).contains t[k]=true):mF t f (t.extract 0 k) (k+1):=by
 have e:=hAB (l:=t.data.toList) (k:=k) (by rw[Oct.nA];exact hk) h hc
 have e2:t.extract 0 k=f:=by
  rw[EF,<-e,<-hf,gE]
 refine .inr ⟨e2,?_⟩
 have e3:f.size=k:=by rw[<-Oct.nA f,hf,e,List.length_take,Oct.nA];omega
 rw[e3]
theorem gAa {c:UInt8}(h:([32,9]:List UInt8).contains c=true):((c.toNat:Int)==32)=true\/(((c.toNat:Int)==32)=false/\((c.toNat:Int)==9)=true):=by
 rw[QY]at h
 unfold Oct.EA at h
 rw[decide_eq_true_eq]at h
 rcases h with h|h
 ·exact .inl (by simp;omega)
 ·exact .inr ⟨by simp;omega,by simp;omega⟩
theorem gAb {c:UInt8}(h:([32,9]:List UInt8).contains c=false):((c.toNat:Int)==32)=false/\((c.toNat:Int)==9)=false:=by
 rw[QY]at h
 unfold Oct.EA at h
 rw[decide_eq_false_iff_not]at h
 exact⟨by simp;omega,by simp;omega⟩
end Ru
theorem qK {w:World}{g:Nat}{t:TypeId}{a b:Value}(h:Row w g t #[a,b])(c:Value):Row (w.setCell ⟨g,0,none⟩ c) g t #[c,b]:=h.set 0 c
theorem iW {w:World}{g:Nat}{t:TypeId}{a b:Value}(h:Row w g t #[a,b])(c:Value):Row (w.setCell ⟨g,1,none⟩ c) g t #[a,c]:=h.set 1 c
theorem aR(a b:Value)(ha:a.oneCell'=true)(hb:b.oneCell'=true):(#[a,b]:Array Value).all (·.oneCell')=true:=by simp[ha,hb]
theorem mAF(s:ByteArray)(w:World)(hs:s.size<=100000):
  Calls Tryz.prog 104 #[.string s] w (KI (Ru.line s.data.toList) w):=by
 have z0:=CK
 have z1:=BD
 have H1:=zA7 (fun W=>oR s W (by unfold maxLen;omega))
 have htl:=Ru.dAv s.data.toList
 rw[Oct.nA]at htl
 obtain⟨t,ht⟩: ∃t:ByteArray,t=⟨(Oct.trim s.data.toList).toArray⟩:=⟨_,rfl⟩
 have htd:Oct.trim s.data.toList=t.data.toList:=by rw[ht]
 have hts:t.size<=s.size:=by rw[<-Oct.nA t,<-htd];exact htl
 rw[<-ht]at H1
 have AA:Hid (∀o w',Ru.line s.data.toList=o->Below w.heap.size w w'->KI (Ru.line s.data.toList) w (.returned (.tuple #[.agg (rA o.2.2),.bool o.2.1,.int .i64 o.1])) w'):=zA7 (fun o w' h hb=>by subst h;exact⟨rfl,hb⟩)
 have HL:Hid (Ru.line s.data.toList=if Ru.mute t.data.toList=true then(0,false,Ru.zero)else Ru.said (Ru.rule t.data.toList)):=zA7 (by unfold Ru.line;rw[htd])
 generalize KI (Ru.line s.data.toList) w=post at*
 generalize Ru.line s.data.toList=res at*
 clear ht htd htl
 have H2:=zA7 (fun W=>lT t ⟨#[47,47]⟩ W)
 have e1:(⟨#[47,47]⟩:ByteArray).data.toList= [47,47]:=rfl
 rw[e1]at H2
 clear e1
 have R0:=Row.new w 26 (rA Ru.zero)
 have B0:=(Below.refl w.heap.size w).alloc (zB3 _) (.cells (rA Ru.zero) 26)
 by_cases he:t.data.toList= []
 ·have HR:Hid (res=(0,false,Ru.zero)):=zA7 (by rw[HL.out,if_pos (by unfold Ru.mute;rw[zA9 he];rfl)])
  have he2:t.toList.isEmpty=true:=by rw[Oct.SA,he];rfl
  clear he HL H2
  go_enter Tryz.func104,Tryz.ntmps104
  go_wp2_with fail
  generalize w.alloc (.cells (rA Ru.zero) 26)=w0 at*
  refine(H1.out _).mono ?_
  rintro e v1 ⟨rfl,rfl⟩
  go_wp2_with (first
   |(refine DB rfl ?_;refine wpList_store_row rfl 26 _ _ rfl w.heap.size (rA Ru.zero) rfl rfl 26 _ R0 KA rfl (vC _) ?_))
  exact bodyPost_ret (v:= .tuple #[.agg (rA Ru.zero),.bool false,.int .i64 0]) (ZB rfl _ _ w.heap.size _ _ _ rfl _ _ rfl rfl (R0.whole _) Tryz.underlying26 rfl KA) rfl (AA.out _ _ HR.out (below_setRow B0 (zB3 _) _))
 have he2:t.toList.isEmpty=false:=by
  rw[Oct.SA]
  cases e:t.data.toList with
  |nil=>exact absurd e he
  |cons c r=>rfl
 have HM:Hid (Ru.mute t.data.toList=Lib.hasPrefix t.data.toList [47,47]):=zA7 (by unfold Ru.mute;rw[zA8 he];rfl)
 clear he
 cases hpre:Lib.hasPrefix t.data.toList [47,47]with
 |true=>
  rw[hpre]at H2
  have HR:Hid (res=(0,false,Ru.zero)):=zA7 (by rw[HL.out,HM.out,hpre,if_pos rfl])
  clear hpre HL HM
  go_enter Tryz.func104,Tryz.ntmps104
  go_wp2_with fail
  generalize w.alloc (.cells (rA Ru.zero) 26)=w0 at*
  refine(H1.out _).mono ?_
  rintro e v1 ⟨rfl,rfl⟩
  go_wp2_with (first
   |(go_at_call 140;refine(H2.out _).mono ?_;rintro e w' ⟨rfl,rfl⟩)
   |(refine DB rfl ?_;refine wpList_store_row rfl 26 _ _ rfl w.heap.size (rA Ru.zero) rfl rfl 26 _ R0 KA rfl (vC _) ?_))
  exact bodyPost_ret (v:= .tuple #[.agg (rA Ru.zero),.bool false,.int .i64 0]) (ZB rfl _ _ w.heap.size _ _ _ rfl _ _ rfl rfl (R0.whole _) Tryz.underlying26 rfl KA) rfl (AA.out _ _ HR.out (below_setRow B0 (zB3 _) _))
 |false=>
  rw[hpre]at H2
  have HQ:Hid (res=Ru.said (Ru.named (Ru.kind (Ru.first t.data.toList)) (Ru.rest (Ru.first t.data.toList)))):=zA7 (by rw[HL.out,HM.out,hpre,if_neg (by simp)];rfl)
  clear hpre HL HM
  obtain⟨f,hf⟩: ∃f:ByteArray,f=⟨(Ru.first t.data.toList).toArray⟩:=⟨_,rfl⟩
  have rL:f.data.toList=Ru.first t.data.toList:=by rw[hf]
  have hfl:=Ru.J4 t.data.toList
  rw[Oct.nA]at hfl
  have HF:=zA7 rL
  have IX:=zA7 (Ru.mF.start t f)
  clear hf rL
  have HQ:=HQ
  rw[<-HF.out]at HQ
  have JE:=zA7 (fun W=>lT f ⟨#[33]⟩ W)
  have UG:=zA7 (fun W=>lT f ⟨#[42,46]⟩ W)
  have e1:(⟨#[33]⟩:ByteArray).data.toList= [33]:=rfl
  have e2:(⟨#[42,46]⟩:ByteArray).data.toList= [42,46]:=rfl
  rw[e1]at JE
  rw[e2]at UG
  clear e1 e2
  have hfs:f.size<=t.size:=by rw[<-Oct.nA f,HF.out];exact hfl
  go_enter Tryz.func104,Tryz.ntmps104
  go_upto_block 0 with(first
   |(go_at_call 51;refine(H1.out _).mono ?_;rintro e v1 ⟨rfl,rfl⟩)
   |(go_at_call 140;refine(H2.out _).mono ?_;rintro e w' ⟨rfl,rfl⟩))
  generalize w.alloc (.cells (rA Ru.zero) 26)=w0 at*
  go_cut [0] (fun s0 wx=>s0= .string f/\w0=wx)
  case first=>
   go_wp2_with fail
   go_loop [0,5] (fun x i=> ∃(y:ByteArray)(k:Nat),x= .string y/\i= .int .i64 k/\y.size<=t.size/\k<=t.size+1/\Ru.mF t f y k) (fun _ i=>t.size+1- (intOf i).toNat)
   case atStart=>exact⟨t,0,rfl,rfl,zB3 _,Nat.zero_le _,IX.out⟩
   case round=>
    obtain⟨y,k,rfl,rfl,hy,hk,hsk⟩:=hrel
    by_cases hlt:k<y.size
    ·obtain⟨rfl,hno⟩:=hsk.go hlt
     have tB:=zA7 hno
     clear hno hsk
     cases hc:([32,9]:List UInt8).contains y[k]with
     |false=>
      obtain⟨c1,c2⟩:=Ru.gAb hc
      have HS:=zA7 (Ru.mF.on (f:=f) tB.out hlt hc)
      clear hc
      go_wp2
      go_round
      case rel=>exact⟨y,k+1,rfl,by go_num,hy,by omega,HS.out⟩
      case measure=>simp[intOf];omega
     |true=>
      have HS:=zA7 (Ru.mF.cut HF.out tB.out hlt hc)
      have hor:=Ru.gAa hc
      clear hc
      have hxs:(y.extract 0 k).size<=y.size:=by rw[ByteArray.size_extract];omega
      rcases hor with c1|⟨c1,c2⟩
      all_goals
       go_wp2
       go_round
       case rel=>exact⟨y.extract 0 k,k+1,rfl,by go_num,hxs,by omega,HS.out⟩
       case measure=>simp[intOf];omega
    ·have hyd:=hsk.stop HF.out (by omega)
     have hye:Hid (y=f):=zA7 (by rw[<-gE y,hyd,<-HF.out,gE])
     clear hsk hyd
     go_wp2
     go_meet
     exact⟨by rw[hye.out],rfl⟩
  case rest=>
  obtain⟨rfl,rfl⟩:=hcut
  obtain⟨y,hyf⟩: ∃y,y=f:=⟨_,rfl⟩
  subst hyf
  clear HF IX hfl H1 H2
  obtain⟨T6,U6,C6,L6⟩:=JA 26 (rA Ru.zero) #[.int .i64 1,.string ⟨#[]⟩] B0 B0.size
  have R1:=L6 _ _ _ R0
  have xF:Hid (Tryz.prog.built 26 [(0,.int .i64 1)]=some #[.int .i64 1,.string ⟨#[]⟩]):=zA7 (by kernel_rfl)
  have YG:=zA7 (aR (.int .i64 1) (.string ⟨#[]⟩) rfl rfl)
  have hne:w.heap.size<w0.heap.size:=R0.lt
  have q0:=U6.cell 0
  have f0:=U6.free 0
  change _=some (Value.int .i64 1)at q0
  clear L6
  cases mL:Lib.hasPrefix y.data.toList [33]with
  |true=>
   obtain⟨k1,k2,k3⟩:=Ru.kA3 mL
   rw[mL]at JE
   rw[k1,k2]at HQ
   rw[Oct.nA]at k3
   have hsl:(1:Int)<=(y.size:Int):=by omega
   obtain⟨n,hn⟩: ∃n:ByteArray,n=y.extract 1 y.size:=⟨_,rfl⟩
   have hnd:y.data.toList.drop 1=n.data.toList:=by rw[hn,extract_drop]
   have hns:n.size<=y.size:=by rw[hn,ByteArray.size_extract];omega
   rw[hnd]at HQ
   have hex:y.extract 1 y.size=n:=hn.symm
   clear k1 k2 k3 hnd hn
   have H5:=zA7 (fun W=>(oK n W (by omega)).mono fun e w' h=>LG h)
   have hx:=dA.GF n.data.toList
   cases hp:dA.parse n.data.toList with
   |none=>
    rw[hp]at H5
    have HR:Hid (res=(51,false,Ru.zero)):=zA7 (by rw[HQ.out,Ru.pV hp];rfl)
    have e2:dA.host none=dA.zero:=rfl
    have e3:dA.code none=31:=rfl
    obtain⟨ec,vG⟩: ∃ec:Int,ec=31:=⟨_,rfl⟩
    rw[e2,e3,<-vG]at H5
    have BM:=zA7 vG
    clear vG
    clear hp HQ hx e2 e3
    have HX:=zA7 (show(fA dA.zero).size=18 from rfl)
    have KB:=zA7 (aB dA.zero)
    generalize fA dA.zero=Z at*
    go_wp2_with (first
     |(refine iA 37 rfl ?_;refine gH rfl 26 0 _ rfl _ rfl #[.int .i64 1,.string ⟨#[]⟩] xF.out ?_)
     |(refine DB rfl ?_;refine wpList_store_row rfl 26 _ _ rfl w0.heap.size #[.int .i64 1,.string ⟨#[]⟩] rfl rfl 26 _ T6 KA rfl YG.out ?_))
    generalize(w0.alloc (.cells (rA Ru.zero) 26)).setRow w0.heap.size #[.int .i64 1,.string ⟨#[]⟩]=w2 at*
    generalize w0.heap.size=g6 at*
    refine(JE.out _).mono ?_
    rintro e v2 ⟨rfl,rfl⟩
    go_wp2_with fail
    have U7:=qK U6 (.int .i64 3)
    have R2:=R1.other (p:=⟨g6,0,none⟩) (by show w.heap.size≠g6;omega) (.int .i64 3)
    have C7:=C6.setCell (p:=⟨g6,0,none⟩) (by show w.heap.size<=g6;omega) (.int .i64 3)
    generalize w2.setCell ⟨g6,0,none⟩ (.int .i64 3)=w3 at*
    clear U6 R1 C6 q0 f0 T6 R0 B0
    refine(H5.out _).mono ?_
    rintro e v5 ⟨rfl,d5⟩
    have R3:=R2.stays d5
    have U8:=U7.stays d5
    have C8:=C7.trans (d5.mono C7.size)
    obtain⟨T,U,C,L⟩:=JA 31 Z Z C8 C8.size
    have R4:=L _ _ _ R3
    have U9:=L _ _ _ U8
    clear R2 U7 C7 R3 U8 C8 d5 L
    go_wp2_with (first
     |(refine iA 56 rfl ?_;go_must (obtain⟨b,hbq⟩: ∃b:Bool,b=(ec !=0):=⟨_,rfl⟩;have hb:Hid (b=true):=zA7 (by rw[hbq,BM.out];rfl);rw[<-hbq];clear hbq;refine FA (by have h:=hb.out;subst h;rfl) ?_;go_simp;refine FA (by have h:=hb.out;subst h;rfl) ?_;go_simp;refine FA (by have h:=hb.out;subst h;rfl) ?_;go_simp;refine nI rfl _ _ _ rfl (by have h:=hb.out;subst h;rfl) (.bool b) (by have h:=hb.out;subst h;rfl) ?_;go_simp;refine oV rfl _ rfl _ rfl ?_;go_simp;refine FA (by have h:=hb.out;subst h;rfl) ?_;go_simp;refine FA (by have h:=hb.out;subst h;rfl) ?_;go_simp;refine FA (by have h:=hb.out;subst h;rfl) ?_;go_simp;refine FA (by have h:=hb.out;subst h;rfl) ?_;go_simp;refine FA rfl ?_;go_simp;refine FA rfl ?_;go_simp;refine FA rfl ?_;go_simp;refine FA rfl ?_;go_simp;refine FA (by have h:=hb.out;subst h;rfl) ?_;go_simp;refine nI rfl _ _ _ rfl (by have h:=hb.out;subst h;rfl) (.bool true) rfl ?_;go_simp))
     |(refine DB rfl ?_;refine wpList_store_row rfl 31 _ _ rfl v5.heap.size Z rfl rfl 31 _ T (by rw[HX.out];exact tA) rfl KB.out ?_;clear T;generalize(v5.alloc (.cells Z 31)).setRow v5.heap.size Z=x5 at*;generalize v5.heap.size=g7 at*;generalize v5=v55 at*;clear z1)
     |(refine DB rfl ?_;refine wpList_store_row rfl 26 _ _ rfl w.heap.size (rA Ru.zero) rfl rfl 26 _ R4 KA rfl (vC _) ?_))
    exact bodyPost_ret (v:= .tuple #[.agg (rA Ru.zero),.bool false,.int .i64 51]) (ZB rfl _ _ w.heap.size _ _ _ rfl _ _ rfl rfl (R4.whole _) Tryz.underlying26 rfl KA) rfl (AA.out _ _ HR.out (below_setRow C (zB3 _) _))
   |some x=>
    rw[hp]at H5 hx
    have e2:dA.host (some x)=x:=rfl
    have e3:dA.code (some x)=0:=rfl
    rw[e2,e3]at H5
    rw[e2]at hx
    have HZ:=zA7 (show(fA dA.zero).size=18 from rfl)
    generalize fA dA.zero=Z at*
    have HX:=zA7 (QA x hx)
    have KB:=zA7 (aB x)
    have hK:(fA x)[0]? =some (.int .i64 x.kind):=tH x
    have hN:(fA x)[1]? =some (lA x.name):=uH x
    by_cases hk:x.kind=1
    ·have hxn:x.name.length<=100000:=by have:=(dA.AD hp hk).2.2;rw[Oct.nA]at this;omega
     have H6:=zA7 (fun W=>nK x hx hxn W)
     unfold iD at H6
     obtain⟨u,hu⟩: ∃u:ByteArray,u=⟨x.name.toArray⟩:=⟨_,rfl⟩
     have hsu:lA x.name= .string u:=by rw[hu];rfl
     rw[hsu]at hN
     have AB:x.name=u.data.toList:=by rw[hu]
     by_cases hl:(dA.labels x).length<2
     ·have HR:Hid (res=(51,false,Ru.zero)):=zA7 (by rw[HQ.out,Ru.lA6 hp rfl hl];rfl)
      generalize dA.labels x=ps at*
      have hl1:((ps.length:Int)<2):=by omega
      rw[hk]at hK
      clear hp HQ hx e2 e3 hk hxn AB hsu hu hl
      generalize fA x=X at*
      go_wp2_with (first
       |(refine iA 37 rfl ?_;refine gH rfl 26 0 _ rfl _ rfl #[.int .i64 1,.string ⟨#[]⟩] xF.out ?_)
       |(refine DB rfl ?_;refine wpList_store_row rfl 26 _ _ rfl w0.heap.size #[.int .i64 1,.string ⟨#[]⟩] rfl rfl 26 _ T6 KA rfl YG.out ?_))
      generalize(w0.alloc (.cells (rA Ru.zero) 26)).setRow w0.heap.size #[.int .i64 1,.string ⟨#[]⟩]=w2 at*
      generalize w0.heap.size=g6 at*
      refine(JE.out _).mono ?_
      rintro e v2 ⟨rfl,rfl⟩
      go_wp2_with fail
      have U7:=qK U6 (.int .i64 3)
      have R2:=R1.other (p:=⟨g6,0,none⟩) (by show w.heap.size≠g6;omega) (.int .i64 3)
      have C7:=C6.setCell (p:=⟨g6,0,none⟩) (by show w.heap.size<=g6;omega) (.int .i64 3)
      generalize w2.setCell ⟨g6,0,none⟩ (.int .i64 3)=w3 at*
      clear U6 R1 C6 q0 f0 T6 R0 B0
      refine(H5.out _).mono ?_
      rintro e v5 ⟨rfl,d5⟩
      have R3:=R2.stays d5
      have U8:=U7.stays d5
      have C8:=C7.trans (d5.mono C7.size)
      obtain⟨T,U,C,L⟩:=JA 31 Z X C8 C8.size
      have R4:=L _ _ _ R3
      have U9:=L _ _ _ U8
      clear R2 U7 C7 R3 U8 C8 d5 L
      have c0:=(U.cell 0).trans hK
      have d0:=U9.cell 0
      change _=some (Value.int .i64 3)at d0
      go_wp2_with (first
       |(refine DB rfl ?_;refine wpList_store_row rfl 31 _ _ rfl v5.heap.size X rfl rfl 31 _ T (by rw[HX.out];exact tA) (by rw[HZ.out,HX.out]) KB.out ?_)
       |(refine iA 65 rfl ?_;refine qA rfl 31 _ rfl v5.heap.size rfl U Tryz.underlying31 rfl (by rw[HX.out];exact tA) ?_))
      refine(H6.out _).mono ?_
      rintro e v6 ⟨lv,rfl,hown,d6⟩
      obtain⟨LA,lc,rfl,_⟩:=YI hown
      have R5:=R4.stays d6
      have C2:=C.trans (d6.mono C.size)
      clear hown c0 d0 U T d6 R4 C U9
      go_wp2_with (first
       |(refine DB rfl ?_;refine wpList_store_row rfl 26 _ _ rfl w.heap.size (rA Ru.zero) rfl rfl 26 _ R5 KA rfl (vC _) ?_))
      exact bodyPost_ret (v:= .tuple #[.agg (rA Ru.zero),.bool false,.int .i64 51]) (ZB rfl _ _ w.heap.size _ _ _ rfl _ _ rfl rfl (R5.whole _) Tryz.underlying26 rfl KA) rfl (AA.out _ _ HR.out (below_setRow C2 (zB3 _) _))
     ·have HR:Hid (res=(0,true,⟨3,u.data.toList⟩)):=zA7 (by rw[HQ.out,Ru.qV hp hk (fun e=>by omega),AB];rfl)
      have HB2:=zA7 (aR (.int .i64 3) (.string u) rfl rfl)
      generalize dA.labels x=ps at*
      have hl1: ¬((ps.length:Int)<2):=by omega
      rw[hk]at hK
      clear hp HQ hx e2 e3 hk hxn AB hsu hu hl
      generalize fA x=X at*
      go_wp2_with (first
       |(refine iA 37 rfl ?_;refine gH rfl 26 0 _ rfl _ rfl #[.int .i64 1,.string ⟨#[]⟩] xF.out ?_)
       |(refine DB rfl ?_;refine wpList_store_row rfl 26 _ _ rfl w0.heap.size #[.int .i64 1,.string ⟨#[]⟩] rfl rfl 26 _ T6 KA rfl YG.out ?_))
      generalize(w0.alloc (.cells (rA Ru.zero) 26)).setRow w0.heap.size #[.int .i64 1,.string ⟨#[]⟩]=w2 at*
      generalize w0.heap.size=g6 at*
      refine(JE.out _).mono ?_
      rintro e v2 ⟨rfl,rfl⟩
      go_wp2_with fail
      have U7:=qK U6 (.int .i64 3)
      have R2:=R1.other (p:=⟨g6,0,none⟩) (by show w.heap.size≠g6;omega) (.int .i64 3)
      have C7:=C6.setCell (p:=⟨g6,0,none⟩) (by show w.heap.size<=g6;omega) (.int .i64 3)
      generalize w2.setCell ⟨g6,0,none⟩ (.int .i64 3)=w3 at*
      clear U6 R1 C6 q0 f0 T6 R0 B0
      refine(H5.out _).mono ?_
      rintro e v5 ⟨rfl,d5⟩
      have R3:=R2.stays d5
      have U8:=U7.stays d5
      have C8:=C7.trans (d5.mono C7.size)
      obtain⟨T,U,C,L⟩:=JA 31 Z X C8 C8.size
      have R4:=L _ _ _ R3
      have U9:=L _ _ _ U8
      clear R2 U7 C7 R3 U8 C8 d5 L
      have c0:=(U.cell 0).trans hK
      have d0:=U9.cell 0
      change _=some (Value.int .i64 3)at d0
      go_wp2_with (first
       |(refine DB rfl ?_;refine wpList_store_row rfl 31 _ _ rfl v5.heap.size X rfl rfl 31 _ T (by rw[HX.out];exact tA) (by rw[HZ.out,HX.out]) KB.out ?_)
       |(refine iA 65 rfl ?_;refine qA rfl 31 _ rfl v5.heap.size rfl U Tryz.underlying31 rfl (by rw[HX.out];exact tA) ?_))
      refine(H6.out _).mono ?_
      rintro e v6 ⟨lv,rfl,hown,d6⟩
      obtain⟨LA,lc,rfl,_⟩:=YI hown
      have R5:=R4.stays d6
      have UB:=U9.stays d6
      have UH:=U.stays d6
      have C2:=C.trans (d6.mono C.size)
      have c1:=(UH.cell 1).trans hN
      have d1:=UB.cell 1
      change _=some (Value.string ⟨#[]⟩)at d1
      have d2:=UB.free 1
      have UA:=iW UB (.string u)
      have RA:=R5.other (p:=⟨g6,1,none⟩) (by show w.heap.size≠g6;omega) (.string u)
      have CA:=C2.setCell (p:=⟨g6,1,none⟩) (by show w.heap.size<=g6;omega) (.string u)
      generalize v5.heap.size=g5 at*
      clear hown c0 d0 U T d6 R4 C U9
      go_wp2_with (first
       |(refine iA 75 rfl ?_;refine qA rfl 26 _ rfl g6 rfl UA Tryz.underlying26 rfl KA ?_)
       |(refine DB rfl ?_;refine wpList_store_row rfl 26 _ _ rfl w.heap.size #[.int .i64 3,.string u] rfl rfl 26 _ RA KA rfl HB2.out ?_))
      exact bodyPost_ret (v:= .tuple #[.agg #[.int .i64 3,.string u],.bool true,.int .i64 0]) (ZB rfl _ _ w.heap.size _ _ _ rfl _ _ rfl rfl (RA.whole _) Tryz.underlying26 rfl KA) rfl (AA.out (0,true,⟨3,u.data.toList⟩) _ HR.out (below_setRow CA (zB3 _) _))
    ·have HR:Hid (res=(51,false,Ru.zero)):=zA7 (by rw[HQ.out,Ru.rV hp hk];rfl)
     have FM:Hid ((x.kind !=1)=true):=zA7 (by simpa using hk)
     clear hp HQ hx e2 e3 hk hN
     generalize x.kind=xk at*
     generalize fA x=X at*
     go_wp2_with (first
      |(refine iA 37 rfl ?_;refine gH rfl 26 0 _ rfl _ rfl #[.int .i64 1,.string ⟨#[]⟩] xF.out ?_)
      |(refine DB rfl ?_;refine wpList_store_row rfl 26 _ _ rfl w0.heap.size #[.int .i64 1,.string ⟨#[]⟩] rfl rfl 26 _ T6 KA rfl YG.out ?_))
     generalize(w0.alloc (.cells (rA Ru.zero) 26)).setRow w0.heap.size #[.int .i64 1,.string ⟨#[]⟩]=w2 at*
     generalize w0.heap.size=g6 at*
     refine(JE.out _).mono ?_
     rintro e v2 ⟨rfl,rfl⟩
     go_wp2_with fail
     have U7:=qK U6 (.int .i64 3)
     have R2:=R1.other (p:=⟨g6,0,none⟩) (by show w.heap.size≠g6;omega) (.int .i64 3)
     have C7:=C6.setCell (p:=⟨g6,0,none⟩) (by show w.heap.size<=g6;omega) (.int .i64 3)
     generalize w2.setCell ⟨g6,0,none⟩ (.int .i64 3)=w3 at*
     clear U6 R1 C6 q0 f0 T6 R0 B0
     refine(H5.out _).mono ?_
     rintro e v5 ⟨rfl,d5⟩
     have R3:=R2.stays d5
     have U8:=U7.stays d5
     have C8:=C7.trans (d5.mono C7.size)
     obtain⟨T,U,C,L⟩:=JA 31 Z X C8 C8.size
     have R4:=L _ _ _ R3
     have U9:=L _ _ _ U8
     clear R2 U7 C7 R3 U8 C8 d5 L
     have c0:=(U.cell 0).trans hK
     go_wp2_with (first
      |(refine iA 61 rfl ?_;go_must (obtain⟨b,hbq⟩: ∃b:Bool,b=(xk !=1):=⟨_,rfl⟩;have hb:Hid (b=true):=zA7 (by rw[hbq,FM.out]);rw[<-hbq];clear hbq;refine FA (by have h:=hb.out;subst h;rfl) ?_;go_simp;refine FA (by have h:=hb.out;subst h;rfl) ?_;go_simp;refine FA (by have h:=hb.out;subst h;rfl) ?_;go_simp;refine FA (by have h:=hb.out;subst h;rfl) ?_;go_simp;refine FA rfl ?_;go_simp;refine FA rfl ?_;go_simp;refine FA rfl ?_;go_simp;refine FA rfl ?_;go_simp;refine FA (by have h:=hb.out;subst h;rfl) ?_;go_simp;refine nI rfl _ _ _ rfl (by have h:=hb.out;subst h;rfl) (.bool true) rfl ?_;go_simp))
      |(refine DB rfl ?_;refine wpList_store_row rfl 31 _ _ rfl v5.heap.size X rfl rfl 31 _ T (by rw[HX.out];exact tA) (by rw[HZ.out,HX.out]) KB.out ?_;clear T;generalize(v5.alloc (.cells Z 31)).setRow v5.heap.size X=x5 at*;generalize v5.heap.size=g7 at*;generalize v5=v55 at*;clear z1)
      |(refine DB rfl ?_;refine wpList_store_row rfl 26 _ _ rfl w.heap.size (rA Ru.zero) rfl rfl 26 _ R4 KA rfl (vC _) ?_))
     exact bodyPost_ret (v:= .tuple #[.agg (rA Ru.zero),.bool false,.int .i64 51]) (ZB rfl _ _ w.heap.size _ _ _ rfl _ _ rfl rfl (R4.whole _) Tryz.underlying26 rfl KA) rfl (AA.out _ _ HR.out (below_setRow C (zB3 _) _))
  |false=>
   cases fQ:Lib.hasPrefix y.data.toList [42,46]with
   |true=>
    obtain⟨k1,k2,k3⟩:=Ru.kA4 mL fQ
    rw[mL]at JE
    rw[fQ]at UG
    rw[k1,k2]at HQ
    rw[Oct.nA]at k3
    have hsl:(2:Int)<=(y.size:Int):=by omega
    obtain⟨n,hn⟩: ∃n:ByteArray,n=y.extract 2 y.size:=⟨_,rfl⟩
    have hnd:y.data.toList.drop 2=n.data.toList:=by rw[hn,extract_drop]
    have hns:n.size<=y.size:=by rw[hn,ByteArray.size_extract];omega
    rw[hnd]at HQ
    have hex:y.extract 2 y.size=n:=hn.symm
    clear k1 k2 k3 hnd hn
    have H5:=zA7 (fun W=>(oK n W (by omega)).mono fun e w' h=>LG h)
    have hx:=dA.GF n.data.toList
    cases hp:dA.parse n.data.toList with
    |none=>
     rw[hp]at H5
     have HR:Hid (res=(51,false,Ru.zero)):=zA7 (by rw[HQ.out,Ru.pV hp];rfl)
     have e2:dA.host none=dA.zero:=rfl
     have e3:dA.code none=31:=rfl
     obtain⟨ec,vG⟩: ∃ec:Int,ec=31:=⟨_,rfl⟩
     rw[e2,e3,<-vG]at H5
     have BM:=zA7 vG
     clear vG
     clear hp HQ hx e2 e3
     have HX:=zA7 (show(fA dA.zero).size=18 from rfl)
     have KB:=zA7 (aB dA.zero)
     generalize fA dA.zero=Z at*
     go_wp2_with (first
      |(refine iA 37 rfl ?_;refine gH rfl 26 0 _ rfl _ rfl #[.int .i64 1,.string ⟨#[]⟩] xF.out ?_)
      |(refine DB rfl ?_;refine wpList_store_row rfl 26 _ _ rfl w0.heap.size #[.int .i64 1,.string ⟨#[]⟩] rfl rfl 26 _ T6 KA rfl YG.out ?_))
     generalize(w0.alloc (.cells (rA Ru.zero) 26)).setRow w0.heap.size #[.int .i64 1,.string ⟨#[]⟩]=w2 at*
     generalize w0.heap.size=g6 at*
     refine(JE.out _).mono ?_
     rintro e v2 ⟨rfl,rfl⟩
     go_wp2_with fail
     refine(UG.out _).mono ?_
     rintro e v3 ⟨rfl,rfl⟩
     go_wp2_with fail
     have U7:=qK U6 (.int .i64 2)
     have R2:=R1.other (p:=⟨g6,0,none⟩) (by show w.heap.size≠g6;omega) (.int .i64 2)
     have C7:=C6.setCell (p:=⟨g6,0,none⟩) (by show w.heap.size<=g6;omega) (.int .i64 2)
     generalize w2.setCell ⟨g6,0,none⟩ (.int .i64 2)=w3 at*
     clear U6 R1 C6 q0 f0 T6 R0 B0
     refine(H5.out _).mono ?_
     rintro e v5 ⟨rfl,d5⟩
     have R3:=R2.stays d5
     have U8:=U7.stays d5
     have C8:=C7.trans (d5.mono C7.size)
     obtain⟨T,U,C,L⟩:=JA 31 Z Z C8 C8.size
     have R4:=L _ _ _ R3
     have U9:=L _ _ _ U8
     clear R2 U7 C7 R3 U8 C8 d5 L
     go_wp2_with (first
      |(refine iA 56 rfl ?_;go_must (obtain⟨b,hbq⟩: ∃b:Bool,b=(ec !=0):=⟨_,rfl⟩;have hb:Hid (b=true):=zA7 (by rw[hbq,BM.out];rfl);rw[<-hbq];clear hbq;refine FA (by have h:=hb.out;subst h;rfl) ?_;go_simp;refine FA (by have h:=hb.out;subst h;rfl) ?_;go_simp;refine FA (by have h:=hb.out;subst h;rfl) ?_;go_simp;refine nI rfl _ _ _ rfl (by have h:=hb.out;subst h;rfl) (.bool b) (by have h:=hb.out;subst h;rfl) ?_;go_simp;refine oV rfl _ rfl _ rfl ?_;go_simp;refine FA (by have h:=hb.out;subst h;rfl) ?_;go_simp;refine FA (by have h:=hb.out;subst h;rfl) ?_;go_simp;refine FA (by have h:=hb.out;subst h;rfl) ?_;go_simp;refine FA (by have h:=hb.out;subst h;rfl) ?_;go_simp;refine FA rfl ?_;go_simp;refine FA rfl ?_;go_simp;refine FA rfl ?_;go_simp;refine FA rfl ?_;go_simp;refine FA (by have h:=hb.out;subst h;rfl) ?_;go_simp;refine nI rfl _ _ _ rfl (by have h:=hb.out;subst h;rfl) (.bool true) rfl ?_;go_simp))
      |(refine DB rfl ?_;refine wpList_store_row rfl 31 _ _ rfl v5.heap.size Z rfl rfl 31 _ T (by rw[HX.out];exact tA) rfl KB.out ?_;clear T;generalize(v5.alloc (.cells Z 31)).setRow v5.heap.size Z=x5 at*;generalize v5.heap.size=g7 at*;generalize v5=v55 at*;clear z1)
      |(refine DB rfl ?_;refine wpList_store_row rfl 26 _ _ rfl w.heap.size (rA Ru.zero) rfl rfl 26 _ R4 KA rfl (vC _) ?_))
     exact bodyPost_ret (v:= .tuple #[.agg (rA Ru.zero),.bool false,.int .i64 51]) (ZB rfl _ _ w.heap.size _ _ _ rfl _ _ rfl rfl (R4.whole _) Tryz.underlying26 rfl KA) rfl (AA.out _ _ HR.out (below_setRow C (zB3 _) _))
    |some x=>
     rw[hp]at H5 hx
     have e2:dA.host (some x)=x:=rfl
     have e3:dA.code (some x)=0:=rfl
     rw[e2,e3]at H5
     rw[e2]at hx
     have HZ:=zA7 (show(fA dA.zero).size=18 from rfl)
     generalize fA dA.zero=Z at*
     have HX:=zA7 (QA x hx)
     have KB:=zA7 (aB x)
     have hK:(fA x)[0]? =some (.int .i64 x.kind):=tH x
     have hN:(fA x)[1]? =some (lA x.name):=uH x
     by_cases hk:x.kind=1
     ·have hxn:x.name.length<=100000:=by have:=(dA.AD hp hk).2.2;rw[Oct.nA]at this;omega
      have H6:=zA7 (fun W=>nK x hx hxn W)
      unfold iD at H6
      obtain⟨u,hu⟩: ∃u:ByteArray,u=⟨x.name.toArray⟩:=⟨_,rfl⟩
      have hsu:lA x.name= .string u:=by rw[hu];rfl
      rw[hsu]at hN
      have AB:x.name=u.data.toList:=by rw[hu]
      have HR:Hid (res=(0,true,⟨2,u.data.toList⟩)):=zA7 (by rw[HQ.out,Ru.qV hp hk (fun e=>by omega),AB];rfl)
      have HB2:=zA7 (aR (.int .i64 2) (.string u) rfl rfl)
      rw[hk]at hK
      clear hp HQ hx e2 e3 hk hxn AB hsu hu H6
      generalize fA x=X at*
      go_wp2_with (first
       |(refine iA 37 rfl ?_;refine gH rfl 26 0 _ rfl _ rfl #[.int .i64 1,.string ⟨#[]⟩] xF.out ?_)
       |(refine DB rfl ?_;refine wpList_store_row rfl 26 _ _ rfl w0.heap.size #[.int .i64 1,.string ⟨#[]⟩] rfl rfl 26 _ T6 KA rfl YG.out ?_))
      generalize(w0.alloc (.cells (rA Ru.zero) 26)).setRow w0.heap.size #[.int .i64 1,.string ⟨#[]⟩]=w2 at*
      generalize w0.heap.size=g6 at*
      refine(JE.out _).mono ?_
      rintro e v2 ⟨rfl,rfl⟩
      go_wp2_with fail
      refine(UG.out _).mono ?_
      rintro e v3 ⟨rfl,rfl⟩
      go_wp2_with fail
      have U7:=qK U6 (.int .i64 2)
      have R2:=R1.other (p:=⟨g6,0,none⟩) (by show w.heap.size≠g6;omega) (.int .i64 2)
      have C7:=C6.setCell (p:=⟨g6,0,none⟩) (by show w.heap.size<=g6;omega) (.int .i64 2)
      generalize w2.setCell ⟨g6,0,none⟩ (.int .i64 2)=w3 at*
      clear U6 R1 C6 q0 f0 T6 R0 B0
      refine(H5.out _).mono ?_
      rintro e v5 ⟨rfl,d5⟩
      have R3:=R2.stays d5
      have U8:=U7.stays d5
      have C8:=C7.trans (d5.mono C7.size)
      obtain⟨T,U,C,L⟩:=JA 31 Z X C8 C8.size
      have R4:=L _ _ _ R3
      have U9:=L _ _ _ U8
      clear R2 U7 C7 R3 U8 C8 d5 L
      have c0:=(U.cell 0).trans hK
      have c1:=(U.cell 1).trans hN
      have d0:=U9.cell 0
      change _=some (Value.int .i64 2)at d0
      have d1:=U9.cell 1
      change _=some (Value.string ⟨#[]⟩)at d1
      have d2:=U9.free 1
      have UA:=iW U9 (.string u)
      have RA:=R4.other (p:=⟨g6,1,none⟩) (by show w.heap.size≠g6;omega) (.string u)
      have CA:=C.setCell (p:=⟨g6,1,none⟩) (by show w.heap.size<=g6;omega) (.string u)
      go_wp2_with (first
       |(refine iA 65 rfl ?_;refine FA rfl ?_;go_simp;refine FA rfl ?_;go_simp;refine FA rfl ?_;go_simp;refine FA rfl ?_;go_simp)
       |(refine DB rfl ?_;refine wpList_store_row rfl 31 _ _ rfl v5.heap.size X rfl rfl 31 _ T (by rw[HX.out];exact tA) (by rw[HZ.out,HX.out]) KB.out ?_)
       |(refine iA 75 rfl ?_;refine qA rfl 26 _ rfl g6 rfl UA Tryz.underlying26 rfl KA ?_)
       |(refine DB rfl ?_;refine wpList_store_row rfl 26 _ _ rfl w.heap.size #[.int .i64 2,.string u] rfl rfl 26 _ RA KA rfl HB2.out ?_))
      exact bodyPost_ret (v:= .tuple #[.agg #[.int .i64 2,.string u],.bool true,.int .i64 0]) (ZB rfl _ _ w.heap.size _ _ _ rfl _ _ rfl rfl (RA.whole _) Tryz.underlying26 rfl KA) rfl (AA.out (0,true,⟨2,u.data.toList⟩) _ HR.out (below_setRow CA (zB3 _) _))
     ·have HR:Hid (res=(51,false,Ru.zero)):=zA7 (by rw[HQ.out,Ru.rV hp hk];rfl)
      have FM:Hid ((x.kind !=1)=true):=zA7 (by simpa using hk)
      clear hp HQ hx e2 e3 hk hN
      generalize x.kind=xk at*
      generalize fA x=X at*
      go_wp2_with (first
       |(refine iA 37 rfl ?_;refine gH rfl 26 0 _ rfl _ rfl #[.int .i64 1,.string ⟨#[]⟩] xF.out ?_)
       |(refine DB rfl ?_;refine wpList_store_row rfl 26 _ _ rfl w0.heap.size #[.int .i64 1,.string ⟨#[]⟩] rfl rfl 26 _ T6 KA rfl YG.out ?_))
      generalize(w0.alloc (.cells (rA Ru.zero) 26)).setRow w0.heap.size #[.int .i64 1,.string ⟨#[]⟩]=w2 at*
      generalize w0.heap.size=g6 at*
      refine(JE.out _).mono ?_
      rintro e v2 ⟨rfl,rfl⟩
      go_wp2_with fail
      refine(UG.out _).mono ?_
      rintro e v3 ⟨rfl,rfl⟩
      go_wp2_with fail
      have U7:=qK U6 (.int .i64 2)
      have R2:=R1.other (p:=⟨g6,0,none⟩) (by show w.heap.size≠g6;omega) (.int .i64 2)
      have C7:=C6.setCell (p:=⟨g6,0,none⟩) (by show w.heap.size<=g6;omega) (.int .i64 2)
      generalize w2.setCell ⟨g6,0,none⟩ (.int .i64 2)=w3 at*
      clear U6 R1 C6 q0 f0 T6 R0 B0
      refine(H5.out _).mono ?_
      rintro e v5 ⟨rfl,d5⟩
      have R3:=R2.stays d5
      have U8:=U7.stays d5
      have C8:=C7.trans (d5.mono C7.size)
      obtain⟨T,U,C,L⟩:=JA 31 Z X C8 C8.size
      have R4:=L _ _ _ R3
      have U9:=L _ _ _ U8
      clear R2 U7 C7 R3 U8 C8 d5 L
      have c0:=(U.cell 0).trans hK
      go_wp2_with (first
       |(refine iA 61 rfl ?_;go_must (obtain⟨b,hbq⟩: ∃b:Bool,b=(xk !=1):=⟨_,rfl⟩;have hb:Hid (b=true):=zA7 (by rw[hbq,FM.out]);rw[<-hbq];clear hbq;refine FA (by have h:=hb.out;subst h;rfl) ?_;go_simp;refine FA (by have h:=hb.out;subst h;rfl) ?_;go_simp;refine FA (by have h:=hb.out;subst h;rfl) ?_;go_simp;refine FA (by have h:=hb.out;subst h;rfl) ?_;go_simp;refine FA rfl ?_;go_simp;refine FA rfl ?_;go_simp;refine FA rfl ?_;go_simp;refine FA rfl ?_;go_simp;refine FA (by have h:=hb.out;subst h;rfl) ?_;go_simp;refine nI rfl _ _ _ rfl (by have h:=hb.out;subst h;rfl) (.bool true) rfl ?_;go_simp))
       |(refine DB rfl ?_;refine wpList_store_row rfl 31 _ _ rfl v5.heap.size X rfl rfl 31 _ T (by rw[HX.out];exact tA) (by rw[HZ.out,HX.out]) KB.out ?_;clear T;generalize(v5.alloc (.cells Z 31)).setRow v5.heap.size X=x5 at*;generalize v5.heap.size=g7 at*;generalize v5=v55 at*;clear z1)
       |(refine DB rfl ?_;refine wpList_store_row rfl 26 _ _ rfl w.heap.size (rA Ru.zero) rfl rfl 26 _ R4 KA rfl (vC _) ?_))
      exact bodyPost_ret (v:= .tuple #[.agg (rA Ru.zero),.bool false,.int .i64 51]) (ZB rfl _ _ w.heap.size _ _ _ rfl _ _ rfl rfl (R4.whole _) Tryz.underlying26 rfl KA) rfl (AA.out _ _ HR.out (below_setRow C (zB3 _) _))
   |false=>
    obtain⟨k1,k2⟩:=Ru.kA2 mL fQ
    rw[mL]at JE
    rw[fQ]at UG
    rw[k1,k2]at HQ
    obtain⟨n,hn⟩: ∃n:ByteArray,n=y:=⟨_,rfl⟩
    have hns:n.size<=y.size:=by rw[hn];exact zB3 _
    rw[<-hn]at HQ JE UG
    clear k1 k2
    subst hn
    have hsz:n.size<=n.size:=zB3 _
    have H5:=zA7 (fun W=>(oK n W (by omega)).mono fun e w' h=>LG h)
    have hx:=dA.GF n.data.toList
    cases hp:dA.parse n.data.toList with
    |none=>
     rw[hp]at H5
     have HR:Hid (res=(51,false,Ru.zero)):=zA7 (by rw[HQ.out,Ru.pV hp];rfl)
     have e2:dA.host none=dA.zero:=rfl
     have e3:dA.code none=31:=rfl
     obtain⟨ec,vG⟩: ∃ec:Int,ec=31:=⟨_,rfl⟩
     rw[e2,e3,<-vG]at H5
     have BM:=zA7 vG
     clear vG
     clear hp HQ hx e2 e3
     have HX:=zA7 (show(fA dA.zero).size=18 from rfl)
     have KB:=zA7 (aB dA.zero)
     generalize fA dA.zero=Z at*
     go_wp2_with (first
      |(refine iA 37 rfl ?_;refine gH rfl 26 0 _ rfl _ rfl #[.int .i64 1,.string ⟨#[]⟩] xF.out ?_)
      |(refine DB rfl ?_;refine wpList_store_row rfl 26 _ _ rfl w0.heap.size #[.int .i64 1,.string ⟨#[]⟩] rfl rfl 26 _ T6 KA rfl YG.out ?_))
     generalize(w0.alloc (.cells (rA Ru.zero) 26)).setRow w0.heap.size #[.int .i64 1,.string ⟨#[]⟩]=w2 at*
     generalize w0.heap.size=g6 at*
     refine(JE.out _).mono ?_
     rintro e v2 ⟨rfl,rfl⟩
     go_wp2_with fail
     refine(UG.out _).mono ?_
     rintro e v3 ⟨rfl,rfl⟩
     go_wp2_with fail
     have U7:=U6
     have R2:=R1
     have C7:=C6
     generalize w2=w3 at*
     clear U6 R1 C6 q0 f0 T6 R0 B0
     refine(H5.out _).mono ?_
     rintro e v5 ⟨rfl,d5⟩
     have R3:=R2.stays d5
     have U8:=U7.stays d5
     have C8:=C7.trans (d5.mono C7.size)
     obtain⟨T,U,C,L⟩:=JA 31 Z Z C8 C8.size
     have R4:=L _ _ _ R3
     have U9:=L _ _ _ U8
     clear R2 U7 C7 R3 U8 C8 d5 L
     go_wp2_with (first
      |(refine iA 56 rfl ?_;go_must (obtain⟨b,hbq⟩: ∃b:Bool,b=(ec !=0):=⟨_,rfl⟩;have hb:Hid (b=true):=zA7 (by rw[hbq,BM.out];rfl);rw[<-hbq];clear hbq;refine FA (by have h:=hb.out;subst h;rfl) ?_;go_simp;refine FA (by have h:=hb.out;subst h;rfl) ?_;go_simp;refine FA (by have h:=hb.out;subst h;rfl) ?_;go_simp;refine nI rfl _ _ _ rfl (by have h:=hb.out;subst h;rfl) (.bool b) (by have h:=hb.out;subst h;rfl) ?_;go_simp;refine oV rfl _ rfl _ rfl ?_;go_simp;refine FA (by have h:=hb.out;subst h;rfl) ?_;go_simp;refine FA (by have h:=hb.out;subst h;rfl) ?_;go_simp;refine FA (by have h:=hb.out;subst h;rfl) ?_;go_simp;refine FA (by have h:=hb.out;subst h;rfl) ?_;go_simp;refine FA rfl ?_;go_simp;refine FA rfl ?_;go_simp;refine FA rfl ?_;go_simp;refine FA rfl ?_;go_simp;refine FA (by have h:=hb.out;subst h;rfl) ?_;go_simp;refine nI rfl _ _ _ rfl (by have h:=hb.out;subst h;rfl) (.bool true) rfl ?_;go_simp))
      |(refine DB rfl ?_;refine wpList_store_row rfl 31 _ _ rfl v5.heap.size Z rfl rfl 31 _ T (by rw[HX.out];exact tA) rfl KB.out ?_;clear T;generalize(v5.alloc (.cells Z 31)).setRow v5.heap.size Z=x5 at*;generalize v5.heap.size=g7 at*;generalize v5=v55 at*;clear z1)
      |(refine DB rfl ?_;refine wpList_store_row rfl 26 _ _ rfl w.heap.size (rA Ru.zero) rfl rfl 26 _ R4 KA rfl (vC _) ?_))
     exact bodyPost_ret (v:= .tuple #[.agg (rA Ru.zero),.bool false,.int .i64 51]) (ZB rfl _ _ w.heap.size _ _ _ rfl _ _ rfl rfl (R4.whole _) Tryz.underlying26 rfl KA) rfl (AA.out _ _ HR.out (below_setRow C (zB3 _) _))
    |some x=>
     rw[hp]at H5 hx
     have e2:dA.host (some x)=x:=rfl
     have e3:dA.code (some x)=0:=rfl
     rw[e2,e3]at H5
     rw[e2]at hx
     have HZ:=zA7 (show(fA dA.zero).size=18 from rfl)
     generalize fA dA.zero=Z at*
     have HX:=zA7 (QA x hx)
     have KB:=zA7 (aB x)
     have hK:(fA x)[0]? =some (.int .i64 x.kind):=tH x
     have hN:(fA x)[1]? =some (lA x.name):=uH x
     by_cases hk:x.kind=1
     ·have hxn:x.name.length<=100000:=by have:=(dA.AD hp hk).2.2;rw[Oct.nA]at this;omega
      have H6:=zA7 (fun W=>nK x hx hxn W)
      unfold iD at H6
      obtain⟨u,hu⟩: ∃u:ByteArray,u=⟨x.name.toArray⟩:=⟨_,rfl⟩
      have hsu:lA x.name= .string u:=by rw[hu];rfl
      rw[hsu]at hN
      have AB:x.name=u.data.toList:=by rw[hu]
      have HR:Hid (res=(0,true,⟨1,u.data.toList⟩)):=zA7 (by rw[HQ.out,Ru.qV hp hk (fun e=>by omega),AB];rfl)
      have HB2:=zA7 (aR (.int .i64 1) (.string u) rfl rfl)
      rw[hk]at hK
      clear hp HQ hx e2 e3 hk hxn AB hsu hu H6
      generalize fA x=X at*
      go_wp2_with (first
       |(refine iA 37 rfl ?_;refine gH rfl 26 0 _ rfl _ rfl #[.int .i64 1,.string ⟨#[]⟩] xF.out ?_)
       |(refine DB rfl ?_;refine wpList_store_row rfl 26 _ _ rfl w0.heap.size #[.int .i64 1,.string ⟨#[]⟩] rfl rfl 26 _ T6 KA rfl YG.out ?_))
      generalize(w0.alloc (.cells (rA Ru.zero) 26)).setRow w0.heap.size #[.int .i64 1,.string ⟨#[]⟩]=w2 at*
      generalize w0.heap.size=g6 at*
      refine(JE.out _).mono ?_
      rintro e v2 ⟨rfl,rfl⟩
      go_wp2_with fail
      refine(UG.out _).mono ?_
      rintro e v3 ⟨rfl,rfl⟩
      go_wp2_with fail
      have U7:=U6
      have R2:=R1
      have C7:=C6
      generalize w2=w3 at*
      clear U6 R1 C6 q0 f0 T6 R0 B0
      refine(H5.out _).mono ?_
      rintro e v5 ⟨rfl,d5⟩
      have R3:=R2.stays d5
      have U8:=U7.stays d5
      have C8:=C7.trans (d5.mono C7.size)
      obtain⟨T,U,C,L⟩:=JA 31 Z X C8 C8.size
      have R4:=L _ _ _ R3
      have U9:=L _ _ _ U8
      clear R2 U7 C7 R3 U8 C8 d5 L
      have c0:=(U.cell 0).trans hK
      have c1:=(U.cell 1).trans hN
      have d0:=U9.cell 0
      change _=some (Value.int .i64 1)at d0
      have d1:=U9.cell 1
      change _=some (Value.string ⟨#[]⟩)at d1
      have d2:=U9.free 1
      have UA:=iW U9 (.string u)
      have RA:=R4.other (p:=⟨g6,1,none⟩) (by show w.heap.size≠g6;omega) (.string u)
      have CA:=C.setCell (p:=⟨g6,1,none⟩) (by show w.heap.size<=g6;omega) (.string u)
      go_wp2_with (first
       |(refine iA 65 rfl ?_;refine FA rfl ?_;go_simp;refine FA rfl ?_;go_simp;refine FA rfl ?_;go_simp;refine FA rfl ?_;go_simp)
       |(refine DB rfl ?_;refine wpList_store_row rfl 31 _ _ rfl v5.heap.size X rfl rfl 31 _ T (by rw[HX.out];exact tA) (by rw[HZ.out,HX.out]) KB.out ?_)
       |(refine iA 75 rfl ?_;refine qA rfl 26 _ rfl g6 rfl UA Tryz.underlying26 rfl KA ?_)
       |(refine DB rfl ?_;refine wpList_store_row rfl 26 _ _ rfl w.heap.size #[.int .i64 1,.string u] rfl rfl 26 _ RA KA rfl HB2.out ?_))
      exact bodyPost_ret (v:= .tuple #[.agg #[.int .i64 1,.string u],.bool true,.int .i64 0]) (ZB rfl _ _ w.heap.size _ _ _ rfl _ _ rfl rfl (RA.whole _) Tryz.underlying26 rfl KA) rfl (AA.out (0,true,⟨1,u.data.toList⟩) _ HR.out (below_setRow CA (zB3 _) _))
     ·have HR:Hid (res=(51,false,Ru.zero)):=zA7 (by rw[HQ.out,Ru.rV hp hk];rfl)
      have FM:Hid ((x.kind !=1)=true):=zA7 (by simpa using hk)
      clear hp HQ hx e2 e3 hk hN
      generalize x.kind=xk at*
      generalize fA x=X at*
      go_wp2_with (first
       |(refine iA 37 rfl ?_;refine gH rfl 26 0 _ rfl _ rfl #[.int .i64 1,.string ⟨#[]⟩] xF.out ?_)
       |(refine DB rfl ?_;refine wpList_store_row rfl 26 _ _ rfl w0.heap.size #[.int .i64 1,.string ⟨#[]⟩] rfl rfl 26 _ T6 KA rfl YG.out ?_))
      generalize(w0.alloc (.cells (rA Ru.zero) 26)).setRow w0.heap.size #[.int .i64 1,.string ⟨#[]⟩]=w2 at*
      generalize w0.heap.size=g6 at*
      refine(JE.out _).mono ?_
      rintro e v2 ⟨rfl,rfl⟩
      go_wp2_with fail
      refine(UG.out _).mono ?_
      rintro e v3 ⟨rfl,rfl⟩
      go_wp2_with fail
      have U7:=U6
      have R2:=R1
      have C7:=C6
      generalize w2=w3 at*
      clear U6 R1 C6 q0 f0 T6 R0 B0
      refine(H5.out _).mono ?_
      rintro e v5 ⟨rfl,d5⟩
      have R3:=R2.stays d5
      have U8:=U7.stays d5
      have C8:=C7.trans (d5.mono C7.size)
      obtain⟨T,U,C,L⟩:=JA 31 Z X C8 C8.size
      have R4:=L _ _ _ R3
      have U9:=L _ _ _ U8
      clear R2 U7 C7 R3 U8 C8 d5 L
      have c0:=(U.cell 0).trans hK
      go_wp2_with (first
       |(refine iA 61 rfl ?_;go_must (obtain⟨b,hbq⟩: ∃b:Bool,b=(xk !=1):=⟨_,rfl⟩;have hb:Hid (b=true):=zA7 (by rw[hbq,FM.out]);rw[<-hbq];clear hbq;refine FA (by have h:=hb.out;subst h;rfl) ?_;go_simp;refine FA (by have h:=hb.out;subst h;rfl) ?_;go_simp;refine FA (by have h:=hb.out;subst h;rfl) ?_;go_simp;refine FA (by have h:=hb.out;subst h;rfl) ?_;go_simp;refine FA rfl ?_;go_simp;refine FA rfl ?_;go_simp;refine FA rfl ?_;go_simp;refine FA rfl ?_;go_simp;refine FA (by have h:=hb.out;subst h;rfl) ?_;go_simp;refine nI rfl _ _ _ rfl (by have h:=hb.out;subst h;rfl) (.bool true) rfl ?_;go_simp))
       |(refine DB rfl ?_;refine wpList_store_row rfl 31 _ _ rfl v5.heap.size X rfl rfl 31 _ T (by rw[HX.out];exact tA) (by rw[HZ.out,HX.out]) KB.out ?_;clear T;generalize(v5.alloc (.cells Z 31)).setRow v5.heap.size X=x5 at*;generalize v5.heap.size=g7 at*;generalize v5=v55 at*;clear z1)
       |(refine DB rfl ?_;refine wpList_store_row rfl 26 _ _ rfl w.heap.size (rA Ru.zero) rfl rfl 26 _ R4 KA rfl (vC _) ?_))
      exact bodyPost_ret (v:= .tuple #[.agg (rA Ru.zero),.bool false,.int .i64 51]) (ZB rfl _ _ w.heap.size _ _ _ rfl _ _ rfl rfl (R4.whole _) Tryz.underlying26 rfl KA) rfl (AA.out _ _ HR.out (below_setRow C (zB3 _) _))
end Go.Proofs.YtabgoobcliijeaaGreatDoor
