/- The walk of V6. -/
import Derived.Test.YtabgoobcliijeaaGreatDoorY2
import Derived.Laws.CopyOwn
import Derived.Deep.MidRow
import Derived.Deep.RegionHeld3
set_option maxHeartbeats 4000000
set_option maxRecDepth 100000
namespace Go.Proofs.YtabgoobcliijeaaGreatDoor
open Go.RowKit
theorem M4(n m:Nat)(gap:Bool)(w:World)(hn:n+m<=1099511627776):
  Calls Tryz.prog 166 #[.int .i64 ((n:Int)+(m:Int)),.bool gap] w fun e w'=>e= .returned (.bool (aA.fits (n+m) gap))/\w=w':=by
 rw[show(n:Int)+(m:Int)=((n+m:Nat):Int) by omega]
 exact hAD (n+m) gap w hn
namespace aA
theorem cAH(s:List UInt8):(row s).length<=s.length+1:=by
 unfold row
 split
 ·simp
 ·rw[List.length_map];exact Oct.cJ 58 s
theorem gAy(s:List UInt8):(Lib.cut s [58,58]).1.length<=s.length/\(Lib.cut s [58,58]).2.1.length<=s.length:=by
 unfold Lib.cut
 split
 ·simp;omega
 ·simp
theorem qA5 {s b h:List UInt8}{gap:Bool}(hc:Lib.cut s [58,58]=(b,h,gap))(h1:isRow b=true)(h2:isRow h=true)(h3:fits ((row b).length+(row h).length) gap=true):
  v6 s=some (row b++List.replicate (8- ((row b).length+(row h).length)) 0++row h):=by
 unfold v6;rw[hc];simp only;rw[if_pos ⟨h1,h2,h3⟩]
theorem KW {s b h:List UInt8}{gap:Bool}(hc:Lib.cut s [58,58]=(b,h,gap))(hn:isRow b=false\/isRow h=false\/fits ((row b).length+(row h).length) gap=false):v6 s=none:=by
 unfold v6;rw[hc];simp only
 refine if_neg fun⟨h1,h2,h3⟩=>?_
 rcases hn with hn|hn|hn
 ·rw[hn]at h1;cases h1
 ·rw[hn]at h2;cases h2
 ·rw[hn]at h3;cases h3
theorem hAE {n:Nat}{gap:Bool}(h:fits n gap=true):n<=8:=by
 unfold fits at h
 split at h<;>(have:=zB1 h;omega)
end aA
theorem aAt:(Tryz.prog.info? 173).map (·.size)=some 1:=by kernel_rfl
def iB(a:List UInt8)(ok:Bool)(w:World)(e:Ending)(w':World):Prop:=e= .returned (.tuple #[.agg (jA a),.bool ok])/\Below w.heap.size w w'
theorem uV {s:List UInt8}(h:aA.v6 s=none):iB (aA.addrOf (aA.v6 s)) (aA.v6 s).isSome=iB zA false:=by rw[h];rfl
theorem jZ(r:List UInt16)(n:Nat)(h:r.length<=n):Hid ((r.map gC).length=Nat.min r.length n):=by
 show(r.map gC).length=Nat.min r.length n
 rw[List.length_map];exact(Nat.min_eq_left h).symm
theorem kZ {w w':World}{A:Option Addr}{r:List UInt16}{B:Nat}(h:0<r.length-> ∃g,A=some ⟨g,0,none⟩/\B<=g/\Row w g 173 (NA r))(hb:Below w.heap.size w w'):
  Hid (0<(r.map gC).length-> ∃ad,A=some ad/\ ∀j v,(r.map gC)[j]? =some v->w'.cell? (ad.add j)=some v):=by
 intro hp
 rw[List.length_map]at hp
 obtain⟨g,e,hg,hr⟩:=h hp
 refine⟨_,e,fun j v hj=>?_⟩
 have R:=hr.stays hb
 rw[Addr.add_mid,Nat.zero_add,R.cell,NA,List.getElem?_toArray]
 exact hj
theorem GL:Tryz.prog.arrayLen 174=8:=by kernel_rfl
theorem YP:Tryz.prog.elem 174=173:=by kernel_rfl
theorem cAV(g m:Nat)(hm:m<=8): ∃A:Addr,(0<m->A=⟨g,8-m,none⟩)/\
  ∀W,(Instr.sliceAt 174 (.pointer (some ⟨g,0,none⟩)) (some (.int .i64 (8- (m:Int)))) none none).run Tryz.prog W= .ok (.slice (some A) m m) W:=by
 refine⟨if 8=8-m then⟨g,0,none⟩else(⟨g,0,none⟩:Addr).add ((8-m)*1),fun h=>?_,fun W=>?_⟩
 ·rw[if_neg (by omega),Addr.add_mid,Nat.zero_add,Nat.mul_one]
 ·have ht:Tryz.prog.underlying 174=some (.array (Tryz.prog.arrayLen 174) (Tryz.prog.elem 174)):=by rw[GL,YP];exact Tryz.underlying174
  rw[run_sliceAt_array_l W 174 ⟨g,0,none⟩ ht .i64 (8- (m:Int)) (by omega) (by rw[GL];omega),YP]
  have hs:(sizeOf 173).run Tryz.prog W= .ok 1 W:=by kernel_rfl
  rw[hs,Result.andThen_ok,GL,slicedAt]
  have e:(8- (m:Int)).toNat=8-m:=by omega
  have e2:8- (8-m)=m:=by omega
  rw[e,e2]
theorem kW {α β:Type}(f:α->β)(l:List α)(o:Nat)(c:List α):splice (l.map f) o (c.map f)=(splice l o c).map f:=by
 unfold splice;simp[List.map_take,List.map_drop]
theorem oAg(b h:List UInt16)(hle:b.length+h.length<=8):splice (splice zG 0 b) (8-h.length) h=b++List.replicate (8- (b.length+h.length)) 0++h:=by
 unfold splice zG
 have e1:b++List.drop (0+b.length) (List.replicate 8 (0:UInt16))=b++List.replicate (8-b.length) 0:=by rw[Nat.zero_add,List.drop_replicate]
 have e2:([]:List UInt16)++(b++List.replicate (8-b.length) 0)=b++List.replicate (8-b.length) 0:=rfl
 rw[List.take_zero,e1,e2,List.take_append,List.take_of_length_le (by omega),List.take_replicate,List.drop_eq_nil_of_le (by simp;omega),List.append_nil]
 have e3:min (8-h.length-b.length) (8-b.length)=8- (b.length+h.length):=by omega
 rw[e3]
theorem nAp {w:World}{g:Nat}(b h:List UInt16)(hle:b.length+h.length<=8)(hw:w.heap[g]? =some (.cells (splice (splice (zG.map gC) 0 (b.map gC)) (8-h.length) (h.map gC)).toArray 174 (0,0))):
  Row w g 174 (NA (b++List.replicate (8- (b.length+h.length)) 0++h)):=by
 rw[kW,kW,oAg b h hle]at hw
 exact hw
theorem dAY(r:List UInt16): ∀v∈r.map gC,v.oneCell'=true:=by
 intro v hv;obtain⟨x,_,rfl⟩:=List.mem_map.1 hv;rfl
theorem qA1(s:ByteArray)(w:World)(hw:Std w)(hs:s.size<=1048576):
  Calls Tryz.prog 126 #[.string s] w (iB (aA.addrOf (aA.v6 s.data.toList)) (aA.v6 s.data.toList).isSome w):=by
 have hcs:=aA.gAy s.data.toList
 rw[Oct.nA]at hcs
 have HC:=zA7 (fun W (h:Std W)=>gAt s ⟨#[58,58]⟩ W h (by omega))
 have O2:(⟨#[58,58]⟩:ByteArray).data.toList= [58,58]:=rfl
 rw[O2]at HC
 clear O2
 generalize hcut:Lib.cut s.data.toList [58,58]=c at*
 obtain⟨b,h,gap⟩:=c
 have LO:=zA7 hcut
 clear hcut
 simp only at HC hcs
 have lb:=aA.cAH b
 have lh:=aA.cAH h
 obtain⟨sb,hsb⟩: ∃x:ByteArray,x=⟨b.toArray⟩:=⟨_,rfl⟩
 obtain⟨sh,hsh⟩: ∃x:ByteArray,x=⟨h.toArray⟩:=⟨_,rfl⟩
 have zb:sb.size=b.length:=by rw[hsb];exact List.size_toArray
 have zh:sh.size=h.length:=by rw[hsh];exact List.size_toArray
 have RB:=zA7 (fun W=>cAG sb W (by omega))
 have RH:=zA7 (fun W=>cAG sh W (by omega))
 have eb:sb.data.toList=b:=by rw[hsb]
 have eh:sh.data.toList=h:=by rw[hsh]
 rw[eb]at RB
 rw[eh]at RH
 rw[<-hsb,<-hsh]at HC
 clear hsb hsh zb zh eb eh
 have z1:=OI
 have z2:=dAX
 go_enter Tryz.func126,Tryz.ntmps126
 go_wp2_with fail
 have H0:=hw.below ((Below.refl _ _).alloc (zB3 _) (.cells (jA zA) 29))
 have R0:=Row.new w 29 (jA zA)
 have B0:=(Below.refl w.heap.size w).alloc (zB3 _) (.cells (jA zA) 29)
 have s0:w.heap.size<(w.alloc (.cells (jA zA) 29)).heap.size:=by simp
 generalize w.alloc (.cells (jA zA) 29)=w0 at*
 refine(HC.out _ H0).mono ?_
 rintro e w1 ⟨rfl,b1⟩
 have R1:=R0.stays b1
 have B1:=B0.trans (b1.mono (Nat.le_of_lt s0))
 have s1:=b1.size
 clear R0 B0 b1 HC H0
 go_wp2_with fail
 refine(RB.out _).mono ?_
 rintro e w2 hr
 obtain⟨b2,hr⟩:=hr.parts
 have R2:=R1.stays b2
 have B2:=B1.trans (b2.mono (by omega))
 have s2:=b2.size
 clear R1 B1 b2
 cases hf:aA.fits ((aA.row b).length+(aA.row h).length) gap with
 |true=>
  have hle:=aA.hAE hf
  have FT:=zA7 (fun W=>M4 (aA.row b).length (aA.row h).length gap W (by omega))
  rw[hf]at FT
  have HF:=zA7 hf
  clear hf
  rcases hr with⟨y1,rfl⟩|⟨y1,A,rfl,hA⟩
  ·have HN:=zA7 (uV (aA.KW LO.out (.inl y1)))
   clear y1
   go_wp2_with fail
   refine(RH.out _).mono ?_
   rintro e w3 hr
   obtain⟨b3,hr⟩:=hr.parts
   have R3:=R2.stays b3
   have B3:=B2.trans (b3.mono (by omega))
   clear R2 B2 b3
   rcases hr with⟨y2,rfl⟩|⟨y2,A2,rfl,hA2⟩
   all_goals
    clear y2
    go_wp2_with (refine wpList_store_row rfl 29 _ _ rfl w.heap.size (jA zA) rfl rfl 29 _ R3 xA rfl (jB _) ?_)
    rw[HN.out]
    exact bodyPost_ret (DA rfl _ _ w.heap.size _ _ _ rfl _ rfl (R3.whole _) Tryz.underlying29 rfl xA) rfl ⟨rfl,below_setRow B3 (zB3 _) _⟩
  ·have RK:=zA7 y1
   clear y1
   go_wp2_with fail
   refine(RH.out _).mono ?_
   rintro e w3 hr
   obtain⟨b3,hr⟩:=hr.parts
   have R3:=R2.stays b3
   have B3:=B2.trans (b3.mono (by omega))
   have hA3:0<(aA.row b).length-> ∃g,A=some ⟨g,0,none⟩/\w1.heap.size<=g/\Row w3 g 173 (NA (aA.row b)):=fun hp=>by
    obtain⟨g,e,hg,hr⟩:=hA hp
    exact⟨g,e,hg,hr.stays b3⟩
   have s3:=b3.size
   clear R2 B2 b3 hA
   rcases hr with⟨y2,rfl⟩|⟨y2,A2,rfl,hA2⟩
   ·have HN:=zA7 (uV (aA.KW LO.out (.inr (.inl y2))))
    clear y2
    go_wp2_with (refine wpList_store_row rfl 29 _ _ rfl w.heap.size (jA zA) rfl rfl 29 _ R3 xA rfl (jB _) ?_)
    rw[HN.out]
    exact bodyPost_ret (DA rfl _ _ w.heap.size _ _ _ rfl _ rfl (R3.whole _) Tryz.underlying29 rfl xA) rfl ⟨rfl,below_setRow B3 (zB3 _) _⟩
   ·have HS:=zA7 (aA.qA5 LO.out RK.out y2 HF.out)
    have HG:=zA7 (show(aA.row b++List.replicate (8- ((aA.row b).length+(aA.row h).length)) 0++aA.row h).length=8 by simp;omega)
    clear y2
    have HA3:=zA7 hA3
    have HA2:=zA7 hA2
    clear hA3 hA2
    have P1:=jZ (aA.row b) 8 (by omega)
    have P2:=kZ HA3.out ((Below.refl w3.heap.size w3).alloc (zB3 _) (.cells (NA zG) 174))
    have P3:=zA7 (show 0+((aA.row b).map gC).length<=(zG.map gC).length by simp[eA4];omega)
    have Q1:=jZ (aA.row h) (aA.row h).length (zB3 _)
    obtain⟨A3,hA3,hsl⟩:=cAV w3.heap.size (aA.row h).length (by omega)
    have HA4:=zA7 hA3
    clear hA3
    have Q3:=zA7 (show 8- (aA.row h).length+((aA.row h).map gC).length<=(splice (zG.map gC) 0 ((aA.row b).map gC)).length by rw[length_splice _ _ _ P3.out,List.length_map,List.length_map,eA4];omega)
    go_wp2_with (first
     |(go_at_call 166;refine(FT.out _).mono ?_;rintro e w4 ⟨rfl,rfl⟩)
     |(refine iA 47 rfl ?_
       refine wpList_copy_splice rfl (.tmp 45) (.tmp 46) 169 169 rfl 173 Tryz.underlying169 aAt (some ⟨w3.heap.size,0,none⟩) A 8 8 (aA.row b).length (aA.row b).length rfl rfl
        w3.heap.size 0 (zG.map gC) 174 (Row.new w3 174 (NA zG)) ((aA.row b).map gC) P1.out (fun hp=>⟨rfl,P2.out hp⟩) P3.out (dAY _) w3.heap.size _ (Below.refl _ _) (zB3 _) ?_
       intro w4 hw4 hb4
       have MH:=zA7 (((Below.refl w3.heap.size w3).alloc (zB3 _) (.cells (NA zG) 174)).trans hb4)
       have s4:w3.heap.size<w4.heap.size:=by have:=hb4.size;simp at this;omega
       have Q2:=kZ HA2.out MH.out
       clear hb4)
     |(refine iA 53 rfl ?_
       refine wpList_copy_splice rfl (.tmp 51) (.tmp 52) 169 169 rfl 173 Tryz.underlying169 aAt (some A3) A2 (aA.row h).length (aA.row h).length (aA.row h).length (aA.row h).length rfl rfl
        w3.heap.size (8- (aA.row h).length) (splice (zG.map gC) 0 ((aA.row b).map gC)) 174 hw4.out ((aA.row h).map gC) Q1.out (fun hp=>⟨by rw[HA4.out (by simpa using hp)],Q2.out hp⟩) Q3.out (dAY _) w3.heap.size _ (Below.refl _ _) (zB3 _) ?_
       intro w5 SN hb5
       have DK:=zA7 (MH.out.trans hb5)
       have R5:=nAp (aA.row b) (aA.row h) hle SN.out
       generalize aA.row b++List.replicate (8- ((aA.row b).length+(aA.row h).length)) 0++aA.row h=G at*
       have R6:=R3.stays DK.out
       have HT:=zA7 (fun W=>hAY G HG.out W)
       have HZ:=zA7 (show(NA G).size=8 by rw[EO,HG.out])
       clear hb5)
     |(refine iA 54 rfl ?_
       refine wpList_load_row rfl 174 _ rfl w3.heap.size rfl 174 _ (0,0) _ R5 Tryz.underlying174 rfl (by rw[HZ.out];exact xL) ?_)
     |(go_at_call 167
       refine(HT.out _).mono ?_
       rintro e w6 ⟨rfl,b6⟩
       have R7:=R6.stays b6
       have HZ2:=zA7 (show(jA (aA.from_ G)).size=16 by rw[BC,aA.oH,HG.out]))
     |(refine wpList_store_row rfl 29 _ _ rfl w.heap.size (jA (aA.from_ G)) rfl rfl 29 _ R7 (by rw[HZ2.out];exact xA) (by rw[HZ2.out];rfl) (jB _) ?_))
    rw[HS.out]
    have s35:w3.heap.size<=w5.heap.size:=DK.out.size
    have s03:w.heap.size<=w3.heap.size:=B3.size
    have B6:=B3.trans ((DK.out.trans (b6.mono s35)).mono s03)
    exact bodyPost_ret (DA rfl _ _ w.heap.size _ _ _ rfl _ rfl (R7.whole _) Tryz.underlying29 rfl (by rw[HZ2.out];exact xA)) rfl ⟨rfl,below_setRow B6 (zB3 _) _⟩
 |false=>
  have HN:=zA7 (uV (aA.KW LO.out (.inr (.inr hf))))
  have FT:=zA7 (fun W=>M4 (aA.row b).length (aA.row h).length gap W (by omega))
  rw[hf]at FT
  have HF:=zA7 hf
  clear hf
  rcases hr with⟨y1,rfl⟩|⟨y1,A,rfl,hA⟩
  all_goals
   have RK:=zA7 y1
   clear y1
   go_wp2_with fail
   refine(RH.out _).mono ?_
   rintro e w3 hr
   obtain⟨b3,hr⟩:=hr.parts
   have R3:=R2.stays b3
   have B3:=B2.trans (b3.mono (by omega))
   clear R2 B2 b3
   rcases hr with⟨y2,rfl⟩|⟨y2,A2,rfl,hA2⟩
   all_goals
    have HY2:=zA7 y2
    clear y2
    go_wp2_with (first
     |(go_at_call 166;refine(FT.out _).mono ?_;rintro e w4 ⟨rfl,rfl⟩)
     |(refine wpList_store_row rfl 29 _ _ rfl w.heap.size (jA zA) rfl rfl 29 _ R3 xA rfl (jB _) ?_))
    rw[HN.out]
    exact bodyPost_ret (DA rfl _ _ w.heap.size _ _ _ rfl _ rfl (R3.whole _) Tryz.underlying29 rfl xA) rfl ⟨rfl,below_setRow B3 (zB3 _) _⟩
end Go.Proofs.YtabgoobcliijeaaGreatDoor
namespace Go.Proofs.YtabgoobcliijeaaGreatDoor
open Go.RowKit
namespace aA
def nums(ps:List (List UInt8)):List UInt8:=ps.map fun p=>UInt8.ofNat (Oct.number p)
theorem nums_length(ps:List (List UInt8)):(nums ps).length=ps.length:=by simp[nums]
theorem bAB {ps:List (List UInt8)}{k:Nat}{p:List UInt8}(h:ps[k]? =some p):(nums ps)[k]? =some (UInt8.ofNat (Oct.number p)):=by simp[nums,h]
theorem dAD {s:List UInt8}(h:(Oct.split 46 s).length≠4):v4 s=none:=by unfold v4;rw[if_neg fun h1=>h h1.1]
theorem OR {s:List UInt8}{k:Nat}{p:List UInt8}(hp:(Oct.split 46 s)[k]? =some p)(hn:FE p=false):v4 s=none:=by
 unfold v4
 rw[if_neg fun h1=>?_]
 have:=List.all_eq_true.1 h1.2 p (List.mem_of_getElem? hp)
 rw[hn]at this;cases this
theorem dAE {s:List UInt8}(h:(Oct.split 46 s).length=4)(ha:(Oct.split 46 s).all FE=true):v4 s=some (nums (Oct.split 46 s)):=by unfold v4;rw[if_pos ⟨h,ha⟩];rfl
theorem bAv {ps:List (List UInt8)}{k:Nat}{p:List UInt8}(h:(ps.take k).all FE=true)(hp:ps[k]? =some p)(hq:FE p=true):(ps.take (k+1)).all FE=true:=by
 rw[List.all_eq_true]at h⊢
 exact Oct.cM (Q:=fun p=>FE p=true) h hp hq
theorem bAG(p:List UInt8):(FE p=false/\Oct.isNum p=false)\/(FE p=false/\Oct.isNum p=true/\255<Oct.number p)\/(FE p=true/\Oct.isNum p=true/\Oct.number p<=255):=by
 unfold FE
 cases h:Oct.isNum p
 ·exact .inl ⟨by simp,rfl⟩
 ·by_cases h2:Oct.number p<=255
  ·exact .inr (.inr ⟨by simp[h2],rfl,h2⟩)
  ·exact .inr (.inl ⟨by simp[h2],rfl,by omega⟩)
theorem bAA(p:List UInt8):Oct.number p<=999999999999999999:=by
 unfold Oct.number
 split
 ·rename_i h
  unfold Oct.isNum at h
  rw[Bool.and_eq_true,Bool.and_eq_true]at h
  obtain⟨⟨hd,hl⟩,_⟩:=h
  have hl:=zB1 hl
  have:=Oct.yV (s:=⟨p.toArray⟩) hd p.length (by show p.length<=p.toArray.size;simp)
  rw[List.take_of_length_le (by show p.toArray.toList.length<=_;simp)]at this
  have h2:10^p.length<=10^18:=Nat.pow_le_pow_right (by omega) hl
  have e:(⟨p.toArray⟩:ByteArray).data.toList=p:=rfl
  rw[e]at this
  omega
 ·omega
end aA
def zF:List UInt8:=List.replicate 4 0
theorem fAJ: #[Value.int .u8 0,.int .u8 0,.int .u8 0,.int .u8 0]=jA zF:=by rfl
theorem hAq(l:List UInt8):aA.fill l 0 4 0=zF:=aA.dI l 0 4
theorem jAJ:(Tryz.prog.info? 5).map (·.size)=some 1:=by kernel_rfl
theorem fAL(r:List UInt8): ∀v∈r.map OA,v.oneCell'=true:=by
 intro v hv;obtain⟨x,_,rfl⟩:=List.mem_map.1 hv;rfl
theorem oAf(l:List UInt8)(hl:l.length=4):splice zA 12 l=List.replicate 12 0++l:=by
 unfold splice zA
 rw[List.take_replicate,List.drop_eq_nil_of_le (by simp;omega),List.append_nil];rfl
theorem nAn {w:World}{g:Nat}(l:List UInt8)(hl:l.length=4)(hw:w.heap[g]? =some (.cells (splice (zA.map OA) 12 (l.map OA)).toArray 29 (0,0))):Row w g 29 (jA (List.replicate 12 0++l)):=by
 rw[kW,oAf l hl]at hw
 exact hw
theorem nAs {w:World}{g:Nat}{t:TypeId}{l:List UInt8}(h:Row w g t (jA l)): ∀j v,(l.map OA)[j]? =some v->w.cell? ((⟨g,0,none⟩:Addr).add j)=some v:=by
 intro j v hj
 rw[Addr.add_mid,Nat.zero_add,h.cell,jA,List.getElem?_toArray]
 exact hj
theorem pAV(s:ByteArray)(w:World)(hs:s.size<=1048576):
  Calls Tryz.prog 127 #[.string s] w (iB (aA.FD (aA.v4 s.data.toList)) (aA.v4 s.data.toList).isSome w):=by
 have hlen:=Oct.cJ 46 s.data.toList
 have hp:=Oct.eG 46 s.data.toList
 have hsm:=Oct.dJ 46 s.data.toList
 rw[Oct.nA]at hlen hsm
 obtain⟨ps,hps⟩: ∃ps,ps=Oct.split 46 s.data.toList:=⟨_,rfl⟩
 rw[<-hps]at hlen hp hsm
 have HP:=zA7 hps
 have JC:=zA7 hsm
 have HC: ∀W,Calls Tryz.prog 77 #[.string s,.int .u8 46] W (LI W.heap.size ps W):=fun W=>by rw[hps];exact lW s 46 W (by omega)
 have nC:=zA7 HC
 clear hps HC hsm
 have z1:=OI
 go_enter Tryz.func127,Tryz.ntmps127
 go_wp2_with fail
 have R0:=Row.new w 29 (jA zA)
 have B0:=(Below.refl w.heap.size w).alloc (zB3 _) (.cells (jA zA) 29)
 have s0:w.heap.size<(w.alloc (.cells (jA zA) 29)).heap.size:=by simp
 generalize w.alloc (.cells (jA zA) 29)=w0 at*
 refine(nC.out _).mono ?_
 rintro e w1 ⟨g,cap,rfl,hown,hb⟩
 have R1:=R0.stays hb
 have B1:=B0.trans (hb.mono (Nat.le_of_lt s0))
 have s1:=hb.size
 have hgl:=(hown.lt g rfl)
 clear R0 B0 hb
 by_cases h4:ps.length=4
 ·have HL:=zA7 h4
  have eU:((ps.length:Int) !=4)=false:=by rw[h4];rfl
  clear h4
  have z4:=fAJ
  go_wp2
  have hown2:=hown.alloc (.cells (jA zF) 176)
  have R2:=R1.alloc (.cells (jA zF) 176)
  have F2:=Row.new w1 176 (jA zF)
  rw[<-hAq (aA.nums ps)]at F2
  have B2:=B1.alloc (by omega) (.cells (jA zF) 176)
  have n1:w0.heap.size<=w1.heap.size:=s1
  generalize w1.heap.size=N at*
  clear hown R1 B1
  have XD:=zA7 (show(aA.nums ps).length=4 by rw[aA.nums_length,HL.out])
  go_loopw [16] (fun i wr=> ∃k:Nat,k<=4/\i= .int .i64 k/\wr.ownsRow w0.heap.size 9 1 (.slice (some ⟨g,0,none⟩) ps.length cap) ps.length (ps.map lA)/\Row wr w.heap.size 29 (jA zA)/\Row wr N 176 (jA (aA.fill (aA.nums ps) 0 4 k))/\(ps.take k).all aA.FE=true/\Below w.heap.size w wr) (fun i _=>4- (intOf i).toNat)
  case atStart=>exact⟨0,Nat.zero_le _,rfl,hown2,R2,F2,by simp,B2⟩
  case round=>
   clear hown2 R2 F2 B2
   obtain⟨k,hk,rfl,hown,R,F,hall,hb⟩:=hrel
   have HA:=zA7 hall
   clear hall
   by_cases hlt:k<4
   ·have hkl:k<ps.length:=by rw[HL.out];exact hlt
    obtain⟨p,t,h1,hcell,h3,_,h5⟩:=PL hown hkl
    have hpl:=JC.out p (List.mem_of_getElem? h1)
    have ht:t.size<=maxLen:=by unfold maxLen;omega
    have HC:=zA7 (fun W=>lAl t W ht)
    rw[h3]at HC
    have H1:=zA7 h1
    have hbig:=aA.bAA p
    clear h1 h3 h5 hpl ht
    rcases aA.bAG p with⟨hk1,hk2⟩|⟨hk1,hk2,hk3⟩|⟨hk1,hk2,hk3⟩
    ·have HN:=zA7 (show iB (aA.FD (aA.v4 s.data.toList)) (aA.v4 s.data.toList).isSome=iB zA false by rw[aA.OR (by rw[<-HP.out];exact H1.out) hk1];rfl)
     rw[hk2]at HC
     clear hk1 hk2
     go_wp2_with (first
      |(go_at_call 168;refine(HC.out _).mono ?_;rintro e w' ⟨rfl,rfl⟩)
      |(refine wpList_store_row rfl 29 _ _ rfl w.heap.size (jA zA) rfl rfl 29 _ R xA rfl (jB _) ?_))
     rw[HN.out]
     exact bodyPost_ret (DA rfl _ _ w.heap.size _ _ _ rfl _ rfl (R.whole _) Tryz.underlying29 rfl xA) rfl ⟨rfl,below_setRow hb (zB3 _) _⟩
    ·have HN:=zA7 (show iB (aA.FD (aA.v4 s.data.toList)) (aA.v4 s.data.toList).isSome=iB zA false by rw[aA.OR (by rw[<-HP.out];exact H1.out) hk1];rfl)
     rw[hk2]at HC
     clear hk1 hk2
     go_wp2_with (first
      |(go_at_call 168;refine(HC.out _).mono ?_;rintro e w' ⟨rfl,rfl⟩)
      |(refine wpList_store_row rfl 29 _ _ rfl w.heap.size (jA zA) rfl rfl 29 _ R xA rfl (jB _) ?_))
     rw[HN.out]
     exact bodyPost_ret (DA rfl _ _ w.heap.size _ _ _ rfl _ rfl (R.whole _) Tryz.underlying29 rfl xA) rfl ⟨rfl,below_setRow hb (zB3 _) _⟩
    ·rw[hk2]at HC
     have kJ:=zA7 (aA.bAv HA.out H1.out hk1)
     have hw:=aA.bAB H1.out
     have hv:Value.int .u8 (Oct.number p:Int)=OA (UInt8.ofNat (Oct.number p)):=by unfold OA;rw[UInt8.toNat_ofNat'];exact IA (by omega)
     have hfl:=aA.QI (z:=(0:UInt8)) (n:=4) (k:=k) XD.out hk
     obtain⟨u1,c1⟩: ∃u,wr.cell? ⟨N,k,none⟩=some u:=⟨_,by rw[F.cell];exact Array.getElem?_eq_getElem (by rw[BC,hfl];exact hlt)⟩
     have f1:=F.free k
     have F3:=F.set k (OA (UInt8.ofNat (Oct.number p)))
     rw[IJ,aA.mH XD.out hlt hw,<-hv]at F3
     have B3:=hb.setCell (p:=⟨N,k,none⟩) (by simp;omega) (.int .u8 (Oct.number p:Int))
     have R3:=R.other (p:=⟨N,k,none⟩) (by simp;omega) (.int .u8 (Oct.number p:Int))
     have O3:=QL hown (p:=⟨N,k,none⟩) (by simp[Value.ownBlock];omega) (.int .u8 (Oct.number p:Int))
     clear hk1 hk2 hw hv hfl F hb R hown
     generalize Oct.number p=x at*
     go_wp2_with (go_at_call 168;refine(HC.out _).mono ?_;rintro e w' ⟨rfl,rfl⟩)
     go_roundw
     case rel=>exact⟨k+1,by omega,by go_num,O3,R3,F3,kJ.out,B3⟩
     case measure=>simp[intOf];omega
   ·have hkk:k=4:=by omega
    subst hkk
    rw[aA.PI XD.out]at F
    have HS:=zA7 (show aA.v4 s.data.toList=some (aA.nums ps) by
     have:=aA.dAE (s:=s.data.toList) (by rw[<-HP.out];exact HL.out) (by rw[<-HP.out];have:=HA.out;rw[List.take_of_length_le (by have:=HL.out;omega)]at this;exact this)
     rw[<-HP.out]at this
     exact this)
    have P1:=zA7 (show((aA.nums ps).map OA).length=Nat.min 4 4 by rw[List.length_map,XD.out];rfl)
    have P3:=zA7 (show 12+((aA.nums ps).map OA).length<=(zA.map OA).length by rw[List.length_map,List.length_map,XD.out,qAx];exact zB3 16)
    have P2:=zA7 (nAs ((F.alloc (.cells (jA zA) 29)).drew))
    have PN:=zA7 ((Row.new wr 29 (jA zA)).drew)
    have BB:=zA7 (((Below.refl wr.heap.size wr).alloc (zB3 _) (.cells (jA zA) 29)).drew)
    have sB:=hb.size
    go_wp2
    go_region_held3 (fun _=>True) (trivial) ((refine step_copy_splice (by rfl) (.tmp 39) (.tmp 40) 110 110 (by rfl) 5 Tryz.underlying110 jAJ (some ⟨wr.heap.size,12,none⟩) (some ⟨N,0,none⟩) 4 4 4 4 (by rfl) (by rfl) wr.heap.size 12 (zA.map OA) 29 PN.out ((aA.nums ps).map OA) P1.out (fun _=>⟨rfl,_,rfl,P2.out⟩) P3.out (fAL _) wr.heap.size _ (Below.refl _ _) (zB3 _) ?_;intro w5 SN hb5))
    all_goals
     have R5:=nAn (aA.nums ps) XD.out SN.out
     have H5:=zA7 (BB.out.trans hb5)
     have R6:=R.stays H5.out
     have HZ:=zA7 (show(jA (List.replicate 12 0++aA.nums ps)).size=16 by rw[BC,zB4,XD.out,List.length_replicate])
     have HD:=zA7 (show aA.FD (some (aA.nums ps))=List.replicate 12 0++aA.nums ps from rfl)
     generalize List.replicate 12 0++aA.nums ps=G at*
     have B6:=hb.trans (H5.out.mono sB)
     clear hb5 SN hown F
     go_wp2_with (first
      |(refine iA 42 rfl ?_
        refine wpList_load_row rfl 29 _ rfl wr.heap.size rfl 29 _ (0,0) _ R5 Tryz.underlying29 rfl (by rw[HZ.out];exact xA) ?_)
      |(refine wpList_store_row rfl 29 _ _ rfl w.heap.size (jA G) rfl rfl 29 _ R6 (by rw[HZ.out];exact xA) (by rw[HZ.out];rfl) (jB _) ?_))
     rw[HS.out,HD.out]
     exact bodyPost_ret (DA rfl _ _ w.heap.size _ _ _ rfl _ rfl (R6.whole _) Tryz.underlying29 rfl (by rw[HZ.out];exact xA)) rfl ⟨rfl,below_setRow B6 (zB3 _) _⟩
 ·have HN:=zA7 (show iB (aA.FD (aA.v4 s.data.toList)) (aA.v4 s.data.toList).isSome=iB zA false by rw[aA.dAD (by rw[<-HP.out];exact h4)];rfl)
  have eU:((ps.length:Int) !=4)=true:=by rw[bne_iff_ne];omega
  clear h4
  go_wp2_with (refine wpList_store_row rfl 29 _ _ rfl w.heap.size (jA zA) rfl rfl 29 _ R1 xA rfl (jB _) ?_)
  rw[HN.out]
  exact bodyPost_ret (DA rfl _ _ w.heap.size _ _ _ rfl _ rfl (R1.whole _) Tryz.underlying29 rfl xA) rfl ⟨rfl,below_setRow B1 (zB3 _) _⟩
end Go.Proofs.YtabgoobcliijeaaGreatDoor
namespace Go.Proofs.YtabgoobcliijeaaGreatDoor
open Go.RowKit
namespace dA
theorem oAp {l:List UInt8}(h:l.getLast?=some 93):Lib.hasSuffix l [93]=true/\Lib.trimSuffix l [93]=l.dropLast:=by
 obtain⟨r,rfl⟩: ∃r,l=r++ [93]:=by
  rcases List.eq_nil_or_concat l with rfl|⟨r,c,rfl⟩
  ·cases h
  ·rw[List.concat_eq_append,List.getLast?_append]at h
   simp at h
   exact⟨r,by rw[List.concat_eq_append,h]⟩
 have e:Lib.hasSuffix (r++ [93]) [93]=true:=by unfold Lib.hasSuffix;exact List.isSuffixOf_iff_suffix.2 ⟨r,rfl⟩
 refine⟨e,?_⟩
 unfold Lib.trimSuffix
 rw[if_pos e]
 simp
theorem oAn {l:List UInt8}(h:l.getLast?≠some 93):Lib.hasSuffix l [93]=false:=by
 cases e:Lib.hasSuffix l [93]with
 |false=>rfl
 |true=>
  obtain⟨r,rfl⟩:=List.isSuffixOf_iff_suffix.1 e
  exact absurd (by simp) h
theorem LW(l:List UInt8):VD l=if(Lib.hasSuffix l [93]&& (aA.v6 (Lib.trimSuffix l [93])).isSome)=true then some ⟨3,[],aA.addrOf (aA.v6 (Lib.trimSuffix l [93]))⟩else none:=by
 unfold VD
 by_cases h:l.getLast?=some 93
 ·obtain⟨e1,e2⟩:=oAp h
  rw[if_pos h,e1,e2]
  cases aA.v6 l.dropLast<;>rfl
 ·rw[if_neg h,oAn h];rfl
theorem PR(l:List UInt8):IE l=if(aA.v4 l).isSome=true then some ⟨2,[],aA.FD (aA.v4 l)⟩else none:=by
 unfold IE
 cases aA.v4 l<;>rfl
theorem fT(s:List UInt8):(aA.FD (aA.v4 s)).length=16:=by
 unfold aA.v4
 split
 ·next h=>show(List.replicate 12 0++_).length=16;rw[zB4,List.length_replicate,List.length_map,h.1]
 ·rfl
end dA
theorem iAX(r:ByteArray)(w:World)(hw:Std w)(hs:r.size<=1048576):
  Calls Tryz.prog 90 #[.string r] w (zC (dA.VD r.data.toList) w):=by
 have z0:=BD
 have z1:=OI
 have HZ0:=zA7 (show(fA dA.zero).size=18 from rfl)
 have H1:=zA7 (fun W=>Tryz.strings_CutSuffix r ⟨#[93]⟩ W (by omega))
 have hle:=Lib.trimSuffix_le r.data.toList [93]
 rw[Oct.nA]at hle
 have H2:=zA7 (fun W h=>qA1 ⟨(Lib.trimSuffix r.data.toList [93]).toArray⟩ W h (by show(List.toArray _).size<=_;simp;omega))
 have HN:=zA7 (dA.LW r.data.toList)
 have ha:(aA.addrOf (aA.v6 (Lib.trimSuffix r.data.toList [93]))).length=16:=aA.gT _
 have e1:(⟨#[93]⟩:ByteArray).data.toList= [93]:=rfl
 have e2:(⟨(Lib.trimSuffix r.data.toList [93]).toArray⟩:ByteArray).data.toList=Lib.trimSuffix r.data.toList [93]:=rfl
 rw[e1]at H1
 rw[e2]at H2
 generalize dA.VD r.data.toList=V at*
 generalize aA.addrOf (aA.v6 (Lib.trimSuffix r.data.toList [93]))=a at*
 generalize(aA.v6 (Lib.trimSuffix r.data.toList [93])).isSome=ok at*
 generalize Lib.hasSuffix r.data.toList [93]=closed at*
 generalize(⟨(Lib.trimSuffix r.data.toList [93]).toArray⟩:ByteArray)=i at*
 clear hle e1 e2
 have QE:=zA7 (show(jA a).size=16 by rw[BC,ha])
 have HH:=zA7 (QA ⟨3,[],a⟩ ha)
 have HB:=zA7 (DP 3 a ha)
 clear ha
 go_enter Tryz.func90,Tryz.ntmps90
 go_wp2_with fail
 have R0:=Row.new w 31 (fA dA.zero)
 have B0:=(Below.refl w.heap.size w).alloc (zB3 _) (.cells (fA dA.zero) 31)
 generalize w.alloc (.cells (fA dA.zero) 31)=w0 at*
 refine(H1.out _).mono ?_
 rintro e v1 ⟨rfl,rfl⟩
 go_wp2_with fail
 refine(H2.out _ (hw.below B0)).mono ?_
 rintro e v2 ⟨rfl,d2⟩
 have R1:=R0.stays d2
 have B1:=B0.trans (d2.mono B0.size)
 obtain⟨T,U,C,L⟩:=JA 29 (jA zA) (jA a) B1 B1.size
 have R2:=L _ _ _ R1
 clear L R0 R1 B0 B1 d2
 cases closed<;>cases ok
 all_goals
  go_wp2_with (first
   |(refine wpList_store_row rfl 29 _ _ rfl v2.heap.size (jA a) rfl rfl 29 _ T (by rw[QE.out];exact xA) (by rw[QE.out];rfl) (jB _) ?_)
   |(refine iA 25 rfl ?_;refine qA rfl 29 _ rfl v2.heap.size rfl U Tryz.underlying29 rfl (by rw[QE.out];exact xA) ?_)
   |(refine iA 26 rfl ?_;refine DF rfl 31 0 2 _ _ rfl _ _ rfl rfl (fA ⟨3,[],a⟩) HB.out ?_)
   |(refine wpList_store_row rfl 31 _ _ rfl w.heap.size (fA dA.zero) rfl rfl 31 _ R2 (by rw[HZ0.out];exact tA) rfl (aB _) ?_)
   |(refine wpList_store_row rfl 31 _ _ rfl w.heap.size (fA ⟨3,[],a⟩) rfl rfl 31 _ R2 (by rw[HH.out];exact tA) (by rw[HH.out];rfl) (aB _) ?_))
  rw[HN.out]
  first
   |exact bodyPost_ret (v:= .tuple #[.agg (fA dA.zero),.int .i64 31]) (DA rfl _ _ w.heap.size _ _ _ rfl _ rfl (R2.whole _) Tryz.underlying31 rfl (by rw[HZ0.out];exact tA)) rfl ⟨rfl,below_setRow C (zB3 _) _⟩
   |exact bodyPost_ret (v:= .tuple #[.agg (fA ⟨3,[],a⟩),.int .i64 0]) (DA rfl _ _ w.heap.size _ _ _ rfl _ rfl (R2.whole _) Tryz.underlying31 rfl (by rw[HH.out];exact tA)) rfl ⟨rfl,below_setRow C (zB3 _) _⟩
theorem lAp(s:ByteArray)(w:World)(hs:s.size<=1048576):
  Calls Tryz.prog 92 #[.string s] w (zC (dA.IE s.data.toList) w):=by
 have z0:=BD
 have z1:=OI
 have HZ0:=zA7 (show(fA dA.zero).size=18 from rfl)
 have H2:=zA7 (fun W=>pAV s W hs)
 have HN:=zA7 (dA.PR s.data.toList)
 have ha:(aA.FD (aA.v4 s.data.toList)).length=16:=dA.fT _
 generalize dA.IE s.data.toList=V at*
 generalize aA.FD (aA.v4 s.data.toList)=a at*
 generalize(aA.v4 s.data.toList).isSome=ok at*
 have QE:=zA7 (show(jA a).size=16 by rw[BC,ha])
 have HH:=zA7 (QA ⟨2,[],a⟩ ha)
 have HB:=zA7 (DP 2 a ha)
 clear ha
 go_enter Tryz.func92,Tryz.ntmps92
 go_wp2_with fail
 have R0:=Row.new w 31 (fA dA.zero)
 have B0:=(Below.refl w.heap.size w).alloc (zB3 _) (.cells (fA dA.zero) 31)
 generalize w.alloc (.cells (fA dA.zero) 31)=w0 at*
 refine(H2.out _).mono ?_
 rintro e v2 ⟨rfl,d2⟩
 have R1:=R0.stays d2
 have B1:=B0.trans (d2.mono B0.size)
 obtain⟨T,U,C,L⟩:=JA 29 (jA zA) (jA a) B1 B1.size
 have R2:=L _ _ _ R1
 clear L R0 R1 B0 B1 d2
 cases ok
 all_goals
  go_wp2_with (first
   |(refine wpList_store_row rfl 29 _ _ rfl v2.heap.size (jA a) rfl rfl 29 _ T (by rw[QE.out];exact xA) (by rw[QE.out];rfl) (jB _) ?_)
   |(refine iA 14 rfl ?_;refine qA rfl 29 _ rfl v2.heap.size rfl U Tryz.underlying29 rfl (by rw[QE.out];exact xA) ?_)
   |(refine iA 15 rfl ?_;refine DF rfl 31 0 2 _ _ rfl _ _ rfl rfl (fA ⟨2,[],a⟩) HB.out ?_)
   |(refine wpList_store_row rfl 31 _ _ rfl w.heap.size (fA dA.zero) rfl rfl 31 _ R2 (by rw[HZ0.out];exact tA) rfl (aB _) ?_)
   |(refine wpList_store_row rfl 31 _ _ rfl w.heap.size (fA ⟨2,[],a⟩) rfl rfl 31 _ R2 (by rw[HH.out];exact tA) (by rw[HH.out];rfl) (aB _) ?_))
  rw[HN.out]
  first
   |exact bodyPost_ret (v:= .tuple #[.agg (fA dA.zero),.int .i64 31]) (DA rfl _ _ w.heap.size _ _ _ rfl _ rfl (R2.whole _) Tryz.underlying31 rfl (by rw[HZ0.out];exact tA)) rfl ⟨rfl,below_setRow C (zB3 _) _⟩
   |exact bodyPost_ret (v:= .tuple #[.agg (fA ⟨2,[],a⟩),.int .i64 0]) (DA rfl _ _ w.heap.size _ _ _ rfl _ rfl (R2.whole _) Tryz.underlying31 rfl (by rw[HH.out];exact tA)) rfl ⟨rfl,below_setRow C (zB3 _) _⟩
end Go.Proofs.YtabgoobcliijeaaGreatDoor
namespace Go.Proofs.YtabgoobcliijeaaGreatDoor
open Go.RowKit
theorem lAs(c:UInt8)(w:World):
  Calls Tryz.prog 130 #[.int .u8 (c.toNat:Int)] w fun e w'=>e= .returned (.bool (dA.okB c))/\w=w':=by
 have hc:c.toNat<256:=c.toNat_lt
 go_enter Tryz.func130,Tryz.ntmps130
 go_wp2
 all_goals
  go_ret
  exact⟨vA (by rw[Bool.eq_iff_iff];simp[dA.okB];omega),rfl⟩
theorem xY(c:UInt8)(w:World):
  Calls Tryz.prog 129 #[.int .u8 (c.toNat:Int)] w fun e w'=>e= .returned (.bool (!dA.okB c))/\w=w':=by
 go_enter Tryz.func129,Tryz.ntmps129
 go_wp2_with (go_at_call 130;refine(lAs _ _).mono ?_;rintro e w' ⟨rfl,rfl⟩)
 go_ret
 exact⟨rfl,rfl⟩
theorem BY {α:Type}{p:α->Bool}{l:List α}{k:Nat}{x:α}(h:l[k]? =some x)(hp:p x=true):l.any p=true:=
 List.any_eq_true.2 ⟨x,List.mem_of_getElem? h,hp⟩
theorem CY {α:Type}{p:α->Bool}{l:List α}{k:Nat}(hk:l.length<=k)(h: ∀x∈l.take k,p x=false):l.any p=false:=by
 rw[List.take_of_length_le hk]at h
 rw[List.any_eq_false]
 intro x hx
 rw[h x hx];simp
theorem AY {α:Type}(p:α->Bool)(l:List α):(l.any fun x=> !p x)= !l.all p:=by
 induction l with
 |nil=>rfl
 |cons a l ih=>rw[List.any_cons,List.all_cons,ih,Bool.not_and]
theorem jAn(w:World)(g n cap:Nat)(l:List UInt8)(hn:l.length=n)(hl:n<=1099511627776)(hB:Bytes w g l):
  Calls Tryz.prog 169 #[.slice (some ⟨g,0,none⟩) n cap,.func (.func 129) #[] #[]] w fun e w'=>(∃r:Int,e= .returned (.int .i64 r)/\decide (0<=r)=l.any (fun c=> !dA.okB c))/\w=w':=by
 go_enter Tryz.func169,Tryz.ntmps169
 go_wp2
 go_loop [5,8] (fun _ i=> ∃k:Nat,k<=n/\i= .int .i64 k/\ ∀c∈l.take k,(!dA.okB c)=false) (fun _ i=>n- (intOf i).toNat)
 case atStart=>exact⟨0,Nat.zero_le _,rfl,by simp⟩
 case round=>
  obtain⟨k,hk,rfl,hall⟩:=hrel
  have HA:=zA7 hall
  clear hall
  by_cases hlt:k<n
  ·obtain⟨c,hc⟩: ∃c,l[k]? =some c:=⟨_,List.getElem?_eq_getElem (by omega)⟩
   have hcell:=hB.cell k c hc
   unfold OA at hcell
   have HC:=zA7 hc
   clear hc hB
   cases hq:dA.okB c with
   |true=>
    go_wp2_with (go_at_call 129;refine(xY _ _).mono ?_;rintro e w' ⟨rfl,rfl⟩;rw[hq])
    go_round
    case rel=>exact⟨k+1,by omega,by go_num,Oct.cM HA.out HC.out (by rw[hq];rfl)⟩
    case measure=>simp[intOf];omega
   |false=>
    go_wp2_with (go_at_call 129;refine(xY _ _).mono ?_;rintro e w' ⟨rfl,rfl⟩;rw[hq])
    go_ret
    exact⟨⟨k,rfl,by rw[BY (p:=fun c=> !dA.okB c) HC.out (by show(!dA.okB c)=true;rw[hq];rfl)];simp⟩,rfl⟩
  ·go_wp2
   go_ret
   exact⟨⟨-1,rfl,by rw[CY (k:=k) (by omega) HA.out];rfl⟩,rfl⟩
theorem gA8(w:World)(g n cap:Nat)(l:List UInt8)(hn:l.length=n)(hl:n<=1099511627776)(hB:Bytes w g l):
  Calls Tryz.prog 131 #[.slice (some ⟨g,0,none⟩) n cap,.func (.func 129) #[] #[]] w fun e w'=>e= .returned (.bool (l.any (fun c=> !dA.okB c)))/\w=w':=by
 have HC:=zA7 (jAn w g n cap l hn hl hB)
 go_enter Tryz.func131,Tryz.ntmps131
 go_wp2_with (go_at_call 169;refine HC.out.mono ?_;rintro e w' ⟨⟨r,rfl,hr⟩,rfl⟩)
 go_ret
 exact⟨rfl,rfl⟩
theorem qAt(s:ByteArray)(w:World)(hs:s.size<=1099511627776):
  Calls Tryz.prog 128 #[.string s] w fun e w'=>e= .returned (.bool (!dA.lab s.data.toList))/\Below w.heap.size w w':=by
 have hcv:=fun W=>run_bytes_of_string (P:=Tryz.prog) W 9 110 5 s Tryz.underlying9 Tryz.underlying110 Tryz.underlying5
 have HL:=zA7 (Oct.nA s)
 by_cases h0:s.size=0
 ·have e0:s.toList= []:=(Oct.bAn s).2 ((Oct.UC s).2 h0)
  go_enter Tryz.func128,Tryz.ntmps128
  go_wp2
  go_ret
  exact⟨vA (by unfold dA.lab;rw[HL.out];simp[h0]),Below.refl _ _⟩
 ·have e0:s.toList.isEmpty=false:=by
   cases e:s.toList with
   |nil=>exact absurd ((Oct.UC s).1 ((Oct.bAn s).1 e)) h0
   |cons=>rfl
  by_cases h1:s.size<=63
  ·have HB:=zA7 (Bytes.new w s)
   generalize s.data.toList=l at*
   go_enter Tryz.func128,Tryz.ntmps128
   go_wp2_with (go_at_call 131;refine(gA8 _ w.heap.size s.size _ l HL.out (by omega) (HB.out _ _)).mono ?_;rintro e w' ⟨rfl,rfl⟩)
   go_ret
   exact⟨vA (by rw[zA8 (show¬(63:Int)<(s.size:Int) by omega),AY];unfold dA.lab;rw[HL.out,zA9 (show 1<=s.size/\s.size<=63 by omega)];rfl),((Below.refl _ w).alloc (zB3 _) _).drew⟩
  ·go_enter Tryz.func128,Tryz.ntmps128
   go_wp2
   go_ret
   exact⟨vA (by unfold dA.lab;rw[HL.out,zA8 (show¬(1<=s.size/\s.size<=63) by omega)];rfl),Below.refl _ _⟩
theorem jAp(w:World)(B g n cap:Nat)(ps:List (List UInt8))(hn:ps.length=n)(hl:n<=1099511627776)(hz: ∀p∈ps,p.length<=1099511627776)(hown:w.ownsRow B 9 1 (.slice (some ⟨g,0,none⟩) n cap) n (ps.map lA)):
  Calls Tryz.prog 170 #[.slice (some ⟨g,0,none⟩) n cap,.func (.func 128) #[] #[]] w fun e w'=>(∃r:Int,e= .returned (.int .i64 r)/\decide (0<=r)=ps.any (fun p=> !dA.lab p))/\Below w.heap.size w w':=by
 subst hn
 have HO:=zA7 hown
 have HZ:=zA7 hz
 clear hown hz
 go_enter Tryz.func170,Tryz.ntmps170
 go_wp2
 go_loopw [5,8] (fun _ i wr=> ∃k:Nat,k<=ps.length/\i= .int .i64 k/\(∀p∈ps.take k,(!dA.lab p)=false)/\Below w.heap.size w wr) (fun _ i _=>ps.length- (intOf i).toNat)
 case atStart=>exact⟨0,Nat.zero_le _,rfl,by simp,Below.refl _ _⟩
 case round=>
  obtain⟨k,hk,rfl,hall,hb⟩:=hrel
  have HA:=zA7 hall
  clear hall
  by_cases hlt:k<ps.length
  ·obtain⟨p,s,hp,hcell,hd,_,hsz⟩:=PL (NG HO.out hb) hlt
   have hps:=HZ.out p (List.mem_of_getElem? hp)
   have HP:=zA7 hp
   have hw:=fun W=>qAt s W (by omega)
   rw[hd]at hw
   clear hp hd
   cases hq:dA.lab p with
   |true=>
    rw[hq]at hw
    have HW:=zA7 hw
    clear hw
    go_wp2_with (go_at_call 128;refine(HW.out _).mono ?_;rintro e w' ⟨rfl,hb2⟩)
    go_roundw
    case rel=>exact⟨k+1,by omega,by go_num,Oct.cM HA.out HP.out (by rw[hq];rfl),hb.trans (hb2.mono hb.size)⟩
    case measure=>simp[intOf];omega
   |false=>
    rw[hq]at hw
    have HW:=zA7 hw
    clear hw
    go_wp2_with (go_at_call 128;refine(HW.out _).mono ?_;rintro e w' ⟨rfl,hb2⟩)
    go_ret
    exact⟨⟨k,rfl,by rw[BY (p:=fun p=> !dA.lab p) HP.out (by show(!dA.lab p)=true;rw[hq];rfl)];simp⟩,hb.trans (hb2.mono hb.size)⟩
  ·go_wp2
   go_ret
   exact⟨⟨-1,rfl,by rw[CY (k:=k) (by omega) HA.out];rfl⟩,hb⟩
theorem gA9(w:World)(B g n cap:Nat)(ps:List (List UInt8))(hn:ps.length=n)(hl:n<=1099511627776)(hz: ∀p∈ps,p.length<=1099511627776)(hown:w.ownsRow B 9 1 (.slice (some ⟨g,0,none⟩) n cap) n (ps.map lA)):
  Calls Tryz.prog 132 #[.slice (some ⟨g,0,none⟩) n cap,.func (.func 128) #[] #[]] w fun e w'=>e= .returned (.bool (ps.any (fun p=> !dA.lab p)))/\Below w.heap.size w w':=by
 have HC:=zA7 (jAp w B g n cap ps hn hl hz hown)
 clear hown
 go_enter Tryz.func132,Tryz.ntmps132
 go_wp2_with (go_at_call 170;refine HC.out.mono ?_;rintro e w' ⟨⟨r,rfl,hr⟩,hb⟩)
 go_ret
 exact⟨rfl,hb⟩
theorem lA0(w:World)(B g n cap:Nat)(ps:List (List UInt8))(hn:ps.length=n)(hl:n<=1099511627776)(hz: ∀p∈ps,p.length<=1099511627776)(hown:w.ownsRow B 9 1 (.slice (some ⟨g,0,none⟩) n cap) n (ps.map lA)):
  Calls Tryz.prog 93 #[.slice (some ⟨g,0,none⟩) n cap] w fun e w'=>e= .returned (.bool (ps.all dA.lab))/\Below w.heap.size w w':=by
 have HC:=zA7 (gA9 w B g n cap ps hn hl hz hown)
 clear hown
 go_enter Tryz.func93,Tryz.ntmps93
 go_wp2_with (go_at_call 132;refine HC.out.mono ?_;rintro e w' ⟨rfl,hb⟩)
 go_ret
 exact⟨vA (by rw[AY,Bool.not_not]),hb⟩
end Go.Proofs.YtabgoobcliijeaaGreatDoor
namespace Go.Proofs.YtabgoobcliijeaaGreatDoor
open Go.RowKit
namespace dA
theorem mAf {l:List UInt8}(h:l.head?=some 91):Lib.hasPrefix l [91]=true/\Lib.trimPrefix l [91]=l.tail:=by
 cases l with
 |nil=>cases h
 |cons c r=>
  simp at h
  subst h
  exact⟨rfl,rfl⟩
theorem mAd {l:List UInt8}(h:l.head?≠some 91):Lib.hasPrefix l [91]=false:=by
 cases l with
 |nil=>rfl
 |cons c r=>
  have hn:(91:UInt8)≠c:=fun e=>h (by rw[<-e];rfl)
  show((91:UInt8)==c&&_)=false
  rw[beq_eq_false_iff_ne.2 hn];rfl
def code(o:Option Host):Int:=if o.isSome then 0 else 31
def host(o:Option Host):Host:=o.getD zero
theorem dAJ(l:List UInt8):(host (VD l)).addr.length=16:=by
 rw[LW]
 split
 ·exact aA.gT _
 ·rfl
theorem dAF(l:List UInt8):(host (IE l)).addr.length=16:=by
 rw[PR]
 split
 ·exact fT _
 ·rfl
theorem GF(l:List UInt8):(host (parse l)).addr.length=16:=by
 unfold parse
 split
 ·rfl
 ·split
  ·exact dAJ _
  ·split
   ·exact dAF _
   ·split<;>rfl
end dA
theorem YF {o:Option dA.Host}{w w':World}{h:dA.Host}{c:Int}(hh:dA.host o=h)(hc:dA.code o=c)(hb:Below w.heap.size w w'):zC o w (.returned (.tuple #[.agg (fA h),.int .i64 c])) w':=by
 subst hh;subst hc;exact⟨rfl,hb⟩
theorem LG {o:Option dA.Host}{w w':World}{e:Ending}(h:zC o w e w'):e= .returned (.tuple #[.agg (fA (dA.host o)),.int .i64 (dA.code o)])/\Below w.heap.size w w':=h
theorem dR(s:ByteArray)(w:World)(hw:Std w)(hs:s.size<=1048576):
  Calls Tryz.prog 56 #[.string s] w (zC (dA.parse s.data.toList) w):=by
 have z0:=BD
 have HZ0:=zA7 (show(fA dA.zero).size=18 from rfl)
 have hl:=Oct.nA s
 by_cases hbig:253<s.size
 ·have HN:=zA7 (show dA.parse s.data.toList=none by unfold dA.parse;rw[if_pos (by omega)])
  have wU:(253:Int)<(s.size:Int):=by omega
  clear hl
  go_enter Tryz.func56,Tryz.ntmps56
  have R0:=Row.new w 31 (fA dA.zero)
  have B0:=(Below.refl w.heap.size w).alloc (zB3 _) (.cells (fA dA.zero) 31)
  go_wp2_with (first
   |(refine wpList_store_row rfl 31 _ _ rfl w.heap.size (fA dA.zero) rfl rfl 31 _ R0 (by rw[HZ0.out];exact tA) rfl (aB _) ?_))
  rw[HN.out]
  exact bodyPost_ret (v:= .tuple #[.agg (fA dA.zero),.int .i64 31]) (DA rfl _ _ w.heap.size _ _ _ rfl _ rfl (R0.whole _) Tryz.underlying31 rfl (by rw[HZ0.out];exact tA)) rfl (YF rfl rfl (below_setRow B0 (zB3 _) _))
 have wU: ¬(253:Int)<(s.size:Int):=by omega
 have H1:=zA7 (fun W=>Tryz.strings_CutPrefix s ⟨#[91]⟩ W)
 have e1:(⟨#[91]⟩:ByteArray).data.toList= [91]:=rfl
 rw[e1]at H1
 clear e1
 by_cases hhead:s.data.toList.head?=some 91
 ·obtain⟨p1,p2⟩:=dA.mAf hhead
  rw[p1,p2]at H1
  have HN:=zA7 (show dA.parse s.data.toList=dA.VD s.data.toList.tail by unfold dA.parse;rw[if_neg (by omega),if_pos hhead])
  have hx:=dA.dAJ s.data.toList.tail
  have H2:=zA7 (fun W h=>(iAX ⟨s.data.toList.tail.toArray⟩ W h (by show(List.toArray _).size<=_;simp;omega)).mono fun e w' h=>LG h)
  have e2:(⟨s.data.toList.tail.toArray⟩:ByteArray).data.toList=s.data.toList.tail:=rfl
  rw[e2]at H2
  rw[HN.out]
  clear HN
  generalize dA.VD s.data.toList.tail=o at*
  have HO:Hid (∀w',Below w.heap.size w w'->zC o w (.returned (.tuple #[.agg (fA (dA.host o)),.int .i64 (dA.code o)])) w'):=zA7 (fun w' hb=>YF rfl rfl hb)
  generalize zC o w=post at*
  generalize dA.code o=c at*
  generalize dA.host o=X at*
  have HX:=zA7 (QA X hx)
  generalize(⟨s.data.toList.tail.toArray⟩:ByteArray)=i at*
  clear hx p1 p2 hhead hl e2
  go_enter Tryz.func56,Tryz.ntmps56
  go_wp2_with fail
  have R0:=Row.new w 31 (fA dA.zero)
  have B0:=(Below.refl w.heap.size w).alloc (zB3 _) (.cells (fA dA.zero) 31)
  generalize w.alloc (.cells (fA dA.zero) 31)=w0 at*
  refine(H1.out _).mono ?_
  rintro e v1 ⟨rfl,rfl⟩
  go_wp2_with fail
  refine(H2.out _ (hw.below B0)).mono ?_
  rintro e v2 ⟨rfl,d2⟩
  have R1:=R0.stays d2
  have B1:=B0.trans (d2.mono B0.size)
  go_wp2_with (first
   |(refine wpList_store_row rfl 31 _ _ rfl w.heap.size (fA X) rfl rfl 31 _ R1 (by rw[HX.out];exact tA) (by rw[HX.out];rfl) (aB _) ?_))
  exact bodyPost_ret (v:= .tuple #[.agg (fA X),.int .i64 c]) (DA rfl _ _ w.heap.size _ _ _ rfl _ rfl (R1.whole _) Tryz.underlying31 rfl (by rw[HX.out];exact tA)) rfl (HO.out _ (below_setRow B1 (zB3 _) _))
 have p1:=dA.mAd hhead
 rw[p1]at H1
 generalize(⟨(Lib.trimPrefix s.data.toList [91]).toArray⟩:ByteArray)=i at*
 have hlen:=Oct.cJ 46 s.data.toList
 have hpos:=Oct.eG 46 s.data.toList
 have hsm:=Oct.dJ 46 s.data.toList
 have H3: ∀W,Calls Tryz.prog 77 #[.string s,.int .u8 46] W (LI W.heap.size (Oct.split 46 s.data.toList) W):=fun W=>lW s 46 W (by omega)
 have H3:=zA7 H3
 rw[hl]at hlen
 have hlast: ∃p,(Oct.split 46 s.data.toList)[(Oct.split 46 s.data.toList).length-1]? =some p:=⟨_,List.getElem?_eq_getElem (by omega)⟩
 obtain⟨p,hp⟩:=hlast
 have MN:dA.last s.data.toList=p:=by unfold dA.last;rw[hp];rfl
 have hps:p.length<=s.size:=by have:=hsm p (List.mem_of_getElem? hp);omega
 have hsz: ∀q∈Oct.split 46 s.data.toList,q.length<=1099511627776:=fun q hq=>by have:=hsm q hq;omega
 have GI:=zA7 hsz
 have HP:=zA7 hp
 have uX:Hid (dA.parse s.data.toList=if Oct.digits p=true then dA.IE s.data.toList else if(Oct.split 46 s.data.toList).all dA.lab=true then some ⟨1,s.data.toList.map Oct.low,dA.BA⟩else none):=
  zA7 (by unfold dA.parse;rw[if_neg (by omega),if_neg hhead,MN])
 have H5:=zA7 (fun W=>(lAp s W hs).mono fun e w' h=>LG h)
 have hx:=dA.dAF s.data.toList
 have H7:=zA7 (fun W=>aAW s W (by omega))
 rw[uX.out]
 clear uX hp hsz hsm MN p1 hhead hl
 generalize Oct.split 46 s.data.toList=ps at*
 obtain⟨t,ht⟩: ∃t:ByteArray,t=⟨p.toArray⟩:=⟨_,rfl⟩
 have hts:t.size<=s.size:=by rw[ht];show(List.toArray _).size<=_;simp;omega
 have H4: ∀W,Calls Tryz.prog 91 #[.string t] W fun e w'=>e= .returned (.bool (Oct.digits p))/\W=w':=fun W=>by
  have:=fL t W (by unfold maxLen;omega)
  have e:t.data.toList=p:=by rw[ht]
  rw[e]at this
  exact this
 have H4:=zA7 H4
 have HT:=zA7 ht
 clear ht
 have hz:((ps.length:Int)-1).toNat=ps.length-1:=by omega
 cases hd:Oct.digits p with
 |true=>
  rw[hd]at H4
  rw[if_pos rfl]
  generalize dA.IE s.data.toList=o at*
  have HO:Hid (∀w',Below w.heap.size w w'->zC o w (.returned (.tuple #[.agg (fA (dA.host o)),.int .i64 (dA.code o)])) w'):=zA7 (fun w' hb=>YF rfl rfl hb)
  generalize zC o w=post at*
  generalize dA.code o=c at*
  generalize dA.host o=X at*
  have HX:=zA7 (QA X hx)
  clear hx hd H7
  go_enter Tryz.func56,Tryz.ntmps56
  go_wp2_with fail
  have R0:=Row.new w 31 (fA dA.zero)
  have B0:=(Below.refl w.heap.size w).alloc (zB3 _) (.cells (fA dA.zero) 31)
  generalize w.alloc (.cells (fA dA.zero) 31)=w0 at*
  refine(H1.out _).mono ?_
  rintro e v1 ⟨rfl,rfl⟩
  go_wp2_with fail
  refine(H3.out _).mono ?_
  rintro e v2 ⟨g,cap,rfl,hown,d2⟩
  have R1:=R0.stays d2
  have B1:=B0.trans (d2.mono B0.size)
  have hcell:=RL (k:=ps.length-1) hown HP.out HT.out
  have hcap:=OL hown
  clear hown d2 R0 B0
  go_wp2_with fail
  refine(H4.out _).mono ?_
  rintro e v3 ⟨rfl,rfl⟩
  go_wp2_with fail
  refine(H5.out _).mono ?_
  rintro e v4 ⟨rfl,d4⟩
  have R2:=R1.stays d4
  have B2:=B1.trans (d4.mono B1.size)
  go_wp2_with (first
   |(refine wpList_store_row rfl 31 _ _ rfl w.heap.size (fA X) rfl rfl 31 _ R2 (by rw[HX.out];exact tA) (by rw[HX.out];rfl) (aB _) ?_))
  exact bodyPost_ret (v:= .tuple #[.agg (fA X),.int .i64 c]) (DA rfl _ _ w.heap.size _ _ _ rfl _ rfl (R2.whole _) Tryz.underlying31 rfl (by rw[HX.out];exact tA)) rfl (HO.out _ (below_setRow B2 (zB3 _) _))
 |false=>
  rw[hd]at H4
  rw[if_neg (by simp)]
  clear hd hx H5
  have HNM:=zA7 (fun W B g cap h=>lA0 W B g ps.length cap ps rfl (by omega) GI.out h)
  obtain⟨u,hu⟩: ∃u:ByteArray,u=⟨(s.data.toList.map Oct.low).toArray⟩:=⟨_,rfl⟩
  have AB:s.data.toList.map Oct.low=u.data.toList:=by rw[hu]
  have HB:=zA7 (EP 1 u)
  rw[AB]
  unfold XC at H7
  rw[<-hu]at H7
  clear AB hu
  generalize u.data.toList=ul at*
  have PH:=zA7 (QA ⟨1,ul,dA.BA⟩ rfl)
  generalize ps.all dA.lab=ok at*
  have HF:Hid (ok=false-> ∀w',Below w.heap.size w w'->zC (if ok=true then some ⟨1,ul,dA.BA⟩else none) w (.returned (.tuple #[.agg (fA dA.zero),.int .i64 31])) w'):=zA7 (fun h w' hb=>by subst h;exact YF rfl rfl hb)
  have yE:Hid (ok=true-> ∀w',Below w.heap.size w w'->zC (if ok=true then some ⟨1,ul,dA.BA⟩else none) w (.returned (.tuple #[.agg (fA ⟨1,ul,dA.BA⟩),.int .i64 0])) w'):=zA7 (fun h w' hb=>by subst h;exact YF rfl rfl hb)
  generalize zC (if ok=true then some ⟨1,ul,dA.BA⟩else none) w=post at*
  go_enter Tryz.func56,Tryz.ntmps56
  go_wp2_with fail
  have R0:=Row.new w 31 (fA dA.zero)
  have B0:=(Below.refl w.heap.size w).alloc (zB3 _) (.cells (fA dA.zero) 31)
  generalize w.alloc (.cells (fA dA.zero) 31)=w0 at*
  refine(H1.out _).mono ?_
  rintro e v1 ⟨rfl,rfl⟩
  go_wp2_with fail
  refine(H3.out _).mono ?_
  rintro e v2 ⟨g,cap,rfl,hown,d2⟩
  have R1:=R0.stays d2
  have B1:=B0.trans (d2.mono B0.size)
  have hcell:=RL (k:=ps.length-1) hown HP.out HT.out
  have hcap:=OL hown
  have HOWN:=zA7 hown
  clear hown d2 R0 B0
  go_wp2_with fail
  refine(H4.out _).mono ?_
  rintro e v3 ⟨rfl,rfl⟩
  go_wp2_with fail
  refine(HNM.out _ _ _ _ HOWN.out).mono ?_
  rintro e v4 ⟨rfl,d4⟩
  have R2:=R1.stays d4
  have B2:=B1.trans (d4.mono B1.size)
  clear R1 B1 d4 hcell
  cases ok with
  |false=>
   go_wp2_with (first
    |(refine wpList_store_row rfl 31 _ _ rfl w.heap.size (fA dA.zero) rfl rfl 31 _ R2 (by rw[HZ0.out];exact tA) rfl (aB _) ?_))
   exact bodyPost_ret (v:= .tuple #[.agg (fA dA.zero),.int .i64 31]) (DA rfl _ _ w.heap.size _ _ _ rfl _ rfl (R2.whole _) Tryz.underlying31 rfl (by rw[HZ0.out];exact tA)) rfl (HF.out (by trivial) _ (below_setRow B2 (zB3 _) _))
  |true=>
   go_wp2_with fail
   refine(H7.out _).mono ?_
   rintro e v5 ⟨rfl,d5⟩
   have R3:=R2.stays d5
   have B3:=B2.trans (d5.mono B2.size)
   go_wp2_with (first
    |(refine iA 40 rfl ?_;refine DF rfl 31 0 1 _ _ rfl _ _ rfl rfl (fA ⟨1,ul,dA.BA⟩) HB.out ?_)
    |(refine wpList_store_row rfl 31 _ _ rfl w.heap.size (fA ⟨1,ul,dA.BA⟩) rfl rfl 31 _ R3 (by rw[PH.out];exact tA) rfl (aB _) ?_))
   exact bodyPost_ret (v:= .tuple #[.agg (fA ⟨1,ul,dA.BA⟩),.int .i64 0]) (DA rfl _ _ w.heap.size _ _ _ rfl _ rfl (R3.whole _) Tryz.underlying31 rfl (by rw[PH.out];exact tA)) rfl (yE.out (by trivial) _ (below_setRow B3 (zB3 _) _))
end Go.Proofs.YtabgoobcliijeaaGreatDoor
namespace Go.Proofs.YtabgoobcliijeaaGreatDoor
open Go.RowKit
theorem dAe(h:dA.Host)(hk:h.kind=1)(t:ByteArray)(ht:t=⟨h.name.toArray⟩)(w:World):
  Calls Tryz.prog 109 #[.agg (fA h)] w fun e w'=>e= .returned (.string t)/\Below w.heap.size w w':=by
 have R:=Row.new w 31 (fA h)
 have c0:(w.alloc (.cells (fA h) 31)).cell? ⟨w.heap.size,0,none⟩=some (.int .i64 1):=by rw[R.cell,tH,hk]
 have c1:(w.alloc (.cells (fA h) 31)).cell? ⟨w.heap.size,1,none⟩=some (.string t):=by rw[R.cell,uH,ht];rfl
 have B:=(Below.refl w.heap.size w).alloc (zB3 _) (.cells (fA h) 31)
 have HB:=zA7 B
 clear B R ht
 go_enter Tryz.func109,Tryz.ntmps109
 generalize fA h=H at*
 go_wp2
 go_ret
 exact⟨rfl,HB.out⟩
theorem nAg(h:dA.Host)(hk:h.kind=1)(ha:h.addr.length=16)(hs:h.name.length<=1048576)(w:World)(hw:Std w):
  Calls Tryz.prog 76 #[.agg (fA h)] w fun e w'=>e= .returned (.bool (dA.right h))/\Below w.heap.size w w':=by
 have z0:=BD
 obtain⟨t,ht⟩: ∃t:ByteArray,t=⟨h.name.toArray⟩:=⟨_,rfl⟩
 have H1:=zA7 (fun W=>dAe h hk t ht W)
 have htl:t.data.toList=h.name:=by rw[ht]
 have hts:t.size=h.name.length:=by rw[<-htl,Oct.nA]
 have H2:=zA7 (fun W hW=>(dR t W hW (by omega)).mono fun e w' h=>LG h)
 rw[htl]at H2
 have hx:=dA.GF h.name
 have HR:Hid (dA.right h=decide (dA.parse h.name=some h)):=zA7 rfl
 have HZ0:=zA7 (show(fA dA.zero).size=18 from rfl)
 have HH:=zA7 (QA h ha)
 cases ho:dA.parse h.name with
 |none=>
  rw[ho]at H2 HR
  have HR2:Hid (dA.right h=false):=zA7 (by rw[HR.out];rfl)
  have e1:dA.host none=dA.zero:=rfl
  have e2:dA.code none=31:=rfl
  rw[e1,e2]at H2
  clear ho hx hts htl ht HR e1 e2
  rw[HR2.out]
  generalize fA h=H at*
  have R0:=Row.new w 31 H
  have B0:=(Below.refl w.heap.size w).alloc (zB3 _) (.cells H 31)
  go_enter Tryz.func76,Tryz.ntmps76
  go_wp2_with (refine iA 6 rfl ?_;refine qA rfl 31 _ rfl w.heap.size rfl R0 Tryz.underlying31 rfl (by rw[HH.out];exact tA) ?_)
  generalize w.alloc (.cells H 31)=w0 at*
  refine(H1.out _).mono ?_
  rintro e v1 ⟨rfl,d1⟩
  have B1:=B0.trans (d1.mono B0.size)
  go_wp2_with fail
  refine(H2.out _ (hw.below B1)).mono ?_
  rintro e v2 ⟨rfl,d2⟩
  have B2:=B1.trans (d2.mono B1.size)
  obtain⟨T,U,C,L⟩:=JA 31 (fA dA.zero) (fA dA.zero) B2 B2.size
  clear B0 B1 B2 d1 d2 R0 L
  go_wp2_with (first
   |(refine wpList_store_row rfl 31 _ _ rfl v2.heap.size (fA dA.zero) rfl rfl 31 _ T (by rw[HZ0.out];exact tA) rfl (aB _) ?_))
  go_ret
  exact⟨rfl,C⟩
 |some g=>
  rw[ho]at H2 HR hx
  have hx:g.addr.length=16:=hx
  have HR2:Hid (dA.right h=decide (g=h)):=zA7 (by rw[HR.out,decide_eq_decide];exact⟨fun e=>zB2 e,fun e=>by rw[e]⟩)
  have e1:dA.host (some g)=g:=rfl
  have e2:dA.code (some g)=0:=rfl
  rw[e1,e2]at H2
  have q:=cI g h hx ha
  have HG:=zA7 (QA g hx)
  have FC:=zA7 (aB g)
  clear ho hx hts htl ht HR e1 e2
  rw[HR2.out]
  generalize fA h=H at*
  generalize fA g=G at*
  generalize decide (g=h)=b at*
  have R0:=Row.new w 31 H
  have B0:=(Below.refl w.heap.size w).alloc (zB3 _) (.cells H 31)
  go_enter Tryz.func76,Tryz.ntmps76
  go_wp2_with (refine iA 6 rfl ?_;refine qA rfl 31 _ rfl w.heap.size rfl R0 Tryz.underlying31 rfl (by rw[HH.out];exact tA) ?_)
  generalize w.alloc (.cells H 31)=w0 at*
  refine(H1.out _).mono ?_
  rintro e v1 ⟨rfl,d1⟩
  have B1:=B0.trans (d1.mono B0.size)
  have R1:=R0.stays d1
  go_wp2_with fail
  refine(H2.out _ (hw.below B1)).mono ?_
  rintro e v2 ⟨rfl,d2⟩
  have R2:=R1.stays d2
  have B2:=B1.trans (d2.mono B1.size)
  obtain⟨T,U,C,L⟩:=JA 31 (fA dA.zero) G B2 B2.size
  have R3:=L _ _ _ R2
  clear B0 B1 B2 d1 d2 R0 R1 R2 L
  go_wp2_with (first
   |(refine wpList_store_row rfl 31 _ _ rfl v2.heap.size G rfl rfl 31 _ T (by rw[HG.out];exact tA) (by rw[HG.out];rfl) FC.out ?_)
   |(refine iA 14 rfl ?_;refine qA rfl 31 _ rfl v2.heap.size rfl U Tryz.underlying31 rfl (by rw[HG.out];exact tA) ?_)
   |(refine iA 15 rfl ?_;refine qA rfl 31 _ rfl w.heap.size rfl R3 Tryz.underlying31 rfl (by rw[HH.out];exact tA) ?_))
  go_ret
  exact⟨rfl,C⟩
end Go.Proofs.YtabgoobcliijeaaGreatDoor
namespace Go.Proofs.YtabgoobcliijeaaGreatDoor
open Go.RowKit
theorem DL(h:dA.Host)(ha:h.addr.length=16)(hs:h.name.length<=1048576)(w:World)(hw:Std w):
  Calls Tryz.prog 41 #[.agg (fA h)] w (iD w.heap.size (dA.labels h) w):=by
 have HH:=zA7 (QA h ha)
 obtain⟨t,ht⟩: ∃t:ByteArray,t=⟨h.name.toArray⟩:=⟨_,rfl⟩
 have R0:=Row.new w 31 (fA h)
 have c0:(w.alloc (.cells (fA h) 31)).cell? ⟨w.heap.size,0,none⟩=some (.int .i64 h.kind):=by rw[R0.cell,tH]
 have c1:(w.alloc (.cells (fA h) 31)).cell? ⟨w.heap.size,1,none⟩=some (.string t):=by rw[R0.cell,uH,ht];rfl
 have B0:=(Below.refl w.heap.size w).alloc (zB3 _) (.cells (fA h) 31)
 by_cases hk:h.kind=1
 ·have htl:t.data.toList=h.name:=by rw[ht]
  have hts:t.size=h.name.length:=by rw[<-htl,Oct.nA]
  have H1:=zA7 (fun W hW=>nAg h hk ha hs W hW)
  have H2: ∀W,Calls Tryz.prog 77 #[.string t,.int .u8 46] W (iD W.heap.size (Oct.split 46 h.name) W):=fun W=>by
   have:=cAZ t 46 W (by omega)
   rw[htl]at this
   exact this
  have H2:=zA7 H2
  rw[hk]at c0
  cases hr:dA.right h with
  |false=>
   rw[hr]at H1
   have HL:Hid (dA.labels h= []):=zA7 (by unfold dA.labels;rw[if_neg (fun k=>by rw[hr]at k;simp at k)])
   rw[HL.out]
   generalize fA h=H at*
   clear hr htl hts ht hk ha HL
   go_enter Tryz.func41,Tryz.ntmps41
   go_wp2_with (refine iA 7 rfl ?_;refine qA rfl 31 _ rfl w.heap.size rfl R0 Tryz.underlying31 rfl (by rw[HH.out];exact tA) ?_)
   generalize w.alloc (.cells H 31)=w0 at*
   refine(H1.out _ (hw.below B0)).mono ?_
   rintro e v1 ⟨rfl,d1⟩
   have B1:=B0.trans (d1.mono B0.size)
   go_wp2
   go_ret
   exact⟨_,rfl,World.ownsRow_nil _ _ _ _,B1⟩
  |true=>
   rw[hr]at H1
   have HL:Hid (dA.labels h=Oct.split 46 h.name):=zA7 (by unfold dA.labels;rw[if_pos ⟨hk,hr⟩])
   rw[HL.out]
   generalize Oct.split 46 h.name=ps at*
   generalize fA h=H at*
   clear hr htl hts ht hk ha HL
   go_enter Tryz.func41,Tryz.ntmps41
   go_wp2_with (refine iA 7 rfl ?_;refine qA rfl 31 _ rfl w.heap.size rfl R0 Tryz.underlying31 rfl (by rw[HH.out];exact tA) ?_)
   have hlt:=R0.lt
   generalize w.alloc (.cells H 31)=w0 at*
   refine(H1.out _ (hw.below B0)).mono ?_
   rintro e v1 ⟨rfl,d1⟩
   have B1:=B0.trans (d1.mono B0.size)
   have c2:=(d1.cell (p:=⟨w.heap.size,1,none⟩) hlt).trans c1
   clear c0 c1 d1 R0 B0
   go_wp2_with fail
   refine(H2.out _).mono ?_
   rintro e v2 ⟨v,rfl,hown,d2⟩
   have B2:=B1.trans (d2.mono B1.size)
   have HO:=zA7 (bAL hown B1.size)
   clear hown
   go_wp2
   go_ret
   exact⟨_,rfl,HO.out,B2⟩
 ·have HL:Hid (dA.labels h= []):=zA7 (by unfold dA.labels;rw[if_neg (fun k=>hk k.1)])
  rw[HL.out]
  generalize fA h=H at*
  generalize h.kind=k at*
  clear HL ha
  go_enter Tryz.func41,Tryz.ntmps41
  go_wp2
  go_ret
  exact⟨_,rfl,World.ownsRow_nil _ _ _ _,B0⟩
end Go.Proofs.YtabgoobcliijeaaGreatDoor
namespace Go.Proofs.YtabgoobcliijeaaGreatDoor
open Go.RowKit
namespace dA
theorem XU(h:Host):(labels h).length<=h.name.length+1:=by
 unfold labels
 split
 ·exact Oct.cJ 46 h.name
 ·simp
theorem kA9(h:Host): ∀p∈labels h,p.length<=h.name.length:=by
 unfold labels
 split
 ·exact Oct.dJ 46 h.name
 ·simp
theorem oAs(h:Host)(n:Int):(host (jE h n)).addr.length=16:=by
 unfold jE
 split<;>rfl
theorem rAI(h:Host)(n:Int):(host (jE h n)).name.length<=h.name.length:=by
 by_cases hn:1<=n/\n<=((labels h).length:Int)
 ·obtain⟨k,rfl⟩: ∃k:Nat,n=k:=⟨n.toNat,by omega⟩
  have hl:labels h≠ []:=by intro e;rw[e]at hn;simp at hn;omega
  obtain⟨_,_,_,e⟩:=iI hl
  rw[dA5 (by omega) (by omega)]
  show(ending h.name k).length<=_
  rcases Nat.lt_or_ge k (Oct.split 46 h.name).length with a|a
  ·exact Nat.le_of_lt (L0 (by omega) a)
  ·rw[aQ (by rw[e]at hn;omega)];exact zB3 _
 ·rw[tW hn];simp[host,zero]
end dA
theorem jAW {w:World}{B g cap L:Nat}{ps:List (List UInt8)}(hL:ps.length=L)(hown:w.ownsRow B 9 1 (.slice (some ⟨g,0,none⟩) L cap) L (ps.map lA))(m:Nat)(hm: ∀p∈ps,p.length<=m)(hm1:m<=1048576)(hn:L<=1048577)(k:Nat)(hk:k<=L):
  Calls Tryz.prog 119 #[.slice (some ⟨g,L-k,none⟩) k (cap- (L-k)),.string ⟨#[46]⟩] w fun e w'=>e= .returned (.string ⟨(Lib.join (ps.drop (L-k)) [46]).toArray⟩)/\Below w.heap.size w w':=by
 subst hL
 have hdl:(ps.drop (ps.length-k)).length=k:=by rw[List.length_drop];omega
 have hl:=aA.join_length [46] rfl m (ps.drop (ps.length-k)) (fun p hp=>hm p (List.mem_of_mem_drop hp))
 rw[hdl]at hl
 have h2:(m+1)*k<=1048577*1048577:=Nat.mul_le_mul (by omega) (by omega)
 have e1:(((ps.drop (ps.length-k)).map fun p=>(⟨p.toArray⟩:ByteArray)).map (·.data.toList))=ps.drop (ps.length-k):=by rw[List.map_map];exact List.map_id _
 have e2:(⟨#[46]⟩:ByteArray).data.toList= [46]:=rfl
 have hcap:=OL hown
 have hlt:g<w.heap.size:=(hown.lt g rfl).2
 have h:=Tryz.strings_Join g (ps.length-k) (cap- (ps.length-k)) ((ps.drop (ps.length-k)).map fun p=>⟨p.toArray⟩) ⟨#[46]⟩ w (fun j x hx=>by
  rw[List.getElem?_map,List.getElem?_drop]at hx
  cases hp:ps[ps.length-k+j]? with
  |none=>rw[hp]at hx;cases hx
  |some p=>rw[hp]at hx;exact RL hown hp (zB2 hx).symm) hlt (by rw[List.length_map,hdl];omega) (by rw[List.length_map,hdl];omega) (by rw[e1,e2];omega)
 rw[List.length_map,e1,e2,hdl]at h
 exact h
def BJ(o:Option dA.Host)(w:World)(e:Ending)(w':World):Prop:=e= .returned (.tuple #[.agg (fA (dA.host o)),.bool o.isSome])/\Below w.heap.size w w'
theorem oAq(h:dA.Host)(ha:h.addr.length=16)(hs:h.name.length<=1048576)(n:Int)(w:World)(hw:Std w):
  Calls Tryz.prog 134 #[.agg (fA h),.int .i64 n] w (BJ (dA.jE h n) w):=by
 have z0:=BD
 have HZ0:=zA7 (show(fA dA.zero).size=18 from rfl)
 have HH:=zA7 (QA h ha)
 have H1:=zA7 (fun W hW=>DL h ha hs W hW)
 have hll:=dA.XU h
 have JC:=zA7 (dA.kA9 h)
 by_cases hn:1<=n/\n<=((dA.labels h).length:Int)
 ·obtain⟨k,rfl⟩: ∃k:Nat,n=k:=⟨n.toNat,by omega⟩
  have HT:Hid (dA.jE h k=some ⟨1,Lib.join ((dA.labels h).drop ((dA.labels h).length-k)) [46],dA.BA⟩):=zA7 (by unfold dA.jE;rw[if_pos hn];rfl)
  rw[HT.out]
  clear HT
  generalize dA.labels h=ps at*
  obtain⟨L,hL⟩: ∃L,ps.length=L:=⟨_,rfl⟩
  rw[hL]at hn hll⊢
  have HJ:=zA7 (fun W B g cap ho=>jAW (w:=W) (B:=B) (g:=g) (cap:=cap) hL ho h.name.length JC.out hs (by omega) k (by omega))
  unfold iD at H1
  rw[hL]at H1
  obtain⟨u,hu⟩: ∃u:ByteArray,u=⟨(Lib.join (ps.drop (L-k)) [46]).toArray⟩:=⟨_,rfl⟩
  have AB:Lib.join (ps.drop (L-k)) [46]=u.data.toList:=by rw[hu]
  rw[<-hu]at HJ
  rw[AB]
  have HB:=zA7 (EP 1 u)
  clear AB hu
  generalize u.data.toList=ul at*
  have PH:=zA7 (QA ⟨1,ul,dA.BA⟩ rfl)
  have XO:Hid (∀w',Below w.heap.size w w'->BJ (some ⟨1,ul,dA.BA⟩) w (.returned (.tuple #[.agg (fA ⟨1,ul,dA.BA⟩),.bool true])) w'):=zA7 (fun w' hb=>⟨rfl,hb⟩)
  generalize BJ (some ⟨1,ul,dA.BA⟩) w=post at*
  generalize fA h=H at*
  have hz:((L:Int)- (k:Int)).toNat=L-k:=by omega
  have hk1:L- (L-k)=k:=by omega
  have hn1: ¬(k:Int)<1:=by omega
  have hn2: ¬(L:Int)<(k:Int):=by omega
  have hLk:1<=k/\k<=L:=by omega
  clear hn JC hL ha
  have R0:=Row.new w 31 H
  have B0:=(Below.refl w.heap.size w).alloc (zB3 _) (.cells H 31)
  go_enter Tryz.func134,Tryz.ntmps134
  go_wp2_with (refine iA 8 rfl ?_;refine qA rfl 31 _ rfl w.heap.size rfl (R0.alloc _) Tryz.underlying31 rfl (by rw[HH.out];exact tA) ?_)
  have hN:(w.alloc (.cells H 31)).heap.size=w.heap.size+1:=by simp
  generalize w.alloc (.cells H 31)=w0 at*
  have T0:=Row.new w0 31 (fA dA.zero)
  have C0:=B0.alloc B0.size (.cells (fA dA.zero) 31)
  have s0:w.heap.size<=w.heap.size+1:=by omega
  generalize w0.alloc (.cells (fA dA.zero) 31)=x0 at*
  rw[hN]at T0
  clear hN
  refine(H1.out _ (hw.below C0)).mono ?_
  rintro e v1 ⟨v,rfl,hown,d1⟩
  rcases hown.2 with⟨_,h0⟩|⟨g,cap,cur,rfl,hg,_⟩
  ·omega
  have T1:=T0.stays d1
  have C1:=C0.trans (d1.mono C0.size)
  have hcap:=OL hown
  have HO:=zA7 hown
  clear hown T0 C0 d1 R0 B0
  go_wp2_with fail
  refine(HJ.out _ _ _ _ HO.out).mono ?_
  rintro e v2 ⟨rfl,d2⟩
  have T2:=T1.stays d2
  have C2:=C1.trans (d2.mono C1.size)
  go_wp2_with (first
   |(refine iA 27 rfl ?_;refine DF rfl 31 0 1 _ _ rfl _ _ rfl rfl (fA ⟨1,ul,dA.BA⟩) HB.out ?_)
   |(refine wpList_store_row rfl 31 _ _ rfl (w.heap.size+1) (fA ⟨1,ul,dA.BA⟩) rfl rfl 31 _ T2 (by rw[PH.out];exact tA) rfl (aB _) ?_))
  exact bodyPost_ret (v:= .tuple #[.agg (fA ⟨1,ul,dA.BA⟩),.bool true]) (DA rfl _ _ (w.heap.size+1) _ _ _ rfl _ rfl (T2.whole _) Tryz.underlying31 rfl (by rw[PH.out];exact tA)) rfl (XO.out _ (below_setRow C2 s0 _))
 ·have HT:Hid (dA.jE h n=none):=zA7 (dA.tW hn)
  rw[HT.out]
  clear HT
  generalize dA.labels h=ps at*
  obtain⟨L,hL⟩: ∃L,ps.length=L:=⟨_,rfl⟩
  rw[hL]at hn hll
  unfold iD at H1
  rw[hL]at H1
  have XO:Hid (∀w',Below w.heap.size w w'->BJ none w (.returned (.tuple #[.agg (fA dA.zero),.bool false])) w'):=zA7 (fun w' hb=>⟨rfl,hb⟩)
  generalize BJ none w=post at*
  generalize fA h=H at*
  clear JC hL ha
  have R0:=Row.new w 31 H
  have B0:=(Below.refl w.heap.size w).alloc (zB3 _) (.cells H 31)
  go_enter Tryz.func134,Tryz.ntmps134
  go_wp2_with (refine iA 8 rfl ?_;refine qA rfl 31 _ rfl w.heap.size rfl (R0.alloc _) Tryz.underlying31 rfl (by rw[HH.out];exact tA) ?_)
  have hN:(w.alloc (.cells H 31)).heap.size=w.heap.size+1:=by simp
  generalize w.alloc (.cells H 31)=w0 at*
  have T0:=Row.new w0 31 (fA dA.zero)
  have C0:=B0.alloc B0.size (.cells (fA dA.zero) 31)
  have s0:w.heap.size<=w.heap.size+1:=by omega
  generalize w0.alloc (.cells (fA dA.zero) 31)=x0 at*
  rw[hN]at T0
  clear hN
  refine(H1.out _ (hw.below C0)).mono ?_
  rintro e v1 ⟨v,rfl,hown,d1⟩
  have T1:=T0.stays d1
  have C1:=C0.trans (d1.mono C0.size)
  have hnn:n<1\/(¬n<1/\(L:Int)<n):=by omega
  rcases hown.2 with⟨rfl,h0⟩|⟨g,cap,cur,rfl,hg,_⟩
  ·subst h0
   clear hown d1 hn
   rcases hnn with h1|⟨h1,h2⟩
   all_goals
    go_wp2_with (first
     |(refine wpList_store_row rfl 31 _ _ rfl (w.heap.size+1) (fA dA.zero) rfl rfl 31 _ T1 (by rw[HZ0.out];exact tA) rfl (aB _) ?_))
    exact bodyPost_ret (v:= .tuple #[.agg (fA dA.zero),.bool false]) (DA rfl _ _ (w.heap.size+1) _ _ _ rfl _ rfl (T1.whole _) Tryz.underlying31 rfl (by rw[HZ0.out];exact tA)) rfl (XO.out _ (below_setRow C1 s0 _))
  ·clear hown d1 hn
   rcases hnn with h1|⟨h1,h2⟩
   all_goals
    go_wp2_with (first
     |(refine wpList_store_row rfl 31 _ _ rfl (w.heap.size+1) (fA dA.zero) rfl rfl 31 _ T1 (by rw[HZ0.out];exact tA) rfl (aB _) ?_))
    exact bodyPost_ret (v:= .tuple #[.agg (fA dA.zero),.bool false]) (DA rfl _ _ (w.heap.size+1) _ _ _ rfl _ rfl (T1.whole _) Tryz.underlying31 rfl (by rw[HZ0.out];exact tA)) rfl (XO.out _ (below_setRow C1 s0 _))
end Go.Proofs.YtabgoobcliijeaaGreatDoor
namespace Go.Proofs.YtabgoobcliijeaaGreatDoor
open Go.RowKit
theorem EW(s:ByteArray)(w:World)(hs:s.size<=maxLen):
  Calls Tryz.prog 71 #[.string s] w fun e w'=>e= .returned (.string ⟨(Oct.trim s.data.toList).toArray⟩)/\w=w':=by
 unfold maxLen at hs
 go_enter Tryz.func71,Tryz.ntmps71
 go_wp2
 go_loop [3] (fun i=> ∃k:Nat,k<=s.size/\i= .int .i64 k/\s.data.toList.dropWhile Oct.EA=(s.data.toList.drop k).dropWhile Oct.EA) (fun i=>s.size- (intOf i).toNat)
 case atStart=>exact⟨0,Nat.zero_le _,rfl,by simp⟩
 case round=>
  obtain⟨k,hk,rfl,hd⟩:=hrel
  have HD:=zA7 hd
  clear hd
  have hor:(∃h:k<s.size,Oct.EA s[k]=true)\/((∃h:k<s.size,Oct.EA s[k]=false)\/ ¬k<s.size):=by
   by_cases h:k<s.size
   ·cases hb:Oct.EA s[k]
    ·exact .inr (.inl ⟨h,hb⟩)
    ·exact .inl ⟨h,hb⟩
   ·exact .inr (.inr h)
  rcases hor with⟨hlt,hbk⟩|hor
  ·have HE:=zA7 (HD.out.trans (Oct.YZ (by rw[Oct.nA];exact hlt) hbk))
   go_wp2_with (go_at_call 106;refine(BP _ _).mono ?_;rintro e w' ⟨rfl,rfl⟩)
   go_round
   case rel=>exact⟨k+1,by omega,by go_num,HE.out⟩
   case measure=>simp[intOf];omega
  ·have HE:Hid (s.data.toList.dropWhile Oct.EA=s.data.toList.drop k):=by
    refine zA7 (HD.out.trans ?_)
    rcases hor with⟨hlt,hbk⟩|hge
    ·exact Oct.WZ (by rw[Oct.nA];exact hlt) hbk
    ·exact Oct.hA6 (by rw[Oct.nA];omega)
   rcases hor with⟨hlt,hbk⟩|hge
   all_goals
    go_wp2_with (go_at_call 106;refine(BP _ _).mono ?_;rintro e w' ⟨rfl,rfl⟩)
    go_loop [4] (fun i=> ∃m:Nat,k<=m/\m<=s.size/\i= .int .i64 m/\Oct.NC (s.data.toList.drop k)=Oct.NC (Oct.mid s.data.toList k m)) (fun i=>(intOf i).toNat)
    case atStart=>exact⟨s.size,hk,zB3 _,rfl,by rw[Oct.kAM (by rw[Oct.nA];exact zB3 _)]⟩
    case round=>
     obtain⟨m,hkm,hm,rfl,hc⟩:=hrel
     have HC:=zA7 hc
     clear hc
     by_cases hkl:k<m
     ·try (exfalso;omega)
      all_goals
       have hmm:((m:Int)-1).toNat=m-1:=by omega
       have hm1:m-1<s.size:=by omega
       have HS:=zA7 (Oct.kAO hkl (l:=s.data.toList) (by rw[Oct.nA];exact hm))
       cases hb:Oct.EA s[m-1]with
       |true=>
        have HF:=zA7 (show Oct.NC (s.data.toList.drop k)=Oct.NC (Oct.mid s.data.toList k (m-1)) from by rw[HC.out,HS.out];exact Oct.dZ _ _ hb)
        go_wp2_with (go_at_call 106;refine(BP _ _).mono ?_;rintro e w' ⟨rfl,rfl⟩)
        go_round
        case rel=>exact⟨m-1,by omega,by omega,by go_num,HF.out⟩
        case measure=>simp[intOf];omega
       |false=>
        have HF:=zA7 (show Oct.trim s.data.toList=Oct.mid s.data.toList k m from by unfold Oct.trim;rw[HE.out,HC.out,HS.out];exact Oct.sT _ _ hb)
        go_wp2_with (go_at_call 106;refine(BP _ _).mono ?_;rintro e w' ⟨rfl,rfl⟩)
        go_ret
        exact⟨nB (by rw[HF.out,Lib.extract_eq,Oct.mid]),rfl⟩
     ·have HF:=zA7 (show Oct.trim s.data.toList=Oct.mid s.data.toList k m from by unfold Oct.trim;rw[HE.out,HC.out,Oct.kAN (by omega)];rfl)
      go_wp2
      go_ret
      exact⟨nB (by rw[HF.out,Lib.extract_eq,Oct.mid]),rfl⟩
theorem oR(s:ByteArray)(w:World)(hs:s.size<=maxLen):
  Calls Tryz.prog 51 #[.string s] w fun e w'=>e= .returned (.string ⟨(Oct.trim s.data.toList).toArray⟩)/\w=w':=by
 unfold maxLen at hs
 go_enter Tryz.func51,Tryz.ntmps51
 go_wp2
 go_loop [0] (fun v=> ∃u:ByteArray,v= .string u/\u.size<=s.size/\s.data.toList.dropWhile Oct.EA=u.data.toList.dropWhile Oct.EA) (fun v=>match v with| .string u=>u.size|_=>0)
 case atStart=>exact⟨s,rfl,zB3 _,rfl⟩
 case round=>
  obtain⟨u,rfl,hu,hd⟩:=hrel
  have HD:=zA7 hd
  clear hd
  have hor:(∃h:0<u.size,Oct.EA u[0]=true)\/((∃h:0<u.size,Oct.EA u[0]=false)\/u.size=0):=by
   by_cases h:0<u.size
   ·cases hb:Oct.EA u[0]
    ·exact .inr (.inl ⟨h,hb⟩)
    ·exact .inl ⟨h,hb⟩
   ·exact .inr (.inr (by omega))
  rcases hor with⟨hlt,hbk⟩|hor
  ·have HE:=zA7 (HD.out.trans (Oct.oAu hlt hbk))
   go_wp2_with (go_at_call 78;refine(lR _ _).mono ?_;rintro e w' ⟨rfl,rfl⟩)
   go_round
   case rel=>exact⟨_,rfl,by rw[ByteArray.size_extract];omega,by rw[Lib.extract_to_end];exact HE.out⟩
   case measure=>simp;omega
  ·have HE:Hid (s.data.toList.dropWhile Oct.EA=u.data.toList):=by
    refine zA7 (HD.out.trans ?_)
    rcases hor with⟨hlt,hbk⟩|hge
    ·exact Oct.oAt hlt hbk
    ·exact Oct.oAr hge
   have hor2:(∃h:0<u.size,Oct.EA u[0]=false)\/u.size<=0:=by
    rcases hor with h|h
    ·exact .inl h
    ·exact .inr (by omega)
   clear hor
   rcases hor2 with⟨hlt,hbk⟩|hge
   all_goals
    go_wp2_with (go_at_call 78;refine(lR _ _).mono ?_;rintro e w' ⟨rfl,rfl⟩)
    go_loop [0] (fun v=> ∃x:ByteArray,v= .string x/\x.size<=u.size/\Oct.NC u.data.toList=Oct.NC x.data.toList) (fun v=>match v with| .string x=>x.size|_=>0)
    case atStart=>exact⟨u,rfl,zB3 _,rfl⟩
    case round=>
     obtain⟨x,rfl,hx,hc⟩:=hrel
     have HC:=zA7 hc
     clear hc
     by_cases h0:0<x.size
     ·try (exfalso;omega)
      all_goals
       have hmm:((x.size:Int)-1).toNat=x.size-1:=by omega
       have hm1:x.size-1<x.size:=by omega
       have HS:=zA7 (Oct.kAf hm1)
       cases hb:Oct.EA x[x.size-1]with
       |true=>
        have HF:=zA7 (show Oct.NC u.data.toList=Oct.NC (x.data.toList.take (x.size-1)) from by rw[HC.out,HS.out,Oct.dZ _ _ hb,<-HS.out])
        go_wp2_with (go_at_call 78;refine(lR _ _).mono ?_;rintro e w' ⟨rfl,rfl⟩)
        go_round
        case rel=>exact⟨_,rfl,by rw[ByteArray.size_extract];omega,by rw[Lib.extract_data,List.drop_zero,Nat.sub_zero];exact HF.out⟩
        case measure=>simp;omega
       |false=>
        have HF:=zA7 (show Oct.trim s.data.toList=x.data.toList from by unfold Oct.trim;rw[HE.out,HC.out,HS.out,Oct.sT _ _ hb])
        go_wp2_with (go_at_call 78;refine(lR _ _).mono ?_;rintro e w' ⟨rfl,rfl⟩)
        go_ret
        exact⟨nB (by rw[HF.out,Lib.mk_data]),rfl⟩
     ·have HF:=zA7 (show Oct.trim s.data.toList=x.data.toList from by unfold Oct.trim;rw[HE.out,HC.out,(Oct.UC x).2 (by omega)];rfl)
      go_wp2
      go_ret
      exact⟨nB (by rw[HF.out,Lib.mk_data]),rfl⟩
end Go.Proofs.YtabgoobcliijeaaGreatDoor
