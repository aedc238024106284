/- The walk of the reference's month. -/
import Derived.Test.YtabgoobcliijeaaGreatDoorY12
set_option maxHeartbeats 8000000
set_option maxRecDepth 100000
namespace Go.Proofs.YtabgoobcliijeaaGreatDoor
open Go.RowKit
theorem aAS: #[Value.string ⟨#[106,97,110]⟩,.string ⟨#[102,101,98]⟩,.string ⟨#[109,97,114]⟩,.string ⟨#[97,112,114]⟩,.string ⟨#[109,97,121]⟩,.string ⟨#[106,117,110]⟩,.string ⟨#[106,117,108]⟩,.string ⟨#[97,117,103]⟩,.string ⟨#[115,101,112]⟩,.string ⟨#[111,99,116]⟩,.string ⟨#[110,111,118]⟩,.string ⟨#[100,101,99]⟩]=GA Dt.names:=by rfl
theorem lAu {a b:World}{P:Ending->Prop}(hC:Below a.heap.size a b){f:FuncId}{args:Array Value}(h:Calls Tryz.prog f args b fun e w'=>P e/\Below b.heap.size b w'):
  Calls Tryz.prog f args b fun e w'=>P e/\Below a.heap.size a w':=
 h.mono fun _ _ ⟨h1,h2⟩=>⟨h1,hC.trans (h2.mono hC.size)⟩
def yJ(n:Int)(w:World)(e:Ending)(w':World):Prop:=e= .returned (.int .i64 n)/\Below w.heap.size w w'
theorem mAJ(s:ByteArray)(w:World)(h3:s.size<3):Calls Tryz.prog 83 #[.string s] w (yJ (Dt.month s.data.toList:Nat) w):=by
 have HR:=zA7 (Dt.bAc (s:=s.data.toList) (by rw[Oct.nA];exact h3))
 have k12:=aAS
 have DN: ¬(3:Int)<=(s.size:Int):=by omega
 have hd3:decide ((3:Int)<=(s.size:Int))=false:=zA8 DN
 generalize Dt.month s.data.toList=m at*
 go_enter Tryz.func83,Tryz.ntmps83
 go_wp2
 have B0:=(Below.refl w.heap.size w).alloc (zB3 _) (.cells (GA Dt.names) 9)
 generalize w.alloc (.cells (GA Dt.names) 9)=w0 at*
 go_loopw [4] (fun i wr=> ∃k:Nat,k<=12/\i= .int .i64 k/\Below w.heap.size w wr) (fun i _=>12- (intOf i).toNat)
 case atStart=>exact⟨0,Nat.zero_le _,rfl,B0⟩
 case round=>
  clear B0
  obtain⟨k,hk,rfl,hb⟩:=hrel
  by_cases hlt:k<12
  ·go_wp2_with fail
   refine rE (C:=fun W=>Below wr.heap.size wr W) (by kernel_rfl) (by kernel_rfl) (Below.refl _ _).drew ?_
   refine kA ?_
   refine kA ?_
   refine kA ?_
   refine kA ?_
   refine oB (Or.inr ⟨by rfl,rfl⟩) ?_
   refine oB (Or.inr ⟨by rfl,rfl⟩) ?_
   refine oB (Or.inr ⟨by rfl,rfl⟩) ?_
   refine oB (Or.inr ⟨by rfl,rfl⟩) ?_
   refine oB (Or.inr ⟨by rfl,rfl⟩) ?_
   refine oB (Or.inr ⟨by rfl,rfl⟩) ?_
   refine oB (Or.inr ⟨by rfl,rfl⟩) ?_
   refine oB (Or.inr ⟨by rfl,rfl⟩) ?_
   refine kA ?_
   refine wpQuiet_nil ?_
   intro w3 hC
   go_wp2
   go_roundw
   case rel=>exact⟨k+1,by omega,by go_num,hb.trans (hC.mono hb.size)⟩
   case measure=>simp[intOf];omega
  ·go_wp2
   go_ret
   exact⟨by rw[HR.out];rfl,hb⟩
theorem mAI(s:ByteArray)(w:World)(hs:s.size<=1099511627776)(h3: ¬s.size<3):Calls Tryz.prog 83 #[.string s] w (yJ (Dt.month s.data.toList:Nat) w):=by
 have hl:=Oct.nA s
 have HY:Hid (∀k,Dt.names.idxOf? ((s.data.toList.take 3).map Oct.low)=some k-> ∀w',Below w.heap.size w w'->yJ (Dt.month s.data.toList:Nat) w (.returned (.int .i64 ((k:Int)+1))) w'):=zA7 (fun k h w' hb=>⟨by rw[Dt.bAd (s:=s.data.toList) (by omega) h];rfl,hb⟩)
 have HN:Hid (Dt.names.idxOf? ((s.data.toList.take 3).map Oct.low)=none-> ∀w',Below w.heap.size w w'->yJ (Dt.month s.data.toList:Nat) w (.returned (.int .i64 0)) w'):=zA7 (fun h w' hb=>⟨by rw[Dt.bAb (s:=s.data.toList) (by omega) h];rfl,hb⟩)
 generalize hpost:yJ (Dt.month s.data.toList:Nat) w=post at*
 clear hpost
 have hx:((s.extract 0 3).data.toList).map Oct.low=(s.data.toList.take 3).map Oct.low:=by rw[Lib.extract_data,List.drop_zero,Nat.sub_zero]
 have HC:=zA7 (fun W=>UL (s.extract 0 3) W (by rw[ByteArray.size_extract];omega))
 unfold XC at HC
 rw[hx]at HC
 have HST:=zA7 (Dt.bA5 ((s.data.toList.take 3).map Oct.low))
 generalize(s.data.toList.take 3).map Oct.low=x at*
 have k12:=aAS
 have DN:(3:Int)<=(s.size:Int):=by omega
 have hd3:decide ((3:Int)<=(s.size:Int))=true:=zA9 DN
 clear hx hl
 go_enter Tryz.func83,Tryz.ntmps83
 go_wp2
 have R0:=Row.new w 9 (GA Dt.names)
 have B0:=(Below.refl w.heap.size w).alloc (zB3 _) (.cells (GA Dt.names) 9)
 generalize w.alloc (.cells (GA Dt.names) 9)=w0 at*
 go_loopw [4] (fun i wr=> ∃k:Nat,k<=12/\i= .int .i64 k/\Dt.names.idxOf? x=Dt.KG x k/\Row wr w.heap.size 9 (GA Dt.names)/\Below w.heap.size w wr) (fun i _=>12- (intOf i).toNat)
 case atStart=>exact⟨0,Nat.zero_le _,rfl,HST.out,R0,B0⟩
 case round=>
  clear B0 R0
  obtain⟨k,hk,rfl,hm,hR,hb⟩:=hrel
  have HM:=zA7 hm
  clear hm
  by_cases hlt:k<12
  ·obtain⟨n0,_,n2,_⟩:=Dt.bAf hlt
   obtain⟨n,hn⟩: ∃n,n0.map Oct.low=n:=⟨_,rfl⟩
   rw[hn]at n2
   have fX:Hid (∀W,Below wr.heap.size wr W->W.cell? ⟨w.heap.size,k,none⟩=some (.string ⟨n.toArray⟩)):=zA7 (fun W hC=>by
    rw[(hR.stays hC).cell,eJ,n2];rfl)
   have C1:=zA7 (fun W (hC:Below wr.heap.size wr W)=>lAu hC (HC.out W))
   have hki:(k:Int)<12:=by omega
   have hx2:((⟨x.toArray⟩:ByteArray).toList==(⟨n.toArray⟩:ByteArray).toList)=decide (x=n):=by
    rw[Oct.SA,Oct.SA]
    by_cases e:x=n
    ·subst e;simp
    ·rw[zA8 e,beq_eq_false_iff_ne];exact e
   obtain⟨xb,hxb⟩: ∃b:ByteArray,(⟨x.toArray⟩:ByteArray)=b:=⟨_,rfl⟩
   obtain⟨nb,hnb⟩: ∃b:ByteArray,(⟨n.toArray⟩:ByteArray)=b:=⟨_,rfl⟩
   rw[hxb]at C1
   rw[hnb]at fX
   rw[hxb,hnb]at hx2
   clear hxb hnb hn
   obtain⟨b,hbx⟩: ∃b,decide (x=n)=b:=⟨_,rfl⟩
   rw[hbx]at hx2
   have dX:=zA7 hbx
   clear hbx
   go_wp2_with fail
   refine rE (C:=fun W=>Below wr.heap.size wr W) (by kernel_rfl) (by kernel_rfl) (Below.refl _ _).drew ?_
   refine kA ?_
   refine kA ?_
   refine kA ?_
   refine kA ?_
   refine kA ?_
   refine kA ?_
   refine QD (.string xb) (fun wq hC=>by unfold Oper.quietAt;go_simp;exact C1.out wq hC) ?_
   refine kA ?_
   refine kA ?_
   refine kA ?_
   refine kA ?_ (v:= .string nb) (hv:=fun wq hC=>by have hcell:=fX.out wq hC;go_simp;try with_reducible rfl)
   refine kA ?_
   refine kA ?_
   refine wpQuiet_nil ?_
   intro w3 hC
   have B3:=hb.trans (hC.mono hb.size)
   have R3:=hR.stays hC
   cases b with
   |true=>
    have HR:=zA7 (HY.out k (HM.out.trans (Dt.bA6 n2 (zB1 dX.out).symm)) w3 B3)
    go_wp2
    first|exact HR.out|(go_ret;exact HR.out)
   |false=>
    have xD:=zA7 (HM.out.trans (Dt.bA4 n2 (fun h=>(of_decide_eq_false dX.out) h.symm)))
    go_wp2
    go_roundw
    case rel=>exact⟨k+1,by omega,by go_num,xD.out,R3,B3⟩
    case measure=>simp[intOf];omega
  ·have HR:=zA7 (HN.out (HM.out.trans (Dt.bA3 (by omega))) wr hb)
   have hki: ¬(k:Int)<12:=by omega
   go_wp2
   first|exact HR.out|(go_ret;exact HR.out)
theorem mAH(s:ByteArray)(w:World)(hs:s.size<=1099511627776):Calls Tryz.prog 83 #[.string s] w (yJ (Dt.month s.data.toList:Nat) w):=by
 by_cases h3:s.size<3
 ·exact mAJ s w h3
 ·exact mAI s w hs h3
end Go.Proofs.YtabgoobcliijeaaGreatDoor
