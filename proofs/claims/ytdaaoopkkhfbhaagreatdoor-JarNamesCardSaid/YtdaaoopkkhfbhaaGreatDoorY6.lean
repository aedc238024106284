/- The walk of what tells whether a rule can be: the program's. -/
import Derived.Test.YtdaaoopkkhfbhaaGreatDoorY5
import Derived.RangeFuncNested
import Derived.RangeFuncBound
import Derived.RangeFuncCalls
import Derived.RangeFuncLeaves
import Derived.RangeFuncBox
import Derived.Shelf.Abstract
import Derived.Shelf.RegionOpen
import Derived.OwnWalkIn
import Derived.TacticsInMore
import Derived.LoopNIn
import Derived.LoopIn
import Derived.Laws.OwnMore
import Derived.Deep.AppendLies
set_option maxHeartbeats 8000000
set_option maxRecDepth 100000
namespace Go.Proofs.YtdaaoopkkhfbhaaGreatDoor
open Go.RowKit
theorem Sx.lAh (r:Ru.Rule):(Ru.text r).length<=r.name.length+2:=by
 unfold Ru.text
 split
 ·simp
 ·split<;>simp
theorem jAO(r:Ru.Rule)(hr:r.name.length<=1048000)(w:World)(hw:Std w):
  Calls Tryz.prog 27 #[.agg (qA r)] w fun e w'=>e= .returned (.bool (Sx.right r))/\Below w.heap.size w w':=by
 have z0:=jS
 have htl:=Sx.lAh r
 obtain⟨t,ht⟩: ∃t:ByteArray,t=⟨(Ru.text r).toArray⟩:=⟨_,rfl⟩
 have htd:t.data.toList=Ru.text r:=by rw[ht]
 have hts:t.size<=1048576:=by rw[<-Oct.oA,htd];omega
 have H1:=zA7 (fun W=>jAP r W (by omega))
 have H2:=zA7 (fun W hW=>gAk t W hW hts)
 unfold VC at H1
 rw[<-ht]at H1
 rw[htd]at H2
 unfold LL at H2
 have HS:=zA7 (Sx.jAB r)
 have R0:=Row.new w 78 (qA r)
 have B0:=(Below.refl w.heap.size w).alloc (zB3 _) (.cells (qA r) 78)
 have HX0:=zA7 (show(Tryz.prog.info? 78).map (·.size)=some (qA r).size from oC)
 rcases Ru.DQ (Ru.text r)with⟨x,h1,_⟩|h1|h1
 ·rw[h1]at H2 HS
  dsimp only at H2 HS
  rw[Bool.true_and]at HS
  rw[HS.out]
  have q:=fun W=>cAW x r W
  obtain⟨b,hb⟩: ∃b,decide (x=r)=b:=⟨_,rfl⟩
  rw[hb]at q⊢
  have lB:=zA7 (show(Tryz.prog.info? 78).map (·.size)=some (qA x).size from oC)
  have lH:=zA7 (show(qA Ru.zero).size=(qA x).size from rfl)
  have OE:=zA7 (GE x)
  generalize qA r=R at*
  generalize qA x=X at*
  clear ht htd hts h1 HS htl hb
  go_enter Tryz.func27,Tryz.ntmps27
  go_wp2_with (refine jA 7 rfl ?_;refine pA rfl 78 _ rfl w.heap.size rfl R0 Tryz.underlying78 rfl HX0.out ?_)
  generalize w.alloc (.cells R 78)=w0 at*
  refine(H1.out _).mono ?_
  rintro e v1 ⟨rfl,d1⟩
  have R1:=R0.stays d1
  have B1:=B0.trans (d1.mono B0.size)
  clear R0 d1
  go_wp2_with fail
  refine(H2.out _ (hw.below B1)).mono ?_
  rintro e v2 ⟨rfl,d2⟩
  have R2:=R1.stays d2
  have B2:=B1.trans (d2.mono B1.size)
  obtain⟨T,U,C,L⟩:=PA 78 (qA Ru.zero) X B2 B2.size
  have R3:=L _ _ _ R2
  clear L R1 R2 B1 d2 B0
  go_wp2_with (first
   |(refine wpList_store_row rfl 78 _ _ rfl v2.heap.size X rfl rfl 78 _ T lB.out lH.out OE.out ?_)
   |(refine jA 15 rfl ?_;refine pA rfl 78 _ rfl v2.heap.size rfl U Tryz.underlying78 rfl lB.out ?_)
   |(refine jA 16 rfl ?_;refine pA rfl 78 _ rfl w.heap.size rfl R3 Tryz.underlying78 rfl HX0.out ?_))
  go_ret
  exact⟨rfl,C⟩
 ·rw[h1]at H2 HS
  dsimp only at H2 HS
  rw[Bool.false_and]at HS
  rw[HS.out]
  generalize qA r=R at*
  clear ht htd hts h1 HS htl
  go_enter Tryz.func27,Tryz.ntmps27
  go_wp2_with (refine jA 7 rfl ?_;refine pA rfl 78 _ rfl w.heap.size rfl R0 Tryz.underlying78 rfl HX0.out ?_)
  generalize w.alloc (.cells R 78)=w0 at*
  refine(H1.out _).mono ?_
  rintro e v1 ⟨rfl,d1⟩
  have B1:=B0.trans (d1.mono B0.size)
  clear R0 d1
  go_wp2_with fail
  refine(H2.out _ (hw.below B1)).mono ?_
  rintro e v2 ⟨rfl,d2⟩
  have B2:=B1.trans (d2.mono B1.size)
  obtain⟨T,U,C,L⟩:=PA 78 (qA Ru.zero) (qA Ru.zero) B2 B2.size
  clear L B1 d2 B0
  go_wp2_with (first
   |(refine wpList_store_row rfl 78 _ _ rfl v2.heap.size (qA Ru.zero) rfl rfl 78 _ T oC rfl (GE _) ?_))
  go_ret
  exact⟨rfl,C⟩
 ·rw[h1]at H2 HS
  dsimp only at H2 HS
  rw[Bool.false_and]at HS
  rw[HS.out]
  generalize qA r=R at*
  clear ht htd hts h1 HS htl
  go_enter Tryz.func27,Tryz.ntmps27
  go_wp2_with (refine jA 7 rfl ?_;refine pA rfl 78 _ rfl w.heap.size rfl R0 Tryz.underlying78 rfl HX0.out ?_)
  generalize w.alloc (.cells R 78)=w0 at*
  refine(H1.out _).mono ?_
  rintro e v1 ⟨rfl,d1⟩
  have B1:=B0.trans (d1.mono B0.size)
  clear R0 d1
  go_wp2_with fail
  refine(H2.out _ (hw.below B1)).mono ?_
  rintro e v2 ⟨rfl,d2⟩
  have B2:=B1.trans (d2.mono B1.size)
  obtain⟨T,U,C,L⟩:=PA 78 (qA Ru.zero) (qA Ru.zero) B2 B2.size
  clear L B1 d2 B0
  go_wp2_with (first
   |(refine wpList_store_row rfl 78 _ _ rfl v2.heap.size (qA Ru.zero) rfl rfl 78 _ T oC rfl (GE _) ?_))
  go_ret
  exact⟨rfl,C⟩
end Go.Proofs.YtdaaoopkkhfbhaaGreatDoor
namespace Go.Proofs.YtdaaoopkkhfbhaaGreatDoor
open Go.RowKit Go.Shelf
attribute [local go_sem] Oper.semAt_some
def KB(g B:Nat)(W W':World):Prop:= ∀b,b=g\/b=B->W'.heap[b]? =W.heap[b]?
theorem KB.refl (g B:Nat)(W:World):KB g B W W:=fun _ _=>rfl
theorem KB.trans {g B:Nat}{X Y Z:World}(h:KB g B X Y)(k:KB g B Y Z):KB g B X Z:=fun b hb=>(k b hb).trans (h b hb)
theorem TW {g B:Nat}{w:World}(hg:g<w.heap.size)(hB:B<w.heap.size)(W:World)(l:Nat)(o o':Obj)(hl:w.heap.size<=l)(_:W.heap[l]? =some o)(_:o.isCells=false)(_:o.isWalk=false):KB g B W (W.putObj l o'):=
 fun b hb=>World.putObj_heap_other (by rcases hb with rfl|rfl<;>omega)
theorem KB.bAh {g B:Nat}{W W':World}(h:KB g B W W')(j:Nat):W'.cell? ⟨g,j,none⟩=W.cell? ⟨g,j,none⟩:=World.cell?_of_block (h g (.inl rfl))
theorem KB.bAg {g B:Nat}{W W':World}(h:KB g B W W')(j:Nat):W'.cell? ⟨B,j,none⟩=W.cell? ⟨B,j,none⟩:=World.cell?_of_block (h B (.inr rfl))
def cB(ls:List (List UInt8))(k:Nat):List UInt8:=(ls[ls.length-1-k]?).getD []
theorem cX(ls:List (List UInt8))(k:Nat)(hk:k<=ls.length):(List.range k).map (cB ls)=ls.reverse.take k:=by
 apply List.ext_getElem
 ·simp;omega
 ·intro i h1 h2
  have hi:i<k:=by simpa using h1
  have hl:ls.length-1-i<ls.length:=by omega
  simp[cB,hl]
theorem bX(ls:List (List UInt8)):(List.range ls.length).map (cB ls)=ls.reverse:=by
 rw[cX ls _ (zB3 _),List.take_of_length_le (by simp)]
theorem YW {ls:List (List UInt8)}{n:Nat}(h: ∀p∈ls,p.length<=n)(k:Nat):(cB ls k).length<=n:=by
 unfold cB
 cases e:ls[ls.length-1-k]? with
 |none=>exact Nat.zero_le _
 |some p=>exact h p (List.mem_of_getElem? e)
def tK(ls:List (List UInt8))(k:Nat):Array Value:= #[.int .i64 ((ls.length-1-k:Nat):Int),gA (cB ls k)]
theorem aAP(F:Fence)(n:Nat)(hf:F.fn 86)(hro:F.round=none)(hn:1<=n)(l B g cap:Nat)(ls:List (List UInt8))(hl:ls.length<=1048576)(J Jx:List Nat->World->Prop)
  (hY: ∀pre x W,J pre W->pre.length<ls.length->YieldAt F (n-1) Tryz.prog l (tK ls x) W fun e W'=>
   (e= .returned (.bool true)/\J (pre++ [x]) W'/\KB g B W W')\/(e= .returned (.bool false)/\Jx (pre++ [x]) W'))
  (W:World)(hB:W.cell? ⟨B,0,none⟩=some (.slice (some ⟨g,0,none⟩) ls.length cap))(hc: ∀j x,ls[j]? =some x->W.cell? ⟨g,j,none⟩=some (gA x))(h0:J [] W):
  CallsIn F n Tryz.prog 86 #[.func (.yield l) #[] #[],.pointer (some ⟨B,0,none⟩)] W fun e W'=>(∃v,e= .returned v)/\
   ((∃ys,ys=List.range ls.length/\J ys W')\/(∃pre,(∃k,k<=ls.length/\pre=List.range k)/\Jx pre W')):=by
 refine callsIn_of_wp Tryz.func86 rfl hf ?_ hro
 simp only[Tryz.ntmps86,List.size_toArray,zB5,List.length_nil,Nat.reduceAdd,Nat.reduceSub,Array.replicate_succ,Array.replicate_zero,List.push_toArray,List.append_toArray,List.nil_append,List.cons_append]
 obtain⟨m,hm⟩: ∃m,ls.length=m:=⟨_,rfl⟩
 rw[hm]at hB hl hY
 have HM:=zA7 hm
 gi_wp2
 gi_loopw [3] (fun i wr=> ∃k:Nat,k<=m/\i= .int .i64 ((m:Int)-1- (k:Int))/\J (List.range k) wr/\KB g B W wr)
  (fun i _=>(intOf i+1).toNat)
 case atStart=>exact⟨0,Nat.zero_le _,by go_num,h0,KB.refl _ _ _⟩
 case round=>
  obtain⟨k,hk,rfl,hJs,hkp⟩:=hrel
  have hBr:=(hkp.bAg 0).trans hB
  by_cases hlt:k<m
  ·obtain⟨x,hx⟩: ∃x,ls[m-1-k]? =some x:=⟨_,List.getElem?_eq_getElem (by rw[HM.out];omega)⟩
   have hcx:=(hkp.bAh (m-1-k)).trans (hc _ _ hx)
   obtain⟨u,hu⟩: ∃u:ByteArray,u=⟨x.toArray⟩:=⟨_,rfl⟩
   have hs:gA x= .string u:=by rw[hu];rfl
   have hbk:List.range (k+1)=List.range k++ [k]:=List.range_succ
   obtain⟨fn,tmps,assign,body,hy,hR⟩:=hY _ k wr hJs (by rw[List.length_range];exact hlt)
   have lG:=zA7 hbk
   have HX:=zA7 hx
   have hlb:cB ls k=x:=by unfold cB;rw[HM.out,hx];rfl
   unfold tK at hy
   rw[hlb,HM.out]at hy
   rw[hs]at hcx hy
   have hi:((m-1-k:Nat):Int)=(m:Int)-1- (k:Int):=by omega
   rw[hi]at hy
   have hnn:(0:Int)<=(m:Int)-1- (k:Int):=by omega
   have htn:((m:Int)-1- (k:Int)).toNat=m-1-k:=by omega
   clear hbk hx hm hu hs hlb
   gi_wp2
   refine hR.mono ?_
   rintro e W3 (⟨rfl,hJ3,hk3⟩|⟨rfl,hJx3⟩)
   ·gi_wp2
    go_roundw
    case rel=>exact⟨k+1,by omega,by go_num,by rw[lG.out];exact hJ3,hkp.trans hk3⟩
    case measure=>simp[intOf];omega
   ·gi_wp2
    refine bodyPost_ret (results_none rfl _ _ _) rfl ?_
    exact⟨⟨_,rfl⟩,.inr ⟨_,⟨k+1,by rw[HM.out];omega,lG.out.symm⟩,hJx3⟩⟩
  ·obtain rfl:k=m:=by omega
   gi_wp2
   go_end0
   exact⟨⟨_,rfl⟩,.inl ⟨_,by rw[HM.out],hJs⟩⟩
theorem ON {w:World}{BL n:Nat}{v:Value}{ls:List (List UInt8)}(h:w.ownsRow BL 9 1 v n (ls.map gA)):n=ls.length/\((v= .slice none 0 0/\ls= [])\/ ∃g cap,v= .slice (some ⟨g,0,none⟩) ls.length cap/\g<w.heap.size/\ ∀j x,ls[j]? =some x->w.cell? ⟨g,j,none⟩=some (gA x)):=by
 have hn:n=ls.length:=by have:=h.1;simp at this;omega
 subst hn
 refine⟨rfl,?_⟩
 rcases h.2 with⟨rfl,h0⟩|⟨g,cap,cur,rfl,hb,hg,_⟩
 ·exact .inl ⟨rfl,List.eq_nil_of_length_eq_zero h0⟩
 ·refine .inr ⟨g,cap,rfl,(Array.getElem?_eq_some_iff.1 hg).1,fun j x hx=>?_⟩
  have:=h.cells (g:=g) rfl j (gA x) (by rw[List.getElem?_map,hx];rfl)
  rw[uY]at this
  exact this
theorem aAQ(F:Fence)(n:Nat)(hf:F.fn 86)(hro:F.round=none)(l B:Nat)(J:List Nat->World->Prop)(W:World)(hB:W.cell? ⟨B,0,none⟩=some (.slice none 0 0))(h0:J [] W):
  CallsIn F n Tryz.prog 86 #[.func (.yield l) #[] #[],.pointer (some ⟨B,0,none⟩)] W fun e W'=>(∃v,e= .returned v)/\J [] W':=by
 refine callsIn_of_wp Tryz.func86 rfl hf ?_ hro
 simp only[Tryz.ntmps86,List.size_toArray,zB5,List.length_nil,Nat.reduceAdd,Nat.reduceSub,Array.replicate_succ,Array.replicate_zero,List.push_toArray,List.append_toArray,List.nil_append,List.cons_append]
 gi_wp2
 gi_loopw [3] (fun i wr=>i= .int .i64 (-1)/\J [] wr) (fun _ _=>0)
 case atStart=>exact⟨by go_num,h0⟩
 case round=>
  obtain⟨rfl,hJs⟩:=hrel
  gi_wp2
  go_end0
  exact⟨⟨_,rfl⟩,hJs⟩
theorem JT(F:Fence)(n:Nat)(hf:F.fn 45)(hro:F.round=none)(a:Option Addr)(len cap:Nat)(w:World):
  CallsIn F n Tryz.prog 45 #[.slice a len cap] w fun e w'=>e= .returned (.func (.func 86) #[] #[.pointer (some ⟨w.heap.size,0,none⟩)])/\w'=w.alloc (.cells #[.slice a len cap] 93):=by
 refine callsIn_of_wp Tryz.func45 rfl hf ?_ hro
 simp only[Tryz.ntmps45,List.size_toArray,zB5,List.length_nil,Nat.reduceAdd,Nat.reduceSub,Array.replicate_succ,Array.replicate_zero,List.push_toArray,List.append_toArray,List.nil_append,List.cons_append]
 gi_wp2
 go_ret
 exact⟨rfl,rfl⟩
theorem IT(F:Fence)(n:Nat)(hf:F.fn 86)(hro:F.round=none)(hn:1<=n)(B:Nat)(v:Value)(ls:List (List UInt8))(hl:ls.length<=1048576)(w:World)(hB:B<w.heap.size)
  (hc:w.cell? ⟨B,0,none⟩=some v)(BL:Nat)(hown:w.ownsRow BL 9 1 v ls.length (ls.map gA)):
  SeqStopsK F n Tryz.prog 86 #[.pointer (some ⟨B,0,none⟩)] (tK ls) (KB (v.ownBlock.getD B) B) (fun ys=>ys=List.range ls.length) (fun pre=> ∃k,k<=ls.length/\pre=List.range k) ls.length w:=fun l J Jx W hW _ _ hY h0=>by
 have hc':=(hW.cell (p:=⟨B,0,none⟩) hB).trans hc
 obtain⟨_,⟨rfl,rfl⟩|⟨g,cap,rfl,hg,hcs⟩⟩:=ON hown
 ·exact(aAQ F n hf hro l B J W hc' h0).mono fun e W' ⟨he,hj⟩=>⟨he,.inl ⟨_,rfl,hj⟩⟩
 ·exact aAP F n hf hro hn l B g cap ls hl J Jx hY W hc' (fun j x hx=>(hW.cell (p:=⟨g,j,none⟩) hg).trans (hcs j x hx)) h0
end Go.Proofs.YtdaaoopkkhfbhaaGreatDoor
namespace Go.Proofs.YtdaaoopkkhfbhaaGreatDoor
open Go.RowKit Go.Maps
def fE(r:Sx.Way):Array Value:= #[Value.int .i64 (r.1:Int),gA r.2]
theorem mAi(r:Sx.Way):(fE r)[0]? =some (.int .i64 (r.1:Int)):=rfl
theorem mAj(r:Sx.Way):(fE r)[1]? =some (gA r.2):=rfl
def LD(r:Sx.Way):Lit:= .string (keyBytes [.int .i64 (r.1:Int),.string r.2])
def DD(r:Sx.Way):Prop:=(Lit.int .i64 (r.1:Int)).wf=true/\r.2.length<=maxLen
theorem ZN:Keyed Tryz.prog 165:=Keyed.of_law (deep_law_laid laidOut (m:=3) (by omega) (zB1 (by kernel_rfl)) (by kernel_rfl) (by kernel_rfl))
theorem mAl:Tryz.prog.keyType 165=true:=by kernel_rfl
theorem YT:Tryz.prog.cellsOf 165=2:=by kernel_rfl
theorem jL(r:Sx.Way)(h:DD r):keyOf Tryz.prog 165 (.agg (fE r))=some (LD r):=by
 obtain⟨f0,f1,hu,⟨n0,n1⟩,⟨o0,o1⟩,t0,t1⟩: ∃f0 f1,Tryz.prog.underlying 165=some (.struct #[f0,f1])/\(f0.name≠ "_" /\f1.name≠ "_")/\(f0.offset=0/\f1.offset=1)/\f0.type=3/\f1.type=9:=
  ⟨_,_,Tryz.underlying165,⟨by decide,by decide⟩,⟨rfl,rfl⟩,rfl,rfl⟩
 obtain⟨hw,hl⟩:=h
 obtain⟨n,hn⟩:=lAK
 have hs:(⟨r.2.toArray⟩:ByteArray).size<=maxLen:=by show(List.toArray _).size<=_;simp;exact hl
 have k0:Tryz.prog.keyLits (n+1) 3 [Value.int .i64 (r.1:Int)]=some [.int .i64 (r.1:Int)]:=by
  simp[Program.keyLits,Tryz.underlying3,hw]
 have k1:Tryz.prog.keyLits (n+1) 9 [gA r.2]=some [.string r.2]:=by
  simp[Program.keyLits,Tryz.underlying9,gA,hs]
 have hform:(Value.agg (fE r)).formed Tryz.prog 165=true:=by
  simp[Value.formed,hu,YT,fE]
 have hk:Tryz.prog.keyLits (n+1+1) 165 [Value.int .i64 (r.1:Int),gA r.2]=some [.int .i64 (r.1:Int),.string r.2]:=by
  unfold Program.keyLits
  rw[hu]
  simp[YT,bAo,bAq,n0,n1,o0,o1,t0,t1,k0,k1]
 unfold keyOf
 rw[hu]
 simp only[mAl,hform,Bool.and_self,if_true]
 rw[hn,show(Value.agg (fE r)).cells.toList= [Value.int .i64 (r.1:Int),gA r.2] from rfl,hk]
 rfl
theorem mAk {r q:Sx.Way}(hr:DD r)(hq:DD q)(h:LD r=LD q):r=q:=by
 have e:=ZN.inj (jL r hr) (h▸jL q hq)
 have e2:fE r=fE q:=Value.agg.inj e
 have e0:=congrArg (fun c=>c[0]?) e2
 have e1:=congrArg (fun c=>c[1]?) e2
 simp only[mAi,mAj,Option.some.injEq,Value.int.injEq,true_and]at e0 e1
 have e3:r.2=q.2:=by
  unfold gA at e1
  have:=congrArg (fun b:ByteArray=>b.data.toList) (Value.string.inj e1)
  simpa using this
 exact Prod.ext (Int.ofNat.inj e0) e3
def mapD(es:List Sx.Way):DataW Unit:=(es.zipIdx 1).foldl (fun D e=>D.put (LD e.1) (.lit (.int .i64 (e.2:Int)))) (.map [])
theorem GQ(es:List Sx.Way)(k:Sx.Way):mapD (es++ [k])=(mapD es).put (LD k) (.lit (.int .i64 ((es.length+1:Nat):Int))):=by
 unfold mapD
 rw[List.zipIdx_append,List.foldl_append]
 show DataW.put _ (LD k) (.lit (.int .i64 ((1+es.length:Nat):Int)))=_
 rw[Nat.add_comm 1]
theorem FQ(es:List Sx.Way):IsMap (mapD es):=by
 rcases Sx.dI es with rfl|⟨q,k,rfl⟩
 ·exact⟨[],rfl⟩
 ·rw[GQ]
  have:=FQ q
  exact this.put _ _
termination_by es.length
decreasing_by rename_i h;simp[h]
theorem I5(k:Sx.Way):WideAt.IsKeyLit (LD k):=trivial
theorem sX {k:Sx.Way}(hk:DD k): ∀(n:Nat)(es:List Sx.Way),es.length=n->(∀x∈es,DD x)->es.Nodup->Maps.has (mapD es) (LD k)=(Sx.find es k).isSome/\(mapD es).atKey (LD k) (.lit (.int .i64 0))= .lit (.int .i64 (((Sx.find es k).getD 0:Nat):Int))
 |0,es,h,_,_=>by
  have e:es= []:=List.eq_nil_of_length_eq_zero h
  subst e
  exact⟨rfl,rfl⟩
 |n+1,es,h,ho,hd=>by
  rcases Sx.dI es with rfl|⟨es,q,rfl⟩
  ·cases h
  ·rw[List.nodup_append]at hd
   obtain⟨h1,h2⟩:=sX hk n es (by simpa using h) (fun x hx=>ho x (by simp[hx])) hd.1
   have hq:DD q:=ho q (by simp)
   have hn:q∉es:=fun hm=>hd.2.2 q hm q (by simp) rfl
   rw[GQ]
   by_cases e:k=q
   ·subst e
    rw[has_put_same (FQ es) (I5 k),atKey_put_same (FQ es) (I5 k),Sx.kV (Sx.bF.2 hn)]
    exact⟨rfl,rfl⟩
   ·have hne:LD k≠LD q:=fun x=>e (mAk hk hq x)
    rw[has_put_other hne,atKey_put_other hne,Sx.dAe e]
    exact⟨h1,h2⟩
def ID(K:Sx.Kinds):Array Value:= #[.bool false,.bool K.name,.bool K.dC,.bool K.spare]
def jC(Ks:List Sx.Kinds):List Value:=Ks.flatMap fun K=> [Value.bool false,.bool K.name,.bool K.dC,.bool K.spare]
theorem XW(Ks:List Sx.Kinds)(K:Sx.Kinds):jC (Ks++ [K])=jC Ks++ [.bool false,.bool K.name,.bool K.dC,.bool K.spare]:=by simp[jC]
theorem XI(K:Sx.Kinds)(Ks:List Sx.Kinds):jC (K::Ks)= .bool false:: .bool K.name:: .bool K.dC:: .bool K.spare::jC Ks:=rfl
theorem WI: ∀ {Ks:List Sx.Kinds}{k:Nat}{K:Sx.Kinds},Ks[k]? =some K-> ∀i u,(ID K)[i]? =some u->(jC Ks)[k*4+i]? =some u
 | [],k,K,h,_,_,_=>by simp at h
 |Q::Ks,0,K,h,i,u,hu=>by
  have e:Q=K:=by simpa using h
  subst e
  rw[XI,Nat.zero_mul,Nat.zero_add]
  match i,hu with
  |0,hu=>exact hu
  |1,hu=>exact hu
  |2,hu=>exact hu
  |3,hu=>exact hu
  |i+4,hu=>simp[ID]at hu
 |Q::Ks,k+1,K,h,i,u,hu=>by
  have ih:=WI (Ks:=Ks) (k:=k) (K:=K) (by simpa using h) i u hu
  rw[XI,show(k+1)*4+i=k*4+i+1+1+1+1 by omega,List.getElem?_cons_succ,List.getElem?_cons_succ,List.getElem?_cons_succ,List.getElem?_cons_succ]
  exact ih
theorem WW: ∀(Ks:List Sx.Kinds)(j:Nat)(k:Int),k=1\/k=2\/k=3->j<Ks.length->(jC Ks).set (j*4+k.toNat) (.bool true)=jC (Ks.modify j fun K=>K.mark k)
 | [],j,k,_,h=>by simp at h
 |Q::Ks,0,k,hk,_=>by
  rw[XI,Nat.zero_mul,Nat.zero_add,List.modify_zero_cons,XI]
  rcases hk with rfl|rfl|rfl<;>rfl
 |Q::Ks,j+1,k,hk,h=>by
  have ih:=WW Ks j k hk (by simpa using h)
  rw[XI,List.modify_succ_cons,XI,<-ih,show(j+1)*4+k.toNat=j*4+k.toNat+1+1+1+1 by omega]
  simp only[zA2]
theorem qQ:(Tryz.prog.info? 111).map (fun i=>(i.zero,i.size,i.bytes))=some (some (.agg (ID Sx.no)),4,4):=by kernel_rfl
theorem BW:(Tryz.prog.info? 111).map (·.size)=some 4:=by kernel_rfl
theorem bA4(j:Int)(s:ByteArray):Tryz.prog.built 165 [(0,.int .i64 j),(1,.string s)]=some #[.int .i64 j,.string s]:=by kernel_rfl
theorem bA2:Tryz.prog.built 111 []=some (ID Sx.no):=by kernel_rfl
structure TabAt(w:World)(n₀ tb mb:Nat)(t:Sx.Tab):Prop where
 well:Sx.Well t
 okay: ∀k∈t.es,k.2.length<=maxLen
 few:t.es.length<=1048576
 apart:mb≠tb
 low:n₀<=tb/\n₀<=mb
 map:w.ownsMap Tryz.prog 165 (plainElem (H:=Unit) Tryz.prog 3) mb t.es.length (mapD t.es)
 cells: ∃v,Row w tb 76 #[.map (some mb),v]/\w.ownsRow n₀ 111 4 v t.ends.length (jC t.ends)
structure Turns(tb mb:Nat)(w w':World):Prop where
 size:w.heap.size<=w'.heap.size
 same: ∀b,b<w.heap.size->b≠tb->b≠mb->(∀cs cur,w.heap[b]? ≠some (.cells cs 111 cur))->w'.heap[b]? =w.heap[b]?
theorem Turns.refl (tb mb:Nat)(w:World):Turns tb mb w w:=⟨zB3 _,fun _ _ _ _ _=>rfl⟩
theorem Turns.trans {tb mb:Nat}{a b c:World}(h:Turns tb mb a b)(k:Turns tb mb b c):Turns tb mb a c:=
 ⟨Nat.le_trans h.size k.size,fun i hi h1 h2 h3=>by
  have e:=h.same i hi h1 h2 h3
  exact(k.same i (Nat.lt_of_lt_of_le hi h.size) h1 h2 (by rw[e];exact h3)).trans e⟩
theorem Turns.grown {tb mb:Nat}{w w':World}{row:Option Nat}(hg:w.grownBy w' row)(hr: ∀b,row=some b->b=tb\/b=mb\/w.heap.size<=b\/ ∃cs cur,w.heap[b]? =some (.cells cs 111 cur)):Turns tb mb w w':=
 ⟨hg.size,fun b hb h1 h2 h3=>hg.block b hb (fun e=>by
  rcases hr b e.symm with k|k|k|⟨cs,cur,k⟩
  ·exact h1 k
  ·exact h2 k
  ·omega
  ·exact h3 cs cur k)⟩
theorem Turns.alloc (tb mb:Nat)(w:World)(o:Obj):Turns tb mb w (w.alloc o):= .grown (World.grownBy_alloc w o none) (fun _ e=>by cases e)
theorem Turns.below {tb mb n:Nat}{w w':World}(h:Below n w w')(hn:w.heap.size<=n):Turns tb mb w w':=⟨h.size,fun b hb _ _ _=>h.block b (by omega)⟩
theorem Turns.setCell {tb mb:Nat}(w:World)(i:Nat)(u:Value):Turns tb mb w (w.setCell ⟨tb,i,none⟩ u):=
 ⟨by simp,fun b _ h1 _ _=>heap_setCell_other w ⟨tb,i,none⟩ b u h1⟩
theorem DD.of {es:List Sx.Way}(ht:Sx.Tree es)(hf:es.length<=1048576)(ho: ∀k∈es,k.2.length<=maxLen): ∀k∈es,DD k:=by
 intro k hk
 obtain⟨i,hi⟩:=List.getElem?_of_mem hk
 have:=ht.back i k hi
 have:=(List.getElem?_eq_some_iff.1 hi).1
 exact⟨WalkArith.wf_i64 (by omega),ho k hk⟩
theorem TabAt.look {w:World}{n₀ tb mb:Nat}{t:Sx.Tab}(h:TabAt w n₀ tb mb t){k:Sx.Way}(hk:DD k):Maps.has (mapD t.es) (LD k)=(Sx.find t.es k).isSome/\(mapD t.es).atKey (LD k) (.lit (.int .i64 0))= .lit (.int .i64 (((Sx.find t.es k).getD 0:Nat):Int)):=
 sX hk _ t.es rfl (DD.of h.well.tree h.few h.okay) h.well.tree.once
theorem YI {w:World}{n₀ n:Nat}{v:Value}{xs:List Value}(h:w.ownsRow n₀ 111 4 v n xs): ∀b,v.ownBlock=some b-> ∃cs cur,w.heap[b]? =some (.cells cs 111 cur):=by
 intro b hb
 rcases h.2 with⟨rfl,_⟩|⟨g,cap,cur,rfl,_,hg,_⟩
 ·cases hb
 ·have e:g=b:=zB2 hb
  subst e
  exact⟨_,_,hg⟩
theorem TabAt.kept {w w':World}{n₀ tb mb:Nat}{t:Sx.Tab}{row:Option Nat}(h:TabAt w n₀ tb mb t)(hg:w.grownBy w' row)(hr: ∀b,row=some b->w.heap.size<=b\/(b≠tb/\b≠mb/\ ∀cs cur,w.heap[b]? ≠some (.cells cs 111 cur))):TabAt w' n₀ tb mb t:=by
 obtain⟨v,hR,hO⟩:=h.cells
 have htb:some tb≠row:=fun e=>by
  rcases hr tb e.symm with k|k
  ·have:=hR.lt;omega
  ·exact k.1 rfl
 have hmb:some mb≠row:=fun e=>by
  rcases hr mb e.symm with k|k
  ·have:=h.map.lt;omega
  ·exact k.2.1 rfl
 have hv:v.ownBlock=none\/v.ownBlock≠row:=by
  cases e:v.ownBlock with
  |none=>exact .inl rfl
  |some b=>
   refine .inr fun k=>?_
   obtain⟨cs,cur,hb⟩:=YI hO b e
   rcases hr b k.symm with k|k
   ·have:=(hO.lt b e).2;omega
   ·exact k.2.2 cs cur hb
 exact⟨h.well,h.okay,h.few,h.apart,h.low,h.map.kept hg hmb,v,(hg.block tb hR.lt htb).trans hR,hO.kept hg hv⟩
theorem TabAt.stays {w w':World}{n₀ tb mb:Nat}{t:Sx.Tab}(h:TabAt w n₀ tb mb t)(hb:Below w.heap.size w w'):TabAt w' n₀ tb mb t:=
 h.kept (row:=none) ⟨hb.os,hb.tape,hb.output,hb.size,fun i hi _=>hb.block i hi⟩ (fun _ e=>by cases e)
end Go.Proofs.YtdaaoopkkhfbhaaGreatDoor
namespace Go.Proofs.YtdaaoopkkhfbhaaGreatDoor
open Go.RowKit Go.Maps
theorem bAi(w:World)(a b c d:Value)(t:TypeId): ∀j u,[a,b,c,d][j]? =some u->(w.alloc (.cells #[a,b,c,d] t)).cell? ((⟨w.heap.size,0,none⟩:Addr).add j)=some u:=by
 intro j u h
 rw[uY,(Row.new w t #[a,b,c,d]).cell]
 rw[<-h]
 match j with
 |0=>rfl
 |1=>rfl
 |2=>rfl
 |3=>rfl
 |j+4=>rfl
theorem A7(w:World):(zeroValue 3).run Tryz.prog w= .ok (.int .i64 0) w:=by kernel_rfl
theorem QP(w:World)(b i:Nat)(u:Value):w.grownBy (w.setCell ⟨b,i,none⟩ u) (some b):=
 ⟨rfl,rfl,rfl,by simp,fun k _ hk=>heap_setCell_other w ⟨b,i,none⟩ k u (fun e=>hk (by rw[e]))⟩
def aAf(o:Sx.Tab×Nat)(n₀ tb mb:Nat)(w:World)(e:Ending)(w':World):Prop:=
 e= .returned (.int .i64 (o.2:Int))/\TabAt w' n₀ tb mb o.1/\Turns tb mb w w'/\Below n₀ w w'
theorem TabAt.cI {w:World}{n₀ tb mb n:Nat}{t:Sx.Tab}{v:Value}{xs:List Value}(h:TabAt w n₀ tb mb t)(hO:w.ownsRow n₀ 111 4 v n xs):v.ownBlock=none\/v.ownBlock≠some mb:=by
 refine .inr fun e=>?_
 obtain⟨cs,cur,hb⟩:=YI hO mb e
 obtain⟨es,clock,hm,_⟩:=h.map
 rw[hm]at hb
 cases hb
theorem TabAt.more {w w1 w3:World}{n₀ tb mb:Nat}{t:Sx.Tab}{k:Sx.Way}{v v':Value}{o:Obj}(h:TabAt w n₀ tb mb t)(hR:Row w tb 76 #[.map (some mb),v])(hO:w.ownsRow n₀ 111 4 v t.ends.length (jC t.ends))
  (hn:Sx.find t.es k=none)(hj:k.1<=t.es.length)(hk:k.2.length<=maxLen)(hl:t.es.length<1048576)(hn₀:n₀<=w.heap.size)
  (hmap:w1.ownsMap Tryz.prog 165 (plainElem (H:=Unit) Tryz.prog 3) mb (t.es.length+1) ((mapD t.es).put (LD k) (.lit (.int .i64 (t.ends.length:Int)))))(hg1:w.grownBy w1 (some mb))
  (hown:w3.ownsRow n₀ 111 4 v' (t.ends.length+1) (jC t.ends++ [.bool false,.bool false,.bool false,.bool false]))(hg3:(w1.alloc o).grownBy w3 v.ownBlock):
  Row w3 tb 76 #[.map (some mb),v]/\TabAt (w3.setCell ⟨tb,1,none⟩ v') n₀ tb mb ⟨t.es++ [k],t.ends++ [Sx.no]⟩/\Turns tb mb w (w3.setCell ⟨tb,1,none⟩ v')/\Below n₀ w (w3.setCell ⟨tb,1,none⟩ v'):=by
 have hvb:=YI hO
 have hvl:=hO.lt
 have hs1:=hg1.size
 have hs2:w1.heap.size<(w1.alloc o).heap.size:=by simp
 have hs3:=hg3.size
 have htl:=hR.lt
 have hml:=h.map.lt
 have hR1:Row w1 tb 76 #[.map (some mb),v]:=(hg1.block tb htl (fun e=>h.apart (zB2 e).symm)).trans hR
 have hR2:Row (w1.alloc o) tb 76 #[.map (some mb),v]:=hR1.alloc o
 have hvt:some tb≠v.ownBlock:=fun e=>by
  obtain⟨cs,cur,hb⟩:=hvb tb e.symm
  have:=hR.symm.trans hb
  simp at this
 have TP:Row w3 tb 76 #[.map (some mb),v]:=(hg3.block tb hR2.lt hvt).trans hR2
 have vW:some mb≠v.ownBlock:=fun e=>by
  obtain⟨cs,cur,hb⟩:=hvb mb e.symm
  obtain⟨es,clock,hm,_⟩:=h.map
  rw[hm]at hb
  cases hb
 have hM3:=(hmap.alloc o).kept hg3 vW
 have OV:=hM3.kept (QP w3 tb 1 v') (fun e=>h.apart (zB2 e))
 have fA1:v'.ownBlock≠some tb:=fun e=>by
  obtain⟨cs,cur,hb⟩:=YI hown tb e
  have:=TP.symm.trans hb
  simp at this
 have hO4:=hown.kept (QP w3 tb 1 v') (.inr fA1)
 have hw:=Sx.DZ (l:=k.2) h.well hj
 have hst:Sx.step t k.1 k.2=(⟨t.es++ [k],t.ends++ [Sx.no]⟩,t.ends.length):=by
  unfold Sx.step
  rw[show Sx.find t.es (k.1,k.2)=none from hn]
 rw[hst]at hw
 refine⟨TP,⟨hw.1,?_,?_,h.apart,h.low,?_,v',TP.set 1 v',?_⟩,?_,?_⟩
 ·intro x hx
  rcases List.mem_append.1 hx with hx|hx
  ·exact h.okay x hx
  ·rw[List.mem_singleton]at hx;rw[hx];exact hk
 ·dsimp only
  rw[zB4]
  show t.es.length+1<=_
  omega
 ·dsimp only
  rw[zB4,GQ]
  rw[h.well.size]at OV
  exact OV
 ·dsimp only
  rw[zB4,XW]
  exact hO4
 ·have t1:Turns tb mb w w1:= .grown hg1 (fun b e=> .inr (.inl (zB2 e).symm))
  have t2:Turns tb mb (w1.alloc o) w3:= .grown hg3 (fun b e=>by
   obtain⟨cs,cur,hb⟩:=hvb b e
   have hb1:w1.heap[b]? =w.heap[b]? :=hg1.block b (hvl b e).2 (fun x=>vW (by rw[e,<-x]))
   exact .inr (.inr (.inr ⟨cs,cur,(Below.heap_alloc w1 o b (by have:=(hvl b e).2;omega)).trans (hb1.trans hb)⟩)))
  exact((t1.trans (Turns.alloc tb mb w1 o)).trans t2).trans (Turns.setCell w3 1 v')
 ·refine Below.setCell (p:=⟨tb,1,none⟩) ?_ h.low.1 v'
  exact(((Below.refl n₀ w).grown hg1 hn₀ (fun b e=>by have:=h.low.2;have e:=zB2 e;omega)).alloc (by omega) o).grown hg3 (by omega) (fun b e=>(hvl b e).1)
theorem kX {ops:Array Oper}{rest:List Oper}{o:Oper}{a:Act}{Q:Exit->Act->World->Prop}{w:World}(hg:o.guard=none)(m x:Operand)(hop:o.op=Op.lookup 73 m x true)
  {n₀ tb mb:Nat}{t:Sx.Tab}(h:TabAt w n₀ tb mb t)(hm:a.eval m= .map (some mb))(k:Sx.Way)(hk:DD k)(hx:a.eval x= .agg (fE k))(R:Nat)(B:Bool)(hR:(Sx.find t.es k).getD 0=R)(hB:(Sx.find t.es k).isSome=B)
  (hK:wpList Tryz.prog ops Q rest (a.put o.dst (.tuple #[.int .i64 (R:Int),.bool B])) w):wpList Tryz.prog ops Q (o::rest) a w:=by
 obtain⟨h1,h2⟩:=h.look hk
 refine wpList_lookup_own_ok_int w hg m x 73 hop 165 3 .i64 ZN Tryz.underlying73 Tryz.underlying3 (A7 w) mb t.es.length _ hm h.map _ _ hx (jL k hk) ?_
 intro c hc hwc
 rw[h2,hR]at hc
 have e:(R:Int)=c:=by
  have:=DataW.lit.inj hc
  exact(Lit.int.inj this).2
 rw[h1,hB,<-e]
 exact hK
theorem kAN(t:Sx.Tab)(j:Nat)(s:ByteArray)(n₀ tb mb:Nat)(w:World)(h:TabAt w n₀ tb mb t)(hj:j<=t.es.length)(hs:s.size<=1048576)(hl:t.es.length<1048576)(hn₀:n₀<=w.heap.size):
  Calls Tryz.prog 47 #[.pointer (some ⟨tb,0,none⟩),.int .i64 (j:Int),.string s] w (aAf (Sx.step t j s.data.toList) n₀ tb mb w):=by
 have HK:Hid (DD (j,s.data.toList)):=zA7 ⟨WalkArith.wf_i64 (by dsimp only;omega),by dsimp only;rw[Oct.oA];unfold maxLen;omega⟩
 have HX:Hid (∀(X:Array Value),X= #[Value.int .i64 (j:Int),.string s]->(.agg X:Value)= .agg (fE (j,s.data.toList))):=zA7 (fun X hX=>by rw[hX];rfl)
 obtain⟨v,hR,hO⟩:=h.cells
 have c0:w.cell? ⟨tb,0,none⟩=some (.map (some mb)):=by rw[hR.cell];rfl
 have c1:w.cell? ⟨tb,1,none⟩=some v:=by rw[hR.cell];rfl
 have HB:=zA7 (bA4 (j:Int) s)
 obtain⟨X,hX⟩: ∃X,#[Value.int .i64 (j:Int),.string s]=X:=⟨_,rfl⟩
 rw[hX]at HB
 have LO:=zA7 (HX.out X hX.symm)
 clear HX hX
 cases hf:Sx.find t.es (j,s.data.toList)with
 |some i=>
  have HS:Hid (Sx.step t j s.data.toList=(t,i)):=zA7 (by unfold Sx.step;rw[hf])
  have qI:=zA7 (show(Sx.find t.es (j,s.data.toList)).getD 0=i by rw[hf];rfl)
  have sF:=zA7 (show(Sx.find t.es (j,s.data.toList)).isSome=true by rw[hf];rfl)
  rw[HS.out]
  have H:=zA7 h
  clear HS hf hR hO hj hl hn₀ h
  go_enter Tryz.func47,Tryz.ntmps47
  go_wp2_with (first
   |(refine jA 16 rfl ?_;refine YD rfl 165 0 1 _ _ rfl _ _ rfl rfl X HB.out ?_)
   |(at_lookup;refine kX rfl _ _ rfl H.out rfl (j,s.data.toList) HK.out LO.out i true qI.out sF.out ?_))
  go_ret
  exact⟨rfl,H.out,Turns.refl _ _ _,Below.refl _ _⟩
 |none=>
  have HS:Hid (Sx.step t j s.data.toList=(⟨t.es++ [(j,s.data.toList)],t.ends++ [Sx.no]⟩,t.ends.length)):=zA7 (by unfold Sx.step;rw[hf])
  have qI:=zA7 (show(Sx.find t.es (j,s.data.toList)).getD 0=0 by rw[hf];rfl)
  have sF:=zA7 (show(Sx.find t.es (j,s.data.toList)).isSome=false by rw[hf];rfl)
  have HM:=zA7 (fun w1 w3 v' o=>h.more (w1:=w1) (w3:=w3) (v':=v') (o:=o) hR hO hf hj HK.out.2 hl hn₀)
  rw[HS.out]
  obtain⟨i0,hi,hz0,hz1,hz2⟩:=info_parts qQ
  have hsz:=h.well.size
  obtain⟨ne,hne⟩: ∃ne,t.ends.length=ne:=⟨_,rfl⟩
  have hlv: ∃A c,v= .slice A ne c:=by
   rw[<-hne]
   rcases hO.2 with⟨rfl,h0⟩|⟨g,cap,cur,rfl,_⟩
   ·exact⟨none,0,by rw[h0]⟩
   ·exact⟨_,_,rfl⟩
  obtain⟨A,c,rfl⟩:=hlv
  have Z9:=zA7 (h.cI hO)
  have H:=zA7 h
  have HO:=zA7 hO
  have HRw:=zA7 hR
  have hnl:ne<=1048577:=by omega
  have HWF:=zA7 (show(Lit.int .i64 (ne:Int)).wf=true from WalkArith.wf_i64 (by omega))
  have nI:=zA7 (show t.es.length<maxLen by unfold maxLen;omega)
  have KC:=zA7 (show ne+1<=maxLen by unfold maxLen;omega)
  have iE:=zA7 (show(ne+1)*4<=140737488355328 by omega)
  have V7:=zA7 h.apart
  have mAQ:=zA7 h.low
  have D9:=zA7 hn₀
  rw[hne]at HM HS HO⊢
  have hBK:=bA2
  clear HS hf hR hO hj hl h hsz hn₀
  go_enter Tryz.func47,Tryz.ntmps47
  go_wp2_with (first
   |(refine jA 16 rfl ?_;refine YD rfl 165 0 1 _ _ rfl _ _ rfl rfl X HB.out ?_)
   |(refine jA 33 rfl ?_;refine YD rfl 165 0 1 _ _ rfl _ _ rfl rfl X HB.out ?_)
   |(at_lookup;refine kX rfl _ _ rfl H.out rfl (j,s.data.toList) HK.out LO.out 0 false qI.out sF.out ?_)
   |(at_mapUpdate;refine wpList_mapUpdate_own _ rfl _ _ _ 73 rfl 165 3 ZN Tryz.underlying73 _ mb t.es.length _ rfl H.out.map nI.out _ _ _ LO.out rfl (jL _ HK.out) _ [] (plainElem_int Tryz.underlying3 HWF.out) ?_;intro w1 hset hg1;have c2:=(hg1.cell (a:=⟨tb,1,none⟩) c1 (fun e=>V7.out (zB2 e).symm));have O1:=HO.out.kept hg1 Z9.out)
   |(refine jA 42 rfl ?_;refine wpList_append_own _ rfl _ _ 74 rfl n₀ 111 i0 (.agg (ID Sx.no)) 4 4 Tryz.underlying74 hi hz0 hz1 hz2 rfl (by decide) _ _ _ rfl (O1.alloc _) ⟨w1.heap.size,0,none⟩ 1 1 [.bool false,.bool false,.bool false,.bool false] rfl rfl (bAi _ _ _ _ _ _) ?c1a KC.out iE.out ?oK ?_))
  case c1a=>intro y hy;simp at hy;rcases hy with rfl|rfl|rfl|rfl<;>rfl
  case oK=>have h1:=hg1.size;have h2:=D9.out;simp;omega
  intro v' w3 hown hg3 _
  obtain⟨g',cap',rfl⟩:=ownsRow_succ hown
  obtain⟨r3,r4,r5,r6⟩:=HM.out w1 w3 _ _ hset hg1 hown hg3
  have c3:=r3.cell 1
  have f3:=r3.free 1
  go_wp2
  go_ret
  exact⟨rfl,r4,r5,r6⟩
end Go.Proofs.YtdaaoopkkhfbhaaGreatDoor
namespace Go.Proofs.YtdaaoopkkhfbhaaGreatDoor
open Go.RowKit Go.Shelf Go.Maps
attribute [local go_sem] Oper.semAt_some
structure LE(w W0:World)(n₀ tb mb h0 g B:Nat)(t:Sx.Tab)(r:Ru.Rule)(p:List (List UInt8))(W:World):Prop where
 tab:TabAt W n₀ tb mb (Sx.lay t p).1
 node:Boxed W (h0+2) 3 (.int .i64 ((Sx.lay t p).2:Int))
 self:Boxed W h0 24 (.pointer (some ⟨tb,0,none⟩))
 rule:Row W (h0+1) 78 (qA r)
 two:KB g B W0 W
 below:Below n₀ w W
 turns:Turns tb mb w W
 size:W0.heap.size<=W.heap.size
theorem LE.own {w W0:World}{n₀ tb mb h0 g B:Nat}{t:Sx.Tab}{r:Ru.Rule}{p:List (List UInt8)}{W W':World}{row:Option Nat}(h:LE w W0 n₀ tb mb h0 g B t r p W)(hg:W.grownBy W' row)(hr: ∀b,row=some b->W0.heap.size<=b/\ ∃o:Obj,W.heap[b]? =some o/\o.isCells=false)
  (hB:h0+2<W0.heap.size)(hg0:g<W0.heap.size)(hB0:B<W0.heap.size)(htb:tb<W0.heap.size)(hmb:mb<W0.heap.size)(hw:w.heap.size<=W0.heap.size)(hn₁:n₀<=w.heap.size):LE w W0 n₀ tb mb h0 g B t r p W':=by
 have hne: ∀b,b<W0.heap.size->some b≠row:=fun b hb e=>by have:=(hr b e.symm).1;omega
 have hc: ∀b,row=some b-> ∀cs cur,W.heap[b]? ≠some (.cells cs 111 cur):=fun b e cs cur he=>by
  obtain⟨_,o,ho,hc⟩:=hr b e
  rw[ho]at he
  cases he
  cases hc
 refine⟨h.tab.kept hg (fun b e=> .inr ⟨?_,?_,hc b e⟩),h.node.kept hg (hne _ hB),h.self.kept hg (hne _ (by omega)),(hg.block _ h.rule.lt (hne _ (by omega))).trans h.rule,fun b hb=>(hg.block b ?_ (hne b ?_)).trans (h.two b hb),h.below.grown hg (Nat.le_trans hn₁ h.below.size) (fun b e=>by have:=(hr b e).1;omega),?_,Nat.le_trans h.size hg.size⟩
 ·have:=(hr b e).1;omega
 ·have:=(hr b e).1;omega
 ·have:=h.size;rcases hb with rfl|rfl<;>omega
 ·rcases hb with rfl|rfl<;>omega
 ·refine⟨Nat.le_trans h.turns.size hg.size,fun b hb h1 h2 h3=>?_⟩
  have:=h.turns.size
  exact(hg.block b (by omega) (hne b (by omega))).trans (h.turns.same b hb h1 h2 h3)
theorem LE.more {w W0:World}{n₀ tb mb h0 g B:Nat}{t:Sx.Tab}{r:Ru.Rule}{p:List (List UInt8)}{W W':World}(h:LE w W0 n₀ tb mb h0 g B t r p W){l:List UInt8}{o:Sx.Tab×Nat}(ho:Sx.step (Sx.lay t p).1 (Sx.lay t p).2 l=o)
  (ht:TabAt W' n₀ tb mb o.1)(hT:Turns tb mb W W')(hb:Below n₀ W W')(hw0:w.heap.size=h0)(htb:tb<h0)(hmb:mb<h0)(hn₀:n₀<=w.heap.size)
  (hB:h0+2<W0.heap.size)(hg0:g<W0.heap.size)(hB0:B<W0.heap.size)(hgt: ∀cs cur,W0.heap[g]? ≠some (.cells cs 111 cur))(hBt: ∀cs cur,W0.heap[B]? ≠some (.cells cs 111 cur))(hg1:h0+2<g)(hB1:h0+2<B):
  Boxed W' (h0+2) 3 (.int .i64 ((Sx.lay t p).2:Int))/\LE w W0 n₀ tb mb h0 g B t r (p++ [l]) (W'.setCell ⟨h0+2,0,none⟩ (.int .i64 (o.2:Int)))/\KeepsFrom W0.heap.size W (W'.setCell ⟨h0+2,0,none⟩ (.int .i64 (o.2:Int)))/\KB g B W (W'.setCell ⟨h0+2,0,none⟩ (.int .i64 (o.2:Int))):=by
 have hsz:=h.size
 have keep: ∀b,b<W.heap.size->b≠tb->b≠mb->(∀cs cur,W.heap[b]? ≠some (.cells cs 111 cur))->W'.heap[b]? =W.heap[b]? :=hT.same
 have hN:Boxed W' (h0+2) 3 (.int .i64 ((Sx.lay t p).2:Int)):=(keep _ h.node.lt (by omega) (by omega) (fun cs cur e=>by have:=(show W.heap[h0+2]? =_ from h.node).symm.trans e;simp at this)).trans h.node
 have hS:Boxed W' h0 24 (.pointer (some ⟨tb,0,none⟩)):=(keep _ h.self.lt (by omega) (by omega) (fun cs cur e=>by have:=(show W.heap[h0]? =_ from h.self).symm.trans e;simp at this)).trans h.self
 have hR:Row W' (h0+1) 78 (qA r):=(keep _ h.rule.lt (by omega) (by omega) (fun cs cur e=>by have:=(show W.heap[h0+1]? =_ from h.rule).symm.trans e;simp at this)).trans h.rule
 have hK:KB g B W W':=fun b hb=>keep b (by rcases hb with rfl|rfl<;>omega) (by rcases hb with rfl|rfl<;>omega) (by rcases hb with rfl|rfl<;>omega) (fun cs cur e=>by
  rw[h.two b hb]at e
  rcases hb with rfl|rfl
  ·exact hgt cs cur e
  ·exact hBt cs cur e)
 have hgs:=QP W' (h0+2) 0 (.int .i64 (o.2:Int))
 have hK2:KB g B W' (W'.setCell ⟨h0+2,0,none⟩ (.int .i64 (o.2:Int))):=fun b hb=>heap_setCell_other W' _ b _ (by rcases hb with rfl|rfl<;>(intro e;have e:_=h0+2:=e;omega))
 have hnk: ∀cs cur,W'.heap[h0+2]? ≠some (.cells cs 111 cur):=fun cs cur e=>by have:=(show W'.heap[h0+2]? =_ from hN).symm.trans e;simp at this
 refine⟨hN,⟨?_,?_,hS.other (by omega) _,hR.other (by show h0+1≠h0+2;omega) _,h.two.trans (hK.trans hK2),(h.below.trans hb).setCell (p:=⟨h0+2,0,none⟩) (by show n₀<=h0+2;omega) _,?_,?_⟩,?_,hK.trans hK2⟩
 ·rw[Sx.xQ,ho]
  exact ht.kept hgs (fun b e=>by
   have e:=zB2 e
   subst e
   exact .inr ⟨by omega,by omega,hnk⟩)
 ·rw[Sx.xQ,ho]
  exact hN.set _
 ·refine⟨Nat.le_trans h.turns.size (Nat.le_trans hT.size hgs.size),fun b hb h1 h2 h3=>?_⟩
  have:=h.turns.size
  have:=hT.size
  have e1:=(h.turns.trans hT).same b hb h1 h2 h3
  exact(heap_setCell_other W' _ b _ (by show b≠h0+2;omega)).trans e1
 ·have:=hgs.size;have:=hT.size;omega
 ·refine⟨Nat.le_trans hT.size hgs.size,fun k x hk hx hno=>?_⟩
  have hkl:=(Array.getElem?_eq_some_iff.1 hx).1
  refine(heap_setCell_other W' _ k _ (by show k≠h0+2;omega)).trans ((keep k hkl (by omega) (by omega) (fun cs cur e=>?_)).trans hx)
  rw[hx]at e
  cases e
  cases hno
theorem TabAt.marked {W:World}{n₀ tb mb gv ne cap j:Nat}{t:Sx.Tab}{k:Int}(h:TabAt W n₀ tb mb t)(hR:Row W tb 76 #[.map (some mb),.slice (some ⟨gv,0,none⟩) ne cap])(hne:t.ends.length=ne)(hO:W.ownsRow n₀ 111 4 (.slice (some ⟨gv,0,none⟩) ne cap) ne (jC t.ends))
  (hk:k=1\/k=2\/k=3)(hj:j<ne):TabAt (W.setCell ⟨gv,j*4+k.toNat,none⟩ (.bool true)) n₀ tb mb (Sx.mark t j k):=by
 obtain⟨h1,h2⟩:=hO.stored (j*4+k.toNat) (.bool true)
 rw[WW t.ends j k hk (by omega)]at h1
 have hgt:gv≠tb:=by
  rintro rfl
  obtain⟨cs,cur,hb⟩:=YI hO gv rfl
  have:=hR.symm.trans hb
  simp at this
 have hgm:some mb≠some gv:=fun e=>by
  rcases h.cI hO with k|k
  ·cases k
  ·exact k e.symm
 refine⟨⟨h.well.tree,by show(t.ends.modify _ _).length=_;rw[List.length_modify];exact h.well.size⟩,h.okay,h.few,h.apart,h.low,h.map.kept h2 hgm,_,hR.other (Ne.symm hgt) _,?_⟩
 show World.ownsRow _ _ _ _ _ (t.ends.modify j fun K=>K.mark k).length _
 rw[List.length_modify,hne]
 exact h1
theorem TabAt.drew {W:World}{n₀ tb mb:Nat}{t:Sx.Tab}(h:TabAt W n₀ tb mb t):TabAt W.drew n₀ tb mb t:=by
 obtain⟨v,hR,hO⟩:=h.cells
 exact⟨h.well,h.okay,h.few,h.apart,h.low,h.map.drew,v,hR.drew,hO.drew⟩
def aAe(t:Sx.Tab)(n₀ tb mb:Nat)(w:World)(e:Ending)(w':World):Prop:=(∃v,e= .returned v)/\TabAt w' n₀ tb mb t/\Below n₀ w w'
theorem aAm(t:Sx.Tab)(r:Ru.Rule)(hr:Ru.Can r)(n₀ tb mb:Nat)(w:World)(hw:Std w)(h:TabAt w n₀ tb mb t)(hl:t.es.length+254<=1048576)(hn₀:n₀<=w.heap.size):
  Calls Tryz.prog 28 #[.pointer (some ⟨tb,0,none⟩),.agg (qA r)] w (aAe (Sx.add t r) n₀ tb mb w):=by
 refine(callsIn_wide (n:=3)).1 ?_
 have HC:=zA7 hr
 have hpf:=Sx.xY hr
 obtain⟨u,hu⟩: ∃u:ByteArray,u=⟨r.name.toArray⟩:=⟨_,rfl⟩
 have hc1:(qA r)[1]? =some (.string u):=by rw[hu];rfl
 have MV:cA ⟨1,r.name,bA.IA⟩= #[.int .i64 1,.string u,.int .u8 0,.int .u8 0,.int .u8 0,.int .u8 0,.int .u8 0,.int .u8 0,.int .u8 0,.int .u8 0,.int .u8 0,.int .u8 0,.int .u8 0,.int .u8 0,.int .u8 0,.int .u8 0,.int .u8 0,.int .u8 0]:=by rw[hu];rfl
 have TC:=fun W hW=>ZI ⟨1,r.name,bA.IA⟩ rfl (by have:=hr.good.few;show r.name.length<=_;omega) W hW
 rw[MV]at TC
 unfold OD at TC
 have hpa:Sx.path r=(bA.labels ⟨1,r.name,bA.IA⟩).reverse:=rfl
 have hlb: ∀p∈bA.labels ⟨1,r.name,bA.IA⟩,p.length<=63:=by
  intro p hp
  rw[bA.uM hr.good]at hp
  exact(bA.UM (List.all_eq_true.1 hr.good.all p hp)).2.1
 obtain⟨ls,hls⟩: ∃ls,bA.labels ⟨1,r.name,bA.IA⟩=ls:=⟨_,rfl⟩
 rw[hls]at TC hpa hlb
 have hlen:ls.length<=254:=by rw[hpa,List.length_reverse]at hpf;exact hpf
 have TC:=zA7 TC
 have hadd:Sx.add t r=Sx.mark (Sx.lay t ls.reverse).1 (Sx.lay t ls.reverse).2 r.kind:=by unfold Sx.add;rw[hpa]
 rw[hadd]
 have htb:tb<w.heap.size:=by obtain⟨v,hR,_⟩:=h.cells;exact hR.lt
 have hmb:=h.map.lt
 clear MV hls hpa hpf hadd hu
 refine callsIn_of_wp_marks Tryz.func28 rfl trivial ?_ rfl
 simp only[Tryz.ntmps28,List.size_toArray,zB5,List.length_nil,Nat.reduceAdd,Nat.reduceSub,Array.replicate_succ,Array.replicate_zero,List.push_toArray,List.append_toArray,List.nil_append,List.cons_append]
 have R0:=Boxed.new w 24 (.pointer (some ⟨tb,0,none⟩))
 have R1:=Row.new (w.alloc (.cells #[.pointer (some ⟨tb,0,none⟩)] 24)) 78 (qA r)
 have R2:=Boxed.new ((w.alloc (.cells #[.pointer (some ⟨tb,0,none⟩)] 24)).alloc (.cells (qA r) 78)) 3 (.int .i64 0)
 have B0:=(((Below.refl w.heap.size w).alloc (zB3 _) (.cells #[.pointer (some ⟨tb,0,none⟩)] 24)).alloc (by simp) (.cells (qA r) 78)).alloc (by simp;omega) (.cells #[.int .i64 0] 3)
 have R0:=(R0.alloc (.cells (qA r) 78)).alloc (.cells #[.int .i64 0] 3)
 have R1:=R1.alloc (.cells #[.int .i64 0] 3)
 have hsz:(((w.alloc (.cells #[.pointer (some ⟨tb,0,none⟩)] 24)).alloc (.cells (qA r) 78)).alloc (.cells #[.int .i64 0] 3)).heap.size=w.heap.size+3:=by simp
 simp only[World.size_alloc]at R1 R2
 have c1:=(R1.cell 1).trans hc1
 gi_wp2
 generalize((w.alloc (.cells #[.pointer (some ⟨tb,0,none⟩)] 24)).alloc (.cells (qA r) 78)).alloc (.cells #[.int .i64 0] 3)=wA at*
 refine⟨trivial,(callsIn_wide.2 (TC.out wA (hw.below B0))).mono ?_⟩
 rintro e w2 ⟨v,rfl,hown,d2⟩
 have RV:=h.stays (B0.trans (d2.mono B0.size))
 have Q0:=Boxed.kept (row:=none) R0 ⟨d2.os,d2.tape,d2.output,d2.size,fun i hi _=>d2.block i hi⟩ (by simp)
 have Q1:=R1.stays d2
 have Q2:=Boxed.kept (row:=none) R2 ⟨d2.os,d2.tape,d2.output,d2.size,fun i hi _=>d2.block i hi⟩ (by simp)
 have hBw:=B0.trans (d2.mono B0.size)
 have hs2:w.heap.size+3<=w2.heap.size:=by have:=d2.size;omega
 have hBL:w.heap.size+3=wA.heap.size:=hsz.symm
 obtain⟨A,c,hv⟩: ∃A c,v= .slice A ls.length c:=by
  rcases(ON hown).2 with⟨rfl,rfl⟩|⟨g,cap,rfl,_⟩
  ·exact⟨none,0,rfl⟩
  ·exact⟨_,_,rfl⟩
 subst hv
 gi_wp2
 refine⟨trivial,(JT Fence.wide _ trivial rfl A ls.length c w2).mono ?_⟩
 rintro e w3 ⟨rfl,rfl⟩
 clear TC d2 R0 R1 R2 c1 B0 hsz
 gi_wp2
 have bN:=Boxed.new w2 93 (.slice A ls.length c)
 have hB0:=(Below.refl w2.heap.size w2).alloc (zB3 _) (.cells #[.slice A ls.length c] 93)
 have SV:=RV.stays hB0
 have P0:=Q0.alloc (.cells #[.slice A ls.length c] 93)
 have P1:=Row.alloc Q1 (.cells #[.slice A ls.length c] 93)
 have P2:=Q2.alloc (.cells #[.slice A ls.length c] 93)
 have hown0:=hown.alloc (.cells #[.slice A ls.length c] 93)
 have xH:=hBw.trans (hB0.mono hBw.size)
 have hsz0:(w2.alloc (.cells #[.slice A ls.length c] 93)).heap.size=w2.heap.size+1:=by simp
 generalize w2.alloc (.cells #[.slice A ls.length c] 93)=W0 at*
 have hg:w.heap.size+2<(Value.slice A ls.length c).ownBlock.getD w2.heap.size/\(Value.slice A ls.length c).ownBlock.getD w2.heap.size<W0.heap.size/\ ∀cs cur,W0.heap[(Value.slice A ls.length c).ownBlock.getD w2.heap.size]? ≠some (.cells cs 111 cur):=by
  cases e:(Value.slice A ls.length c).ownBlock with
  |none=>exact⟨by show _<w2.heap.size;omega,by show w2.heap.size<_;omega,fun cs cur k=>by have:=(show W0.heap[w2.heap.size]? =_ from bN).symm.trans k;simp at this⟩
  |some b=>
   obtain⟨h1,h2⟩:=hown0.lt b e
   refine⟨by show _<b;omega,h2,fun cs cur k=>?_⟩
   rcases hown0.2 with⟨k0,_⟩|⟨g,cap,nA5,k0,_,hgb,_⟩
   ·rw[k0]at e;cases e
   ·rw[k0]at e
    have e:=zB2 e
    have e:g=b:=e
    subst e
    have:=hgb.symm.trans k
    simp at this
 generalize hgg:(Value.slice A ls.length c).ownBlock.getD w2.heap.size=g at*
 obtain⟨hg1,hg2,hg3⟩:=hg
 have hb3: ∀cs cur,W0.heap[w2.heap.size]? ≠some (.cells cs 111 cur):=fun cs cur k=>by have:=(show W0.heap[w2.heap.size]? =_ from bN).symm.trans k;simp at this
 have hseq:=IT Fence.wide (3-1) trivial rfl (by omega) w2.heap.size (.slice A ls.length c) ls (by omega) W0 bN.lt bN.cell _ hown0
 rw[hgg]at hseq
 have hI0:LE w W0 n₀ tb mb w.heap.size g w2.heap.size t r [] W0:=⟨SV,P2,P0,P1,KB.refl _ _ _,xH.mono hn₀,Turns.below xH (zB3 _),zB3 _⟩
 have wW:=zA7 h.well
 clear RV Q0 Q1 Q2 hBw SV P0 P1 P2 hown hown0 xH hB0 h hgg
 generalize w2.heap.size=B at*
 have hBl:=bN.lt
 clear bN
 refine wpIn_rangeFunc_ownG (F:=Fence.wide) (n:=3) rfl (by omega) (gf:=86) (lb:= #[.pointer (some ⟨B,0,none⟩)]) rfl trivial (enters_of Tryz.func86 (by kernel_rfl) rfl)
  hseq (fun h k=>h.trans k) (TW hg2 hBl) (Below.refl _ _) (fun _=>rfl)
  (fun pre W=>LE w W0 n₀ tb mb w.heap.size g B t r (pre.map (cB ls)) W)
  (fun _ _ _=>False)
  (fun s X Y row hs hgr hr=>hs.own hgr hr (by omega) hg2 hBl (by omega) (by omega) (by omega) hn₀)
  (fun _ _ _ _ _ hs _ _=>hs)
  hI0
  (fun x=> {tmps:= #[.pointer (some ⟨tb,0,none⟩),.agg (qA r),.pointer (some ⟨w.heap.size,0,none⟩),.pointer (some ⟨w.heap.size+1,0,none⟩),.pointer (some ⟨w.heap.size+1+1,0,none⟩),undef,gA (cB ls x),.pointer (some ⟨w.heap.size+1,1,none⟩),.string u,
   .agg #[.int .i64 1,.string u,.int .u8 0,.int .u8 0,.int .u8 0,.int .u8 0,.int .u8 0,.int .u8 0,.int .u8 0,.int .u8 0,.int .u8 0,.int .u8 0,.int .u8 0,.int .u8 0,.int .u8 0,.int .u8 0,.int .u8 0,.int .u8 0],
   .slice A ls.length c,.func (.func 86) #[] #[.pointer (some ⟨B,0,none⟩)],.int .i64 ((ls.length-1-x:Nat):Int),gA (cB ls x),undef,undef,undef,undef,undef,undef,undef,undef,undef,undef,undef,undef,undef],defers:= []}) ?assign ?body ?done ?stop
 case assign=>
  intro l x W K hK
  unfold tK
  gi_wp2
  exact hK
 case body=>
  rintro l pre x W hI hlen
  have hlf:=Sx.MK wW.out _ (pre.map (cB ls)) rfl
  have hlx:=YW hlb x
  generalize hp:pre.map (cB ls)=p at*
  have hpl:p.length<254:=by rw[<-hp,List.length_map];omega
  have c2:=hI.self.cell
  have c3:=hI.node.cell
  obtain⟨s,hs⟩: ∃s:ByteArray,s=⟨(cB ls x).toArray⟩:=⟨_,rfl⟩
  have hsv:gA (cB ls x)= .string s:=by rw[hs];rfl
  have hsd:s.data.toList=cB ls x:=by rw[hs]
  rw[hsv]
  have HST:=kAN (Sx.lay t p).1 (Sx.lay t p).2 s n₀ tb mb W hI.tab hlf.2.1 (by rw[<-Oct.oA,hsd];omega) (by have:=hlf.2.2.2.2.1;omega) (Nat.le_trans hn₀ hI.turns.size)
  rw[hsd]at HST
  clear hs hsv hsd
  gi_wp2
  refine⟨trivial,(CallsIn.inRound l (callsIn_wide.2 HST)).mono ?_⟩
  rintro e w' ⟨rfl,ht,hT,hb⟩
  obtain⟨m1,m2,m3,m4⟩:=hI.more rfl ht hT hb rfl htb hmb hn₀ (by omega) hg2 hBl hg3 hb3 hg1 (by omega)
  have c4:=m1.cell
  have f4:=m1.frozen
  gi_wp2
  refine⟨m3,m4,?_⟩
  show LE w W0 n₀ tb mb w.heap.size g B t r (List.map (cB ls) (pre++ [x])) _
  rw[List.map_append,hp]
  exact m2
 case done=>
  rintro D ys W hD rfl hI hK
  have hI:LE w W0 n₀ tb mb w.heap.size g B t r ((List.range ls.length).map (cB ls)) W:=hI
  rw[bX]at hI
  have hlf:=Sx.MK wW.out _ ls.reverse rfl
  have hwl:=hlf.1.size
  have hjl:=hlf.2.1
  clear hlf
  generalize hty:Sx.lay t ls.reverse=o at*
  obtain⟨t',j⟩:=o
  dsimp only at hwl hjl⊢
  have hI2:=hI.tab
  have c0:=hI.self.cell
  have c3:=hI.node.cell
  have c4:W.cell? ⟨w.heap.size+1,0,none⟩=some (.int .i64 r.kind):=(hI.rule.cell 0).trans rfl
  have hbe:=hI.below
  rw[hty]at hI2 c3
  dsimp only at hI2 c3
  clear hI
  obtain⟨v,hR,hO⟩:=hI2.cells
  obtain⟨ne,hne⟩: ∃ne,t'.ends.length=ne:=⟨_,rfl⟩
  rw[hne]at hO hwl
  obtain⟨gv,cap,rfl⟩: ∃gv cap,v= .slice (some ⟨gv,0,none⟩) ne cap:=by
   rcases hO.2 with⟨rfl,h0⟩|⟨gv,cap,cur,rfl,_⟩
   ·omega
   ·exact⟨gv,cap,rfl⟩
  have c5:=hR.cell 1
  have hjn:j<ne:=by omega
  have ME:=zA7 (fun i hi=>hO.cellAt i hi)
  have nO:=zA7 (fun i=>hO.frozenAt i)
  have hcell: ∀k:Nat,1<=k->k<=3-> ∃b,W.cell? ⟨gv,j*4+k,none⟩=some (.bool b):=by
   intro k h1 h3
   obtain⟨K,hK⟩: ∃K,t'.ends[j]? =some K:=⟨_,List.getElem?_eq_getElem (by rw[hne];exact hjn)⟩
   have e:=ME.out (j*4+k) (by omega)
   match k,h1,h3 with
   |1,_,_=>exact⟨_,e.trans (WI hK 1 (.bool K.name) rfl)⟩
   |2,_,_=>exact⟨_,e.trans (WI hK 2 (.bool K.dC) rfl)⟩
   |3,_,_=>exact⟨_,e.trans (WI hK 3 (.bool K.spare) rfl)⟩
  have tI:=zA7 (hI2.marked hR hne hO hr.kind hjn)
  have hgv:n₀<=gv:=(hO.lt gv rfl).1
  have htW:tb<W.heap.size:=hR.lt
  have hmW:=hI2.map.lt
  have wL:Hid (∀i:Nat,(W.setCell ⟨gv,i,none⟩ (.bool true)).drew.heap[D]? =some (.deferred (some []))):=zA7 (fun i=>(KeepsOthers.setCell W ⟨gv,i,none⟩ (.bool true)).same D _ hK rfl)
  have HDR:Hid (∀(i:Nat)(b:Nat),some D=some b->(W.setCell ⟨gv,i,none⟩ (.bool true)).drew.heap.size<=b\/(b≠tb/\b≠mb/\ ∀cs cur,(W.setCell ⟨gv,i,none⟩ (.bool true)).drew.heap[b]? ≠some (.cells cs 111 cur))):=zA7 (fun i b e=>by
   have e:=zB2 e
   subst e
   refine .inr ⟨by omega,by omega,fun cs cur k=>?_⟩
   rw[wL.out i]at k
   cases k)
  have kO:Hid (∀i:Nat,Below n₀ w ((W.setCell ⟨gv,i,none⟩ (.bool true)).drew.putObj D (.deferred none))):=zA7 (fun i=>by
   have h1:Below n₀ w (W.setCell ⟨gv,i,none⟩ (.bool true)).drew:=(hbe.setCell (p:=⟨gv,i,none⟩) hgv _).drew
   exact h1.grown (grownBy_putObj' _ D _) (Nat.le_trans hn₀ h1.size) (fun b e=>by have e:=zB2 e;omega))
  rcases hr.kind with hk|hk|hk
  ·rw[hk]at c4
   obtain⟨b,c6⟩:=hcell 1 (by omega) (by omega)
   have f6:=nO.out (j*4+1)
   have hM:=tI.out
   rw[hk]at hM
   clear hcell hO hR tI
   gi_wp2
   gi_region
   refine⟨by simp,.inl ⟨_,_,rfl,run_takeDeferred (wL.out _),?_⟩⟩
   exact⟨_,results_none rfl _ _ _,⟨_,rfl⟩,(hM.drew).kept (grownBy_putObj' _ D _) (HDR.out _),kO.out _⟩
  ·rw[hk]at c4
   obtain⟨b,c6⟩:=hcell 2 (by omega) (by omega)
   have f6:=nO.out (j*4+2)
   have hM:=tI.out
   rw[hk]at hM
   clear hcell hO hR tI
   gi_wp2
   gi_region
   refine⟨by simp,.inl ⟨_,_,rfl,run_takeDeferred (wL.out _),?_⟩⟩
   exact⟨_,results_none rfl _ _ _,⟨_,rfl⟩,(hM.drew).kept (grownBy_putObj' _ D _) (HDR.out _),kO.out _⟩
  ·rw[hk]at c4
   obtain⟨b,c6⟩:=hcell 3 (by omega) (by omega)
   have f6:=nO.out (j*4+3)
   have hM:=tI.out
   rw[hk]at hM
   clear hcell hO hR tI
   gi_wp2
   gi_region
   refine⟨by simp,.inl ⟨_,_,rfl,run_takeDeferred (wL.out _),?_⟩⟩
   exact⟨_,results_none rfl _ _ _,⟨_,rfl⟩,(hM.drew).kept (grownBy_putObj' _ D _) (HDR.out _),kO.out _⟩
 case stop=>
  rintro D c pre W _ _ h _
  exact h.elim
end Go.Proofs.YtdaaoopkkhfbhaaGreatDoor
namespace Go.Proofs.YtdaaoopkkhfbhaaGreatDoor
open Go.RowKit Go.Maps
def XJ(w:World)(v:Value)(rs:List Ru.Rule):Prop:=
 ∃A c,v= .slice A rs.length c/\(0<rs.length-> ∃g off,A=some ⟨g,off,none⟩/\g<w.heap.size/\rs.length<=c/\ ∀k r,rs[k]? =some r->w.cell? ⟨g,off+k*2,none⟩=some (.int .i64 r.kind)/\w.cell? ⟨g,off+k*2+1,none⟩=some (gA r.name))
theorem XJ.stays {w w':World}{v:Value}{rs:List Ru.Rule}(h:XJ w v rs)(hb:Below w.heap.size w w'):XJ w' v rs:=by
 obtain⟨A,c,hv,hh⟩:=h
 refine⟨A,c,hv,fun h0=>?_⟩
 obtain⟨g,off,hA,hg,hc,hcell⟩:=hh h0
 refine⟨g,off,hA,Nat.lt_of_lt_of_le hg hb.size,hc,fun k r hk=>?_⟩
 obtain⟨h1,h2⟩:=hcell k r hk
 exact⟨(hb.cell (p:=⟨g,off+k*2,none⟩) hg).trans h1,(hb.cell (p:=⟨g,off+k*2+1,none⟩) hg).trans h2⟩
theorem fAP:(madeCells (.agg (ID Sx.no):Value).cells (1*4)).toList=jC [Sx.no]:=by kernel_rfl
def aK(rs:List Ru.Rule)(w:World)(e:Ending)(w':World):Prop:=
 ∃tb mb,e= .returned (.pointer (some ⟨tb,0,none⟩))/\TabAt w' w.heap.size tb mb (Sx.new rs)/\Below w.heap.size w w'
theorem TX(rs:List Ru.Rule)(v:Value)(w:World)(hw:Std w)(hv:XJ w v rs)(hn:rs.length<=1000)(hs: ∀r∈rs,r.name.length<=1000):
  Calls Tryz.prog 10 #[v] w (aK rs w):=by
 have hmm:= @run_makeMap Tryz.prog
 have z0:=jS
 obtain⟨i0,hi,hz0,hz1,hz2⟩:=info_parts qQ
 have AO:Hid (∀tb mb w',TabAt w' w.heap.size tb mb (Sx.new rs)->Below w.heap.size w w'->aK rs w (.returned (.pointer (some ⟨tb,0,none⟩))) w'):=zA7 (fun tb mb w' h1 h2=>⟨tb,mb,rfl,h1,h2⟩)
 generalize aK rs w=post at*
 have HV:=zA7 hv
 obtain⟨A,c,rfl,hcells⟩:=hv
 have M0:=World.ownsMap_made w Tryz.prog 165 (plainElem (H:=Unit) Tryz.prog 3)
 have C0:=(Below.refl w.heap.size w).alloc (zB3 _) (.map #[] 0)
 have hs0:(w.alloc (.map #[] 0)).heap.size=w.heap.size+1:=by simp
 go_enter Tryz.func10,Tryz.ntmps10
 go_wp2_with (refine jA 7 rfl ?_;refine wpList_make_full _ rfl _ _ 74 rfl w.heap.size 111 i0 (.agg (ID Sx.no)) 4 Tryz.underlying74 hi hz0 hz1 .i64 .i64 1 1 1 rfl rfl rfl rfl (by rw[hz2];decide) (by decide) (by simp) ?_;intro w1 hown hgr;obtain⟨hgs,eAM⟩: ∃gs,gs=w1.heap.size:=⟨_,rfl⟩)
 rw[fAP]at hown
 have hs1:=hgr.size
 have M1:=(M0.kept hgr (by simp)).alloc (.cells #[.map (some w.heap.size),.slice (some ⟨w.heap.size+1,0,none⟩) 1 1] 76)
 have O1:(w1.alloc (.cells #[.map (some w.heap.size),.slice (some ⟨w.heap.size+1,0,none⟩) 1 1] 76)).ownsRow w.heap.size 111 4 (.slice (some ⟨w.heap.size+1,0,none⟩) 1 1) 1 (jC [Sx.no]):=by
  rw[hs0]at hown
  exact hown.alloc _
 have R1:=Row.new w1 76 #[.map (some w.heap.size),.slice (some ⟨w.heap.size+1,0,none⟩) 1 1]
 have C1:=(C0.grown hgr (by omega) (fun _ e=>by cases e)).alloc (by omega) (.cells #[.map (some w.heap.size),.slice (some ⟨w.heap.size+1,0,none⟩) 1 1] 76)
 have HT0:Hid (TabAt (w1.alloc (.cells #[.map (some w.heap.size),.slice (some ⟨w.heap.size+1,0,none⟩) 1 1] 76)) w.heap.size w1.heap.size w.heap.size (Sx.new (rs.take 0))):=
  zA7 ⟨Sx.KT,(by intro k hk;cases hk),Nat.zero_le _,by omega,⟨by omega,zB3 _⟩,M1,_,R1,O1⟩
 have HN:Hid (∀k r,rs[k]? =some r->Sx.new (rs.take (k+1))=Sx.put (Sx.new (rs.take k)) r):=zA7 (fun k r hk=>by rw[List.take_add_one,hk];exact Sx.LQ _ r)
 have HA:Hid (Sx.new (rs.take rs.length)=Sx.new rs):=zA7 (by rw[List.take_length])
 have HW:Hid (∀k,k<=rs.length->Sx.Well (Sx.new (rs.take k))/\(Sx.new (rs.take k)).es.length+254<=1048576):=zA7 (fun k hk=>by
  have h1:=Sx.NR _ (rs.take k) rfl
  have h2:=Sx.UX _ (rs.take k) rfl
  rw[List.length_take]at h2
  exact⟨h1.well,by omega⟩)
 have UC:=zA7 hs
 generalize w1.heap.size=tb at*
 generalize w1.alloc (.cells #[.map (some w.heap.size),.slice (some ⟨w.heap.size+1,0,none⟩) 1 1] 76)=w2 at*
 clear M0 C0 hs0 hown hgr eAM hs1 M1 O1 R1 hs hcells hgs
 obtain⟨n,hnn⟩: ∃n,rs.length=n:=⟨_,rfl⟩
 rw[hnn]at HW hn HA
 have IB:=zA7 hnn
 rw[hnn]
 clear hnn
 go_wp2_with fail
 go_loopw [12] (fun i wr=> ∃k:Nat,k<=n/\i= .int .i64 k/\TabAt wr w.heap.size tb w.heap.size (Sx.new (rs.take k))/\Below w.heap.size w wr) (fun i _=>n- (intOf i).toNat)
 case atStart=>exact⟨0,Nat.zero_le _,rfl,HT0.out,C1⟩
 case round=>
  obtain⟨k,hk,rfl,hat,hbe⟩:=hrel
  by_cases hlt:k<n
  ·obtain⟨r,hr⟩: ∃r,rs[k]? =some r:=⟨_,List.getElem?_eq_getElem (by rw[IB.out];exact hlt)⟩
   obtain⟨A',c',he,hc'⟩:=HV.out.stays hbe
   have he:=Value.slice.inj he
   obtain⟨rfl,_,rfl⟩:=he
   obtain⟨g,off,rfl,hgl,hcc,hcell⟩:=hc' (by rw[IB.out];omega)
   obtain⟨h0,h1⟩:=hcell k r hr
   rw[IB.out]at hcc
   have HR:=zA7 (HN.out k r hr)
   have vF:=zA7 (fun W hW=>jAO r (by have:=UC.out r (List.mem_of_getElem? hr);omega) W hW)
   have hwr:=hw.below hbe
   clear hc' hcell
   have HX:=zA7 (show(Tryz.prog.info? 78).map (·.size)=some (qA r).size from oC)
   have lH:=zA7 (show(qA Ru.zero).size=(qA r).size from rfl)
   have OE:=zA7 (GE r)
   obtain⟨T,U,C,_⟩:=PA 78 (qA Ru.zero) (qA r) (Below.refl wr.heap.size wr) (zB3 _)
   have yM:=hat.stays C
   have FG:=hbe.trans (C.mono hbe.size)
   have HWK:=zA7 (HW.out k (by omega))
   by_cases hb:Sx.right r=true
   ·have CO:Hid (Sx.new (rs.take (k+1))=Sx.add (Sx.new (rs.take k)) r):=zA7 (by rw[HR.out];unfold Sx.put;rw[if_pos hb])
    have HAD:=zA7 (fun W hW h hn=>aAm (Sx.new (rs.take k)) r (Sx.zN.1 hb) w.heap.size tb w.heap.size W hW h HWK.out.2 hn)
    rw[hb]at vF
    clear hat hbe hb
    go_wp2_with (first
     |(refine jA 15 rfl ?_;refine jX rfl _ rfl g (off+k*2) rfl r h0 h1 ?_)
     |(refine wpList_store_row rfl 78 _ _ rfl wr.heap.size (qA r) rfl rfl 78 _ T HX.out lH.out OE.out ?_)
     |(refine jA 16 rfl ?_;refine pA rfl 78 _ rfl wr.heap.size rfl U Tryz.underlying78 rfl HX.out ?_))
    have hs3:wr.heap.size<((wr.alloc (.cells (qA Ru.zero) 78)).setRow wr.heap.size (qA r)).heap.size:=U.lt
    generalize(wr.alloc (.cells (qA Ru.zero) 78)).setRow wr.heap.size (qA r)=w3 at*
    refine(vF.out _ (hw.below FG)).mono ?_
    rintro e w4 ⟨rfl,d4⟩
    have U4:=U.stays d4
    have VP:=yM.stays d4
    have zK:=FG.trans (d4.mono FG.size)
    clear T U C yM FG d4 hwr
    go_wp2_with (refine jA 19 rfl ?_;refine pA rfl 78 _ rfl wr.heap.size rfl U4 Tryz.underlying78 rfl HX.out ?_)
    refine(HAD.out _ (hw.below zK) VP zK.size).mono ?_
    rintro e w5 ⟨⟨v5,rfl⟩,h5,b5⟩
    have eAn:=zK.trans b5
    go_wp2
    go_roundw
    case rel=>exact⟨k+1,by omega,by go_num,by rw[CO.out];exact h5,eAn⟩
    case measure=>simp[intOf];omega
   ·have CO:Hid (Sx.new (rs.take (k+1))=Sx.new (rs.take k)):=zA7 (by rw[HR.out];unfold Sx.put;rw[if_neg hb])
    rw[show Sx.right r=false by simpa using hb]at vF
    clear hat hbe hb
    go_wp2_with (first
     |(refine jA 15 rfl ?_;refine jX rfl _ rfl g (off+k*2) rfl r h0 h1 ?_)
     |(refine wpList_store_row rfl 78 _ _ rfl wr.heap.size (qA r) rfl rfl 78 _ T HX.out lH.out OE.out ?_)
     |(refine jA 16 rfl ?_;refine pA rfl 78 _ rfl wr.heap.size rfl U Tryz.underlying78 rfl HX.out ?_))
    generalize(wr.alloc (.cells (qA Ru.zero) 78)).setRow wr.heap.size (qA r)=w3 at*
    refine(vF.out _ (hw.below FG)).mono ?_
    rintro e w4 ⟨rfl,d4⟩
    have VP:=yM.stays d4
    have zK:=FG.trans (d4.mono FG.size)
    clear T U C yM FG d4 hwr
    go_wp2
    go_roundw
    case rel=>exact⟨k+1,by omega,by go_num,by rw[CO.out];exact VP,zK⟩
    case measure=>simp[intOf];omega
  ·obtain rfl:k=n:=by omega
   have HF:=zA7 (AO.out tb w.heap.size wr (by rw[<-HA.out];exact hat) hbe)
   clear hat
   go_wp2
   exact HF.out
end Go.Proofs.YtdaaoopkkhfbhaaGreatDoor
namespace Go.Proofs.YtdaaoopkkhfbhaaGreatDoor
open Go.RowKit
section
variable {P:Program} {ops:Array Oper} {Q:Exit->Act->World->Prop} {md:Region.Mode} {l n:Nat}
theorem jAL {row:String}{args:Array Value}{w:World}{R:Value->World->Prop}(h:Rows P row args w R):RowsIn (Fence.wide.inRound l) n P row args w R:=
 fun c cs _=>let ⟨v,w',r,s⟩:=h c cs; ⟨v,w',r,stepsIn_wide.2 s⟩
theorem hAW {o:Oper}{a:Act}{w:World}{K:Act->World->Prop}(hno: ∀c,o.op≠ .defer c)(h:o.wp P a w K Q):o.wpIn (Fence.wide.inRound l) n P a w K Q:=by
 unfold Oper.wp at h
 unfold Oper.wpIn
 refine⟨fun _ _=>trivial,?_⟩
 rw[Oper.semAt_plain _ _ _ hno]
 generalize(execOp a.eval o).run P w=r at*
 cases r with
 |ok x w'=>
  cases x<;>simp only[Oper.upon,Oper.uponIn]at h⊢
  case value=>exact h
  case skip=>exact h
  case defer=>exact h
  case enter=>exact⟨fun k=>by simp[Fence.wide]at k,CallsIn.inRound l (callsIn_wide.2 h)⟩
  case row=>exact⟨fun k=>by simp[Fence.wide]at k,jAL h⟩
 |halt x w'=>cases x<;>simp only[Oper.upon,Oper.uponIn]at h⊢ <;>exact h
theorem hAV(hL: ¬LetsOut Q)(hno: ∀(j:Nat)(o:Oper),ops[j]? =some o-> ∀c,o.op≠ .defer c){i:Nat}{K:Act->World->Prop}{a:Act}{w:World}(h:wpOp P ops Q i K a w):wpOpIn (Fence.wide.inRound l) n P ops Q i K a w:=by
 unfold wpOp at h
 unfold wpOpIn
 cases e:ops[i]? with
 |none=>rw[e]at h;exact h
 |some o=>
  rw[e]at h
  dsimp only at h⊢
  split
  ·rename_i hw
   rw[if_pos hw]at h
   rcases h with h|h
   ·exact hAW (hno i o e) h
   ·exact absurd h.2 hL
  ·rename_i hw
   rw[if_neg hw]at h
   exact⟨fun _ _=>trivial,h⟩
theorem ET(hL: ¬LetsOut Q)(hno: ∀(j:Nat)(o:Oper),ops[j]? =some o-> ∀c,o.op≠ .defer c): ∀(fuel:Nat)(listed:Array Bool)(a:Act)(w:World),wpAny P md ops Q fuel listed a w->wpAnyIn (Fence.wide.inRound l) n P md ops Q fuel listed a w
 |0,_,_,_,h=>h
 |fuel+1,_,_,_,h=>⟨h.1,fun i hi=>wpOpIn_mono (fun a' w' h'=>ET hL hno fuel _ a' w' h') (hAV hL hno (h.2 i hi))⟩
theorem fR {id:Nat}{a:Act}{w:World}{S:World->Prop}(hm:P.follows .mixedOrders=true)(hL: ¬LetsOut Q)(hno: ∀(j:Nat)(o:Oper),ops[j]? =some o-> ∀c,o.op≠ .defer c)(hS:S w.drew)
  (h:S w.drew->wpAnyH P .any ops Q S ops.size (Array.replicate ops.size false) a w.drew):(Code.region id ops true).wpIn (Fence.wide.inRound l) n P Q a w:=
 wpIn_region_any hm (ET hL hno _ _ _ _ (wpAny_of_held _ _ _ _ (h hS)))
theorem Y6 {S:World->Prop}{o:Oper}{a:Act}(hw:Region.wanted o (yielded ops a.tmps)=true)(ty:TypeId)(m x:Operand)(ho:o.op= .lookup ty m x true)(M X V:Value)(hm:a.eval m=M)(hx:a.eval x=X)
  (hrun: ∀w,S w->(Instr.lookup ty M X true).run P w= .ok V w):YieldsIf P ops S o V a:=
 .inl ⟨hw,fun w hs=>by
  unfold execOp
  simp only[ho,hm,hx,Sem.run_bind,hrun w hs,Result.andThen_ok,Sem.run_pure]⟩
def XX(ops:Array Oper):Bool:=ops.all fun o=>match o.op with| .defer _=>false|_=>true
theorem MQ(h:XX ops=true): ∀(j:Nat)(o:Oper),ops[j]? =some o-> ∀c,o.op≠ .defer c:=by
 intro j o ho c e
 unfold XX at h
 obtain⟨hj,he⟩:=Array.getElem?_eq_some_iff.1 ho
 have:=Array.all_eq_true.1 h j hj
 rw[he,e]at this
 cases this
end
end Go.Proofs.YtdaaoopkkhfbhaaGreatDoor
namespace Go.Proofs.YtdaaoopkkhfbhaaGreatDoor
open Go.RowKit Go.Shelf Go.Maps
attribute [local go_sem] Oper.semAt_some
namespace Sx
theorem aP {t:Tab} : ∀ {p:List (List UInt8)}{j i:Nat},walk t.es j p=some i-> ∀q,along t j (p++q)=along t j p++along t i q
 | [],j,i,h,q=>by
  have e:j=i:=zB2 h
  subst e
  rfl
 |l::r,j,i,h,q=>by
  rw[walk]at h
  rw[List.cons_append,along,along]
  cases e:find t.es (j,l)with
  |none=>rw[e]at h;cases h
  |some x=>
   rw[e]at h
   dsimp only
   rw[aP (p:=r) h q];rfl
theorem aAF {t:Tab}{p:List (List UInt8)}{j i:Nat}{l:List UInt8}(hp:walk t.es 0 p=some j)(hf:find t.es (j,l)=some i){K:Kinds}(hK:t.ends[i]? =some K):along t 0 (p++ [l])=along t 0 p++ [K]/\walk t.es 0 (p++ [l])=some i:=by
 refine⟨?_,?_⟩
 ·rw[aP hp,along,hf]
  dsimp only
  rw[hK];rfl
 ·rw[YN,hp];exact hf
theorem aAE {t:Tab}{p:List (List UInt8)}{j:Nat}{l:List UInt8}(hp:walk t.es 0 p=some j)(hf:find t.es (j,l)=none)(q:List (List UInt8)):along t 0 ((p++ [l])++q)=along t 0 p:=by
 rw[List.append_assoc,aP hp,List.singleton_append,along,hf]
 simp
theorem WL(t:Tab): ∀(j:Nat)(p:List (List UInt8)),(along t j p).length<=p.length
 |_,[]=>zB3 _
 |j,l::r=>by
  rw[along]
  cases find t.es (j,l)with
  |none=>exact Nat.zero_le _
  |some i=>have:=WL t i r;simp;omega
end Sx
structure SC(w W0:World)(h0 tb g B:Nat)(t:Sx.Tab)(p:List (List UInt8))(W:World):Prop where
 below:Below w.heap.size w W
 self:Boxed W h0 24 (.pointer (some ⟨tb,0,none⟩))
 node: ∃j,Sx.walk t.es 0 p=some j/\Boxed W (h0+2) 3 (.int .i64 (j:Int))
 met: ∃u,Boxed W (h0+1) 74 u/\W.ownsRow w.heap.size 111 4 u (Sx.along t 0 p).length (jC (Sx.along t 0 p))
 two:KB g B W0 W
 size:W0.heap.size<=W.heap.size
structure BJ(w W0:World)(h0:Nat)(t:Sx.Tab)(p:List (List UInt8))(W:World):Prop where
 below:Below w.heap.size w W
 met: ∃u,Boxed W (h0+1) 74 u/\ ∀q,W.ownsRow w.heap.size 111 4 u (Sx.along t 0 (p++q)).length (jC (Sx.along t 0 (p++q)))
 size:W0.heap.size<=W.heap.size
theorem iZ {w W W':World}{n:Nat}{u:Value}{xs:List Value}{row:Option Nat}(h:W.ownsRow w.heap.size 111 4 u n xs)(hg:W.grownBy W' row)(hr: ∀b,row=some b-> ∃o:Obj,W.heap[b]? =some o/\o.isCells=false):W'.ownsRow w.heap.size 111 4 u n xs:=by
 refine h.kept hg ?_
 cases e:u.ownBlock with
 |none=>exact .inl rfl
 |some b=>
  refine .inr fun k=>?_
  obtain⟨cs,cur,hb⟩:=YI h b e
  obtain⟨o,ho,hc⟩:=hr b k.symm
  rw[hb]at ho
  cases ho
  cases hc
theorem SC.own {w W0:World}{h0 tb g B:Nat}{t:Sx.Tab}{p:List (List UInt8)}{W W':World}{row:Option Nat}(h:SC w W0 h0 tb g B t p W)(hg:W.grownBy W' row)(hr: ∀b,row=some b->W0.heap.size<=b/\ ∃o:Obj,W.heap[b]? =some o/\o.isCells=false)
  (hB:h0+2<W0.heap.size)(hg0:g<W0.heap.size)(hB0:B<W0.heap.size)(hw:w.heap.size<=W0.heap.size):SC w W0 h0 tb g B t p W':=by
 have hne: ∀b,b<W0.heap.size->some b≠row:=fun b hb e=>by have:=(hr b e.symm).1;omega
 obtain⟨j,hj,hJ⟩:=h.node
 obtain⟨u,hu,hU⟩:=h.met
 refine⟨h.below.grown hg h.below.size (fun b e=>by have:=(hr b e).1;omega),h.self.kept hg (hne _ (by omega)),⟨j,hj,hJ.kept hg (hne _ hB)⟩,⟨u,hu.kept hg (hne _ (by omega)),iZ hU hg (fun b e=>(hr b e).2)⟩,fun b hb=>(hg.block b ?_ (hne b ?_)).trans (h.two b hb),Nat.le_trans h.size hg.size⟩
 ·have:=h.size;rcases hb with rfl|rfl<;>omega
 ·rcases hb with rfl|rfl<;>omega
theorem BJ.own {w W0:World}{h0:Nat}{t:Sx.Tab}{p:List (List UInt8)}{W W':World}{row:Option Nat}(h:BJ w W0 h0 t p W)(hg:W.grownBy W' row)(hr: ∀b,row=some b->W0.heap.size<=b/\ ∃o:Obj,W.heap[b]? =some o/\o.isCells=false)
  (hB:h0+2<W0.heap.size)(hw:w.heap.size<=W0.heap.size):BJ w W0 h0 t p W':=by
 have hne: ∀b,b<W0.heap.size->some b≠row:=fun b hb e=>by have:=(hr b e.symm).1;omega
 obtain⟨u,hu,hU⟩:=h.met
 exact⟨h.below.grown hg h.below.size (fun b e=>by have:=(hr b e).1;omega),⟨u,hu.kept hg (hne _ (by omega)),fun q=>iZ (hU q) hg (fun b e=>(hr b e).2)⟩,Nat.le_trans h.size hg.size⟩
theorem SC.drew {w W0:World}{h0 tb g B:Nat}{t:Sx.Tab}{p:List (List UInt8)}{W:World}(h:SC w W0 h0 tb g B t p W):SC w W0 h0 tb g B t p W.drew:=by
 obtain⟨u,hu,hU⟩:=h.met
 exact⟨h.below.drew,h.self,h.node,⟨u,hu,hU.drew⟩,h.two,h.size⟩
structure mH(w:World)(tb:Nat)(W:World):Prop where
 below:Below w.heap.size w W
 self:Boxed W w.heap.size 24 (.pointer (some ⟨tb,0,none⟩))
theorem SC.keep {w W0:World}{tb g B:Nat}{t:Sx.Tab}{p:List (List UInt8)}{W:World}(h:SC w W0 w.heap.size tb g B t p W):mH w tb W:=⟨h.below,h.self⟩
theorem mH.alloc {w:World}{tb:Nat}{W:World}(h:mH w tb W)(o:Obj):mH w tb (W.alloc o):=⟨h.below.alloc h.below.size o,h.self.alloc o⟩
theorem SC.more {w W0:World}{tb g i:Nat}{t:Sx.Tab}{p:List (List UInt8)}{W:World}{l:List UInt8}{A:Option Addr}{ln c:Nat}(h:SC w W0 w.heap.size tb g (w.heap.size+3) t p W)(hbN:Boxed W0 (w.heap.size+3) 93 (.slice A ln c))(hgb:g<w.heap.size\/g=w.heap.size+3)
  (hg2:g<W0.heap.size){u:Value}(hu:Boxed W (w.heap.size+1) 74 u)(hU:W.ownsRow w.heap.size 111 4 u (Sx.along t 0 p).length (jC (Sx.along t 0 p))){K:Sx.Kinds}(ha:Sx.along t 0 (p++ [l])=Sx.along t 0 p++ [K])(hw:Sx.walk t.es 0 (p++ [l])=some i)
  {w1:World}{o:Obj}{v':Value}(hown:w1.ownsRow w.heap.size 111 4 v' ((Sx.along t 0 p).length+1) (jC (Sx.along t 0 p)++ [.bool false,.bool K.name,.bool K.dC,.bool K.spare]))(hgr:(W.alloc o).grownBy w1 u.ownBlock):
  Boxed w1 (w.heap.size+1) 74 u/\mH w tb w1/\mH w tb (w1.setCell ⟨w.heap.size+1,0,none⟩ v')/\(∃j:Nat,Boxed (w1.setCell ⟨w.heap.size+1,0,none⟩ v') (w.heap.size+2) 3 (.int .i64 (j:Int)))/\
  SC w W0 w.heap.size tb g (w.heap.size+3) t (p++ [l]) ((w1.setCell ⟨w.heap.size+1,0,none⟩ v').setCell ⟨w.heap.size+2,0,none⟩ (.int .i64 (i:Int)))/\KeepsFrom W0.heap.size W ((w1.setCell ⟨w.heap.size+1,0,none⟩ v').setCell ⟨w.heap.size+2,0,none⟩ (.int .i64 (i:Int)))/\
  KB g (w.heap.size+3) W ((w1.setCell ⟨w.heap.size+1,0,none⟩ v').setCell ⟨w.heap.size+2,0,none⟩ (.int .i64 (i:Int))):=by
 have hbW:Boxed W (w.heap.size+3) 93 (.slice A ln c):=(h.two _ (.inr rfl)).trans hbN
 obtain⟨j,hj,hJ⟩:=h.node
 obtain⟨r1,r2,r3,r4,r5⟩:=hu.appended (by decide) hU h.below.size (Nat.le_succ _) hown hgr
 have s1:Boxed w1 w.heap.size 24 (.pointer (some ⟨tb,0,none⟩)):=(h.self.alloc o).kept hgr (h.self.not_row (by decide) hU)
 have n1:Boxed w1 (w.heap.size+2) 3 (.int .i64 (j:Int)):=(hJ.alloc o).kept hgr (hJ.not_row (by decide) hU)
 have b1:Boxed w1 (w.heap.size+3) 93 (.slice A ln c):=(hbW.alloc o).kept hgr (hbW.not_row (by decide) hU)
 have B1:Below w.heap.size w w1:=(h.below.alloc h.below.size o).grown hgr (by have:=h.below.size;simp;omega) (fun k e=>(hU.lt k e).1)
 have s2:=s1.other (B':=w.heap.size+1) (by omega) v'
 have n2:=n1.other (B':=w.heap.size+1) (by omega) v'
 have b2:=b1.other (B':=w.heap.size+1) (by omega) v'
 have B2:Below w.heap.size w (w1.setCell ⟨w.heap.size+1,0,none⟩ v'):=B1.setCell (p:=⟨w.heap.size+1,0,none⟩) (Nat.le_succ _) v'
 generalize w1.setCell ⟨w.heap.size+1,0,none⟩ v'=w2 at*
 have s3:=s2.other (B':=w.heap.size+2) (by omega) (.int .i64 (i:Int))
 have m3:=r2.other (B':=w.heap.size+2) (by omega) (.int .i64 (i:Int))
 have b3:=b2.other (B':=w.heap.size+2) (by omega) (.int .i64 (i:Int))
 have o3:=r3.kept (grownBy_setCell' w2 (w.heap.size+2) (.int .i64 (i:Int))) (.inr (n2.not_row (by decide) r3).symm)
 have B3:Below w.heap.size w (w2.setCell ⟨w.heap.size+2,0,none⟩ (.int .i64 (i:Int))):=B2.setCell (p:=⟨w.heap.size+2,0,none⟩) (by show w.heap.size<=w.heap.size+2;omega) _
 have k3:=r4.trans (KeepsOthers.setCell w2 ⟨w.heap.size+2,0,none⟩ (.int .i64 (i:Int)))
 have n3:=n2.set (.int .i64 (i:Int))
 have hsz:=k3.size
 have K3:KB g (w.heap.size+3) W (w2.setCell ⟨w.heap.size+2,0,none⟩ (.int .i64 (i:Int))):=fun b hb=>by
  have key: ∀b,b<w.heap.size\/b=w.heap.size+3->(w2.setCell ⟨w.heap.size+2,0,none⟩ (.int .i64 (i:Int))).heap[b]? =W.heap[b]? :=by
   rintro b (hb|rfl)
   ·exact(B3.block b hb).trans (h.below.block b hb).symm
   ·exact(show _=_ from b3).trans (show W.heap[w.heap.size+3]? =_ from hbW).symm
  rcases hb with rfl|rfl
  ·exact key _ hgb
  ·exact key _ (.inr rfl)
 refine⟨r1,⟨B1,s1⟩,⟨B2,s2⟩,⟨j,n2⟩,⟨B3,s3,⟨i,hw,n3⟩,⟨v',m3,?_⟩,h.two.trans K3,Nat.le_trans h.size hsz⟩,k3.from _,K3⟩
 rw[ha,zB4,XW]
 exact o3
theorem X6 {ops:Array Oper}{S:World->Prop}{o:Oper}{a:Act}(hw:Region.wanted o (yielded ops a.tmps)=true)(x:Operand)(ho:o.op= .load 111 x)(g off:Nat)(hx:a.eval x= .pointer (some ⟨g,off,none⟩))(K:Sx.Kinds)
  (hS: ∀w,S w-> ∀i v,(ID K)[i]? =some v->w.cell? ⟨g,off+i,none⟩=some v):YieldsIf Tryz.prog ops S o (.agg #[.bool false,.bool K.name,.bool K.dC,.bool K.spare]) a:=
 .inl ⟨hw,fun w hs=>by
  have hl:(loadCells ⟨g,off,none⟩ [Value.bool false,.bool K.name,.bool K.dC,.bool K.spare].length).run Tryz.prog w= .ok [Value.bool false,.bool K.name,.bool K.dC,.bool K.spare].toArray w:=
   run_loadCells_list (P:=Tryz.prog) w ⟨g,off,none⟩ [Value.bool false,.bool K.name,.bool K.dC,.bool K.spare] (fun j v hv=>by
    have hadd:(⟨g,off,none⟩:Addr).add j=⟨g,off+j,none⟩:=by unfold Addr.add;split<;>simp_all
    rw[hadd]
    exact hS w hs j v (by rw[<-hv];simp[ID]))
  have hagg:(isAgg 111).run Tryz.prog w= .ok true w:=by kernel_rfl
  obtain⟨i,hq,hsz⟩: ∃i,Tryz.prog.info? 111=some i/\i.size=4:=by
   cases hq:Tryz.prog.info? 111 with
   |none=>have:=BW;rw[hq]at this;cases this
   |some i=>have:=BW;rw[hq]at this;exact⟨i,rfl,zB2 this⟩
  have hv:(loadVar 111 ⟨g,off,none⟩).run Tryz.prog w= .ok (.agg #[.bool false,.bool K.name,.bool K.dC,.bool K.spare]) w:=by
   have hl2:(loadCells ⟨g,off,none⟩ 4).run Tryz.prog w= .ok #[.bool false,.bool K.name,.bool K.dC,.bool K.spare] w:=hl
   simp[loadVar,Sem.run_bind,hagg,sizeOf,typeInfo,hq,hsz,hl2]
  unfold execOp
  simp only[ho,hx,Instr.loadAt,Instr.sureAddr,Sem.run_bind,Sem.run_pure,Result.andThen_ok,hv]⟩
def qT(Ks:List Sx.Kinds)(w:World)(e:Ending)(w':World):Prop:= ∃u,e= .returned u/\w'.ownsRow w.heap.size 111 4 u Ks.length (jC Ks)/\Below w.heap.size w w'
theorem lZ {w:World}{n₀ tb mb:Nat}{t:Sx.Tab}(h:TabAt w n₀ tb mb t){k:Sx.Way}(hk:DD k){X:Array Value}(hX:(.agg X:Value)= .agg (fE k)){R:Nat}{B:Bool}(hR:(Sx.find t.es k).getD 0=R)(hB:(Sx.find t.es k).isSome=B):
  (Instr.lookup 73 (.map (some mb)) (.agg X) true).run Tryz.prog w= .ok (.tuple #[.int .i64 (R:Int),.bool B]) w:=by
 obtain⟨h1,h2⟩:=h.look hk
 obtain⟨v,ps,hrun,hv⟩:=h.map.look_ok ZN Tryz.underlying73 (A7 w) (plainElem_int (H:=Unit) Tryz.underlying3 (by decide)) (jL k hk)
 obtain⟨c,rfl,hc,hwc⟩:=plainElem_int_inv Tryz.underlying3 hv
 have hc:=congrArg Prod.fst hc
 dsimp only at hc
 rw[h2,hR]at hc
 have e:(R:Int)=c:=(Lit.int.inj (DataW.lit.inj hc)).2
 rw[hX,hrun,h1,hB,<-e]
theorem aAD(t:Sx.Tab)(ls:List (List UInt8))(n₀ tb mb BL:Nat)(v:Value)(w:World)(h:TabAt w n₀ tb mb t)(hlen:ls.length<=254)(hlb: ∀p∈ls,p.length<=63)(hown:w.ownsRow BL 9 1 v ls.length (ls.map gA)):
  Calls Tryz.prog 214 #[.pointer (some ⟨tb,0,none⟩),v] w (qT (Sx.along t 0 ls.reverse) w):=by
 refine(callsIn_wide (n:=3)).1 ?_
 have htb:tb<w.heap.size:=by obtain⟨v,hR,_⟩:=h.cells;exact hR.lt
 have hmb:=h.map.lt
 obtain⟨A,c,hv⟩: ∃A c,v= .slice A ls.length c:=by
  rcases(ON hown).2 with⟨rfl,rfl⟩|⟨g,cap,rfl,_⟩
  ·exact⟨none,0,rfl⟩
  ·exact⟨_,_,rfl⟩
 subst hv
 refine callsIn_of_wp_marks Tryz.func214 rfl trivial ?_ rfl
 simp only[Tryz.ntmps214,List.size_toArray,zB5,List.length_nil,Nat.reduceAdd,Nat.reduceSub,Array.replicate_succ,Array.replicate_zero,List.push_toArray,List.append_toArray,List.nil_append,List.cons_append]
 have R0:=Boxed.new w 24 (.pointer (some ⟨tb,0,none⟩))
 have R1:=Boxed.new (w.alloc (.cells #[.pointer (some ⟨tb,0,none⟩)] 24)) 74 (.slice none 0 0)
 have R2:=Boxed.new ((w.alloc (.cells #[.pointer (some ⟨tb,0,none⟩)] 24)).alloc (.cells #[.slice none 0 0] 74)) 3 (.int .i64 0)
 have B0:=(((Below.refl w.heap.size w).alloc (zB3 _) (.cells #[.pointer (some ⟨tb,0,none⟩)] 24)).alloc (by simp) (.cells #[.slice none 0 0] 74)).alloc (by simp;omega) (.cells #[.int .i64 0] 3)
 have R0:=(R0.alloc (.cells #[.slice none 0 0] 74)).alloc (.cells #[.int .i64 0] 3)
 have R1:=R1.alloc (.cells #[.int .i64 0] 3)
 have hsz:(((w.alloc (.cells #[.pointer (some ⟨tb,0,none⟩)] 24)).alloc (.cells #[.slice none 0 0] 74)).alloc (.cells #[.int .i64 0] 3)).heap.size=w.heap.size+3:=by simp
 simp only[World.size_alloc]at R1 R2
 gi_wp2
 generalize((w.alloc (.cells #[.pointer (some ⟨tb,0,none⟩)] 24)).alloc (.cells #[.slice none 0 0] 74)).alloc (.cells #[.int .i64 0] 3)=w2 at*
 refine⟨trivial,(JT Fence.wide _ trivial rfl A ls.length c w2).mono ?_⟩
 rintro e w3 ⟨rfl,rfl⟩
 gi_wp2
 have bN:=Boxed.new w2 93 (.slice A ls.length c)
 have P0:=R0.alloc (.cells #[.slice A ls.length c] 93)
 have P1:=R1.alloc (.cells #[.slice A ls.length c] 93)
 have P2:=R2.alloc (.cells #[.slice A ls.length c] 93)
 have xH:=B0.alloc B0.size (.cells #[.slice A ls.length c] 93)
 have hown0:=RK hown xH
 have hsz0:(w2.alloc (.cells #[.slice A ls.length c] 93)).heap.size=w2.heap.size+1:=by simp
 rw[hsz]at bN hsz0
 generalize w2.alloc (.cells #[.slice A ls.length c] 93)=W0 at*
 have hg2:(Value.slice A ls.length c).ownBlock.getD (w.heap.size+3)<W0.heap.size:=by
  cases e:(Value.slice A ls.length c).ownBlock with
  |none=>show w.heap.size+3<_;omega
  |some b=>exact(hown0.lt b e).2
 have hgb:(Value.slice A ls.length c).ownBlock.getD (w.heap.size+3)<w.heap.size\/(Value.slice A ls.length c).ownBlock.getD (w.heap.size+3)=w.heap.size+3:=by
  cases e:(Value.slice A ls.length c).ownBlock with
  |none=>exact .inr rfl
  |some b=>exact .inl (hown.lt b e).2
 have hseq:=IT Fence.wide (3-1) trivial rfl (by omega) (w.heap.size+3) (.slice A ls.length c) ls (by omega) W0 bN.lt bN.cell _ hown0
 generalize hgg:(Value.slice A ls.length c).ownBlock.getD (w.heap.size+3)=g at*
 have hI0:SC w W0 w.heap.size tb g (w.heap.size+3) t [] W0:=⟨xH,P0,⟨0,rfl,P2⟩,⟨_,P1,World.ownsRow_nil _ _ _ _⟩,KB.refl _ _ _,zB3 _⟩
 have hBl:=bN.lt
 have H:=zA7 h
 have hbN:=bN
 clear R0 R1 R2 B0 P0 P1 P2 xH hown hown0 hgg bN hsz w2 h
 refine wpIn_rangeFunc_ownG (F:=Fence.wide) (n:=3) rfl (by omega) (gf:=86) (lb:= #[.pointer (some ⟨w.heap.size+3,0,none⟩)]) rfl trivial (enters_of Tryz.func86 (by kernel_rfl) rfl)
  hseq (fun h k=>h.trans k) (TW hg2 hBl) (Below.refl _ _) (fun _=>rfl)
  (fun pre W=>SC w W0 w.heap.size tb g (w.heap.size+3) t (pre.map (cB ls)) W)
  (fun c pre W=>c= .exit 0/\BJ w W0 w.heap.size t (pre.map (cB ls)) W)
  (fun s X Y row hs hgr hr=>hs.own hgr hr (by omega) hg2 hBl (by omega))
  (fun c s X Y row hs hgr hr=>⟨hs.1,hs.2.own hgr hr (by omega) (by omega)⟩)
  hI0
  (fun x=> {tmps:= #[.pointer (some ⟨tb,0,none⟩),.slice A ls.length c,.pointer (some ⟨w.heap.size,0,none⟩),undef,.slice none 0 0,.pointer (some ⟨w.heap.size+1,0,none⟩),.pointer (some ⟨w.heap.size+1+1,0,none⟩),undef,gA (cB ls x),undef,undef,
   .slice A ls.length c,.func (.func 86) #[] #[.pointer (some ⟨w.heap.size+3,0,none⟩)],.int .i64 ((ls.length-1-x:Nat):Int),gA (cB ls x),
   undef,undef,undef,undef,undef,undef,undef,undef,undef,undef,undef,undef,undef,undef,undef,undef,undef,undef,undef,undef,undef,undef,undef,undef,undef],defers:= []}) ?assign ?body ?done ?stop
 case assign=>
  intro l x W K hK
  unfold tK
  gi_wp2
  exact hK
 case body=>
  rintro l pre x W hI hlen
  have hlx:=YW hlb x
  have hI:SC w W0 w.heap.size tb g (w.heap.size+3) t (pre.map (cB ls)) W:=hI
  generalize hp:pre.map (cB ls)=p at*
  obtain⟨s,hs⟩: ∃s:ByteArray,s=⟨(cB ls x).toArray⟩:=⟨_,rfl⟩
  have hsv:gA (cB ls x)= .string s:=by rw[hs];rfl
  rw[hsv]
  obtain⟨j,hj,hJ⟩:=hI.node
  have HT:=H.out.stays hI.below
  have c2:=hI.self.cell
  have c3:=hJ.cell
  obtain⟨v,hR,hO⟩:=HT.cells
  have c4:=hR.cell 0
  have hjl:=Sx.mAh hj
  have hfw:=HT.few
  have hX:(.agg #[.int .i64 (j:Int),.string s]:Value)= .agg (fE (j,cB ls x)):=by rw[hs];rfl
  have kT:DD (j,cB ls x):=⟨WalkArith.wf_i64 (by dsimp only;omega),by dsimp only;unfold maxLen;omega⟩
  clear hs hsv
  cases hf:Sx.find t.es (j,cB ls x)with
  |none=>
   have eH:=lZ HT.drew kT hX (by rw[hf];rfl:_=0) (by rw[hf];rfl:_=false)
   gi_wp2
   refine fR (by kernel_rfl) (by rintro⟨_,_,k⟩;exact k) (MQ (by kernel_rfl)) (S:=fun W'=>W'=W.drew) rfl (fun hS=>?_)
   refine lA (i:=0) rfl ?_ (hv:=by intro _ hS;subst hS;go_simp;with_reducible rfl)
   refine lA (i:=1) rfl ?_ (hv:=by intro _ hS;subst hS;go_simp;with_reducible rfl)
   refine lA (i:=2) rfl ?_ (hv:=by intro _ hS;subst hS;go_simp;with_reducible rfl)
   refine lA (i:=3) rfl ?_ (hv:=by intro _ hS;subst hS;go_simp;with_reducible rfl)
   refine lA (i:=4) rfl ?_ (hv:=by intro _ hS;subst hS;go_simp;with_reducible rfl)
   refine lA (i:=5) rfl ?_ (hv:=by intro _ hS;subst hS;go_simp;with_reducible rfl)
   refine lA (i:=6) rfl ?_ (hv:=by intro _ hS;subst hS;go_simp;with_reducible rfl)
   refine bG (i:=7) rfl (Y6 (by rfl) _ _ _ rfl _ _ _ rfl rfl (fun w hS=>by subst hS;exact eH)) ?_
   refine lA (i:=8) rfl ?_ (hv:=by intro _ hS;subst hS;go_simp;with_reducible rfl)
   refine lA (i:=9) rfl ?_ (hv:=by intro _ hS;subst hS;go_simp;with_reducible rfl)
   refine lA (i:=10) rfl ?_ (hv:=by intro _ hS;subst hS;go_simp;with_reducible rfl)
   refine lA (i:=11) rfl ?_ (hv:=by intro _ hS;subst hS;go_simp;with_reducible rfl)
   refine lA (i:=12) rfl ?_ (hv:=by intro _ hS;subst hS;go_simp;with_reducible rfl)
   refine wpAnyH_done (by kernel_rfl) ?_ _
   gi_wp2
   refine⟨(KeepsOthers.drew W).from _,rfl,?_⟩
   obtain⟨u,hu,hU⟩:=hI.met
   refine⟨hI.below.drew,⟨u,hu,fun q=>?_⟩,hI.size⟩
   rw[List.map_append,hp]
   show World.ownsRow _ _ _ _ _ (Sx.along t 0 ((p++ [cB ls x])++q)).length (jC (Sx.along t 0 ((p++ [cB ls x])++q)))
   rw[Sx.aAE hj hf q]
   exact hU.drew
  |some i=>
   have eH:=lZ HT.drew kT hX (by rw[hf];rfl:_=i) (by rw[hf];rfl:_=true)
   have hil:=(Sx.uK hf).2.1
   obtain⟨K,hK⟩: ∃K,t.ends[i]? =some K:=⟨_,List.getElem?_eq_getElem (by rw[HT.well.size];omega)⟩
   have MD:=zA7 (Sx.aAF hj hf hK)
   gi_wp2
   refine fR (by kernel_rfl) (by rintro⟨_,_,k⟩;exact k) (MQ (by kernel_rfl)) (S:=fun W'=>W'=W.drew) rfl (fun hS=>?_)
   refine lA (i:=0) rfl ?_ (hv:=by intro _ hS;subst hS;go_simp;with_reducible rfl)
   refine lA (i:=1) rfl ?_ (hv:=by intro _ hS;subst hS;go_simp;with_reducible rfl)
   refine lA (i:=2) rfl ?_ (hv:=by intro _ hS;subst hS;go_simp;with_reducible rfl)
   refine lA (i:=3) rfl ?_ (hv:=by intro _ hS;subst hS;go_simp;with_reducible rfl)
   refine lA (i:=4) rfl ?_ (hv:=by intro _ hS;subst hS;go_simp;with_reducible rfl)
   refine lA (i:=5) rfl ?_ (hv:=by intro _ hS;subst hS;go_simp;with_reducible rfl)
   refine lA (i:=6) rfl ?_ (hv:=by intro _ hS;subst hS;go_simp;with_reducible rfl)
   refine bG (i:=7) rfl (Y6 (by rfl) _ _ _ rfl _ _ _ rfl rfl (fun w hS=>by subst hS;exact eH)) ?_
   refine lA (i:=8) rfl ?_ (hv:=by intro _ hS;subst hS;go_simp;with_reducible rfl)
   refine lA (i:=9) rfl ?_ (hv:=by intro _ hS;subst hS;go_simp;with_reducible rfl)
   refine lA (i:=10) rfl ?_ (hv:=by intro _ hS;subst hS;go_simp;with_reducible rfl)
   refine lA (i:=11) rfl ?_ (hv:=by intro _ hS;subst hS;go_simp;with_reducible rfl)
   refine lA (i:=12) rfl ?_ (hv:=by intro _ hS;subst hS;go_simp;with_reducible rfl)
   refine wpAnyH_done (by kernel_rfl) ?_ _
   gi_wp2
   have SP:=hI.drew.drew
   have BS:=zA7 (show KeepsFrom W0.heap.size W W.drew.drew from((KeepsOthers.drew W).trans (KeepsOthers.drew _)).from _)
   have AS:=zA7 (show KB g (w.heap.size+3) W W.drew.drew from KB.refl _ _ _)
   obtain⟨v0,hR0,xM⟩:=H.out.cells
   obtain⟨ne,hne⟩: ∃ne,t.ends.length=ne:=⟨_,rfl⟩
   rw[hne]at xM
   have hin:i<ne:=by rw[<-hne,HT.well.size];omega
   obtain⟨gv,cap,rfl⟩: ∃gv cap,v0= .slice (some ⟨gv,0,none⟩) ne cap:=by
    rcases xM.2 with⟨rfl,h0⟩|⟨gv,cap,cur,rfl,_⟩
    ·omega
    ·exact⟨gv,cap,rfl⟩
   have Y7:=zA7 (show w.cell? ⟨tb,1,none⟩=some (.slice (some ⟨gv,0,none⟩) ne cap) from hR0.cell 1)
   have N8:=zA7 (show gv<w.heap.size from(xM.lt gv rfl).2)
   have V8:=zA7 (show∀q v,(ID K)[q]? =some v->w.cell? ⟨gv,i*4+q,none⟩=some v from fun q v hq=>(xM.cellAt _ (by
    have hq4:q<4:=by have:=(Array.getElem?_eq_some_iff.1 hq).1;simpa[ID]using this
    omega)).trans (WI hK q v hq))
   have hneb:ne<=1048577:=by have:=HT.well.size;omega
   obtain⟨u,hu,hU⟩:=SP.met
   have EH:=SP.keep
   generalize UV:W.drew.drew=U at*
   have uO:=zA7 (fun w1 o v'=>SP.more (w1:=w1) (o:=o) (v':=v') hbN hgb hg2 hu hU MD.out.1 MD.out.2)
   obtain⟨n1,hn1⟩: ∃n1,(Sx.along t 0 p).length=n1:=⟨_,rfl⟩
   rw[hn1]at uO hU
   generalize jC (Sx.along t 0 p)=L1 at*
   have hlu: ∃A1 c1,u= .slice A1 n1 c1:=by
    rcases hU.2 with⟨rfl,h0⟩|⟨g1,nA3,cur,rfl,_⟩
    ·exact⟨none,0,by rw[h0]⟩
    ·exact⟨_,_,rfl⟩
   obtain⟨A1,c1,rfl⟩:=hlu
   have hpl:n1<=254:=by
    have:=Sx.WL t 0 p
    rw[hn1,<-hp,List.length_map]at this
    omega
   obtain⟨i0,hi,hz0,hz1,hz2⟩:=info_parts qQ
   have CL:=zA7 hU
   have LS:Hid (∀y∈ [Value.bool false,.bool K.name,.bool K.dC,.bool K.spare],y.oneCell'=true):=zA7 (by intro y hy;simp at hy;rcases hy with rfl|rfl|rfl|rfl<;>rfl)
   have DS:=zA7 (show n1+1<=maxLen by unfold maxLen;omega)
   have sI:=zA7 (show(n1+1)*4<=140737488355328 by omega)
   have cm:=hu.cell
   refine fR (by kernel_rfl) (by rintro⟨_,_,k⟩;exact k) (MQ (by kernel_rfl)) (S:=mH w tb) (UV.symm▸EH) (fun hS=>?_)
   rw[UV]at hS⊢
   refine lA (i:=1) rfl ?_ (hv:=by intro _ hS;have hcell:=hS.self.cell;clear hS;go_simp;with_reducible rfl)
   refine lA (i:=2) rfl ?_
   refine lA (i:=3) rfl ?_
   refine lA (i:=4) rfl ?_ (hv:=by intro _ hS;have hcell:=(hS.below.cell (p:=⟨tb,1,none⟩) htb).trans Y7.out;clear hS;go_simp;with_reducible rfl)
   refine lA (i:=5) rfl ?_
   refine lA (i:=6) rfl ?_
   refine bG (i:=7) rfl (X6 (by rfl) _ rfl gv (i*4) rfl K (fun W' hS' q v hq=>(hS'.below.cell (p:=⟨gv,i*4+q,none⟩) N8.out).trans (V8.out q v hq))) ?_
   refine wpAnyH_ready (rs:= [0,8]) (by kernel_rfl) (by simp) (AllReadyH.cons rfl (fun K1 hK1=>?_) (AllReadyH.cons rfl (fun K1 hK1=>?_) AllReadyH.nil))
   ·rw[if_pos (by rfl)]
    go_simp
    refine hK1.out _ _ EH (fun _=>?_)
    clear hK1 K1
    refine wpAnyH_ready (rs:= [8]) (by kernel_rfl) (by simp) (AllReadyH.cons rfl (fun K1 hK1=>?_) AllReadyH.nil)
    rw[if_pos (by rfl)]
    go_simp
    refine hK1.out _ _ (EH.alloc _) (fun _=>?_)
    clear hK1 K1
    refine wpAnyH_ready (rs:= [9]) (by kernel_rfl) (by simp) (AllReadyH.cons rfl (fun K1 hK1=>?_) AllReadyH.nil)
    refine step_append_lies _ rfl _ _ _ rfl w.heap.size 111 i0 _ 4 4 Tryz.underlying74 hi hz0 hz1 hz2 rfl (by decide) _ _ _ rfl (CL.out.alloc _) ⟨U.heap.size,0,none⟩ 1 1 [.bool false,.bool K.name,.bool K.dC,.bool K.spare] rfl rfl (World.news_of_block (t:=111) (fr:=(0,0)) (heap_alloc_new U _)) LS.out (by omega) DS.out sI.out (by have:=EH.below.size;simp;omega) (U.heap.size+1) (by simp) ?_
    intro g' cap' w1 hown1 hgrow _ _
    obtain⟨r1,r2,r3,⟨j',r4⟩,r5,r6,r7⟩:=uO.out _ _ _ hown1 hgrow
    refine hK1.out _ _ r2 (fun _=>?_)
    clear hK1 K1
    refine wpAnyH_ready (rs:= [10]) (by kernel_rfl) (by simp) (AllReadyH.cons rfl (fun K1 hK1=>?_) AllReadyH.nil)
    rw[if_pos (by rfl)]
    have c7:=r1.cell
    have f7:=r1.frozen
    go_simp
    refine hK1.out _ _ r3 (fun _=>?_)
    clear hK1 K1
    refine wpAnyH_done (by kernel_rfl) ?_ _
    have c8:=r4.cell
    have f8:=r4.frozen
    gi_wp2
    refine⟨BS.out.trans r6,AS.out.trans r7,?_⟩
    show SC w W0 w.heap.size tb g (w.heap.size+3) t (List.map (cB ls) (pre++ [x])) _
    rw[List.map_append,hp]
    exact r5
   ·rw[if_pos (by rfl)]
    go_simp
    refine hK1.out _ _ (EH.alloc _) (fun _=>?_)
    clear hK1 K1
    have cm2:=(hu.alloc (.cells #[.bool false,.bool K.name,.bool K.dC,.bool K.spare] 111)).cell
    refine wpAnyH_ready (rs:= [0]) (by kernel_rfl) (by simp) (AllReadyH.cons rfl (fun K1 hK1=>?_) AllReadyH.nil)
    rw[if_pos (by rfl)]
    go_simp
    refine hK1.out _ _ (EH.alloc _) (fun _=>?_)
    clear hK1 K1
    refine wpAnyH_ready (rs:= [9]) (by kernel_rfl) (by simp) (AllReadyH.cons rfl (fun K1 hK1=>?_) AllReadyH.nil)
    refine step_append_lies _ rfl _ _ _ rfl w.heap.size 111 i0 _ 4 4 Tryz.underlying74 hi hz0 hz1 hz2 rfl (by decide) _ _ _ rfl (CL.out.alloc _) ⟨U.heap.size,0,none⟩ 1 1 [.bool false,.bool K.name,.bool K.dC,.bool K.spare] rfl rfl (World.news_of_block (t:=111) (fr:=(0,0)) (heap_alloc_new U _)) LS.out (by omega) DS.out sI.out (by have:=EH.below.size;simp;omega) (U.heap.size+1) (by simp) ?_
    intro g' cap' w1 hown1 hgrow _ _
    obtain⟨r1,r2,r3,⟨j',r4⟩,r5,r6,r7⟩:=uO.out _ _ _ hown1 hgrow
    refine hK1.out _ _ r2 (fun _=>?_)
    clear hK1 K1
    refine wpAnyH_ready (rs:= [10]) (by kernel_rfl) (by simp) (AllReadyH.cons rfl (fun K1 hK1=>?_) AllReadyH.nil)
    rw[if_pos (by rfl)]
    have c7:=r1.cell
    have f7:=r1.frozen
    go_simp
    refine hK1.out _ _ r3 (fun _=>?_)
    clear hK1 K1
    refine wpAnyH_done (by kernel_rfl) ?_ _
    have c8:=r4.cell
    have f8:=r4.frozen
    gi_wp2
    refine⟨BS.out.trans r6,AS.out.trans r7,?_⟩
    show SC w W0 w.heap.size tb g (w.heap.size+3) t (List.map (cB ls) (pre++ [x])) _
    rw[List.map_append,hp]
    exact r5
 case done=>
  rintro D ys W hD rfl hI hK
  have hI:SC w W0 w.heap.size tb g (w.heap.size+3) t ((List.range ls.length).map (cB ls)) W:=hI
  rw[bX]at hI
  obtain⟨u,hu,hU⟩:=hI.met
  have hc:=hu.cell
  gi_wp2
  refine⟨by simp,.inl ⟨_,_,rfl,run_takeDeferred hK,?_⟩⟩
  exact⟨_,results_tmp rfl _ _ _,u,rfl,ownsRow_putObj hU _ hK rfl,hI.below.trans (belowK_b (w:=w) (zB3 _) W D _ _ (by omega) hK rfl rfl)⟩
 case stop=>
  rintro D c pre W hD ⟨k,hk,rfl⟩ ⟨rfl,hI⟩ hK
  have hI:BJ w W0 w.heap.size t ((List.range k).map (cB ls)) W:=hI
  rw[cX ls k hk]at hI
  obtain⟨u,hu,hU⟩:=hI.met
  have hU:=hU (ls.reverse.drop k)
  rw[List.take_append_drop]at hU
  have hc:=hu.cell
  gi_wp2
  refine⟨by simp,.inl ⟨_,_,rfl,run_takeDeferred hK,?_⟩⟩
  exact⟨_,results_tmp rfl _ _ _,u,rfl,ownsRow_putObj hU _ hK rfl,hI.below.trans (belowK_b (w:=w) (zB3 _) W D _ _ (by omega) hK rfl rfl)⟩
end Go.Proofs.YtdaaoopkkhfbhaaGreatDoor
namespace Go.Proofs.YtdaaoopkkhfbhaaGreatDoor
open Go.RowKit Go.Maps
theorem aE {ops:Array Oper}{Q:Exit->Act->World->Prop}{rest:List Oper}{o:Oper}{a:Act}{w:World}(hw:Region.wanted o (yielded ops a.tmps)=true)(x:Operand)(ho:o.op= .load 111 x)
  (g off:Nat)(hx:a.eval x= .pointer (some ⟨g,off,none⟩))(K:Sx.Kinds)(hS: ∀i v,(ID K)[i]? =some v->w.cell? ⟨g,off+i,none⟩=some v)
  (h:wpList Tryz.prog ops Q rest (a.put o.dst (.agg #[.bool false,.bool K.name,.bool K.dC,.bool K.spare])) w):wpList Tryz.prog ops Q (o::rest) a w:=by
 rcases X6 (ops:=ops) (S:=fun W=>W=w) hw x ho g off hx K (fun W hW=>by subst hW;exact hS)with⟨_,hy⟩|⟨h1,_⟩
 ·refine wpList_step fun K' hK'=>?_
  simp only[hw,if_true]
  unfold Oper.wp
  rw[hy w rfl]
  exact hK' _ _ h
 ·rw[hw]at h1;cases h1
def jK(n:Nat)(w:World)(e:Ending)(w':World):Prop:=e= .returned (.int .i64 (n:Int))/\Below w.heap.size w w'
theorem JZ(t:Sx.Tab)(h:bA.Host)(n₀ tb mb:Nat)(w:World)(hw:Std w)(ha:h.addr.length=16)(hs:h.name.length<=1000000)(hT:TabAt w n₀ tb mb t):
  Calls Tryz.prog 161 #[.pointer (some ⟨tb,0,none⟩),.agg (cA h)] w (jK (Sx.suffix t h) w):=by
 have HH:=zA7 (show(Tryz.prog.info? 32).map (·.size)=some (cA h).size by rw[XA h ha];exact mA)
 have H1:=zA7 (fun W hW=>ZI h ha (by omega) W hW)
 unfold OD at H1
 have hlf:=Sx.aX h
 have hlb: ∀p∈bA.labels h,p.length<=63:=by
  intro p hp
  have hl:bA.labels h≠ []:=by intro e;rw[e]at hp;cases hp
  obtain⟨_,g,_,e⟩:=bA.MG hl
  rw[e]at hp
  exact(bA.UM (List.all_eq_true.1 g.all p hp)).2.1
 have R0:=Row.new w 32 (cA h)
 have B0:=(Below.refl w.heap.size w).alloc (zB3 _) (.cells (cA h) 32)
 have HP:Hid (∀n w',Sx.suffix t h=n->Below w.heap.size w w'->jK (Sx.suffix t h) w (.returned (.int .i64 (n:Int))) w'):=zA7 (fun n w' e b=>by rw[e];exact⟨rfl,b⟩)
 generalize jK (Sx.suffix t h) w=post at*
 by_cases hz:bA.labels h= []
 ·have HZ:=zA7 (HP.out 0 · (Sx.kAR hz))
  rw[hz]at H1
  generalize cA h=X at*
  clear hlf hlb hz
  go_enter Tryz.func161,Tryz.ntmps161
  go_wp2_with (refine jA 11 rfl ?_;refine pA rfl 32 _ rfl w.heap.size rfl R0 Tryz.underlying32 rfl HH.out ?_)
  generalize w.alloc (.cells X 32)=w0 at*
  refine(H1.out _ (hw.below B0)).mono ?_
  rintro e v1 ⟨v,rfl,hown,d1⟩
  have B1:=B0.trans (d1.mono B0.size)
  obtain⟨_,⟨rfl,_⟩|⟨g,cap,rfl,_⟩⟩:=ON (ls:= []) hown
  ·go_wp2
   exact HZ.out _ B1
  ·go_wp2
   exact HZ.out _ B1
 ·have MD:=zA7 (fun v W BL hT hown=>aAD t (bA.labels h) n₀ tb mb BL v W hT hlf hlb hown)
  unfold qT at MD
  have hks:=Sx.WL t 0 (bA.labels h).reverse
  rw[List.length_reverse]at hks
  have hsu:Sx.suffix t h=Sx.pick (Sx.tally (bA.labels h).length (Sx.along t 0 (bA.labels h).reverse) 0 (1,0)):=by unfold Sx.suffix;rw[if_neg hz]
  have hpos:=List.length_pos_iff.2 hz
  generalize Sx.along t 0 (bA.labels h).reverse=Ks at*
  obtain⟨n,hn⟩: ∃n,(bA.labels h).length=n:=⟨_,rfl⟩
  obtain⟨m,hm⟩: ∃m,Ks.length=m:=⟨_,rfl⟩
  rw[hn]at hlf hsu hpos hks
  have HN:=zA7 hn
  generalize bA.labels h=ls at*
  rw[hn]at H1
  rw[hm]at hks MD
  have HM:=zA7 hm
  have JO:=zA7 hsu
  have hnz:((n:Int)==0)=false:=by simp;omega
  generalize cA h=X at*
  clear hz hn hlb hm hsu
  go_enter Tryz.func161,Tryz.ntmps161
  go_wp2_with (refine jA 11 rfl ?_;refine pA rfl 32 _ rfl w.heap.size rfl R0 Tryz.underlying32 rfl HH.out ?_)
  generalize w.alloc (.cells X 32)=w0 at*
  refine(H1.out _ (hw.below B0)).mono ?_
  rintro e v1 ⟨v,rfl,hown,d1⟩
  have B1:=B0.trans (d1.mono B0.size)
  obtain⟨A,c,rfl⟩: ∃A c,v= .slice A n c:=by
   rcases hown.2 with⟨rfl,h0⟩|⟨g,cap,cur,rfl,_⟩
   ·exact⟨none,0,by rw[h0]⟩
   ·exact⟨_,_,rfl⟩
  go_wp2_with fail
  rw[<-HN.out]at hown
  have HA2:=MD.out _ v1 _ (hT.stays B1) hown
  rw[HN.out]at HA2
  refine HA2.mono ?_
  rintro e v2 ⟨u,rfl,hU,d2⟩
  have B2:=B1.trans (d2.mono B1.size)
  obtain⟨A2,c2,rfl⟩: ∃A2 c2,u= .slice A2 m c2:=by
   rcases hU.2 with⟨rfl,h0⟩|⟨g,cap,cur,rfl,_⟩
   ·exact⟨none,0,by rw[h0]⟩
   ·exact⟨_,_,rfl⟩
  have HU:=zA7 hU
  clear hown d1 d2 B0 B1 R0 MD H1 HA2 hT hU
  go_wp2_with fail
  go_loopw [6,7,20] (fun p s i wr=> ∃(k a b:Nat),k<=m/\p= .int .i64 (a:Int)/\s= .int .i64 (b:Int)/\i= .int .i64 (k:Int)/\Sx.tally n (Ks.take k) 0 (1,0)=(a,b)/\Below v2.heap.size v2 wr) (fun _ _ i _=>m- (intOf i).toNat)
  case atStart=>exact⟨0,1,0,Nat.zero_le _,rfl,rfl,rfl,rfl,Below.refl _ _⟩
  case round=>
   obtain⟨k,a,b,hk,rfl,rfl,rfl,jF,hbe⟩:=hrel
   by_cases hlt:k<m
   ·obtain⟨K,hK⟩: ∃K,Ks[k]? =some K:=⟨_,List.getElem?_eq_getElem (by rw[HM.out];exact hlt)⟩
    have GS:Hid (Sx.tally n (Ks.take (k+1)) 0 (1,0)=Sx.next n K (k+1) (a,b)):=zA7 (by
     rw[List.take_add_one,hK]
     show Sx.tally n (Ks.take k++ [K]) 0 (1,0)=_
     rw[Sx.XZ,jF,List.length_take,HM.out]
     congr 1;omega)
    obtain⟨g,rfl,hcc,hgl,hcell⟩: ∃g,A2=some ⟨g,0,none⟩/\m<=c2/\g<v2.heap.size/\ ∀i v,(ID K)[i]? =some v->v2.cell? ⟨g,k*4+i,none⟩=some v:=by
     have hU:=HU.out
     rcases hU.2 with⟨e,h0⟩|⟨g,cap,cur,e,_,hg,hc,_⟩
     ·omega
     ·have e:=Value.slice.inj e
      obtain⟨rfl,_,rfl⟩:=e
      refine⟨g,rfl,hc,(Array.getElem?_eq_some_iff.1 hg).1,fun i v hv=>?_⟩
      have hi4:i<4:=by have:=(Array.getElem?_eq_some_iff.1 hv).1;simpa[ID]using this
      rw[hU.cellAt _ (by omega)]
      exact WI hK i v hv
    have HC:=zA7 (fun i v hv=>(hbe.cell (p:=⟨g,k*4+i,none⟩) hgl).trans (hcell i v hv))
    clear hcell jF
    obtain⟨nm,wd,sp⟩:=K
    have HR:Hid (∀(pi si:Int)(w':World),pi=((Sx.next n ⟨nm,wd,sp⟩ (k+1) (a,b)).1:Int)->si=((Sx.next n ⟨nm,wd,sp⟩ (k+1) (a,b)).2:Int)->Below v2.heap.size v2 w'-> ∃(k' a' b':Nat),k'<=m/\Value.int .i64 pi= .int .i64 (a':Int)/\Value.int .i64 si= .int .i64 (b':Int)/\Value.int .i64 ((k:Int)+1)= .int .i64 (k':Int)/\Sx.tally n (Ks.take k') 0 (1,0)=(a',b')/\Below v2.heap.size v2 w'):=
     zA7 (fun pi si w' h1 h2 hb=>⟨k+1,_,_,by omega,(by rw[h1];rfl),(by rw[h2];rfl),by go_num,GS.out,hb⟩)
    clear GS hK
    cases nm
    ·cases wd
     ·cases sp
      ·have C:=hbe.alloc hbe.size (.cells #[.bool false,.bool false,.bool false,.bool false] 111)
       go_wp2_with (refine jA 24 rfl ?_;refine aE rfl _ rfl g (k*4) rfl ⟨false,false,false⟩ HC.out ?_)
       go_roundw
       case rel=>exact HR.out _ _ _ (by simp[Sx.next]<;>omega) (by simp[Sx.next]<;>omega) C
       case measure=>simp[intOf];omega
      ·have C:=hbe.alloc hbe.size (.cells #[.bool false,.bool false,.bool false,.bool true] 111)
       go_wp2_with (refine jA 24 rfl ?_;refine aE rfl _ rfl g (k*4) rfl ⟨false,false,true⟩ HC.out ?_)
       go_roundw
       case rel=>exact HR.out _ _ _ (by simp[Sx.next]<;>omega) (by simp[Sx.next]<;>omega) C
       case measure=>simp[intOf];omega
     ·cases sp
      ·by_cases hn1:k+1<n
       ·have hn2:(k:Int)+1<(n:Int):=by omega
        have C:=hbe.alloc hbe.size (.cells #[.bool false,.bool false,.bool true,.bool false] 111)
        go_wp2_with (refine jA 24 rfl ?_;refine aE rfl _ rfl g (k*4) rfl ⟨false,true,false⟩ HC.out ?_)
        go_roundw
        case rel=>exact HR.out _ _ _ (by simp[Sx.next,hn1]<;>omega) (by simp[Sx.next]<;>omega) C
        case measure=>simp[intOf];omega
       ·have hn2: ¬(k:Int)+1<(n:Int):=by omega
        have C:=hbe.alloc hbe.size (.cells #[.bool false,.bool false,.bool true,.bool false] 111)
        go_wp2_with (refine jA 24 rfl ?_;refine aE rfl _ rfl g (k*4) rfl ⟨false,true,false⟩ HC.out ?_)
        go_roundw
        case rel=>exact HR.out _ _ _ (by simp[Sx.next,hn1]<;>omega) (by simp[Sx.next]<;>omega) C
        case measure=>simp[intOf];omega
      ·by_cases hn1:k+1<n
       ·have hn2:(k:Int)+1<(n:Int):=by omega
        have C:=hbe.alloc hbe.size (.cells #[.bool false,.bool false,.bool true,.bool true] 111)
        go_wp2_with (refine jA 24 rfl ?_;refine aE rfl _ rfl g (k*4) rfl ⟨false,true,true⟩ HC.out ?_)
        go_roundw
        case rel=>exact HR.out _ _ _ (by simp[Sx.next,hn1]<;>omega) (by simp[Sx.next]<;>omega) C
        case measure=>simp[intOf];omega
       ·have hn2: ¬(k:Int)+1<(n:Int):=by omega
        have C:=hbe.alloc hbe.size (.cells #[.bool false,.bool false,.bool true,.bool true] 111)
        go_wp2_with (refine jA 24 rfl ?_;refine aE rfl _ rfl g (k*4) rfl ⟨false,true,true⟩ HC.out ?_)
        go_roundw
        case rel=>exact HR.out _ _ _ (by simp[Sx.next,hn1]<;>omega) (by simp[Sx.next]<;>omega) C
        case measure=>simp[intOf];omega
    ·cases wd
     ·cases sp
      ·have C:=hbe.alloc hbe.size (.cells #[.bool false,.bool true,.bool false,.bool false] 111)
       go_wp2_with (refine jA 24 rfl ?_;refine aE rfl _ rfl g (k*4) rfl ⟨true,false,false⟩ HC.out ?_)
       go_roundw
       case rel=>exact HR.out _ _ _ (by simp[Sx.next]<;>omega) (by simp[Sx.next]<;>omega) C
       case measure=>simp[intOf];omega
      ·have C:=hbe.alloc hbe.size (.cells #[.bool false,.bool true,.bool false,.bool true] 111)
       go_wp2_with (refine jA 24 rfl ?_;refine aE rfl _ rfl g (k*4) rfl ⟨true,false,true⟩ HC.out ?_)
       go_roundw
       case rel=>exact HR.out _ _ _ (by simp[Sx.next]<;>omega) (by simp[Sx.next]<;>omega) C
       case measure=>simp[intOf];omega
     ·cases sp
      ·by_cases hn1:k+1<n
       ·have hn2:(k:Int)+1<(n:Int):=by omega
        have C:=hbe.alloc hbe.size (.cells #[.bool false,.bool true,.bool true,.bool false] 111)
        go_wp2_with (refine jA 24 rfl ?_;refine aE rfl _ rfl g (k*4) rfl ⟨true,true,false⟩ HC.out ?_)
        go_roundw
        case rel=>exact HR.out _ _ _ (by simp[Sx.next,hn1]<;>omega) (by simp[Sx.next]<;>omega) C
        case measure=>simp[intOf];omega
       ·have hn2: ¬(k:Int)+1<(n:Int):=by omega
        have C:=hbe.alloc hbe.size (.cells #[.bool false,.bool true,.bool true,.bool false] 111)
        go_wp2_with (refine jA 24 rfl ?_;refine aE rfl _ rfl g (k*4) rfl ⟨true,true,false⟩ HC.out ?_)
        go_roundw
        case rel=>exact HR.out _ _ _ (by simp[Sx.next,hn1]<;>omega) (by simp[Sx.next]<;>omega) C
        case measure=>simp[intOf];omega
      ·by_cases hn1:k+1<n
       ·have hn2:(k:Int)+1<(n:Int):=by omega
        have C:=hbe.alloc hbe.size (.cells #[.bool false,.bool true,.bool true,.bool true] 111)
        go_wp2_with (refine jA 24 rfl ?_;refine aE rfl _ rfl g (k*4) rfl ⟨true,true,true⟩ HC.out ?_)
        go_roundw
        case rel=>exact HR.out _ _ _ (by simp[Sx.next,hn1]<;>omega) (by simp[Sx.next]<;>omega) C
        case measure=>simp[intOf];omega
       ·have hn2: ¬(k:Int)+1<(n:Int):=by omega
        have C:=hbe.alloc hbe.size (.cells #[.bool false,.bool true,.bool true,.bool true] 111)
        go_wp2_with (refine jA 24 rfl ?_;refine aE rfl _ rfl g (k*4) rfl ⟨true,true,true⟩ HC.out ?_)
        go_roundw
        case rel=>exact HR.out _ _ _ (by simp[Sx.next,hn1]<;>omega) (by simp[Sx.next]<;>omega) C
        case measure=>simp[intOf];omega
   ·obtain rfl:k=m:=by omega
    have hfin:Sx.suffix t h=Sx.pick (a,b):=by
     rw[JO.out,<-jF,List.take_of_length_le (by rw[HM.out];exact zB3 _)]
    have B3:=B2.trans (hbe.mono B2.size)
    by_cases hb0:0<b
    ·have hb1:(0:Int)<(b:Int):=by omega
     have HF:=zA7 (HP.out b wr (by rw[hfin];unfold Sx.pick;rw[if_pos hb0]) B3)
     clear hfin jF
     go_wp2
     exact HF.out
    ·have hb1: ¬(0:Int)<(b:Int):=by omega
     have HF:=zA7 (HP.out a wr (by rw[hfin];unfold Sx.pick;rw[if_neg hb0]) B3)
     clear hfin jF
     go_wp2
     exact HF.out
end Go.Proofs.YtdaaoopkkhfbhaaGreatDoor
namespace Go.Proofs.YtdaaoopkkhfbhaaGreatDoor
open Go.RowKit Go.Maps
theorem iAM(t:Sx.Tab)(h:bA.Host)(n₀ tb mb:Nat)(w:World)(hw:Std w)(ha:h.addr.length=16)(hs:h.name.length<=1000000)(hT:TabAt w n₀ tb mb t):
  Calls Tryz.prog 154 #[.pointer (some ⟨tb,0,none⟩),.agg (cA h)] w fun e w'=>e= .returned (.bool (Sx.isPublic (Sx.suffix t h) h))/\Below w.heap.size w w':=by
 have HH:=zA7 (show(Tryz.prog.info? 32).map (·.size)=some (cA h).size by rw[XA h ha];exact mA)
 have H1:=zA7 (fun W hW=>ZI h ha (by omega) W hW)
 unfold OD at H1
 have H2:=zA7 (fun W hW hT=>JZ t h n₀ tb mb W hW ha hs hT)
 unfold jK at H2
 have R0:=Row.new w 32 (cA h)
 have B0:=(Below.refl w.heap.size w).alloc (zB3 _) (.cells (cA h) 32)
 unfold Sx.isPublic
 generalize Sx.suffix t h=sn at*
 generalize bA.labels h=ls at*
 obtain⟨n,hn⟩: ∃n,ls.length=n:=⟨_,rfl⟩
 rw[hn]at H1⊢
 generalize cA h=X at*
 by_cases hz:0<n
 ·have hz1:(0:Int)<(n:Int):=by omega
  have HE:Hid (((n:Int)==(sn:Int))=decide (n=sn)):=zA7 (by rw[Bool.eq_iff_iff];simp;omega)
  rw[zA9 hz,Bool.true_and,<-HE.out]
  clear hz hn
  go_enter Tryz.func154,Tryz.ntmps154
  go_wp2_with (refine jA 6 rfl ?_;refine pA rfl 32 _ rfl w.heap.size rfl R0 Tryz.underlying32 rfl HH.out ?_)
  generalize w.alloc (.cells X 32)=w0 at*
  refine(H1.out _ (hw.below B0)).mono ?_
  rintro e v1 ⟨v,rfl,hown,d1⟩
  have B1:=B0.trans (d1.mono B0.size)
  have R1:=R0.stays d1
  obtain⟨A,c,rfl⟩: ∃A c,v= .slice A n c:=by
   rcases hown.2 with⟨rfl,h0⟩|⟨g,cap,cur,rfl,_⟩
   ·exact⟨none,0,by rw[h0]⟩
   ·exact⟨_,_,rfl⟩
  have hT1:=hT.stays B1
  clear hown d1 R0 B0 hT
  go_wp2_with (refine jA 14 rfl ?_;refine pA rfl 32 _ rfl w.heap.size rfl R1 Tryz.underlying32 rfl HH.out ?_)
  refine(H2.out _ (hw.below B1) hT1).mono ?_
  rintro e v2 ⟨rfl,d2⟩
  have B2:=B1.trans (d2.mono B1.size)
  go_wp2
  go_ret
  exact⟨rfl,B2⟩
 ·have hz1: ¬(0:Int)<(n:Int):=by omega
  rw[zA8 hz,Bool.false_and]
  clear hz hn
  go_enter Tryz.func154,Tryz.ntmps154
  go_wp2_with (refine jA 6 rfl ?_;refine pA rfl 32 _ rfl w.heap.size rfl R0 Tryz.underlying32 rfl HH.out ?_)
  generalize w.alloc (.cells X 32)=w0 at*
  refine(H1.out _ (hw.below B0)).mono ?_
  rintro e v1 ⟨v,rfl,hown,d1⟩
  have B1:=B0.trans (d1.mono B0.size)
  obtain⟨A,c,rfl⟩: ∃A c,v= .slice A n c:=by
   rcases hown.2 with⟨rfl,h0⟩|⟨g,cap,cur,rfl,_⟩
   ·exact⟨none,0,by rw[h0]⟩
   ·exact⟨_,_,rfl⟩
  clear hown d1 R0 B0 hT
  go_wp2
  go_ret
  exact⟨rfl,B1⟩
theorem aAt(h:bA.Host)(w:World)(hw:Std w)(ha:h.addr.length=16)(hs:h.name.length<=1000000):
  Calls Tryz.prog 160 #[.agg (cA h)] w fun e w'=>e= .returned (.string ⟨(if bA.can h=true then bA.text h else []).toArray⟩)/\Below w.heap.size w w':=by
 have HH:=zA7 (show(Tryz.prog.info? 32).map (·.size)=some (cA h).size by rw[XA h ha];exact mA)
 have H1:=zA7 (fun W hW=>jR h ha (by omega) W hW)
 obtain⟨s,hst⟩: ∃s:ByteArray,s=⟨(bA.text h).toArray⟩:=⟨_,rfl⟩
 have H2:=zA7 (fun W hW=>ER h ha s hst W hW)
 have R0:=Row.new w 32 (cA h)
 have B0:=(Below.refl w.heap.size w).alloc (zB3 _) (.cells (cA h) 32)
 cases hc:bA.can h with
 |true=>
  rw[hc]at H1
  rw[if_pos rfl,<-hst]
  generalize cA h=X at*
  clear hc hst
  go_enter Tryz.func160,Tryz.ntmps160
  go_wp2_with (refine jA 3 rfl ?_;refine pA rfl 32 _ rfl w.heap.size rfl R0 Tryz.underlying32 rfl HH.out ?_)
  generalize w.alloc (.cells X 32)=w0 at*
  refine(H1.out _ (hw.below B0)).mono ?_
  rintro e v1 ⟨rfl,d1⟩
  have B1:=B0.trans (d1.mono B0.size)
  have R1:=R0.stays d1
  clear d1 R0 B0
  go_wp2_with (refine jA 6 rfl ?_;refine pA rfl 32 _ rfl w.heap.size rfl R1 Tryz.underlying32 rfl HH.out ?_)
  refine(H2.out _ (hw.below B1)).mono ?_
  rintro e v2 ⟨rfl,d2⟩
  have B2:=B1.trans (d2.mono B1.size)
  go_wp2
  go_ret
  exact⟨rfl,B2⟩
 |false=>
  rw[hc]at H1
  rw[if_neg (by decide)]
  generalize cA h=X at*
  clear hc hst
  go_enter Tryz.func160,Tryz.ntmps160
  go_wp2_with (refine jA 3 rfl ?_;refine pA rfl 32 _ rfl w.heap.size rfl R0 Tryz.underlying32 rfl HH.out ?_)
  generalize w.alloc (.cells X 32)=w0 at*
  refine(H1.out _ (hw.below B0)).mono ?_
  rintro e v1 ⟨rfl,d1⟩
  have B1:=B0.trans (d1.mono B0.size)
  go_wp2
  go_ret
  exact⟨rfl,B1⟩
namespace Sx
theorem WZ(n B:Nat): ∀(Ks:List Kinds)(i:Nat)(s:Nat×Nat),s.1<=B->s.2<=B->i+Ks.length+1<=B->(tally n Ks i s).1<=B/\(tally n Ks i s).2<=B
 | [],_,s,h1,h2,_=>⟨h1,h2⟩
 |K::r,i,s,h1,h2,h3=>by
  rw[zB5]at h3
  rw[tally]
  refine WZ n B r (i+1) _ ?_ ?_ (by omega)
  ·unfold next
   dsimp only
   split<;>split<;>omega
  ·unfold next
   dsimp only
   split<;>omega
theorem kAS(t:Tab)(h:bA.Host):suffix t h<=300000:=by
 unfold suffix
 split
 ·omega
 ·have h1:=WL t 0 (bA.labels h).reverse
  have h2:=aX h
  rw[List.length_reverse]at h1
  obtain⟨a,b⟩:=WZ (bA.labels h).length 300000 (along t 0 (bA.labels h).reverse) 0 (1,0) (by decide) (by decide) (by omega)
  unfold pick
  split<;>omega
theorem kAw(n:Nat)(h:bA.Host)(hk:h.kind=1):site n h=(bA.host (bA.XB h ((n:Int)+1))).name:=by
 unfold site
 rw[if_pos hk]
 cases bA.XB h ((n:Int)+1)<;>rfl
end Sx
structure BD(w:World)(X:Array Value)(w':World):Prop where
 row:Row w' w.heap.size 32 X
 below:Below w.heap.size w w'
theorem BD.on {w:World}{X:Array Value}{w' w'':World}(k:BD w X w')(hb:Below w'.heap.size w' w''):BD w X w'':=
 ⟨k.row.stays hb,k.below.trans (hb.mono k.below.size)⟩
theorem BD.drew {w:World}{X:Array Value}{w':World}(k:BD w X w'):BD w X w'.drew:=⟨k.row.drew,k.below.drew⟩
theorem BD.alloc {w:World}{X:Array Value}{w':World}(k:BD w X w')(o:Obj):BD w X (w'.alloc o):=k.on ((Below.refl w'.heap.size w').alloc (zB3 _) o)
theorem BD.setRow {w:World}{X:Array Value}{w':World}(k:BD w X w'){g:Nat}{cs:Array Value}(hg:w.heap.size+1<=g):BD w X (w'.setRow g cs):=
 ⟨k.row.aside (by omega) cs,below_setRow k.below (by omega) cs⟩
theorem kAv(t:Sx.Tab)(h:bA.Host)(n₀ tb mb:Nat)(w:World)(hw:Std w)(ha:h.addr.length=16)(hs:h.name.length<=1000000)(hT:TabAt w n₀ tb mb t):
  Calls Tryz.prog 105 #[.pointer (some ⟨tb,0,none⟩),.agg (cA h)] w fun e w'=>e= .returned (.string ⟨(Sx.site (Sx.suffix t h) h).toArray⟩)/\Below w.heap.size w w':=by
 have z0:=WD
 have HH:=zA7 (show(Tryz.prog.info? 32).map (·.size)=some (cA h).size by rw[XA h ha];exact mA)
 have R0:=Row.new w 32 (cA h)
 have B0:=(Below.refl w.heap.size w).alloc (zB3 _) (.cells (cA h) 32)
 have c0:(w.alloc (.cells (cA h) 32)).cell? ⟨w.heap.size,0,none⟩=some (.int .i64 h.kind):=by rw[R0.cell,EK]
 by_cases hk:h.kind=1
 ·have hsf:Sx.suffix t h<=300000:=Sx.kAS t h
  have H2:=zA7 (fun W hW hT=>JZ t h n₀ tb mb W hW ha hs hT)
  unfold jK at H2
  have hwr:IntKind.i64.wrap ((Sx.suffix t h:Int)+1)=(Sx.suffix t h:Int)+1:=by rw[IntKind.wrap_i64];omega
  have H3:Hid (∀W,Std W->Calls Tryz.prog 159 #[.agg (cA h),.int .i64 (IntKind.i64.wrap ((Sx.suffix t h:Int)+1))] W (CF (bA.XB h ((Sx.suffix t h:Int)+1)) W)):=zA7 (fun W hW=>by rw[hwr];exact OZ h ha (by omega) ((Sx.suffix t h:Int)+1) W hW)
  clear hwr
  unfold CF at H3
  rw[Sx.kAw _ _ hk]
  have hda:=bA.QZ h ((Sx.suffix t h:Int)+1)
  generalize Sx.suffix t h=sn at*
  generalize bA.XB h ((sn:Int)+1)=o at*
  have HD:=zA7 (show(Tryz.prog.info? 32).map (·.size)=some (cA (bA.host o)).size by rw[XA _ hda];exact mA)
  have HZD:=zA7 (show(cA bA.zero).size=(cA (bA.host o)).size by rw[XA _ hda];rfl)
  have HO:=zA7 (bB (bA.host o))
  have HN:Hid ((cA (bA.host o))[1]? =some (.string ⟨(bA.host o).name.toArray⟩)):=zA7 (FM _)
  generalize(bA.host o).name=nm at*
  generalize cA (bA.host o)=D at*
  have hb0:((1:Int) !=1)=false:=rfl
  rw[hk]at c0
  have K0:BD w (cA h) (w.alloc (.cells (cA h) 32)):=⟨R0,B0⟩
  generalize cA h=X at*
  clear hda
  go_enter Tryz.func105,Tryz.ntmps105
  go_wp2_with fail
  generalize w.alloc (.cells X 32)=w0 at*
  refine wp_region_held_drew (S:=BD w X) (by kernel_rfl) K0.drew (fun hS=>?_)
  generalize w0.drew=u0 at*
  clear K0 c0 R0 B0
  refine bG (i:=0) rfl (GB (by rfl) _ _ rfl _ rfl (fun _ hS'=>hS'.row) Tryz.underlying32 rfl HH.out) ?_
  refine lA (i:=1) rfl ?_
  refine bG (i:=2) rfl (GB (by rfl) _ _ rfl _ rfl (fun _ hS'=>hS'.row) Tryz.underlying32 rfl HH.out) ?_
  refine wpAnyH_ready (rs:= [3,9]) (by kernel_rfl) (by simp) ((AllReadyH.cons rfl (fun K hK=>?_) (AllReadyH.cons rfl (fun K hK=>?_) AllReadyH.nil)))
  ·rw[if_pos (by rfl)]
   go_simp
   refine(H2.out _ (hw.below hS.below) (hT.stays hS.below)).mono ?_
   rintro e x1 ⟨rfl,d1⟩
   have S1:=hS.on d1
   go_wp2_with fail
   refine hK.out _ _ S1 (fun _=>?_)
   clear hK K
   refine lA (i:=4) rfl ?_
   refine wpAnyH_ready (rs:= [5,9]) (by kernel_rfl) (by simp) ((AllReadyH.cons rfl (fun K hK=>?_) (AllReadyH.cons rfl (fun K hK=>?_) AllReadyH.nil)))
   ·rw[if_pos (by rfl)]
    go_simp
    refine(H3.out _ (hw.below S1.below)).mono ?_
    rintro e x2 ⟨rfl,d2⟩
    have S2:=S1.on d2
    go_wp2_with fail
    refine hK.out _ _ S2 (fun _=>?_)
    clear hK K
    refine lA (i:=6) rfl ?_
    refine lA (i:=7) rfl ?_
    refine lA (i:=8) rfl ?_
    refine wpAnyH_ready (rs:= [9]) (by kernel_rfl) (by simp) ((AllReadyH.cons rfl (fun K hK=>?_) AllReadyH.nil))
    rw[if_pos (by rfl)]
    go_simp
    have G3:=Row.new x2 32 (cA bA.zero)
    have S3:=S2.alloc (.cells (cA bA.zero) 32)
    have L3:=S2.row.lt
    refine hK.out _ _ S3 (fun _=>?_)
    clear hK K
    obtain⟨g3,hg3⟩: ∃g,g=x2.heap.size:=⟨_,rfl⟩
    rw[<-hg3]at G3 L3⊢
    clear hg3
    generalize x2.alloc (.cells (cA bA.zero) 32)=x3 at*
    refine wpAnyH_ready (rs:= [10]) (by kernel_rfl) (by simp) ((AllReadyH.cons rfl (fun K hK=>?_) AllReadyH.nil))
    rw[if_pos (by rfl)]
    refine wp_store_row 32 _ _ rfl g3 D rfl rfl 32 _ G3 HD.out HZD.out HO.out ?_
    have U4:=(G3.whole D).cell 1
    rw[HN.out]at U4
    have S4:=S3.setRow (cs:=D) L3
    refine hK.out _ _ S4 (fun _=>?_)
    clear hK K
    simp only[Act.put]
    refine lA (i:=11) rfl ?_
    refine wpAnyH_done (by kernel_rfl) ?_ _
    go_wp2
    go_ret
    exact⟨rfl,S4.below⟩
   ·rw[if_pos (by rfl)]
    go_simp
    have G5:=Row.new x1 32 (cA bA.zero)
    have S5:=S1.alloc (.cells (cA bA.zero) 32)
    have L5:=S1.row.lt
    refine hK.out _ _ S5 (fun _=>?_)
    clear hK K
    obtain⟨g5,hg5⟩: ∃g,g=x1.heap.size:=⟨_,rfl⟩
    rw[<-hg5]at G5 L5⊢
    clear hg5
    generalize x1.alloc (.cells (cA bA.zero) 32)=x5 at*
    refine wpAnyH_ready (rs:= [5]) (by kernel_rfl) (by simp) ((AllReadyH.cons rfl (fun K hK=>?_) AllReadyH.nil))
    rw[if_pos (by rfl)]
    go_simp
    refine(H3.out _ (hw.below S5.below)).mono ?_
    rintro e x6 ⟨rfl,d6⟩
    have S6:=S5.on d6
    have G6:=G5.stays d6
    go_wp2_with fail
    refine hK.out _ _ S6 (fun _=>?_)
    clear hK K
    refine lA (i:=6) rfl ?_
    refine lA (i:=7) rfl ?_
    refine lA (i:=8) rfl ?_
    refine wpAnyH_ready (rs:= [10]) (by kernel_rfl) (by simp) ((AllReadyH.cons rfl (fun K hK=>?_) AllReadyH.nil))
    rw[if_pos (by rfl)]
    refine wp_store_row 32 _ _ rfl g5 D rfl rfl 32 _ G6 HD.out HZD.out HO.out ?_
    have U7:=(G6.whole D).cell 1
    rw[HN.out]at U7
    have S7:=S6.setRow (cs:=D) L5
    refine hK.out _ _ S7 (fun _=>?_)
    clear hK K
    simp only[Act.put]
    refine lA (i:=11) rfl ?_
    refine wpAnyH_done (by kernel_rfl) ?_ _
    go_wp2
    go_ret
    exact⟨rfl,S7.below⟩
  ·rw[if_pos (by rfl)]
   go_simp
   have G8:=Row.new u0 32 (cA bA.zero)
   have S8:=hS.alloc (.cells (cA bA.zero) 32)
   have L8:=hS.row.lt
   refine hK.out _ _ S8 (fun _=>?_)
   clear hK K
   obtain⟨g8,iW⟩: ∃g,g=u0.heap.size:=⟨_,rfl⟩
   rw[<-iW]at G8 L8⊢
   clear iW
   generalize u0.alloc (.cells (cA bA.zero) 32)=x8 at*
   refine wpAnyH_ready (rs:= [3]) (by kernel_rfl) (by simp) ((AllReadyH.cons rfl (fun K hK=>?_) AllReadyH.nil))
   rw[if_pos (by rfl)]
   go_simp
   refine(H2.out _ (hw.below S8.below) (hT.stays S8.below)).mono ?_
   rintro e x9 ⟨rfl,d9⟩
   have S9:=S8.on d9
   have G9:=G8.stays d9
   go_wp2_with fail
   refine hK.out _ _ S9 (fun _=>?_)
   clear hK K
   refine lA (i:=4) rfl ?_
   refine wpAnyH_ready (rs:= [5]) (by kernel_rfl) (by simp) ((AllReadyH.cons rfl (fun K hK=>?_) AllReadyH.nil))
   rw[if_pos (by rfl)]
   go_simp
   refine(H3.out _ (hw.below S9.below)).mono ?_
   rintro e x10 ⟨rfl,zU⟩
   have uT:=S9.on zU
   have mS:=G9.stays zU
   go_wp2_with fail
   refine hK.out _ _ uT (fun _=>?_)
   clear hK K
   refine lA (i:=6) rfl ?_
   refine lA (i:=7) rfl ?_
   refine lA (i:=8) rfl ?_
   refine wpAnyH_ready (rs:= [10]) (by kernel_rfl) (by simp) ((AllReadyH.cons rfl (fun K hK=>?_) AllReadyH.nil))
   rw[if_pos (by rfl)]
   refine wp_store_row 32 _ _ rfl g8 D rfl rfl 32 _ mS HD.out HZD.out HO.out ?_
   have U11:=(mS.whole D).cell 1
   rw[HN.out]at U11
   have vT:=uT.setRow (cs:=D) L8
   refine hK.out _ _ vT (fun _=>?_)
   clear hK K
   simp only[Act.put]
   refine lA (i:=11) rfl ?_
   refine wpAnyH_done (by kernel_rfl) ?_ _
   go_wp2
   go_ret
   exact⟨rfl,vT.below⟩
 ·have H1:=zA7 (fun W hW=>aAt h W hW ha hs)
  have hsi:Sx.site (Sx.suffix t h) h=if bA.can h=true then bA.text h else []:=by unfold Sx.site;rw[if_neg hk]
  rw[hsi]
  generalize(if bA.can h=true then bA.text h else [])=s at*
  have hk1:(h.kind !=1)=true:=by simpa using hk
  generalize h.kind=kd at*
  generalize cA h=X at*
  clear hsi hk
  go_enter Tryz.func105,Tryz.ntmps105
  go_wp2_with (refine jA 10 rfl ?_;refine pA rfl 32 _ rfl w.heap.size rfl R0 Tryz.underlying32 rfl HH.out ?_)
  refine(H1.out _ (hw.below B0)).mono ?_
  rintro e v1 ⟨rfl,d1⟩
  have B1:=B0.trans (d1.mono B0.size)
  go_wp2
  go_ret
  exact⟨rfl,B1⟩
end Go.Proofs.YtdaaoopkkhfbhaaGreatDoor
