/- The walk of the closure of write: one more piece is put behind the pieces. -/
import Derived.Test.YtdaaoopkkhfbhaaGreatDoorY11
import Derived.Deep.LoopGhost
set_option maxHeartbeats 8000000
set_option maxRecDepth 100000
namespace Go.Proofs.YtdaaoopkkhfbhaaGreatDoor
open Go.RowKit
def PD(gp:Nat)(ps:List (List UInt8))(w:World):Prop:= ∃sl,Row w gp 93 #[sl]/\w.ownsRow (gp+1) 9 1 sl ps.length (ps.map gA)
theorem PD.stays {gp:Nat}{ps:List (List UInt8)}{w w':World}(h:PD gp ps w)(hb:Below w.heap.size w w'):PD gp ps w':=by
 obtain⟨sl,R,O⟩:=h
 exact⟨sl,R.stays hb,RK O hb⟩
def OL(gp:Nat)(ps:List (List UInt8))(w:World)(e:Ending)(w':World):Prop:=e= .returned (.tuple #[])/\PD gp ps w'/\Below gp w w'
theorem ZQ {gp g cap:Nat}{ps:List (List UInt8)}{x:List UInt8}{X:ByteArray}{sl:Value}{w w6:World}(hXv: [Value.string X]= [x].map gA)(_hgp:gp<w.heap.size)(R6:Row w6 gp 93 #[sl])
  (O6:w6.ownsRow (gp+1) 9 1 (.slice (some ⟨g,0,none⟩) (ps.length+1) cap) (ps.length+1) (ps.map gA++ [Value.string X]))(B6:Below gp w w6):
  OL gp (ps++ [x]) w (.returned (.tuple #[])) (w6.setCell ⟨gp,0,none⟩ (.slice (some ⟨g,0,none⟩) (ps.length+1) cap)):=by
 have hg:gp+1<=g:=(O6.lt g rfl).1
 refine⟨rfl,⟨_,R6.set 0 _,?_⟩,B6.setCell (p:=⟨gp,0,none⟩) (zB3 _) _⟩
 have O7:=lJ O6 (p:=⟨gp,0,none⟩) (by show some g≠some gp;intro e;have:=zB2 e;omega) (.slice (some ⟨g,0,none⟩) (ps.length+1) cap)
 rw[hXv,<-List.map_append]at O7
 rw[zB4]
 exact O7
theorem KY(b:Bool)(xs ps:List (List UInt8))(bp gp:Nat)(w:World)(hP:PD gp ps w)(hx:Row w bp 9 (FA xs))(hn:xs.length<=1000)(hj:(Lib.join xs [61]).length<=1048576)(hps:ps.length<=1000):
  Calls Tryz.prog 260 #[.bool b,.slice (some ⟨bp,0,none⟩) xs.length xs.length,.pointer (some ⟨gp,0,none⟩)] w (OL gp (if b=true then ps++ [Lib.join xs [61]]else ps) w):=by
 cases b with
 |false=>
  rw[if_neg (by simp)]
  go_enter Tryz.func260,Tryz.ntmps260
  go_wp2
  go_end0
  exact⟨rfl,hP,Below.refl _ _⟩
 |true=>
  rw[if_pos rfl]
  obtain⟨sl,R,O⟩:=hP
  have hlt:=R.lt
  obtain⟨i0,hi,hz0,hz1,hz2⟩:=info_parts EW
  have HJ:Hid (∀W,Below w.heap.size w W->Calls Tryz.prog 40 #[.slice (some ⟨bp,0,none⟩) xs.length xs.length,.string ⟨#[61]⟩] W fun e w'=>e= .returned (.string ⟨(Lib.join xs [61]).toArray⟩)/\Below W.heap.size W w'):=zA7 (fun W hb=>by
   have R2:=hx.stays hb
   have e1:((xs.map fun p=>(⟨p.toArray⟩:ByteArray)).map (·.data.toList))=xs:=by rw[List.map_map];exact List.map_id xs
   have e2:(⟨#[61]⟩:ByteArray).data.toList= [61]:=rfl
   have h:=Tryz.strings_Join bp 0 xs.length (xs.map fun p=>⟨p.toArray⟩) ⟨#[61]⟩ W (fun j x dD=>by
    rw[Nat.zero_add,R2.cell,ZK]
    rw[List.getElem?_map]at dD
    cases hp:xs[j]? with
    |none=>rw[hp]at dD;cases dD
    |some p=>rw[hp]at dD;rw[<-zB2 dD];rfl) R2.lt (by rw[List.length_map];omega) (by rw[List.length_map];exact zB3 _) (by rw[e1,e2];omega)
   rw[List.length_map,e1,e2]at h
   exact h)
  clear hx
  generalize Lib.join xs [61]=x at*
  have LJ:Hid (Calls Tryz.prog 40 #[.slice (some ⟨bp,0,none⟩) xs.length xs.length,.string ⟨#[61]⟩] w.drew fun e w'=>e= .returned (.string ⟨x.toArray⟩)/\Below w.heap.size w w'):=zA7 ((HJ.out w.drew (Below.refl _ _).drew).mono fun e w' ⟨h1,h2⟩=>⟨h1,(Below.refl _ w).drew.trans h2⟩)
  clear HJ
  have q0:w.cell? ⟨gp,0,none⟩=some sl:=R.cell 0
  obtain⟨X,hX⟩: ∃X:ByteArray,(⟨x.toArray⟩:ByteArray)=X:=⟨_,rfl⟩
  have NO:Hid ([Value.string X]= [x].map gA):=zA7 (by rw[<-hX];rfl)
  rw[hX]at LJ
  clear hX
  go_enter Tryz.func260,Tryz.ntmps260
  go_wp2_with fail
  have eQ:gp<w.heap.size:=hlt
  refine wp_region_held_drew (S:=fun _=>True) (by kernel_rfl) trivial (fun _=>?_)
  refine lA (i:=1) rfl ?_
  refine wpAnyH_ready (rs:= [0,2]) (by kernel_rfl) (by simp) (AllReadyH.cons rfl (fun K hK=>?_) (AllReadyH.cons rfl (fun K hK=>?_) AllReadyH.nil))
  ·rw[if_pos (by rfl)]
   go_simp
   refine hK.out _ _ trivial (fun _=>?_)
   clear hK K
   refine QA (i:=2) fun K hK=>?_
   go_simp
   refine LJ.out.mono ?_
   rintro e w4 ⟨rfl,EF⟩
   have R4:=R.stays EF
   have O4:=RK O EF
   have q4:w4.cell? ⟨gp,0,none⟩=some sl:=R4.cell 0
   have R5:=R4.alloc (.cells #[Value.string X] 9)
   have O5:=O4.alloc (.cells #[Value.string X] 9)
   have q5:(w4.alloc (.cells #[Value.string X] 9)).cell? ⟨gp,0,none⟩=some sl:=R5.cell 0
   have B5:=EF.alloc EF.size (.cells #[Value.string X] 9)
   go_wp2_with fail
   refine hK.out _ _ trivial (fun _=>?_)
   clear hK K
   refine QA (i:=3) fun K hK=>?_
   go_simp
   refine hK.out _ _ trivial (fun _=>?_)
   clear hK K
   refine wpAnyH_ready (rs:= [4]) (by kernel_rfl) (by simp) (AllReadyH.cons rfl (fun K hK=>?_) AllReadyH.nil)
   refine step_append_lies _ (by rfl) _ _ _ (by rfl) (gp+1) 9 i0 _ 1 16 Tryz.underlying93 hi hz0 hz1 hz2 rfl (by omega) _ _ _ (by rfl) O5 ⟨w4.heap.size,0,none⟩ 1 1 [Value.string X] (by rfl) (by rfl) (World.news_of_block (t:=9) (fr:=(0,0)) (heap_alloc_new w4 _)) (by simp[Value.oneCell']) (by omega) (by simp only[maxLen];omega) (by omega) (by have:=R5.lt;omega) (w4.heap.size+1) (by simp) ?_
   intro g cap w6 O6 hgrow hat lW
   have hne:some gp≠sl.ownBlock:=fun e=>by have:=(O5.lt gp e.symm).1;omega
   have R6:Row w6 gp 93 #[sl]:=(hgrow.block gp R5.lt hne).trans R5
   have B6:Below gp w w6:=(B5.mono (Nat.le_of_lt hlt)).grown hgrow (by have:=R5.lt;omega) (fun k hk=>by have:=(O5.lt k hk).1;omega)
   have q6:w6.cell? ⟨gp,0,none⟩=some sl:=R6.cell 0
   have f6:w6.frozen? ⟨gp,0,none⟩=false:=R6.free 0
   refine hK.out _ _ trivial (fun _=>?_)
   clear hK K
   refine QA (i:=5) fun K hK=>?_
   go_simp
   refine hK.out _ _ trivial (fun _=>?_)
   clear hK K
   refine wpAnyH_done (by kernel_rfl) ?_ _
   have hF:=ZQ NO.out eQ R6 O6 B6
   clear O6 hgrow R6 B6 O5 R5 B5 R4 O4 q4 q5 q6 f6
   go_wp2
   go_end0
   exact hF
  ·rw[if_pos (by rfl)]
   go_simp
   refine LJ.out.mono ?_
   rintro e w4 ⟨rfl,EF⟩
   have R4:=R.stays EF
   have O4:=RK O EF
   have q4:w4.cell? ⟨gp,0,none⟩=some sl:=R4.cell 0
   have R5:=R4.alloc (.cells #[Value.string X] 9)
   have O5:=O4.alloc (.cells #[Value.string X] 9)
   have q5:(w4.alloc (.cells #[Value.string X] 9)).cell? ⟨gp,0,none⟩=some sl:=R5.cell 0
   have B5:=EF.alloc EF.size (.cells #[Value.string X] 9)
   go_wp2_with fail
   refine hK.out _ _ trivial (fun _=>?_)
   clear hK K
   refine wpAnyH_ready (rs:= [0,3]) (by kernel_rfl) (by simp) (AllReadyH.cons rfl (fun K hK=>?_) (AllReadyH.cons rfl (fun K hK=>?_) AllReadyH.nil))
   ·rw[if_pos (by rfl)]
    go_simp
    refine hK.out _ _ trivial (fun _=>?_)
    clear hK K
    refine QA (i:=3) fun K hK=>?_
    go_simp
    refine hK.out _ _ trivial (fun _=>?_)
    clear hK K
    refine wpAnyH_ready (rs:= [4]) (by kernel_rfl) (by simp) (AllReadyH.cons rfl (fun K hK=>?_) AllReadyH.nil)
    refine step_append_lies _ (by rfl) _ _ _ (by rfl) (gp+1) 9 i0 _ 1 16 Tryz.underlying93 hi hz0 hz1 hz2 rfl (by omega) _ _ _ (by rfl) O5 ⟨w4.heap.size,0,none⟩ 1 1 [Value.string X] (by rfl) (by rfl) (World.news_of_block (t:=9) (fr:=(0,0)) (heap_alloc_new w4 _)) (by simp[Value.oneCell']) (by omega) (by simp only[maxLen];omega) (by omega) (by have:=R5.lt;omega) (w4.heap.size+1) (by simp) ?_
    intro g cap w6 O6 hgrow hat lW
    have hne:some gp≠sl.ownBlock:=fun e=>by have:=(O5.lt gp e.symm).1;omega
    have R6:Row w6 gp 93 #[sl]:=(hgrow.block gp R5.lt hne).trans R5
    have B6:Below gp w w6:=(B5.mono (Nat.le_of_lt hlt)).grown hgrow (by have:=R5.lt;omega) (fun k hk=>by have:=(O5.lt k hk).1;omega)
    have q6:w6.cell? ⟨gp,0,none⟩=some sl:=R6.cell 0
    have f6:w6.frozen? ⟨gp,0,none⟩=false:=R6.free 0
    refine hK.out _ _ trivial (fun _=>?_)
    clear hK K
    refine QA (i:=5) fun K hK=>?_
    go_simp
    refine hK.out _ _ trivial (fun _=>?_)
    clear hK K
    refine wpAnyH_done (by kernel_rfl) ?_ _
    have hF:=ZQ NO.out eQ R6 O6 B6
    clear O6 hgrow R6 B6 O5 R5 B5 R4 O4 q4 q5 q6 f6
    go_wp2
    go_end0
    exact hF
   ·rw[if_pos (by rfl)]
    go_simp
    refine hK.out _ _ trivial (fun _=>?_)
    clear hK K
    refine QA (i:=0) fun K hK=>?_
    go_simp
    refine hK.out _ _ trivial (fun _=>?_)
    clear hK K
    refine wpAnyH_ready (rs:= [4]) (by kernel_rfl) (by simp) (AllReadyH.cons rfl (fun K hK=>?_) AllReadyH.nil)
    refine step_append_lies _ (by rfl) _ _ _ (by rfl) (gp+1) 9 i0 _ 1 16 Tryz.underlying93 hi hz0 hz1 hz2 rfl (by omega) _ _ _ (by rfl) O5 ⟨w4.heap.size,0,none⟩ 1 1 [Value.string X] (by rfl) (by rfl) (World.news_of_block (t:=9) (fr:=(0,0)) (heap_alloc_new w4 _)) (by simp[Value.oneCell']) (by omega) (by simp only[maxLen];omega) (by omega) (by have:=R5.lt;omega) (w4.heap.size+1) (by simp) ?_
    intro g cap w6 O6 hgrow hat lW
    have hne:some gp≠sl.ownBlock:=fun e=>by have:=(O5.lt gp e.symm).1;omega
    have R6:Row w6 gp 93 #[sl]:=(hgrow.block gp R5.lt hne).trans R5
    have B6:Below gp w w6:=(B5.mono (Nat.le_of_lt hlt)).grown hgrow (by have:=R5.lt;omega) (fun k hk=>by have:=(O5.lt k hk).1;omega)
    have q6:w6.cell? ⟨gp,0,none⟩=some sl:=R6.cell 0
    have f6:w6.frozen? ⟨gp,0,none⟩=false:=R6.free 0
    refine hK.out _ _ trivial (fun _=>?_)
    clear hK K
    refine QA (i:=5) fun K hK=>?_
    go_simp
    refine hK.out _ _ trivial (fun _=>?_)
    clear hK K
    refine wpAnyH_done (by kernel_rfl) ?_ _
    have hF:=ZQ NO.out eQ R6 O6 B6
    clear O6 hgrow R6 B6 O5 R5 B5 R4 O4 q4 q5 q6 f6
    go_wp2
    go_end0
    exact hF
end Go.Proofs.YtdaaoopkkhfbhaaGreatDoor
namespace Go.Proofs.YtdaaoopkkhfbhaaGreatDoor
open Go.RowKit
theorem VH {a b:World}{P:Ending->Prop}(hC:Below a.heap.size a b){f:FuncId}{args:Array Value}(h:Calls Tryz.prog f args b fun e w'=>P e/\b=w'):
  Calls Tryz.prog f args b fun e w'=>P e/\Below a.heap.size a w':=
 h.mono fun _ _ ⟨h1,h2⟩=>⟨h1,h2▸hC⟩
theorem aAT(d:Int)(b i:Nat)(w:World)(hi:i<=8398)(hd:w.cell? ⟨b,0,none⟩=some (.int .i64 d)):
  Calls Tryz.prog 298 #[.int .i64 (i:Int),.pointer (some ⟨b,0,none⟩)] w fun e w'=>e= .returned (.bool (Dt.mF d i))/\Below w.heap.size w w':=by
 have HN:=zA7 (fun W=>eJ (1601+i+1) W (by omega) (by omega))
 have HB:Hid (Dt.mF d i=decide (d<Dt.before (1601+i+1)-134774)):=zA7 rfl
 generalize Dt.mF d i=r at*
 generalize Dt.before (1601+i+1)-134774=n at*
 have q1:IntKind.i64.wrap (1601+(i:Int))=1601+(i:Int):=by rw[IntKind.wrap_i64];omega
 have q2:IntKind.i64.wrap (1601+(i:Int)+1)=1601+(i:Int)+1:=by rw[IntKind.wrap_i64];omega
 have HD:=zA7 (fun W (hC:Below w.heap.size w W)=>(hC.cell (block_lt_of_cell hd)).trans hd)
 have C1:=zA7 (fun W (hC:Below w.heap.size w W)=>VH hC (HN.out W))
 go_enter Tryz.func298,Tryz.ntmps298
 go_wp2_with fail
 refine nF (C:=fun W=>Below w.heap.size w W) (by kernel_rfl) (by kernel_rfl) (Below.refl _ _).drew ?_
 refine kA ?_
 refine kA ?_
 refine kA ?_
 refine rC (.int .i64 n) (fun wq hC=>by unfold Oper.quietAt;go_simp;exact C1.out wq hC) ?_
 refine kA ?_ (v:= .int .i64 d) (hv:=fun wq hC=>by have hcell:=HD.out wq hC;go_simp;try with_reducible rfl)
 refine kA ?_
 refine kA ?_
 refine wpQuiet_nil ?_
 intro w' hC
 go_wp2
 go_ret
 exact⟨tA (by rw[HB.out]),hC⟩
theorem kAe(d:Int)(y b:Nat)(w:World)(hd:w.cell? ⟨b,0,none⟩=some (.int .i64 d))(h1:1601<=y)(h2:y<=9999)(h3:Dt.before y-134774<=d)(h4:d<Dt.before (y+1)-134774):
  Calls Tryz.prog 297 #[.int .i64 8398,.func (.func 298) #[] #[.pointer (some ⟨b,0,none⟩)]] w fun e w'=>e= .returned (.int .i64 ((y:Int)-1601))/\Below w.heap.size w w':=by
 have xO:Hid (∀i:Nat,1601+i<y->Dt.mF d i=false):=zA7 (fun i h=>Dt.hAo h3 h)
 have aAa:Hid (∀i:Nat,y<=1601+i->Dt.mF d i=true):=zA7 (fun i h=>Dt.hAp h4 h)
 have HC:Hid (∀(i:Nat) W,i<=8398->Below w.heap.size w W->Calls Tryz.prog 298 #[.int .i64 (i:Int),.pointer (some ⟨b,0,none⟩)] W fun e w'=>e= .returned (.bool (Dt.mF d i))/\Below w.heap.size w w'):=
  zA7 (fun i W hi hC=>(aAT d b i W hi ((hC.cell (block_lt_of_cell hd)).trans hd)).mono fun e w' ⟨a,c⟩=>⟨a,hC.trans (c.mono hC.size)⟩)
 clear h3 h4 hd
 go_enter Tryz.func297,Tryz.ntmps297
 go_wp2
 go_loopw [5,6] (fun s5 s6 wr=> ∃lo hi:Nat,s5= .int .i64 lo/\s6= .int .i64 hi/\1601+lo<=y/\y<=1601+hi/\hi<=8398/\Below w.heap.size w wr) (fun s5 s6 _=>(intOf s6).toNat- (intOf s5).toNat)
 case atStart=>exact⟨0,8398,rfl,rfl,by omega,by omega,zB3 _,Below.refl _ _⟩
 case round=>
  obtain⟨lo,hi,rfl,rfl,hlo,hhi,hm,hb⟩:=hrel
  by_cases hlt:lo<hi
  ·have hc:=HC.out ((lo+hi)/2) wr (by omega) hb
   rw[show(((lo+hi)/2:Nat):Int)=((lo:Int)+(hi:Int))/2 by omega]at hc
   by_cases hy:1601+(lo+hi)/2<y
   ·rw[xO.out _ hy]at hc
    have uC:=zA7 hc
    clear hc
    go_wp2_with (go_at_call 298;refine uC.out.mono ?_;rintro e w' ⟨rfl,b2⟩)
    go_roundw
    case rel=>exact⟨(lo+hi)/2+1,hi,by go_num,rfl,by omega,hhi,hm,b2⟩
    case measure=>simp[intOf];omega
   ·rw[aAa.out _ (by omega)]at hc
    have uC:=zA7 hc
    clear hc
    go_wp2_with (go_at_call 298;refine uC.out.mono ?_;rintro e w' ⟨rfl,b2⟩)
    go_roundw
    case rel=>exact⟨lo,(lo+hi)/2,rfl,by go_num,hlo,by omega,by omega,b2⟩
    case measure=>simp[intOf];omega
  ·have e1:hi=lo:=by omega
   subst e1
   go_wp2
   go_ret
   exact⟨BC (by omega),hb⟩
end Go.Proofs.YtdaaoopkkhfbhaaGreatDoor
namespace Go.Proofs.YtdaaoopkkhfbhaaGreatDoor
open Go.RowKit
theorem iR {fn:Func}{t u v x:Tmp}(h:fn.results= #[.tmp t,.tmp u,.tmp v,.tmp x])(tmps:Array Value)(P:Program)(w:World):
  (results fn tmps).run P w= .ok (.tuple #[tmps.getD t undef,tmps.getD u undef,tmps.getD v undef,tmps.getD x undef]) w:=by
 simp[results,h]
def bAy(o:Option (Int×Int×Int)):Int:=match o with|some t=>t.1|none=>0
def bAx(o:Option (Int×Int×Int)):Int:=match o with|some t=>t.2.1|none=>0
def bAw(o:Option (Int×Int×Int)):Int:=match o with|some t=>t.2.2|none=>0
def CJ(o:Option (Int×Int×Int))(w:World)(e:Ending)(w':World):Prop:=
 e= .returned (.tuple #[.int .i64 (bAy o),.int .i64 (bAx o),.int .i64 (bAw o),.bool o.isSome])/\Below w.heap.size w w'
theorem bAz {o:Option (Int×Int×Int)}(h:o=none){w w':World}(hb:Below w.heap.size w w'):CJ o w (.returned (.tuple #[.int .i64 0,.int .i64 0,.int .i64 0,.bool false])) w':=by subst h;exact⟨rfl,hb⟩
theorem bAA {o:Option (Int×Int×Int)}{y m d:Int}(h:o=some (y,m,d)){w w':World}(hb:Below w.heap.size w w'):CJ o w (.returned (.tuple #[.int .i64 y,.int .i64 m,.int .i64 d,.bool true])) w':=by subst h;exact⟨rfl,hb⟩
theorem bAB(n:Int)(w:World)(hw:PB w):Calls Tryz.prog 283 #[.int .i64 n] w (CJ (Dt.civil n) w):=by
 have uI:Hid (∀W,Calls Tryz.prog 282 #[.int .i64 1601] W fun e w'=>e= .returned (.int .i64 (-134774))/\W=w'):=zA7 (fun W=>eJ 1601 W (by omega) (by omega))
 have vO:Hid (∀W,Calls Tryz.prog 282 #[.int .i64 10000] W fun e w'=>e= .returned (.int .i64 2932897)/\W=w'):=zA7 (fun W=>eJ 10000 W (by omega) (by omega))
 have R0:=Row.new w 2 #[.int .i64 n]
 have B0:=(Below.refl w.heap.size w).alloc (zB3 _) (.cells #[.int .i64 n] 2)
 have ND:=zA7 (fun(h:Dt.civil n=none) w' (hb:Below w.heap.size w w')=>bAz h hb)
 have mC:=zA7 (fun y m d (h:Dt.civil n=some (y,m,d)) w' (hb:Below w.heap.size w w')=>bAA h hb)
 generalize hpost:CJ (Dt.civil n) w=post at*
 clear hpost
 by_cases k1:n< -134774
 ·have KK:=zA7 k1
  have HR:=zA7 (ND.out (Dt.aU.2 (.inl k1)))
  go_enter Tryz.func283,Tryz.ntmps283
  go_wp2_with fail
  generalize w.alloc (.cells #[.int .i64 n] 2)=w0 at*
  have D0:=R0.cell 0
  have HD:Hid (∀W,Below w0.heap.size w0 W->W.cell? ⟨w.heap.size,0,none⟩=some (.int .i64 n)):=zA7 (fun W hC=>(hC.cell (block_lt_of_cell D0)).trans D0)
  have C1:=zA7 (fun W (hC:Below w0.heap.size w0 W)=>VH hC (uI.out W))
  have t1:decide (n< -134774)=true:=zA9 KK.out
  refine nF (C:=fun W=>Below w0.heap.size w0 W) (by kernel_rfl) (by kernel_rfl) (Below.refl _ _).drew ?_
  refine kA ?_ (v:= .int .i64 n) (hv:=fun wq hC=>by have hcell:=HD.out wq hC;go_simp;try with_reducible rfl)
  refine rC (.int .i64 (-134774)) (fun wq hC=>by unfold Oper.quietAt;go_simp;exact C1.out wq hC) ?_
  refine kA ?_
  refine kA ?_
  refine WB (Or.inr ⟨by rfl,rfl⟩) ?_
  refine WB (Or.inr ⟨by rfl,rfl⟩) ?_
  refine WB (Or.inr ⟨by rfl,rfl⟩) ?_
  refine kA ?_
  refine wpQuiet_nil ?_
  intro w1 hC
  go_wp2
  refine bodyPost_ret (iR rfl _ _ _) rfl ?_
  exact HR.out _ (B0.trans (hC.mono B0.size))
 ·by_cases k2:(2932897:Int)<=n
  ·have KK:=zA7 k2
   have HR:=zA7 (ND.out (Dt.aU.2 (.inr (by omega))))
   go_enter Tryz.func283,Tryz.ntmps283
   go_wp2_with fail
   generalize w.alloc (.cells #[.int .i64 n] 2)=w0 at*
   have D0:=R0.cell 0
   have HD:Hid (∀W,Below w0.heap.size w0 W->W.cell? ⟨w.heap.size,0,none⟩=some (.int .i64 n)):=zA7 (fun W hC=>(hC.cell (block_lt_of_cell D0)).trans D0)
   have C1:=zA7 (fun W (hC:Below w0.heap.size w0 W)=>VH hC (uI.out W))
   have C2:=zA7 (fun W (hC:Below w0.heap.size w0 W)=>VH hC (vO.out W))
   have t1:decide (n< -134774)=false:=zA8 (by have:=KK.out;omega)
   have t2:decide (2932897<=n)=true:=zA9 KK.out
   refine nF (C:=fun W=>Below w0.heap.size w0 W) (by kernel_rfl) (by kernel_rfl) (Below.refl _ _).drew ?_
   refine kA ?_ (v:= .int .i64 n) (hv:=fun wq hC=>by have hcell:=HD.out wq hC;go_simp;try with_reducible rfl)
   refine rC (.int .i64 (-134774)) (fun wq hC=>by unfold Oper.quietAt;go_simp;exact C1.out wq hC) ?_
   refine kA ?_
   refine kA ?_
   refine kA ?_ (v:= .int .i64 n) (hv:=fun wq hC=>by have hcell:=HD.out wq hC;go_simp;try with_reducible rfl)
   refine rC (.int .i64 2932897) (fun wq hC=>by unfold Oper.quietAt;go_simp;exact C2.out wq hC) ?_
   refine kA ?_
   refine kA ?_
   refine wpQuiet_nil ?_
   intro w1 hC
   go_wp2
   refine bodyPost_ret (iR rfl _ _ _) rfl ?_
   exact HR.out _ (B0.trans (hC.mono B0.size))
  ·have KK:=zA7 (And.intro k1 k2)
   obtain⟨y,y1,y2,y3,y4⟩:=Dt.mAI (d:=n) (by omega) (by omega)
   have HS:=zA7 (fun b W hd=>kAe n y b W hd y1 y2 y3 y4)
   have zL:=zA7 (fun W=>eJ y W (by omega) (by omega))
   have HM:=zA7 (fun(j:Nat) W hW=>EX y j W hW (by omega))
   have hN:n- (Dt.before y-134774)<Dt.zD y:=by have:=Dt.nK y;omega
   have hyb:=Dt.bO y
   have HN:=zA7 hN
   have HST:=zA7 (Dt.pE.start (y:=y) (n:=n- (Dt.before y-134774)) (by omega))
   have O9:=zA7 (fun m r (h:Dt.pE y (n- (Dt.before y-134774)) m r) hr=>mC.out _ _ _ (h.stop (d:=n) (by omega) (by omega) (by omega) hr))
   have hN0:0<=n- (Dt.before y-134774):=by omega
   have HE:Hid (Dt.before y-134774+(n- (Dt.before y-134774))=n):=zA7 (by omega)
   have hYb: -134774<=Dt.before y-134774/\Dt.before y-134774<=3000000:=by
    have a:=Dt.mK (y:=1601) (z:=y) (by omega)
    rw[Dt.dP]at a
    omega
   clear y3 y4
   generalize hY:Dt.before y-134774=Y at*
   generalize wM:n-Y=N at*
   have X8:=zA7 (fun(j:Int)=>Dt.ZD (Dt.leap y) j)
   clear hY
   go_enter Tryz.func283,Tryz.ntmps283
   go_wp2_with fail
   generalize w.alloc (.cells #[.int .i64 n] 2)=w0 at*
   have D0:=R0.cell 0
   have HD:Hid (∀W,Below w0.heap.size w0 W->W.cell? ⟨w.heap.size,0,none⟩=some (.int .i64 n)):=zA7 (fun W hC=>(hC.cell (block_lt_of_cell D0)).trans D0)
   have C1:=zA7 (fun W (hC:Below w0.heap.size w0 W)=>VH hC (uI.out W))
   have C2:=zA7 (fun W (hC:Below w0.heap.size w0 W)=>VH hC (vO.out W))
   have t1:decide (n< -134774)=false:=zA8 (by have:=KK.out;omega)
   have t2:decide (2932897<=n)=false:=zA8 (by have:=KK.out;omega)
   refine nF (C:=fun W=>Below w0.heap.size w0 W) (by kernel_rfl) (by kernel_rfl) (Below.refl _ _).drew ?_
   refine kA ?_ (v:= .int .i64 n) (hv:=fun wq hC=>by have hcell:=HD.out wq hC;go_simp;try with_reducible rfl)
   refine rC (.int .i64 (-134774)) (fun wq hC=>by unfold Oper.quietAt;go_simp;exact C1.out wq hC) ?_
   refine kA ?_
   refine kA ?_
   refine kA ?_ (v:= .int .i64 n) (hv:=fun wq hC=>by have hcell:=HD.out wq hC;go_simp;try with_reducible rfl)
   refine rC (.int .i64 2932897) (fun wq hC=>by unfold Oper.quietAt;go_simp;exact C2.out wq hC) ?_
   refine kA ?_
   refine kA ?_
   refine wpQuiet_nil ?_
   intro w1 hC
   have D1:=HD.out w1 hC
   have B1:=B0.trans (hC.mono B0.size)
   clear D0 HD C1 C2 uI vO B0 R0 hC
   go_wp2_with (go_at_call 297;refine(HS.out _ _ D1).mono ?_;rintro e w2 ⟨rfl,b2⟩)
   have D2:=(b2.cell (block_lt_of_cell D1)).trans D1
   have B2:=B1.trans (b2.mono B1.size)
   have ey:IntKind.i64.wrap (1601+((y:Int)-1601))=(y:Int):=by rw[IntKind.wrap_i64];omega
   have ey2:1601+((y:Int)-1601)=(y:Int):=by omega
   have HD:Hid (∀W,Below w2.heap.size w2 W->W.cell? ⟨w.heap.size,0,none⟩=some (.int .i64 n)):=zA7 (fun W hC=>(hC.cell (block_lt_of_cell D2)).trans D2)
   have C1:=zA7 (fun W (hC:Below w2.heap.size w2 W)=>VH hC (zL.out W))
   have e3:IntKind.i64.wrap (n-Y)=N:=by rw[IntKind.wrap_i64,wM];omega
   clear D1 B1 b2
   refine nF (C:=fun W=>Below w2.heap.size w2 W) (by kernel_rfl) (by kernel_rfl) (Below.refl _ _).drew ?_
   refine kA ?_ (v:= .int .i64 n) (hv:=fun wq hC=>by have hcell:=HD.out wq hC;go_simp;try with_reducible rfl)
   refine kA ?_
   refine rC (.int .i64 Y) (fun wq hC=>by unfold Oper.quietAt;go_simp;exact C1.out wq hC) ?_
   refine kA ?_
   refine kA ?_
   refine kA ?_
   refine wpQuiet_nil ?_
   intro w3 hC
   have B3:=B2.trans (hC.mono B2.size)
   have HW3:=hw.below B3
   clear D2 HD C1 zL HS hC B2 t1 t2 k1 k2 ND mC hw e3
   have e4:IntKind.i64.wrap N=N:=by rw[IntKind.wrap_i64];omega
   go_wp2
   simp only[e4,ey2]
   go_loop [7,8] (fun a r=> ∃(m:Nat)(k:Int),a= .int .i64 m/\r= .int .i64 k/\Dt.pE y N m k) (fun a _=>13- (intOf a).toNat)
   case atStart=>exact⟨1,N,rfl,rfl,HST.out⟩
   case round=>
    obtain⟨m,k,rfl,rfl,hI⟩:=hrel
    obtain⟨i1,i2,i3,i4⟩:=hI
    have HI:=zA7 (Dt.pE.mk (y:=y) (n:=N) i1 i2 i3 i4)
    have hmb:=Dt.CX y i1 i2
    have hlb:=X8.out m
    have qG:=zA7 (fun W hW=>HM.out m W hW (by omega) (by omega))
    have hk:k<=400:=by omega
    by_cases hlt:Dt.len (Dt.leap y) m<=k
    ·have ES:=zA7 (HI.out.more HN.out hlt)
     clear i4 hmb
     generalize Dt.len (Dt.leap y) m=z at*
     go_wp2_with (go_at_call 281;with_reducible refine(qG.out _ HW3).mono ?_;rintro e w' ⟨rfl,rfl⟩)
     have h12:=ES.out.high
     go_round
     case rel=>exact⟨m+1,k-z,by go_num,rfl,ES.out⟩
     case measure=>simp[intOf];omega
    ·have HS:=zA7 (O9.out m k HI.out (by omega))
     clear i4 hmb
     generalize Dt.len (Dt.leap y) m=z at*
     go_wp2_with (go_at_call 281;with_reducible refine(qG.out _ HW3).mono ?_;rintro e w' ⟨rfl,rfl⟩)
     refine bodyPost_ret (iR rfl _ _ _) rfl ?_
     exact HS.out _ B3
end Go.Proofs.YtdaaoopkkhfbhaaGreatDoor
namespace Go.Proofs.YtdaaoopkkhfbhaaGreatDoor
open Go.RowKit
theorem V2(W:World)(a b:UInt8):
  (convert 61 9 (.slice (some ⟨W.heap.size,0,none⟩) 2 2)).run Tryz.prog (W.alloc (.cells #[.int .u8 (a.toNat:Int),.int .u8 (b.toNat:Int)] 5))= .ok (.string ⟨#[a,b]⟩) (W.alloc (.cells #[.int .u8 (a.toNat:Int),.int .u8 (b.toNat:Int)] 5)):=by
 refine run_convert_bytes_back (W.alloc (.cells #[.int .u8 (a.toNat:Int),.int .u8 (b.toNat:Int)] 5)) 61 9 5 ⟨W.heap.size,0,none⟩ 2 [a,b] Tryz.underlying61 Tryz.underlying5 Tryz.underlying9 (fun j hj=>?_)
 have hR:=Row.new W 5 #[.int .u8 (a.toNat:Int),.int .u8 (b.toNat:Int)]
 rw[Addr.add_mid,hR.cell]
 have:j=0\/j=1:=by simp at hj;omega
 rcases this with rfl|rfl<;>rfl
namespace Dt
theorem CU(k:Nat)(h:k<10)(h2:k<(⟨#[48,49,50,51,52,53,54,55,56,57]⟩:ByteArray).size):(⟨#[48,49,50,51,52,53,54,55,56,57]⟩:ByteArray)[k]=UInt8.ofNat (48+k):=by
 have:k=0\/k=1\/k=2\/k=3\/k=4\/k=5\/k=6\/k=7\/k=8\/k=9:=by omega
 rcases this with rfl|rfl|rfl|rfl|rfl|rfl|rfl|rfl|rfl|rfl<;>rfl
end Dt
def oH(l:List UInt8)(w:World)(e:Ending)(w':World):Prop:=e= .returned (.string ⟨l.toArray⟩)/\Below w.heap.size w w'
theorem nAI(n:Nat)(hn:n<100)(w:World):Calls Tryz.prog 273 #[.int .i64 (n:Int)] w (oH (Dt.two n) w):=by
 have HT:Hid (Dt.two n= [UInt8.ofNat (48+n/10%10),UInt8.ofNat (48+n%10)]):=zA7 rfl
 have hcv:=V2 w (UInt8.ofNat (48+n/10%10)) (UInt8.ofNat (48+n%10))
 have e1:((UInt8.ofNat (48+n/10%10)).toNat:Int)=48+(n:Int)/10%10:=by rw[UInt8.toNat_ofNat'];omega
 have e2:((UInt8.ofNat (48+n%10)).toNat:Int)=48+(n:Int)%10:=by rw[UInt8.toNat_ofNat'];omega
 rw[e1,e2]at hcv
 generalize UInt8.ofNat (48+n/10%10)=a at*
 generalize UInt8.ofNat (48+n%10)=b at*
 clear e1 e2
 have q1:(n:Int).tdiv 10=(n:Int)/10:=Int.tdiv_eq_ediv_of_nonneg (by omega)
 have q2:(n:Int).tmod 10=(n:Int)%10:=Int.tmod_eq_emod_of_nonneg (by omega)
 have q3:((n:Int)/10).tmod 10=(n:Int)/10%10:=Int.tmod_eq_emod_of_nonneg (by omega)
 generalize Dt.two n=l at*
 go_enter Tryz.func273,Tryz.ntmps273
 go_wp2
 go_ret
 exact⟨iD (by rw[HT.out]),(Below.refl w.heap.size w).alloc (zB3 _) _⟩
theorem TN(n:Nat)(hn:n<100)(w:World):Calls Tryz.prog 284 #[.int .i64 (n:Int)] w (oH (Dt.two n) w):=by
 have HT:Hid (Dt.two n= [UInt8.ofNat (48+n/10),UInt8.ofNat (48+n%10)]):=zA7 (by unfold Dt.two;rw[show n/10%10=n/10 by omega])
 have q1:IntKind.i64.wrap ((n:Int).tdiv 10)=((n/10:Nat):Int):=by rw[Int.tdiv_eq_ediv_of_nonneg (by omega),IntKind.wrap_i64];omega
 have q2:(n:Int).tmod 10=((n%10:Nat):Int):=by rw[Int.tmod_eq_emod_of_nonneg (by omega)];omega
 have q3:IntKind.i64.wrap ((n:Int)/10)=((n/10:Nat):Int):=by rw[IntKind.wrap_i64];omega
 have q4:(n:Int)%10=((n%10:Nat):Int):=by omega
 have m1:n/10<10:=by omega
 have m2:n%10<10:=by omega
 have D1:=Dt.CU (n/10) m1 m1
 have D2:=Dt.CU (n%10) m2 m2
 have hcv:(convert 61 9 (.slice (some ⟨w.heap.size,0,none⟩) 2 2)).run Tryz.prog (w.alloc (.cells #[.int .u8 ((UInt8.ofNat (48+n/10)).toNat:Int),.int .u8 ((UInt8.ofNat (48+n%10)).toNat:Int)] 5)).drew= .ok (.string ⟨#[UInt8.ofNat (48+n/10),UInt8.ofNat (48+n%10)]⟩) (w.alloc (.cells #[.int .u8 ((UInt8.ofNat (48+n/10)).toNat:Int),.int .u8 ((UInt8.ofNat (48+n%10)).toNat:Int)] 5)).drew:=V2 w.drew (UInt8.ofNat (48+n/10)) (UInt8.ofNat (48+n%10))
 generalize Dt.two n=l at*
 generalize n/10=x at*
 generalize n%10=y at*
 generalize UInt8.ofNat (48+x)=a at*
 generalize UInt8.ofNat (48+y)=b at*
 have s1:(x:Int)<10:=by omega
 have s2:(y:Int)<10:=by omega
 go_enter Tryz.func284,Tryz.ntmps284
 go_wp2_with fail
 refine wp_region_held_drew (S:=Below w.heap.size w) (by kernel_rfl) ((Below.refl w.heap.size w).drew) (fun _=>?_)
 refine lA (i:=0) rfl ?_
 refine lA (i:=1) rfl ?_
 refine lA (i:=2) rfl ?_
 refine lA (i:=3) rfl ?_
 refine lA (i:=4) rfl ?_
 refine lA (i:=5) rfl ?_
 refine QA (i:=6) fun K hK=>?_
 go_simp
 have S5:Below w.heap.size w ((w.drew).alloc (.cells #[.int .u8 (a.toNat:Int),.int .u8 (b.toNat:Int)] 5)):=((Below.refl w.heap.size w).drew).alloc (zB3 _) _
 refine hK.out _ _ S5 (fun _=>?_)
 clear hK K
 refine QA (i:=7) fun K hK=>?_
 go_simp
 refine hK.out _ _ S5 (fun _=>?_)
 clear hK K
 refine lA (i:=8) rfl ?_
 refine wpAnyH_done (by kernel_rfl) ?_ _
 go_wp2
 go_ret
 exact⟨iD (by rw[HT.out]),by assumption⟩
theorem bAC {A B C:ByteArray}{n:Nat}(hA:A=⟨(Dt.two (n/3600)).toArray⟩)(hB:B=⟨(Dt.two (n/60%60)).toArray⟩)(hC:C=⟨(Dt.two (n%60)).toArray⟩):
  A++⟨#[58]⟩++B++⟨#[58]⟩++C=⟨(Dt.clock n).toArray⟩:=by
 subst hA hB hC
 rfl
theorem QR {A:ByteArray}{n:Nat}(h:A=⟨(Dt.two n).toArray⟩):A.size=2:=by subst h;rfl
theorem lAo(n:Nat)(hn:n<86400)(w:World):Calls Tryz.prog 285 #[.int .i64 (n:Int)] w (oH (Dt.clock n) w):=by
 have HA:=zA7 (fun W=>TN (n/3600) (by omega) W)
 have HB:=zA7 (fun W=>TN (n/60%60) (by omega) W)
 have HC:=zA7 (fun W=>TN (n%60) (by omega) W)
 unfold oH at HA HB HC
 obtain⟨A,hA⟩: ∃A:ByteArray,A=⟨(Dt.two (n/3600)).toArray⟩:=⟨_,rfl⟩
 obtain⟨B,hB⟩: ∃A:ByteArray,A=⟨(Dt.two (n/60%60)).toArray⟩:=⟨_,rfl⟩
 obtain⟨C,hC⟩: ∃A:ByteArray,A=⟨(Dt.two (n%60)).toArray⟩:=⟨_,rfl⟩
 rw[<-hA]at HA
 rw[<-hB]at HB
 rw[<-hC]at HC
 have HT:=zA7 (bAC hA hB hC)
 have sA:=QR hA
 have sB:=QR hB
 have sC:=QR hC
 clear hA hB hC
 have q1:(n:Int).tdiv 3600=((n/3600:Nat):Int):=by rw[Int.tdiv_eq_ediv_of_nonneg (by omega)];omega
 have q2:((n:Int).tmod 3600).tdiv 60=((n/60%60:Nat):Int):=by rw[Int.tmod_eq_emod_of_nonneg (by omega),Int.tdiv_eq_ediv_of_nonneg (by omega)];omega
 have q3:(n:Int).tmod 60=((n%60:Nat):Int):=by rw[Int.tmod_eq_emod_of_nonneg (by omega)];omega
 have q4:(n:Int)/3600=((n/3600:Nat):Int):=by omega
 have q5:((n:Int)%3600)/60=((n/60%60:Nat):Int):=by omega
 have q6:(n:Int)%60=((n%60:Nat):Int):=by omega
 generalize Dt.clock n=l at*
 have r1:n/3600<24:=by omega
 have r2:n/60%60<60:=by omega
 have r3:n%60<60:=by omega
 generalize n/3600=x at*
 generalize n/60%60=y at*
 generalize n%60=z at*
 have p0: ¬9223372036854775807<A.size+1:=by omega
 have p1: ¬9223372036854775807<A.size+1+B.size:=by omega
 have p2: ¬9223372036854775807<A.size+1+B.size+1:=by omega
 have p3: ¬9223372036854775807<A.size+1+B.size+1+C.size:=by omega
 go_enter Tryz.func285,Tryz.ntmps285
 go_wp2_with fail
 refine(HA.out _).mono ?_
 rintro e w1 ⟨rfl,b1⟩
 go_wp2_with fail
 refine(HB.out _).mono ?_
 rintro e w2 ⟨rfl,b2⟩
 go_wp2_with fail
 refine(HC.out _).mono ?_
 rintro e w3 ⟨rfl,b3⟩
 go_wp2
 go_ret
 have b12:=b1.trans (b2.mono b1.size)
 exact⟨iD HT.out,b12.trans (b3.mono b12.size)⟩
end Go.Proofs.YtdaaoopkkhfbhaaGreatDoor
namespace Go.Proofs.YtdaaoopkkhfbhaaGreatDoor
open Go.RowKit
theorem UQ {a b:World}{P:Ending->Prop}(hC:Below a.heap.size a b){f:FuncId}{args:Array Value}(h:Calls Tryz.prog f args b fun e w'=>P e/\Below b.heap.size b w'):
  Calls Tryz.prog f args b fun e w'=>P e/\Below a.heap.size a w':=
 h.mono fun _ _ ⟨h1,h2⟩=>⟨h1,hC.trans (h2.mono hC.size)⟩
namespace Dt
theorem lAi {mo y m d:Int}(h:civil (mo/86400)=some (y,m,d)):text mo=aD y m d (mo/86400) (mo%86400).toNat:=by unfold text;rw[h]
theorem cA3(mo:Int): ∃T R:Int,∃N:Nat,mo.tdiv 86400=T/\mo.tmod 86400=R/\N<86400/\(mo%86400).toNat=N/\((R<0/\mo/86400=T-1/\R+86400=(N:Int))\/(¬R<0/\mo/86400=T/\R=(N:Int))):=by
 refine⟨_,_,(mo%86400).toNat,rfl,rfl,by omega,rfl,?_⟩
 obtain⟨h1,h2⟩:=vU mo
 have e:=Int.tmod_add_mul_tdiv mo 86400
 by_cases h:mo.tmod 86400<0
 ·have:=h1 h
  exact .inl ⟨h,this,by omega⟩
 ·have:=h2 (by omega)
  exact .inr ⟨h,this.1,by omega⟩
theorem lA5 {mo:Int}(h1: -9223372036854775808<=mo)(h2:mo<=9223372036854775807): -106751991167301<=mo.tdiv 86400/\mo.tdiv 86400<=106751991167301/\ -86400<=mo.tmod 86400/\mo.tmod 86400<86400:=by
 obtain⟨h3,h4⟩:=vU mo
 have e1:=Int.tmod_add_mul_tdiv mo 86400
 have e2:mo.tmod 86400<86400:=Int.tmod_lt_of_pos _ (by omega)
 by_cases h:mo.tmod 86400<0
 ·have:=h3 h;omega
 ·have:=h4 (by omega);omega
end Dt
theorem cA9 {W E M Y C:ByteArray}{y m d k:Int}{n:Nat}(hW:W=⟨(Dt.VD k).toArray⟩)(hE:E=⟨(Dt.two d.toNat).toArray⟩)(hM:M=⟨(Dt.mname m).toArray⟩)(hY:Y=⟨(Dt.two (y.toNat/100)++Dt.two (y.toNat%100)).toArray⟩)(hC:C=⟨(Dt.clock n).toArray⟩):
  W++⟨#[44,32]⟩++E++⟨#[32]⟩++M++⟨#[32]⟩++Y++⟨#[32]⟩++C++⟨#[32,71,77,84]⟩=⟨(Dt.aD y m d k n).toArray⟩:=by
 subst hW hE hM hY hC
 apply ByteArray.ext
 simp[ByteArray.data_append,Dt.aD]
theorem wC(l:List UInt8):(⟨l.toArray⟩:ByteArray).size=l.length:=by show(List.toArray _).size=_;simp
theorem AU(mo:Int)(w:World)(hw:PB w)(hlo: -9223372036854775808<=mo)(hhi:mo<=9223372036854775807):Calls Tryz.prog 261 #[.int .i64 mo] w (oH (Dt.text mo) w):=by
 have hsm:=Dt.lA5 hlo hhi
 obtain⟨T,R,N,hT,hR,hN,wM,hor⟩:=Dt.cA3 mo
 rw[hT,hR]at hsm
 obtain⟨t1,t2,t3,t4⟩:=hsm
 have zL:Hid (∀W,Calls Tryz.prog 282 #[.int .i64 1601] W fun e w'=>e= .returned (.int .i64 (-134774))/\W=w'):=zA7 (fun W=>eJ 1601 W (by omega) (by omega))
 obtain⟨D,hD⟩: ∃D,mo/86400=D:=⟨_,rfl⟩
 rw[hD]at hor
 have HC:=zA7 (fun W hW=>bAB D W hW)
 have ND:=zA7 (fun(h:Dt.civil D=none)=>show Dt.text mo= [] from Dt.I0 (by rw[hD];exact h))
 have mC:=zA7 (fun y m d (h:Dt.civil D=some (y,m,d))=>show Dt.text mo=Dt.aD y m d D N from by rw[Dt.lAi (by rw[hD];exact h),hD,wM])
 generalize Dt.text mo=res at*
 clear hD wM
 cases hc:Dt.civil D with
 |none=>
  rw[hc]at HC
  have HR:=zA7 (ND.out hc)
  unfold CJ at HC
  clear ND mC hc
  rcases hor with⟨r1,r2,r3⟩|⟨r1,r2,r3⟩
  all_goals
   subst r2
   go_enter Tryz.func261,Tryz.ntmps261
   go_wp2_with (go_at_call 283;refine(HC.out _ hw).mono ?_;rintro e w1 ⟨rfl,b1⟩)
   go_ret
   exact⟨iD (by rw[HR.out]),b1⟩
 |some t=>
  obtain⟨y,m,d⟩:=t
  rw[hc]at HC
  have HR:=zA7 (mC.out y m d hc)
  obtain⟨hI,hdd⟩:=Dt.FF.1 hc
  have hdb:=Dt.qK hI
  rw[hdd]at hdb
  have uC:Hid (∀W,PB W->Calls Tryz.prog 283 #[.int .i64 D] W fun e w'=>e= .returned (.tuple #[.int .i64 y,.int .i64 m,.int .i64 d,.bool true])/\Below W.heap.size W w'):=HC
  clear HC ND mC hc hdd
  obtain⟨y1,y2,m1,m2,d1,d2⟩:=hI
  have hlb:=Dt.ZD (Dt.leap y) m
  obtain⟨Y,rfl⟩: ∃Y:Nat,y=Y:=⟨y.toNat,by omega⟩
  obtain⟨M,rfl⟩: ∃M:Nat,m=M:=⟨m.toNat,by omega⟩
  obtain⟨E,rfl⟩: ∃E:Nat,d=E:=⟨d.toNat,by omega⟩
  obtain⟨J,hJ⟩: ∃J:Nat,(D+134774)%7=(J:Int):=⟨((D+134774)%7).toNat,by omega⟩
  have hJ2:J<7:=by omega
  have HW:=zA7 (Dt.mAm D)
  have tO:=zA7 (Dt.gAQ m1 m2)
  rw[hJ,Int.toNat_natCast]at HW
  have eM:((M:Int)-1).toNat=M-1:=by omega
  rw[eM]at tO
  obtain⟨w3,hw3⟩: ∃w3:ByteArray,w3=⟨(Dt.VD D).toArray⟩:=⟨_,rfl⟩
  obtain⟨me,hme⟩: ∃w3:ByteArray,w3=⟨(Dt.mname M).toArray⟩:=⟨_,rfl⟩
  obtain⟨e2,he2⟩: ∃w3:ByteArray,w3=⟨(Dt.two E).toArray⟩:=⟨_,rfl⟩
  obtain⟨y4,hy4⟩: ∃w3:ByteArray,w3=⟨(Dt.two (Y/100)++Dt.two (Y%100)).toArray⟩:=⟨_,rfl⟩
  obtain⟨c8,hc8⟩: ∃w3:ByteArray,w3=⟨(Dt.clock N).toArray⟩:=⟨_,rfl⟩
  have HT:=zA7 (cA9 (y:=Y) (m:=M) (d:=E) hw3 he2 hme hy4 hc8)
  have s3:w3.size=3:=by rw[hw3,wC,Dt.A6]
  have sm:me.size=3:=by rw[hme,wC,Dt.zX m1 m2]
  have s2:e2.size=2:=by rw[he2];rfl
  have s4:y4.size=4:=by rw[hy4];rfl
  have s8:c8.size=8:=by rw[hc8];rfl
  have H8:Hid (∀W,PB W->W.cell? ⟨3,J,none⟩=some (.string w3)):=zA7 (fun W h=>by rw[hw3];exact h.day HW.out)
  have A9:Hid (∀W,PB W->W.cell? ⟨2,M-1,none⟩=some (.string me)):=zA7 (fun W h=>by rw[hme];exact h.name tO.out)
  have HE:Hid (∀W,Calls Tryz.prog 284 #[.int .i64 (E:Int)] W fun e w'=>e= .returned (.string e2)/\Below W.heap.size W w'):=zA7 (fun W=>by rw[he2];exact TN E (by omega) W)
  have HY:Hid (∀W,PB W->Calls Tryz.prog 215 #[.int .i64 (Y:Int)] W fun e w'=>e= .returned (.string y4)/\Below W.heap.size W w'):=zA7 (fun W h=>by
   have:=NW Y W h.std (by omega)
   rw[Dt.cAn (by omega) (by omega),<-hy4]at this
   exact this)
  have oI:Hid (∀W,Calls Tryz.prog 285 #[.int .i64 (N:Int)] W fun e w'=>e= .returned (.string c8)/\Below W.heap.size W w'):=zA7 (fun W=>by rw[hc8];exact lAo N hN W)
  have q1:(D- -134774).tmod 7=(J:Int):=by rw[Int.tmod_eq_emod_of_nonneg (by omega)];omega
  have q2:(D+134774).tmod 7=(J:Int):=by rw[Int.tmod_eq_emod_of_nonneg (by omega)];omega
  have j1:(J:Int)<7:=by omega
  have M0:IntKind.i64.wrap ((M:Int)-1)=(M:Int)-1:=by rw[IntKind.wrap_i64];omega
  have M1:(0:Int)<=(M:Int)-1:=by omega
  have M2:(M:Int)-1<12:=by omega
  clear hw3 hme he2 hy4 hc8 HW tO
  have p0: ¬9223372036854775807<w3.size+2:=by omega
  have p1: ¬9223372036854775807<w3.size+2+e2.size:=by omega
  have p2: ¬9223372036854775807<w3.size+2+e2.size+1:=by omega
  have p3: ¬9223372036854775807<w3.size+2+e2.size+1+me.size:=by omega
  have p4: ¬9223372036854775807<w3.size+2+e2.size+1+me.size+1:=by omega
  have p5: ¬9223372036854775807<w3.size+2+e2.size+1+me.size+1+y4.size:=by omega
  have p6: ¬9223372036854775807<w3.size+2+e2.size+1+me.size+1+y4.size+1:=by omega
  have p7: ¬9223372036854775807<w3.size+2+e2.size+1+me.size+1+y4.size+1+c8.size:=by omega
  have p8: ¬9223372036854775807<w3.size+2+e2.size+1+me.size+1+y4.size+1+c8.size+4:=by omega
  rcases hor with⟨r1,r2,r3⟩|⟨r1,r2,r3⟩
  all_goals
   have z1:IntKind.i64.wrap T=T:=by rw[IntKind.wrap_i64];omega
   have z2:IntKind.i64.wrap R=R:=by rw[IntKind.wrap_i64];omega
   subst r2
   first|subst r3|skip
   go_enter Tryz.func261,Tryz.ntmps261
   go_wp2_with fail
   refine(uC.out _ hw).mono ?_
   rintro e w1 ⟨rfl,b1⟩
   have HW1:=hw.below b1
   go_wp2_with fail
   refine(zL.out _).mono ?_
   rintro e w2 ⟨rfl,rfl⟩
   have nAk:=H8.out _ HW1
   go_wp2_with fail
   have CD:=zA7 (fun W (hC:Below w1.heap.size w1 W)=>HW1.below hC)
   have C1:=zA7 (fun W (hC:Below w1.heap.size w1 W)=>UQ hC (HE.out W))
   have C2:=zA7 (fun W (hC:Below w1.heap.size w1 W)=>UQ hC (HY.out W (CD.out W hC)))
   have C3:=zA7 (fun W (hC:Below w1.heap.size w1 W)=>UQ hC (oI.out W))
   have CM:=zA7 (fun W (hC:Below w1.heap.size w1 W)=>A9.out W (CD.out W hC))
   refine nF (C:=fun W=>Below w1.heap.size w1 W) (by kernel_rfl) (by kernel_rfl) (Below.refl _ _).drew ?_
   refine kA ?_
   refine kA ?_
   refine kA ?_
   refine rC (.string e2) (fun wq hC=>by unfold Oper.quietAt;go_simp;exact C1.out wq hC) ?_
   refine kA ?_
   refine kA ?_
   refine kA ?_
   refine kA ?_
   refine kA ?_
   refine kA ?_ (v:= .string me) (hv:=fun wq hC=>by have hcell:=CM.out wq hC;go_simp;try with_reducible rfl)
   refine kA ?_
   refine kA ?_
   refine kA ?_
   refine rC (.string y4) (fun wq hC=>by unfold Oper.quietAt;go_simp;exact C2.out wq hC) ?_
   refine kA ?_
   refine kA ?_
   refine kA ?_
   refine rC (.string c8) (fun wq hC=>by unfold Oper.quietAt;go_simp;exact C3.out wq hC) ?_
   refine kA ?_
   refine kA ?_
   refine kA ?_
   refine wpQuiet_nil ?_
   intro w3' hC
   go_wp2
   go_ret
   exact⟨iD (by rw[HT.out,HR.out]),b1.trans (hC.mono b1.size)⟩
end Go.Proofs.YtdaaoopkkhfbhaaGreatDoor
