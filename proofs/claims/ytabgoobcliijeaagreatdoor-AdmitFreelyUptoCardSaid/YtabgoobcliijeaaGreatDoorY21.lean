/- The walk of the reference's Parse of headers. -/
import Derived.Test.YtabgoobcliijeaaGreatDoorY17
import Derived.Test.YtabgoobcliijeaaGreatDoorY20
set_option maxHeartbeats 32000000
set_option maxRecDepth 100000
namespace Go.Proofs.YtabgoobcliijeaaGreatDoor
open Go.RowKit
namespace Hd
theorem fAo(c:UInt8):(kD c=true/\((c.toNat:Int)<=8\/(¬(c.toNat:Int)<=8/\(10:Int)<=(c.toNat:Int)/\(c.toNat:Int)<=31)\/(¬(c.toNat:Int)<=8/\(10:Int)<=(c.toNat:Int)/\ ¬(c.toNat:Int)<=31/\((c.toNat:Int)==127)=true)))\/
  (kD c=false/\((¬(c.toNat:Int)<=8/\ ¬(10:Int)<=(c.toNat:Int)/\((c.toNat:Int)==127)=false)\/(¬(c.toNat:Int)<=8/\(10:Int)<=(c.toNat:Int)/\ ¬(c.toNat:Int)<=31/\((c.toNat:Int)==127)=false))):=by
 have e:kD c=decide (c.toNat<=8\/(10<=c.toNat/\c.toNat<=31)\/c.toNat=127):=rfl
 rw[e]
 by_cases h1:c.toNat<=8
 ·exact .inl ⟨zA9 (by omega),.inl (by omega)⟩
 ·by_cases h2:10<=c.toNat
  ·by_cases h3:c.toNat<=31
   ·exact .inl ⟨zA9 (by omega),.inr (.inl (by omega))⟩
   ·by_cases h4:c.toNat=127
    ·exact .inl ⟨zA9 (by omega),.inr (.inr ⟨by omega,by omega,by omega,by rw[beq_iff_eq];omega⟩)⟩
    ·exact .inr ⟨zA8 (by omega),.inr ⟨by omega,by omega,by omega,by rw[beq_eq_false_iff_ne];omega⟩⟩
  ·exact .inr ⟨zA8 (by omega),.inl ⟨by omega,by omega,by rw[beq_eq_false_iff_ne];omega⟩⟩
theorem mAk {h:Head}{k v:List UInt8}(hv:v.length<=1024)(hk:k=FG):put h k v= {h with domain:=eC (v.map Oct.low)} :=by subst hk;exact MV h hv
def keys:List (List UInt8):= [GG,EG,FG,wH,xH,vH,yH]
def Done(j:Nat)(h:Head)(k v:List UInt8)(t:Head):Prop:=(k∈keys.take j->t=put h k v)/\(k∉keys.take j->t=h)
theorem hA4(h:Head)(k v:List UInt8):Done 0 h k v h:=⟨fun m=>absurd m (by simp),fun _=>rfl⟩
theorem kA0: ∀j,j<7-> ∀x,keys[j]? =some x->x∉keys.take j:=by decide+kernel
theorem PJ {j:Nat}{h t:Head}{k v x:List UInt8}(hj:keys[j]? =some x)(hk:k=x)(hd:Done j h k v t):t=h:=by
 subst hk
 exact hd.2 (kA0 j (List.getElem?_eq_some_iff.1 hj).1 k hj)
theorem SF {j:Nat}{h t:Head}{k v x:List UInt8}(hj:keys[j]? =some x)(hk:k=x)(ht:t=put h k v):Done (j+1) h k v t:=by
 refine⟨fun _=>ht,fun m=>absurd ?_ m⟩
 rw[List.take_add_one,hj,hk];simp
theorem QJ {j:Nat}{h t:Head}{k v x:List UInt8}(hj:keys[j]? =some x)(hk:k≠x)(hd:Done j h k v t):Done (j+1) h k v t:=by
 have e:k∈keys.take (j+1)↔k∈keys.take j:=by rw[List.take_add_one,hj];simp[hk]
 exact⟨fun m=>hd.1 (e.1 m),fun m=>hd.2 (fun q=>m (e.2 q))⟩
theorem gAZ {h t:Head}{k v:List UInt8}(hd:Done 7 h k v t):t=put h k v:=by
 by_cases m:k∈keys.take 7
 ·exact hd.1 m
 ·rw[hd.2 m]
  have e:keys.take 7= [GG,EG,FG,wH,xH,vH,yH]:=rfl
  rw[e]at m
  simp only[List.mem_cons,List.not_mem_nil,or_false,not_or]at m
  exact(QV h m).symm
end Hd
theorem VW {P:Program}{ops:Array Oper}{S:World->Prop}{o:Oper}{a:Act}(hw:Region.wanted o (yielded ops a.tmps)=true)(t:TypeId)(i j:Nat)(x y:Operand)(ho:o.op= .build t #[(i,x),(j,y)])(u v:Value)(hx:a.eval x=u)(hy:a.eval y=v)(cells:Array Value)
  (hc:P.built t [(i,u),(j,v)]=some cells):YieldsIf P ops S o (.agg cells) a:=
 .inl ⟨hw,fun w _=>by
  have e:((#[(i,x),(j,y)]:Array (Nat×Operand)).map fun(i,x)=>(i,a.eval x)).toList= [(i,u),(j,v)]:=by simp[hx,hy]
  unfold execOp
  simp only[ho,Sem.run_bind,run_build w t _ cells (by rw[e];exact hc),Result.andThen_ok]
  rfl⟩
theorem GH(x:ByteArray)(k:List UInt8):(x.toList==k)=decide (x.data.toList=k):=by
 rw[Oct.SA,Bool.eq_iff_iff,beq_iff_eq,decide_eq_true_iff]
theorem cAl(s:ByteArray)(w:World)(hs:s.size<=1100000):
  Calls Tryz.prog 23 #[.string s] w (JI (Hd.parse s.data.toList) w):=by
 have z0:=jG
 have HZ:Hid (∀h:Hd.Head,(headA h).size=11):=zA7 (fun h=>rfl)
 have AA:Hid (∀n h w',Hd.parse s.data.toList=(n,h)->Below w.heap.size w w'->JI (Hd.parse s.data.toList) w (.returned (.tuple #[.agg (headA h),.int .i64 n])) w'):=zA7 (fun n h w' e hb=>F9 e hb)
 generalize hpost:JI (Hd.parse s.data.toList) w=post at*
 clear hpost
 have hsl:=Oct.nA s
 have yF:Hid (s.data.toList.any Hd.kD=true->Hd.parse s.data.toList=(81,Hd.zero)):=zA7 (fun h=>by unfold Hd.parse;rw[if_pos h])
 have zS:Hid (s.data.toList.any Hd.kD=false->Hd.parse s.data.toList=Hd.said (Oct.split 59 s.data.toList)):=zA7 (fun h=>by unfold Hd.parse;rw[if_neg (by rw[h];simp)])
 have LX:=zA7 (fun W=>WL s 59 W (by omega))
 have hpos:=Oct.eG 59 s.data.toList
 have hcnt:=Oct.cJ 59 s.data.toList
 rw[hsl]at hcnt
 have JC:=zA7 (fun p hp=>Oct.dJ 59 s.data.toList p hp)
 generalize Oct.split 59 s.data.toList=ps at*
 go_enter Tryz.func23,Tryz.ntmps23
 have R0:=Row.new w 35 (headA Hd.zero)
 have B0:=(Below.refl w.heap.size w).alloc (zB3 _) (.cells (headA Hd.zero) 35)
 go_wp2
 generalize w.alloc (.cells (headA Hd.zero) 35)=w0 at*
 go_loop [4] (fun i=> ∃k:Nat,k<=s.size/\i= .int .i64 k/\(s.data.toList.take k).any Hd.kD=false) (fun i=>s.size- (intOf i).toNat)
 case atStart=>exact⟨0,Nat.zero_le _,rfl,by simp⟩
 case round=>
  obtain⟨k,hk,rfl,hall⟩:=hrel
  have HA:=zA7 hall
  clear hall
  by_cases hlt:k<s.size
  ·have hl:k<s.data.toList.length:=by rw[Oct.nA];exact hlt
   rcases Hd.fAo s[k]with⟨hb,hor⟩|⟨hb,hor⟩
   ·have HQ:=zA7 (fun w'=>AA.out 81 Hd.zero w' (yF.out (List.any_eq_true.2 ⟨s[k],by rw[<-Oct.TF s k hlt];exact List.getElem_mem hl,hb⟩)))
    clear hb AA yF zS
    rcases hor with h1|⟨h1,h2,h3⟩|⟨h1,h2,h3,h4⟩
    all_goals
     go_wp2_with (refine wpList_store_row rfl 35 _ _ rfl w.heap.size (headA Hd.zero) rfl rfl 35 _ R0 (by rw[HZ.out];exact WA) rfl (DC _) ?_)
     exact bodyPost_ret (v:= .tuple #[.agg (headA Hd.zero),.int .i64 81]) (DA rfl _ _ w.heap.size _ _ _ rfl _ rfl (R0.whole _) Tryz.underlying35 rfl (by rw[HZ.out];exact WA)) rfl (HQ.out _ (below_setRow B0 (zB3 _) _))
   ·have HR:Hid ((s.data.toList.take (k+1)).any Hd.kD=false):=zA7 (by rw[Oct.fG s k hlt,List.any_append,HA.out,List.any_cons,hb];rfl)
    clear hb
    rcases hor with⟨h1,h2,h3⟩|⟨h1,h2,h3,h4⟩
    all_goals
     go_wp2
     go_round
     case rel=>exact⟨k+1,by omega,by go_num,HR.out⟩
     case measure=>simp[intOf];omega
  ·have HG:=zS.out (by have:=HA.out;rw[Oct.vD s k (by omega)]at this;exact this)
   have bP:=zA7 HG
   clear HG yF zS HA
   go_wp2_with fail
   refine(LX.out _).mono ?_
   intro e w1 hsp
   obtain⟨gl,cap,rfl,O,b1⟩:=hsp.at_ hpos
   clear hsp
   have R1:=R0.stays b1
   have B1:=B0.trans (b1.mono B0.size)
   obtain⟨rAf,hgl⟩:=O.lt gl rfl
   clear R0 B0 LX b1
   obtain⟨p,r,hpr⟩: ∃p r,ps=p::r:=by
    cases ps with
    |nil=>exact absurd hpos (by simp)
    |cons p r=>exact⟨p,r,rfl⟩
   have vJ:=zA7 hpr
   clear hpr
   have hpl:=JC.out p (by rw[vJ.out];simp)
   rw[hsl]at hpl
   have hcell:=DR O (k:=0) (p:=p) (by rw[vJ.out];rfl) hpos
   unfold lA at hcell
   obtain⟨P,hP⟩: ∃P:ByteArray,(⟨p.toArray⟩:ByteArray)=P:=⟨_,rfl⟩
   have kQ:P.data.toList=p:=by rw[<-hP]
   have hPs:P.size<=1100000:=by rw[<-Oct.nA,kQ];omega
   rw[hP]at hcell
   have HA1:=zA7 (fun W=>cAe P W (by omega))
   have HB1:=zA7 (fun W=>cAd P W (by omega))
   have uE:=zA7 (fun W=>WV P W (by unfold maxLen;omega))
   have HT1:=zA7 (fun W=>oR P W (by unfold maxLen;omega))
   unfold UK at HA1 HB1
   rw[kQ]at HA1 HB1 uE HT1
   have iAs:P.size=p.length:=by rw[<-Oct.nA,kQ]
   have hsg:=Hd.oA3 p
   have hpy:= @Hd.bAO p
   have hpn:= @Hd.bAM p
   have hpp:=Hd.bAN p
   obtain⟨an,han⟩: ∃x:ByteArray,(⟨(Hd.ahead p).toArray⟩:ByteArray)=x:=⟨_,rfl⟩
   obtain⟨bn,hbn⟩: ∃x:ByteArray,(⟨(Hd.behind p).toArray⟩:ByteArray)=x:=⟨_,rfl⟩
   have hbt:Tryz.prog.built 35 [(0,.string an),(1,.string bn)]=some (headA {Hd.zero with name:=Hd.ahead p,value:=Hd.behind p}):=by rw[<-han,<-hbn];exact SY _ _
   rw[han]at HA1
   rw[hbn]at HB1
   have CS:=zA7 (fun w' (h:(Hd.pair p).1= []/\(Hd.pair p).2= [])=>AA.out 82 Hd.zero w' (by rw[bP.out,vJ.out];unfold Hd.said;dsimp only;rw[if_pos h]))
   have pC:=zA7 (fun w' (h: ¬((Hd.pair p).1= []/\(Hd.pair p).2= []))(h2:4096<(Hd.pair p).1.length+(Hd.pair p).2.length)=>AA.out 83 Hd.zero w' (by rw[bP.out,vJ.out];unfold Hd.said;dsimp only;rw[if_neg h,if_pos h2]))
   have TM:=zA7 (fun w' (h: ¬((Hd.pair p).1= []/\(Hd.pair p).2= []))(h2: ¬4096<(Hd.pair p).1.length+(Hd.pair p).2.length)=>AA.out 0 (r.foldl Hd.attr (Hd.start p)) w' (by rw[bP.out,vJ.out];unfold Hd.said;dsimp only;rw[if_neg h,if_neg h2]))
   have rAa:ps.length<=1100001:=by omega
   clear AA bP hcnt
   have cl1:(0:Int)<(ps.length:Int):=by omega
   go_upto_region 7 with fail
   obtain⟨T7,U7,V7,W7⟩:=JA 35 (headA Hd.zero) (headA {Hd.zero with name:=Hd.ahead p,value:=Hd.behind p}) (Below.refl w1.heap.size w1.drew) (zB3 _)
   go_cut [6] (fun s6 wx=>s6= .pointer (some ⟨w1.heap.size,0,none⟩)/\QB w1.heap.size {Hd.zero with name:=Hd.ahead p,value:=Hd.behind p} w1 wx)
   case first=>as_aux_lemma=>
    refine wp_region_held_drew (S:=Below w1.heap.size w1) (by kernel_rfl) (Below.refl w1.heap.size w1).drew (fun _=>?_)
    refine mA (i:=0) rfl ?_
    refine mA (i:=1) rfl ?_
    refine mA (i:=2) rfl ?_ (hv:=by intro _ hS;have hcell:=hS.cell (p:=⟨gl,0,none⟩) hgl|>.trans hcell;clear hS;go_simp;with_reducible rfl)
    refine mA (i:=4) rfl ?_
    refine mA (i:=5) rfl ?_
    refine mA (i:=6) rfl ?_ (hv:=by intro _ hS;have hcell:=hS.cell (p:=⟨gl,0,none⟩) hgl|>.trans hcell;clear hS;go_simp;with_reducible rfl)
    refine wpAnyH_ready (rs:= [3,9]) (by kernel_rfl) (by simp) (AllReadyH.cons rfl (fun K hK=>?_) (AllReadyH.cons rfl (fun K hK=>?_) AllReadyH.nil))
    ·rw[if_pos (by rfl)]
     go_simp
     refine(HA1.out _).mono ?_
     rintro e w' ⟨rfl,rfl⟩
     go_wp2_with fail
     refine hK.out _ _ (Below.refl w1.heap.size w1).drew (fun _=>?_)
     clear hK K
     refine wpAnyH_ready (rs:= [7,9]) (by kernel_rfl) (by simp) (AllReadyH.cons rfl (fun K hK=>?_) (AllReadyH.cons rfl (fun K hK=>?_) AllReadyH.nil))
     ·rw[if_pos (by rfl)]
      go_simp
      refine(HB1.out _).mono ?_
      rintro e w' ⟨rfl,rfl⟩
      go_wp2_with fail
      refine hK.out _ _ (Below.refl w1.heap.size w1).drew (fun _=>?_)
      clear hK K
      refine uD (i:=8) rfl (VW (by rfl) _ _ _ _ _ rfl (.string an) (.string bn) rfl rfl (headA {Hd.zero with name:=Hd.ahead p,value:=Hd.behind p}) hbt) ?_
      refine yA (i:=9) fun K hK=>?_
      go_simp
      refine hK.out _ _ ((Below.refl w1.heap.size w1).drew.alloc (zB3 _) (.cells (headA Hd.zero) 35)) (fun _=>?_)
      clear hK K
      refine yA (i:=10) fun K hK=>?_
      refine wp_store_row 35 _ _ rfl w1.drew.heap.size (headA {Hd.zero with name:=Hd.ahead p,value:=Hd.behind p}) rfl rfl 35 _ T7 (by rw[HZ.out];exact WA) rfl (DC _) ?_
      refine hK.out _ _ ((Below.refl _ w1).drew.trans V7) (fun _=>?_)
      clear hK K
      refine wpAnyH_done (by kernel_rfl) ?_ _
      go_wp2
      go_meet
      exact⟨rfl,U7,(Below.refl _ w1).drew.trans V7⟩
     ·rw[if_pos (by rfl)]
      go_simp
      refine hK.out _ _ ((Below.refl w1.heap.size w1).drew.alloc (zB3 _) (.cells (headA Hd.zero) 35)) (fun _=>?_)
      clear hK K
      refine yA (i:=7) fun K hK=>?_
      go_simp
      refine(HB1.out _).mono ?_
      rintro e w' ⟨rfl,rfl⟩
      go_wp2_with fail
      refine hK.out _ _ ((Below.refl w1.heap.size w1).drew.alloc (zB3 _) (.cells (headA Hd.zero) 35)) (fun _=>?_)
      clear hK K
      refine uD (i:=8) rfl (VW (by rfl) _ _ _ _ _ rfl (.string an) (.string bn) rfl rfl (headA {Hd.zero with name:=Hd.ahead p,value:=Hd.behind p}) hbt) ?_
      refine yA (i:=10) fun K hK=>?_
      refine wp_store_row 35 _ _ rfl w1.drew.heap.size (headA {Hd.zero with name:=Hd.ahead p,value:=Hd.behind p}) rfl rfl 35 _ T7 (by rw[HZ.out];exact WA) rfl (DC _) ?_
      refine hK.out _ _ ((Below.refl _ w1).drew.trans V7) (fun _=>?_)
      clear hK K
      refine wpAnyH_done (by kernel_rfl) ?_ _
      go_wp2
      go_meet
      exact⟨rfl,U7,(Below.refl _ w1).drew.trans V7⟩
    ·rw[if_pos (by rfl)]
     go_simp
     refine hK.out _ _ ((Below.refl w1.heap.size w1).drew.alloc (zB3 _) (.cells (headA Hd.zero) 35)) (fun _=>?_)
     clear hK K
     refine yA (i:=3) fun K hK=>?_
     go_simp
     refine(HA1.out _).mono ?_
     rintro e w' ⟨rfl,rfl⟩
     go_wp2_with fail
     refine hK.out _ _ ((Below.refl w1.heap.size w1).drew.alloc (zB3 _) (.cells (headA Hd.zero) 35)) (fun _=>?_)
     clear hK K
     refine yA (i:=7) fun K hK=>?_
     go_simp
     refine(HB1.out _).mono ?_
     rintro e w' ⟨rfl,rfl⟩
     go_wp2_with fail
     refine hK.out _ _ ((Below.refl w1.heap.size w1).drew.alloc (zB3 _) (.cells (headA Hd.zero) 35)) (fun _=>?_)
     clear hK K
     refine uD (i:=8) rfl (VW (by rfl) _ _ _ _ _ rfl (.string an) (.string bn) rfl rfl (headA {Hd.zero with name:=Hd.ahead p,value:=Hd.behind p}) hbt) ?_
     refine yA (i:=10) fun K hK=>?_
     refine wp_store_row 35 _ _ rfl w1.drew.heap.size (headA {Hd.zero with name:=Hd.ahead p,value:=Hd.behind p}) rfl rfl 35 _ T7 (by rw[HZ.out];exact WA) rfl (DC _) ?_
     refine hK.out _ _ ((Below.refl _ w1).drew.trans V7) (fun _=>?_)
     clear hK K
     refine wpAnyH_done (by kernel_rfl) ?_ _
     go_wp2
     go_meet
     exact⟨rfl,U7,(Below.refl _ w1).drew.trans V7⟩
   case rest=>
   obtain⟨rfl,K⟩:=hcut
   clear T7 U7 V7 W7 HA1 HB1 hbt han hbn
   have yU:=(K.below.cell (p:=⟨gl,0,none⟩) hgl).trans hcell
   have XS:Hid (∀W,Below wc.heap.size wc W->W.cell? ⟨gl,0,none⟩=some (.string P)):=zA7 (fun W hC=>(hC.cell (block_lt_of_cell yU)).trans yU)
   have YW:=zA7 (fun W (hC:Below wc.heap.size wc W)=>bAH hC (uE.out W))
   go_upto_region 8 with fail
   refine rE (C:=fun W=>Below wc.heap.size wc W) (by kernel_rfl) (by kernel_rfl) (Below.refl _ _).drew ?_
   refine kA ?_
   refine kA ?_
   refine kA ?_ (v:= .string P) (hv:=fun wq hC=>by have hcell:=XS.out wq hC;go_simp;try with_reducible rfl)
   refine QD (.int .i64 ((Hd.cutAt p:Nat):Int)) (fun wq hC=>by unfold Oper.quietAt;go_simp;exact YW.out wq hC) ?_
   refine kA ?_
   refine kA ?_
   refine kA ?_ (v:= .string P) (hv:=fun wq hC=>by have hcell:=XS.out wq hC;go_simp;try with_reducible rfl)
   refine kA ?_
   refine kA ?_
   refine wpQuiet_nil ?_
   intro w8 M7
   have K8:=K.on M7
   clear yU XS YW uE M7 K
   go_upto_if 63 with fail
   go_cut [] (fun wx=>QB w1.heap.size (Hd.start p) w1 wx)
   case first=>as_aux_lemma=>
    by_cases gQ:61∈p
    ·have e1:(((Hd.cutAt p:Nat):Int)==(P.size:Int))=false:=by
      rw[beq_eq_false_iff_ne]
      have:=hsg.1 gQ
      omega
     have est:Hd.start p= {Hd.zero with name:=Hd.ahead p,value:=Hd.behind p} :=by unfold Hd.start;rw[hpy gQ]
     go_wp2
     go_meet
     rw[est]
     exact K8
    ·have e1:(((Hd.cutAt p:Nat):Int)==(P.size:Int))=true:=by
      rw[beq_iff_eq]
      have:Hd.cutAt p=p.length:=Decidable.byContradiction fun k=>gQ (hsg.2 k)
      omega
     have Y0:Hd.pair p=([],Oct.trim p):=by unfold Hd.pair;rw[if_neg gQ]
     have K9:=K8.one (i:=0) (u:= .string ⟨#[]⟩) (h':= {Hd.zero with name:= [],value:=Hd.behind p}) rfl
     have q0:=K8.cell 0
     have f0:=K8.free 0
     have q1:=K9.cell 1
     have f1:=K9.free 1
     have hc9:=(K9.below.cell (p:=⟨gl,0,none⟩) hgl).trans hcell
     have est:headA (Hd.start p)=(headA {Hd.zero with name:= [],value:=Hd.behind p}).setIfInBounds 1 (.string ⟨(Oct.trim p).toArray⟩):=by unfold Hd.start;rw[Y0];rfl
     have GB:=K9.one (i:=1) (u:= .string ⟨(Oct.trim p).toArray⟩) (h':=Hd.start p) est.symm
     clear est Y0
     go_wp2_with fail
     refine(HT1.out _).mono ?_
     rintro e w9 ⟨rfl,rfl⟩
     go_wp2
     go_meet
     exact GB
   case rest=>
   have KC:=hcut
   clear hcut K8 hsg hpy hpn HT1
   obtain⟨n,hn⟩: ∃p2:ByteArray,(⟨(Hd.pair p).1.toArray⟩:ByteArray)=p2:=⟨_,rfl⟩
   obtain⟨v,hv⟩: ∃p2:ByteArray,(⟨(Hd.pair p).2.toArray⟩:ByteArray)=p2:=⟨_,rfl⟩
   have hn1:n.toList.isEmpty=decide ((Hd.pair p).1= []):=by rw[<-hn,ZP]
   have hv1:v.toList.isEmpty=decide ((Hd.pair p).2= []):=by rw[<-hv,ZP]
   have hn2:n.size=(Hd.pair p).1.length:=by rw[<-hn,size_mk]
   have hv2:v.size=(Hd.pair p).2.length:=by rw[<-hv,size_mk]
   rw[<-hn2,<-hv2]at pC TM hpp
   have c0:=KC.cell 0
   have c1:=KC.cell 1
   rw[show(headA (Hd.start p))[0]? =some (.string n) from by rw[<-hn];rfl]at c0
   rw[show(headA (Hd.start p))[1]? =some (.string v) from by rw[<-hv];rfl]at c1
   obtain⟨bn,hbn⟩: ∃b,decide ((Hd.pair p).1= [])=b:=⟨_,rfl⟩
   obtain⟨bv,hbv⟩: ∃b,decide ((Hd.pair p).2= [])=b:=⟨_,rfl⟩
   rw[hbn]at hn1
   rw[hbv]at hv1
   have HE:Hid (((bn&&bv)=true↔ ((Hd.pair p).1= []/\(Hd.pair p).2= []))):=zA7 (by rw[<-hbn,<-hbv,Bool.and_eq_true,decide_eq_true_iff,decide_eq_true_iff])
   clear hbn hbv hn hv hn2 hv2
   have kN:=R1.below KC.below R1.lt
   have B11:=B1.trans (KC.below.mono B1.size)
   go_upto_region 11 with fail
   go_cut [77] (fun sx wx=>sx= .bool (bn&&bv)/\wc=wx)
   case first=>as_aux_lemma=>
    cases bn with
    |false=>go_wp2;go_meet;exact⟨rfl,rfl⟩
    |true=>
    cases bv with
    |false=>go_wp2;go_meet;exact⟨rfl,rfl⟩
    |true=>go_wp2;go_meet;exact⟨rfl,rfl⟩
   case rest=>
   obtain⟨rfl,rfl⟩:=hcut
   cases hB:(bn&&bv)with
   |true=>
    have HQ:=zA7 (fun w'=>CS.out w' (HE.out.1 hB))
    clear hB HE CS pC TM
    go_wp2_with (refine wpList_store_row rfl 35 _ _ rfl w.heap.size (headA Hd.zero) rfl rfl 35 _ kN (by rw[HZ.out];exact WA) rfl (DC _) ?_)
    exact bodyPost_ret (v:= .tuple #[.agg (headA Hd.zero),.int .i64 82]) (DA rfl _ _ w.heap.size _ _ _ rfl _ rfl (kN.whole _) Tryz.underlying35 rfl (by rw[HZ.out];exact WA)) rfl (HQ.out _ (below_setRow B11 (zB3 _) _))
   |false=>
   have kF:Hid (¬((Hd.pair p).1= []/\(Hd.pair p).2= [])):=zA7 (fun h=>by rw[HE.out.2 h]at hB;cases hB)
   clear hB HE CS
   have hwr:IntKind.i64.wrap ((n.size:Int)+(v.size:Int))=(n.size:Int)+(v.size:Int):=by rw[IntKind.wrap_i64];omega
   by_cases hlong:4096<n.size+v.size
   ·have HQ:=zA7 (fun w'=>pC.out w' kF.out hlong)
    have GU:(4096:Int)<(n.size:Int)+(v.size:Int):=by omega
    clear pC TM
    go_wp2_with (refine wpList_store_row rfl 35 _ _ rfl w.heap.size (headA Hd.zero) rfl rfl 35 _ kN (by rw[HZ.out];exact WA) rfl (DC _) ?_)
    exact bodyPost_ret (v:= .tuple #[.agg (headA Hd.zero),.int .i64 83]) (DA rfl _ _ w.heap.size _ _ _ rfl _ rfl (kN.whole _) Tryz.underlying35 rfl (by rw[HZ.out];exact WA)) rfl (HQ.out _ (below_setRow B11 (zB3 _) _))
   have GU: ¬(4096:Int)<(n.size:Int)+(v.size:Int):=by omega
   obtain⟨res,hres⟩: ∃res,r.foldl Hd.attr (Hd.start p)=res:=⟨_,rfl⟩
   have HQ:=zA7 (fun w'=>TM.out w' kF.out hlong)
   rw[hres]at HQ
   have hdr:ps.drop 1=r:=by rw[vJ.out];rfl
   rw[<-hdr]at hres
   have ES:=zA7 hres
   have HG:=zA7 B1.size
   have jA8:=R1.lt
   clear pC TM kF hlong hres hdr vJ hpp hcell kQ hPs iAs hP hpl kN B11
   go_wp2
   clear c0 c1
   go_loopw [7] (fun i wr=> ∃(k:Nat)(T:Hd.Head),1<=k/\k<=ps.length/\i= .int .i64 k/\(ps.drop k).foldl Hd.attr T=res/\QB w1.heap.size T w1 wr) (fun i _=>ps.length- (intOf i).toNat)
   case atStart=>exact⟨1,Hd.start p,zB3 _,hpos,rfl,ES.out,KC⟩
   case round=>
    clear KC
    obtain⟨k,T,hk1,hk,rfl,hT,K⟩:=hrel
    by_cases hlt2:k<ps.length
    ·have hki:(k:Int)<(ps.length:Int):=by omega
     obtain⟨q,hq⟩: ∃q,ps[k]? =some q:=⟨_,List.getElem?_eq_getElem hlt2⟩
     have hql:=JC.out q (List.mem_of_getElem? hq)
     rw[hsl]at hql
     have IN:=DR O hq hlt2
     have hdk:ps.drop k=q::ps.drop (k+1):=by
      rw[List.drop_eq_getElem_cons hlt2]
      rw[List.getElem?_eq_getElem hlt2]at hq
      rw[zB2 hq]
     rw[hdk,List.foldl_cons]at hT
     unfold lA at IN
     obtain⟨Q,hQ⟩: ∃P:ByteArray,(⟨q.toArray⟩:ByteArray)=P:=⟨_,rfl⟩
     have iU:Q.data.toList=q:=by rw[<-hQ]
     have hQs:Q.size<=1100000:=by rw[<-Oct.nA,iU];omega
     rw[hQ]at IN
     have sM:=zA7 (fun W=>cAe Q W (by omega))
     have wM:=zA7 (fun W=>cAd Q W (by omega))
     unfold UK at sM wM
     rw[iU]at sM wM
     have m1:=Hd.vY q
     have m2:=Hd.fAs q
     obtain⟨aq,haq⟩: ∃x:ByteArray,(⟨(Hd.ahead q).toArray⟩:ByteArray)=x:=⟨_,rfl⟩
     obtain⟨vb,hvb⟩: ∃x:ByteArray,(⟨(Hd.behind q).toArray⟩:ByteArray)=x:=⟨_,rfl⟩
     have qU:aq.data.toList=Hd.ahead q:=by rw[<-haq]
     have qD:vb.data.toList=Hd.behind q:=by rw[<-hvb]
     have rA6:aq.size<=1100000:=by rw[<-Oct.nA,qU];omega
     have bF:vb.size=(Hd.behind q).length:=by rw[<-Oct.nA,qD]
     have IM:=zA7 (fun W=>UL aq W (by omega))
     have JM:=zA7 (fun W=>UL vb W (by omega))
     unfold XC at IM JM
     rw[qU]at IM
     rw[qD]at JM
     rw[haq]at sM
     rw[hvb]at wM
     obtain⟨kb,hkb⟩: ∃x:ByteArray,(⟨((Hd.ahead q).map Oct.low).toArray⟩:ByteArray)=x:=⟨_,rfl⟩
     obtain⟨lb,hlb⟩: ∃x:ByteArray,(⟨((Hd.behind q).map Oct.low).toArray⟩:ByteArray)=x:=⟨_,rfl⟩
     have rF:kb.data.toList=(Hd.ahead q).map Oct.low:=by rw[<-hkb]
     have nE:lb.data.toList=(Hd.behind q).map Oct.low:=by rw[<-hlb]
     rw[hkb]at IM
     rw[hlb]at JM
     have hc0:=(K.below.cell (p:=⟨gl,k,none⟩) hgl).trans IN
     clear hdk hql hQ iU haq hvb hkb qU m1 m2 hq
     go_wp2_with fail
     refine(sM.out _).mono ?_
     rintro e w12 ⟨rfl,rfl⟩
     go_wp2_with fail
     refine(IM.out _).mono ?_
     rintro e w13 ⟨rfl,zZ⟩
     have QH:=K.on zZ
     have hc1:=(QH.below.cell (p:=⟨gl,k,none⟩) hgl).trans IN
     clear hc0 K zZ
     go_wp2_with fail
     refine(wM.out _).mono ?_
     rintro e w14 ⟨rfl,rfl⟩
     go_wp2_with fail
     refine(JM.out _).mono ?_
     rintro e w15 ⟨rfl,AZ⟩
     have MA:=QH.on AZ
     clear hc1 QH AZ sM wM IM JM IN
     by_cases hlg:1024<vb.size
     ·have jA7:(1024:Int)<(vb.size:Int):=by omega
      rw[Hd.FY T (by rw[<-bF];exact hlg)]at hT
      have yE:=zA7 hT
      clear hT nE qD bF rF
      go_wp2
      go_roundw
      case rel=>exact⟨k+1,T,by omega,by omega,by go_num,yE.out,MA⟩
      case measure=>simp[intOf];omega
     ·have jA7: ¬(1024:Int)<(vb.size:Int):=by omega
      have hvl:(Hd.behind q).length<=1024:=by rw[<-bF];omega
      rw[Hd.GY,<-rF]at hT
      have yE:=zA7 hT
      clear hT
      generalize Hd.behind q=vl at*
      obtain⟨b0,hb0⟩: ∃b,decide (kb.data.toList=Hd.GG)=b:=⟨_,rfl⟩
      have e0:(kb.toList== [101,120,112,105,114,101,115])=b0:=by rw[GH,<-hb0];rfl
      have HB0:=zA7 hb0.symm
      clear hb0
      obtain⟨b1,hb1⟩: ∃b,decide (kb.data.toList=Hd.EG)=b:=⟨_,rfl⟩
      have e1:(kb.toList== [109,97,120,45,97,103,101])=b1:=by rw[GH,<-hb1];rfl
      have HB1:=zA7 hb1.symm
      clear hb1
      obtain⟨b2,hb2⟩: ∃b,decide (kb.data.toList=Hd.FG)=b:=⟨_,rfl⟩
      have e2:(kb.toList== [100,111,109,97,105,110])=b2:=by rw[GH,<-hb2];rfl
      have HB2:=zA7 hb2.symm
      clear hb2
      obtain⟨b3,hb3⟩: ∃b,decide (kb.data.toList=Hd.wH)=b:=⟨_,rfl⟩
      have e3:(kb.toList== [112,97,116,104])=b3:=by rw[GH,<-hb3];rfl
      have HB3:=zA7 hb3.symm
      clear hb3
      obtain⟨b4,hb4⟩: ∃b,decide (kb.data.toList=Hd.xH)=b:=⟨_,rfl⟩
      have e4:(kb.toList== [115,101,99,117,114,101])=b4:=by rw[GH,<-hb4];rfl
      have MH:=zA7 hb4.symm
      clear hb4
      obtain⟨b5,hb5⟩: ∃b,decide (kb.data.toList=Hd.vH)=b:=⟨_,rfl⟩
      have e5:(kb.toList== [104,116,116,112,111,110,108,121])=b5:=by rw[GH,<-hb5];rfl
      have DK:=zA7 hb5.symm
      clear hb5
      obtain⟨b6,hb6⟩: ∃b,decide (kb.data.toList=Hd.yH)=b:=⟨_,rfl⟩
      have e6:(kb.toList== [115,97,109,101,115,105,116,101])=b6:=by rw[GH,<-hb6];rfl
      have xF:=zA7 hb6.symm
      clear hb6
      obtain⟨T1,HD,MA⟩: ∃t,Hid (Hd.Done 0 T kb.data.toList vl t)/\QB w1.heap.size t w1 w15:=⟨T,zA7 (Hd.hA4 _ _ _),MA⟩
      have HF:Hid (∀t,t=Hd.put T kb.data.toList vl->(ps.drop (k+1)).foldl Hd.attr t=res):=zA7 (fun t e=>by rw[e];exact yE.out)
      clear yE
      go_upto_if 111 with fail
      go_cut [] (fun wx=> ∃t,Hid (Hd.Done 1 T kb.data.toList vl t)/\QB w1.heap.size t w1 wx)
      case first=>as_aux_lemma=>
       cases b0 with
       |false=>
        have hK:=of_decide_eq_false HB0.out.symm
        go_wp2
        go_meet
        exact⟨_,zA7 (Hd.QJ (j:=0) rfl hK HD.out),MA⟩
       |true=>
        have hK:=zB1 HB0.out.symm
        have hT1:=Hd.PJ (j:=0) rfl hK HD.out
        rw[hT1]at MA
        clear hT1 HD
        have C1:=zA7 (fun W=>mAA vb W (by omega))
        unfold BF at C1
        rw[qD]at C1
        obtain⟨⟨mo,mb⟩,hmo⟩: ∃o,Dt.kB vl=o:=⟨_,rfl⟩
        rw[hmo]at C1
        have P1:=zA7 (fun hc=> @Hd.cA2 T kb.data.toList vl mo hvl hK (hmo.trans hc))
        have P2:=zA7 (fun hc=> @Hd.cA1 T kb.data.toList vl mo hvl hK (hmo.trans hc))
        clear nE qD bF rF hmo
        go_wp2_with fail
        refine(C1.out _).mono ?_
        rintro e w16 ⟨rfl,d16⟩
        have LB:=MA.on d16
        cases mb with
        |true=>
         have HT2:=(P1.out rfl).symm
         have AF:=LB.two (Y8 T mo)
         have q4:=LB.cell 4
         have f4:=LB.free 4
         have q5:=LB.cell 5
         have f5:=LB.free 5
         go_wp2
         go_meet
         exact⟨_,zA7 (Hd.SF (j:=0) rfl hK HT2),AF⟩
        |false=>
         have HT2:=(P2.out rfl).symm
         go_wp2
         go_meet
         exact⟨_,zA7 (Hd.SF (j:=0) rfl hK HT2),LB⟩
      case rest=>
      clear HD MA e0
      obtain⟨T1,HD,MA⟩:=hcut
      go_upto_if 122 with fail
      go_cut [] (fun wx=> ∃t,Hid (Hd.Done 2 T kb.data.toList vl t)/\QB w1.heap.size t w1 wx)
      case first=>as_aux_lemma=>
       cases b1 with
       |false=>
        have hK:=of_decide_eq_false HB1.out.symm
        go_wp2
        go_meet
        exact⟨_,zA7 (Hd.QJ (j:=1) rfl hK HD.out),MA⟩
       |true=>
        have hK:=zB1 HB1.out.symm
        have hT1:=Hd.PJ (j:=1) rfl hK HD.out
        rw[hT1]at MA
        clear hT1 HD
        have C1:=zA7 (fun W=>mAx vb W (by omega))
        unfold mN at C1
        rw[qD]at C1
        obtain⟨ag,hag⟩: ∃o,Hd.jD vl=o:=⟨_,rfl⟩
        rw[hag]at C1
        have P1:=zA7 (fun n hc=> @Hd.bAZ T kb.data.toList vl n hvl hK (hag.trans hc))
        have P2:=zA7 (fun hc=> @Hd.bAY T kb.data.toList vl hvl hK (hag.trans hc))
        clear nE qD bF rF hag
        go_wp2_with fail
        refine(C1.out _).mono ?_
        rintro e w16 ⟨rfl,rfl⟩
        cases ag with
        |some n=>
         have HT2:=(P1.out n rfl).symm
         have AF:=MA.two (X8 T n)
         have q4:=MA.cell 6
         have f4:=MA.free 6
         have q5:=MA.cell 7
         have f5:=MA.free 7
         go_wp2
         go_meet
         exact⟨_,zA7 (Hd.SF (j:=1) rfl hK HT2),AF⟩
        |none=>
         have HT2:=(P2.out rfl).symm
         go_wp2
         go_meet
         exact⟨_,zA7 (Hd.SF (j:=1) rfl hK HT2),MA⟩
      case rest=>
      clear HD MA e1
      obtain⟨T1,HD,MA⟩:=hcut
      go_upto_if 133 with fail
      go_cut [] (fun wx=> ∃t,Hid (Hd.Done 3 T kb.data.toList vl t)/\QB w1.heap.size t w1 wx)
      case first=>as_aux_lemma=>
       cases b2 with
       |false=>
        have hK:=of_decide_eq_false HB2.out.symm
        go_wp2
        go_meet
        exact⟨_,zA7 (Hd.QJ (j:=2) rfl hK HD.out),MA⟩
       |true=>
        have hK:=zB1 HB2.out.symm
        have hT1:=Hd.PJ (j:=2) rfl hK HD.out
        rw[hT1]at MA
        clear hT1 HD
        have HP:=Hd.mAk (h:=T) hvl hK
        have LB:=MA.one (i:=2) (u:= .string lb) (h':= {T with domain:=vl.map Oct.low}) (by rw[<-hlb];rfl)
        have q2:=MA.cell 2
        have f2:=MA.free 2
        have q3:=LB.cell 2
        have f3:=LB.free 2
        by_cases h0:0<lb.size
        ·have dU:(0:Int)<(lb.size:Int):=by omega
         have h1i:(1:Int)<=(lb.size:Int):=by omega
         have hh:=Oct.CE lb h0
         rw[nE]at hh
         by_cases h46:lb[0]=46
         ·have e9:((lb[0].toNat:Int)==46)=true:=by rw[h46];rfl
          have eu:Hd.eC (vl.map Oct.low)=(vl.map Oct.low).drop 1:=by unfold Hd.eC;rw[if_pos (by rw[hh,h46])]
          rw[eu]at HP
          have HT2:=zA7 HP.symm
          have ex:lb.extract 1 lb.size=⟨((vl.map Oct.low).drop 1).toArray⟩:=by rw[extract_drop,nE]
          have AF:=LB.one (i:=2) (u:= .string (lb.extract 1 lb.size)) (h':= {T with domain:=(vl.map Oct.low).drop 1}) (by rw[ex];rfl)
          clear nE qD bF rF hh h46 eu ex HP
          go_wp2
          go_meet
          exact⟨_,zA7 (Hd.SF (j:=2) rfl hK HT2),AF⟩
         ·have e9:((lb[0].toNat:Int)==46)=false:=by
           rw[beq_eq_false_iff_ne]
           intro e
           exact h46 (Oct.mB (by show lb[0].toNat=46;omega))
          have eu:Hd.eC (vl.map Oct.low)=vl.map Oct.low:=by unfold Hd.eC;rw[if_neg (by rw[hh];intro e;exact h46 (zB2 e))]
          rw[eu]at HP
          have HT2:=zA7 HP.symm
          clear nE qD bF rF hh h46 eu HP
          go_wp2
          go_meet
          exact⟨_,zA7 (Hd.SF (j:=2) rfl hK HT2),LB⟩
        ·have dU: ¬(0:Int)<(lb.size:Int):=by omega
         have en:vl.map Oct.low= []:=by rw[<-nE];exact(Oct.UC lb).2 (by omega)
         have eu:Hd.eC (vl.map Oct.low)=vl.map Oct.low:=by rw[en];rfl
         rw[eu]at HP
         have HT2:=zA7 HP.symm
         clear nE qD bF rF en eu HP
         go_wp2
         go_meet
         exact⟨_,zA7 (Hd.SF (j:=2) rfl hK HT2),LB⟩
      case rest=>
      clear HD MA e2
      obtain⟨T1,HD,MA⟩:=hcut
      go_upto_if 148 with fail
      go_cut [] (fun wx=> ∃t,Hid (Hd.Done 4 T kb.data.toList vl t)/\QB w1.heap.size t w1 wx)
      case first=>as_aux_lemma=>
       cases b3 with
       |false=>
        have hK:=of_decide_eq_false HB3.out.symm
        go_wp2
        go_meet
        exact⟨_,zA7 (Hd.QJ (j:=3) rfl hK HD.out),MA⟩
       |true=>
        have hK:=zB1 HB3.out.symm
        have hT1:=Hd.PJ (j:=3) rfl hK HD.out
        rw[hT1]at MA
        clear hT1 HD
        have HP:=Hd.cA6 (h:=T) hvl hK
        have LB:=MA.one (i:=3) (u:= .string vb) (h':= {T with path:=vl}) (by rw[<-qD];unfold headA lA;rw[gE];rfl)
        have q2:=MA.cell 3
        have f2:=MA.free 3
        have q3:=LB.cell 3
        have f3:=LB.free 3
        by_cases h0:0<vb.size
        ·have dU:(0:Int)<(vb.size:Int):=by omega
         have hne:vb.toList.isEmpty=false:=by
          rw[Oct.SA,Bool.eq_false_iff]
          intro h
          have:=(Oct.UC vb).1 (List.isEmpty_iff.1 h)
          omega
         have hh:=Oct.CE vb h0
         rw[qD]at hh
         by_cases h47:vb[0]=47
         ·have e9:((vb[0].toNat:Int) !=47)=false:=by rw[h47];rfl
          rw[if_pos (by rw[hh,h47])]at HP
          have HT2:=zA7 HP.symm
          clear nE qD bF rF hh h47 HP
          go_wp2
          go_meet
          exact⟨_,zA7 (Hd.SF (j:=3) rfl hK HT2),LB⟩
         ·have e9:((vb[0].toNat:Int) !=47)=true:=by
           rw[bne_iff_ne]
           intro e
           exact h47 (Oct.mB (by show vb[0].toNat=47;omega))
          rw[if_neg (by rw[hh];intro e;exact h47 (zB2 e))]at HP
          have HT2:=zA7 HP.symm
          have AF:=LB.one (i:=3) (u:= .string ⟨#[]⟩) (h':= {T with path:= []}) rfl
          clear nE qD bF rF hh h47 HP
          go_wp2
          go_meet
          exact⟨_,zA7 (Hd.SF (j:=3) rfl hK HT2),AF⟩
        ·have en:vl= []:=by rw[<-qD];exact(Oct.UC vb).2 (by omega)
         have hne:vb.toList.isEmpty=true:=by rw[Oct.SA,qD,en];rfl
         rw[if_neg (by rw[en];intro e;cases e)]at HP
         rw[en]at LB
         have HT2:=zA7 HP.symm
         clear nE qD bF rF en HP
         go_wp2
         go_meet
         exact⟨_,zA7 (Hd.SF (j:=3) rfl hK HT2),LB⟩
      case rest=>
      clear HD MA e3
      obtain⟨T1,HD,MA⟩:=hcut
      go_upto_if 160 with fail
      go_cut [] (fun wx=> ∃t,Hid (Hd.Done 5 T kb.data.toList vl t)/\QB w1.heap.size t w1 wx)
      case first=>as_aux_lemma=>
       cases b4 with
       |false=>
        have hK:=of_decide_eq_false MH.out.symm
        go_wp2
        go_meet
        exact⟨_,zA7 (Hd.QJ (j:=4) rfl hK HD.out),MA⟩
       |true=>
        have hK:=zB1 MH.out.symm
        have hT1:=Hd.PJ (j:=4) rfl hK HD.out
        rw[hT1]at MA
        clear hT1 HD
        have HT2:=zA7 (Hd.cA8 (h:=T) hvl hK).symm
        have LB:=MA.one (G9 T)
        have q2:=MA.cell 8
        have f2:=MA.free 8
        clear nE qD bF rF
        go_wp2
        go_meet
        exact⟨_,zA7 (Hd.SF (j:=4) rfl hK HT2),LB⟩
      case rest=>
      clear HD MA e4
      obtain⟨T1,HD,MA⟩:=hcut
      go_upto_if 163 with fail
      go_cut [] (fun wx=> ∃t,Hid (Hd.Done 6 T kb.data.toList vl t)/\QB w1.heap.size t w1 wx)
      case first=>as_aux_lemma=>
       cases b5 with
       |false=>
        have hK:=of_decide_eq_false DK.out.symm
        go_wp2
        go_meet
        exact⟨_,zA7 (Hd.QJ (j:=5) rfl hK HD.out),MA⟩
       |true=>
        have hK:=zB1 DK.out.symm
        have hT1:=Hd.PJ (j:=5) rfl hK HD.out
        rw[hT1]at MA
        clear hT1 HD
        have HT2:=zA7 (Hd.cA4 (h:=T) hvl hK).symm
        have LB:=MA.one (D9 T)
        have q2:=MA.cell 9
        have f2:=MA.free 9
        clear nE qD bF rF
        go_wp2
        go_meet
        exact⟨_,zA7 (Hd.SF (j:=5) rfl hK HT2),LB⟩
      case rest=>
      clear HD MA e5
      obtain⟨T1,HD,MA⟩:=hcut
      cases b6 with
      |false=>
       have hK:=of_decide_eq_false xF.out.symm
       have HT2:=zA7 (Hd.gAZ (Hd.QJ (j:=6) rfl hK HD.out))
       clear HD nE qD bF rF hlb
       go_wp2
       go_roundw
       case rel=>exact⟨k+1,_,by omega,by omega,by go_num,HF.out _ HT2,MA⟩
       case measure=>simp[intOf];omega
      |true=>
       have hK:=zB1 xF.out.symm
       have hT1:=Hd.PJ (j:=6) rfl hK HD.out
       rw[hT1]at MA
       clear hT1 HD
       have HP:=Hd.cAa (h:=T) hvl hK
       have LB:=MA.one (i:=10) (u:= .int .i64 0) (h':= {T with same:=0}) rfl
       have q2:=MA.cell 10
       have f2:=MA.free 10
       have q3:=LB.cell 10
       have f3:=LB.free 10
       have hsm:Hd.iF (vl.map Oct.low)=if vl.map Oct.low=Hd.sR then 1 else if vl.map Oct.low=Hd.rR then 2 else if vl.map Oct.low=Hd.tR then 3 else 0:=rfl
       rw[hsm]at HP
       have t1:=GH lb [110,111,110,101]
       have t2:=GH lb [108,97,120]
       have t3:=GH lb [115,116,114,105,99,116]
       rw[nE]at t1 t2 t3
       clear hsm hlb nE qD bF rF
       by_cases hw0:vl.map Oct.low=Hd.sR
       ·rw[if_pos hw0]at HP
        have HT2:=zA7 HP.symm
        rw[hw0]at t1 t2 t3
        have u1:(lb.toList== [110,111,110,101])=true:=by rw[t1];decide
        have u2:(lb.toList== [108,97,120])=false:=by rw[t2];decide
        have u3:(lb.toList== [115,116,114,105,99,116])=false:=by rw[t3];decide
        clear t1 t2 t3 hw0 HP
        have AF:=LB.one (i:=10) (u:= .int .i64 1) (h':= {T with same:=1}) rfl
        go_wp2
        go_roundw
        case rel=>exact⟨k+1,_,by omega,by omega,by go_num,HF.out _ HT2,AF⟩
        case measure=>simp[intOf];omega
       ·have hn0:=hw0
        by_cases hw1:vl.map Oct.low=Hd.rR
        ·rw[if_neg hn0,if_pos hw1]at HP
         have HT2:=zA7 HP.symm
         rw[hw1]at t1 t2 t3
         have u1:(lb.toList== [110,111,110,101])=false:=by rw[t1];decide
         have u2:(lb.toList== [108,97,120])=true:=by rw[t2];decide
         have u3:(lb.toList== [115,116,114,105,99,116])=false:=by rw[t3];decide
         clear t1 t2 t3 hw1 HP
         have AF:=LB.one (i:=10) (u:= .int .i64 2) (h':= {T with same:=2}) rfl
         go_wp2
         go_roundw
         case rel=>exact⟨k+1,_,by omega,by omega,by go_num,HF.out _ HT2,AF⟩
         case measure=>simp[intOf];omega
        ·have hn1:=hw1
         by_cases hw2:vl.map Oct.low=Hd.tR
         ·rw[if_neg hn0,if_neg hn1,if_pos hw2]at HP
          have HT2:=zA7 HP.symm
          rw[hw2]at t1 t2 t3
          have u1:(lb.toList== [110,111,110,101])=false:=by rw[t1];decide
          have u2:(lb.toList== [108,97,120])=false:=by rw[t2];decide
          have u3:(lb.toList== [115,116,114,105,99,116])=true:=by rw[t3];decide
          clear t1 t2 t3 hw2 HP
          have AF:=LB.one (i:=10) (u:= .int .i64 3) (h':= {T with same:=3}) rfl
          go_wp2
          go_roundw
          case rel=>exact⟨k+1,_,by omega,by omega,by go_num,HF.out _ HT2,AF⟩
          case measure=>simp[intOf];omega
         ·have hn2:=hw2
          rw[if_neg hn0,if_neg hn1,if_neg hn2]at HP
          have HT2:=zA7 HP.symm
          have u1:(lb.toList== [110,111,110,101])=false:=by rw[t1];exact zA8 hn0
          have u2:(lb.toList== [108,97,120])=false:=by rw[t2];exact zA8 hn1
          have u3:(lb.toList== [115,116,114,105,99,116])=false:=by rw[t3];exact zA8 hn2
          clear t1 t2 t3 hn0 hn1 hn2 hw0 hw1 hw2 HP
          go_wp2
          go_roundw
          case rel=>exact⟨k+1,_,by omega,by omega,by go_num,HF.out _ HT2,LB⟩
          case measure=>simp[intOf];omega
    ·have hki: ¬(k:Int)<(ps.length:Int):=by omega
     rw[List.drop_eq_nil_of_le (by omega),List.foldl_nil]at hT
     subst hT
     have R5:=K.row
     have R6:=R1.below K.below jA8
     have B6:=B1.trans (K.below.mono HG.out)
     go_wp2_with (first
      |(refine iA 177 rfl ?_;refine qA rfl 35 _ rfl w1.heap.size rfl R5 Tryz.underlying35 rfl (by rw[HZ.out];exact WA) ?_)
      |(refine wpList_store_row rfl 35 _ _ rfl w.heap.size (headA T) rfl rfl 35 _ R6 (by rw[HZ.out];exact WA) rfl (DC _) ?_))
     exact bodyPost_ret (v:= .tuple #[.agg (headA T),.int .i64 0]) (DA rfl _ _ w.heap.size _ _ _ rfl _ rfl (R6.whole _) Tryz.underlying35 rfl (by rw[HZ.out];exact WA)) rfl (HQ.out _ (below_setRow B6 (zB3 _) _))
end Go.Proofs.YtabgoobcliijeaaGreatDoor
