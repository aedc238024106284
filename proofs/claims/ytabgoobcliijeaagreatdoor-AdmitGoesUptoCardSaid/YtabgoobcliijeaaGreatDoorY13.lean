/- What was told so far, in a variable; the walk of tell. -/
import Derived.Test.YtabgoobcliijeaaGreatDoorY12
import Derived.Deep.DeepCutAuto
set_option maxHeartbeats 8000000
set_option maxRecDepth 100000
namespace Go.Proofs.YtabgoobcliijeaaGreatDoor
open Go.RowKit
def qAv(o:Option Nat):Int:=match o with|some y=>Dt.dD y|none=>0
def RD(T:Dt.Told):Array Value:= #[.bool T.time.isSome,.bool T.day.isSome,.bool T.month.isSome,.bool T.year.isSome,.int .i64 (((cE T.time).getD 0 0:Nat):Int),.int .i64 (((cE T.time).getD 1 0:Nat):Int),.int .i64 (((cE T.time).getD 2 0:Nat):Int),.int .i64 ((T.day.getD 0:Nat):Int),.int .i64 ((T.month.getD 0:Nat):Int),.int .i64 (qAv T.year)]
structure WC(g:Nat)(T:Dt.Told)(w w':World):Prop where
 row:Row w' g 195 (RD T)
 below:Below g w w'
section
variable {g:Nat} {T T':Dt.Told} {w w' w'':World}
theorem WC.on (k:WC g T w w')(hb:Below w'.heap.size w' w''):WC g T w w'':=⟨k.row.stays hb,k.below.trans (hb.mono (Nat.le_of_lt k.row.lt))⟩
theorem WC.alloc (k:WC g T w w')(o:Obj):WC g T w (w'.alloc o):=k.on ((Below.refl _ _).alloc (zB3 _) o)
theorem WC.aside (k:WC g T w w'){N:Nat}(h:g<N)(cs:Array Value):WC g T w (w'.setRow N cs):=⟨k.row.aside (by omega) cs,below_setRow k.below (by omega) cs⟩
theorem WC.cell (k:WC g T w w')(i:Nat):w'.cell? ⟨g,i,none⟩=(RD T)[i]? :=k.row.cell i
theorem WC.free (k:WC g T w w')(i:Nat):w'.frozen? ⟨g,i,none⟩=false:=k.row.free i
theorem WC.two (k:WC g T w w'){i j:Nat}{u v:Value}(h:((RD T).setIfInBounds i u).setIfInBounds j v=RD T'):WC g T' w ((w'.setCell ⟨g,i,none⟩ u).setCell ⟨g,j,none⟩ v):=
 ⟨by have:=(k.row.set i u).set j v;rw[h]at this;exact this,(k.below.setCell (p:=⟨g,i,none⟩) (zB3 _) u).setCell (p:=⟨g,j,none⟩) (zB3 _) v⟩
end
theorem pAn(T:Dt.Told)(n:Nat):((RD T).setIfInBounds 7 (.int .i64 (n:Int))).setIfInBounds 1 (.bool true)=RD {T with day:=some n} :=by rfl
theorem pAo(T:Dt.Told)(n:Nat):((RD T).setIfInBounds 8 (.int .i64 (n:Int))).setIfInBounds 2 (.bool true)=RD {T with month:=some n} :=by rfl
theorem pAr(T:Dt.Told)(n:Nat):((RD T).setIfInBounds 9 (.int .i64 (Dt.dD n))).setIfInBounds 3 (.bool true)=RD {T with year:=some n} :=by rfl
def TQ(T:Dt.Told)(t:Nat×Nat×Nat):Array Value:=((RD T).toList.take 4++(JB (cE (some t))).toList++(RD T).toList.drop 7).toArray
theorem pAq(T:Dt.Told)(t:Nat×Nat×Nat):(TQ T t).setIfInBounds 0 (.bool true)=RD {T with time:=some t} :=by rfl
namespace Dt
theorem dAd {T:Told}{x:List UInt8}{t:Nat×Nat×Nat}(h:T.time=none)(hx:gB x=some t):tell T x= {T with time:=some t} :=by
 unfold tell;rw[if_pos ⟨h,by rw[hx];simp⟩,hx]
theorem pA2 {T:Told}{x r:List UInt8}{n:Nat}(h0: ¬(T.time=none/\gB x≠none))(h:T.day=none)(hx:bC x 1 2=some (n,r)):tell T x= {T with day:=some n} :=by
 unfold bC at hx
 split at hx
 ·rename_i hl
  have e:=(Prod.mk.inj (zB2 hx)).1
  unfold tell
  rw[if_neg h0,if_pos ⟨h,hl⟩,e]
 ·cases hx
theorem KT {T:Told}{x:List UInt8}(h: ¬(T.day=none/\bC x 1 2≠none)): ¬(T.day=none/\1<=lead x/\lead x<=2):=fun k=>h ⟨k.1,by unfold bC;rw[if_pos k.2];simp⟩
theorem pA4 {T:Told}{x:List UInt8}(h0: ¬(T.time=none/\gB x≠none))(h1: ¬(T.day=none/\bC x 1 2≠none))(h:T.month=none)(hx:0<month x):tell T x= {T with month:=some (month x)} :=by
 unfold tell
 rw[if_neg h0,if_neg (KT h1),if_pos ⟨h,hx⟩]
theorem pA6 {T:Told}{x r:List UInt8}{n:Nat}(h0: ¬(T.time=none/\gB x≠none))(h1: ¬(T.day=none/\bC x 1 2≠none))(h2: ¬(T.month=none/\0<month x))(h:T.year=none)(hx:bC x 2 4=some (n,r)):tell T x= {T with year:=some n} :=by
 unfold bC at hx
 split at hx
 ·rename_i hl
  have e:=(Prod.mk.inj (zB2 hx)).1
  unfold tell
  rw[if_neg h0,if_neg (KT h1),if_neg h2,if_pos ⟨h,hl⟩,e]
 ·cases hx
theorem pA5 {T:Told}{x:List UInt8}(h0: ¬(T.time=none/\gB x≠none))(h1: ¬(T.day=none/\bC x 1 2≠none))(h2: ¬(T.month=none/\0<month x))(h3: ¬(T.year=none/\bC x 2 4≠none)):tell T x=T:=by
 unfold tell
 rw[if_neg h0,if_neg (KT h1),if_neg h2,if_neg (fun k=>h3 ⟨k.1,by unfold bC;rw[if_pos k.2];simp⟩)]
end Dt
def vP(g:Nat)(T:Dt.Told)(w:World)(e:Ending)(w':World):Prop:=e= .returned (.tuple #[])/\WC g T w w'
theorem pA1(T:Dt.Told)(x:ByteArray)(g:Nat)(w:World)(hw: ∀W,Below g w W->mC W)(hR:Row w g 195 (RD T))(hx:x.size<=maxLen):
  Calls Tryz.prog 184 #[.pointer (some ⟨g,0,none⟩),.string x] w (vP g (Dt.tell T x.data.toList) w):=by
 have K0:WC g T w w:=⟨hR,Below.refl _ _⟩
 have AA:Hid (∀T' w',Dt.tell T x.data.toList=T'->WC g T' w w'->vP g (Dt.tell T x.data.toList) w (.returned (.tuple #[])) w'):=zA7 (fun T' w' h k=>by rw[h];exact⟨rfl,k⟩)
 generalize hpost:vP g (Dt.tell T x.data.toList) w=post at*
 clear hpost
 have HT1:=zA7 (fun W=>mAw x W hx)
 have HT2:=zA7 (fun W=>BT x 1 2 W hx (by omega) (by omega))
 have HT3:=zA7 (fun W hW=>mAs x W hW hx)
 have QK:=zA7 (fun W=>BT x 2 4 W hx (by omega) (by omega))
 unfold pM at HT1
 unfold gN at HT2 QK
 unfold fN at HT3
 have z3:=aAv
 have HW:=zA7 hw
 clear hw hR hx
 obtain⟨o1,ho1⟩: ∃o,Dt.gB x.data.toList=o:=⟨_,rfl⟩
 obtain⟨o2,ho2⟩: ∃o,Dt.bC x.data.toList 1 2=o:=⟨_,rfl⟩
 obtain⟨m3,ho3⟩: ∃o,Dt.month x.data.toList=o:=⟨_,rfl⟩
 obtain⟨o4,NN⟩: ∃o,Dt.bC x.data.toList 2 4=o:=⟨_,rfl⟩
 have hy4:(((o4.map (·.1)).getD 0:Nat))<10000:=by
  cases o4 with
  |none=>decide
  |some p=>obtain⟨n,r⟩:=p;exact(Dt.PP NN (by omega)).1
 rw[ho1]at HT1
 rw[ho2]at HT2
 rw[ho3]at HT3
 rw[NN]at QK
 obtain⟨A1,hA1⟩: ∃o,JB (cE o1)=o:=⟨_,rfl⟩
 obtain⟨b1,hb1⟩: ∃o,o1.isSome=o:=⟨_,rfl⟩
 obtain⟨b2,hb2⟩: ∃o,o2.isSome=o:=⟨_,rfl⟩
 obtain⟨b3,hb3⟩: ∃o,decide (0<m3)=o:=⟨_,rfl⟩
 obtain⟨b4,hb4⟩: ∃o,o4.isSome=o:=⟨_,rfl⟩
 obtain⟨n2,hn2⟩: ∃o,(o2.map (·.1)).getD 0=o:=⟨_,rfl⟩
 obtain⟨n4,sL⟩: ∃o,(o4.map (·.1)).getD 0=o:=⟨_,rfl⟩
 rw[hb1,hA1]at HT1
 rw[hb2,hn2]at HT2
 rw[hb3]at HT3
 rw[hb4,sL]at QK
 rw[sL]at hy4
 obtain⟨r2,hr2⟩: ∃o:ByteArray,(⟨((o2.map (·.2)).getD []).toArray⟩:ByteArray)=o:=⟨_,rfl⟩
 obtain⟨r4,hr4⟩: ∃o:ByteArray,(⟨((o4.map (·.2)).getD []).toArray⟩:ByteArray)=o:=⟨_,rfl⟩
 rw[hr2]at HT2
 rw[hr4]at QK
 clear hr2 hr4
 have HWY:=zA7 (fun W=>qAj n4 W (by omega))
 have H1:Hid (b1=true->T.time=none-> ∃t,A1=JB (cE (some t))/\Dt.tell T x.data.toList= {T with time:=some t}):=zA7 (fun h hT=>by
  cases o1 with
  |none=>rw[<-hb1]at h;cases h
  |some t=>exact⟨t,hA1.symm,Dt.dAd hT ho1⟩)
 have N1:Hid (¬(b1=true/\T.time=none)-> ¬(T.time=none/\Dt.gB x.data.toList≠none)):=zA7 (fun h k=>h ⟨by rw[<-hb1,Option.isSome_iff_ne_none,<-ho1];exact k.2,k.1⟩)
 have H2:Hid (¬(T.time=none/\Dt.gB x.data.toList≠none)->b2=true->T.day=none->Dt.tell T x.data.toList= {T with day:=some n2}):=zA7 (fun h0 h hT=>by
  cases o2 with
  |none=>rw[<-hb2]at h;cases h
  |some t=>obtain⟨n,r⟩:=t;rw[<-hn2];exact Dt.pA2 h0 hT ho2)
 have N2:Hid (¬(b2=true/\T.day=none)-> ¬(T.day=none/\Dt.bC x.data.toList 1 2≠none)):=zA7 (fun h k=>h ⟨by rw[<-hb2,Option.isSome_iff_ne_none,<-ho2];exact k.2,k.1⟩)
 have H3:Hid (¬(T.time=none/\Dt.gB x.data.toList≠none)-> ¬(T.day=none/\Dt.bC x.data.toList 1 2≠none)->b3=true->T.month=none->Dt.tell T x.data.toList= {T with month:=some m3}):=zA7 (fun h0 h1 h hT=>by
  rw[<-hb3]at h
  have:=Dt.pA4 h0 h1 hT (by rw[ho3];exact zB1 h)
  rw[ho3]at this
  exact this)
 have N3:Hid (¬(b3=true/\T.month=none)-> ¬(T.month=none/\0<Dt.month x.data.toList)):=zA7 (fun h k=>h ⟨by rw[<-hb3,<-ho3];exact zA9 k.2,k.1⟩)
 have H4:Hid (¬(T.time=none/\Dt.gB x.data.toList≠none)-> ¬(T.day=none/\Dt.bC x.data.toList 1 2≠none)-> ¬(T.month=none/\0<Dt.month x.data.toList)->b4=true->T.year=none->Dt.tell T x.data.toList= {T with year:=some n4}):=zA7 (fun h0 h1 h2 h hT=>by
  cases o4 with
  |none=>rw[<-hb4]at h;cases h
  |some t=>obtain⟨n,r⟩:=t;rw[<-sL];exact Dt.pA6 h0 h1 h2 hT NN)
 have N4:Hid (¬(b4=true/\T.year=none)-> ¬(T.year=none/\Dt.bC x.data.toList 2 4≠none)):=zA7 (fun h k=>h ⟨by rw[<-hb4,Option.isSome_iff_ne_none,<-NN];exact k.2,k.1⟩)
 have hS1:A1.size=3:=by rw[<-hA1];rfl
 have hS2:A1.all (·.oneCell')=true:=by rw[<-hA1];exact GQ _
 clear ho1 ho2 ho3 NN hb1 hb2 hb3 hb4 hn2 sL hA1
 go_enter Tryz.func184,Tryz.ntmps184
 go_wp2_with fail
 refine(HT1.out _).mono ?_
 rintro e w1 ⟨rfl,d1⟩
 have K1:=K0.on d1
 have hgN:g<w1.heap.size:=K1.row.lt
 have R1:=Row.new w1 193 (JB [])
 have Ka:=(K1.alloc (.cells (JB []) 193)).aside hgN A1
 have R:=R1.whole A1
 go_upto_region 1 with(refine wpList_store_row rfl 193 _ _ rfl w1.heap.size A1 rfl rfl 193 _ R1 (by rw[hS1];exact UI) (by rw[hS1];rfl) hS2 ?_)
 generalize hW:(w1.alloc (.cells (JB []) 193)).setRow w1.heap.size A1=W at*
 generalize w1.heap.size=N at*
 clear R1 K1 K0 d1 hW HT1
 go_cut [26] (fun sx wx=>sx= .bool (b1&& !T.time.isSome)/\W=wx)
 case first=>
  have q:=Ka.cell 0
  cases b1 with
  |false=>
   go_wp2
   go_meet
   exact⟨rfl,rfl⟩
  |true=>
   cases h:T.time.isSome with
   |false=>
    have q2:W.cell? ⟨g,0,none⟩=some (.bool false):=by rw[<-h];exact q
    clear q
    go_wp2
    go_meet
    exact⟨by rw[h];rfl,rfl⟩
   |true=>
    have q2:W.cell? ⟨g,0,none⟩=some (.bool true):=by rw[<-h];exact q
    clear q
    go_wp2
    go_meet
    exact⟨by rw[h];rfl,rfl⟩
 case rest=>
 obtain⟨rfl,rfl⟩:=hcut
 cases hB:(b1&& !T.time.isSome)with
 |true=>
  rw[Bool.and_eq_true,Bool.not_eq_true',Option.isSome_eq_false_iff,Option.isNone_iff_eq_none]at hB
  obtain⟨t,hA,hT⟩:=H1.out hB.1 hB.2
  subst hA
  have KR:=Ka.row
  have R2:=KR.whole (TQ T t)
  have q0:=R2.cell 0
  have f0:=R2.free 0
  have R3:=R2.set 0 (.bool true)
  rw[pAq]at R3
  have HR:=zA7 (AA.out _ _ hT ⟨R3,(below_setRow Ka.below (zB3 _) (TQ T t)).setCell (p:=⟨g,0,none⟩) (zB3 _) (.bool true)⟩)
  clear R3 R2
  go_wp2_with (first
   |(refine iA 29 rfl ?_;refine qA rfl 193 _ rfl N rfl R Tryz.underlying193 rfl UI ?_)
   |(refine AR rfl 193 _ _ rfl g 4 (JB (cE (some t))) rfl rfl 195 _ KR UI (by show 7<=10;omega) (GQ _) (TQ T t) rfl ?_))
  go_end0
  exact HR.out
 |false=>
 have M1:=zA7 (N1.out (fun h=>by rw[h.1,h.2]at hB;cases hB))
 clear hB H1 N1 R hS1 hS2
 go_upto_region 4 with(go_at_call 208;refine(HT2.out _).mono ?_;rintro e w3 ⟨rfl,d3⟩)
 have Kb:=Ka.on d3
 clear d3 HT2 Ka
 go_cut [47] (fun sx wx=>sx= .bool (b2&& !T.day.isSome)/\w3=wx)
 case first=>
  have q:=Kb.cell 1
  cases b2 with
  |false=>
   go_wp2
   go_meet
   exact⟨rfl,rfl⟩
  |true=>
   cases h:T.day.isSome with
   |false=>
    have q2:w3.cell? ⟨g,1,none⟩=some (.bool false):=by rw[<-h];exact q
    clear q
    go_wp2
    go_meet
    exact⟨by rw[h];rfl,rfl⟩
   |true=>
    have q2:w3.cell? ⟨g,1,none⟩=some (.bool true):=by rw[<-h];exact q
    clear q
    go_wp2
    go_meet
    exact⟨by rw[h];rfl,rfl⟩
 case rest=>
 obtain⟨rfl,rfl⟩:=hcut
 cases hB:(b2&& !T.day.isSome)with
 |true=>
  rw[Bool.and_eq_true,Bool.not_eq_true',Option.isSome_eq_false_iff,Option.isNone_iff_eq_none]at hB
  have hT:=H2.out M1.out hB.1 hB.2
  have q1:=Kb.cell 7
  have f1:=Kb.free 7
  have q2:=Kb.cell 1
  have f2:=Kb.free 1
  have HR:=zA7 (AA.out _ _ hT (Kb.two (pAn T n2)))
  clear hT hB
  go_wp2
  go_end0
  exact HR.out
 |false=>
 have M2:=zA7 (N2.out (fun h=>by rw[h.1,h.2]at hB;cases hB))
 clear hB H2 N2
 have HW3:=HW.out _ Kb.below
 go_upto_region 7 with(go_at_call 209;refine(HT3.out _ HW3).mono ?_;rintro e w4 ⟨rfl,d4⟩)
 have Kc:=Kb.on d4
 clear d4 HT3 Kb HW3
 go_cut [67] (fun sx wx=>sx= .bool (b3&& !T.month.isSome)/\w4=wx)
 case first=>
  have q:=Kc.cell 2
  cases b3 with
  |false=>
   go_wp2
   go_meet
   exact⟨rfl,rfl⟩
  |true=>
   cases h:T.month.isSome with
   |false=>
    have q2:w4.cell? ⟨g,2,none⟩=some (.bool false):=by rw[<-h];exact q
    clear q
    go_wp2
    go_meet
    exact⟨by rw[h];rfl,rfl⟩
   |true=>
    have q2:w4.cell? ⟨g,2,none⟩=some (.bool true):=by rw[<-h];exact q
    clear q
    go_wp2
    go_meet
    exact⟨by rw[h];rfl,rfl⟩
 case rest=>
 obtain⟨rfl,rfl⟩:=hcut
 cases hB:(b3&& !T.month.isSome)with
 |true=>
  rw[Bool.and_eq_true,Bool.not_eq_true',Option.isSome_eq_false_iff,Option.isNone_iff_eq_none]at hB
  have hT:=H3.out M1.out M2.out hB.1 hB.2
  have q1:=Kc.cell 8
  have f1:=Kc.free 8
  have q2:=Kc.cell 2
  have f2:=Kc.free 2
  have HR:=zA7 (AA.out _ _ hT (Kc.two (pAo T m3)))
  clear hT hB
  go_wp2
  go_end0
  exact HR.out
 |false=>
 have M3:=zA7 (N3.out (fun h=>by rw[h.1,h.2]at hB;cases hB))
 clear hB H3 N3
 go_upto_region 10 with(go_at_call 208;refine(QK.out _).mono ?_;rintro e w5 ⟨rfl,d5⟩)
 have Kd:=Kc.on d5
 clear d5 QK Kc
 go_cut [88] (fun sx wx=>sx= .bool (b4&& !T.year.isSome)/\w5=wx)
 case first=>
  have q:=Kd.cell 3
  cases b4 with
  |false=>
   go_wp2
   go_meet
   exact⟨rfl,rfl⟩
  |true=>
   cases h:T.year.isSome with
   |false=>
    have q2:w5.cell? ⟨g,3,none⟩=some (.bool false):=by rw[<-h];exact q
    clear q
    go_wp2
    go_meet
    exact⟨by rw[h];rfl,rfl⟩
   |true=>
    have q2:w5.cell? ⟨g,3,none⟩=some (.bool true):=by rw[<-h];exact q
    clear q
    go_wp2
    go_meet
    exact⟨by rw[h];rfl,rfl⟩
 case rest=>
 obtain⟨rfl,rfl⟩:=hcut
 cases hB:(b4&& !T.year.isSome)with
 |true=>
  rw[Bool.and_eq_true,Bool.not_eq_true',Option.isSome_eq_false_iff,Option.isNone_iff_eq_none]at hB
  have hT:=H4.out M1.out M2.out M3.out hB.1 hB.2
  have q1:=Kd.cell 9
  have f1:=Kd.free 9
  have q2:=Kd.cell 3
  have f2:=Kd.free 3
  have HR:=zA7 (AA.out _ _ hT (Kd.two (pAr T n4)))
  clear hT hB
  go_wp2_with (go_at_call 210;refine(HWY.out _).mono ?_;rintro e w' ⟨rfl,rfl⟩)
  go_end0
  exact HR.out
 |false=>
 have HR:=zA7 (AA.out _ _ (Dt.pA5 M1.out M2.out M3.out (N4.out (fun h=>by rw[h.1,h.2]at hB;cases hB))) Kd)
 clear hB
 go_wp2
 go_end0
 exact HR.out
end Go.Proofs.YtabgoobcliijeaaGreatDoor
