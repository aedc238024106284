/- What was told so far, in a variable; the walk of tell. -/
import Derived.Test.YtdaaoopkkhfbhaaGreatDoorY9
import Derived.Deep.DeepCutAuto
set_option maxHeartbeats 8000000
set_option maxRecDepth 100000
namespace Go.Proofs.YtdaaoopkkhfbhaaGreatDoor
open Go.RowKit
def mAH(o:Option Nat):Int:=match o with|some y=>Dt.GC y|none=>0
def EC(T:Dt.Told):Array Value:= #[.bool T.time.isSome,.bool T.day.isSome,.bool T.month.isSome,.bool T.year.isSome,.int .i64 (((xG T.time).getD 0 0:Nat):Int),.int .i64 (((xG T.time).getD 1 0:Nat):Int),.int .i64 (((xG T.time).getD 2 0:Nat):Int),.int .i64 ((T.day.getD 0:Nat):Int),.int .i64 ((T.month.getD 0:Nat):Int),.int .i64 (mAH T.year)]
structure fC(g:Nat)(T:Dt.Told)(w w':World):Prop where
 row:Row w' g 245 (EC T)
 below:Below g w w'
section
variable {g:Nat} {T T':Dt.Told} {w w' w'':World}
theorem fC.on (k:fC g T w w')(hb:Below w'.heap.size w' w''):fC g T w w'':=⟨k.row.stays hb,k.below.trans (hb.mono (Nat.le_of_lt k.row.lt))⟩
theorem fC.alloc (k:fC g T w w')(o:Obj):fC g T w (w'.alloc o):=k.on ((Below.refl _ _).alloc (zB3 _) o)
theorem fC.aside (k:fC g T w w'){N:Nat}(h:g<N)(cs:Array Value):fC g T w (w'.setRow N cs):=⟨k.row.aside (by omega) cs,below_setRow k.below (by omega) cs⟩
theorem fC.cell (k:fC g T w w')(i:Nat):w'.cell? ⟨g,i,none⟩=(EC T)[i]? :=k.row.cell i
theorem fC.free (k:fC g T w w')(i:Nat):w'.frozen? ⟨g,i,none⟩=false:=k.row.free i
theorem fC.two (k:fC g T w w'){i j:Nat}{u v:Value}(h:((EC T).setIfInBounds i u).setIfInBounds j v=EC T'):fC g T' w ((w'.setCell ⟨g,i,none⟩ u).setCell ⟨g,j,none⟩ v):=
 ⟨by have:=(k.row.set i u).set j v;rw[h]at this;exact this,(k.below.setCell (p:=⟨g,i,none⟩) (zB3 _) u).setCell (p:=⟨g,j,none⟩) (zB3 _) v⟩
end
theorem lAv(T:Dt.Told)(n:Nat):((EC T).setIfInBounds 7 (.int .i64 (n:Int))).setIfInBounds 1 (.bool true)=EC {T with day:=some n} :=by rfl
theorem lAw(T:Dt.Told)(n:Nat):((EC T).setIfInBounds 8 (.int .i64 (n:Int))).setIfInBounds 2 (.bool true)=EC {T with month:=some n} :=by rfl
theorem lAz(T:Dt.Told)(n:Nat):((EC T).setIfInBounds 9 (.int .i64 (Dt.GC n))).setIfInBounds 3 (.bool true)=EC {T with year:=some n} :=by rfl
def fN(T:Dt.Told)(t:Nat×Nat×Nat):Array Value:=((EC T).toList.take 4++(oB (xG (some t))).toList++(EC T).toList.drop 7).toArray
theorem lAy(T:Dt.Told)(t:Nat×Nat×Nat):(fN T t).setIfInBounds 0 (.bool true)=EC {T with time:=some t} :=by rfl
namespace Dt
theorem lAb {T:Told}{x:List UInt8}{t:Nat×Nat×Nat}(h:T.time=none)(hx:OB x=some t):tell T x= {T with time:=some t} :=by
 unfold tell;rw[if_pos ⟨h,by rw[hx];simp⟩,hx]
theorem lA7 {T:Told}{x r:List UInt8}{n:Nat}(h0: ¬(T.time=none/\OB x≠none))(h:T.day=none)(hx:SB x 1 2=some (n,r)):tell T x= {T with day:=some n} :=by
 unfold SB at hx
 split at hx
 ·rename_i hl
  have e:=(Prod.mk.inj (zB2 hx)).1
  unfold tell
  rw[if_neg h0,if_pos ⟨h,hl⟩,e]
 ·cases hx
theorem zP {T:Told}{x:List UInt8}(h: ¬(T.day=none/\SB x 1 2≠none)): ¬(T.day=none/\1<=lead x/\lead x<=2):=fun k=>h ⟨k.1,by unfold SB;rw[if_pos k.2];simp⟩
theorem lA9 {T:Told}{x:List UInt8}(h0: ¬(T.time=none/\OB x≠none))(h1: ¬(T.day=none/\SB x 1 2≠none))(h:T.month=none)(hx:0<month x):tell T x= {T with month:=some (month x)} :=by
 unfold tell
 rw[if_neg h0,if_neg (zP h1),if_pos ⟨h,hx⟩]
theorem lAc {T:Told}{x r:List UInt8}{n:Nat}(h0: ¬(T.time=none/\OB x≠none))(h1: ¬(T.day=none/\SB x 1 2≠none))(h2: ¬(T.month=none/\0<month x))(h:T.year=none)(hx:SB x 2 4=some (n,r)):tell T x= {T with year:=some n} :=by
 unfold SB at hx
 split at hx
 ·rename_i hl
  have e:=(Prod.mk.inj (zB2 hx)).1
  unfold tell
  rw[if_neg h0,if_neg (zP h1),if_neg h2,if_pos ⟨h,hl⟩,e]
 ·cases hx
theorem lAa {T:Told}{x:List UInt8}(h0: ¬(T.time=none/\OB x≠none))(h1: ¬(T.day=none/\SB x 1 2≠none))(h2: ¬(T.month=none/\0<month x))(h3: ¬(T.year=none/\SB x 2 4≠none)):tell T x=T:=by
 unfold tell
 rw[if_neg h0,if_neg (zP h1),if_neg h2,if_neg (fun k=>h3 ⟨k.1,by unfold SB;rw[if_pos k.2];simp⟩)]
end Dt
def RL(g:Nat)(T:Dt.Told)(w:World)(e:Ending)(w':World):Prop:=e= .returned (.tuple #[])/\fC g T w w'
theorem lA6(T:Dt.Told)(x:ByteArray)(g:Nat)(w:World)(hw: ∀W,Below g w W->PB W)(hR:Row w g 245 (EC T))(hx:x.size<=maxLen):
  Calls Tryz.prog 208 #[.pointer (some ⟨g,0,none⟩),.string x] w (RL g (Dt.tell T x.data.toList) w):=by
 have K0:fC g T w w:=⟨hR,Below.refl _ _⟩
 have GA:Hid (∀T' w',Dt.tell T x.data.toList=T'->fC g T' w w'->RL g (Dt.tell T x.data.toList) w (.returned (.tuple #[])) w'):=zA7 (fun T' w' h k=>by rw[h];exact⟨rfl,k⟩)
 generalize hpost:RL g (Dt.tell T x.data.toList) w=post at*
 clear hpost
 have HT1:=zA7 (fun W=>jAe x W hx)
 have HT2:=zA7 (fun W=>uP x 1 2 W hx (by omega) (by omega))
 have HT3:=zA7 (fun W hW=>jAa x W hW hx)
 have wI:=zA7 (fun W=>uP x 2 4 W hx (by omega) (by omega))
 unfold DJ at HT1
 unfold bK at HT2 wI
 unfold YJ at HT3
 have z3:=IW
 have HW:=zA7 hw
 clear hw hR hx
 obtain⟨o1,ho1⟩: ∃o,Dt.OB x.data.toList=o:=⟨_,rfl⟩
 obtain⟨o2,ho2⟩: ∃o,Dt.SB x.data.toList 1 2=o:=⟨_,rfl⟩
 obtain⟨m3,ho3⟩: ∃o,Dt.month x.data.toList=o:=⟨_,rfl⟩
 obtain⟨o4,CK⟩: ∃o,Dt.SB x.data.toList 2 4=o:=⟨_,rfl⟩
 have hy4:(((o4.map (·.1)).getD 0:Nat))<10000:=by
  cases o4 with
  |none=>decide
  |some p=>obtain⟨n,r⟩:=p;exact(Dt.pU CK (by omega)).1
 rw[ho1]at HT1
 rw[ho2]at HT2
 rw[ho3]at HT3
 rw[CK]at wI
 obtain⟨A1,hA1⟩: ∃o,oB (xG o1)=o:=⟨_,rfl⟩
 obtain⟨b1,hb1⟩: ∃o,o1.isSome=o:=⟨_,rfl⟩
 obtain⟨b2,hb2⟩: ∃o,o2.isSome=o:=⟨_,rfl⟩
 obtain⟨b3,hb3⟩: ∃o,decide (0<m3)=o:=⟨_,rfl⟩
 obtain⟨b4,hb4⟩: ∃o,o4.isSome=o:=⟨_,rfl⟩
 obtain⟨n2,hn2⟩: ∃o,(o2.map (·.1)).getD 0=o:=⟨_,rfl⟩
 obtain⟨n4,PI⟩: ∃o,(o4.map (·.1)).getD 0=o:=⟨_,rfl⟩
 rw[hb1,hA1]at HT1
 rw[hb2,hn2]at HT2
 rw[hb3]at HT3
 rw[hb4,PI]at wI
 rw[PI]at hy4
 obtain⟨r2,hr2⟩: ∃o:ByteArray,(⟨((o2.map (·.2)).getD []).toArray⟩:ByteArray)=o:=⟨_,rfl⟩
 obtain⟨r4,hr4⟩: ∃o:ByteArray,(⟨((o4.map (·.2)).getD []).toArray⟩:ByteArray)=o:=⟨_,rfl⟩
 rw[hr2]at HT2
 rw[hr4]at wI
 clear hr2 hr4
 have HWY:=zA7 (fun W=>mAr n4 W (by omega))
 have H1:Hid (b1=true->T.time=none-> ∃t,A1=oB (xG (some t))/\Dt.tell T x.data.toList= {T with time:=some t}):=zA7 (fun h hT=>by
  cases o1 with
  |none=>rw[<-hb1]at h;cases h
  |some t=>exact⟨t,hA1.symm,Dt.lAb hT ho1⟩)
 have N1:Hid (¬(b1=true/\T.time=none)-> ¬(T.time=none/\Dt.OB x.data.toList≠none)):=zA7 (fun h k=>h ⟨by rw[<-hb1,Option.isSome_iff_ne_none,<-ho1];exact k.2,k.1⟩)
 have H2:Hid (¬(T.time=none/\Dt.OB x.data.toList≠none)->b2=true->T.day=none->Dt.tell T x.data.toList= {T with day:=some n2}):=zA7 (fun h0 h hT=>by
  cases o2 with
  |none=>rw[<-hb2]at h;cases h
  |some t=>obtain⟨n,r⟩:=t;rw[<-hn2];exact Dt.lA7 h0 hT ho2)
 have N2:Hid (¬(b2=true/\T.day=none)-> ¬(T.day=none/\Dt.SB x.data.toList 1 2≠none)):=zA7 (fun h k=>h ⟨by rw[<-hb2,Option.isSome_iff_ne_none,<-ho2];exact k.2,k.1⟩)
 have H3:Hid (¬(T.time=none/\Dt.OB x.data.toList≠none)-> ¬(T.day=none/\Dt.SB x.data.toList 1 2≠none)->b3=true->T.month=none->Dt.tell T x.data.toList= {T with month:=some m3}):=zA7 (fun h0 h1 h hT=>by
  rw[<-hb3]at h
  have:=Dt.lA9 h0 h1 hT (by rw[ho3];exact zB1 h)
  rw[ho3]at this
  exact this)
 have N3:Hid (¬(b3=true/\T.month=none)-> ¬(T.month=none/\0<Dt.month x.data.toList)):=zA7 (fun h k=>h ⟨by rw[<-hb3,<-ho3];exact zA9 k.2,k.1⟩)
 have H4:Hid (¬(T.time=none/\Dt.OB x.data.toList≠none)-> ¬(T.day=none/\Dt.SB x.data.toList 1 2≠none)-> ¬(T.month=none/\0<Dt.month x.data.toList)->b4=true->T.year=none->Dt.tell T x.data.toList= {T with year:=some n4}):=zA7 (fun h0 h1 h2 h hT=>by
  cases o4 with
  |none=>rw[<-hb4]at h;cases h
  |some t=>obtain⟨n,r⟩:=t;rw[<-PI];exact Dt.lAc h0 h1 h2 hT CK)
 have N4:Hid (¬(b4=true/\T.year=none)-> ¬(T.year=none/\Dt.SB x.data.toList 2 4≠none)):=zA7 (fun h k=>h ⟨by rw[<-hb4,Option.isSome_iff_ne_none,<-CK];exact k.2,k.1⟩)
 have hS1:A1.size=3:=by rw[<-hA1];rfl
 have hS2:A1.all (·.oneCell')=true:=by rw[<-hA1];exact OM _
 clear ho1 ho2 ho3 CK hb1 hb2 hb3 hb4 hn2 PI hA1
 go_enter Tryz.func208,Tryz.ntmps208
 go_wp2_with fail
 refine(HT1.out _).mono ?_
 rintro e w1 ⟨rfl,d1⟩
 have K1:=K0.on d1
 have hgN:g<w1.heap.size:=K1.row.lt
 have R1:=Row.new w1 243 (oB [])
 have Ka:=(K1.alloc (.cells (oB []) 243)).aside hgN A1
 have R:=R1.whole A1
 go_upto_region 1 with(refine wpList_store_row rfl 243 _ _ rfl w1.heap.size A1 rfl rfl 243 _ R1 (by rw[hS1];exact IG) (by rw[hS1];rfl) hS2 ?_)
 generalize hW:(w1.alloc (.cells (oB []) 243)).setRow w1.heap.size A1=W at*
 generalize w1.heap.size=N at*
 clear R1 K1 K0 d1 hW HT1
 go_cut [26] (fun sx wx=>sx= .bool (b1&& !T.time.isSome)/\W=wx)
 case first=>
  have q:=Ka.cell 0
  cases b1 with
  |false=>
   go_wp2
   go_meet
   exact⟨rfl,rfl⟩
  |true=>
   cases h:T.time.isSome with
   |false=>
    have q2:W.cell? ⟨g,0,none⟩=some (.bool false):=by rw[<-h];exact q
    clear q
    go_wp2
    go_meet
    exact⟨by rw[h];rfl,rfl⟩
   |true=>
    have q2:W.cell? ⟨g,0,none⟩=some (.bool true):=by rw[<-h];exact q
    clear q
    go_wp2
    go_meet
    exact⟨by rw[h];rfl,rfl⟩
 case rest=>
 obtain⟨rfl,rfl⟩:=hcut
 cases hB:(b1&& !T.time.isSome)with
 |true=>
  rw[Bool.and_eq_true,Bool.not_eq_true',Option.isSome_eq_false_iff,Option.isNone_iff_eq_none]at hB
  obtain⟨t,hA,hT⟩:=H1.out hB.1 hB.2
  subst hA
  have KR:=Ka.row
  have R2:=KR.whole (fN T t)
  have q0:=R2.cell 0
  have f0:=R2.free 0
  have R3:=R2.set 0 (.bool true)
  rw[lAy]at R3
  have HR:=zA7 (GA.out _ _ hT ⟨R3,(below_setRow Ka.below (zB3 _) (fN T t)).setCell (p:=⟨g,0,none⟩) (zB3 _) (.bool true)⟩)
  clear R3 R2
  go_wp2_with (first
   |(refine jA 29 rfl ?_;refine pA rfl 243 _ rfl N rfl R Tryz.underlying243 rfl IG ?_)
   |(refine EZ rfl 243 _ _ rfl g 4 (oB (xG (some t))) rfl rfl 245 _ KR IG (by show 7<=10;omega) (OM _) (fN T t) rfl ?_))
  go_end0
  exact HR.out
 |false=>
 have M1:=zA7 (N1.out (fun h=>by rw[h.1,h.2]at hB;cases hB))
 clear hB H1 N1 R hS1 hS2
 go_upto_region 4 with(go_at_call 256;refine(HT2.out _).mono ?_;rintro e w3 ⟨rfl,d3⟩)
 have Kb:=Ka.on d3
 clear d3 HT2 Ka
 go_cut [47] (fun sx wx=>sx= .bool (b2&& !T.day.isSome)/\w3=wx)
 case first=>
  have q:=Kb.cell 1
  cases b2 with
  |false=>
   go_wp2
   go_meet
   exact⟨rfl,rfl⟩
  |true=>
   cases h:T.day.isSome with
   |false=>
    have q2:w3.cell? ⟨g,1,none⟩=some (.bool false):=by rw[<-h];exact q
    clear q
    go_wp2
    go_meet
    exact⟨by rw[h];rfl,rfl⟩
   |true=>
    have q2:w3.cell? ⟨g,1,none⟩=some (.bool true):=by rw[<-h];exact q
    clear q
    go_wp2
    go_meet
    exact⟨by rw[h];rfl,rfl⟩
 case rest=>
 obtain⟨rfl,rfl⟩:=hcut
 cases hB:(b2&& !T.day.isSome)with
 |true=>
  rw[Bool.and_eq_true,Bool.not_eq_true',Option.isSome_eq_false_iff,Option.isNone_iff_eq_none]at hB
  have hT:=H2.out M1.out hB.1 hB.2
  have q1:=Kb.cell 7
  have f1:=Kb.free 7
  have q2:=Kb.cell 1
  have f2:=Kb.free 1
  have HR:=zA7 (GA.out _ _ hT (Kb.two (lAv T n2)))
  clear hT hB
  go_wp2
  go_end0
  exact HR.out
 |false=>
 have M2:=zA7 (N2.out (fun h=>by rw[h.1,h.2]at hB;cases hB))
 clear hB H2 N2
 have HW3:=HW.out _ Kb.below
 go_upto_region 7 with(go_at_call 257;refine(HT3.out _ HW3).mono ?_;rintro e w4 ⟨rfl,d4⟩)
 have Kc:=Kb.on d4
 clear d4 HT3 Kb HW3
 go_cut [67] (fun sx wx=>sx= .bool (b3&& !T.month.isSome)/\w4=wx)
 case first=>
  have q:=Kc.cell 2
  cases b3 with
  |false=>
   go_wp2
   go_meet
   exact⟨rfl,rfl⟩
  |true=>
   cases h:T.month.isSome with
   |false=>
    have q2:w4.cell? ⟨g,2,none⟩=some (.bool false):=by rw[<-h];exact q
    clear q
    go_wp2
    go_meet
    exact⟨by rw[h];rfl,rfl⟩
   |true=>
    have q2:w4.cell? ⟨g,2,none⟩=some (.bool true):=by rw[<-h];exact q
    clear q
    go_wp2
    go_meet
    exact⟨by rw[h];rfl,rfl⟩
 case rest=>
 obtain⟨rfl,rfl⟩:=hcut
 cases hB:(b3&& !T.month.isSome)with
 |true=>
  rw[Bool.and_eq_true,Bool.not_eq_true',Option.isSome_eq_false_iff,Option.isNone_iff_eq_none]at hB
  have hT:=H3.out M1.out M2.out hB.1 hB.2
  have q1:=Kc.cell 8
  have f1:=Kc.free 8
  have q2:=Kc.cell 2
  have f2:=Kc.free 2
  have HR:=zA7 (GA.out _ _ hT (Kc.two (lAw T m3)))
  clear hT hB
  go_wp2
  go_end0
  exact HR.out
 |false=>
 have M3:=zA7 (N3.out (fun h=>by rw[h.1,h.2]at hB;cases hB))
 clear hB H3 N3
 go_upto_region 10 with(go_at_call 256;refine(wI.out _).mono ?_;rintro e w5 ⟨rfl,d5⟩)
 have Kd:=Kc.on d5
 clear d5 wI Kc
 go_cut [88] (fun sx wx=>sx= .bool (b4&& !T.year.isSome)/\w5=wx)
 case first=>
  have q:=Kd.cell 3
  cases b4 with
  |false=>
   go_wp2
   go_meet
   exact⟨rfl,rfl⟩
  |true=>
   cases h:T.year.isSome with
   |false=>
    have q2:w5.cell? ⟨g,3,none⟩=some (.bool false):=by rw[<-h];exact q
    clear q
    go_wp2
    go_meet
    exact⟨by rw[h];rfl,rfl⟩
   |true=>
    have q2:w5.cell? ⟨g,3,none⟩=some (.bool true):=by rw[<-h];exact q
    clear q
    go_wp2
    go_meet
    exact⟨by rw[h];rfl,rfl⟩
 case rest=>
 obtain⟨rfl,rfl⟩:=hcut
 cases hB:(b4&& !T.year.isSome)with
 |true=>
  rw[Bool.and_eq_true,Bool.not_eq_true',Option.isSome_eq_false_iff,Option.isNone_iff_eq_none]at hB
  have hT:=H4.out M1.out M2.out M3.out hB.1 hB.2
  have q1:=Kd.cell 9
  have f1:=Kd.free 9
  have q2:=Kd.cell 3
  have f2:=Kd.free 3
  have HR:=zA7 (GA.out _ _ hT (Kd.two (lAz T n4)))
  clear hT hB
  go_wp2_with (go_at_call 258;refine(HWY.out _).mono ?_;rintro e w' ⟨rfl,rfl⟩)
  go_end0
  exact HR.out
 |false=>
 have HR:=zA7 (GA.out _ _ (Dt.lAa M1.out M2.out M3.out (N4.out (fun h=>by rw[h.1,h.2]at hB;cases hB))) Kd)
 clear hB
 go_wp2
 go_end0
 exact HR.out
end Go.Proofs.YtdaaoopkkhfbhaaGreatDoor
