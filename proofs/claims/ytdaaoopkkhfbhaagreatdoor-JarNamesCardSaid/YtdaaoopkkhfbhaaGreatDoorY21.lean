/- The walks of header's Right and Text, of headers that can be. -/
import Derived.Test.YtdaaoopkkhfbhaaGreatDoorY20
set_option maxHeartbeats 16000000
set_option maxRecDepth 100000
namespace Go.Proofs.YtdaaoopkkhfbhaaGreatDoor
open Go.RowKit
theorem eAs(h:Hd.Head)(hg:Hd.Good h)(w:World)(hw:mB w):
  Calls Tryz.prog 153 #[.agg (headA h)] w fun e w'=>e= .returned (.bool true)/\Below w.heap.size w w':=by
 have z0:=cO
 have HZ:Hid (∀h:Hd.Head,(headA h).size=11):=zA7 (fun h=>rfl)
 have H1:=zA7 (fun W hW=>mAF h hg W hW)
 unfold VC at H1
 have H2:Hid (∀W,mB W->Calls Tryz.prog 49 #[.string ⟨(Hd.text h).toArray⟩] W fun e w'=>e= .returned (.tuple #[.agg (headA h),.int .i64 0])/\Below W.heap.size W w'):=zA7 (fun W hW=>by
  have hl:=Hd.G0 hg
  have:=aQ ⟨(Hd.text h).toArray⟩ W hW (by rw[size_mk];unfold maxLen;omega)
  have e:(⟨(Hd.text h).toArray⟩:ByteArray).data.toList=Hd.text h:=rfl
  rw[e,Hd.iAh hg]at this
  exact this)
 have HE:=zA7 (fun W=>cAU h W)
 have R0:=Row.new w 114 (headA h)
 have B0:=(Below.refl w.heap.size w).alloc (zB3 _) (.cells (headA h) 114)
 have HW0:=hw.below B0
 generalize(⟨(Hd.text h).toArray⟩:ByteArray)=t at*
 go_enter Tryz.func153,Tryz.ntmps153
 go_wp2_with (refine jA 6 rfl ?_;refine pA rfl 114 _ rfl w.heap.size rfl R0 Tryz.underlying114 rfl (by rw[HZ.out];exact CB) ?_)
 generalize w.alloc (.cells (headA h) 114)=w0 at*
 refine(H1.out _ HW0).mono ?_
 rintro e w1 ⟨rfl,b1⟩
 have R1:=R0.stays b1
 have B1:=B0.trans (b1.mono B0.size)
 go_wp2_with fail
 refine(H2.out _ (hw.below B1)).mono ?_
 rintro e w2 ⟨rfl,b2⟩
 have R2:=R1.stays b2
 have B2:=B1.trans (b2.mono B1.size)
 clear R0 R1 B0 B1 b1 b2 HW0
 obtain⟨T0,U0,V0,W0⟩:=PA 114 (headA Hd.zero) (headA h) B2 B2.size
 have R3:=W0 _ _ _ R2
 have HE2:=HE.out
 go_wp2_with (first
  |(refine wpList_store_row rfl 114 _ _ rfl w2.heap.size (headA h) rfl rfl 114 _ T0 (by rw[HZ.out];exact CB) rfl (MF _) ?_)
  |(refine jA 14 rfl ?_;refine pA rfl 114 _ rfl w2.heap.size rfl U0 Tryz.underlying114 rfl (by rw[HZ.out];exact CB) ?_)
  |(refine jA 15 rfl ?_;refine pA rfl 114 _ rfl w.heap.size rfl R3 Tryz.underlying114 rfl (by rw[HZ.out];exact CB) ?_))
 go_ret
 exact⟨rfl,V0⟩
theorem iAc(s:ByteArray){n:Int}{h:Hd.Head}(hp:Hd.parse s.data.toList=(n,h))(W:World)(hW:mB W)(hs:s.size<=maxLen):Calls Tryz.prog 49 #[.string s] W fun e w'=>e= .returned (.tuple #[.agg (headA h),.int .i64 n])/\Below W.heap.size W w':=by
 have:=aQ s W hW hs
 rw[hp]at this
 exact this
end Go.Proofs.YtdaaoopkkhfbhaaGreatDoor
namespace Go.Proofs.YtdaaoopkkhfbhaaGreatDoor
open Go.RowKit
namespace Hd
open Classical in
noncomputable def rE(r:Raw):Bool:=decide (∃h,Good h/\r=Raw.of h)
open Classical in
theorem nP {r:Raw} :rE r=true↔ ∃h,Good h/\r=Raw.of h:=by unfold rE;exact decide_eq_true_iff
theorem bAe {h:Head}(hg:Good h):rE (Raw.of h)=true:=nP.2 ⟨h,hg,rfl⟩
theorem bAd {r:Raw}(h:rE r=false){X:List UInt8}{g:Head}(hp:parse X=(0,g)):Raw.of g≠r:=fun e=>by
 have:=nP.2 ⟨g,mJ hp,e.symm⟩
 rw[h]at this
 cases this
theorem ST {r:Raw}(h:rE r=true): ∃g,Good g/\r=Raw.of g:=nP.1 h
end Hd
theorem jAz(r:Hd.Raw)(hr:eK r)(w:World)(hw:mB w):
  Calls Tryz.prog 153 #[.agg (KA r)] w fun e w'=>e= .returned (.bool (Hd.rE r))/\Below w.heap.size w w':=by
 cases hc:Hd.rE r with
 |true=>
  obtain⟨g,hg,rfl⟩:=Hd.ST hc
  rw[UY]
  exact eAs g hg w hw
 |false=>
  have z0:=cO
  have HZ:Hid (∀h:Hd.Head,(headA h).size=11):=zA7 (fun h=>rfl)
  have nT:Hid ((KA r).size=11):=zA7 rfl
  have H1:=zA7 (fun W hW=>mAE r hr W hW)
  unfold xT at H1
  have HN:=zA7 (fun X g=> @Hd.bAd r hc X g)
  have R0:=Row.new w 114 (KA r)
  have B0:=(Below.refl w.heap.size w).alloc (zB3 _) (.cells (KA r) 114)
  have HW0:=hw.below B0
  clear hc
  go_enter Tryz.func153,Tryz.ntmps153
  go_wp2_with (refine jA 6 rfl ?_;refine pA rfl 114 _ rfl w.heap.size rfl R0 Tryz.underlying114 rfl (by rw[nT.out];exact CB) ?_)
  generalize w.alloc (.cells (KA r) 114)=w0 at*
  refine(H1.out _ HW0).mono ?_
  rintro e w1 ⟨X,rfl,hX,b1⟩
  have R1:=R0.stays b1
  have B1:=B0.trans (b1.mono B0.size)
  obtain⟨⟨n,g⟩,hp⟩: ∃o,Hd.parse X.data.toList=o:=⟨_,rfl⟩
  have H2:=zA7 (fun W hW=>iAc X hp W hW (by unfold maxLen;omega))
  go_wp2_with fail
  refine(H2.out _ (hw.below B1)).mono ?_
  rintro e w2 ⟨rfl,b2⟩
  have R2:=R1.stays b2
  have B2:=B1.trans (b2.mono B1.size)
  clear R0 R1 B0 B1 b1 b2 HW0 H1 H2
  obtain⟨T0,U0,V0,W0⟩:=PA 114 (headA Hd.zero) (headA g) B2 B2.size
  have R3:=W0 _ _ _ R2
  by_cases hn:n=0
  ·subst hn
   have HE2:(binOp .eql 114 (.agg (headA g)) (.agg (KA r))).run Tryz.prog=fun W=> .ok (.bool false) W:=by
    funext W
    have:=cAV (Hd.Raw.of g) r W
    rw[zA8 (HN.out _ _ hp)]at this
    exact this
   have HE3: ∀W,(binOp .eql 114 (.agg (headA g)) (.agg (KA r))).run Tryz.prog W= .ok (.bool false) W:=fun W=>by rw[HE2]
   clear HE2 HN hp
   go_wp2_with (first
    |(refine wpList_store_row rfl 114 _ _ rfl w2.heap.size (headA g) rfl rfl 114 _ T0 (by rw[HZ.out];exact CB) rfl (MF _) ?_)
    |(refine jA 14 rfl ?_;refine pA rfl 114 _ rfl w2.heap.size rfl U0 Tryz.underlying114 rfl (by rw[HZ.out];exact CB) ?_)
    |(refine jA 15 rfl ?_;refine pA rfl 114 _ rfl w.heap.size rfl R3 Tryz.underlying114 rfl (by rw[nT.out];exact CB) ?_))
   go_ret
   exact⟨rfl,V0⟩
  ·have hn1:(n==0)=false:=by rw[beq_eq_false_iff_ne];exact hn
   clear HN hp hn
   go_wp2_with (refine wpList_store_row rfl 114 _ _ rfl w2.heap.size (headA g) rfl rfl 114 _ T0 (by rw[HZ.out];exact CB) rfl (MF _) ?_)
   go_ret
   exact⟨rfl,V0⟩
end Go.Proofs.YtdaaoopkkhfbhaaGreatDoor
namespace Go.Proofs.YtdaaoopkkhfbhaaGreatDoor
namespace Hd
def Raw.head (r:Raw):Head:=⟨r.name,r.value,r.domain,r.path,if r.BH=true then some r.exp else none,if r.zH=true then some r.age.toNat else none,r.secure,r.only,r.same.toNat⟩
theorem eAx(h:Head):(Raw.of h).head=h:=by
 obtain⟨a1,a2,a3,a4,a5,a6,a7,a8,a9⟩:=h
 unfold Raw.of Raw.head
 cases a5<;>cases a6<;>simp
end Hd
namespace Ad
noncomputable def JE(rs:List Ru.Rule)(u:Ur.URL)(r:Hd.Raw)(now:Int):Int×Ma.iA:=
 if Ur.right u=false then(41,zero)else if Hd.rE r=false then(82,zero)else take rs u r.head now
variable {rs:List Ru.Rule} {u:Ur.URL} {r:Hd.Raw} {now:Int}
theorem LN {g:Hd.Head}(h:Ur.right u=true)(hg:Hd.Good g):JE rs u (Hd.Raw.of g) now=take rs u g now:=by
 unfold JE;rw[if_neg (by rw[h];simp),if_neg (by rw[Hd.bAe hg];simp),Hd.eAx]
end Ad
end Go.Proofs.YtdaaoopkkhfbhaaGreatDoor
namespace Go.Proofs.YtdaaoopkkhfbhaaGreatDoor
open Go.RowKit
def DF(o:Int×Ma.iA)(w:World)(e:Ending)(w':World):Prop:=e= .returned (.tuple #[.agg (dA o.2),.int .i64 o.1])/\Below w.heap.size w w'
end Go.Proofs.YtdaaoopkkhfbhaaGreatDoor
namespace Go.Proofs.YtdaaoopkkhfbhaaGreatDoor
open Go.RowKit Go.Maps
namespace bA
theorem dA1(l:List UInt8):(host (parse l)).name.length<=l.length:=by
 unfold parse
 split
 ·exact Nat.zero_le _
 ·split
  ·rw[YR];split<;>exact Nat.zero_le _
  ·split
   ·rw[WN];split<;>exact Nat.zero_le _
   ·split
    ·exact Nat.le_of_eq (List.length_map ..)
    ·exact Nat.zero_le _
end bA
namespace Ad
theorem X5(rs:List Ru.Rule)(host:bA.Host)(dom:List UInt8)(ha:host.addr.length=16):(whose rs host dom).2.1.addr.length=16:=by
 unfold whose
 split
 ·exact ha
 ·have hp:=bA.XH dom
  cases h:bA.parse dom with
  |none=>rfl
  |some d=>
   rw[h]at hp
   dsimp only
   split
   ·rfl
   ·split
    ·rfl
    ·split
     ·exact ha
     ·exact hp
theorem mAu(rs:List Ru.Rule)(host:bA.Host):whose rs host []=(0,host,true):=by unfold whose;rw[if_pos rfl]
variable {rs:List Ru.Rule} {host d:bA.Host} {dom:List UInt8}
theorem mAv(h0:dom≠ [])(h:bA.parse dom=none):whose rs host dom=(101,bA.zero,false):=by unfold whose;rw[if_neg h0,h]
theorem mAx(h0:dom≠ [])(h:bA.parse dom=some d)(h1:AE rs d=true)(h2:d≠host):whose rs host dom=(102,bA.zero,false):=by
 unfold whose;rw[if_neg h0,h];dsimp only;rw[if_pos ⟨h1,h2⟩]
theorem mAt(h0:dom≠ [])(h:bA.parse dom=some d)(h1:AE rs d=false\/d=host)(h2:Ma.domain host d=false):whose rs host dom=(103,bA.zero,false):=by
 unfold whose;rw[if_neg h0,h];dsimp only
 rw[if_neg (by rcases h1 with h1|h1<;>simp[h1]),if_pos h2]
theorem mAw(h0:dom≠ [])(h:bA.parse dom=some d)(h1:AE rs d=true)(h2:d=host)(h3:Ma.domain host d=true):whose rs host dom=(0,host,true):=by
 unfold whose;rw[if_neg h0,h];dsimp only
 rw[if_neg (by simp[h2]),if_neg (by rw[h3];simp),if_pos h1]
theorem mAy(h0:dom≠ [])(h:bA.parse dom=some d)(h1:AE rs d=false)(h3:Ma.domain host d=true):whose rs host dom=(0,d,false):=by
 unfold whose;rw[if_neg h0,h];dsimp only
 rw[if_neg (by simp[h1]),if_neg (by rw[h3];simp),if_neg (by rw[h1];simp)]
end Ad
def NL(o:Int×bA.Host×Bool)(w:World)(e:Ending)(w':World):Prop:=e= .returned (.tuple #[.agg (cA o.2.1),.bool o.2.2,.int .i64 o.1])/\Below w.heap.size w w'
theorem iA5(rs:List Ru.Rule)(host:bA.Host)(dom:ByteArray)(n₀ tb mb:Nat)(w:World)(hw:Std w)(ha:host.addr.length=16)(hn:host.name.length<=9000)(hd:dom.size<=9000)(hT:TabAt w n₀ tb mb (Sx.new rs)):
  Calls Tryz.prog 96 #[.pointer (some ⟨tb,0,none⟩),.agg (cA host),.string dom] w (NL (Ad.whose rs host dom.data.toList) w):=by
 have z0:=WD
 have HZ:=zA7 (show(cA bA.zero).size=18 from rfl)
 have HZ1:=zA7 (bB bA.zero)
 have HH:=zA7 (XA host ha)
 have O8:=zA7 (bB host)
 have HP:Hid (∀o w',Ad.whose rs host dom.data.toList=o->Below w.heap.size w w'->NL (Ad.whose rs host dom.data.toList) w (.returned (.tuple #[.agg (cA o.2.1),.bool o.2.2,.int .i64 o.1])) w'):=zA7 (fun o w' h hb=>by subst h;exact⟨rfl,hb⟩)
 generalize NL (Ad.whose rs host dom.data.toList) w=post at*
 have R0:=Row.new w 32 (cA host)
 have B0:=(Below.refl w.heap.size w).alloc (zB3 _) (.cells (cA host) 32)
 have hN:(w.alloc (.cells (cA host) 32)).heap.size=w.heap.size+1:=by simp
 have S1:=Row.new (w.alloc (.cells (cA host) 32)) 32 (cA bA.zero)
 rw[hN]at S1
 have R1:=R0.alloc (.cells (cA bA.zero) 32)
 have C1:=B0.alloc B0.size (.cells (cA bA.zero) 32)
 have s0:w.heap.size<=w.heap.size+1:=by omega
 clear R0 B0 hN
 by_cases h0:dom.data.toList= []
 ·have he:dom.toList.isEmpty=true:=by rw[Oct.aB,h0];rfl
  have HO:=zA7 (fun w'=>HP.out (0,host,true) w' (by rw[h0,Ad.mAu]))
  generalize cA host=H at*
  generalize cA bA.zero=Z at*
  clear h0 HP hd hT
  go_enter Tryz.func96,Tryz.ntmps96
  go_wp2_with (first
   |(refine jA 14 rfl ?_;refine pA rfl 32 _ rfl w.heap.size rfl R1 Tryz.underlying32 rfl (by rw[HH.out];exact mA) ?_)
   |(refine wpList_store_row rfl 32 _ _ rfl (w.heap.size+1) H rfl rfl 32 _ S1 (by rw[HH.out];exact mA) (by rw[HH.out,HZ.out]) O8.out ?_))
  exact bodyPost_ret (v:= .tuple #[.agg H,.bool true,.int .i64 0]) (mD rfl _ _ (w.heap.size+1) _ _ _ rfl _ _ rfl rfl (S1.whole _) Tryz.underlying32 rfl (by rw[HH.out];exact mA)) rfl (HO.out _ (below_setRow C1 s0 _))
 ·have he:dom.toList.isEmpty=false:=by
   rw[Oct.aB]
   cases hl:dom.data.toList with
   |nil=>exact absurd hl h0
   |cons=>rfl
  have H1:=zA7 (fun W hW=>oN dom W hW (by omega))
  unfold aC at H1
  have hpl:=bA.XH dom.data.toList
  have hpf:=bA.dA1 dom.data.toList
  rw[Oct.oA]at hpf
  cases hp:bA.parse dom.data.toList with
  |none=>
   rw[hp]at H1
   have H1:Hid (∀W,Std W->Calls Tryz.prog 85 #[.string dom] W fun e w'=>e= .returned (.tuple #[.agg (cA bA.zero),.int .i64 31])/\Below W.heap.size W w'):=H1
   have HO:=zA7 (fun w'=>HP.out (101,bA.zero,false) w' (Ad.mAv h0 hp))
   generalize cA host=H at*
   clear h0 HP hd hT hp hpl hpf
   go_enter Tryz.func96,Tryz.ntmps96
   go_wp2_with fail
   generalize(w.alloc (.cells H 32)).alloc (.cells (cA bA.zero) 32)=x1 at*
   refine(H1.out _ (hw.below C1)).mono ?_
   rintro e v1 ⟨rfl,d1⟩
   have C2:=C1.trans (d1.mono C1.size)
   have S2:=S1.stays d1
   obtain⟨T3,U3,C3,L3⟩:=PA 32 (cA bA.zero) (cA bA.zero) C2 C2.size
   have S3:=L3 _ _ _ S2
   clear H1 S1 C1 d1 L3 S2 R1
   go_wp2_with (first
    |(refine wpList_store_row rfl 32 _ _ rfl v1.heap.size (cA bA.zero) rfl rfl 32 _ T3 (by rw[HZ.out];exact mA) rfl HZ1.out ?_)
    |(refine wpList_store_row rfl 32 _ _ rfl (w.heap.size+1) (cA bA.zero) rfl rfl 32 _ S3 (by rw[HZ.out];exact mA) rfl HZ1.out ?_))
   exact bodyPost_ret (v:= .tuple #[.agg (cA bA.zero),.bool false,.int .i64 101]) (mD rfl _ _ (w.heap.size+1) _ _ _ rfl _ _ rfl rfl (S3.whole _) Tryz.underlying32 rfl (by rw[HZ.out];exact mA)) rfl (HO.out _ (below_setRow C3 s0 _))
  |some d=>
   rw[hp]at H1 hpl hpf
   have hpl:d.addr.length=16:=hpl
   have hpf:d.name.length<=dom.size:=hpf
   have H1:Hid (∀W,Std W->Calls Tryz.prog 85 #[.string dom] W fun e w'=>e= .returned (.tuple #[.agg (cA d),.int .i64 0])/\Below W.heap.size W w'):=H1
   have HD:=zA7 (XA d hpl)
   have HD1:=zA7 (bB d)
   have HT:=zA7 hT
   have H2:=zA7 (fun W hW hT=>iAM (Sx.new rs) d n₀ tb mb W hW hpl (by omega) hT)
   have sW:Sx.isPublic (Sx.suffix (Sx.new rs) d) d=Ad.AE rs d:=rfl
   rw[sW]at H2
   have H3:=zA7 (fun W hW=>dN host d ha hpl (by omega) (by omega) W hW)
   have lE:(∀W,(binOp .neq 32 (.agg (cA d)) (.agg (cA host))).run Tryz.prog W= .ok (.bool (!decide (d=host))) W):=(fun W=>QX d host hpl ha W)
   have CL:=zA7 (fun w' a b=>HP.out (102,bA.zero,false) w' (Ad.mAx h0 hp a b))
   have yO:=zA7 (fun w' a b=>HP.out (103,bA.zero,false) w' (Ad.mAt h0 hp a b))
   have JS:=zA7 (fun w' a b c=>HP.out (0,host,true) w' (Ad.mAw h0 hp a b c))
   have OE:=zA7 (fun w' a b=>HP.out (0,d,false) w' (Ad.mAy h0 hp a b))
   generalize Ad.AE rs d=pb at*
   generalize Ma.domain host d=md at*
   obtain⟨eq,heq⟩: ∃b,decide (d=host)=b:=⟨_,rfl⟩
   rw[heq]at lE
   have pI:=zA7 heq
   clear h0 HP hd hT hp hpf heq sW
   have HH0:Hid (eq=true->cA d=cA host):=zA7 (fun h=>by rw[zB1 (pI.out.trans h)])
   generalize cA host=H at*
   generalize cA d=D at*
   go_enter Tryz.func96,Tryz.ntmps96
   go_wp2_with fail
   generalize(w.alloc (.cells H 32)).alloc (.cells (cA bA.zero) 32)=x1 at*
   refine(H1.out _ (hw.below C1)).mono ?_
   rintro e v1 ⟨rfl,d1⟩
   have C2:=C1.trans (d1.mono C1.size)
   have S2:=S1.stays d1
   have R2:=R1.stays d1
   obtain⟨T3,U3,C3,L3⟩:=PA 32 (cA bA.zero) D C2 C2.size
   have S3:=L3 _ _ _ S2
   have R3:=L3 _ _ _ R2
   clear H1 S1 C1 d1 L3 S2 R1 R2 C2
   go_wp2_with (first
    |(refine wpList_store_row rfl 32 _ _ rfl v1.heap.size D rfl rfl 32 _ T3 (by rw[HD.out];exact mA) (by rw[HD.out,HZ.out]) HD1.out ?_)
    |(refine jA 24 rfl ?_;refine pA rfl 32 _ rfl v1.heap.size rfl U3 Tryz.underlying32 rfl (by rw[HD.out];exact mA) ?_))
   clear T3
   generalize(v1.alloc (.cells (cA bA.zero) 32)).setRow v1.heap.size D=x3 at*
   generalize v1.heap.size=g3 at*
   refine(H2.out _ (hw.below C3) (HT.out.stays C3)).mono ?_
   rintro e v4 ⟨rfl,d4⟩
   have C4:=C3.trans (d4.mono C3.size)
   have S4:=S3.stays d4
   have R4:=R3.stays d4
   have U4:=U3.stays d4
   have hw4:=hw.below C4
   clear H2 S3 R3 U3 d4 C3
   have key:(pb=true/\eq=false)\/((pb=false\/eq=true)/\md=false)\/(pb=true/\eq=true/\md=true)\/(pb=false/\md=true):=by
    cases pb<;>cases eq<;>cases md<;>simp
   have ne:eq=false->d≠host:=fun h=>of_decide_eq_false (pI.out.trans h)
   have ye:eq=true->d=host:=fun h=>zB1 (pI.out.trans h)
   have NE:=zA7 ne
   have YE:=zA7 ye
   clear ne ye pI
   cases pb<;>cases eq<;>cases md
   case true.false.false|true.false.true=>
    clear key
    go_wp2_with (first
     |(refine jA 29 rfl ?_;refine pA rfl 32 _ rfl g3 rfl U4 Tryz.underlying32 rfl (by rw[HD.out];exact mA) ?_)
     |(refine jA 30 rfl ?_;refine pA rfl 32 _ rfl w.heap.size rfl R4 Tryz.underlying32 rfl (by rw[HH.out];exact mA) ?_)
     |(refine wpList_store_row rfl 32 _ _ rfl (w.heap.size+1) (cA bA.zero) rfl rfl 32 _ S4 (by rw[HZ.out];exact mA) rfl HZ1.out ?_))
    exact bodyPost_ret (v:= .tuple #[.agg (cA bA.zero),.bool false,.int .i64 102]) (mD rfl _ _ (w.heap.size+1) _ _ _ rfl _ _ rfl rfl (S4.whole _) Tryz.underlying32 rfl (by rw[HZ.out];exact mA)) rfl (CL.out _ (by trivial) (NE.out (by trivial)) (below_setRow C4 s0 _))
   all_goals
    go_wp2_with (first
     |(refine jA 29 rfl ?_;refine pA rfl 32 _ rfl g3 rfl U4 Tryz.underlying32 rfl (by rw[HD.out];exact mA) ?_)
     |(refine jA 30 rfl ?_;refine pA rfl 32 _ rfl w.heap.size rfl R4 Tryz.underlying32 rfl (by rw[HH.out];exact mA) ?_)
     |(refine jA 35 rfl ?_;refine pA rfl 32 _ rfl w.heap.size rfl R4 Tryz.underlying32 rfl (by rw[HH.out];exact mA) ?_)
     |(refine jA 36 rfl ?_;refine pA rfl 32 _ rfl g3 rfl U4 Tryz.underlying32 rfl (by rw[HD.out];exact mA) ?_))
    refine(H3.out _ hw4).mono ?_
    rintro e v5 ⟨rfl,d5⟩
    have C5:=C4.trans (d5.mono C4.size)
    have S5:=S4.stays d5
    have U5:=U4.stays d5
    clear H3 S4 R4 U4 C4 d5 key
    go_wp2_with (first
     |(refine jA 40 rfl ?_;refine pA rfl 32 _ rfl g3 rfl U5 Tryz.underlying32 rfl (by rw[HD.out];exact mA) ?_)
     |(refine wpList_store_row rfl 32 _ _ rfl (w.heap.size+1) (cA bA.zero) rfl rfl 32 _ S5 (by rw[HZ.out];exact mA) rfl HZ1.out ?_)
     |(refine wpList_store_row rfl 32 _ _ rfl (w.heap.size+1) D rfl rfl 32 _ S5 (by rw[HD.out];exact mA) (by rw[HD.out,HZ.out]) HD1.out ?_))
   ·exact bodyPost_ret (v:= .tuple #[.agg (cA bA.zero),.bool false,.int .i64 103]) (mD rfl _ _ (w.heap.size+1) _ _ _ rfl _ _ rfl rfl (S5.whole _) Tryz.underlying32 rfl (by rw[HZ.out];exact mA)) rfl (yO.out _ (by simp) (by trivial) (below_setRow C5 s0 _))
   ·exact bodyPost_ret (v:= .tuple #[.agg D,.bool false,.int .i64 0]) (mD rfl _ _ (w.heap.size+1) _ _ _ rfl _ _ rfl rfl (S5.whole _) Tryz.underlying32 rfl (by rw[HD.out];exact mA)) rfl (OE.out _ (by trivial) (by trivial) (below_setRow C5 s0 _))
   ·exact bodyPost_ret (v:= .tuple #[.agg (cA bA.zero),.bool false,.int .i64 103]) (mD rfl _ _ (w.heap.size+1) _ _ _ rfl _ _ rfl rfl (S5.whole _) Tryz.underlying32 rfl (by rw[HZ.out];exact mA)) rfl (yO.out _ (by simp) (by trivial) (below_setRow C5 s0 _))
   ·exact bodyPost_ret (v:= .tuple #[.agg D,.bool false,.int .i64 0]) (mD rfl _ _ (w.heap.size+1) _ _ _ rfl _ _ rfl rfl (S5.whole _) Tryz.underlying32 rfl (by rw[HD.out];exact mA)) rfl (OE.out _ (by trivial) (by trivial) (below_setRow C5 s0 _))
   ·exact bodyPost_ret (v:= .tuple #[.agg (cA bA.zero),.bool false,.int .i64 103]) (mD rfl _ _ (w.heap.size+1) _ _ _ rfl _ _ rfl rfl (S5.whole _) Tryz.underlying32 rfl (by rw[HZ.out];exact mA)) rfl (yO.out _ (.inr (YE.out (by trivial))) (by trivial) (below_setRow C5 s0 _))
   ·have hh:=HH0.out (by trivial)
    rw[<-hh]at JS
    exact bodyPost_ret (v:= .tuple #[.agg D,.bool true,.int .i64 0]) (mD rfl _ _ (w.heap.size+1) _ _ _ rfl _ _ rfl rfl (S5.whole _) Tryz.underlying32 rfl (by rw[HD.out];exact mA)) rfl (JS.out _ (by trivial) (YE.out (by trivial)) (by trivial) (below_setRow C5 s0 _))
end Go.Proofs.YtdaaoopkkhfbhaaGreatDoor
namespace Go.Proofs.YtdaaoopkkhfbhaaGreatDoor
open Go.RowKit
namespace Ad
def QD(s t:List UInt8):Bool:=decide ((s.take t.length).map Oct.low=t)
theorem aAS {s t:List UInt8}(h:s.length<t.length):QD s t=false:=by
 unfold QD
 refine zA8 fun e=>?_
 have:=congrArg List.length e
 rw[List.length_map,List.length_take]at this
 omega
theorem iAH(n:List UInt8):pre n=if QD n BN=true then 1 else if QD n AN=true then 2 else 0:=by
 unfold pre QD
 simp only[decide_eq_true_eq]
 rfl
end Ad
end Go.Proofs.YtdaaoopkkhfbhaaGreatDoor
namespace Go.Proofs.YtdaaoopkkhfbhaaGreatDoor
open Go.RowKit
theorem LT(s t:ByteArray)(w:World)(hs:s.size<=1048576){x:List UInt8}(hx:t.data.toList.map Oct.low=x):
  Calls Tryz.prog 265 #[.string s,.string t] w fun e w'=>e= .returned (.bool (Ad.QD s.data.toList x))/\Below w.heap.size w w':=by
 have hxl:x.length=t.size:=by rw[<-hx,List.length_map,Oct.oA]
 by_cases h:t.size<=s.size
 ·have h1:(t.size:Int)<=(s.size:Int):=by omega
  have e:(s.extract 0 t.size).data.toList=s.data.toList.take t.size:=by rw[vH]
  have hz:(s.extract 0 t.size).size<=1048576:=by
   rw[<-Oct.oA,e,List.length_take];omega
  have H1:Hid (∀W,Calls Tryz.prog 147 #[.string (s.extract 0 t.size),.string t] W (qF (Ad.QD s.data.toList x) W)):=zA7 (fun W=>by
   have:=DN (s.extract 0 t.size) t W (by unfold maxLen;omega)
   have e2:Oct.NB (s.extract 0 t.size).data.toList t.data.toList=Ad.QD s.data.toList x:=by
    unfold Oct.NB Ad.QD
    rw[e,hx,hxl]
   rw[e2]at this
   exact this)
  unfold qF at H1
  generalize Ad.QD s.data.toList x=B at*
  clear hz h e hx hxl
  go_enter Tryz.func265,Tryz.ntmps265
  go_wp2_with (go_at_call 147;refine(H1.out _).mono ?_;rintro e w1 ⟨rfl,d1⟩)
  go_ret
  exact⟨rfl,d1.below _⟩
 ·have h1: ¬(t.size:Int)<=(s.size:Int):=by omega
  have HR:=zA7 (Ad.aAS (s:=s.data.toList) (t:=x) (by rw[Oct.oA,hxl];omega))
  generalize Ad.QD s.data.toList x=B at*
  clear h hx hxl
  go_enter Tryz.func265,Tryz.ntmps265
  go_wp2
  go_ret
  exact⟨tA HR.out.symm,Below.refl _ _⟩
theorem FY(s:ByteArray)(w:World)(hs:s.size<=1048576):
  Calls Tryz.prog 212 #[.string s] w fun e w'=>e= .returned (.int .i64 (Ad.pre s.data.toList))/\Below w.heap.size w w':=by
 have H1:=zA7 (fun W=>LT s ⟨#[95,95,83,101,99,117,114,101,45]⟩ W hs (show([95,95,83,101,99,117,114,101,45]:List UInt8).map Oct.low=Ad.BN from by decide))
 have H2:=zA7 (fun W=>LT s ⟨#[95,95,72,111,115,116,45]⟩ W hs (show([95,95,72,111,115,116,45]:List UInt8).map Oct.low=Ad.AN from by decide))
 have HR:=zA7 (Ad.iAH s.data.toList)
 generalize Ad.pre s.data.toList=p at*
 generalize Ad.QD s.data.toList Ad.BN=b1 at*
 generalize Ad.QD s.data.toList Ad.AN=b2 at*
 cases b1
 ·cases b2
  ·have HP:Hid (p=0):=zA7 (by rw[HR.out,if_neg (by decide),if_neg (by decide)])
   clear HR
   go_enter Tryz.func212,Tryz.ntmps212
   go_wp2_with fail
   refine(H1.out _).mono ?_
   rintro e w1 ⟨rfl,d1⟩
   go_wp2_with fail
   refine(H2.out _).mono ?_
   rintro e w2 ⟨rfl,d2⟩
   go_wp2
   go_ret
   exact⟨by rw[HP.out];rfl,d1.trans (d2.mono d1.size)⟩
  ·have HP:Hid (p=2):=zA7 (by rw[HR.out,if_neg (by decide),if_pos rfl])
   clear HR
   go_enter Tryz.func212,Tryz.ntmps212
   go_wp2_with fail
   refine(H1.out _).mono ?_
   rintro e w1 ⟨rfl,d1⟩
   go_wp2_with fail
   refine(H2.out _).mono ?_
   rintro e w2 ⟨rfl,d2⟩
   go_wp2
   go_ret
   exact⟨by rw[HP.out];rfl,d1.trans (d2.mono d1.size)⟩
 ·have HP:Hid (p=1):=zA7 (by rw[HR.out,if_pos rfl])
  clear HR
  go_enter Tryz.func212,Tryz.ntmps212
  go_wp2_with fail
  refine(H1.out _).mono ?_
  rintro e w1 ⟨rfl,d1⟩
  go_wp2
  go_ret
  exact⟨by rw[HP.out];rfl,d1⟩
theorem aAX(g:Hd.Head)(only:Bool)(hn:g.name.length<=9000)(hv:g.value.length<=9000)(w:World):
  Calls Tryz.prog 155 #[.agg (headA g),.bool only] w fun e w'=>e= .returned (.bool (Ad.breaks g only))/\Below w.heap.size w w':=by
 have R0:=Row.new w 114 (headA g)
 have B0:=(Below.refl w.heap.size w).alloc (zB3 _) (.cells (headA g) 114)
 obtain⟨nb,hnb⟩: ∃b:ByteArray,b=⟨g.name.toArray⟩:=⟨_,rfl⟩
 obtain⟨vb,hvb⟩: ∃b:ByteArray,b=⟨g.value.toArray⟩:=⟨_,rfl⟩
 obtain⟨pb,hpb⟩: ∃b:ByteArray,b=⟨g.path.toArray⟩:=⟨_,rfl⟩
 have q0:(headA g)[0]? =some (.string nb):=by rw[hnb];rfl
 have q1:(headA g)[1]? =some (.string vb):=by rw[hvb];rfl
 have q3:(headA g)[3]? =some (.string pb):=by rw[hpb];rfl
 have q8:(headA g)[8]? =some (.bool g.secure):=rfl
 have hpq:(pb.toList== [47])=decide (g.path= [47]):=by
  rw[hpb,Oct.aB,Bool.eq_iff_iff];simp
 have HB:=zA7 (show Ad.breaks g only=((decide (Ad.pre (Ad.told g)=1)&& !g.secure)||(decide (Ad.pre (Ad.told g)=2)&& (!g.secure|| !only|| !decide (g.path= [47])))) from rfl)
 have HC:=zA7 (Ad.iAI (Ad.told g))
 have key: ∃(ne:Bool)(tb:ByteArray),nb.toList.isEmpty=ne/\tb=(if ne=true then vb else nb)/\(∀W,Calls Tryz.prog 212 #[.string tb] W fun e w'=>e= .returned (.int .i64 (Ad.pre (Ad.told g)))/\Below W.heap.size W w'):=by
  by_cases hg:g.name= []
  ·refine⟨true,vb,by rw[hnb,sK,zA9 hg],rfl,fun W=>?_⟩
   have:=FY vb W (by rw[<-Oct.oA,hvb];show g.value.length<=_;omega)
   unfold Ad.told
   rw[if_pos hg]
   rw[hvb]at this⊢
   exact this
  ·refine⟨false,nb,by rw[hnb,sK,zA8 hg],rfl,fun W=>?_⟩
   have:=FY nb W (by rw[<-Oct.oA,hnb];show g.name.length<=_;omega)
   unfold Ad.told
   rw[if_neg hg]
   rw[hnb]at this⊢
   exact this
 obtain⟨ne,tb,hne,htb,HP⟩:=key
 have HP:=zA7 HP
 generalize Ad.pre (Ad.told g)=p at*
 generalize Ad.breaks g only=r at*
 generalize decide (g.path= [47])=pe at*
 generalize g.secure=sec at*
 generalize headA g=U at*
 have c0:=(R0.cell 0).trans q0
 have c1:=(R0.cell 1).trans q1
 clear hnb hvb hpb hn hv
 cases ne
 all_goals
  simp only[Bool.false_eq_true,if_false,if_true]at htb
  subst htb
  go_enter Tryz.func155,Tryz.ntmps155
  go_wp2_with fail
  generalize w.alloc (.cells U 114)=w0 at*
  refine(HP.out _).mono ?_
  rintro e w1 ⟨rfl,d1⟩
  have R1:=R0.stays d1
  have B1:=B0.trans (d1.mono B0.size)
  have c3:=(R1.cell 3).trans q3
  have c8:=(R1.cell 8).trans q8
  clear R0 B0 c0 c1 HP d1
  rcases HC.out with rfl|rfl|rfl
  ·have HR:Hid (r=false):=zA7 (by rw[HB.out];simp)
   clear HC HB
   go_wp2
   go_ret
   exact⟨tA HR.out.symm,B1⟩
  ·have HR:Hid (r= !sec):=zA7 (by rw[HB.out];simp)
   clear HC HB
   go_wp2
   go_ret
   exact⟨tA HR.out.symm,B1⟩
  ·have HR:Hid (r=(!sec|| !only|| !pe)):=zA7 (by rw[HB.out];simp)
   clear HC HB
   cases sec<;>cases only<;>cases pe
   all_goals
    go_wp2
    go_ret
    exact⟨tA HR.out.symm,B1⟩
end Go.Proofs.YtdaaoopkkhfbhaaGreatDoor
namespace Go.Proofs.YtdaaoopkkhfbhaaGreatDoor
open Go.RowKit
namespace Ad
def risk(g:Hd.Head)(sec only:Bool):Int:=if g.secure=true/\sec=false then 104 else if g.same=1/\g.secure=false then 105 else if breaks g only=true then 106 else 0
end Ad
theorem jAC(g:Hd.Head)(sec only:Bool)(hn:g.name.length<=9000)(hv:g.value.length<=9000)(w:World):
  Calls Tryz.prog 97 #[.agg (headA g),.bool sec,.bool only] w fun e w'=>e= .returned (.int .i64 (Ad.risk g sec only))/\Below w.heap.size w w':=by
 have R0:=Row.new w 114 (headA g)
 have B0:=(Below.refl w.heap.size w).alloc (zB3 _) (.cells (headA g) 114)
 have HS:=zA7 (eAr g)
 have H1:=zA7 (fun W=>aAX g only hn hv W)
 obtain⟨s1,hs1⟩: ∃b,decide (g.same=1)=b:=⟨_,rfl⟩
 have hk:(((g.same:Nat):Int)==1)=s1:=by rw[<-hs1,Bool.eq_iff_iff];simp;omega
 have HR:=zA7 (show Ad.risk g sec only=(if(g.secure&& !sec)=true then 104 else if(s1&& !g.secure)=true then 105 else if Ad.breaks g only=true then 106 else 0) from by
  unfold Ad.risk
  rw[<-hs1]
  simp only[Bool.and_eq_true,decide_eq_true_eq,Bool.not_eq_true'])
 have q8:(headA g)[8]? =some (.bool g.secure):=rfl
 have xN:(headA g)[10]? =some (.int .i64 (g.same:Int)):=rfl
 have c8:=(R0.cell 8).trans q8
 have c10:=(R0.cell 10).trans xN
 generalize Ad.breaks g only=br at*
 generalize Ad.risk g sec only=r at*
 generalize g.secure=sc at*
 generalize(((g.same:Nat):Int))=sm at*
 generalize headA g=U at*
 clear q8 xN hn hv hs1
 go_enter Tryz.func97,Tryz.ntmps97
 cases sc<;>cases sec<;>cases s1
 case true.false.false|true.false.true=>
  go_wp2
  go_ret
  exact⟨by rw[HR.out];rfl,B0⟩
 case false.false.true|false.true.true=>
  go_wp2
  go_ret
  exact⟨by rw[HR.out];rfl,B0⟩
 all_goals
  go_wp2_with (refine jA 24 rfl ?_;refine pA rfl 114 _ rfl w.heap.size rfl R0 Tryz.underlying114 rfl (by rw[HS.out];exact CB) ?_)
  generalize w.alloc (.cells U 114)=w0 at*
  refine(H1.out _).mono ?_
  rintro e w1 ⟨rfl,d1⟩
  have B1:=B0.trans (d1.mono B0.size)
  cases br
  all_goals
   go_wp2
   go_ret
   exact⟨by rw[HR.out];rfl,B1⟩
theorem iAq(u:Ur.URL)(ha:u.host.addr.length=16)(hp:u.path.length<=9000)(g:Hd.Head)(w:World):
  Calls Tryz.prog 98 #[.agg (headA g),.agg (nA u)] w fun e w'=>e= .returned (.string ⟨(Ad.pathOf u g).toArray⟩)/\Below w.heap.size w w':=by
 have R0:=Row.new w 114 (headA g)
 have B0:=(Below.refl w.heap.size w).alloc (zB3 _) (.cells (headA g) 114)
 have hN:(w.alloc (.cells (headA g) 114)).heap.size=w.heap.size+1:=by simp
 have S1:=Row.new (w.alloc (.cells (headA g) 114)) 34 (nA u)
 rw[hN]at S1
 have R1:=R0.alloc (.cells (nA u) 34)
 have C1:=B0.alloc B0.size (.cells (nA u) 34)
 obtain⟨pb,hpb⟩: ∃b:ByteArray,b=⟨g.path.toArray⟩:=⟨_,rfl⟩
 obtain⟨ub,hub⟩: ∃b:ByteArray,b=⟨u.path.toArray⟩:=⟨_,rfl⟩
 have q3:(headA g)[3]? =some (.string pb):=by rw[hpb];rfl
 have bR:(nA u)[20]? =some (.string ub):=by rw[hub];exact yJ u ha
 have c3:=(R1.cell 3).trans q3
 have c20:=(S1.cell 20).trans bR
 have H1:Hid (∀W,Calls Tryz.prog 156 #[.string ub] W fun e w'=>e= .returned (.string ⟨(Ma.default u.path).toArray⟩)/\W=w'):=zA7 (fun W=>by
  have:=gAG ub W (by rw[<-Oct.oA,hub];show u.path.length<_;omega)
  rw[hub]at this⊢
  exact this)
 by_cases hg:g.path= []
 ·have he:pb.toList.isEmpty=true:=by rw[hpb,sK,zA9 hg]
  have HR:=zA7 (show Ad.pathOf u g=Ma.default u.path from by unfold Ad.pathOf;rw[if_pos hg])
  generalize Ad.pathOf u g=r at*
  generalize Ma.default u.path=dp at*
  generalize headA g=U at*
  generalize nA u=V at*
  clear hg hpb hub R0 B0 hN q3 bR R1 S1
  go_enter Tryz.func98,Tryz.ntmps98
  go_wp2_with fail
  refine(H1.out _).mono ?_
  rintro e w1 ⟨rfl,rfl⟩
  go_wp2
  go_ret
  exact⟨by rw[HR.out];rfl,C1⟩
 ·have he:pb.toList.isEmpty=false:=by rw[hpb,sK,zA8 hg]
  have HR:=zA7 (show Ad.pathOf u g=g.path from by unfold Ad.pathOf;rw[if_neg hg])
  have J9:=zA7 hpb
  generalize Ad.pathOf u g=r at*
  generalize headA g=U at*
  generalize nA u=V at*
  clear hg hpb hub R0 B0 hN q3 bR R1 S1 H1
  go_enter Tryz.func98,Tryz.ntmps98
  go_wp2
  go_ret
  exact⟨by rw[HR.out];first|rfl|(rw[J9.out];rfl),C1⟩
theorem cAM(g:Hd.Head)(now:Int)(hn:0<=now/\now<=1099511627776)(hg:Hd.Good g)(w:World):
  Calls Tryz.prog 99 #[.agg (headA g),.int .i64 now] w fun e w'=>e= .returned (.int .i64 (Ad.ends g now))/\Below w.heap.size w w':=by
 have R0:=Row.new w 114 (headA g)
 have B0:=(Below.refl w.heap.size w).alloc (zB3 _) (.cells (headA g) 114)
 have q4:(headA g)[4]? =some (.bool g.exp.isSome):=rfl
 have q5:(headA g)[5]? =some (.int .i64 (g.exp.getD 0)):=rfl
 have q6:(headA g)[6]? =some (.bool g.age.isSome):=rfl
 have q7:(headA g)[7]? =some (.int .i64 ((g.age.getD 0:Nat):Int)):=rfl
 have c4:=(R0.cell 4).trans q4
 have c5:=(R0.cell 5).trans q5
 have c6:=(R0.cell 6).trans q6
 have c7:=(R0.cell 7).trans q7
 have HA:=zA7 hg.age
 clear q4 q5 q6 q7 R0
 cases ha:g.age with
 |some a=>
  rw[ha]at c6 c7
  have h1:=HA.out a ha
  have HR:=zA7 (show Ad.ends g now=now+(a:Int) from by unfold Ad.ends;rw[ha])
  have hw:IntKind.i64.wrap (now+(a:Int))=now+(a:Int):=by rw[IntKind.wrap_i64];omega
  simp only[Option.isSome_some,Option.getD_some]at c6 c7
  generalize Ad.ends g now=r at*
  generalize headA g=U at*
  clear c4 c5 HA ha
  go_enter Tryz.func99,Tryz.ntmps99
  go_wp2
  go_ret
  exact⟨by rw[HR.out];rfl,B0⟩
 |none=>
  rw[ha]at c6 c7
  simp only[Option.isSome_none,Option.getD_none]at c6 c7
  cases hx:g.exp with
  |some x=>
   rw[hx]at c4 c5
   simp only[Option.isSome_some,Option.getD_some]at c4 c5
   have HR:=zA7 (show Ad.ends g now=min x (now+34560000) from by unfold Ad.ends;rw[ha,hx])
   have hw:IntKind.i64.wrap (now+34560000)=now+34560000:=by rw[IntKind.wrap_i64];omega
   generalize Ad.ends g now=r at*
   generalize headA g=U at*
   clear HA ha hx c7
   go_enter Tryz.func99,Tryz.ntmps99
   go_wp2
   go_ret
   exact⟨by rw[HR.out];rfl,B0⟩
  |none=>
   rw[hx]at c4 c5
   simp only[Option.isSome_none,Option.getD_none]at c4 c5
   have HR:=zA7 (show Ad.ends g now=9223372036854775807 from by unfold Ad.ends;rw[ha,hx];rfl)
   generalize Ad.ends g now=r at*
   generalize headA g=U at*
   clear HA ha hx c7 c5
   go_enter Tryz.func99,Tryz.ntmps99
   go_wp2
   go_ret
   exact⟨by rw[HR.out];rfl,B0⟩
end Go.Proofs.YtdaaoopkkhfbhaaGreatDoor
namespace Go.Proofs.YtdaaoopkkhfbhaaGreatDoor
open Go.RowKit
theorem bAk {u:Ur.URL}(ha:u.host.addr.length=16){p:ByteArray}(hp:p=⟨u.path.toArray⟩):(nA u)[20]? =some (.string p):=by
 rw[yJ u ha,hp];rfl
theorem V3(u:Ur.URL)(ha:u.host.addr.length=16)(hn:u.host.name.length<=1048000)(w:World)(hw:Std w):
  Calls Tryz.prog 48 #[.agg (nA u)] w fun e w'=>e= .returned (.bool (Ur.right u))/\Below w.heap.size w w':=by
 have H1:=zA7 (fun W hW=>jR u.host ha hn W hW)
 have HU:=zA7 (VG u ha)
 have HH:=zA7 (TR u ha)
 obtain⟨p,hp⟩: ∃p:ByteArray,p=⟨u.path.toArray⟩:=⟨_,rfl⟩
 have hpl:p.data.toList=u.path:=by rw[hp]
 have H2:=fun W=>iAr p W
 rw[hpl]at H2
 have H2:=zA7 H2
 have G7:=zA7 (UR u ha)
 have I7:=zA7 (bAk ha hp)
 have hr:Ur.right u=(bA.can u.host&& (decide (1<=u.port/\u.port<=65535)&&Ur.cC u.path)):=rfl
 have HR:=zA7 hr
 have R0:=Row.new w 34 (nA u)
 have B0:=(Below.refl w.heap.size w).alloc (zB3 _) (.cells (nA u) 34)
 clear hp hpl hr
 generalize cA u.host=X at*
 generalize nA u=U at*
 generalize Ur.cC u.path=q at*
 generalize bA.can u.host=b at*
 rw[HR.out]
 clear HR
 generalize u.port=n at*
 go_enter Tryz.func48,Tryz.ntmps48
 go_wp2_with (refine jA 4 rfl ?_;refine eD rfl 32 _ rfl w.heap.size 1 18 rfl R0 Tryz.underlying32 rfl mA (by rw[HU.out];decide) X HH.out ?_)
 generalize w.alloc (.cells U 34)=w0 at*
 refine(H1.out _ (hw.below B0)).mono ?_
 rintro e v1 ⟨rfl,d1⟩
 have R1:=R0.stays d1
 have B1:=B0.trans (d1.mono B0.size)
 have c19:=(R1.cell 19).trans G7.out
 have c20:=(R1.cell 20).trans I7.out
 clear R0 B0 d1
 cases b with
 |false=>
  go_wp2
  go_ret
  exact⟨rfl,B1⟩
 |true=>
  by_cases h1:1<=n
  ·by_cases h2:n<=65535
   ·go_wp2_with (go_at_call 89;refine(H2.out _).mono ?_;rintro e v2 ⟨rfl,rfl⟩)
    go_ret
    exact⟨tA (by rw[zA9 (show 1<=n/\n<=65535 from⟨h1,h2⟩)];rfl),B1⟩
   ·go_wp2
    go_ret
    exact⟨tA (by rw[zA8 (show ¬n<=65535 by omega)];simp),B1⟩
  ·go_wp2
   go_ret
   exact⟨tA (by rw[zA8 (show ¬1<=n by omega)];simp),B1⟩
namespace Ur
end Ur
end Go.Proofs.YtdaaoopkkhfbhaaGreatDoor
namespace Go.Proofs.YtdaaoopkkhfbhaaGreatDoor
open Go.RowKit Go.Maps
namespace Ad
noncomputable def eG(u:Ur.URL)(r:Hd.Raw)(now:Int):Int:=if Ur.right u=false then 41 else if Hd.rE r=false then 82 else if now<0\/1099511627776<now then 122 else 0
variable {rs:List Ru.Rule} {u:Ur.URL} {r:Hd.Raw} {now:Int}
theorem lAW(h:eG u r now≠0):JE rs u r now=(eG u r now,zero):=by
 unfold eG JE at*
 split
 ·rfl
 ·rename_i h1
  rw[if_neg h1]at h
  split
  ·rfl
  ·rename_i h2
   rw[if_neg h2]at h
   split
   ·rename_i h3;unfold take;rw[if_pos h3]
   ·rename_i h3;rw[if_neg h3]at h;exact absurd rfl h
theorem lAX(h:eG u r now=0): ∃g,Hd.Good g/\r=Hd.Raw.of g/\(0<=now/\now<=1099511627776)/\Ur.right u=true/\JE rs u r now=take rs u g now:=by
 unfold eG at h
 split at h
 ·cases h
 ·rename_i h1
  split at h
  ·cases h
  ·rename_i h2
   split at h
   ·cases h
   ·rename_i h3
    obtain⟨g,hg,e⟩:=Hd.ST (by simpa using h2)
    have h1:Ur.right u=true:=by simpa using h1
    exact⟨g,hg,e,by omega,h1,by rw[e,LN h1 hg]⟩
theorem lA2 {g:Hd.Head}(hn:0<=now/\now<=1099511627776):take rs u g now=if(whose rs u.host g.domain).1≠0 then((whose rs u.host g.domain).1,zero)else if risk g u.secure (whose rs u.host g.domain).2.2≠0 then(risk g u.secure (whose rs u.host g.domain).2.2,zero)else(0,OA u g now (whose rs u.host g.domain).2.1 (whose rs u.host g.domain).2.2):=by
 unfold take
 rw[if_neg (by omega)]
 split
 ·rfl
 ·unfold risk
  split
  ·rfl
  ·split
   ·rfl
   ·split
    ·rfl
    ·rfl
end Ad
theorem lAV(u:Ur.URL)(ha:u.host.addr.length=16)(hn:u.host.name.length<=9000)(r:Hd.Raw)(hr:eK r)(now:Int)(w:World)(hw:mB w):
  Calls Tryz.prog 95 #[.agg (nA u),.agg (KA r),.int .i64 now] w fun e w'=>e= .returned (.int .i64 (Ad.eG u r now))/\Below w.heap.size w w':=by
 have HU:=zA7 (VG u ha)
 have HR:=zA7 (show(KA r).size=11 from rfl)
 have H1:=zA7 (fun W hW=>V3 u ha (by omega) W hW)
 have H2:=zA7 (fun W hW=>jAz r hr W hW)
 have HN:=zA7 (show Ad.eG u r now=if Ur.right u=false then 41 else if Hd.rE r=false then 82 else if now<0\/1099511627776<now then 122 else 0 from rfl)
 have R0:=Row.new w 34 (nA u)
 have B0:=(Below.refl w.heap.size w).alloc (zB3 _) (.cells (nA u) 34)
 have hN:(w.alloc (.cells (nA u) 34)).heap.size=w.heap.size+1:=by simp
 have S1:=Row.new (w.alloc (.cells (nA u) 34)) 114 (KA r)
 rw[hN]at S1
 have R1:=R0.alloc (.cells (KA r) 114)
 have C1:=B0.alloc B0.size (.cells (KA r) 114)
 clear R0 B0 hN ha hn hr
 generalize Ad.eG u r now=x at*
 generalize Ur.right u=b1 at*
 generalize Hd.rE r=b2 at*
 generalize nA u=U at*
 generalize KA r=V at*
 go_enter Tryz.func95,Tryz.ntmps95
 go_wp2_with (refine jA 8 rfl ?_;refine pA rfl 34 _ rfl w.heap.size rfl R1 Tryz.underlying34 rfl (by rw[HU.out];exact DB) ?_)
 generalize(w.alloc (.cells U 34)).alloc (.cells V 114)=x1 at*
 refine(H1.out _ (hw.below C1).MC.std).mono ?_
 rintro e v1 ⟨rfl,d1⟩
 have C2:=C1.trans (d1.mono C1.size)
 have S2:=S1.stays d1
 clear H1 S1 R1 C1 d1
 cases b1
 ·have hx:Hid (x=41):=zA7 (by rw[HN.out,if_pos rfl])
  clear HN H2
  go_wp2
  go_ret
  exact⟨BC hx.out.symm,C2⟩
 ·go_wp2_with (refine jA 12 rfl ?_;refine pA rfl 114 _ rfl (w.heap.size+1) rfl S2 Tryz.underlying114 rfl (by rw[HR.out];exact CB) ?_)
  refine(H2.out _ (hw.below C2)).mono ?_
  rintro e v2 ⟨rfl,d2⟩
  have C3:=C2.trans (d2.mono C2.size)
  clear H2 S2 C2 d2
  cases b2
  ·have hx:Hid (x=82):=zA7 (by rw[HN.out,if_neg (by decide),if_pos rfl])
   clear HN
   go_wp2
   go_ret
   exact⟨BC hx.out.symm,C3⟩
  ·have h3:now<0\/(¬now<0/\1099511627776<now)\/(¬now<0/\ ¬1099511627776<now):=by omega
   rcases h3 with h|⟨h,k⟩|⟨h,k⟩
   ·have hx:Hid (x=122):=zA7 (by rw[HN.out,if_neg (by decide),if_neg (by decide),if_pos (.inl h)])
    clear HN
    go_wp2
    go_ret
    exact⟨BC hx.out.symm,C3⟩
   ·have hx:Hid (x=122):=zA7 (by rw[HN.out,if_neg (by decide),if_neg (by decide),if_pos (.inr k)])
    clear HN
    go_wp2
    go_ret
    exact⟨BC hx.out.symm,C3⟩
   ·have hx:Hid (x=0):=zA7 (by rw[HN.out,if_neg (by decide),if_neg (by decide),if_neg (by omega)])
    clear HN
    go_wp2
    go_ret
    exact⟨BC hx.out.symm,C3⟩
theorem AW {a b:World}{P:Ending->Prop}(hC:Below a.heap.size a b){f:FuncId}{args:Array Value}(h:Calls Tryz.prog f args b fun e w'=>P e/\Below b.heap.size b w'):
  Calls Tryz.prog f args b fun e w'=>P e/\Below a.heap.size a w':=
 h.mono fun _ _ ⟨h1,h2⟩=>⟨h1,hC.trans (h2.mono hC.size)⟩
theorem aAu(rs:List Ru.Rule)(u:Ur.URL)(ha:u.host.addr.length=16)(hn:u.host.name.length<=9000)(hp:u.path.length<=9000)(r:Hd.Raw)(hr:eK r)(now:Int)(n₀ tb mb:Nat)(w:World)(hw:mB w)(hT:TabAt w n₀ tb mb (Sx.new rs)):
  Calls Tryz.prog 50 #[.pointer (some ⟨tb,0,none⟩),.agg (nA u),.agg (KA r),.int .i64 now] w (DF (Ad.JE rs u r now) w):=by
 have z0:=XG
 have z1:=WD
 have HZ:=zA7 (show(dA Ma.xA).size=29 from rfl)
 have HZ1:=zA7 (FD Ma.xA)
 have mT:=zA7 (show(cA bA.zero).size=18 from rfl)
 have HU:=zA7 (VG u ha)
 have HR:=zA7 (show(KA r).size=11 from rfl)
 have Y9:=zA7 (TR u ha)
 have UJ:=zA7 (fun W hW=>lAV u ha hn r hr now W hW)
 have HP:Hid (∀o w',Ad.JE rs u r now=o->Below w.heap.size w w'->DF (Ad.JE rs u r now) w (.returned (.tuple #[.agg (dA o.2),.int .i64 o.1])) w'):=zA7 (fun o w' h hb=>by subst h;exact⟨rfl,hb⟩)
 generalize DF (Ad.JE rs u r now) w=post at*
 have R0:=Row.new w 34 (nA u)
 have B0:=(Below.refl w.heap.size w).alloc (zB3 _) (.cells (nA u) 34)
 have hN:(w.alloc (.cells (nA u) 34)).heap.size=w.heap.size+1:=by simp
 have S1:=Row.new (w.alloc (.cells (nA u) 34)) 114 (KA r)
 rw[hN]at S1
 have R1:=R0.alloc (.cells (KA r) 114)
 have B1:=B0.alloc B0.size (.cells (KA r) 114)
 have PV:((w.alloc (.cells (nA u) 34)).alloc (.cells (KA r) 114)).heap.size=w.heap.size+2:=by simp
 have T2:=Row.new ((w.alloc (.cells (nA u) 34)).alloc (.cells (KA r) 114)) 64 (dA Ma.xA)
 rw[PV]at T2
 have R2:=R1.alloc (.cells (dA Ma.xA) 64)
 have S2:=S1.alloc (.cells (dA Ma.xA) 64)
 have C2:=B1.alloc B1.size (.cells (dA Ma.xA) 64)
 have s0:w.heap.size<=w.heap.size+2:=by omega
 clear R0 B0 hN S1 R1 B1 PV
 obtain⟨n,hun⟩: ∃n,Ad.eG u r now=n:=⟨_,rfl⟩
 rw[hun]at UJ
 by_cases h0:n=0
 ·subst h0
  obtain⟨g,hg,rfl,hQ,hur,htk⟩:=Ad.lAX (rs:=rs) hun
  rw[htk,Ad.lA2 hQ]at HP
  rw[UY]at*
  have hgd:=hg.tH
  have HOW:=zA7 (fun W hW hT=>iA5 rs u.host ⟨g.domain.toArray⟩ n₀ tb mb W hW ha hn (by rw[<-Oct.oA];show g.domain.length<=9000;omega) hT)
  unfold NL at HOW
  have QJ:=zA7 (fun o W=>jAC g u.secure o (by have:=hg.few;omega) (by have:=hg.few;omega) W)
  have nE:=zA7 (fun W=>iAq u ha hp g W)
  have uL:=zA7 (fun W=>cAM g now hQ hg W)
  have hol:=Ad.X5 rs u.host g.domain ha
  have q0:(headA g)[0]? =some (.string ⟨g.name.toArray⟩):=rfl
  have q1:(headA g)[1]? =some (.string ⟨g.value.toArray⟩):=rfl
  have q2:(headA g)[2]? =some (.string ⟨g.domain.toArray⟩):=rfl
  have q8:(headA g)[8]? =some (.bool g.secure):=rfl
  have q9:(headA g)[9]? =some (.bool g.only):=rfl
  have xN:(headA g)[10]? =some (.int .i64 (g.same:Int)):=rfl
  have p0:(nA u)[0]? =some (.bool u.secure):=rfl
  have mI:=zA7 (fun x:Int×bA.Host×Bool=>fun(hx:x.2.1.addr.length=16)=>bA0 (Ad.OA u g now x.2.1 x.2.2) hx rfl)
  have aH:=zA7 (fun x:Int×bA.Host×Bool=>fun(hx:x.2.1.addr.length=16)=>TA (Ad.OA u g now x.2.1 x.2.2) hx)
  have KC:=zA7 (fun x:Int×bA.Host×Bool=>FD (Ad.OA u g now x.2.1 x.2.2))
  unfold Ad.OA iU gA at mI
  dsimp only at mI
  have hcv: ∀x:Int×bA.Host×Bool,dA (Ad.OA u g now x.2.1 x.2.2)=dA ⟨g.name,g.value,x.2.1,x.2.2,Ad.pathOf u g,g.secure,g.only,g.same,Ad.ends g now,now,now,0⟩:=fun x=>rfl
  have hbd:(⟨g.domain.toArray⟩:ByteArray).data.toList=g.domain:=rfl
  rw[hbd]at HOW
  obtain⟨⟨oc,oh,oo⟩,xW⟩: ∃o,Ad.whose rs u.host g.domain=o:=⟨_,rfl⟩
  rw[xW]at HOW HP hol
  dsimp only at HOW HP hol
  have mI:=zA7 (mI.out (oc,oh,oo) hol)
  have aH:=zA7 (aH.out (oc,oh,oo) hol)
  have KC:=zA7 (KC.out (oc,oh,oo))
  have QJ:=zA7 (QJ.out oo)
  rw[hcv]at aH KC
  dsimp only at mI aH KC
  have HP:Hid (∀o w',(if oc≠0 then(oc,Ad.zero)else if Ad.risk g u.secure oo≠0 then(Ad.risk g u.secure oo,Ad.zero)else(0,⟨g.name,g.value,oh,oo,Ad.pathOf u g,g.secure,g.only,g.same,Ad.ends g now,now,now,0⟩))=o->Below w.heap.size w w'->post (.returned (.tuple #[.agg (dA o.2),.int .i64 o.1])) w'):=HP
  have PJ:=zA7 (XA oh hol)
  have KS:=zA7 (bB oh)
  have wF:=zA7 hT
  generalize Ad.risk g u.secure oo=rk at*
  generalize Ad.pathOf u g=pa at*
  generalize Ad.ends g now=en at*
  clear hcv xW hol hgd hg htk hur hQ hun ha hn hp hr hbd hT
  generalize cA u.host=H at*
  generalize u.secure=us at*
  generalize nA u=U at*
  generalize headA g=V at*
  go_enter Tryz.func50,Tryz.ntmps50
  go_wp2_with (first
   |(refine jA 15 rfl ?_;refine pA rfl 34 _ rfl w.heap.size rfl R2 Tryz.underlying34 rfl (by rw[HU.out];exact DB) ?_)
   |(refine jA 16 rfl ?_;refine pA rfl 114 _ rfl (w.heap.size+1) rfl S2 Tryz.underlying114 rfl (by rw[HR.out];exact CB) ?_))
  generalize((w.alloc (.cells U 34)).alloc (.cells V 114)).alloc (.cells (dA Ma.xA) 64)=x2 at*
  refine(UJ.out _ (hw.below C2)).mono ?_
  rintro e v3 ⟨rfl,d3⟩
  have C3:=C2.trans (d3.mono C2.size)
  have T3:=T2.stays d3
  have R3:=R2.stays d3
  have S3:=S2.stays d3
  have c2:=(S3.cell 2).trans q2
  clear UJ R2 S2 C2 d3 T2
  go_wp2_with (refine jA 26 rfl ?_;refine eD rfl 32 _ rfl w.heap.size 1 18 rfl R3 Tryz.underlying32 rfl mA (by rw[HU.out];decide) H Y9.out ?_)
  refine(HOW.out _ (hw.below C3).MC.std (wF.out.stays C3)).mono ?_
  rintro e v4 ⟨rfl,d4⟩
  have C4:=C3.trans (d4.mono C3.size)
  have T4:=T3.stays d4
  have R4:=R3.stays d4
  have S4:=S3.stays d4
  obtain⟨UO,O5,C5,L5⟩:=PA 32 (cA bA.zero) (cA oh) C4 C4.size
  have T5:=L5 _ _ _ T4
  have R5:=L5 _ _ _ R4
  have S5:=L5 _ _ _ S4
  have c0:=(R5.cell 0).trans p0
  clear HOW R3 S3 C3 d4 T3 c2 R4 S4 T4 C4 L5
  by_cases h1:oc=0
  ·subst h1
   go_wp2_with (first
    |(refine wpList_store_row rfl 32 _ _ rfl v4.heap.size (cA oh) rfl rfl 32 _ UO (by rw[PJ.out];exact mA) (by rw[PJ.out,mT.out]) KS.out ?_)
    |(refine jA 37 rfl ?_;refine pA rfl 114 _ rfl (w.heap.size+1) rfl S5 Tryz.underlying114 rfl (by rw[HR.out];exact CB) ?_))
   clear UO c0
   generalize(v4.alloc (.cells (cA bA.zero) 32)).setRow v4.heap.size (cA oh)=x5 at*
   generalize v4.heap.size=g5 at*
   refine(QJ.out _).mono ?_
   rintro e v6 ⟨rfl,d6⟩
   have C6:=C5.trans (d6.mono C5.size)
   have T6:=T5.stays d6
   have R6:=R5.stays d6
   have S6:=S5.stays d6
   have O6:=O5.stays d6
   clear QJ R5 S5 T5 O5 C5 d6
   by_cases h2:rk=0
   ·subst h2
    have L9:Hid (∀w',Below w.heap.size w w'->post (.returned (.tuple #[.agg (dA ⟨g.name,g.value,oh,oo,pa,g.secure,g.only,(g.same:Int),en,now,now,0⟩),.int .i64 0])) w'):=zA7 (fun w' hb=>HP.out (0,⟨g.name,g.value,oh,oo,pa,g.secure,g.only,(g.same:Int),en,now,now,0⟩) w' (by rw[if_neg (by simp),if_neg (by simp)]) hb)
    generalize dA ⟨g.name,g.value,oh,oo,pa,g.secure,g.only,(g.same:Int),en,now,now,0⟩=CC at*
    have D1:=zA7 (fun W (hC:Below v6.heap.size v6 W)=>AW hC (nE.out W))
    have D2:=zA7 (fun W (hC:Below v6.heap.size v6 W)=>AW hC (uL.out W))
    have RR:=zA7 (fun W (hC:Below v6.heap.size v6 W)=>R6.stays hC)
    have SS:=zA7 (fun W (hC:Below v6.heap.size v6 W)=>S6.stays hC)
    have OO:=zA7 (fun W (hC:Below v6.heap.size v6 W)=>O6.stays hC)
    clear R6 S6 O6 nE uL HP
    go_wp2_with fail
    refine dE (C:=fun W=>Below v6.heap.size v6 W) 20 (by kernel_rfl) (by kernel_rfl) (Below.refl _ _).drew ?_
    simp only[List.take_succ_cons,List.take_zero]
    refine kA ?_
    refine kA ?_ (v:= .string ⟨g.name.toArray⟩) (hv:=fun wq hC=>by have hcell:=((SS.out wq hC).cell 0).trans q0;go_simp;try with_reducible rfl)
    refine kA ?_
    refine kA ?_ (v:= .string ⟨g.value.toArray⟩) (hv:=fun wq hC=>by have hcell:=((SS.out wq hC).cell 1).trans q1;go_simp;try with_reducible rfl)
    refine WB (GB (by rfl) _ _ rfl _ rfl OO.out Tryz.underlying32 rfl (by rw[PJ.out];exact mA)) ?_
    refine kA ?_
    refine WB (GB (by rfl) _ _ rfl _ rfl SS.out Tryz.underlying114 rfl (by rw[HR.out];exact CB)) ?_
    refine WB (GB (by rfl) _ _ rfl _ rfl RR.out Tryz.underlying34 rfl (by rw[HU.out];exact DB)) ?_
    refine rC (.string ⟨pa.toArray⟩) (fun wq hC=>by unfold Oper.quietAt;go_simp;exact D1.out wq hC) ?_
    refine kA ?_
    refine kA ?_ (v:= .bool g.secure) (hv:=fun wq hC=>by have hcell:=((SS.out wq hC).cell 8).trans q8;go_simp;try with_reducible rfl)
    refine kA ?_
    refine kA ?_ (v:= .bool g.only) (hv:=fun wq hC=>by have hcell:=((SS.out wq hC).cell 9).trans q9;go_simp;try with_reducible rfl)
    refine kA ?_
    refine kA ?_ (v:= .int .i64 (g.same:Int)) (hv:=fun wq hC=>by have hcell:=((SS.out wq hC).cell 10).trans xN;go_simp;try with_reducible rfl)
    refine WB (GB (by rfl) _ _ rfl _ rfl SS.out Tryz.underlying114 rfl (by rw[HR.out];exact CB)) ?_
    refine kA ?_
    refine rC (.int .i64 en) (fun wq hC=>by unfold Oper.quietAt;go_simp;exact D2.out wq hC) ?_
    refine kA ?_
    refine kA ?_
    refine wpQuiet_nil ?_
    intro w' hC
    have T7:=T6.stays hC
    have C7:=C6.trans (hC.mono C6.size)
    clear D1 D2 RR SS OO T6 C6
    simp only[List.drop_succ_cons,List.drop_zero]
    go_wp2_with (first
     |(refine jA 66 rfl ?_;refine CI rfl 64 _ rfl _ (by rfl) _ mI.out ?_)
     |(refine wpList_store_row rfl 64 _ _ rfl (w.heap.size+2) CC rfl rfl 64 _ T7 (by rw[aH.out];exact uB) (by rw[aH.out,HZ.out]) KC.out ?_))
    exact bodyPost_ret (v:= .tuple #[.agg CC,.int .i64 0]) (yA rfl _ _ (w.heap.size+2) _ _ _ rfl _ rfl (T7.whole _) Tryz.underlying64 rfl (by rw[aH.out];exact uB)) rfl (L9.out _ (below_setRow C7 s0 _))
   ·have hne:(rk !=0)=true:=by simpa using h2
    have HO:=zA7 (fun w'=>HP.out (rk,Ma.xA) w' (by rw[if_neg (by simp),if_pos h2];rfl))
    clear HP h2 nE uL R6 S6 O6
    go_wp2_with (refine wpList_store_row rfl 64 _ _ rfl (w.heap.size+2) (dA Ma.xA) rfl rfl 64 _ T6 (by rw[HZ.out];exact uB) rfl HZ1.out ?_)
    exact bodyPost_ret (v:= .tuple #[.agg (dA Ma.xA),.int .i64 rk]) (yA rfl _ _ (w.heap.size+2) _ _ _ rfl _ rfl (T6.whole _) Tryz.underlying64 rfl (by rw[HZ.out];exact uB)) rfl (HO.out _ (below_setRow C6 s0 _))
  ·have hne:(oc !=0)=true:=by simpa using h1
   have HO:=zA7 (fun w'=>HP.out (oc,Ma.xA) w' (by rw[if_pos h1];rfl))
   clear HP h1 nE uL R5 S5 QJ
   go_wp2_with (first
    |(refine wpList_store_row rfl 32 _ _ rfl v4.heap.size (cA oh) rfl rfl 32 _ UO (by rw[PJ.out];exact mA) (by rw[PJ.out,mT.out]) KS.out ?_)
    |(refine wpList_store_row rfl 64 _ _ rfl (w.heap.size+2) (dA Ma.xA) rfl rfl 64 _ T5 (by rw[HZ.out];exact uB) rfl HZ1.out ?_))
   exact bodyPost_ret (v:= .tuple #[.agg (dA Ma.xA),.int .i64 oc]) (yA rfl _ _ (w.heap.size+2) _ _ _ rfl _ rfl (T5.whole _) Tryz.underlying64 rfl (by rw[HZ.out];exact uB)) rfl (HO.out _ (below_setRow C5 s0 _))
 ·have hne:(n !=0)=true:=by simpa using h0
  have HO:=zA7 (fun w'=>HP.out (n,Ma.xA) w' (by rw[<-hun];exact Ad.lAW (by rw[hun];exact h0)))
  clear HP hun h0
  generalize nA u=U at*
  generalize KA r=V at*
  go_enter Tryz.func50,Tryz.ntmps50
  go_wp2_with (first
   |(refine jA 15 rfl ?_;refine pA rfl 34 _ rfl w.heap.size rfl R2 Tryz.underlying34 rfl (by rw[HU.out];exact DB) ?_)
   |(refine jA 16 rfl ?_;refine pA rfl 114 _ rfl (w.heap.size+1) rfl S2 Tryz.underlying114 rfl (by rw[HR.out];exact CB) ?_))
  generalize((w.alloc (.cells U 34)).alloc (.cells V 114)).alloc (.cells (dA Ma.xA) 64)=x2 at*
  refine(UJ.out _ (hw.below C2)).mono ?_
  rintro e v3 ⟨rfl,d3⟩
  have C3:=C2.trans (d3.mono C2.size)
  have T3:=T2.stays d3
  clear UJ R2 S2 C2 d3 T2
  go_wp2_with (refine wpList_store_row rfl 64 _ _ rfl (w.heap.size+2) (dA Ma.xA) rfl rfl 64 _ T3 (by rw[HZ.out];exact uB) rfl HZ1.out ?_)
  exact bodyPost_ret (v:= .tuple #[.agg (dA Ma.xA),.int .i64 n]) (yA rfl _ _ (w.heap.size+2) _ _ _ rfl _ rfl (T3.whole _) Tryz.underlying64 rfl (by rw[HZ.out];exact uB)) rfl (HO.out _ (below_setRow C3 s0 _))
end Go.Proofs.YtdaaoopkkhfbhaaGreatDoor
namespace Go.Proofs.YtdaaoopkkhfbhaaGreatDoor
namespace Ad
open Oct
def hA:Hd.Head:= {Hd.zero with name:= [95,95,72,111,115,116,45,97],value:= [98],path:= [47],secure:=true}
def hB:Hd.Head:= {hA with domain:= [120,46,99,111,109]}
def n0:Hd.Head:= {Hd.zero with name:= [97],value:= [98],domain:= [97,46,49]}
def n2:Hd.Head:= {Hd.zero with name:= [97],value:= [98],domain:= [121,46,99,111,109]}
def n3:Hd.Head:= {Hd.zero with name:= [97],value:= [98],secure:=true}
end Ad
end Go.Proofs.YtdaaoopkkhfbhaaGreatDoor
