/- The walk of the reference's Take. -/
import Derived.Test.YtabgoobcliijeaaGreatDoorY30
import Derived.Test.YtabgoobcliijeaaGreatDoorY32
import Derived.Test.YtabgoobcliijeaaGreatDoorY34
set_option maxHeartbeats 32000000
set_option maxRecDepth 100000
namespace Go.Proofs.YtabgoobcliijeaaGreatDoor
open Go.RowKit Go.Maps
namespace Ad
variable {rs:List Ru.Rule} {u:Ur.URL} {g:Hd.Head} {now:Int}
theorem oAw(hn:0<=now/\now<=1099511627776)(h:(whose rs u.host g.domain).1≠0):take rs u g now=((whose rs u.host g.domain).1,zero):=by
 unfold take;rw[if_neg (by omega),if_pos h]
theorem oAx(hn:0<=now/\now<=1099511627776)(h:(whose rs u.host g.domain).1=0)(h2:g.secure=true/\u.secure=false):take rs u g now=(104,zero):=by
 unfold take;rw[if_neg (by omega),if_neg (by rw[h];simp),if_pos h2]
theorem oAz(hn:0<=now/\now<=1099511627776)(h:(whose rs u.host g.domain).1=0)(h2: ¬(g.secure=true/\u.secure=false))(h3:g.same=1/\g.secure=false):take rs u g now=(105,zero):=by
 unfold take;rw[if_neg (by omega),if_neg (by rw[h];simp),if_neg h2,if_pos h3]
theorem oAC(hn:0<=now/\now<=1099511627776)(h:(whose rs u.host g.domain).1=0)(h2: ¬(g.secure=true/\u.secure=false))(h3: ¬(g.same=1/\g.secure=false))(h4:breaks g (whose rs u.host g.domain).2.2=true):take rs u g now=(106,zero):=by
 unfold take;rw[if_neg (by omega),if_neg (by rw[h];simp),if_neg h2,if_neg h3,if_pos h4]
theorem oAD(hn:0<=now/\now<=1099511627776)(h:(whose rs u.host g.domain).1=0)(h2: ¬(g.secure=true/\u.secure=false))(h3: ¬(g.same=1/\g.secure=false))(h4:breaks g (whose rs u.host g.domain).2.2=false):take rs u g now=(0,kB u g now (whose rs u.host g.domain).2.1 (whose rs u.host g.domain).2.2):=by
 unfold take;rw[if_neg (by omega),if_neg (by rw[h];simp),if_neg h2,if_neg h3,if_neg (by rw[h4];simp)]
def RJ(g:Hd.Head)(now:Int):Int:=match g.exp with|some x=>min x (now+34560000)|none=>never
theorem hAh {a:Nat}(h:g.age=some a):ends g now=now+(a:Int):=by unfold ends;rw[h]
theorem hAi(h:g.age=none):ends g now=RJ g now:=by unfold ends RJ;rw[h];cases g.exp<;>rfl
end Ad
structure TK(g:Nat)(U V:Array Value)(w w':World):Prop where
 row0:Row w' g 33 U
 NB:Row w' (g+1) 35 V
 EB:Row w' (g+2) 39 (gA Ma.oA)
 MD:Row w' (g+3) 39 (gA Ma.oA)
 below:Below w.heap.size w w'
structure ED(g k:Nat)(U V:Array Value)(c:Ma.bB)(w w':World):Prop where
 held:TK g U V w w'
 row:Row w' k 39 (gA c)
 lt:g+4<=k
 base:w.heap.size<=g
section
variable {g k:Nat} {U V:Array Value} {c c':Ma.bB} {w w' w'':World}
theorem TK.on (h:TK g U V w w')(hb:Below w'.heap.size w' w''):TK g U V w w'':=⟨h.row0.stays hb,h.NB.stays hb,h.EB.stays hb,h.MD.stays hb,h.below.trans (hb.mono h.below.size)⟩
theorem ED.on (h:ED g k U V c w w')(hb:Below w'.heap.size w' w''):ED g k U V c w w'':=⟨h.held.on hb,h.row.stays hb,h.lt,h.base⟩
theorem ED.put (h:ED g k U V c w w'){i:Nat}{v:Value}(e:(gA c).setIfInBounds i v=gA c'):ED g k U V c' w (w'.setCell ⟨k,i,none⟩ v):=by
 have hl:=h.lt
 have hb:=h.base
 refine⟨⟨h.held.row0.other (p:=⟨k,i,none⟩) (by show g≠k;omega) v,h.held.NB.other (p:=⟨k,i,none⟩) (by show g+1≠k;omega) v,h.held.EB.other (p:=⟨k,i,none⟩) (by show g+2≠k;omega) v,h.held.MD.other (p:=⟨k,i,none⟩) (by show g+3≠k;omega) v,h.held.below.setCell (p:=⟨k,i,none⟩) (by show w.heap.size<=k;omega) v⟩,?_,h.lt,h.base⟩
 have:=h.row.set i v;rw[e]at this;exact this
theorem ED.whole (h:ED g k U V c w w')(c':Ma.bB):ED g k U V c' w (w'.setRow k (gA c')):=by
 have hl:=h.lt
 have hb:=h.base
 exact⟨⟨h.held.row0.aside (k:=k) (by omega) _,h.held.NB.aside (k:=k) (by omega) _,h.held.EB.aside (k:=k) (by omega) _,h.held.MD.aside (k:=k) (by omega) _,below_setRow (g:=k) h.held.below (by omega) _⟩,h.row.whole _,h.lt,h.base⟩
theorem uQ(w:World)(U V:Array Value):TK w.heap.size U V w (((((w.alloc (.cells U 33)).alloc (.cells V 35)).alloc (.cells (gA Ma.oA) 39)).alloc (.cells (gA Ma.oA) 39)).setRow (w.heap.size+3) (gA Ma.oA))/\
  Row ((((w.alloc (.cells U 33)).alloc (.cells V 35)).alloc (.cells (gA Ma.oA) 39)).alloc (.cells (gA Ma.oA) 39)) (w.heap.size+3) 39 (gA Ma.oA):=by
 have R0:=Row.new w 33 U
 have B0:=(Below.refl w.heap.size w).alloc (zB3 _) (.cells U 33)
 have hN:(w.alloc (.cells U 33)).heap.size=w.heap.size+1:=by simp
 have S1:=Row.new (w.alloc (.cells U 33)) 35 V
 rw[hN]at S1
 have R1:=R0.alloc (.cells V 35)
 have B1:=B0.alloc B0.size (.cells V 35)
 have EN:((w.alloc (.cells U 33)).alloc (.cells V 35)).heap.size=w.heap.size+2:=by simp
 have T2:=Row.new ((w.alloc (.cells U 33)).alloc (.cells V 35)) 39 (gA Ma.oA)
 rw[EN]at T2
 have R2:=R1.alloc (.cells (gA Ma.oA) 39)
 have S2:=S1.alloc (.cells (gA Ma.oA) 39)
 have B2:=B1.alloc B1.size (.cells (gA Ma.oA) 39)
 have iQ:(((w.alloc (.cells U 33)).alloc (.cells V 35)).alloc (.cells (gA Ma.oA) 39)).heap.size=w.heap.size+3:=by simp
 have N3:=Row.new (((w.alloc (.cells U 33)).alloc (.cells V 35)).alloc (.cells (gA Ma.oA) 39)) 39 (gA Ma.oA)
 rw[iQ]at N3
 have R3:=R2.alloc (.cells (gA Ma.oA) 39)
 have S3:=S2.alloc (.cells (gA Ma.oA) 39)
 have T3:=T2.alloc (.cells (gA Ma.oA) 39)
 have B3:=B2.alloc B2.size (.cells (gA Ma.oA) 39)
 exact⟨⟨R3.aside (k:=w.heap.size+3) (by omega) (gA Ma.oA),S3.aside (k:=w.heap.size+3) (by omega) (gA Ma.oA),T3.aside (k:=w.heap.size+3) (by omega) (gA Ma.oA),N3.whole (gA Ma.oA),below_setRow (g:=w.heap.size+3) B3 (by omega) (gA Ma.oA)⟩,N3⟩
end
theorem mAZ(v:Value)(u:Ur.URL)(ha:u.host.addr.length=16)(hn:u.host.name.length<=2900)(hp:u.path.length<=9000)(r:Hd.Raw)(hr:eH r)(now:Int)(w:World)(hur:Ur.right u=false):
  Calls Tryz.prog 14 #[v,.agg (pA u),.agg (uA r),.int .i64 now] w (yD (41,Ad.zero) w):=by
 have z0:=iG
 have z1:=BD
 have HZ1:=zA7 (zE Ma.oA)
 have IZ:=zA7 (show(Tryz.prog.info? 39).map (·.size)=some (gA Ma.oA).size from rD)
 have IU:=zA7 (show(Tryz.prog.info? 33).map (·.size)=some (pA u).size by rw[aC u ha];exact qB)
 have LU:=zA7 (show 1+18<=(pA u).size by rw[aC u ha];decide)
 have gD:=zA7 (gG u ha)
 have H1:=zA7 (fun W=>pR u ha hn (by omega) W)
 have IV:=zA7 (show(Tryz.prog.info? 35).map (·.size)=some (uA r).size from WA)
 have H2:=zA7 (fun W=>nR r hr W)
 have HO:Hid (∀w',Below w.heap.size w w'->yD (41,Ad.zero) w (.returned (.tuple #[.agg (gA Ma.oA),.int .i64 41])) w'):=zA7 (fun w' hb=>⟨rfl,hb⟩)
 generalize yD (41,Ad.zero) w=post at*
 obtain⟨K0,N3⟩:=uQ w (pA u) (uA r)
 clear ha hn hp hr
 rw[hur]at H1
 generalize pA u=U at*
 generalize uA r=V at*
 go_enter Tryz.func14,Tryz.ntmps14
 go_wp2_with (first
  |(refine wpList_store_row rfl 39 _ _ rfl (w.heap.size+3) (gA Ma.oA) rfl rfl 39 _ N3 IZ.out rfl HZ1.out ?_)
  |(refine iA 20 rfl ?_;refine qA rfl 33 _ rfl w.heap.size rfl K0.row0 Tryz.underlying33 rfl IU.out ?_))
 clear N3
 generalize((((w.alloc (.cells U 33)).alloc (.cells V 35)).alloc (.cells (gA Ma.oA) 39)).alloc (.cells (gA Ma.oA) 39)).setRow (w.heap.size+3) (gA Ma.oA)=x0 at*
 refine(H1.out _).mono ?_
 rintro e x1 ⟨rfl,d1⟩
 have K1:=K0.on d1
 clear K0 d1 H1
 go_wp2_with (first|(refine iA 23 rfl ?_;refine qA rfl 39 _ rfl (w.heap.size+3) rfl K1.MD Tryz.underlying39 rfl IZ.out ?_)|(refine wpList_store_row rfl 39 _ _ rfl (w.heap.size+2) (gA Ma.oA) rfl rfl 39 _ K1.EB IZ.out rfl HZ1.out ?_))
 exact bodyPost_ret (v:= .tuple #[.agg (gA Ma.oA),.int .i64 41]) (DA rfl _ _ (w.heap.size+2) _ _ _ rfl _ rfl (K1.EB.whole _) Tryz.underlying39 rfl IZ.out) rfl (HO.out _ (below_setRow K1.below (by omega) _))
theorem mAX(v:Value)(u:Ur.URL)(ha:u.host.addr.length=16)(hn:u.host.name.length<=2900)(hp:u.path.length<=9000)(r:Hd.Raw)(hr:eH r)(now:Int)(w:World)(hur:Ur.right u=true)(hcr:Hd.jC r=false):
  Calls Tryz.prog 14 #[v,.agg (pA u),.agg (uA r),.int .i64 now] w (yD (82,Ad.zero) w):=by
 have z0:=iG
 have z1:=BD
 have HZ1:=zA7 (zE Ma.oA)
 have IZ:=zA7 (show(Tryz.prog.info? 39).map (·.size)=some (gA Ma.oA).size from rD)
 have IU:=zA7 (show(Tryz.prog.info? 33).map (·.size)=some (pA u).size by rw[aC u ha];exact qB)
 have LU:=zA7 (show 1+18<=(pA u).size by rw[aC u ha];decide)
 have gD:=zA7 (gG u ha)
 have H1:=zA7 (fun W=>pR u ha hn (by omega) W)
 have IV:=zA7 (show(Tryz.prog.info? 35).map (·.size)=some (uA r).size from WA)
 have H2:=zA7 (fun W=>nR r hr W)
 have HO:Hid (∀w',Below w.heap.size w w'->yD (82,Ad.zero) w (.returned (.tuple #[.agg (gA Ma.oA),.int .i64 82])) w'):=zA7 (fun w' hb=>⟨rfl,hb⟩)
 generalize yD (82,Ad.zero) w=post at*
 obtain⟨K0,N3⟩:=uQ w (pA u) (uA r)
 clear ha hn hp hr
 rw[hur]at H1
 generalize pA u=U at*
 generalize uA r=V at*
 go_enter Tryz.func14,Tryz.ntmps14
 go_wp2_with (first
  |(refine wpList_store_row rfl 39 _ _ rfl (w.heap.size+3) (gA Ma.oA) rfl rfl 39 _ N3 IZ.out rfl HZ1.out ?_)
  |(refine iA 20 rfl ?_;refine qA rfl 33 _ rfl w.heap.size rfl K0.row0 Tryz.underlying33 rfl IU.out ?_))
 clear N3
 generalize((((w.alloc (.cells U 33)).alloc (.cells V 35)).alloc (.cells (gA Ma.oA) 39)).alloc (.cells (gA Ma.oA) 39)).setRow (w.heap.size+3) (gA Ma.oA)=x0 at*
 refine(H1.out _).mono ?_
 rintro e x1 ⟨rfl,d1⟩
 have K1:=K0.on d1
 clear K0 d1 H1
 rw[hcr]at H2
 go_wp2_with (refine iA 25 rfl ?_;refine qA rfl 35 _ rfl (w.heap.size+1) rfl K1.NB Tryz.underlying35 rfl IV.out ?_)
 refine(H2.out _).mono ?_
 rintro e x2 ⟨⟨X,rfl⟩,d2⟩
 have K2:=K1.on d2
 clear K1 d2 H2
 go_wp2_with (first|(refine iA 31 rfl ?_;refine qA rfl 39 _ rfl (w.heap.size+3) rfl K2.MD Tryz.underlying39 rfl IZ.out ?_)|(refine wpList_store_row rfl 39 _ _ rfl (w.heap.size+2) (gA Ma.oA) rfl rfl 39 _ K2.EB IZ.out rfl HZ1.out ?_))
 exact bodyPost_ret (v:= .tuple #[.agg (gA Ma.oA),.int .i64 82]) (DA rfl _ _ (w.heap.size+2) _ _ _ rfl _ rfl (K2.EB.whole _) Tryz.underlying39 rfl IZ.out) rfl (HO.out _ (below_setRow K2.below (by omega) _))
theorem mAW(v:Value)(u:Ur.URL)(ha:u.host.addr.length=16)(hn:u.host.name.length<=2900)(hp:u.path.length<=9000)(r:Hd.Raw)(hr:eH r)(now:Int)(w:World)(hur:Ur.right u=true)(hcr:Hd.jC r=true)(FF:now<0\/(¬now<0/\1099511627776<now)):
  Calls Tryz.prog 14 #[v,.agg (pA u),.agg (uA r),.int .i64 now] w (yD (122,Ad.zero) w):=by
 have z0:=iG
 have z1:=BD
 have HZ1:=zA7 (zE Ma.oA)
 have IZ:=zA7 (show(Tryz.prog.info? 39).map (·.size)=some (gA Ma.oA).size from rD)
 have IU:=zA7 (show(Tryz.prog.info? 33).map (·.size)=some (pA u).size by rw[aC u ha];exact qB)
 have LU:=zA7 (show 1+18<=(pA u).size by rw[aC u ha];decide)
 have gD:=zA7 (gG u ha)
 have H1:=zA7 (fun W=>pR u ha hn (by omega) W)
 have IV:=zA7 (show(Tryz.prog.info? 35).map (·.size)=some (uA r).size from WA)
 have H2:=zA7 (fun W=>nR r hr W)
 have HO:Hid (∀w',Below w.heap.size w w'->yD (122,Ad.zero) w (.returned (.tuple #[.agg (gA Ma.oA),.int .i64 122])) w'):=zA7 (fun w' hb=>⟨rfl,hb⟩)
 generalize yD (122,Ad.zero) w=post at*
 obtain⟨K0,N3⟩:=uQ w (pA u) (uA r)
 clear ha hn hp hr
 rw[hur]at H1
 generalize pA u=U at*
 generalize uA r=V at*
 go_enter Tryz.func14,Tryz.ntmps14
 go_wp2_with (first
  |(refine wpList_store_row rfl 39 _ _ rfl (w.heap.size+3) (gA Ma.oA) rfl rfl 39 _ N3 IZ.out rfl HZ1.out ?_)
  |(refine iA 20 rfl ?_;refine qA rfl 33 _ rfl w.heap.size rfl K0.row0 Tryz.underlying33 rfl IU.out ?_))
 clear N3
 generalize((((w.alloc (.cells U 33)).alloc (.cells V 35)).alloc (.cells (gA Ma.oA) 39)).alloc (.cells (gA Ma.oA) 39)).setRow (w.heap.size+3) (gA Ma.oA)=x0 at*
 refine(H1.out _).mono ?_
 rintro e x1 ⟨rfl,d1⟩
 have K1:=K0.on d1
 clear K0 d1 H1
 rw[hcr]at H2
 go_wp2_with (refine iA 25 rfl ?_;refine qA rfl 35 _ rfl (w.heap.size+1) rfl K1.NB Tryz.underlying35 rfl IV.out ?_)
 refine(H2.out _).mono ?_
 rintro e x2 ⟨⟨X,rfl⟩,d2⟩
 have K2:=K1.on d2
 clear K1 d2 H2
 rcases FF with h|⟨h,k⟩
 ·go_wp2_with (first|(refine iA 38 rfl ?_;refine qA rfl 39 _ rfl (w.heap.size+3) rfl K2.MD Tryz.underlying39 rfl IZ.out ?_)|(refine wpList_store_row rfl 39 _ _ rfl (w.heap.size+2) (gA Ma.oA) rfl rfl 39 _ K2.EB IZ.out rfl HZ1.out ?_))
  exact bodyPost_ret (v:= .tuple #[.agg (gA Ma.oA),.int .i64 122]) (DA rfl _ _ (w.heap.size+2) _ _ _ rfl _ rfl (K2.EB.whole _) Tryz.underlying39 rfl IZ.out) rfl (HO.out _ (below_setRow K2.below (by omega) _))
 ·go_wp2_with (first|(refine iA 38 rfl ?_;refine qA rfl 39 _ rfl (w.heap.size+3) rfl K2.MD Tryz.underlying39 rfl IZ.out ?_)|(refine wpList_store_row rfl 39 _ _ rfl (w.heap.size+2) (gA Ma.oA) rfl rfl 39 _ K2.EB IZ.out rfl HZ1.out ?_))
  exact bodyPost_ret (v:= .tuple #[.agg (gA Ma.oA),.int .i64 122]) (DA rfl _ _ (w.heap.size+2) _ _ _ rfl _ rfl (K2.EB.whole _) Tryz.underlying39 rfl IZ.out) rfl (HO.out _ (below_setRow K2.below (by omega) _))
theorem mAY(rs:List Ru.Rule)(v:Value)(u:Ur.URL)(ha:u.host.addr.length=16)(hn:u.host.name.length<=2900)(hp:u.path.length<=9000)(g:Hd.Head)(hg:Hd.Good g)(UF:eH (Hd.Raw.of g))(now:Int)(FF:0<=now/\now<=1099511627776)(w:World)(hur:Ur.right u=true)(hv:ZD w v rs)(hrn:rs.length<=1000)(hrm: ∀r∈rs,r.name.length<=1000):
  Calls Tryz.prog 14 #[v,.agg (pA u),.agg (headA g),.int .i64 now] w (yD (Ad.take rs u g now) w):=by
 have z0:=iG
 have z1:=BD
 have HZ1:=zA7 (zE Ma.oA)
 have IZ:=zA7 (show(Tryz.prog.info? 39).map (·.size)=some (gA Ma.oA).size from rD)
 have IU:=zA7 (show(Tryz.prog.info? 33).map (·.size)=some (pA u).size by rw[aC u ha];exact qB)
 have LU:=zA7 (show 1+18<=(pA u).size by rw[aC u ha];decide)
 have gD:=zA7 (gG u ha)
 have H1:=zA7 (fun W=>pR u ha hn (by omega) W)
 have IV:=zA7 (show(Tryz.prog.info? 35).map (·.size)=some (headA g).size from WA)
 have H2:Hid (∀W,Calls Tryz.prog 30 #[.agg (headA g)] W fun e w'=>(∃X:ByteArray,e= .returned (.tuple #[.string X,.bool true]))/\Below W.heap.size W w'):=zA7 (fun W=>by
  have:=nR (Hd.Raw.of g) UF W
  rw[Hd.WY hg,TL]at this
  exact this)
 have hgd:=hg.lH
 have hgf:=hg.few
 have JN:=hg.ZI
 rw[hur]at H1
 obtain⟨db,hdb⟩: ∃b:ByteArray,b=⟨g.domain.toArray⟩:=⟨_,rfl⟩
 have hdl:db.data.toList=g.domain:=by rw[hdb]
 have hds:db.size<=1024:=by rw[<-Oct.nA,hdl];omega
 obtain⟨pb,hpb⟩: ∃b:ByteArray,b=⟨g.path.toArray⟩:=⟨_,rfl⟩
 obtain⟨ub,hub⟩: ∃b:ByteArray,b=⟨u.path.toArray⟩:=⟨_,rfl⟩
 obtain⟨nb,hnb⟩: ∃b:ByteArray,b=⟨g.name.toArray⟩:=⟨_,rfl⟩
 obtain⟨vb,hvb⟩: ∃b:ByteArray,b=⟨g.value.toArray⟩:=⟨_,rfl⟩
 have H3:=zA7 (fun W=>oK db W (by omega))
 unfold zC at H3
 have H6:Hid (∀W,Calls Tryz.prog 19 #[.string ub] W fun e w'=>e= .returned (.string ⟨(Ma.default u.path).toArray⟩)/\W=w'):=zA7 (fun W=>by
  have:=cAp ub W (by rw[<-Oct.nA,hub];show u.path.length<=_;omega)
  rw[hub]at this⊢
  exact this)
 have hlen:=Ad.QW rs u.host g.domain ha
 obtain⟨⟨oc,oh,oo⟩,oE⟩: ∃o,Ad.whose rs u.host g.domain=o:=⟨_,rfl⟩
 have TA:= @Ad.oAw rs u g now FF
 have TB:= @Ad.oAx rs u g now FF
 have TC:= @Ad.oAz rs u g now FF
 have TD:= @Ad.oAC rs u g now FF
 have TE:= @Ad.oAD rs u g now FF
 rw[oE]at hlen TA TB TC TD TE
 dsimp only at hlen TA TB TC TD TE
 have HP:Hid (∀o w',Ad.take rs u g now=o->Below w.heap.size w w'->yD (Ad.take rs u g now) w (.returned (.tuple #[.agg (gA o.2),.int .i64 o.1])) w'):=zA7 (fun o w' h hb=>by subst h;exact⟨rfl,hb⟩)
 generalize hpost:yD (Ad.take rs u g now) w=post at*
 clear hpost
 have PA:Hid (oc≠0-> ∀w',Below w.heap.size w w'->post (.returned (.tuple #[.agg (gA Ma.oA),.int .i64 oc])) w'):=zA7 (fun h w' hb=>HP.out (oc,Ma.oA) w' (TA h) hb)
 have PB:Hid (oc=0->g.secure=true/\u.secure=false-> ∀w',Below w.heap.size w w'->post (.returned (.tuple #[.agg (gA Ma.oA),.int .i64 104])) w'):=zA7 (fun h h2 w' hb=>HP.out (104,Ma.oA) w' (TB h h2) hb)
 have PC:Hid (oc=0-> ¬(g.secure=true/\u.secure=false)->g.same=1/\g.secure=false-> ∀w',Below w.heap.size w w'->post (.returned (.tuple #[.agg (gA Ma.oA),.int .i64 105])) w'):=zA7 (fun h h2 h3 w' hb=>HP.out (105,Ma.oA) w' (TC h h2 h3) hb)
 have PD:Hid (oc=0-> ¬(g.secure=true/\u.secure=false)-> ¬(g.same=1/\g.secure=false)->Ad.breaks g oo=true-> ∀w',Below w.heap.size w w'->post (.returned (.tuple #[.agg (gA Ma.oA),.int .i64 106])) w'):=zA7 (fun h h2 h3 h4 w' hb=>HP.out (106,Ma.oA) w' (TD h h2 h3 h4) hb)
 have PE:Hid (oc=0-> ¬(g.secure=true/\u.secure=false)-> ¬(g.same=1/\g.secure=false)->Ad.breaks g oo=false-> ∀w',Below w.heap.size w w'->post (.returned (.tuple #[.agg (gA (Ad.kB u g now oh oo)),.int .i64 0])) w'):=zA7 (fun h h2 h3 h4 w' hb=>HP.out (0,Ad.kB u g now oh oo) w' (TE h h2 h3 h4) hb)
 clear TA TB TC TD TE HP
 have W0:Hid (g.domain= []->oc=0/\oh=u.host/\oo=true):=zA7 (fun h=>by
  rw[h,Ad.dAP]at oE
  obtain⟨e1,e2⟩:=Prod.mk.inj oE
  obtain⟨e2,e3⟩:=Prod.mk.inj e2
  exact⟨e1.symm,e2.symm,e3.symm⟩)
 have W1:Hid (g.domain≠ []->dA.parse g.domain=none->oc=101):=zA7 (fun h h2=>by
  rw[Ad.dAQ h h2]at oE
  exact(Prod.mk.inj oE).1.symm)
 have W2:Hid (∀d,g.domain≠ []->dA.parse g.domain=some d->Ad.sD rs d=true->d≠u.host->oc=102):=zA7 (fun d h h2 h3 h4=>by
  rw[Ad.dAS h h2 h3 h4]at oE
  exact(Prod.mk.inj oE).1.symm)
 have W3:Hid (∀d,g.domain≠ []->dA.parse g.domain=some d->(Ad.sD rs d=false\/d=u.host)->Ma.domain u.host d=false->oc=103):=zA7 (fun d h h2 h3 h4=>by
  rw[Ad.dAO h h2 h3 h4]at oE
  exact(Prod.mk.inj oE).1.symm)
 have W4:Hid (∀d,g.domain≠ []->dA.parse g.domain=some d->Ad.sD rs d=true->d=u.host->Ma.domain u.host d=true->oc=0/\oh=u.host/\oo=true):=zA7 (fun d h h2 h3 h4 h5=>by
  rw[Ad.dAR h h2 h3 h4 h5]at oE
  obtain⟨e1,e2⟩:=Prod.mk.inj oE
  obtain⟨e2,e3⟩:=Prod.mk.inj e2
  exact⟨e1.symm,e2.symm,e3.symm⟩)
 have W5:Hid (∀d,g.domain≠ []->dA.parse g.domain=some d->Ad.sD rs d=false->Ma.domain u.host d=true->oc=0/\oh=d/\oo=false):=zA7 (fun d h h2 h3 h5=>by
  rw[Ad.dAT h h2 h3 h5]at oE
  obtain⟨e1,e2⟩:=Prod.mk.inj oE
  obtain⟨e2,e3⟩:=Prod.mk.inj e2
  exact⟨e1.symm,e2.symm,e3.symm⟩)
 have eD:=RY ⟨g.name,g.value,u.host,true,g.path,g.secure,g.only,(g.same:Int),9223372036854775807,now,now,0⟩ ha rfl
 unfold xT lA at eD
 dsimp only at eD
 rw[<-hnb,<-hvb,<-hpb]at eD
 have hcv:(⟨g.name,g.value,oh,oo,Ad.pathOf u g,g.secure,g.only,(g.same:Int),Ad.ends g now,now,now,0⟩:Ma.bB)=Ad.kB u g now oh oo:=rfl
 rw[<-hcv]at PE
 obtain⟨c0,hc0⟩: ∃c:Ma.bB,c=⟨g.name,g.value,u.host,true,g.path,g.secure,g.only,(g.same:Int),9223372036854775807,now,now,0⟩:=⟨_,rfl⟩
 obtain⟨c1,hc1⟩: ∃c:Ma.bB,c= {c0 with host:=oh,only:=oo} :=⟨_,rfl⟩
 obtain⟨c2,hc2⟩: ∃c:Ma.bB,c= {c1 with path:=Ad.pathOf u g} :=⟨_,rfl⟩
 obtain⟨c3,hc3⟩: ∃c:Ma.bB,c= {c2 with expires:=Ad.RJ g now} :=⟨_,rfl⟩
 obtain⟨c4,hc4⟩: ∃c:Ma.bB,c= {c3 with expires:=Ad.ends g now} :=⟨_,rfl⟩
 rw[show(⟨g.name,g.value,oh,oo,Ad.pathOf u g,g.secure,g.only,(g.same:Int),Ad.ends g now,now,now,0⟩:Ma.bB)=c4 by rw[hc4,hc3,hc2,hc1,hc0]]at PE
 rw[<-hc0]at eD
 have eD:=zA7 eD
 have l0:c0.host.addr.length=16:=by rw[hc0];exact ha
 have l1:c1.host.addr.length=16:=by rw[hc1];exact hlen
 have l2:c2.host.addr.length=16:=by rw[hc2];exact l1
 have l3:c3.host.addr.length=16:=by rw[hc3];exact l2
 have l4:c4.host.addr.length=16:=by rw[hc4];exact l3
 have ZX:=zA7 (show(Tryz.prog.info? 39).map (·.size)=some (gA c0).size by rw[GD c0 l0];exact rD)
 have oY:=zA7 (GD c0 l0)
 have ZS:=zA7 (show(Tryz.prog.info? 39).map (·.size)=some (gA c4).size by rw[GD c4 l4];exact rD)
 have nY:=zA7 (show(gA c0).size=(gA Ma.oA).size by rw[GD c0 l0];rfl)
 have SC4:=zA7 (show(gA c4).size=(gA Ma.oA).size by rw[GD c4 l4];rfl)
 have cY:=zA7 (zE c0)
 have OC4:=zA7 (zE c4)
 have aS:Hid (oh=u.host->oo=true->c0=c1):=zA7 (fun h1 h2=>by rw[hc1,h1,h2,hc0])
 have wF:Hid (∀d,oh=d->oo=false->d.addr.length=16->((gA c0).toList.take 2++(fA d).toList++(gA c0).toList.drop (2+(fA d).size)).toArray=gA {c0 with host:=d} /\(gA {c0 with host:=d}).setIfInBounds 20 (.bool false)=gA c1/\(gA {c0 with host:=d})[20]? =some (.bool true)):=zA7 (fun d h1 h2 h3=>by
  refine⟨gAf c0 l0 d h3,?_,?_⟩
  ·rw[gAg _ h3,hc1,h1,h2]
  ·rw[aL _ h3,hc0])
 have fY:Hid ((gA c1)[21]? =some (.string pb)):=zA7 (by rw[bL _ l1,hc1,hc0,hpb];rfl)
 have kY:Hid (g.path= []->(gA c1).setIfInBounds 21 (.string ⟨(Ma.default u.path).toArray⟩)=gA c2):=zA7 (fun h=>by
  rw[gAh _ l1,hc2];unfold Ad.pathOf;rw[if_pos h])
 have ZW:Hid (g.path≠ []->c1=c2):=zA7 (fun h=>by rw[hc2,hc1,hc0];unfold Ad.pathOf;rw[if_neg h])
 have eY:Hid ((gA c2)[20]? =some (.bool oo)):=zA7 (by rw[aL _ l2,hc2,hc1])
 have iY:Hid ((gA c2)[25]? =some (.int .i64 9223372036854775807)):=zA7 (by rw[ZK _ l2,hc2,hc1,hc0])
 have lY:Hid (∀x,g.exp=some x->(gA c2).setIfInBounds 25 (.int .i64 (min x (now+34560000)))=gA c3):=zA7 (fun x h=>by
  rw[gZ _ l2,hc3];unfold Ad.RJ;rw[h])
 have cS:Hid (g.exp=none->c2=c3):=zA7 (fun h=>by
  rw[hc3,hc2,hc1,hc0];unfold Ad.RJ;rw[h];rfl)
 have jY:Hid ((gA c3)[25]? =some (.int .i64 (Ad.RJ g now))):=zA7 (by rw[ZK _ l3,hc3])
 have mY:Hid (∀a,g.age=some a->(gA c3).setIfInBounds 25 (.int .i64 (now+(a:Int)))=gA c4):=zA7 (fun a h=>by
  rw[gZ _ l3,hc4,Ad.hAh h])
 have dS:Hid (g.age=none->c3=c4):=zA7 (fun h=>by rw[hc4,Ad.hAi h,hc3])
 have rM:=zA7 hg.age
 have xM:Hid (db.toList.isEmpty=decide (g.domain= [])):=zA7 (by rw[hdb,bI])
 have zX:Hid (pb.toList.isEmpty=decide (g.path= [])):=zA7 (by rw[hpb,bI])
 have tX:Hid (nb.toList.isEmpty=decide (g.name= [])):=zA7 (by rw[hnb,bI])
 have AX:Hid ((pb.toList== [47])=decide (g.path= [47])):=zA7 (by rw[hpb,Oct.SA,Bool.eq_iff_iff];simp)
 have H7:Hid (∀W,Calls Tryz.prog 16 #[.string (if g.name= []then vb else nb)] W fun e w'=>e= .returned (.int .i64 (Ad.pre (Ad.told g)))/\Below W.heap.size W w'):=zA7 (fun W=>by
  unfold Ad.told
  split
  ·have:=VL vb W (by rw[<-Oct.nA,hvb];show g.value.length<=_;omega)
   rw[hvb]at this⊢
   exact this
  ·have:=VL nb W (by rw[<-Oct.nA,hnb];show g.name.length<=_;omega)
   rw[hnb]at this⊢
   exact this)
 have JF:Hid (Ad.breaks g oo=((decide (Ad.pre (Ad.told g)=1)&& !g.secure)||(decide (Ad.pre (Ad.told g)=2)&& (!g.secure|| !oo|| !decide (g.path= [47]))))):=zA7 rfl
 have YD:=zA7 (Ad.kO (Ad.told g))
 have CB:Hid (∀d,dA.parse g.domain=some d->d.addr.length=16/\(∀W,ZD W v rs->Calls Tryz.prog 17 #[v,.agg (fA d)] W fun e w'=>e= .returned (.bool (Ad.sD rs d))/\Below W.heap.size W w')/\(∀W,Calls Tryz.prog 32 #[.agg (fA u.host),.agg (fA d)] W fun e w'=>e= .returned (.bool (Ma.domain u.host d))/\Below W.heap.size W w')/\(∀W,(binOp .neq 31 (.agg (fA d)) (.agg (fA u.host))).run Tryz.prog W= .ok (.bool (!decide (d=u.host))) W)):=zA7 (fun d h=>by
  have hpl:=dA.GF g.domain
  have hpf:=dA.xN g.domain
  rw[h]at hpl hpf
  have hpl:d.addr.length=16:=hpl
  have hpf:d.name.length<=g.domain.length:=hpf
  refine⟨hpl,fun W hW=>?_,fun W=>cAj u.host d ha hpl hn (by omega) W,fun W=>aO d u.host hpl ha W⟩
  have:=cAs rs v d W hpl (by omega) hW hrn hrm
  rw[Sx.cAx]at this
  exact this)
 rw[hdl]at H3
 have HV:=zA7 hv
 have q0:Hid ((headA g)[0]? =some (.string nb)):=zA7 (by rw[hnb];rfl)
 have q1:Hid ((headA g)[1]? =some (.string vb)):=zA7 (by rw[hvb];rfl)
 have q2:Hid ((headA g)[2]? =some (.string db)):=zA7 (by rw[hdb];rfl)
 have q3:Hid ((headA g)[3]? =some (.string pb)):=zA7 (by rw[hpb];rfl)
 have q4:Hid ((headA g)[4]? =some (.bool g.exp.isSome)):=zA7 rfl
 have q5:Hid ((headA g)[5]? =some (.int .i64 (g.exp.getD 0))):=zA7 rfl
 have q6:Hid ((headA g)[6]? =some (.bool g.age.isSome)):=zA7 rfl
 have q7:Hid ((headA g)[7]? =some (.int .i64 ((g.age.getD 0:Nat):Int))):=zA7 rfl
 have q8:Hid ((headA g)[8]? =some (.bool g.secure)):=zA7 rfl
 have q9:Hid ((headA g)[9]? =some (.bool g.only)):=zA7 rfl
 have aG:Hid ((headA g)[10]? =some (.int .i64 (g.same:Int))):=zA7 rfl
 have p0:Hid ((pA u)[0]? =some (.bool u.secure)):=zA7 rfl
 have eO:Hid ((pA u)[20]? =some (.string ub)):=zA7 (by rw[hub];exact vI u ha)
 have hpar: ∃o,dA.parse g.domain=o:=⟨_,rfl⟩
 obtain⟨K0,N3⟩:=uQ w (pA u) (headA g)
 obtain⟨po,hpo⟩:=hpar
 rw[hpo]at H3 W1
 simp only[hpo]at W2 W3 W4 W5 CB
 clear oE hlen hdb hdl hds hpb hub hnb hvb hgd hgf JN hc0 hc1 hc2 hc3 hc4 hcv l0 l1 l2 l3 l4 hg UF hur hv hrn hrm hn hp ha hpo
 generalize Ad.breaks g oo=br at*
 generalize Ad.pre (Ad.told g)=pr at*
 generalize Ad.RJ g now=ee at*
 generalize Ma.default u.path=dp at*
 generalize fA u.host=H at*
 generalize u.secure=us at*
 generalize pA u=U at*
 generalize headA g=V at*
 go_enter Tryz.func14,Tryz.ntmps14
 go_wp2_with (first
  |(refine wpList_store_row rfl 39 _ _ rfl (w.heap.size+3) (gA Ma.oA) rfl rfl 39 _ N3 IZ.out rfl HZ1.out ?_)
  |(refine iA 20 rfl ?_;refine qA rfl 33 _ rfl w.heap.size rfl K0.row0 Tryz.underlying33 rfl IU.out ?_))
 clear N3
 generalize((((w.alloc (.cells U 33)).alloc (.cells V 35)).alloc (.cells (gA Ma.oA) 39)).alloc (.cells (gA Ma.oA) 39)).setRow (w.heap.size+3) (gA Ma.oA)=x0 at*
 refine(H1.out _).mono ?_
 rintro e x1 ⟨rfl,d1⟩
 have K1:=K0.on d1
 clear K0 d1 H1
 go_wp2_with (refine iA 25 rfl ?_;refine qA rfl 35 _ rfl (w.heap.size+1) rfl K1.NB Tryz.underlying35 rfl IV.out ?_)
 refine(H2.out _).mono ?_
 rintro e x2 ⟨⟨X,rfl⟩,d2⟩
 have K2:=K1.on d2
 clear K1 d2 H2
 have k1: ¬now<0:=by omega
 have k2: ¬1099511627776<now:=by omega
 have a0:=(K2.NB.cell 0).trans q0.out
 have a1:=(K2.NB.cell 1).trans q1.out
 have a3:=(K2.NB.cell 3).trans q3.out
 have a8:=(K2.NB.cell 8).trans q8.out
 have a9:=(K2.NB.cell 9).trans q9.out
 have CJ:=(K2.NB.cell 10).trans aG.out
 obtain⟨T3,U3,C3,L3⟩:=JA 39 (gA Ma.oA) (gA c0) K2.below K2.below.size
 have lt3:=K2.MD.lt
 have K3:ED w.heap.size x2.heap.size U V c0 w ((x2.alloc (.cells (gA Ma.oA) 39)).setRow x2.heap.size (gA c0)):=⟨⟨L3 _ _ _ K2.row0,L3 _ _ _ K2.NB,L3 _ _ _ K2.EB,L3 _ _ _ K2.MD,C3⟩,U3,by omega,zB3 _⟩
 go_upto_region 10 with(first
  |(refine iA 44 rfl ?_;refine QC rfl 31 _ rfl w.heap.size 1 18 rfl K2.row0 Tryz.underlying31 rfl tA LU.out H gD.out ?_)
  |(refine iA 55 rfl ?_;refine XK rfl 39 _ rfl _ (by rfl) _ eD.out ?_)
  |(refine wpList_store_row rfl 39 _ _ rfl x2.heap.size (gA c0) rfl rfl 39 _ T3 ZX.out (by rw[nY.out]) cY.out ?_))
 clear a0 a1 a3 a8 a9 CJ T3 U3 C3 L3 K2 lt3
 generalize(x2.alloc (.cells (gA Ma.oA) 39)).setRow x2.heap.size (gA c0)=x3 at*
 generalize x2.heap.size=k at*
 clear eD ZX nY cY x2
 have a2:=(K3.held.NB.cell 2).trans q2.out
 obtain⟨em,hem⟩: ∃b,decide (g.domain= [])=b:=⟨_,rfl⟩
 have he:=xM.out
 rw[hem]at he
 have BI:=zA7 hem
 clear hem xM
 go_upto_if 58 with fail
 go_cut [] (fun wx=>oc=0/\ED w.heap.size k U V c1 w wx)
 case first=>as_aux_lemma=>
  cases em
  ·have hd0:=zA7 (of_decide_eq_false BI.out)
   cases po with
   |none=>
    have H3:Hid (∀W,Calls Tryz.prog 31 #[.string db] W fun e w'=>e= .returned (.tuple #[.agg (fA dA.zero),.int .i64 31])/\Below W.heap.size W w'):=H3
    have hoc:=W1.out hd0.out rfl
    subst hoc
    have PO:=zA7 (PA.out (by decide))
    clear PA PB PC PD PE W0 W1 W2 W3 W4 W5
    go_wp2_with fail
    refine(H3.out _).mono ?_
    rintro e x4 ⟨rfl,d4⟩
    have K4:=K3.held.on d4
    obtain⟨T5,U5,C5,L5⟩:=JA 31 (fA dA.zero) (fA dA.zero) K4.below K4.below.size
    have K5:TK w.heap.size U V w ((x4.alloc (.cells (fA dA.zero) 31)).setRow x4.heap.size (fA dA.zero)):=⟨L5 _ _ _ K4.row0,L5 _ _ _ K4.NB,L5 _ _ _ K4.EB,L5 _ _ _ K4.MD,C5⟩
    have IZH:=zA7 (show(Tryz.prog.info? 31).map (·.size)=some (fA dA.zero).size from tA)
    have OZH:=zA7 (aB dA.zero)
    go_wp2_with (first|(refine wpList_store_row rfl 31 _ _ rfl x4.heap.size (fA dA.zero) rfl rfl 31 _ T5 IZH.out rfl OZH.out ?_)|(refine iA 67 rfl ?_;refine qA rfl 39 _ rfl (w.heap.size+3) rfl K5.MD Tryz.underlying39 rfl IZ.out ?_)|(refine wpList_store_row rfl 39 _ _ rfl (w.heap.size+2) (gA Ma.oA) rfl rfl 39 _ K5.EB IZ.out rfl HZ1.out ?_))
    exact bodyPost_ret (v:= .tuple #[.agg (gA Ma.oA),.int .i64 101]) (DA rfl _ _ (w.heap.size+2) _ _ _ rfl _ rfl (K5.EB.whole _) Tryz.underlying39 rfl IZ.out) rfl (PO.out _ (below_setRow K5.below (by omega) _))
   |some d=>
    have H3:Hid (∀W,Calls Tryz.prog 31 #[.string db] W fun e w'=>e= .returned (.tuple #[.agg (fA d),.int .i64 0])/\Below W.heap.size W w'):=H3
    obtain⟨dl,OH,GK,UO⟩:=CB.out d rfl
    have OH:=zA7 OH
    have GK:=zA7 GK
    have W2:=zA7 (W2.out d hd0.out rfl)
    have W3:=zA7 (W3.out d hd0.out rfl)
    have W4:=zA7 (W4.out d hd0.out rfl)
    have W5:=zA7 (W5.out d hd0.out rfl)
    have ID:=zA7 (show(Tryz.prog.info? 31).map (·.size)=some (fA d).size by rw[QA d dl];exact tA)
    have SD:=zA7 (show(fA d).size=(fA dA.zero).size by rw[QA d dl];rfl)
    have OD:=zA7 (aB d)
    have LD:=zA7 (show 2+(fA d).size<=29 by rw[QA d dl];decide)
    have wF:=zA7 (fun h1 h2=>wF.out d h1 h2 dl)
    obtain⟨eq,heq⟩: ∃b,decide (d=u.host)=b:=⟨_,rfl⟩
    rw[heq]at UO
    have wD:=zA7 heq
    generalize Ad.sD rs d=pub at*
    generalize Ma.domain u.host d=dm at*
    clear CB W0 W1 heq dl
    generalize hD:fA d=D at*
    clear hD
    go_wp2_with fail
    refine(H3.out _).mono ?_
    rintro e x4 ⟨rfl,d4⟩
    have K4:=K3.on d4
    obtain⟨T5,U5,C5,L5⟩:=JA 31 (fA dA.zero) D K4.held.below K4.held.below.size
    have K5:ED w.heap.size k U V c0 w ((x4.alloc (.cells (fA dA.zero) 31)).setRow x4.heap.size D):=⟨⟨L5 _ _ _ K4.held.row0,L5 _ _ _ K4.held.NB,L5 _ _ _ K4.held.EB,L5 _ _ _ K4.held.MD,C5⟩,L5 _ _ _ K4.row,K4.lt,K4.base⟩
    have ltk:=K4.row.lt
    clear K4 K3 L5 C5 d4 H3 a2 he
    go_wp2_with (first
     |(refine wpList_store_row rfl 31 _ _ rfl x4.heap.size D rfl rfl 31 _ T5 ID.out (by rw[SD.out]) OD.out ?_)
     |(refine iA 69 rfl ?_;refine qA rfl 31 _ rfl x4.heap.size rfl U5 Tryz.underlying31 rfl ID.out ?_))
    clear T5
    generalize(x4.alloc (.cells (fA dA.zero) 31)).setRow x4.heap.size D=x5 at*
    generalize x4.heap.size=g5 at*
    refine(OH.out _ (HV.out.stays K5.held.below)).mono ?_
    rintro e x6 ⟨rfl,d6⟩
    have K6:=K5.on d6
    have U6:=U5.stays d6
    clear K5 U5 d6 OH
    cases pub<;>cases eq
    case true.false=>
     have hoc:=W2.out rfl (of_decide_eq_false wD.out)
     subst hoc
     have PO:=zA7 (PA.out (by decide))
     have lF:=K6.held
     clear PA PB PC PD PE W2 W3 W4 W5 wF
     go_wp2_with (first|(refine iA 73 rfl ?_;refine qA rfl 31 _ rfl g5 rfl U6 Tryz.underlying31 rfl ID.out ?_)|(refine iA 75 rfl ?_;refine QC rfl 31 _ rfl w.heap.size 1 18 rfl lF.row0 Tryz.underlying31 rfl tA LU.out H gD.out ?_)|(refine iA 78 rfl ?_;refine qA rfl 39 _ rfl (w.heap.size+3) rfl lF.MD Tryz.underlying39 rfl IZ.out ?_)|(refine wpList_store_row rfl 39 _ _ rfl (w.heap.size+2) (gA Ma.oA) rfl rfl 39 _ lF.EB IZ.out rfl HZ1.out ?_))
     exact bodyPost_ret (v:= .tuple #[.agg (gA Ma.oA),.int .i64 102]) (DA rfl _ _ (w.heap.size+2) _ _ _ rfl _ rfl (lF.EB.whole _) Tryz.underlying39 rfl IZ.out) rfl (PO.out _ (below_setRow lF.below (by omega) _))
    all_goals
     have lF:=K6.held
     go_wp2_with (first|(refine iA 73 rfl ?_;refine qA rfl 31 _ rfl g5 rfl U6 Tryz.underlying31 rfl ID.out ?_)|(refine iA 75 rfl ?_;refine QC rfl 31 _ rfl w.heap.size 1 18 rfl lF.row0 Tryz.underlying31 rfl tA LU.out H gD.out ?_)|(refine iA 80 rfl ?_;refine QC rfl 31 _ rfl w.heap.size 1 18 rfl lF.row0 Tryz.underlying31 rfl tA LU.out H gD.out ?_)|(refine iA 81 rfl ?_;refine qA rfl 31 _ rfl g5 rfl U6 Tryz.underlying31 rfl ID.out ?_))
     refine(GK.out _).mono ?_
     rintro e x7 ⟨rfl,d7⟩
     have K7:=K6.on d7
     have U7:=U6.stays d7
     have mE:=K7.held
     clear K6 lF U6 d7 GK
     cases dm
    ·have hoc:=W3.out (by simp) (by trivial)
     subst hoc
     have PO:=zA7 (PA.out (by decide))
     clear PA PB PC PD PE W2 W3 W4 W5 wF
     go_wp2_with (first|(refine iA 84 rfl ?_;refine qA rfl 39 _ rfl (w.heap.size+3) rfl mE.MD Tryz.underlying39 rfl IZ.out ?_)|(refine wpList_store_row rfl 39 _ _ rfl (w.heap.size+2) (gA Ma.oA) rfl rfl 39 _ mE.EB IZ.out rfl HZ1.out ?_))
     exact bodyPost_ret (v:= .tuple #[.agg (gA Ma.oA),.int .i64 103]) (DA rfl _ _ (w.heap.size+2) _ _ _ rfl _ rfl (mE.EB.whole _) Tryz.underlying39 rfl IZ.out) rfl (PO.out _ (below_setRow mE.below (by omega) _))
    ·obtain⟨hoc,wG,xG⟩:=W5.out (by trivial) (by trivial)
     obtain⟨s1,s2,s3⟩:=wF.out wG xG
     have GC:=zA7 s1
     have HS2:=zA7 s2
     have UV:=((K7.row.whole (gA {c0 with host:=d})).cell 20).trans s3
     have f20:=(K7.row.whole (gA {c0 with host:=d})).free 20
     have K8:=(K7.whole {c0 with host:=d}).put HS2.out
     have LK:=zA7 (show 2+D.size<=(gA c0).size by rw[oY.out];exact LD.out)
     clear s1 s2 s3 PA PB PC PD PE W2 W3 W4 W5 wF wG xG
     generalize gA {c0 with host:=d} =CC at*
     go_wp2_with (first|(refine iA 87 rfl ?_;refine qA rfl 31 _ rfl g5 rfl U7 Tryz.underlying31 rfl ID.out ?_)|(refine AR rfl 31 _ _ rfl k 2 D rfl rfl 39 _ K7.row ID.out LK.out OD.out CC GC.out ?_))
     go_meet
     exact⟨hoc,K8⟩
    ·have hoc:=W3.out (by simp) (by trivial)
     subst hoc
     have PO:=zA7 (PA.out (by decide))
     clear PA PB PC PD PE W2 W3 W4 W5 wF
     go_wp2_with (first|(refine iA 84 rfl ?_;refine qA rfl 39 _ rfl (w.heap.size+3) rfl mE.MD Tryz.underlying39 rfl IZ.out ?_)|(refine wpList_store_row rfl 39 _ _ rfl (w.heap.size+2) (gA Ma.oA) rfl rfl 39 _ mE.EB IZ.out rfl HZ1.out ?_))
     exact bodyPost_ret (v:= .tuple #[.agg (gA Ma.oA),.int .i64 103]) (DA rfl _ _ (w.heap.size+2) _ _ _ rfl _ rfl (mE.EB.whole _) Tryz.underlying39 rfl IZ.out) rfl (PO.out _ (below_setRow mE.below (by omega) _))
    ·obtain⟨hoc,wG,xG⟩:=W5.out (by trivial) (by trivial)
     obtain⟨s1,s2,s3⟩:=wF.out wG xG
     have GC:=zA7 s1
     have HS2:=zA7 s2
     have UV:=((K7.row.whole (gA {c0 with host:=d})).cell 20).trans s3
     have f20:=(K7.row.whole (gA {c0 with host:=d})).free 20
     have K8:=(K7.whole {c0 with host:=d}).put HS2.out
     have LK:=zA7 (show 2+D.size<=(gA c0).size by rw[oY.out];exact LD.out)
     clear s1 s2 s3 PA PB PC PD PE W2 W3 W4 W5 wF wG xG
     generalize gA {c0 with host:=d} =CC at*
     go_wp2_with (first|(refine iA 87 rfl ?_;refine qA rfl 31 _ rfl g5 rfl U7 Tryz.underlying31 rfl ID.out ?_)|(refine AR rfl 31 _ _ rfl k 2 D rfl rfl 39 _ K7.row ID.out LK.out OD.out CC GC.out ?_))
     go_meet
     exact⟨hoc,K8⟩
    ·have hoc:=W3.out (.inr (zB1 wD.out)) (by trivial)
     subst hoc
     have PO:=zA7 (PA.out (by decide))
     clear PA PB PC PD PE W2 W3 W4 W5 wF
     go_wp2_with (first|(refine iA 84 rfl ?_;refine qA rfl 39 _ rfl (w.heap.size+3) rfl mE.MD Tryz.underlying39 rfl IZ.out ?_)|(refine wpList_store_row rfl 39 _ _ rfl (w.heap.size+2) (gA Ma.oA) rfl rfl 39 _ mE.EB IZ.out rfl HZ1.out ?_))
     exact bodyPost_ret (v:= .tuple #[.agg (gA Ma.oA),.int .i64 103]) (DA rfl _ _ (w.heap.size+2) _ _ _ rfl _ rfl (mE.EB.whole _) Tryz.underlying39 rfl IZ.out) rfl (PO.out _ (below_setRow mE.below (by omega) _))
    ·obtain⟨hoc,wG,xG⟩:=W4.out (by trivial) (zB1 wD.out) (by trivial)
     have h01:=aS.out wG xG
     subst h01
     clear PA PB PC PD PE W2 W3 W4 W5 wF wG xG
     go_wp2
     go_meet
     exact⟨hoc,K7⟩
  ·obtain⟨hoc,wG,xG⟩:=W0.out (zB1 BI.out)
   have h01:=aS.out wG xG
   subst h01
   clear PA PB PC PD PE W0 W1 W2 W3 W4 W5 wF wG xG
   go_wp2
   go_meet
   exact⟨hoc,K3⟩
 case rest=>
 obtain⟨hoc,K4⟩:=hcut
 clear W0 W1 W2 W3 W4 W5 wF aS PA CB H3 BI he a2 K3 q2 HV
 obtain⟨pm,hpm⟩: ∃b,decide (g.path= [])=b:=⟨_,rfl⟩
 have hpe:=zX.out
 rw[hpm]at hpe
 have NK:=zA7 hpm
 clear hpm zX
 have a21:=(K4.row.cell 21).trans fY.out
 go_upto_if 92 with fail
 go_cut [] (fun wx=>ED w.heap.size k U V c2 w wx)
 case first=>as_aux_lemma=>
  cases pm
  ·have h12:=ZW.out (of_decide_eq_false NK.out)
   subst h12
   go_wp2
   go_meet
   exact K4
  ·have f21:=K4.row.free 21
   have b20:=(K4.held.row0.cell 20).trans eO.out
   have K5:=K4.put (kY.out (zB1 NK.out))
   go_wp2_with (go_at_call 19;refine(H6.out _).mono ?_;rintro e w1 ⟨rfl,rfl⟩)
   go_meet
   exact K5
 case rest=>
 have K5:=hcut
 clear hcut K4 a21 hpe NK ZW kY fY H6 eO
 have a8:=(K5.held.NB.cell 8).trans q8.out
 have b0:=(K5.held.row0.cell 0).trans p0.out
 obtain⟨sec,gI⟩: ∃b,g.secure=b:=⟨_,rfl⟩
 have aH:=zA7 gI
 rw[gI]at a8
 clear gI
 obtain⟨b3,hb3⟩: ∃b,(sec&& !us)=b:=⟨_,rfl⟩
 have HB3:=zA7 hb3
 go_upto_region 24 with fail
 go_cut [103] (fun sx wx=>sx= .bool b3/\ED w.heap.size k U V c2 w wx)
 case first=>as_aux_lemma=>
  subst hb3
  cases sec<;>cases us
  all_goals
   go_wp2
   go_meet
   exact⟨rfl,K5⟩
 case rest=>
 clear hb3
 obtain⟨rfl,K6⟩:=hcut
 clear K5 a8 b0
 cases b3
 case true=>
  have PO:=zA7 (PB.out hoc (by have h:=HB3.out;rw[aH.out];cases sec<;>cases us<;>simp at h⊢))
  have lF:=K6.held
  clear PB PC PD PE
  go_wp2_with (first|(refine iA 104 rfl ?_;refine qA rfl 39 _ rfl (w.heap.size+3) rfl lF.MD Tryz.underlying39 rfl IZ.out ?_)|(refine wpList_store_row rfl 39 _ _ rfl (w.heap.size+2) (gA Ma.oA) rfl rfl 39 _ lF.EB IZ.out rfl HZ1.out ?_))
  exact bodyPost_ret (v:= .tuple #[.agg (gA Ma.oA),.int .i64 104]) (DA rfl _ _ (w.heap.size+2) _ _ _ rfl _ rfl (lF.EB.whole _) Tryz.underlying39 rfl IZ.out) rfl (PO.out _ (below_setRow lF.below (by omega) _))
 case false=>
 have h2:Hid (¬(g.secure=true/\us=false)):=zA7 (by have h:=HB3.out;rw[aH.out];cases sec<;>cases us<;>simp at h⊢)
 clear PB p0 HB3
 go_upto_region 26 with fail
 have a8:=(K6.held.NB.cell 8).trans q8.out
 have CJ:=(K6.held.NB.cell 10).trans aG.out
 rw[aH.out]at a8
 obtain⟨sm,hsm⟩: ∃n:Int,((g.same:Nat):Int)=n:=⟨_,rfl⟩
 rw[hsm]at CJ
 obtain⟨s1,hs1⟩: ∃b,(sm==1)=b:=⟨_,rfl⟩
 have GC:Hid (decide (g.same=1)=s1):=zA7 (by rw[<-hs1,<-hsm,Bool.eq_iff_iff];simp;omega)
 clear hsm
 obtain⟨b4,hb4⟩: ∃b,(s1&& !sec)=b:=⟨_,rfl⟩
 have MH:=zA7 hb4
 go_cut [112] (fun sx wx=>sx= .bool b4/\ED w.heap.size k U V c2 w wx)
 case first=>as_aux_lemma=>
  subst hb4
  cases s1<;>cases sec
  all_goals
   go_wp2
   go_meet
   exact⟨rfl,K6⟩
 case rest=>
 clear hb4
 obtain⟨rfl,K7⟩:=hcut
 clear K6 a8 CJ hs1
 cases b4
 case true=>
  have PO:=zA7 (PC.out hoc h2.out (by
   have h:=MH.out
   have hs:=GC.out
   rw[aH.out]
   cases s1<;>cases sec<;>simp at h
   exact⟨zB1 hs,rfl⟩))
  have mE:=K7.held
  clear PC PD PE
  go_wp2_with (first|(refine iA 113 rfl ?_;refine qA rfl 39 _ rfl (w.heap.size+3) rfl mE.MD Tryz.underlying39 rfl IZ.out ?_)|(refine wpList_store_row rfl 39 _ _ rfl (w.heap.size+2) (gA Ma.oA) rfl rfl 39 _ mE.EB IZ.out rfl HZ1.out ?_))
  exact bodyPost_ret (v:= .tuple #[.agg (gA Ma.oA),.int .i64 105]) (DA rfl _ _ (w.heap.size+2) _ _ _ rfl _ rfl (mE.EB.whole _) Tryz.underlying39 rfl IZ.out) rfl (PO.out _ (below_setRow mE.below (by omega) _))
 case false=>
 have h3:Hid (¬(g.same=1/\g.secure=false)):=zA7 (by
  have h:=MH.out
  have hs:=GC.out
  rw[aH.out]
  rintro⟨k1,k2⟩
  rw[zA9 k1]at hs
  subst hs k2
  cases h)
 clear PC aG GC MH aH
 have a0:=(K7.held.NB.cell 0).trans q0.out
 have a1:=(K7.held.NB.cell 1).trans q1.out
 obtain⟨nm,hnm⟩: ∃b,decide (g.name= [])=b:=⟨_,rfl⟩
 have hne:=tX.out
 rw[hnm]at hne
 have HT1:Hid (nm=true->(if g.name= []then vb else nb)=vb):=zA7 (fun h=>if_pos (zB1 (hnm.trans h)))
 have HT0:Hid (nm=false->(if g.name= []then vb else nb)=nb):=zA7 (fun h=>if_neg (of_decide_eq_false (hnm.trans h)))
 clear hnm tX
 obtain⟨tb,htb⟩: ∃t,(if g.name= []then vb else nb)=t:=⟨_,rfl⟩
 rw[htb]at H7 HT1 HT0
 clear htb
 go_upto_if 117 with fail
 go_cut [17] (fun sx wx=>sx= .string tb/\ED w.heap.size k U V c2 w wx)
 case first=>as_aux_lemma=>
  cases nm
  ·have ht:=HT0.out rfl
   subst ht
   go_wp2
   go_meet
   exact⟨rfl,K7⟩
  ·have ht:=HT1.out rfl
   subst ht
   go_wp2
   go_meet
   exact⟨rfl,K7⟩
 case rest=>
 obtain⟨rfl,K8⟩:=hcut
 clear K7 a0 a1 hne HT1 HT0 q0 q1
 go_upto_region 32 with(go_at_call 16;refine(H7.out _).mono ?_;rintro e x9 ⟨rfl,d9⟩)
 have K9:=K8.on d9
 clear K8 d9 H7
 have a8:=(K9.held.NB.cell 8).trans q8.out
 have a3:=(K9.held.NB.cell 3).trans q3.out
 have UV:=(K9.row.cell 20).trans eY.out
 obtain⟨pe,hpe⟩: ∃b,decide (g.path= [47])=b:=⟨_,rfl⟩
 have hps:=AX.out
 rw[hpe]at hps JF
 clear hpe AX
 go_cut [147] (fun sx wx=>sx= .bool br/\ED w.heap.size k U V c2 w wx)
 case first=>as_aux_lemma=>
  obtain⟨sec,gI⟩: ∃b,g.secure=b:=⟨_,rfl⟩
  rw[gI]at a8 JF
  clear gI
  rcases YD.out with rfl|rfl|rfl
  ·have hb:Hid (br=false):=zA7 (by rw[JF.out];simp)
   clear JF YD
   go_wp2
   go_meet
   exact⟨by rw[hb.out],K9⟩
  ·have hb:Hid (br= !sec):=zA7 (by rw[JF.out];simp)
   clear JF YD
   cases sec
   all_goals
    go_wp2
    go_meet
    exact⟨by rw[hb.out];rfl,K9⟩
  ·have hb:Hid (br=(!sec|| !oo|| !pe)):=zA7 (by rw[JF.out];simp)
   clear JF YD
   cases sec<;>cases oo<;>cases pe
   all_goals
    go_wp2
    go_meet
    exact⟨by rw[hb.out];rfl,K9⟩
 case rest=>
 obtain⟨rfl,GB⟩:=hcut
 clear K9 a8 a3 UV hps JF YD q8 q3 eY
 cases br
 case true=>
  have PO:=zA7 (PD.out hoc h2.out h3.out rfl)
  have gP:=GB.held
  clear PD PE
  go_wp2_with (first|(refine iA 148 rfl ?_;refine qA rfl 39 _ rfl (w.heap.size+3) rfl gP.MD Tryz.underlying39 rfl IZ.out ?_)|(refine wpList_store_row rfl 39 _ _ rfl (w.heap.size+2) (gA Ma.oA) rfl rfl 39 _ gP.EB IZ.out rfl HZ1.out ?_))
  exact bodyPost_ret (v:= .tuple #[.agg (gA Ma.oA),.int .i64 106]) (DA rfl _ _ (w.heap.size+2) _ _ _ rfl _ rfl (gP.EB.whole _) Tryz.underlying39 rfl IZ.out) rfl (PO.out _ (below_setRow gP.below (by omega) _))
 case false=>
 have PO:=zA7 (PE.out hoc h2.out h3.out rfl)
 clear PD PE hoc h2 h3
 have a4:=(GB.held.NB.cell 4).trans q4.out
 have a5:=(GB.held.NB.cell 5).trans q5.out
 have VV:=(GB.row.cell 25).trans iY.out
 have f25:=GB.row.free 25
 go_upto_if 150 with fail
 go_cut [] (fun wx=>ED w.heap.size k U V c3 w wx)
 case first=>as_aux_lemma=>
  cases hx:g.exp with
  |none=>
   have h23:=cS.out hx
   subst h23
   rw[hx]at a4
   simp only[Option.isSome_none]at a4
   clear hx a5
   go_wp2
   go_meet
   exact GB
  |some x=>
   have KC:=GB.put (lY.out x hx)
   rw[hx]at a4 a5
   simp only[Option.isSome_some,Option.getD_some]at a4 a5
   have hw:IntKind.i64.wrap (now+34560000)=now+34560000:=by rw[IntKind.wrap_i64];omega
   clear hx cS
   go_wp2
   go_meet
   exact KC
 case rest=>
 have KC:=hcut
 clear hcut GB a4 a5 VV f25 cS lY iY q4 q5
 have a6:=(KC.held.NB.cell 6).trans q6.out
 have a7:=(KC.held.NB.cell 7).trans q7.out
 have VV:=(KC.row.cell 25).trans jY.out
 have f25:=KC.row.free 25
 go_upto_if 158 with fail
 go_cut [] (fun wx=>ED w.heap.size k U V c4 w wx)
 case first=>as_aux_lemma=>
  cases hx:g.age with
  |none=>
   have h34:=dS.out hx
   subst h34
   rw[hx]at a6
   simp only[Option.isSome_none]at a6
   clear hx a7
   go_wp2
   go_meet
   exact KC
  |some a=>
   have pG:=KC.put (mY.out a hx)
   have hal:=rM.out a hx
   rw[hx]at a6 a7
   simp only[Option.isSome_some,Option.getD_some]at a6 a7
   have hw:IntKind.i64.wrap (now+(a:Int))=now+(a:Int):=by rw[IntKind.wrap_i64];omega
   clear hx dS
   go_wp2
   go_meet
   exact pG
 case rest=>
 have pG:=hcut
 clear hcut KC a6 a7 VV f25 dS mY jY q6 q7
 go_wp2_with (first
  |(refine iA 164 rfl ?_;refine qA rfl 39 _ rfl k rfl pG.row Tryz.underlying39 rfl ZS.out ?_)
  |(refine wpList_store_row rfl 39 _ _ rfl (w.heap.size+2) (gA c4) rfl rfl 39 _ pG.held.EB ZS.out (by rw[SC4.out]) OC4.out ?_))
 exact bodyPost_ret (v:= .tuple #[.agg (gA c4),.int .i64 0]) (DA rfl _ _ (w.heap.size+2) _ _ _ rfl _ rfl (pG.held.EB.whole _) Tryz.underlying39 rfl ZS.out) rfl (PO.out _ (below_setRow pG.held.below (by omega) _))
theorem cAt(rs:List Ru.Rule)(v:Value)(u:Ur.URL)(ha:u.host.addr.length=16)(hn:u.host.name.length<=2900)(hp:u.path.length<=9000)(r:Hd.Raw)(hr:eH r)(now:Int)(w:World)(hv:ZD w v rs)(hrn:rs.length<=1000)(hrm: ∀r∈rs,r.name.length<=1000):
  Calls Tryz.prog 14 #[v,.agg (pA u),.agg (uA r),.int .i64 now] w (yD (Ad.bD rs u r now) w):=by
 cases hur:Ur.right u with
 |false=>rw[Ad.dA7 hur];exact mAZ v u ha hn hp r hr now w hur
 |true=>
  cases hcr:Hd.jC r with
  |false=>rw[Ad.dA6 hur hcr];exact mAX v u ha hn hp r hr now w hur hcr
  |true=>
   obtain⟨g,hg,rfl⟩:=Hd.YK hcr
   by_cases FF:0<=now/\now<=1099511627776
   ·rw[Ad.FH hur hg,TL]
    exact mAY rs v u ha hn hp g hg hr now FF w hur hv hrn hrm
   ·have e:Ad.bD rs u (Hd.Raw.of g) now=(122,Ad.zero):=by
     rw[Ad.FH hur hg];unfold Ad.take;rw[if_pos (by omega)]
    rw[e]
    exact mAW v u ha hn hp (Hd.Raw.of g) hr now w hur hcr (by omega)
end Go.Proofs.YtabgoobcliijeaaGreatDoor
