/- The walk of the law JarNames. -/
import Derived.Test.YtdaaoopkkhfbhaaGreatDoorY23
set_option maxHeartbeats 16000000
set_option maxRecDepth 100000
namespace Go.Proofs.YtdaaoopkkhfbhaaGreatDoor
open Go.RowKit Go.Maps
theorem XK(u:Ur.URL)(ha:u.host.addr.length=16)(hn:u.host.name.length<=9000)(hp:u.path.length<=9000)(t:ByteArray)(ht:t.size<=maxLen){j j':Jr.MA}{n:Int}(hs:Jr.set j u t.data.toList=(j',n))(hl:j.s.last<1000000/\j.s.l.length<3000)(B:Nat)(w:World)(hw:mB w){jb tb sb mb:Nat}(h:pB w B jb tb sb mb j):
  Calls Tryz.prog 12 #[.pointer (some ⟨jb,0,none⟩),.agg (nA u),.string t] w fun e w'=>e= .returned (.int .i64 n)/\pB w' B jb tb sb mb j'/\AA jb sb mb w w':=by
 have:=oR u ha hn hp t ht w hw h hl.1 hl.2
 rw[hs]at this
 exact this
theorem GR(m:Int){j j':Jr.MA}{n:Int}(hs:Jr.tick j m=(j',n))(B:Nat)(w:World){jb tb sb mb:Nat}(h:pB w B jb tb sb mb j):
  Calls Tryz.prog 14 #[.pointer (some ⟨jb,0,none⟩),.int .i64 m] w fun e w'=>e= .returned (.int .i64 n)/\pB w' B jb tb sb mb j'/\AA jb sb mb w w':=by
 have:=lAj m w h
 rw[hs]at this
 exact this
theorem bY {j:Jr.MA}{n:Int}(hs:j.now=n)(B:Nat)(w:World){jb tb sb mb:Nat}(h:pB w B jb tb sb mb j):
  Calls Tryz.prog 15 #[.pointer (some ⟨jb,0,none⟩)] w fun e w'=>e= .returned (.int .i64 n)/\w=w':=by
 have:=fJ (jb:=jb) w h.cell0
 rw[hs]at this
 exact this
theorem fAI(w:World)(hw:mB w):
  Calls Tryz.prog 3 #[] w fun e w'=>e= .returned (.bool true)/\Below w.heap.size w w':=by
 have z0:=kS
 have HA:=zA7 (fun W hW=>fAH W hW)
 have HT:=zA7 (TX [] (.slice none 0 0) w hw.MC.std (ZX w) (by decide) (by simp))
 unfold aK at HT
 have HN:=zA7 (fun W n₀ tb tm (h:TabAt W n₀ tb tm (Sx.new []))(hB:w.heap.size<=W.heap.size)=>RX w.heap.size W h hB)
 have xI:=zA7 (fun W=>XL ⟨#[104,116,116,112,115,58,47,47,104,47]⟩ Jr.jI Jr.iAk W (by decide))
 have IL:=zA7 (fun W=>XL ⟨#[104,116,116,112,58,47,47,104,47]⟩ Jr.uH Jr.iAj W (by decide))
 have hl0:(Jr.fresh []).s.last<1000000/\(Jr.fresh []).s.l.length<3000:=by decide
 have hl1:Jr.n1.s.last<1000000/\Jr.n1.s.l.length<3000:=by decide+kernel
 have tB:=zA7 (XK Jr.jI rfl (by decide) (by decide) ⟨#[97,61,49,59,32,83,101,99,117,114,101]⟩ (by decide) (show Jr.set (Jr.fresh []) Jr.jI Jr.JN=(Jr.n1,0) from Prod.ext rfl Jr.kAm) hl0 w.heap.size)
 have HS2:=zA7 (XK Jr.uH rfl (by decide) (by decide) ⟨#[97,61,50]⟩ (by decide) Jr.kAn hl1 w.heap.size)
 have RE:=zA7 (GR (-1) Jr.lAk w.heap.size)
 have WS:=zA7 (XK Jr.uH rfl (by decide) (by decide) ⟨#[]⟩ (by decide) Jr.kAo hl1 w.heap.size)
 have XS:=zA7 (XK Ur.zero rfl (by decide) (by decide) ⟨#[97,61,49]⟩ (by decide) Jr.kAp hl1 w.heap.size)
 have YS:=zA7 (XK Jr.uH rfl (by decide) (by decide) ⟨#[97,61,49,59,32,83,101,99,117,114,101]⟩ (by decide) Jr.kAq hl1 w.heap.size)
 have ZS:=zA7 (bY Jr.hAv w.heap.size)
 have aT:=zA7 (GR 1099511627776 (show Jr.tick Jr.n1 1099511627776=(Jr.n7,0) from Prod.ext rfl Jr.lAl) w.heap.size)
 have bT:=zA7 (GR 1 Jr.lAm w.heap.size)
 have VS:=zA7 (bY Jr.hAw w.heap.size)
 have X7:=zA7 (show Tryz.prog.built 34 []=some (nA Ur.zero) from bA6)
 have HW:=zA7 hw
 clear hl0 hl1
 generalize Jr.n1=N1 at*
 generalize Jr.n7=N7 at*
 generalize nA Ur.zero=UZ at*
 generalize nA Jr.uH=UH at*
 generalize nA Jr.jI=US at*
 go_enter Tryz.func3,Tryz.ntmps3
 go_wp2_with fail
 refine HT.out.mono ?_
 rintro e x1 ⟨tb,tm,rfl,K1,d1⟩
 go_wp2_with fail
 refine(HN.out _ _ _ _ K1 d1.size).mono ?_
 rintro e x2 ⟨jb,sb,mb,rfl,K2,d2⟩
 have C2:=d1.trans (d2.mono d1.size)
 clear K1 d1 d2 HT HN
 go_wp2_with fail
 refine(HA.out _ (HW.out.below C2)).mono ?_
 rintro e x3 ⟨rfl,d3⟩
 have K3:=K2.stays d3
 have C3:=C2.trans (d3.mono C2.size)
 clear K2 d3 C2 HA
 go_wp2_with fail
 refine(xI.out _).mono ?_
 rintro e x4 ⟨rfl,d4⟩
 have K4:=K3.stays d4
 have C4:=C3.trans (d4.mono C3.size)
 clear K3 d4 C3
 go_wp2_with fail
 refine(tB.out _ (HW.out.below C4) K4).mono ?_
 rintro e x5 ⟨rfl,K5,t5⟩
 have C5:=C4.trans (t5.below K4.low.1 K4.low.2.1 K4.low.2.2 C4.size)
 clear K4 t5 C4
 clear tB xI
 go_wp2_with fail
 refine(IL.out _).mono ?_
 rintro e x6 ⟨rfl,d6⟩
 have K6:=K5.stays d6
 have C6:=C5.trans (d6.mono C5.size)
 clear K5 d6 C5
 go_wp2_with fail
 refine(HS2.out _ (HW.out.below C6) K6).mono ?_
 rintro e x7 ⟨rfl,K7,t7⟩
 have C7:=C6.trans (t7.below K6.low.1 K6.low.2.1 K6.low.2.2 C6.size)
 clear K6 t7 C6
 clear HS2
 go_wp2_with fail
 refine(RE.out _ K7).mono ?_
 rintro e x8 ⟨rfl,K8,t8⟩
 have C8:=C7.trans (t8.below K7.low.1 K7.low.2.1 K7.low.2.2 C7.size)
 clear K7 t8 C7
 clear RE
 go_wp2_with fail
 refine(IL.out _).mono ?_
 rintro e x9 ⟨rfl,d9⟩
 have K9:=K8.stays d9
 have C9:=C8.trans (d9.mono C8.size)
 clear K8 d9 C8
 go_wp2_with fail
 refine(WS.out _ (HW.out.below C9) K9).mono ?_
 rintro e x10 ⟨rfl,nC,t10⟩
 have oL:=C9.trans (t10.below K9.low.1 K9.low.2.1 K9.low.2.2 C9.size)
 clear K9 t10 C9
 clear WS
 go_wp2_with (refine jA 28 rfl ?_;refine CI rfl 34 _ rfl _ (by rfl) _ X7.out ?_)
 refine(XS.out _ (HW.out.below oL) nC).mono ?_
 rintro e gG ⟨rfl,xF,t11⟩
 have dO:=oL.trans (t11.below nC.low.1 nC.low.2.1 nC.low.2.2 oL.size)
 clear nC t11 oL
 clear XS
 go_wp2_with fail
 refine(IL.out _).mono ?_
 rintro e hG ⟨rfl,xP⟩
 have UE:=xF.stays xP
 have pL:=dO.trans (xP.mono dO.size)
 clear xF xP dO
 go_wp2_with fail
 refine(YS.out _ (HW.out.below pL) UE).mono ?_
 rintro e iG ⟨rfl,XD,KZ⟩
 have eO:=pL.trans (KZ.below UE.low.1 UE.low.2.1 UE.low.2.2 pL.size)
 clear UE KZ pL
 clear YS IL
 go_wp2_with fail
 refine(ZS.out _ XD).mono ?_
 rintro e jG ⟨rfl,rfl⟩
 go_wp2_with fail
 refine(aT.out _ XD).mono ?_
 rintro e kG ⟨rfl,AD,LZ⟩
 have fO:=eO.trans (LZ.below XD.low.1 XD.low.2.1 XD.low.2.2 eO.size)
 clear XD LZ eO
 clear ZS aT
 go_wp2_with fail
 refine(bT.out _ AD).mono ?_
 rintro e x16 ⟨rfl,K16,t16⟩
 have F7:=fO.trans (t16.below AD.low.1 AD.low.2.1 AD.low.2.2 fO.size)
 clear AD t16 fO
 clear bT
 go_wp2_with fail
 refine(VS.out _ K16).mono ?_
 rintro e x17 ⟨rfl,rfl⟩
 clear VS
 go_wp2
 go_ret
 exact⟨rfl,F7⟩
end Go.Proofs.YtdaaoopkkhfbhaaGreatDoor
