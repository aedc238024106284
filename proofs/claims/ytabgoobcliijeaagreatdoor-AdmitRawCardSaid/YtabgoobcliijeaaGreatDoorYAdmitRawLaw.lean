/- AdmitRaw, the tied card: of every URL and every header of any parts, and every text, the law answers true: what is taken of them, and what the text promises as a name, are the plain answer's. The condition: the listed variables hold at the start of the call what the text of the program lays them with (tied). -/
import Derived.Test.YtabgoobcliijeaaGreatDoorCards
import Derived.Test.YtabgoobcliijeaaGreatDoorTie
import Derived.Test.YtabgoobcliijeaaGreatDoorY37
import Derived.SevenTiedAt
set_option maxRecDepth 100000
namespace Go.Proofs.YtabgoobcliijeaaGreatDoor
open Go.ChangeShapes Go.WideShapes Go.ChangeAt Go.WideMaps Go.WideElems Go.RowKit
open Go.ChangeMaps (open_string shut_string)
theorem araw_lifted(os:Os)(started:os.Started)(H:Type)(enc:TypeId×Value->H):
  ReturnsInHanded {} Tryz.checked os 5 .any (fun w args=>(Rows.admitRawSpec.pre enc Tryz.prog Tryz.f5 [] false w args/\laidMetH Tryz.prog rC w)/\sizedMet enc Tryz.prog Tryz.f5 (OpenSpec.ofChange Rows.admitRawSpec) false w args)
   (Rows.admitRawSpec.post enc Tryz.prog Tryz.f5 false true false false):=by
 refine oU (C:=Tryz.checked) (X:=fun w _=>laidMetH Tryz.prog rC w) (fun _ _ _ hh h=>h.of_heap hh) own started (by kernel_rfl) Tryz.func5
  (ChangeSpec.witness_shaped (enc:=enc) (C:=Tryz.checked) (os:=os) (X:=fun w _=>laidMetH Tryz.prog rC w) false (World.laidAll Tryz.prog os rC) #[.agg #[.bool false,.int .i64 0,.string ⟨#[]⟩,.int .u8 0,.int .u8 0,.int .u8 0,.int .u8 0,.int .u8 0,.int .u8 0,.int .u8 0,.int .u8 0,.int .u8 0,.int .u8 0,.int .u8 0,.int .u8 0,.int .u8 0,.int .u8 0,.int .u8 0,.int .u8 0,.int .i64 0,.string ⟨#[]⟩],.agg #[.string ⟨#[]⟩,.string ⟨#[]⟩,.string ⟨#[]⟩,.string ⟨#[]⟩,.bool false,.int .i64 0,.bool false,.int .i64 0,.bool false,.bool false,.int .i64 0],.string ⟨#[]⟩] 8 (World.laidAll_os _ _ _) (World.shaped_of_ZipB (by kernel_rfl) (by kernel_rfl)) (by kernel_rfl) (by kernel_rfl) (by kernel_rfl) (by rw[MakeChecks.laidMetH_plain _ _ _ (by kernel_rfl)];exact laidMet_laidAll _ (by kernel_rfl) (by kernel_rfl))) ?_
 intro W base args ds gs before hval0 hW hL hsh
 have hval: ∀(j:Nat) t v,Tryz.f5.params[j]? =some t->args[j]? =some v->Value.okWide Tryz.prog W .any base t v:=hval0
 have hW':=hW
 obtain⟨p,q,hA0,hV,rfl,hfz,hnd⟩:=hW
 have hA:DataW.TrodAll enc Tryz.prog W 0 (fun _=>true) true Tryz.f5.params.toList args.toList ds p:=hA0
 rw[Tryz.params5]at hA hval
 obtain⟨v0,v1,v2,d0,d1,d2,p0,p1,p2,rfl,rfl,rfl,h0,h1,h2⟩:=trodAll_three hA
 obtain⟨rfl,rfl⟩:=trodVars_none hV
 obtain⟨a0,m0,rfl,rfl,rfl,k0,o0,w0⟩:=lAz (hval 0 33 v0 rfl rfl) h0
 obtain⟨a1,rfl,rfl,rfl,w1⟩:=lAx (hval 1 35 v1 rfl rfl) h1
 obtain⟨a2,rfl,rfl,rfl,w2⟩:=open_string Tryz.underlying9 (hval 2 9 v2 rfl rfl) h2
 clear hA0 hval0
 simp only[List.append_nil]at hW'
 have uG:=fAi a0 a1 a2 W m0 k0 o0 w0 w1 w2 (pL hL hsh)
 refine uG.mono fun e W' ⟨he,hb⟩=>?_
 subst he
 exact⟨_,rfl,EL (pa:= []) (pv:= []) hW' hb (fun _ _ _=>trodAll_mk1 (shut_bool Tryz.underlying4 _)) (trodAll_mk3 (oA2 m0 k0 o0 w0) (nAY w1) (shut_string Tryz.underlying9 w2)) rfl rfl⟩
theorem araw_holds:Rows.AdmitRawSaid:=
 OpenClaim.holds_of_wide 5 Tryz.f5 rfl rfl rfl rfl rfl rfl rfl ⟨rfl,rfl,rfl,rfl,rfl⟩ rfl rfl rfl rfl rfl (by kernel_rfl) Tryz.func5 (by kernel_rfl)
  (zB1 (by kernel_rfl)) (by unfold Func.isWrapper;first|(rw[if_pos (by decide+kernel)];kernel_rfl)|(rw[if_neg (by decide+kernel)];exact⟨rfl,rfl⟩))
  (fun os started H enc _=>araw_lifted os started H enc)
theorem araw_card:Rows.AdmitRawCardSaid:=
 Claim7.holds_tied_plain_at .later [] [.data,.data,.data,.data,.data,.data,.data,.data,.pinned] true Rows.admitRawCard.stood.harness Rows.admitRawCard.stood.looks
  araw_holds (fun _ h=>by cases h) (by kernel_rfl) (fun _ h=>by cases h) admitRaw_row_tie rfl ⟨rfl,rfl⟩ (by kernel_rfl) rfl
  (fun f fn hf hfn=>by
   obtain rfl:f=5:=zB2 ((show Tryz.prog.funcNamed "cracknel/cracknellaw10.AdmitRaw" =some 5 by kernel_rfl).symm.trans hf)|>.symm
   obtain rfl:fn=Tryz.f5:=(zB2 (Tryz.func5.symm.trans hfn)).symm
   exact⟨by kernel_rfl,fun j t ht=>by
    rw[Tryz.params5]at ht
    have h3:t=33\/t=35\/t=9:=by
     rcases j with _|_|_|j
     ·simp at ht;exact(.inl ht.symm)
     ·simp at ht;exact(.inr (.inl ht.symm))
     ·simp at ht;exact(.inr (.inr (ht.symm)))
     ·simp at ht
    rcases h3 with rfl|rfl|rfl
    ·exact(show Tryz.prog.wantsStandIn 33=false by kernel_rfl)
    ·exact(show Tryz.prog.wantsStandIn 35=false by kernel_rfl)
    ·exact(show Tryz.prog.wantsStandIn 9=false by kernel_rfl)⟩)
  (by kernel_rfl)
#print axioms araw_card
end Go.Proofs.YtabgoobcliijeaaGreatDoor
