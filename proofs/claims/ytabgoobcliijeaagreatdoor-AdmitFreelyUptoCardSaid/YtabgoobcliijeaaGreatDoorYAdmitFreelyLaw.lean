/- AdmitFreely, the tied card of the second form: of every list of rules and every two texts the law answers true: without attributes all that has a name that promises nothing is taken, for its host alone. The conditions: what the call reads is of bulk at most 1048576 together; the listed variables hold at the start of the call what the text of the program lays them with (tied). -/
import Derived.Test.YtabgoobcliijeaaGreatDoorCards
import Derived.Test.YtabgoobcliijeaaGreatDoorTie
import Derived.Test.YtabgoobcliijeaaGreatDoorY40
import Derived.SevenTiedAt
set_option maxRecDepth 100000
namespace Go.Proofs.YtabgoobcliijeaaGreatDoor
open Go.ChangeShapes Go.WideShapes Go.ChangeAt Go.WideMaps Go.WideElems Go.RowKit
open Go.ChangeMaps (open_string shut_string)
theorem afreely_lifted(os:Os)(started:os.Started)(H:Type)(enc:TypeId×Value->H)(F0:Stop.Interp):
  ReturnsInHanded {} Tryz.checked os 8 .any (fun w args=>((Rows.OpenSpec.upto Rows.admitFreelySpec).pre enc Tryz.prog Tryz.f8 [] false w args/\laidMetH Tryz.prog rC w)/\sizedMet enc Tryz.prog Tryz.f8 (Rows.OpenSpec.upto Rows.admitFreelySpec) false w args)
   (((Rows.OpenSpec.upto Rows.admitFreelySpec).at F0).post enc Tryz.prog Tryz.f8 false true false false):=by
 refine pU (C:=Tryz.checked) (s:=Rows.OpenSpec.upto Rows.admitFreelySpec) (k:=Rows.uptoSmall) rfl (X:=fun w _=>laidMetH Tryz.prog rC w) (fun _ _ _ hh h=>h.of_heap hh) own started (by kernel_rfl) Tryz.func8
  (RW (enc:=enc) (C:=Tryz.checked) (os:=os) (s:=Rows.OpenSpec.upto Rows.admitFreelySpec) (k:=Rows.uptoSmall) rfl (X:=fun w _=>laidMetH Tryz.prog rC w) false (World.laidAll Tryz.prog os rC) #[.slice none 0 0,.string ⟨#[]⟩,.string ⟨#[]⟩] 8 (World.laidAll_os _ _ _) (World.shaped_of_ZipB (by kernel_rfl) (by kernel_rfl)) (by kernel_rfl)
   (x:=([.nil,.lit (.string []),.lit (.string [])],[],[])) (by kernel_rfl) (by kernel_rfl) (by kernel_rfl) (by kernel_rfl) (by rw[MakeChecks.laidMetH_plain _ _ _ (by kernel_rfl)];exact laidMet_laidAll _ (by kernel_rfl) (by kernel_rfl))) ?_
 intro W base args ds gs before hval0 hW hk hL hsh
 have hval: ∀(j:Nat) t v,Tryz.f8.params[j]? =some t->args[j]? =some v->Value.okWide Tryz.prog W .any base t v:=hval0
 have hW':=hW
 obtain⟨p,q,hA0,hV,rfl,hfz,hnd⟩:=hW
 have hA:DataW.TrodAll enc Tryz.prog W 0 (fun _=>true) true Tryz.f8.params.toList args.toList ds p:=hA0
 rw[Tryz.params8]at hA hval
 obtain⟨v0,v1,v2,d0,d1,d2,p0,p1,p2,rfl,rfl,rfl,h0,h1,h2⟩:=trodAll_three hA
 obtain⟨rfl,rfl⟩:=trodVars_none hV
 obtain⟨a0,w0⟩:=bR (hval 0 43 v0 rfl rfl) h0
 obtain⟨a1,rfl,rfl,rfl,w1⟩:=open_string Tryz.underlying9 (hval 1 9 v1 rfl rfl) h1
 obtain⟨a2,rfl,rfl,rfl,w2⟩:=open_string Tryz.underlying9 (hval 2 9 v2 rfl rfl) h2
 clear hA0 hval0
 simp only[List.append_nil]at hW'
 have hsm:=oAd hk
 have uG:=fA3 a0 a1 a2 W v0 w0 w1 w2 hsm.1 hsm.2 (pL hL hsh)
 refine uG.mono fun e W' ⟨he,hb⟩=>?_
 subst he
 exact⟨_,rfl,EL (pv:= []) hW' hb (fun _ _ _=>trodAll_mk1 (shut_bool Tryz.underlying4 _)) (trodAll_mk3 (qR h0 hb) (shut_string Tryz.underlying9 w1) (shut_string Tryz.underlying9 w2)) rfl (by simp)⟩
theorem afreely_holds:Rows.AdmitFreelyUptoSaid:=
 OpenClaim.holds_of_cond 8 Tryz.f8 rfl rfl rfl rfl rfl rfl rfl ⟨rfl,rfl,rfl,rfl,rfl⟩ rfl rfl rfl rfl rfl (by kernel_rfl) Tryz.func8 (by kernel_rfl)
  (zB1 (by kernel_rfl)) (by unfold Func.isWrapper;first|(rw[if_pos (by decide+kernel)];kernel_rfl)|(rw[if_neg (by decide+kernel)];exact⟨rfl,rfl⟩))
  (fun os started H enc _ F0=>afreely_lifted os started H enc F0)
theorem afreely_card:Rows.AdmitFreelyUptoCardSaid:=
 Claim7.holds_tied_plain_at .later [] [.data,.data,.data,.data,.data,.data,.data,.data,.pinned] true Rows.admitFreelyUptoCard.stood.harness Rows.admitFreelyUptoCard.stood.looks
  afreely_holds (fun _ h=>by cases h) (by kernel_rfl) (fun _ h=>by cases h) admitFreely_row_tie rfl ⟨rfl,rfl⟩ (by kernel_rfl) rfl
  (fun f fn hf hfn=>by
   obtain rfl:f=8:=zB2 ((show Tryz.prog.funcNamed "cracknel/cracknellaw10.AdmitFreely" =some 8 by kernel_rfl).symm.trans hf)|>.symm
   obtain rfl:fn=Tryz.f8:=(zB2 (Tryz.func8.symm.trans hfn)).symm
   exact⟨by kernel_rfl,fun j t ht=>by
    rw[Tryz.params8]at ht
    have h3:t=43\/t=9:=by
     rcases j with _|_|_|j
     ·simp at ht;exact(.inl ht.symm)
     ·simp at ht;exact(.inr (ht.symm))
     ·simp at ht;exact(.inr (ht.symm))
     ·simp at ht
    rcases h3 with rfl|rfl
    ·exact(show Tryz.prog.wantsStandIn 43=false by kernel_rfl)
    ·exact(show Tryz.prog.wantsStandIn 9=false by kernel_rfl)⟩)
  (by kernel_rfl)
#print axioms afreely_card
end Go.Proofs.YtabgoobcliijeaaGreatDoor
