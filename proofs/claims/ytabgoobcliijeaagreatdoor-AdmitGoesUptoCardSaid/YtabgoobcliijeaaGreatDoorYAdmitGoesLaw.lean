/- AdmitGoes, the tied card of the second form: of every list of rules, every two texts and every moment the law answers true: what is taken goes to the host that told it, until it ends. The conditions: what the call reads is of bulk at most 1048576 together; the listed variables hold at the start of the call what the text of the program lays them with (tied). -/
import Derived.Test.YtabgoobcliijeaaGreatDoorCards
import Derived.Test.YtabgoobcliijeaaGreatDoorTie
import Derived.Test.YtabgoobcliijeaaGreatDoorY39
import Derived.SevenTiedAt
set_option maxRecDepth 100000
namespace Go.Proofs.YtabgoobcliijeaaGreatDoor
open Go.ChangeShapes Go.WideShapes Go.ChangeAt Go.WideMaps Go.WideElems Go.RowKit
open Go.ChangeMaps (open_string shut_string)
theorem agoes_lifted(os:Os)(started:os.Started)(H:Type)(enc:TypeId×Value->H)(F0:Stop.Interp):
  ReturnsInHanded {} Tryz.checked os 7 .any (fun w args=>((Rows.OpenSpec.upto Rows.admitGoesSpec).pre enc Tryz.prog Tryz.f7 [] false w args/\laidMetH Tryz.prog rC w)/\sizedMet enc Tryz.prog Tryz.f7 (Rows.OpenSpec.upto Rows.admitGoesSpec) false w args)
   (((Rows.OpenSpec.upto Rows.admitGoesSpec).at F0).post enc Tryz.prog Tryz.f7 false true false false):=by
 refine pU (C:=Tryz.checked) (s:=Rows.OpenSpec.upto Rows.admitGoesSpec) (k:=Rows.uptoSmall) rfl (X:=fun w _=>laidMetH Tryz.prog rC w) (fun _ _ _ hh h=>h.of_heap hh) own started (by kernel_rfl) Tryz.func7
  (RW (enc:=enc) (C:=Tryz.checked) (os:=os) (s:=Rows.OpenSpec.upto Rows.admitGoesSpec) (k:=Rows.uptoSmall) rfl (X:=fun w _=>laidMetH Tryz.prog rC w) false (World.laidAll Tryz.prog os rC) #[.slice none 0 0,.agg #[.string ⟨#[]⟩,.string ⟨#[]⟩],.int .i64 0] 8 (World.laidAll_os _ _ _) (World.shaped_of_ZipB (by kernel_rfl) (by kernel_rfl)) (by kernel_rfl)
   (x:=([.nil,.agg [.lit (.string []),.lit (.string [])],.lit (.int .i64 0)],[],[])) (by kernel_rfl) (by kernel_rfl) (by kernel_rfl) (by kernel_rfl) (by rw[MakeChecks.laidMetH_plain _ _ _ (by kernel_rfl)];exact laidMet_laidAll _ (by kernel_rfl) (by kernel_rfl))) ?_
 intro W base args ds gs before hval0 hW hk hL hsh
 have hval: ∀(j:Nat) t v,Tryz.f7.params[j]? =some t->args[j]? =some v->Value.okWide Tryz.prog W .any base t v:=hval0
 have hW':=hW
 obtain⟨p,q,hA0,hV,rfl,hfz,hnd⟩:=hW
 have hA:DataW.TrodAll enc Tryz.prog W 0 (fun _=>true) true Tryz.f7.params.toList args.toList ds p:=hA0
 rw[Tryz.params7]at hA hval
 obtain⟨v0,v1,v2,d0,d1,d2,p0,p1,p2,rfl,rfl,rfl,h0,h1,h2⟩:=trodAll_three hA
 obtain⟨rfl,rfl⟩:=trodVars_none hV
 obtain⟨a0,w0⟩:=bR (hval 0 43 v0 rfl rfl) h0
 obtain⟨a1,b1,rfl,rfl,rfl,w1,y1⟩:=open_pair (hval 1 44 v1 rfl rfl) h1
 obtain⟨a2,rfl,rfl,rfl,w2⟩:=open_int Tryz.underlying2 (hval 2 2 v2 rfl rfl) h2
 clear hA0 hval0
 simp only[List.append_nil]at hW'
 have hsm:=cAW hk
 have uG:=fA5 a0 a1 b1 a2 W v0 w0 w1 y1 w2 hsm.1 hsm.2 (pL hL hsh)
 refine uG.mono fun e W' ⟨he,hb⟩=>?_
 subst he
 exact⟨_,rfl,EL (pv:= []) hW' hb (fun _ _ _=>trodAll_mk1 (shut_bool Tryz.underlying4 _)) (trodAll_mk3 (qR h0 hb) (shut_pair w1 y1) (shut_int Tryz.underlying2 w2)) rfl (by simp)⟩
theorem agoes_holds:Rows.AdmitGoesUptoSaid:=
 OpenClaim.holds_of_cond 7 Tryz.f7 rfl rfl rfl rfl rfl rfl rfl ⟨rfl,rfl,rfl,rfl,rfl⟩ rfl rfl rfl rfl rfl (by kernel_rfl) Tryz.func7 (by kernel_rfl)
  (zB1 (by kernel_rfl)) (by unfold Func.isWrapper;first|(rw[if_pos (by decide+kernel)];kernel_rfl)|(rw[if_neg (by decide+kernel)];exact⟨rfl,rfl⟩))
  (fun os started H enc _ F0=>agoes_lifted os started H enc F0)
theorem agoes_card:Rows.AdmitGoesUptoCardSaid:=
 Claim7.holds_tied_plain_at .later [] [.data,.data,.data,.data,.data,.data,.data,.data,.pinned] true Rows.admitGoesUptoCard.stood.harness Rows.admitGoesUptoCard.stood.looks
  agoes_holds (fun _ h=>by cases h) (by kernel_rfl) (fun _ h=>by cases h) admitGoes_row_tie rfl ⟨rfl,rfl⟩ (by kernel_rfl) rfl
  (fun f fn hf hfn=>by
   obtain rfl:f=7:=zB2 ((show Tryz.prog.funcNamed "cracknel/cracknellaw10.AdmitGoes" =some 7 by kernel_rfl).symm.trans hf)|>.symm
   obtain rfl:fn=Tryz.f7:=(zB2 (Tryz.func7.symm.trans hfn)).symm
   exact⟨by kernel_rfl,fun j t ht=>by
    rw[Tryz.params7]at ht
    have h3:t=43\/t=44\/t=2:=by
     rcases j with _|_|_|j
     ·simp at ht;exact(.inl ht.symm)
     ·simp at ht;exact(.inr (.inl ht.symm))
     ·simp at ht;exact(.inr (.inr (ht.symm)))
     ·simp at ht
    rcases h3 with rfl|rfl|rfl
    ·exact(show Tryz.prog.wantsStandIn 43=false by kernel_rfl)
    ·exact(show Tryz.prog.wantsStandIn 44=false by kernel_rfl)
    ·exact(show Tryz.prog.wantsStandIn 2=false by kernel_rfl)⟩)
  (by kernel_rfl)
#print axioms agoes_card
end Go.Proofs.YtabgoobcliijeaaGreatDoor
