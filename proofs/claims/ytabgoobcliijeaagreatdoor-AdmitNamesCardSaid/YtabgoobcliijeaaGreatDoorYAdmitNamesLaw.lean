/- AdmitNames, the tied card: the law answers true: the errors have their numbers, each comes up. The condition: the listed variables hold at the start of the call what the text of the program lays them with (tied). -/
import Derived.Test.YtabgoobcliijeaaGreatDoorCards
import Derived.Test.YtabgoobcliijeaaGreatDoorTie
import Derived.Test.YtabgoobcliijeaaGreatDoorY31
import Derived.SevenTiedAt
set_option maxRecDepth 100000
namespace Go.Proofs.YtabgoobcliijeaaGreatDoor
open Go.ChangeShapes Go.WideShapes Go.ChangeAt Go.WideMaps Go.WideElems Go.RowKit
open Go.ChangeMaps (open_string shut_string)
theorem anames_lifted(os:Os)(started:os.Started)(H:Type)(enc:TypeId×Value->H):
  ReturnsInHanded {} Tryz.checked os 3 .any (fun w args=>(Rows.admitNamesSpec.pre enc Tryz.prog Tryz.f3 [] false w args/\laidMetH Tryz.prog rC w)/\sizedMet enc Tryz.prog Tryz.f3 (OpenSpec.ofChange Rows.admitNamesSpec) false w args)
   (Rows.admitNamesSpec.post enc Tryz.prog Tryz.f3 false true false false):=by
 refine oU (C:=Tryz.checked) (X:=fun w _=>laidMetH Tryz.prog rC w) (fun _ _ _ hh h=>h.of_heap hh) own started (by kernel_rfl) Tryz.func3
  (ChangeSpec.witness_shaped (enc:=enc) (C:=Tryz.checked) (os:=os) (X:=fun w _=>laidMetH Tryz.prog rC w) false (World.laidAll Tryz.prog os rC) #[] 8 (World.laidAll_os _ _ _) (World.shaped_of_ZipB (by kernel_rfl) (by kernel_rfl)) (by kernel_rfl) (by kernel_rfl) (by kernel_rfl) (by rw[MakeChecks.laidMetH_plain _ _ _ (by kernel_rfl)];exact laidMet_laidAll _ (by kernel_rfl) (by kernel_rfl))) ?_
 intro W base args ds gs before hval0 hW hL hsh
 have hW':=hW
 obtain⟨p,q,hA0,hV,rfl,hfz,hnd⟩:=hW
 have hA:DataW.TrodAll enc Tryz.prog W 0 (fun _=>true) true Tryz.f3.params.toList args.toList ds p:=hA0
 rw[Tryz.params3]at hA
 obtain⟨rfl,rfl,rfl⟩:=trodAll_none hA
 obtain⟨rfl,rfl⟩:=trodVars_none hV
 clear hA0 hval0
 simp only[List.append_nil]at hW'
 have uG:=fAd W (pL hL hsh)
 refine uG.mono fun e W' ⟨he,hb⟩=>?_
 subst he
 exact⟨_,rfl,EL (pa:= []) (pv:= []) hW' hb (fun _ _ _=>trodAll_mk1 (shut_bool Tryz.underlying4 _)) (trodAll_mk0) rfl rfl⟩
theorem anames_holds:Rows.AdmitNamesSaid:=
 OpenClaim.holds_of_wide 3 Tryz.f3 rfl rfl rfl rfl rfl rfl rfl ⟨rfl,rfl,rfl,rfl,rfl⟩ rfl rfl rfl rfl rfl (by kernel_rfl) Tryz.func3 (by kernel_rfl)
  (zB1 (by kernel_rfl)) (by unfold Func.isWrapper;first|(rw[if_pos (by decide+kernel)];kernel_rfl)|(rw[if_neg (by decide+kernel)];exact⟨rfl,rfl⟩))
  (fun os started H enc _=>anames_lifted os started H enc)
theorem anames_card:Rows.AdmitNamesCardSaid:=
 Claim7.holds_tied_plain_at .later [] [.data,.data,.data,.data,.data,.data,.data,.data,.pinned] true Rows.admitNamesCard.stood.harness Rows.admitNamesCard.stood.looks
  anames_holds (fun _ h=>by cases h) (by kernel_rfl) (fun _ h=>by cases h) admitNames_row_tie rfl ⟨rfl,rfl⟩ (by kernel_rfl) rfl
  (fun f fn hf hfn=>by
   obtain rfl:f=3:=zB2 ((show Tryz.prog.funcNamed "cracknel/cracknellaw10.AdmitNames" =some 3 by kernel_rfl).symm.trans hf)|>.symm
   obtain rfl:fn=Tryz.f3:=(zB2 (Tryz.func3.symm.trans hfn)).symm
   exact⟨by kernel_rfl,fun j t ht=>by
    rw[Tryz.params3]at ht
    simp at ht⟩)
  (by kernel_rfl)
#print axioms anames_card
end Go.Proofs.YtabgoobcliijeaaGreatDoor
