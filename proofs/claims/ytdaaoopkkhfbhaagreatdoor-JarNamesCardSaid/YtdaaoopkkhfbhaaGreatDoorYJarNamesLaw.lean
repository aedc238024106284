/- JarNames, the tied card: the law answers true: the errors and the limits have their numbers; each error once. The condition: the listed variables hold at the start of the call what the text of the program lays them with (tied). -/
import Derived.Test.YtdaaoopkkhfbhaaGreatDoorCards
import Derived.Test.YtdaaoopkkhfbhaaGreatDoorTie
import Derived.Deep.SlicePairs
import Derived.Test.YtdaaoopkkhfbhaaGreatDoorY24
import Derived.SevenTiedAt
set_option maxHeartbeats 16000000
set_option maxRecDepth 100000
namespace Go.Proofs.YtdaaoopkkhfbhaaGreatDoor
open Go.ChangeShapes Go.WideShapes Go.ChangeAt Go.WideMaps Go.WideElems Go.RowKit
open Go.ChangeMaps (open_string shut_string)
theorem jnames_lifted(os:Os)(started:os.Started)(H:Type)(enc:TypeId×Value->H):
  ReturnsInHanded {} Tryz.checked os 3 .any (fun w args=>(Rows.jarNamesSpec.pre enc Tryz.prog Tryz.f3 [] false w args/\laidMetH Tryz.prog LK w)/\sizedMet enc Tryz.prog Tryz.f3 (OpenSpec.ofChange Rows.jarNamesSpec) false w args)
   (Rows.jarNamesSpec.post enc Tryz.prog Tryz.f3 false true false false):=by
 refine eAj (C:=Tryz.checked) (X:=fun w _=>laidMetH Tryz.prog LK w) (fun _ _ _ hh h=>h.of_heap hh) own started (by kernel_rfl) Tryz.func3
  (ChangeSpec.witness_shaped (enc:=enc) (C:=Tryz.checked) (os:=os) (X:=fun w _=>laidMetH Tryz.prog LK w) false (World.laidAll Tryz.prog os LK) #[] 8 (World.laidAll_os _ _ _) (World.shaped_of_ZipB (by kernel_rfl) (by kernel_rfl)) (by kernel_rfl) (by kernel_rfl) (by kernel_rfl) (by rw[MakeChecks.laidMetH_plain _ _ _ (by kernel_rfl)];exact laidMet_laidAll _ (by kernel_rfl) (by kernel_rfl))) ?_
 intro W base args ds gs before hval0 hW hL hsh
 have hW':=hW
 obtain⟨p,q,hA0,hV,rfl,hfz,hnd⟩:=hW
 have hA:DataW.TrodAll enc Tryz.prog W 0 (fun _=>true) true Tryz.f3.params.toList args.toList ds p:=hA0
 rw[Tryz.params3]at hA
 obtain⟨rfl,rfl,rfl⟩:=trodAll_none hA
 obtain⟨rfl,rfl⟩:=trodVars_none hV
 clear hA0 hval0
 simp only[List.append_nil]at hW'
 have eAp:=fAI W (eAd hL hsh)
 refine eAp.mono fun e W' ⟨he,hb⟩=>?_
 subst he
 exact⟨_,rfl,gA7 (pa:= []) (pv:= []) hW' hb (fun _ _ _=>trodAll_mk1 (shut_bool Tryz.underlying4 _)) (trodAll_mk0) rfl rfl⟩
theorem jnames_holds:Rows.JarNamesSaid:=
 OpenClaim.holds_of_wide 3 Tryz.f3 rfl rfl rfl rfl rfl rfl rfl ⟨rfl,rfl,rfl,rfl,rfl⟩ rfl rfl rfl rfl rfl (by as_aux_lemma=>kernel_rfl) Tryz.func3 (by unfold joinedFacts;repeat' (with_reducible (refine Bool.and_eq_true_iff.2 ⟨?_,?_⟩));all_goals as_aux_lemma=>kernel_rfl)
  (zB1 (by as_aux_lemma=>kernel_rfl)) (by unfold Func.isWrapper;first|(rw[if_pos (by decide+kernel)];as_aux_lemma=>kernel_rfl)|(rw[if_neg (by decide+kernel)];exact⟨rfl,rfl⟩))
  (fun os started H enc _=>jnames_lifted os started H enc)
theorem jnames_card:Rows.JarNamesCardSaid:=
 Claim7.holds_tied_plain_at .later [] [.data,.data,.data,.data,.data,.data,.data,.data,.pinned] true Rows.jarNamesCard.stood.harness Rows.jarNamesCard.stood.looks
  jnames_holds (fun _ h=>by cases h) (by kernel_rfl) (fun _ h=>by cases h) jarNames_row_tie rfl ⟨rfl,rfl⟩ (by kernel_rfl) rfl
  (fun f fn hf hfn=>by
   obtain rfl:f=3:=zB2 ((show Tryz.prog.funcNamed "cracknel/cracknellaw12.JarNames" =some 3 by kernel_rfl).symm.trans hf)|>.symm
   obtain rfl:fn=Tryz.f3:=(zB2 (Tryz.func3.symm.trans hfn)).symm
   exact⟨by kernel_rfl,fun j t ht=>by
    rw[Tryz.params3]at ht
    simp at ht⟩)
  (by kernel_rfl)
#print axioms jnames_card
end Go.Proofs.YtdaaoopkkhfbhaaGreatDoor
