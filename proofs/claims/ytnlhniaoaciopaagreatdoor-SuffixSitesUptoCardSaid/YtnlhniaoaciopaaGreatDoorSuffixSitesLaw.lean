/- SuffixSites, the tied card of the second form: of every list of rules and every text the law answers true (a name is public, or has a site, one label longer than what is public, which it is or is below; an address is its own site). The conditions: what the call reads is of bulk at most 1048576 together; the listed variables of the library hold at the start of the call what the text of the program lays them with (tied). -/
import Derived.Test.YtnlhniaoaciopaaGreatDoorCards
import Derived.Test.YtnlhniaoaciopaaGreatDoorTie
import Derived.Test.YtnlhniaoaciopaaGreatDoorUpto
import Derived.Test.YtnlhniaoaciopaaGreatDoorHostData
import Derived.Test.YtnlhniaoaciopaaGreatDoorRulesData
import Derived.Test.YtnlhniaoaciopaaGreatDoorSuffixSitesWalk
import Derived.SevenTiedAt
namespace Go.Proofs.YtnlhniaoaciopaaGreatDoor
open Go.ChangeShapes Go.WideShapes Go.ChangeAt Go.WideMaps Go.WideElems Go.RowKit
open Go.ChangeMaps (open_string shut_string)
set_option maxRecDepth 100000 in
theorem ssites_lifted (os : Os) (started : os.Started) (H : Type) (enc : TypeId × Value → H) (F0 : Stop.Interp) :
    ReturnsInHanded {} Tryz.checked os 5 .any (fun w args => ((Rows.OpenSpec.upto Rows.suffixSitesSpec).pre enc Tryz.prog Tryz.f5 [] false w args ∧ laidMetH Tryz.prog laidAll w) ∧ sizedMet enc Tryz.prog Tryz.f5 (Rows.OpenSpec.upto Rows.suffixSitesSpec) false w args)
      (((Rows.OpenSpec.upto Rows.suffixSitesSpec).at F0).post enc Tryz.prog Tryz.f5 false true false false) := by
  refine handed_upto (C := Tryz.checked) (s := Rows.OpenSpec.upto Rows.suffixSitesSpec) (k := Rows.uptoSmall) rfl (X := fun w _ => laidMetH Tryz.prog laidAll w) (fun _ _ _ hh h => h.of_heap hh) own started (by kernel_rfl) Tryz.func5
    (witness_upto (enc := enc) (C := Tryz.checked) (os := os) (s := Rows.OpenSpec.upto Rows.suffixSitesSpec) (k := Rows.uptoSmall) rfl (X := fun w _ => laidMetH Tryz.prog laidAll w) false (World.doorLaid Tryz.prog 24 os) #[.slice none 0 0, .string ⟨#[]⟩] 8 rfl (World.shaped_of_RefB (by kernel_rfl) (by kernel_rfl)) (by kernel_rfl)
      (x := ([.nil, .lit (.string [])], [], [])) (by kernel_rfl) (by kernel_rfl) (by kernel_rfl) (by kernel_rfl) (door_met os _)) ?_
  intro W base args ds gs before hval0 hW hk hL hsh
  have hval : ∀ (j : Nat) t v, Tryz.f5.params[j]? = some t → args[j]? = some v → Value.okWide Tryz.prog W .any base t v := hval0
  have hW' := hW
  obtain ⟨p, q, hA0, hV, rfl, hfz, hnd⟩ := hW
  have hA : DataW.TrodAll enc Tryz.prog W 0 (fun _ => true) true Tryz.f5.params.toList args.toList ds p := hA0
  rw [Tryz.params5] at hA hval
  obtain ⟨v0, v1, d0, d1, p0, p1, rfl, rfl, rfl, h0, h1⟩ := trodAll_two hA
  obtain ⟨rfl, rfl⟩ := trodVars_none hV
  obtain ⟨a0, w0⟩ := open_rules (hval 0 22 v0 rfl rfl) h0
  obtain ⟨a1, rfl, rfl, rfl, w1⟩ := open_string Tryz.underlying9 (hval 1 9 v1 rfl rfl) h1
  clear hA0 hval0
  simp only [List.append_nil] at hW'
  have hsm := small_two hk
  have hcalls := ssites_walk a0 a1 W v0 w0 w1 hsm (std_of hL hsh)
  refine hcalls.mono fun e W' ⟨he, hb⟩ => ?_
  subst he
  exact ⟨_, rfl, law_post (pv := []) hW' hb (fun _ _ _ => trodAll_mk1 (shut_bool Tryz.underlying4 _)) (trodAll_mk2 (rules_shut h0 hb) (shut_string Tryz.underlying9 w1)) rfl (by simp)⟩
theorem ssites_holds : Rows.SuffixSitesUptoSaid :=
  OpenClaim.holds_of_cond 5 Tryz.f5 rfl rfl rfl rfl rfl rfl rfl ⟨rfl, rfl, rfl, rfl, rfl⟩ rfl rfl rfl rfl rfl (by kernel_rfl) Tryz.func5 (by kernel_rfl)
    (of_decide_eq_true (by kernel_rfl)) (by unfold Func.isWrapper; first | (rw [if_pos (by decide +kernel)]; kernel_rfl) | (rw [if_neg (by decide +kernel)]; exact ⟨rfl, rfl⟩))
    (fun os started H enc _ F0 => ssites_lifted os started H enc F0)
theorem ssites_card : Rows.SuffixSitesUptoCardSaid :=
  Claim7.holds_tied_plain_at .later [] [.data, .data, .data] true Rows.suffixSitesUptoCard.stood.harness Rows.suffixSitesUptoCard.stood.looks
    ssites_holds (fun _ h => by cases h) (by kernel_rfl) (fun _ h => by cases h) suffixSites_row_tie rfl ⟨rfl, rfl⟩ (by kernel_rfl) rfl
    (fun f fn hf hfn => by
      obtain rfl : f = 5 := Option.some.inj ((show Tryz.prog.funcNamed "cracknel/cracknellaw06.SuffixSites" = some 5 by kernel_rfl).symm.trans hf) |>.symm
      obtain rfl : fn = Tryz.f5 := (Option.some.inj (Tryz.func5.symm.trans hfn)).symm
      exact ⟨by kernel_rfl, fun j t ht => by
        rw [Tryz.params5] at ht
        have h3 : t = 22 ∨ t = 9 := by
          rcases j with _ | _ | j
          · simp at ht; exact (.inl ht.symm)
          · simp at ht; exact (.inr (ht.symm))
          · simp at ht
        rcases h3 with rfl | rfl
        · exact (show Tryz.prog.wantsStandIn 22 = false by kernel_rfl)
        · exact (show Tryz.prog.wantsStandIn 9 = false by kernel_rfl)⟩)
    (by kernel_rfl)
#print axioms ssites_card
end Go.Proofs.YtnlhniaoaciopaaGreatDoor
