/- SuffixGrows, the tied card of the second form: of every list of rules and every two texts the law answers true (a name more among the rules leaves what is public as it is, or makes it as much as that name has labels, which is more). The conditions: what the call reads is of bulk at most 1048576 together; the listed variables of the library hold at the start of the call what the text of the program lays them with (tied). -/
import Derived.Test.YtnlhniaoaciopaaGreatDoorCards
import Derived.Test.YtnlhniaoaciopaaGreatDoorTie
import Derived.Test.YtnlhniaoaciopaaGreatDoorUpto
import Derived.Test.YtnlhniaoaciopaaGreatDoorHostData
import Derived.Test.YtnlhniaoaciopaaGreatDoorRulesData
import Derived.Test.YtnlhniaoaciopaaGreatDoorSuffixGrowsWalk
import Derived.SevenTiedAt
namespace Go.Proofs.YtnlhniaoaciopaaGreatDoor
open Go.ChangeShapes Go.WideShapes Go.ChangeAt Go.WideMaps Go.WideElems Go.RowKit
open Go.ChangeMaps (open_string shut_string)
set_option maxRecDepth 100000 in
theorem sgrows_lifted (os : Os) (started : os.Started) (H : Type) (enc : TypeId × Value → H) (F0 : Stop.Interp) :
    ReturnsInHanded {} Tryz.checked os 7 .any (fun w args => ((Rows.OpenSpec.upto Rows.suffixGrowsSpec).pre enc Tryz.prog Tryz.f7 [] false w args ∧ laidMetH Tryz.prog laidAll w) ∧ sizedMet enc Tryz.prog Tryz.f7 (Rows.OpenSpec.upto Rows.suffixGrowsSpec) false w args)
      (((Rows.OpenSpec.upto Rows.suffixGrowsSpec).at F0).post enc Tryz.prog Tryz.f7 false true false false) := by
  refine handed_upto (C := Tryz.checked) (s := Rows.OpenSpec.upto Rows.suffixGrowsSpec) (k := Rows.uptoSmall) rfl (X := fun w _ => laidMetH Tryz.prog laidAll w) (fun _ _ _ hh h => h.of_heap hh) own started (by kernel_rfl) Tryz.func7
    (witness_upto (enc := enc) (C := Tryz.checked) (os := os) (s := Rows.OpenSpec.upto Rows.suffixGrowsSpec) (k := Rows.uptoSmall) rfl (X := fun w _ => laidMetH Tryz.prog laidAll w) false (World.doorLaid Tryz.prog 24 os) #[.slice none 0 0, .string ⟨#[]⟩, .string ⟨#[]⟩] 8 rfl (World.shaped_of_RefB (by kernel_rfl) (by kernel_rfl)) (by kernel_rfl)
      (x := ([.nil, .lit (.string []), .lit (.string [])], [], [])) (by kernel_rfl) (by kernel_rfl) (by kernel_rfl) (by kernel_rfl) (door_met os _)) ?_
  intro W base args ds gs before hval0 hW hk hL hsh
  have hval : ∀ (j : Nat) t v, Tryz.f7.params[j]? = some t → args[j]? = some v → Value.okWide Tryz.prog W .any base t v := hval0
  have hW' := hW
  obtain ⟨p, q, hA0, hV, rfl, hfz, hnd⟩ := hW
  have hA : DataW.TrodAll enc Tryz.prog W 0 (fun _ => true) true Tryz.f7.params.toList args.toList ds p := hA0
  rw [Tryz.params7] at hA hval
  obtain ⟨v0, v1, v2, d0, d1, d2, p0, p1, p2, rfl, rfl, rfl, h0, h1, h2⟩ := trodAll_three hA
  obtain ⟨rfl, rfl⟩ := trodVars_none hV
  obtain ⟨a0, w0⟩ := open_rules (hval 0 22 v0 rfl rfl) h0
  obtain ⟨a1, rfl, rfl, rfl, w1⟩ := open_string Tryz.underlying9 (hval 1 9 v1 rfl rfl) h1
  obtain ⟨a2, rfl, rfl, rfl, w2⟩ := open_string Tryz.underlying9 (hval 2 9 v2 rfl rfl) h2
  clear hA0 hval0
  simp only [List.append_nil] at hW'
  have hsm := small_three hk
  have hcalls := sgrows_walk a0 a1 a2 W v0 w0 w1 w2 hsm.1 hsm.2 (std_of hL hsh)
  refine hcalls.mono fun e W' ⟨he, hb⟩ => ?_
  subst he
  exact ⟨_, rfl, law_post (pv := []) hW' hb (fun _ _ _ => trodAll_mk1 (shut_bool Tryz.underlying4 _)) (trodAll_mk3 (rules_shut h0 hb) (shut_string Tryz.underlying9 w1) (shut_string Tryz.underlying9 w2)) rfl (by simp)⟩
theorem sgrows_holds : Rows.SuffixGrowsUptoSaid :=
  OpenClaim.holds_of_cond 7 Tryz.f7 rfl rfl rfl rfl rfl rfl rfl ⟨rfl, rfl, rfl, rfl, rfl⟩ rfl rfl rfl rfl rfl (by kernel_rfl) Tryz.func7 (by kernel_rfl)
    (of_decide_eq_true (by kernel_rfl)) (by unfold Func.isWrapper; first | (rw [if_pos (by decide +kernel)]; kernel_rfl) | (rw [if_neg (by decide +kernel)]; exact ⟨rfl, rfl⟩))
    (fun os started H enc _ F0 => sgrows_lifted os started H enc F0)
theorem sgrows_card : Rows.SuffixGrowsUptoCardSaid :=
  Claim7.holds_tied_plain_at .later [] [.data, .data, .data] true Rows.suffixGrowsUptoCard.stood.harness Rows.suffixGrowsUptoCard.stood.looks
    sgrows_holds (fun _ h => by cases h) (by kernel_rfl) (fun _ h => by cases h) suffixGrows_row_tie rfl ⟨rfl, rfl⟩ (by kernel_rfl) rfl
    (fun f fn hf hfn => by
      obtain rfl : f = 7 := Option.some.inj ((show Tryz.prog.funcNamed "cracknel/cracknellaw06.SuffixGrows" = some 7 by kernel_rfl).symm.trans hf) |>.symm
      obtain rfl : fn = Tryz.f7 := (Option.some.inj (Tryz.func7.symm.trans hfn)).symm
      exact ⟨by kernel_rfl, fun j t ht => by
        rw [Tryz.params7] at ht
        have h3 : t = 22 ∨ t = 9 := by
          rcases j with _ | _ | _ | j
          · simp at ht; exact (.inl ht.symm)
          · simp at ht; exact (.inr (ht.symm))
          · simp at ht; exact (.inr (ht.symm))
          · simp at ht
        rcases h3 with rfl | rfl
        · exact (show Tryz.prog.wantsStandIn 22 = false by kernel_rfl)
        · exact (show Tryz.prog.wantsStandIn 9 = false by kernel_rfl)⟩)
    (by kernel_rfl)
#print axioms sgrows_card
end Go.Proofs.YtnlhniaoaciopaaGreatDoor
