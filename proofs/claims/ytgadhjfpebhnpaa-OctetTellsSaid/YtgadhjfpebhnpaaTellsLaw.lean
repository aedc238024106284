/- OctetTells: of every two texts, of whatever length, the law answers true: Lower, Same, Trim and Digits of octet say what the reference says, and the texts read behind the call as they read before. No condition. -/
import Derived.Test.YtgadhjfpebhnpaaAlive
import Derived.Test.YtgadhjfpebhnpaaDigits
import Derived.Test.YtgadhjfpebhnpaaLower
import Derived.Test.YtgadhjfpebhnpaaSame
import Derived.Test.YtgadhjfpebhnpaaTrim
import Derived.Test.YtgadhjfpebhnpaaLaw
namespace Go.Proofs.Ytgadhjfpebhnpaa
open Go.ChangeShapes Go.WideShapes Go.ChangeAt Go.WideMaps Go.WideElems Go.RowKit
open Go.ChangeMaps (open_string shut_string)

/-- Both Lowers of a text answer the text A. -/
def Lowers (a A : ByteArray) : Prop := (∀ W, Calls Try.prog 10 #[.string a] W fun e w' => e = .returned (.string A) ∧ Below W.heap.size W w') ∧
  ∀ W, Calls Try.prog 11 #[.string a] W fun e w' => e = .returned (.string A) ∧ Below W.heap.size W w'
theorem lowers (a : ByteArray) (h : a.size ≤ 2000) : Lowers a ⟨(a.data.toList.map Oct.low).toArray⟩ :=
  ⟨fun W => lower_calls a W (by omega), fun W => refLower_calls a W (by omega)⟩

set_option maxHeartbeats 1000000 in
theorem tells_far (a b : ByteArray) (w : World) (ha : a.size ≤ maxLen) (hb : b.size ≤ maxLen) (h : 2000 < a.size ∨ 2000 < b.size) :
    Calls Try.prog 3 #[.string a, .string b] w fun e w' => e = .returned (.bool true) ∧ Below w.heap.size w w' := by
  have HA := Lib.hid alive_calls
  unfold maxLen at ha hb
  by_cases h1 : 2000 < a.size
  all_goals
    try have h2 : 2000 < b.size := by omega
    clear h
    go_enter Try.func3, Try.ntmps3
    go_wp2_with (go_at_call 9; refine (HA.out _).mono ?_; rintro e w1 ⟨rfl, hb1⟩)
    go_ret
    exact ⟨rfl, hb1⟩

set_option maxHeartbeats 2000000 in
theorem tells_near (a b : ByteArray) (w : World) (ha : a.size ≤ 2000) (hb : b.size ≤ 2000) :
    Calls Try.prog 3 #[.string a, .string b] w fun e w' => e = .returned (.bool true) ∧ Below w.heap.size w w' := by
  have HA := Lib.hid alive_calls
  have h1 := lowers a ha
  have h2 := lowers b hb
  have hT : ∀ W, Calls Try.prog 13 #[.string a] W fun e w' => e = .returned (.string ⟨(Oct.trim a.data.toList).toArray⟩) ∧ W = w' := fun W => trim_calls a W (by simp only [maxLen]; omega)
  have hT2 : ∀ W, Calls Try.prog 14 #[.string a] W fun e w' => e = .returned (.string ⟨(Oct.trim a.data.toList).toArray⟩) ∧ W = w' := fun W => refTrim_calls a W (by simp only [maxLen]; omega)
  have hD : ∀ W, Calls Try.prog 15 #[.string a] W fun e w' => e = .returned (.bool (Oct.digits a.data.toList)) ∧ W = w' := fun W => digits_calls a W (by simp only [maxLen]; omega)
  have hD2 : ∀ W, Calls Try.prog 16 #[.string a] W fun e w' => e = .returned (.bool (Oct.digits a.data.toList)) ∧ W = w' := fun W => refDigits_calls a W (by simp only [maxLen]; omega)
  have hS : ∀ W, Calls Try.prog 12 #[.string a, .string b] W (BoolDrawn (Oct.sameB a.data.toList b.data.toList) W) := fun W => same_calls a b W (by simp only [maxLen]; omega)
  have hab : ((⟨(a.data.toList.map Oct.low).toArray⟩ : ByteArray).toList == (⟨(b.data.toList.map Oct.low).toArray⟩ : ByteArray).toList) = Oct.sameB a.data.toList b.data.toList := by
    rw [Oct.bytes_data, Oct.bytes_data, Bool.eq_iff_iff]
    simp [Oct.sameB]
  generalize (⟨(a.data.toList.map Oct.low).toArray⟩ : ByteArray) = A at *
  generalize (⟨(b.data.toList.map Oct.low).toArray⟩ : ByteArray) = B at *
  generalize (⟨(Oct.trim a.data.toList).toArray⟩ : ByteArray) = T at *
  generalize Oct.sameB a.data.toList b.data.toList = S at *
  generalize Oct.digits a.data.toList = D at *
  have H1 := Lib.hid h1
  have H2 := Lib.hid h2
  have HT := Lib.hid hT
  have HT2 := Lib.hid hT2
  have HD := Lib.hid hD
  have HD2 := Lib.hid hD2
  have HS := Lib.hid hS
  clear h1 h2 hT hT2 hD hD2 hS
  cases S <;> cases D
  all_goals
    go_enter Try.func3, Try.ntmps3
    go_wp2_with fail
    refine (HA.out _).mono ?_
    rintro e w1 ⟨rfl, hb1⟩
    go_wp2_with fail
    refine (H1.out.1 _).mono ?_
    rintro e w2 ⟨rfl, hb2⟩
    go_wp2_with fail
    refine (H1.out.2 _).mono ?_
    rintro e w3 ⟨rfl, hb3⟩
    go_wp2_with fail
    refine (HS.out _).mono ?_
    rintro e w4 ⟨rfl, hd4⟩
    go_wp2_with fail
    refine (H1.out.2 _).mono ?_
    rintro e w5 ⟨rfl, hb5⟩
    go_wp2_with fail
    refine (H2.out.2 _).mono ?_
    rintro e w6 ⟨rfl, hb6⟩
    go_wp2_with fail
    refine (HT.out _).mono ?_
    rintro e w7 ⟨rfl, rfl⟩
    go_wp2_with fail
    refine (HT2.out _).mono ?_
    rintro e w8 ⟨rfl, rfl⟩
    go_wp2_with fail
    refine (HD.out _).mono ?_
    rintro e w9 ⟨rfl, rfl⟩
    go_wp2_with fail
    refine (HD2.out _).mono ?_
    rintro e w10 ⟨rfl, rfl⟩
    go_wp2
    go_ret
    refine ⟨rfl, ?_⟩
    have s1 := hb1.size
    have s2 := hb2.size
    have s3 := hb3.size
    have s4 := hd4.size
    have s5 := hb5.size
    exact hb1.trans (((hb2.trans (((hb3.trans (((hd4.below _).trans (((hb5.trans (hb6.mono (by omega)))).mono (by omega))))).mono (by omega)))).mono (by omega)))

theorem tells_walk (a b : ByteArray) (w : World) (ha : a.size ≤ maxLen) (hb : b.size ≤ maxLen) :
    Calls Try.prog 3 #[.string a, .string b] w fun e w' => e = .returned (.bool true) ∧ Below w.heap.size w w' := by
  by_cases h : a.size ≤ 2000 ∧ b.size ≤ 2000
  · exact tells_near a b w h.1 h.2
  · exact tells_far a b w ha hb (by omega)

set_option maxRecDepth 100000 in
theorem tells_lifted (os : Os) (started : os.Started) (H : Type) (enc : TypeId × Value → H) :
    ReturnsInHanded {} Try.checked os 3 .any (Rows.octetTellsSpec.pre6 enc Try.prog Try.f3 Rows.octetTellsRow.domain false) (Rows.octetTellsSpec.post enc Try.prog Try.f3 false true false false) := by
  refine returnsInHanded_of_change (C := Try.checked) own started (by kernel_rfl) Try.func3
    (ChangeSpec.witness6 (enc := enc) (C := Try.checked) false ⟨#[], #[.string ⟨#[]⟩, .string ⟨#[]⟩], []⟩ 8 (by kernel_rfl) (by kernel_rfl) (by kernel_rfl) (by kernel_rfl)) ?_
  intro W base args ds gs before hval0 hW hcnd _
  have hval : ∀ (j : Nat) t v, Try.f3.params[j]? = some t → args[j]? = some v → Value.okWide Try.prog W .any base t v := hval0
  have hW' := hW
  obtain ⟨p, q, hA0, hV, rfl, hfz, hnd⟩ := hW
  have hA : DataW.TrodAll enc Try.prog W 0 (fun _ => true) true Try.f3.params.toList args.toList ds p := hA0
  rw [Try.params3] at hA hval
  obtain ⟨v0, v1, d0, d1, p0, p1, rfl, rfl, rfl, h0, h1⟩ := trodAll_two hA
  obtain ⟨rfl, rfl⟩ := trodVars_none hV
  obtain ⟨a0, rfl, rfl, rfl, w0⟩ := open_string Try.underlying9 (hval 0 9 v0 rfl rfl) h0
  obtain ⟨a1, rfl, rfl, rfl, w1⟩ := open_string Try.underlying9 (hval 1 9 v1 rfl rfl) h1
  clear hA0 hval0
  simp only [List.append_nil] at hW'
  refine (tells_walk a0 a1 W w0 w1).mono fun e W' ⟨he, hb⟩ => ?_
  subst he
  exact ⟨_, rfl, law_post (pa := []) (pv := []) hW' hb (fun _ _ _ => trodAll_mk1 (shut_bool Try.underlying4 _)) (trodAll_mk2 (shut_string Try.underlying9 w0) (shut_string Try.underlying9 w1)) rfl rfl⟩
theorem tells_holds : Rows.OctetTellsSaid :=
  OpenClaim.holds_of_wide 3 Try.f3 rfl rfl rfl rfl rfl rfl rfl ⟨rfl, rfl, rfl, rfl, rfl⟩ rfl rfl rfl rfl rfl (by kernel_rfl) Try.func3 (by kernel_rfl)
    (of_decide_eq_true (by kernel_rfl)) (by unfold Func.isWrapper; first | (rw [if_pos (by decide +kernel)]; kernel_rfl) | (rw [if_neg (by decide +kernel)]; exact ⟨rfl, rfl⟩))
    (fun os started H enc _ => tells_lifted os started H enc)
#print axioms tells_holds
end Go.Proofs.Ytgadhjfpebhnpaa
