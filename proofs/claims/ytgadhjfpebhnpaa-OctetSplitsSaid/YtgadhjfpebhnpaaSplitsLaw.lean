/- OctetSplits: of every text, of whatever length, and every byte the law answers true: Split, Lines and Words of octet say what the reference says, and the arguments read behind the call as they read before. No condition. -/
import Derived.Test.YtgadhjfpebhnpaaAlive
import Derived.Test.YtgadhjfpebhnpaaWords
import Derived.Test.YtgadhjfpebhnpaaRefLines
import Derived.Test.YtgadhjfpebhnpaaSame
import Derived.Test.YtgadhjfpebhnpaaLaw
namespace Go.Proofs.Ytgadhjfpebhnpaa
open Go.ChangeShapes Go.WideShapes Go.ChangeAt Go.WideMaps Go.WideElems Go.RowKit
open Go.ChangeMaps (open_string shut_string)

theorem own_keep {w w' : World} {B n : Nat} {t : TypeId} {v : Value} {xs : List Value} (h : w.ownsRow B t 1 v n xs) (hb : Below w.heap.size w w') : w'.ownsRow B t 1 v n xs := by
  refine h.kept (row := none) ⟨hb.os, hb.tape, hb.output, hb.size, fun i hi _ => hb.block i hi⟩ ?_
  cases hv : v.ownBlock
  · exact .inl rfl
  · exact .inr (by simp)
theorem same_self (ps : List (List UInt8)) (va vb : Value) (Ba Bb : Nat) (w : World) (hn : ps.length ≤ maxLen)
    (ha : w.ownsRow Ba 9 1 va ps.length (ps.map strV)) (hb : w.ownsRow Bb 9 1 vb ps.length (ps.map strV)) :
    Calls Try.prog 21 #[va, vb] w fun e w' => e = .returned (.bool true) ∧ Drawn w w' := by
  have h := sameTexts_calls ps ps va vb Ba Bb w hn ha hb
  rw [decide_eq_true rfl] at h
  exact h

set_option maxHeartbeats 1000000 in
theorem splits_far (s : ByteArray) (at_ : UInt8) (w : World) (hs : s.size ≤ maxLen) (h : 2000 < s.size) :
    Calls Try.prog 5 #[.string s, .int .u8 (at_.toNat : Int)] w fun e w' => e = .returned (.bool true) ∧ Below w.heap.size w w' := by
  have HA := Lib.hid alive_calls
  unfold maxLen at hs
  go_enter Try.func5, Try.ntmps5
  go_wp2_with (go_at_call 9; refine (HA.out _).mono ?_; rintro e w1 ⟨rfl, hb1⟩)
  go_ret
  exact ⟨rfl, hb1⟩

set_option maxHeartbeats 2000000 in
theorem splits_near (s : ByteArray) (at_ : UInt8) (w : World) (hs : s.size ≤ 2000) :
    Calls Try.prog 5 #[.string s, .int .u8 (at_.toNat : Int)] w fun e w' => e = .returned (.bool true) ∧ Below w.heap.size w w' := by
  have HA := Lib.hid alive_calls
  have HW := Lib.hid fun W => words_calls s W (by omega)
  have HW2 := Lib.hid fun W => refWords_calls s W (by omega)
  have HS := Lib.hid fun W => split_calls s at_ W (by omega)
  have HS2 := Lib.hid fun W => refSplit_calls s at_ W (by omega)
  have HL := Lib.hid fun W => lines_calls s W (by omega)
  have HL2 := Lib.hid fun W => refLines_calls s W (by omega)
  have NS : (Oct.split at_ s.data.toList).length ≤ maxLen := by
    have := Oct.split_length at_ s.data.toList
    rw [Oct.length_bytes] at this
    simp only [maxLen]; omega
  have NW : (Oct.words s.data.toList).length ≤ maxLen := by
    have := Oct.split_length 32 s.data.toList
    rw [Oct.length_bytes] at this
    unfold Oct.words
    split <;> simp only [maxLen, List.length_nil] <;> omega
  have NL : (Oct.lines s.data.toList).length ≤ maxLen := by
    have := Oct.split_length 10 s.data.toList
    rw [Oct.length_bytes] at this
    unfold Oct.lines Oct.pieces
    split <;> simp only [maxLen, List.length_map, List.length_dropLast] <;> omega
  generalize Oct.split at_ s.data.toList = ps at *
  generalize Oct.words s.data.toList = ws at *
  generalize Oct.areWords s.data.toList = ok at *
  generalize Oct.lines s.data.toList = ls at *
  have KS := Lib.hid NS
  have KW := Lib.hid NW
  have KL := Lib.hid NL
  clear NS NW NL
  go_enter Try.func5, Try.ntmps5
  go_wp2_with fail
  refine (HA.out _).mono ?_
  rintro e w1 ⟨rfl, b1⟩
  go_wp2_with fail
  refine (HW.out _).mono ?_
  rintro e w2 ⟨vw, rfl, ow, b2⟩
  go_wp2_with fail
  refine (HW2.out _).mono ?_
  rintro e w3 ⟨vx, rfl, ox, b3⟩
  go_wp2_with fail
  refine (HS.out _).mono ?_
  rintro e w4 ⟨vs, rfl, os1, b4⟩
  go_wp2_with fail
  refine (HS2.out _).mono ?_
  rintro e w5 ⟨vt, rfl, ot, b5⟩
  go_wp2_with fail
  refine (same_self ps vs vt _ _ _ KS.out (own_keep os1 b5) ot).mono ?_
  rintro e w6 ⟨rfl, d6⟩
  go_wp2_with fail
  refine (HL.out _).mono ?_
  rintro e w7 ⟨gl, cl, rfl, ol, b7⟩
  go_wp2_with fail
  refine (HL2.out _).mono ?_
  rintro e w8 ⟨vm, rfl, om, b8⟩
  go_wp2_with fail
  refine (same_self ls _ vm _ _ _ KL.out (own_keep ol b8) om).mono ?_
  rintro e w9 ⟨rfl, d9⟩
  go_wp2_with fail
  have b6 := d6.below w5.heap.size
  have b9 := d9.below w8.heap.size
  have B5 := new_trans b1 (new_trans b2 (new_trans b3 (new_trans b4 b5)))
  have B9 := new_trans b6 (new_trans b7 (new_trans b8 b9))
  refine (same_self ws vw vx _ _ _ KW.out (own_keep (own_keep ow (new_trans b3 (new_trans b4 b5))) B9) (own_keep ox (new_trans b4 (new_trans b5 B9)))).mono ?_
  rintro e w10 ⟨rfl, d10⟩
  have b10 := d10.below w9.heap.size
  have B10 := new_trans B5 (new_trans B9 b10)
  clear B9 B5 b10 b9 b8 b7 b6 b5 b4 b3 b2 b1 d10 d9 d6 ow ox os1 ot ol om
  go_wp2
  go_ret
  exact ⟨rfl, B10⟩

theorem splits_walk (s : ByteArray) (n : Int) (w : World) (hs : s.size ≤ maxLen) (hn : (Lit.int .u8 n).wf = true) :
    Calls Try.prog 5 #[.string s, .int .u8 n] w fun e w' => e = .returned (.bool true) ∧ Below w.heap.size w w' := by
  obtain ⟨c, rfl⟩ := byte_of hn
  by_cases h : s.size ≤ 2000
  · exact splits_near s c w h
  · exact splits_far s c w hs (by omega)

set_option maxRecDepth 100000 in
theorem splits_lifted (os : Os) (started : os.Started) (H : Type) (enc : TypeId × Value → H) :
    ReturnsInHanded {} Try.checked os 5 .any (Rows.octetSplitsSpec.pre6 enc Try.prog Try.f5 Rows.octetSplitsRow.domain false) (Rows.octetSplitsSpec.post enc Try.prog Try.f5 false true false false) := by
  refine returnsInHanded_of_change (C := Try.checked) own started (by kernel_rfl) Try.func5
    (ChangeSpec.witness6 (enc := enc) (C := Try.checked) false ⟨#[], #[.string ⟨#[]⟩, .int .u8 0], []⟩ 8 (by kernel_rfl) (by kernel_rfl) (by kernel_rfl) (by kernel_rfl)) ?_
  intro W base args ds gs before hval0 hW hcnd _
  have hval : ∀ (j : Nat) t v, Try.f5.params[j]? = some t → args[j]? = some v → Value.okWide Try.prog W .any base t v := hval0
  have hW' := hW
  obtain ⟨p, q, hA0, hV, rfl, hfz, hnd⟩ := hW
  have hA : DataW.TrodAll enc Try.prog W 0 (fun _ => true) true Try.f5.params.toList args.toList ds p := hA0
  rw [Try.params5] at hA hval
  obtain ⟨v0, v1, d0, d1, p0, p1, rfl, rfl, rfl, h0, h1⟩ := trodAll_two hA
  obtain ⟨rfl, rfl⟩ := trodVars_none hV
  obtain ⟨a0, rfl, rfl, rfl, w0⟩ := open_string Try.underlying9 (hval 0 9 v0 rfl rfl) h0
  obtain ⟨a1, rfl, rfl, rfl, w1⟩ := open_int Try.underlying5 (hval 1 5 v1 rfl rfl) h1
  clear hA0 hval0
  simp only [List.append_nil] at hW'
  refine (splits_walk a0 a1 W w0 w1).mono fun e W' ⟨he, hb⟩ => ?_
  subst he
  exact ⟨_, rfl, law_post (pa := []) (pv := []) hW' hb (fun _ _ _ => trodAll_mk1 (shut_bool Try.underlying4 _)) (trodAll_mk2 (shut_string Try.underlying9 w0) (shut_int Try.underlying5 w1)) rfl rfl⟩
theorem splits_holds : Rows.OctetSplitsSaid :=
  OpenClaim.holds_of_wide 5 Try.f5 rfl rfl rfl rfl rfl rfl rfl ⟨rfl, rfl, rfl, rfl, rfl⟩ rfl rfl rfl rfl rfl (by kernel_rfl) Try.func5 (by kernel_rfl)
    (of_decide_eq_true (by kernel_rfl)) (by unfold Func.isWrapper; first | (rw [if_pos (by decide +kernel)]; kernel_rfl) | (rw [if_neg (by decide +kernel)]; exact ⟨rfl, rfl⟩))
    (fun os started H enc _ => splits_lifted os started H enc)
#print axioms splits_holds
end Go.Proofs.Ytgadhjfpebhnpaa
