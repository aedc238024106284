/- OctetBack: of every text, of whatever length, and every byte the law answers true: a word has neither blanks nor line ends and stands for its text alone, pieces with the byte between them are the text, and Lower of Lower is Lower. The arguments read behind the call as they read before. No condition. -/
import Derived.Test.YtgadhjfpebhnpaaAlive
import Derived.Test.YtgadhjfpebhnpaaBackPlain
import Derived.Test.YtgadhjfpebhnpaaLower
import Derived.Test.YtgadhjfpebhnpaaSame
import Derived.Test.YtgadhjfpebhnpaaSplitsLaw
import Derived.Test.YtgadhjfpebhnpaaLaw
namespace Go.Proofs.Ytgadhjfpebhnpaa
open Go.ChangeShapes Go.WideShapes Go.ChangeAt Go.WideMaps Go.WideElems Go.RowKit
open Go.ChangeMaps (open_string shut_string)

set_option maxHeartbeats 1000000 in
theorem back_far (s : ByteArray) (at_ : UInt8) (w : World) (hs : s.size ≤ maxLen) (h : 1000 < s.size) :
    Calls Try.prog 7 #[.string s, .int .u8 (at_.toNat : Int)] w fun e w' => e = .returned (.bool true) ∧ Below w.heap.size w w' := by
  have HA := Lib.hid alive_calls
  unfold maxLen at hs
  go_enter Try.func7, Try.ntmps7
  go_wp2_with (go_at_call 9; refine (HA.out _).mono ?_; rintro e w1 ⟨rfl, hb1⟩)
  go_ret
  exact ⟨rfl, hb1⟩

/-- What the word x of the text s and its small letters y are good for. -/
structure BackFacts (s x y : ByteArray) : Prop where
  word : ∀ W, Calls Try.prog 28 #[.string s] W fun e w' => e = .returned (.string x) ∧ Below W.heap.size W w'
  unword : ∀ W, Calls Try.prog 26 #[.string x] W fun e w' => e = .returned (.tuple #[.string s, .bool true]) ∧ Below W.heap.size W w'
  lower : ∀ W, Calls Try.prog 10 #[.string s] W fun e w' => e = .returned (.string y) ∧ Below W.heap.size W w'
  again : ∀ W, Calls Try.prog 10 #[.string y] W fun e w' => e = .returned (.string y) ∧ Below W.heap.size W w'
  same : ∀ W, Calls Try.prog 12 #[.string y, .string s] W fun e w' => e = .returned (.bool true) ∧ Drawn W w'
  bytes : ∀ k (h : k < x.size), (33 : Int) ≤ (x[k].toNat : Int) ∧ (x[k].toNat : Int) ≤ 126
  size : 1 ≤ x.size ∧ x.size ≤ 3001
  len : y.size = s.size
theorem back_facts (s : ByteArray) (hs : s.size ≤ 1000) : ∃ x y, BackFacts s x y := by
  have hw := Oct.word_length s.data.toList
  rw [Oct.length_bytes] at hw
  have hxz : (⟨(Oct.word s.data.toList).toArray⟩ : ByteArray).size = (Oct.word s.data.toList).length := List.size_toArray
  have hyz : (⟨(s.data.toList.map Oct.low).toArray⟩ : ByteArray).size = s.size := by
    show (List.toArray _).size = _
    rw [List.size_toArray, List.length_map, Oct.length_bytes]
  refine ⟨⟨(Oct.word s.data.toList).toArray⟩, ⟨(s.data.toList.map Oct.low).toArray⟩, fun W => word_calls s W (by omega), fun W => ?_, fun W => lower_calls s W (by omega), fun W => ?_, fun W => ?_, fun k h => ?_, by omega, hyz⟩
  · have h := unword_calls ⟨(Oct.word s.data.toList).toArray⟩ W (by omega)
    unfold NewTextIf at h
    rw [show (⟨(Oct.word s.data.toList).toArray⟩ : ByteArray).data.toList = Oct.word s.data.toList from rfl, (Oct.word_back _).1, (Oct.word_back _).2, Lib.mk_data] at h
    exact h
  · have h := lower_calls ⟨(s.data.toList.map Oct.low).toArray⟩ W (by omega)
    unfold NewText at h
    rw [show (⟨(s.data.toList.map Oct.low).toArray⟩ : ByteArray).data.toList = s.data.toList.map Oct.low from rfl, Oct.lows] at h
    exact h
  · have h := same_calls ⟨(s.data.toList.map Oct.low).toArray⟩ s W (by rw [hyz]; simp only [maxLen]; omega)
    rw [show (⟨(s.data.toList.map Oct.low).toArray⟩ : ByteArray).data.toList = s.data.toList.map Oct.low from rfl, Oct.same_low] at h
    exact h
  · have := Oct.word_bytes s.data.toList ((⟨(Oct.word s.data.toList).toArray⟩ : ByteArray)[k]) (by
      rw [← Oct.getElem_bytes _ k h]
      exact List.getElem_mem _)
    omega

set_option maxRecDepth 100000 in
set_option maxHeartbeats 4000000 in
theorem back_near (s : ByteArray) (at_ : UInt8) (w : World) (hs : s.size ≤ 1000) :
    Calls Try.prog 7 #[.string s, .int .u8 (at_.toNat : Int)] w fun e w' => e = .returned (.bool true) ∧ Below w.heap.size w w' := by
  have HA := Lib.hid alive_calls
  obtain ⟨x, y, hF⟩ := back_facts s hs
  have HX := Lib.hid hF
  have hx1 := hF.size
  have HLEN := Lib.hid hF.len
  have HSP := Lib.hid fun W => split_at s at_ W (by omega)
  have HJ := Lib.hid (Oct.joinL_split at_ s.data.toList)
  have hn := Oct.split_length at_ s.data.toList
  have HSM := Lib.hid (Oct.split_small at_ s.data.toList)
  rw [Oct.length_bytes] at hn HSM
  generalize Oct.split at_ s.data.toList = ps at *
  clear hF
  go_enter Try.func7, Try.ntmps7
  go_wp2_with fail
  refine (HA.out _).mono ?_
  rintro e w1 ⟨rfl, b1⟩
  go_wp2_with fail
  refine (HX.out.word _).mono ?_
  rintro e w2 ⟨rfl, b2⟩
  go_wp2_with fail
  go_loop [6] (fun i => ∃ k : Nat, k ≤ x.size ∧ i = .int .i64 k) (fun i => x.size - (intOf i).toNat)
  case atStart => exact ⟨0, Nat.zero_le _, rfl⟩
  case round =>
    obtain ⟨k, hk, rfl⟩ := hrel
    by_cases hlt : k < x.size
    · obtain ⟨q1, q2⟩ := HX.out.bytes k hlt
      go_wp2
      go_round
      case rel => exact ⟨k + 1, by omega, by go_num⟩
      case measure => simp [intOf]; omega
    · go_wp2_with fail
      refine (HX.out.unword _).mono ?_
      rintro e w3 ⟨rfl, b3⟩
      go_wp2_with fail
      refine (HSP.out _).mono ?_
      rintro e w4 ⟨g, cap, rfl, hown0, b4⟩
      have B0 := new_trans b1 (new_trans b2 (new_trans b3 b4))
      clear b1 b2 b3 b4
      go_wp2_with fail
      go_loopw [9, 57] (fun v i wr => ∃ (m : Nat) (o : ByteArray), m ≤ ps.length ∧ i = .int .i64 m ∧ v = .string o ∧ o.data.toList = Oct.joinL at_ (ps.take m) ∧ o.size ≤ 1001 * m ∧ wr.ownsRow w3.heap.size 9 1 (.slice (some ⟨g, 0, none⟩) ps.length cap) ps.length (ps.map strV) ∧ Below w.heap.size w wr) (fun _ i _ => ps.length - (intOf i).toNat)
      case atStart => exact ⟨0, ⟨#[]⟩, Nat.zero_le _, rfl, rfl, (Oct.joinTo_zero _ _).symm, by decide, hown0, B0⟩
      case round =>
        obtain ⟨m, o, hm, rfl, rfl, ho, hoz, hown, hb⟩ := hrel
        clear hown0 B0
        have HO := Lib.hid ho
        clear ho
        by_cases hml : m < ps.length
        · obtain ⟨p, hp⟩ : ∃ p, ps[m]? = some p := ⟨_, List.getElem?_eq_getElem hml⟩
          obtain ⟨t, ht⟩ : ∃ t : ByteArray, t = ⟨p.toArray⟩ := ⟨_, rfl⟩
          have htp : t.data.toList = p := by rw [ht]
          have hcell := own_text hown hp ht
          have htz : t.size ≤ 1000 := by
            have h1 := HSM.out p (List.mem_of_getElem? hp)
            have h2 : t.size = p.length := by rw [ht]; exact List.size_toArray
            omega
          have HP := Lib.hid hp
          have HTP := Lib.hid htp
          clear ht htp hp
          by_cases h0 : m = 0
          · subst h0
            have HJ2 := Lib.hid (show (o ++ t).data.toList = Oct.joinL at_ (ps.take (0 + 1)) from by
              rw [ByteArray.data_append, Array.toList_append, HO.out, Oct.joinTo_zero, HTP.out, Oct.joinTo_first HP.out]; rfl)
            have HZ2 := Lib.hid (show (o ++ t).size ≤ 1001 * (0 + 1) from by rw [ByteArray.size_append]; omega)
            go_wp2
            go_roundw
            case rel => exact ⟨0 + 1, _, by omega, by go_num, rfl, HJ2.out, HZ2.out, hown, hb⟩
            case measure => simp [intOf]; omega
          · have hm0 : 0 < m := by omega
            have hone := one_string wr at_
            have hsz : (⟨#[at_]⟩ : ByteArray).size = 1 := rfl
            have hoz2 : (o ++ ⟨#[at_]⟩ : ByteArray).size ≤ 1001 * m + 1 := by rw [ByteArray.size_append]; show o.size + 1 ≤ _; omega
            have HJ2 := Lib.hid (show (o ++ ⟨#[at_]⟩ ++ t).data.toList = Oct.joinL at_ (ps.take (m + 1)) from by
              rw [ByteArray.data_append, ByteArray.data_append, Array.toList_append, Array.toList_append, HO.out, HTP.out, Oct.joinTo_more hm0 HP.out]; simp)
            have HZ2 := Lib.hid (show (o ++ ⟨#[at_]⟩ ++ t).size ≤ 1001 * (m + 1) from by rw [ByteArray.size_append]; omega)
            have hbs := hb.size
            clear h0
            go_wp2
            go_roundw
            case rel => exact ⟨m + 1, _, by omega, by go_num, rfl, HJ2.out, HZ2.out, hown.alloc _, hb.alloc hbs _⟩
            case measure => simp [intOf]; omega
        · have hos : (o.toList == s.toList) = true := by
            have := HO.out
            rw [List.take_of_length_le (by omega), HJ.out] at this
            rw [Oct.bytes_data, Oct.bytes_data, this]; simp
          have hlen : ((y.size : Int) == (s.size : Int)) = true := by rw [HLEN.out]; simp
          clear hown
          go_wp2_with fail
          refine (HX.out.lower _).mono ?_
          rintro e w5 ⟨rfl, b5⟩
          go_wp2_with fail
          refine (HX.out.again _).mono ?_
          rintro e w6 ⟨rfl, b6⟩
          go_wp2_with fail
          refine (HX.out.same _).mono ?_
          rintro e w7 ⟨rfl, d7⟩
          have BB := hb.trans ((new_trans b5 (new_trans b6 (d7.below _))).mono hb.size)
          clear b5 b6 d7
          go_wp2
          go_ret
          exact ⟨ret_bool (by simp), BB⟩

theorem back_walk (s : ByteArray) (n : Int) (w : World) (hs : s.size ≤ maxLen) (hn : (Lit.int .u8 n).wf = true) :
    Calls Try.prog 7 #[.string s, .int .u8 n] w fun e w' => e = .returned (.bool true) ∧ Below w.heap.size w w' := by
  obtain ⟨c, rfl⟩ := byte_of hn
  by_cases h : s.size ≤ 1000
  · exact back_near s c w h
  · exact back_far s c w hs (by omega)

set_option maxRecDepth 100000 in
theorem back_lifted (os : Os) (started : os.Started) (H : Type) (enc : TypeId × Value → H) :
    ReturnsInHanded {} Try.checked os 7 .any (Rows.octetBackSpec.pre6 enc Try.prog Try.f7 Rows.octetBackRow.domain false) (Rows.octetBackSpec.post enc Try.prog Try.f7 false true false false) := by
  refine returnsInHanded_of_change (C := Try.checked) own started (by kernel_rfl) Try.func7
    (ChangeSpec.witness6 (enc := enc) (C := Try.checked) false ⟨#[], #[.string ⟨#[]⟩, .int .u8 0], []⟩ 8 (by kernel_rfl) (by kernel_rfl) (by kernel_rfl) (by kernel_rfl)) ?_
  intro W base args ds gs before hval0 hW hcnd _
  have hval : ∀ (j : Nat) t v, Try.f7.params[j]? = some t → args[j]? = some v → Value.okWide Try.prog W .any base t v := hval0
  have hW' := hW
  obtain ⟨p, q, hA0, hV, rfl, hfz, hnd⟩ := hW
  have hA : DataW.TrodAll enc Try.prog W 0 (fun _ => true) true Try.f7.params.toList args.toList ds p := hA0
  rw [Try.params7] at hA hval
  obtain ⟨v0, v1, d0, d1, p0, p1, rfl, rfl, rfl, h0, h1⟩ := trodAll_two hA
  obtain ⟨rfl, rfl⟩ := trodVars_none hV
  obtain ⟨a0, rfl, rfl, rfl, w0⟩ := open_string Try.underlying9 (hval 0 9 v0 rfl rfl) h0
  obtain ⟨a1, rfl, rfl, rfl, w1⟩ := open_int Try.underlying5 (hval 1 5 v1 rfl rfl) h1
  clear hA0 hval0
  simp only [List.append_nil] at hW'
  refine (back_walk a0 a1 W w0 w1).mono fun e W' ⟨he, hb⟩ => ?_
  subst he
  exact ⟨_, rfl, law_post (pa := []) (pv := []) hW' hb (fun _ _ _ => trodAll_mk1 (shut_bool Try.underlying4 _)) (trodAll_mk2 (shut_string Try.underlying9 w0) (shut_int Try.underlying5 w1)) rfl rfl⟩
theorem back_holds : Rows.OctetBackSaid :=
  OpenClaim.holds_of_wide 7 Try.f7 rfl rfl rfl rfl rfl rfl rfl ⟨rfl, rfl, rfl, rfl, rfl⟩ rfl rfl rfl rfl rfl (by kernel_rfl) Try.func7 (by kernel_rfl)
    (of_decide_eq_true (by kernel_rfl)) (by unfold Func.isWrapper; first | (rw [if_pos (by decide +kernel)]; kernel_rfl) | (rw [if_neg (by decide +kernel)]; exact ⟨rfl, rfl⟩))
    (fun os started H enc _ => back_lifted os started H enc)
#print axioms back_holds
end Go.Proofs.Ytgadhjfpebhnpaa
