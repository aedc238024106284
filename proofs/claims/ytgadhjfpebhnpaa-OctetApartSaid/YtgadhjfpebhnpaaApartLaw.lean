/- OctetApart: of every two texts, of whatever length, the law answers true: unlike texts have unlike words, and two words with a blank between are read as these two words. The texts read behind the call as they read before. No condition. -/
import Derived.Test.YtgadhjfpebhnpaaAlive
import Derived.Test.YtgadhjfpebhnpaaBackPlain
import Derived.Test.YtgadhjfpebhnpaaWords
import Derived.Test.YtgadhjfpebhnpaaLaw
namespace Go.Proofs.Ytgadhjfpebhnpaa
open Go.ChangeShapes Go.WideShapes Go.ChangeAt Go.WideMaps Go.WideElems Go.RowKit
open Go.ChangeMaps (open_string shut_string)
/-- The two words of a line. -/
def TwoWords (x y : ByteArray) (w : World) (e : Ending) (w' : World) : Prop :=
  ∃ g cap, e = .returned (.tuple #[.slice (some ⟨g, 0, none⟩) 2 cap, .bool true]) ∧ w'.cell? ⟨g, 0, none⟩ = some (.string x) ∧ w'.cell? ⟨g, 1, none⟩ = some (.string y) ∧ Below w.heap.size w w'
theorem words_of_line {a b : List UInt8} {x y z : ByteArray} (hx : x = ⟨(Oct.word a).toArray⟩) (hy : y = ⟨(Oct.word b).toArray⟩) (hl : z.data.toList = Oct.word a ++ 32 :: Oct.word b) (hz : z.size ≤ 200000) (W : World) :
    Calls Try.prog 19 #[.string z] W (TwoWords x y W) := by
  have h0 := words_calls z W (by omega)
  have h2 := Oct.words_two (Oct.word_bytes a) (Oct.word_bytes b) (Oct.word_length a).1 (Oct.word_length b).1
  rw [hl, h2.1, h2.2] at h0
  refine h0.mono fun e w' h => ?_
  obtain ⟨v, he, hown, hb⟩ := h
  obtain ⟨g, cap, hv, _, _⟩ := hown.form (by simp)
  subst hv
  exact ⟨g, cap, he, own_text (k := 0) (p := Oct.word a) hown rfl hx, own_text (k := 1) (p := Oct.word b) hown rfl hy, hb⟩
theorem words_of_two {a b : List UInt8} {x y : ByteArray} (hx : x = ⟨(Oct.word a).toArray⟩) (hy : y = ⟨(Oct.word b).toArray⟩) (hs : x.size + y.size ≤ 100000) (W : World) :
    Calls Try.prog 19 #[.string (x ++ ⟨#[32]⟩ ++ y)] W (TwoWords x y W) := by
  refine words_of_line hx hy ?_ ?_ W
  · rw [ByteArray.data_append, ByteArray.data_append, Array.toList_append, Array.toList_append, hx, hy]
    simp
  · rw [ByteArray.size_append, ByteArray.size_append]
    show x.size + 1 + y.size ≤ 200000
    omega

set_option maxHeartbeats 2000000 in
theorem apart_near (a b : ByteArray) (w : World) (ha : a.size ≤ 500) (hb : b.size ≤ 500) :
    Calls Try.prog 8 #[.string a, .string b] w fun e w' => e = .returned (.bool true) ∧ Below w.heap.size w w' := by
  have HA := Lib.hid alive_calls
  have hw1 := fun W => word_calls a W (by omega)
  have hw2 := fun W => word_calls b W (by omega)
  unfold NewText at hw1 hw2
  have hab : ((⟨(Oct.word a.data.toList).toArray⟩ : ByteArray).toList == (⟨(Oct.word b.data.toList).toArray⟩ : ByteArray).toList) = (a.toList == b.toList) := by
    rw [Oct.bytes_data, Oct.bytes_data, Oct.bytes_data, Oct.bytes_data, Bool.eq_iff_iff, beq_iff_eq, beq_iff_eq]
    exact ⟨fun h => Oct.word_inj h, fun h => by rw [h]⟩
  have la := Oct.word_length a.data.toList
  have lb := Oct.word_length b.data.toList
  rw [Oct.length_bytes] at la lb
  have h2 := fun (x y : ByteArray) (hx : x = ⟨(Oct.word a.data.toList).toArray⟩) (hy : y = ⟨(Oct.word b.data.toList).toArray⟩) => words_of_two (x := x) (y := y) hx hy
  obtain ⟨x, hx⟩ : ∃ x : ByteArray, x = ⟨(Oct.word a.data.toList).toArray⟩ := ⟨_, rfl⟩
  obtain ⟨y, hy⟩ : ∃ y : ByteArray, y = ⟨(Oct.word b.data.toList).toArray⟩ := ⟨_, rfl⟩
  have hxz : x.size = (Oct.word a.data.toList).length := by rw [hx]; exact List.size_toArray
  have hyz : y.size = (Oct.word b.data.toList).length := by rw [hy]; exact List.size_toArray
  have hx1 : x.size ≤ 1501 := by omega
  have hy1 : y.size ≤ 1501 := by omega
  have HW := Lib.hid (h2 x y hx hy (by omega))
  rw [← hx] at hw1 hab
  rw [← hy] at hw2 hab
  have H1 := Lib.hid hw1
  have H2 := Lib.hid hw2
  have hs1 : (x ++ ⟨#[32]⟩ : ByteArray).size ≤ 1502 := by rw [ByteArray.size_append]; show x.size + 1 ≤ 1502; omega
  have hs2 : (⟨#[32]⟩ : ByteArray).size = 1 := rfl
  clear h2 hx hy hxz hyz la lb hw1 hw2
  cases hq : (a.toList == b.toList)
  all_goals
    rw [hq] at hab
    go_enter Try.func8, Try.ntmps8
    go_wp2_with fail
    refine (HA.out _).mono ?_
    rintro e w1 ⟨rfl, b1⟩
    go_wp2_with fail
    refine (H1.out _).mono ?_
    rintro e w2 ⟨rfl, b2⟩
    go_wp2_with fail
    refine (H2.out _).mono ?_
    rintro e w3 ⟨rfl, b3⟩
    go_wp2_with fail
    refine (HW.out _).mono ?_
    rintro e w4 ⟨g, cap, rfl, c0, c1, b4⟩
    have B := new_trans b1 (new_trans b2 (new_trans b3 b4))
    clear b1 b2 b3 b4
    go_wp2
    go_ret
    exact ⟨ret_bool (by simp), B⟩

set_option maxHeartbeats 1000000 in
theorem apart_far (a b : ByteArray) (w : World) (ha : a.size ≤ maxLen) (hb : b.size ≤ maxLen) (h : 500 < a.size ∨ 500 < b.size) :
    Calls Try.prog 8 #[.string a, .string b] w fun e w' => e = .returned (.bool true) ∧ Below w.heap.size w w' := by
  have HA := Lib.hid alive_calls
  unfold maxLen at ha hb
  by_cases h1 : 500 < a.size
  all_goals
    try have h2 : 500 < b.size := by omega
    clear h
    go_enter Try.func8, Try.ntmps8
    go_wp2_with (go_at_call 9; refine (HA.out _).mono ?_; rintro e w1 ⟨rfl, hb1⟩)
    go_ret
    exact ⟨rfl, hb1⟩
theorem apart_walk (a b : ByteArray) (w : World) (ha : a.size ≤ maxLen) (hb : b.size ≤ maxLen) :
    Calls Try.prog 8 #[.string a, .string b] w fun e w' => e = .returned (.bool true) ∧ Below w.heap.size w w' := by
  by_cases h : a.size ≤ 500 ∧ b.size ≤ 500
  · exact apart_near a b w h.1 h.2
  · exact apart_far a b w ha hb (by omega)

set_option maxRecDepth 100000 in
theorem apart_lifted (os : Os) (started : os.Started) (H : Type) (enc : TypeId × Value → H) :
    ReturnsInHanded {} Try.checked os 8 .any (Rows.octetApartSpec.pre6 enc Try.prog Try.f8 Rows.octetApartRow.domain false) (Rows.octetApartSpec.post enc Try.prog Try.f8 false true false false) := by
  refine returnsInHanded_of_change (C := Try.checked) own started (by kernel_rfl) Try.func8
    (ChangeSpec.witness6 (enc := enc) (C := Try.checked) false ⟨#[], #[.string ⟨#[]⟩, .string ⟨#[]⟩], []⟩ 8 (by kernel_rfl) (by kernel_rfl) (by kernel_rfl) (by kernel_rfl)) ?_
  intro W base args ds gs before hval0 hW hcnd _
  have hval : ∀ (j : Nat) t v, Try.f8.params[j]? = some t → args[j]? = some v → Value.okWide Try.prog W .any base t v := hval0
  have hW' := hW
  obtain ⟨p, q, hA0, hV, rfl, hfz, hnd⟩ := hW
  have hA : DataW.TrodAll enc Try.prog W 0 (fun _ => true) true Try.f8.params.toList args.toList ds p := hA0
  rw [Try.params8] at hA hval
  obtain ⟨v0, v1, d0, d1, p0, p1, rfl, rfl, rfl, h0, h1⟩ := trodAll_two hA
  obtain ⟨rfl, rfl⟩ := trodVars_none hV
  obtain ⟨a0, rfl, rfl, rfl, w0⟩ := open_string Try.underlying9 (hval 0 9 v0 rfl rfl) h0
  obtain ⟨a1, rfl, rfl, rfl, w1⟩ := open_string Try.underlying9 (hval 1 9 v1 rfl rfl) h1
  clear hA0 hval0
  simp only [List.append_nil] at hW'
  refine (apart_walk a0 a1 W w0 w1).mono fun e W' ⟨he, hb⟩ => ?_
  subst he
  exact ⟨_, rfl, law_post (pa := []) (pv := []) hW' hb (fun _ _ _ => trodAll_mk1 (shut_bool Try.underlying4 _)) (trodAll_mk2 (shut_string Try.underlying9 w0) (shut_string Try.underlying9 w1)) rfl rfl⟩
theorem apart_holds : Rows.OctetApartSaid :=
  OpenClaim.holds_of_wide 8 Try.f8 rfl rfl rfl rfl rfl rfl rfl ⟨rfl, rfl, rfl, rfl, rfl⟩ rfl rfl rfl rfl rfl (by kernel_rfl) Try.func8 (by kernel_rfl)
    (of_decide_eq_true (by kernel_rfl)) (by unfold Func.isWrapper; first | (rw [if_pos (by decide +kernel)]; kernel_rfl) | (rw [if_neg (by decide +kernel)]; exact ⟨rfl, rfl⟩))
    (fun os started H enc _ => apart_lifted os started H enc)
#print axioms apart_holds
end Go.Proofs.Ytgadhjfpebhnpaa
