/- The walks of what package url cuts a text with. -/
import Derived.Test.YtcookddgaomkiaaGreatDoorIndexAny
import Derived.Test.YtcookddgaomkiaaGreatDoorPlains
import Derived.Test.YtcookddgaomkiaaGreatDoorOctets
import Derived.Test.YtcookddgaomkiaaGreatDoorStd
namespace Go.Proofs.YtcookddgaomkiaaGreatDoor
open Go.RowKit
theorem extract_take (s : ByteArray) (n : Nat) : s.extract 0 n = ⟨(s.data.toList.take n).toArray⟩ := by
  apply ByteArray.ext
  rw [ByteArray.data_extract]
  apply Array.ext'
  rw [Array.toList_extract]
  simp [List.extract]
theorem extract_drop (s : ByteArray) (n : Nat) : s.extract n s.size = ⟨(s.data.toList.drop n).toArray⟩ := by
  apply ByteArray.ext
  rw [ByteArray.data_extract]
  apply Array.ext'
  rw [Array.toList_extract]
  have h : s.size = s.data.toList.length := (Oct.length_bytes s).symm
  rw [List.extract_eq_drop_take', List.drop_take, h, List.take_of_length_le (by rw [List.length_drop]; exact Nat.le_refl _)]
theorem mk_bytes (s : ByteArray) : (⟨s.data.toList.toArray⟩ : ByteArray) = s := by
  apply ByteArray.ext
  simp
/-! ### Path -/
theorem ofPath_calls (c : UInt8) (w : World) :
    Calls Tryz.prog 26 #[.int .u8 (c.toNat : Int)] w fun e w' => e = .returned (.bool (Ur.okP c)) ∧ w = w' := by
  have hc : c.toNat < 256 := c.toNat_lt
  go_enter Tryz.func26, Tryz.ntmps26
  go_wp2
  all_goals
    go_ret
    exact ⟨ret_bool (by rw [Bool.eq_iff_iff]; simp [Ur.okP]; try omega), rfl⟩
namespace Ur
theorem prefix_head (l : List UInt8) (c : UInt8) : Lib.hasPrefix l [c] = decide (l.head? = some c) := by
  cases l with
  | nil => rfl
  | cons d r =>
    show ((c == d) && true) = decide (some d = some c)
    rw [Bool.and_true, Bool.eq_iff_iff, beq_iff_eq, decide_eq_true_eq, Option.some.injEq]
    exact ⟨fun h => h.symm, fun h => h.symm⟩
theorem path_no_long {s : ByteArray} (h : 2048 < s.size) : isPath s.data.toList = false := by
  unfold isPath
  rw [decide_eq_false (show ¬ (1 ≤ s.data.toList.length ∧ s.data.toList.length ≤ 2048) by rw [Oct.length_bytes]; omega)]
  simp
theorem path_no_head {s : ByteArray} (h : s.data.toList.head? ≠ some 47) : isPath s.data.toList = false := by
  unfold isPath
  rw [decide_eq_false h]
  simp
theorem path_no_byte {s : ByteArray} {k : Nat} (hk : k < s.size) (h : okP s[k] = false) : isPath s.data.toList = false := by
  unfold isPath
  rw [Oct.all_not s k hk h]; rfl
theorem path_yes {s : ByteArray} {k : Nat} (hk : s.size ≤ k) (hl : s.size ≤ 2048) (hh : s.data.toList.head? = some 47) (h : (s.data.toList.take k).all okP = true) : isPath s.data.toList = true := by
  rw [Oct.take_all s k hk] at h
  have hp : 1 ≤ s.data.toList.length := by
    cases e : s.data.toList with
    | nil => rw [e] at hh; cases hh
    | cons c r => simp
  unfold isPath
  rw [h, decide_eq_true (show 1 ≤ s.data.toList.length ∧ s.data.toList.length ≤ 2048 from ⟨hp, by rw [Oct.length_bytes]; exact hl⟩), decide_eq_true hh]; rfl
end Ur
set_option maxHeartbeats 1000000 in
theorem path_calls (s : ByteArray) (w : World) :
    Calls Tryz.prog 11 #[.string s] w fun e w' => e = .returned (.bool (Ur.isPath s.data.toList)) ∧ w = w' := by
  have H1 := Lib.hid (fun W => Tryz.strings_HasPrefix s ⟨#[47]⟩ W)
  have e1 : (⟨#[47]⟩ : ByteArray).data.toList = [47] := rfl
  rw [e1, Ur.prefix_head] at H1
  clear e1
  by_cases hl : 2048 < s.size
  · have hl1 : (2048 : Int) < (s.size : Int) := by omega
    have HN := Lib.hid (Ur.path_no_long hl)
    clear hl
    go_enter Tryz.func11, Tryz.ntmps11
    go_wp2
    go_ret
    exact ⟨ret_bool HN.out.symm, rfl⟩
  have hl1 : ¬ (2048 : Int) < (s.size : Int) := by omega
  by_cases hh : s.data.toList.head? = some 47
  · rw [decide_eq_true hh] at H1
    have HH := Lib.hid hh
    clear hh
    go_enter Tryz.func11, Tryz.ntmps11
    go_wp2_with (go_at_call 25; refine (H1.out _).mono ?_; rintro e w' ⟨rfl, hq⟩; rw [hq])
    go_loop [3, 14] (fun _ i => ∃ k : Nat, k ≤ s.size ∧ i = .int .i64 k ∧ (s.data.toList.take k).all Ur.okP = true) (fun _ i => s.size - (intOf i).toNat)
    case atStart => exact ⟨0, Nat.zero_le _, rfl, by simp⟩
    case round =>
      obtain ⟨k, hk, rfl, hall⟩ := hrel
      have HA := Lib.hid hall
      clear hall
      by_cases hlt : k < s.size
      · cases hq : Ur.okP s[k] with
        | true =>
          go_wp2_with (go_at_call 26; refine (ofPath_calls _ _).mono ?_; rintro e w' ⟨rfl, rfl⟩; rw [hq])
          go_round
          case rel => exact ⟨k + 1, by omega, by go_num, Oct.all_snoc s k hlt HA.out hq⟩
          case measure => simp [intOf]; omega
        | false =>
          go_wp2_with (go_at_call 26; refine (ofPath_calls _ _).mono ?_; rintro e w' ⟨rfl, rfl⟩; rw [hq])
          go_ret
          exact ⟨ret_bool (Ur.path_no_byte hlt hq).symm, rfl⟩
      · go_wp2
        go_ret
        exact ⟨ret_bool (Ur.path_yes (k := k) (by omega) (by omega) HH.out HA.out).symm, rfl⟩
  · rw [decide_eq_false hh] at H1
    have HN := Lib.hid (Ur.path_no_head hh)
    clear hh
    go_enter Tryz.func11, Tryz.ntmps11
    go_wp2_with (go_at_call 25; refine (H1.out _).mono ?_; rintro e w' ⟨rfl, hq⟩; rw [hq])
    go_ret
    exact ⟨ret_bool HN.out.symm, rfl⟩
/-! ### What stands ahead -/
set_option maxHeartbeats 1000000 in
theorem ahead_calls (s ends : ByteArray) (w : World) (hz1 : 1 ≤ ends.size) (hz : ends.size ≤ 1000) (hch : ∀ b ∈ ends.data.toList, b.toNat < 128) (hs : s.size ≤ 4294967280) :
    Calls Tryz.prog 20 #[.string s, .string ends] w fun e w' => e = .returned (.tuple #[.string ⟨(s.data.toList.take (Ur.find s.data.toList ends.data.toList)).toArray⟩, .string ⟨(s.data.toList.drop (Ur.find s.data.toList ends.data.toList)).toArray⟩]) ∧ Below w.heap.size w w' := by
  have H : ∀ W, Calls Tryz.prog 34 #[.string s, .string ends] W fun e w' => e = .returned (.int .i64 (Lib.indexAny s.data.toList ends.data.toList)) ∧ Below W.heap.size W w' := by
    intro W
    by_cases h1 : ends.size = 1
    · exact anyOne_calls s ends W h1 hch
    · exact any_calls s ends W (by omega) hz hch hs
  have H1 := Lib.hid H
  clear H
  by_cases hn : Lib.indexAny s.data.toList ends.data.toList < 0
  · obtain ⟨e1, e2⟩ := Ur.indexAny_at hn
    have HE := Lib.hid e1
    have HE2 := Lib.hid e2
    clear e1 e2 hch
    generalize Lib.indexAny s.data.toList ends.data.toList = r at *
    go_enter Tryz.func20, Tryz.ntmps20
    go_wp2_with fail
    refine (H1.out _).mono ?_
    rintro e v1 ⟨rfl, d1⟩
    go_wp2
    go_ret2
    exact ⟨ret_two (val_str (by rw [HE.out, mk_bytes])) (val_str (by rw [HE2.out])), d1⟩
  · obtain ⟨e1, e2⟩ := Ur.indexAny_hits hn
    rw [e1] at H1
    have hle : Ur.find s.data.toList ends.data.toList ≤ s.size := by rw [Oct.length_bytes] at e2; omega
    have HA := Lib.hid (extract_take s (Ur.find s.data.toList ends.data.toList))
    have HB := Lib.hid (extract_drop s (Ur.find s.data.toList ends.data.toList))
    clear hn e1 e2 hch
    generalize Ur.find s.data.toList ends.data.toList = n at *
    have hn0 : ¬ (n : Int) < 0 := by omega
    have hle1 : (n : Int) ≤ (s.size : Int) := by omega
    go_enter Tryz.func20, Tryz.ntmps20
    go_wp2_with fail
    refine (H1.out _).mono ?_
    rintro e v1 ⟨rfl, d1⟩
    go_wp2
    go_quiet (fail)
    go_wp2
    go_ret2
    exact ⟨ret_two (val_str HA.out) (val_str HB.out), d1.trans (below_draws _ _ _)⟩
/-! ### The scheme -/
namespace Ur
def foldRest (s b : List UInt8) : List UInt8 := if folded s b = true then s.drop b.length else []
theorem foldRest_yes {s b : List UInt8} (h : folded s b = true) : foldRest s b = s.drop b.length := by unfold foldRest; rw [if_pos h]
theorem foldRest_no {s b : List UInt8} (h : folded s b = false) : foldRest s b = [] := by unfold foldRest; rw [if_neg (by rw [h]; simp)]
end Ur
set_option maxHeartbeats 1000000 in
theorem folded_calls (s b : ByteArray) (w : World) (hs : s.size ≤ maxLen) :
    Calls Tryz.prog 33 #[.string s, .string b] w fun e w' => e = .returned (.tuple #[.string ⟨(Ur.foldRest s.data.toList b.data.toList).toArray⟩, .bool (Ur.folded s.data.toList b.data.toList)]) ∧ Below w.heap.size w w' := by
  have hm : maxLen = 140737488351232 ∨ True := .inr trivial
  by_cases hl : b.size ≤ s.size
  · have hl1 : ¬ (s.size : Int) < (b.size : Int) := by omega
    have hl2 : (b.size : Int) ≤ (s.size : Int) := by omega
    have H1 := fun W => same_calls (s.extract 0 b.size) b W (by rw [ByteArray.size_extract]; omega)
    have ex : (s.extract 0 b.size).data.toList = s.data.toList.take b.size := by rw [extract_take]
    have ef : Ur.folded s.data.toList b.data.toList = Oct.sameB (s.data.toList.take b.size) b.data.toList := by
      unfold Ur.folded
      rw [decide_eq_true (show b.data.toList.length ≤ s.data.toList.length by rw [Oct.length_bytes, Oct.length_bytes]; exact hl), Oct.length_bytes, Bool.true_and]
    rw [ex, ← ef] at H1
    have H1 := Lib.hid H1
    have HB := Lib.hid (extract_drop s b.size)
    clear ex ef hm
    cases hok : Ur.folded s.data.toList b.data.toList with
    | true =>
      rw [hok] at H1
      have HR := Lib.hid (Ur.foldRest_yes hok)
      clear hok
      go_enter Tryz.func33, Tryz.ntmps33
      go_wp2_with fail
      refine (H1.out _).mono ?_
      rintro e v1 ⟨rfl, d1⟩
      go_wp2
      go_ret2
      exact ⟨ret_two (val_str (by rw [HR.out, Oct.length_bytes]; exact HB.out)) rfl, d1.below _⟩
    | false =>
      rw [hok] at H1
      have HR := Lib.hid (Ur.foldRest_no hok)
      clear hok
      go_enter Tryz.func33, Tryz.ntmps33
      go_wp2_with fail
      refine (H1.out _).mono ?_
      rintro e v1 ⟨rfl, d1⟩
      go_wp2
      go_ret2
      exact ⟨ret_two (val_str (by rw [HR.out])) rfl, d1.below _⟩
  · have hl1 : (s.size : Int) < (b.size : Int) := by omega
    have HF : Hid (Ur.folded s.data.toList b.data.toList = false) := Lib.hid (by
      unfold Ur.folded
      rw [decide_eq_false (show ¬ b.data.toList.length ≤ s.data.toList.length by rw [Oct.length_bytes, Oct.length_bytes]; exact hl)]; rfl)
    have HR := Lib.hid (Ur.foldRest_no HF.out)
    rw [HF.out]
    clear hm hl
    go_enter Tryz.func33, Tryz.ntmps33
    go_wp2
    go_ret2
    exact ⟨ret_two (val_str (by rw [HR.out])) rfl, Below.refl _ _⟩
namespace Ur
theorem scheme_http {l : List UInt8} (h : folded l http = true) : secure? l = false ∧ rest? l = foldRest l http ∧ (scheme l).isSome = true := by
  unfold secure? rest?
  rw [scheme_is, if_pos h, foldRest_yes h]
  exact ⟨rfl, rfl, rfl⟩
theorem scheme_https {l : List UInt8} (h : folded l http = false) : secure? l = folded l https ∧ rest? l = foldRest l https ∧ (scheme l).isSome = folded l https := by
  unfold secure? rest?
  rw [scheme_is, if_neg (by rw [h]; simp)]
  cases h2 : folded l https with
  | true => rw [if_pos rfl, foldRest_yes h2]; exact ⟨rfl, rfl, rfl⟩
  | false => rw [if_neg (by simp), foldRest_no h2]; exact ⟨rfl, rfl, rfl⟩
end Ur
set_option maxHeartbeats 1000000 in
theorem scheme_calls (s : ByteArray) (w : World) (hs : s.size ≤ maxLen) :
    Calls Tryz.prog 19 #[.string s] w fun e w' => e = .returned (.tuple #[.bool (Ur.secure? s.data.toList), .string ⟨(Ur.rest? s.data.toList).toArray⟩, .bool (Ur.scheme s.data.toList).isSome]) ∧ Below w.heap.size w w' := by
  have H1 := Lib.hid (fun W => folded_calls s ⟨#[104, 116, 116, 112, 58, 47, 47]⟩ W hs)
  have H2 := Lib.hid (fun W => folded_calls s ⟨#[104, 116, 116, 112, 115, 58, 47, 47]⟩ W hs)
  have e1 : (⟨#[104, 116, 116, 112, 58, 47, 47]⟩ : ByteArray).data.toList = Ur.http := rfl
  have e2 : (⟨#[104, 116, 116, 112, 115, 58, 47, 47]⟩ : ByteArray).data.toList = Ur.https := rfl
  rw [e1] at H1
  rw [e2] at H2
  clear e1 e2 hs
  cases hok : Ur.folded s.data.toList Ur.http with
  | true =>
    obtain ⟨a1, a2, a3⟩ := Ur.scheme_http hok
    rw [a1, a2, a3]
    rw [hok] at H1
    clear hok a1 a2 a3 H2
    generalize (⟨(Ur.foldRest s.data.toList Ur.http).toArray⟩ : ByteArray) = r at *
    go_enter Tryz.func19, Tryz.ntmps19
    go_wp2_with fail
    refine (H1.out _).mono ?_
    rintro e v1 ⟨rfl, d1⟩
    go_wp2
    go_ret3
    exact ⟨rfl, d1⟩
  | false =>
    obtain ⟨a1, a2, a3⟩ := Ur.scheme_https hok
    rw [a1, a2, a3]
    rw [hok] at H1
    clear hok a1 a2 a3
    generalize (⟨(Ur.foldRest s.data.toList Ur.http).toArray⟩ : ByteArray) = q at *
    generalize (⟨(Ur.foldRest s.data.toList Ur.https).toArray⟩ : ByteArray) = r at *
    generalize Ur.folded s.data.toList Ur.https = ok at *
    go_enter Tryz.func19, Tryz.ntmps19
    go_wp2_with fail
    refine (H1.out _).mono ?_
    rintro e v1 ⟨rfl, d1⟩
    go_wp2_with fail
    refine (H2.out _).mono ?_
    rintro e v2 ⟨rfl, d2⟩
    go_wp2
    go_ret3
    exact ⟨rfl, d1.trans (d2.mono d1.size)⟩
/-! ### The host -/
set_option maxHeartbeats 1000000 in
theorem place_calls (s : ByteArray) (w : World) (hw : Std w) (hs : s.size ≤ 1048576) :
    Calls Tryz.prog 21 #[.string s] w fun e w' => e = .returned (.tuple #[.string ⟨(s.data.toList.take (Ur.endOf s.data.toList)).toArray⟩, .string ⟨(s.data.toList.drop (Ur.endOf s.data.toList)).toArray⟩]) ∧ Below w.heap.size w w' := by
  have H1 := Lib.hid (fun W => Tryz.strings_HasPrefix s ⟨#[91]⟩ W)
  have e1 : (⟨#[91]⟩ : ByteArray).data.toList = [91] := rfl
  rw [e1, Ur.prefix_head] at H1
  by_cases hh : s.data.toList.head? = some 91
  · rw [decide_eq_true hh] at H1
    have H2 := Lib.hid (fun W h => cut_calls s ⟨#[93]⟩ W h (by omega))
    have e2 : (⟨#[93]⟩ : ByteArray).data.toList = [93] := rfl
    rw [e2] at H2
    clear e1 e2
    cases hok : (Lib.cut s.data.toList [93]).2.2 with
    | false =>
      obtain ⟨a1, a2⟩ := Ur.bracket_none hh hok
      rw [hok] at H2
      rw [a1, a2, mk_bytes]
      clear hok a1 a2 hh
      go_enter Tryz.func21, Tryz.ntmps21
      go_wp2_with (go_at_call 25; refine (H1.out _).mono ?_; rintro e w' ⟨rfl, hq⟩; rw [hq])
      refine (H2.out _ hw).mono ?_
      rintro e v1 ⟨rfl, d1⟩
      go_wp2
      go_ret2
      exact ⟨rfl, d1⟩
    | true =>
      obtain ⟨a1, a2⟩ := Ur.bracket_some hh hok
      rw [hok] at H2
      rw [a1, a2]
      have hlen : (Lib.cut s.data.toList [93]).1.length ≤ s.data.toList.length := by
        have := congrArg List.length a1
        rw [List.length_append, List.length_take] at this
        omega
      rw [Oct.length_bytes] at hlen
      obtain ⟨x, hx⟩ : ∃ x : ByteArray, (⟨(Lib.cut s.data.toList [93]).1.toArray⟩ : ByteArray) = x := ⟨_, rfl⟩
      have hxl : x.data.toList = (Lib.cut s.data.toList [93]).1 := by rw [← hx]
      have hxs : x.size ≤ 1048576 := by rw [← Oct.length_bytes, hxl]; omega
      rw [hx] at H2
      have HX : Hid ((⟨((Lib.cut s.data.toList [93]).1 ++ [93]).toArray⟩ : ByteArray) = x ++ ⟨#[93]⟩) := Lib.hid (by
        apply ByteArray.ext
        rw [ByteArray.data_append]
        apply Array.ext'
        rw [Array.toList_append, hxl])
      rw [HX.out]
      have hc1 : ¬ 9223372036854775807 < x.size + (⟨#[93]⟩ : ByteArray).size := by have : (⟨#[93]⟩ : ByteArray).size = 1 := rfl; omega
      clear hok a1 a2 hh hlen hx hxl HX
      generalize (⟨(Lib.cut s.data.toList [93]).2.1.toArray⟩ : ByteArray) = y at *
      go_enter Tryz.func21, Tryz.ntmps21
      go_wp2_with (go_at_call 25; refine (H1.out _).mono ?_; rintro e w' ⟨rfl, hq⟩; rw [hq])
      refine (H2.out _ hw).mono ?_
      rintro e v1 ⟨rfl, d1⟩
      go_wp2
      go_ret2
      exact ⟨rfl, d1⟩
  · rw [decide_eq_false hh] at H1
    have H2 := fun W => ahead_calls s ⟨#[58]⟩ W (by show 1 ≤ 1; omega) (by show 1 ≤ 1000; omega) (by intro b hb; rw [List.mem_singleton.1 hb]; decide) (by omega)
    have e2 : (⟨#[58]⟩ : ByteArray).data.toList = [58] := rfl
    rw [e2, ← Ur.endOf_plain hh] at H2
    have H2 := Lib.hid H2
    clear e1 e2 hh
    generalize (⟨(s.data.toList.take (Ur.endOf s.data.toList)).toArray⟩ : ByteArray) = x at *
    generalize (⟨(s.data.toList.drop (Ur.endOf s.data.toList)).toArray⟩ : ByteArray) = y at *
    go_enter Tryz.func21, Tryz.ntmps21
    go_wp2_with (go_at_call 25; refine (H1.out _).mono ?_; rintro e w' ⟨rfl, hq⟩; rw [hq])
    refine (H2.out _).mono ?_
    rintro e v1 ⟨rfl, d1⟩
    go_wp2
    go_ret2
    exact ⟨rfl, d1⟩
/-! ### The port -/
namespace Ur
def strayB (b : List UInt8) : Bool := decide (b ≠ [] ∧ b.head? ≠ some 58)
theorem stray_eq (b : List UInt8) : strayB b = ((!decide (b = [])) && (!decide (b.head? = some 58))) := by
  unfold strayB
  rw [Bool.eq_iff_iff]
  simp
end Ur
theorem stray_calls (s : ByteArray) (w : World) :
    Calls Tryz.prog 23 #[.string s] w fun e w' => e = .returned (.bool (Ur.strayB s.data.toList)) ∧ w = w' := by
  have H1 := Lib.hid (fun W => Tryz.strings_HasPrefix s ⟨#[58]⟩ W)
  have e1 : (⟨#[58]⟩ : ByteArray).data.toList = [58] := rfl
  rw [e1, Ur.prefix_head] at H1
  rw [Ur.stray_eq]
  clear e1
  by_cases hn : s.data.toList = []
  · have hn1 : s.toList.isEmpty = true := by rw [Oct.bytes_data, hn]; rfl
    rw [decide_eq_true hn]
    clear hn
    go_enter Tryz.func23, Tryz.ntmps23
    go_wp2
    go_ret
    exact ⟨rfl, rfl⟩
  · have hn1 : s.toList.isEmpty = false := by
      rw [Oct.bytes_data]
      cases e : s.data.toList with
      | nil => exact absurd e hn
      | cons c r => rfl
    rw [decide_eq_false hn]
    clear hn
    generalize decide (s.data.toList.head? = some 58) = q at *
    go_enter Tryz.func23, Tryz.ntmps23
    go_wp2_with (go_at_call 25; refine (H1.out _).mono ?_; rintro e w' ⟨rfl, hq⟩; rw [hq])
    go_ret
    exact ⟨by cases q <;> rfl, rfl⟩
theorem usual_calls (b : Bool) (w : World) :
    Calls Tryz.prog 15 #[.bool b] w fun e w' => e = .returned (.int .i64 (Ur.usual b)) ∧ w = w' := by
  cases b
  all_goals
    go_enter Tryz.func15, Tryz.ntmps15
    go_wp2
    go_ret
    exact ⟨rfl, rfl⟩
set_option maxHeartbeats 1000000 in
theorem port_calls (s : ByteArray) (b : Bool) (w : World) (hs : s.size ≤ 1048576) (h : Ur.strayB s.data.toList = false) :
    Calls Tryz.prog 24 #[.string s, .bool b] w fun e w' => e = .returned (.tuple #[.int .i64 ((Ur.portOf b s.data.toList).getD 0), .bool (Ur.portOf b s.data.toList).isSome]) ∧ w = w' := by
  have H1 := Lib.hid (fun W => Tryz.strings_CutPrefix s ⟨#[58]⟩ W)
  have e1 : (⟨#[58]⟩ : ByteArray).data.toList = [58] := rfl
  rw [e1, Ur.prefix_head] at H1
  clear e1
  by_cases hh : s.data.toList.head? = some 58
  · have et : Lib.trimPrefix s.data.toList [58] = s.data.toList.tail := by
      cases e : s.data.toList with
      | nil => rw [e] at hh; cases hh
      | cons c r =>
        rw [e] at hh
        obtain rfl := Option.some.inj hh
        rfl
    rw [decide_eq_true hh, et] at H1
    have HN := Lib.hid (Ur.port_named b hh)
    have hsz : (⟨s.data.toList.tail.toArray⟩ : ByteArray).size ≤ 1048576 := by
      show (List.toArray _).size ≤ _
      rw [List.size_toArray, List.length_tail, Oct.length_bytes]; omega
    have H2 := Lib.hid (fun W => number_calls ⟨s.data.toList.tail.toArray⟩ W (by unfold maxLen; omega))
    have e2 : (⟨s.data.toList.tail.toArray⟩ : ByteArray).data.toList = s.data.toList.tail := rfl
    rw [e2] at H2
    rw [HN.out]
    clear et h hh HN e2 hsz
    generalize (⟨s.data.toList.tail.toArray⟩ : ByteArray) = d at *
    generalize Oct.number s.data.toList.tail = n at *
    generalize Oct.isNum s.data.toList.tail = ok at *
    by_cases hin : ok = true ∧ 1 ≤ n ∧ n ≤ 65535
    · rw [if_pos hin]
      obtain ⟨rfl, h1, h2⟩ := hin
      have g1 : ¬ (n : Int) < 1 := by omega
      have g2 : ¬ (65535 : Int) < (n : Int) := by omega
      go_enter Tryz.func24, Tryz.ntmps24
      go_wp2_with (first
        | (go_at_call 36; refine (H1.out _).mono ?_; rintro e w' ⟨rfl, hq⟩; rw [hq])
        | (go_at_call 43; refine (H2.out _).mono ?_; rintro e w' ⟨rfl, rfl⟩))
      go_ret2
      exact ⟨rfl, rfl⟩
    · rw [if_neg hin]
      cases ok with
      | false =>
        clear hin
        go_enter Tryz.func24, Tryz.ntmps24
        go_wp2_with (first
          | (go_at_call 36; refine (H1.out _).mono ?_; rintro e w' ⟨rfl, hq⟩; rw [hq])
          | (go_at_call 43; refine (H2.out _).mono ?_; rintro e w' ⟨rfl, rfl⟩))
        go_ret2
        exact ⟨rfl, rfl⟩
      | true =>
        by_cases h1 : n < 1
        · have g1 : (n : Int) < 1 := by omega
          clear hin h1
          go_enter Tryz.func24, Tryz.ntmps24
          go_wp2_with (first
            | (go_at_call 36; refine (H1.out _).mono ?_; rintro e w' ⟨rfl, hq⟩; rw [hq])
            | (go_at_call 43; refine (H2.out _).mono ?_; rintro e w' ⟨rfl, rfl⟩))
          go_ret2
          exact ⟨rfl, rfl⟩
        · have g1 : ¬ (n : Int) < 1 := by omega
          have g2 : (65535 : Int) < (n : Int) := by have : ¬ n ≤ 65535 := fun k => hin ⟨rfl, by omega, k⟩; omega
          clear hin h1
          go_enter Tryz.func24, Tryz.ntmps24
          go_wp2_with (first
            | (go_at_call 36; refine (H1.out _).mono ?_; rintro e w' ⟨rfl, hq⟩; rw [hq])
            | (go_at_call 43; refine (H2.out _).mono ?_; rintro e w' ⟨rfl, rfl⟩))
          go_ret2
          exact ⟨rfl, rfl⟩
  · have hn : s.data.toList = [] := by
      rw [Ur.stray_eq, decide_eq_false hh] at h
      simpa using h
    rw [decide_eq_false hh] at H1
    rw [Ur.port_none b hn]
    clear hn hh h
    generalize (⟨(Lib.trimPrefix s.data.toList [58]).toArray⟩ : ByteArray) = d at *
    go_enter Tryz.func24, Tryz.ntmps24
    go_wp2_with (first
      | (go_at_call 36; refine (H1.out _).mono ?_; rintro e w' ⟨rfl, hq⟩; rw [hq])
      | (go_at_call 15; refine (usual_calls _ _).mono ?_; rintro e w' ⟨rfl, rfl⟩))
    go_ret2
    exact ⟨rfl, rfl⟩
end Go.Proofs.YtcookddgaomkiaaGreatDoor
