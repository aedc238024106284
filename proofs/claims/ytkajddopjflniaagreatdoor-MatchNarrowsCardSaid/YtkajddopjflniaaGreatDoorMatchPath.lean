/- The walks of package match on paths. -/
import Derived.Test.YtkajddopjflniaaGreatDoorMatchMore
import Derived.Test.YtkajddopjflniaaGreatDoorOctets
import Derived.Test.YtkajddopjflniaaGreatDoorShelf
namespace Go.Proofs.YtkajddopjflniaaGreatDoor
open Go.RowKit
theorem empty_text (l : List UInt8) : (⟨l.toArray⟩ : ByteArray).toList.isEmpty = decide (l = []) := by
  rw [Oct.bytes_data]
  cases l <;> simp
set_option maxHeartbeats 1000000 in
theorem mpath_calls (p f : ByteArray) (w : World) (hf : f.size ≤ 9223372036854775807) :
    Calls Tryz.prog 13 #[.string p, .string f] w fun e w' => e = .returned (.bool (Ma.path p.data.toList f.data.toList)) ∧ w = w' := by
  have H1 := Lib.hid (fun W => Tryz.strings_CutPrefix p f W)
  have H2 := Lib.hid (fun W => Tryz.strings_HasSuffix f ⟨#[47]⟩ W hf)
  have e1 : (⟨#[47]⟩ : ByteArray).data.toList = [47] := rfl
  rw [e1, Ma.suffix_last] at H2
  cases hp : Lib.hasPrefix p.data.toList f.data.toList with
  | false =>
    rw [hp] at H1
    have HR := Lib.hid (Ma.path_none hp)
    clear hp H2 e1
    go_enter Tryz.func13, Tryz.ntmps13
    go_wp2_with (go_at_call 23; refine (H1.out _).mono ?_; rintro e w' ⟨rfl, hq⟩; rw [hq])
    go_ret
    exact ⟨ret_bool HR.out.symm, rfl⟩
  | true =>
    rw [hp] at H1
    have HR := Lib.hid (Ma.path_cut hp)
    generalize Lib.trimPrefix p.data.toList f.data.toList = t at *
    have H3 := Lib.hid (fun W => Tryz.strings_HasPrefix ⟨t.toArray⟩ ⟨#[47]⟩ W)
    have ht : (⟨t.toArray⟩ : ByteArray).data.toList = t := rfl
    rw [e1, ht, Ma.prefix_first] at H3
    have he := empty_text t
    clear hp e1 ht
    generalize Ma.path p.data.toList f.data.toList = B at *
    generalize decide (t = []) = b1 at *
    generalize decide (f.data.toList.getLast? = some 47) = b2 at *
    generalize decide (t.head? = some 47) = b3 at *
    generalize (⟨t.toArray⟩ : ByteArray) = T at *
    cases b1
    · cases b2
      · go_enter Tryz.func13, Tryz.ntmps13
        go_wp2_with (first
          | (go_at_call 23; refine (H1.out _).mono ?_; rintro e w' ⟨rfl, hq⟩; rw [hq])
          | (go_at_call 24; refine (H2.out _).mono ?_; rintro e w' ⟨rfl, hq⟩; rw [hq])
          | (go_at_call 25; refine (H3.out _).mono ?_; rintro e w' ⟨rfl, hq⟩; rw [hq]))
        go_ret
        exact ⟨ret_bool HR.out.symm, rfl⟩
      · go_enter Tryz.func13, Tryz.ntmps13
        go_wp2_with (first
          | (go_at_call 23; refine (H1.out _).mono ?_; rintro e w' ⟨rfl, hq⟩; rw [hq])
          | (go_at_call 24; refine (H2.out _).mono ?_; rintro e w' ⟨rfl, hq⟩; rw [hq]))
        go_ret
        exact ⟨ret_bool HR.out.symm, rfl⟩
    · go_enter Tryz.func13, Tryz.ntmps13
      go_wp2_with (go_at_call 23; refine (H1.out _).mono ?_; rintro e w' ⟨rfl, hq⟩; rw [hq])
      go_ret
      exact ⟨ret_bool HR.out.symm, rfl⟩
set_option maxHeartbeats 1000000 in
theorem mdefault_calls (p : ByteArray) (w : World) (hs : p.size < 4611686018427387904) :
    Calls Tryz.prog 14 #[.string p] w fun e w' => e = .returned (.string ⟨(Ma.default p.data.toList).toArray⟩) ∧ w = w' := by
  have H1 := Lib.hid (fun W => Tryz.strings_LastIndex_one p ⟨#[47]⟩ rfl hs W)
  have H2 := Lib.hid (fun W => Tryz.strings_HasPrefix p ⟨#[47]⟩ W)
  have e1 : (⟨#[47]⟩ : ByteArray).data.toList = [47] := rfl
  have e2 : ((((⟨#[47]⟩ : ByteArray)[0]'(by decide)).toNat : Nat) : Int) = 47 := rfl
  rw [e2] at H1
  rw [e1, Ma.prefix_first] at H2
  have hle := Ma.cutLast_le p.data.toList
  rw [Oct.length_bytes] at hle
  by_cases hz : (Ma.cutLast p.data.toList).length = 0
  · have hz1 := Ma.last_small.2 hz
    have HR : Hid ((⟨#[47]⟩ : ByteArray) = ⟨(Ma.default p.data.toList).toArray⟩) := Lib.hid (by rw [Ma.default_no (.inr hz)])
    clear hz e1 e2 hle
    generalize Lib.lastIndexByte p 47 = i at *
    generalize Ma.default p.data.toList = D at *
    go_enter Tryz.func14, Tryz.ntmps14
    go_wp2_with (go_at_call 26; refine (H1.out _).mono ?_; rintro e w' ⟨rfl, hq⟩; rw [hq])
    go_ret
    exact ⟨ret_str HR.out, rfl⟩
  · have hp : 0 < (Ma.cutLast p.data.toList).length := by omega
    rw [Ma.last_great hp] at H1
    by_cases hh : p.data.toList.head? = some 47
    · have HA : Hid (p.extract 0 (Ma.cutLast p.data.toList).length = ⟨(Ma.default p.data.toList).toArray⟩) := Lib.hid (by rw [Ma.default_yes hh hp]; exact extract_take p _)
      rw [decide_eq_true hh] at H2
      clear hh e1 e2 hz
      generalize Ma.default p.data.toList = D at *
      generalize (Ma.cutLast p.data.toList).length = n at *
      have hn : ¬ (n : Int) < 1 := by omega
      have hle1 : (n : Int) ≤ (p.size : Int) := by omega
      go_enter Tryz.func14, Tryz.ntmps14
      go_wp2_with (first
        | (go_at_call 26; refine (H1.out _).mono ?_; rintro e w' ⟨rfl, hq⟩; rw [hq])
        | (go_at_call 25; refine (H2.out _).mono ?_; rintro e w' ⟨rfl, hq⟩; rw [hq]))
      go_ret
      exact ⟨ret_str HA.out, rfl⟩
    · have HR : Hid ((⟨#[47]⟩ : ByteArray) = ⟨(Ma.default p.data.toList).toArray⟩) := Lib.hid (by rw [Ma.default_no (.inl hh)])
      rw [decide_eq_false hh] at H2
      clear hh e1 e2 hz
      generalize Ma.default p.data.toList = D at *
      generalize (Ma.cutLast p.data.toList).length = n at *
      have hn : ¬ (n : Int) < 1 := by omega
      go_enter Tryz.func14, Tryz.ntmps14
      go_wp2_with (first
        | (go_at_call 26; refine (H1.out _).mono ?_; rintro e w' ⟨rfl, hq⟩; rw [hq])
        | (go_at_call 25; refine (H2.out _).mono ?_; rintro e w' ⟨rfl, hq⟩; rw [hq]))
      go_ret
      exact ⟨ret_str HR.out, rfl⟩
end Go.Proofs.YtkajddopjflniaaGreatDoor
