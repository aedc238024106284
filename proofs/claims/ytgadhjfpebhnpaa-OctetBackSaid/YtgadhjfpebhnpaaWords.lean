/- The walks of Words, of octet and of the reference. -/
import Derived.Test.YtgadhjfpebhnpaaSplit
import Derived.Test.YtgadhjfpebhnpaaRefSplit
namespace Go.Proofs.Ytgadhjfpebhnpaa
open Go.RowKit
theorem refSplit_at (s : ByteArray) (at_ : UInt8) (w : World) (hs : s.size ≤ 1099511627776) :
    Calls Try.prog 23 #[.string s, .int .u8 (at_.toNat : Int)] w (NewTextsAt w.heap.size (Oct.split at_ s.data.toList) w) :=
  (refSplit_calls s at_ w hs).mono fun _ _ h => h.at_ (Oct.split_pos _ _)
/-- A new list of texts, and a bool. -/
def NewTextsIf (B : Nat) (ps : List (List UInt8)) (ok : Bool) (w : World) (e : Ending) (w' : World) : Prop :=
  ∃ v, e = .returned (.tuple #[v, .bool ok]) ∧ w'.ownsRow B 9 1 v ps.length (ps.map strV) ∧ Below B w w'

set_option maxHeartbeats 1000000 in
theorem words_calls (s : ByteArray) (w : World) (hs : s.size ≤ 1099511627776) :
    Calls Try.prog 19 #[.string s] w (NewTextsIf w.heap.size (Oct.words s.data.toList) (Oct.areWords s.data.toList) w) := by
  have hlen := Oct.split_length 32 s.data.toList
  have hp := Oct.split_pos 32 s.data.toList
  rw [Oct.length_bytes] at hlen
  obtain ⟨ps, hps⟩ : ∃ ps, ps = Oct.split 32 s.data.toList := ⟨_, rfl⟩
  rw [← hps] at hlen hp
  have HP := Lib.hid hps
  have HC : ∀ W, Calls Try.prog 22 #[.string s, .int .u8 32] W (NewTextsAt W.heap.size ps W) := fun W => by rw [hps]; exact split_at s 32 W hs
  have HCC := Lib.hid HC
  clear hps HC
  go_enter Try.func19, Try.ntmps19
  go_wp2_with (go_at_call 22; refine (HCC.out _).mono ?_; rintro e w1 ⟨g, cap, rfl, hown, hb⟩)
  go_loop [11] (fun i => ∃ k : Nat, k ≤ ps.length ∧ i = .int .i64 k ∧ ∀ p ∈ ps.take k, p ≠ []) (fun i => ps.length - (intOf i).toNat)
  case atStart => exact ⟨0, Nat.zero_le _, rfl, by simp⟩
  case round =>
    obtain ⟨k, hk, rfl, hall⟩ := hrel
    have HA := Lib.hid hall
    clear hall
    by_cases hlt : k < ps.length
    · obtain ⟨p, t, h1, hcell, _, h4, _⟩ := own_cell hown hlt
      have H1 := Lib.hid h1
      clear h1
      cases hpe : p.isEmpty with
      | true =>
        rw [hpe] at h4
        have hw := Oct.words_no (l := s.data.toList) (by rw [← HP.out]; exact H1.out) (List.isEmpty_iff.1 hpe)
        have HW := Lib.hid hw
        clear hw hpe
        go_wp2
        go_ret2
        exact ⟨_, ret_two rfl (val_bool HW.out.2.symm), by rw [HW.out.1]; exact World.ownsRow_nil _ _ _ _, hb⟩
      | false =>
        rw [hpe] at h4
        have HE := Lib.hid hpe
        clear hpe
        go_wp2
        go_round
        case rel => exact ⟨k + 1, by omega, by go_num, Oct.take_more HA.out H1.out (by intro e; rw [e] at HE; exact absurd HE.out (by simp))⟩
        case measure => simp [intOf]; omega
    · have hw := Oct.words_yes (l := s.data.toList) (by rw [← HP.out]; have := HA.out; rw [List.take_of_length_le (by omega)] at this; exact this)
      have HW := Lib.hid hw
      clear hw
      go_wp2
      go_ret2
      exact ⟨_, ret_two rfl (val_bool HW.out.2.symm), by rw [HW.out.1, ← HP.out]; exact hown, hb⟩

set_option maxHeartbeats 1000000 in
theorem refWords_calls (s : ByteArray) (w : World) (hs : s.size ≤ 1099511627776) :
    Calls Try.prog 20 #[.string s] w (NewTextsIf w.heap.size (Oct.words s.data.toList) (Oct.areWords s.data.toList) w) := by
  have hlen := Oct.split_length 32 s.data.toList
  have hp := Oct.split_pos 32 s.data.toList
  rw [Oct.length_bytes] at hlen
  obtain ⟨ps, hps⟩ : ∃ ps, ps = Oct.split 32 s.data.toList := ⟨_, rfl⟩
  rw [← hps] at hlen hp
  have HP := Lib.hid hps
  have HC : ∀ W, Calls Try.prog 23 #[.string s, .int .u8 32] W (NewTextsAt W.heap.size ps W) := fun W => by rw [hps]; exact refSplit_at s 32 W hs
  have HCC := Lib.hid HC
  clear hps HC
  go_enter Try.func20, Try.ntmps20
  go_wp2_with (go_at_call 23; refine (HCC.out _).mono ?_; rintro e w1 ⟨g, cap, rfl, hown, hb⟩)
  go_loop [11] (fun i => ∃ k : Nat, k ≤ ps.length ∧ i = .int .i64 k ∧ ∀ p ∈ ps.take k, p ≠ []) (fun i => ps.length - (intOf i).toNat)
  case atStart => exact ⟨0, Nat.zero_le _, rfl, by simp⟩
  case round =>
    obtain ⟨k, hk, rfl, hall⟩ := hrel
    have HA := Lib.hid hall
    clear hall
    by_cases hlt : k < ps.length
    · obtain ⟨p, t, h1, hcell, _, h4, _⟩ := own_cell hown hlt
      have H1 := Lib.hid h1
      clear h1
      cases hpe : p.isEmpty with
      | true =>
        rw [hpe] at h4
        have hw := Oct.words_no (l := s.data.toList) (by rw [← HP.out]; exact H1.out) (List.isEmpty_iff.1 hpe)
        have HW := Lib.hid hw
        clear hw hpe
        go_wp2
        go_ret2
        exact ⟨_, ret_two rfl (val_bool HW.out.2.symm), by rw [HW.out.1]; exact World.ownsRow_nil _ _ _ _, hb⟩
      | false =>
        rw [hpe] at h4
        have HE := Lib.hid hpe
        clear hpe
        go_wp2
        go_round
        case rel => exact ⟨k + 1, by omega, by go_num, Oct.take_more HA.out H1.out (by intro e; rw [e] at HE; exact absurd HE.out (by simp))⟩
        case measure => simp [intOf]; omega
    · have hw := Oct.words_yes (l := s.data.toList) (by rw [← HP.out]; have := HA.out; rw [List.take_of_length_le (by omega)] at this; exact this)
      have HW := Lib.hid hw
      clear hw
      go_wp2
      go_ret2
      exact ⟨_, ret_two rfl (val_bool HW.out.2.symm), by rw [HW.out.1, ← HP.out]; exact hown, hb⟩
end Go.Proofs.Ytgadhjfpebhnpaa
