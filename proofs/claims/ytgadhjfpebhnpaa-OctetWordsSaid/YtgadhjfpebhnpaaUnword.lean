/- The walk of Unword. -/
import Derived.Test.YtgadhjfpebhnpaaUnwordByte
import Derived.Lib.IndexBytes
import Derived.Test.YtgadhjfpebhnpaaWord
import Derived.Test.YtgadhjfpebhnpaaSame
namespace Go.Proofs.Ytgadhjfpebhnpaa
open Go.RowKit
namespace Oct
theorem unword_one {l : List UInt8} (h : l = [37]) : unword l = [] ∧ isWord l = true := by
  unfold unword isWord; rw [if_pos h, if_pos h]; exact ⟨rfl, rfl⟩
theorem unword_none {l : List UInt8} (h : l ≠ [37]) (hn : unwordL l = none) : unword l = [] ∧ isWord l = false := by
  unfold unword isWord; rw [if_neg h, if_neg h, hn]; exact ⟨rfl, rfl⟩
theorem unword_some {l t : List UInt8} (h : l ≠ [37]) (hn : unwordL l = some t) : unword l = t ∧ isWord l = decide (0 < t.length) := by
  unfold unword isWord; rw [if_neg h, if_neg h, hn]
  refine ⟨rfl, ?_⟩
  simp only []
  cases t <;> simp
/-- Behind k bytes the bytes acc have been read. -/
structure Read (l : List UInt8) (k : Nat) (acc : List UInt8) : Prop where
  few : acc.length ≤ k
  all : unwordL l = (unwordL (l.drop k)).map (acc ++ ·)
theorem Read.start (l : List UInt8) : Read l 0 [] := ⟨by simp, by cases h : unwordL l <;> simp [h]⟩
theorem Read.more {l acc : List UInt8} {k n : Nat} {c : UInt8} (h : Read l k acc) (hk : k < l.length) (hn : next (l.drop k) = (c, n)) (h0 : n ≠ 0) : Read l (k + n) (acc ++ [c]) := by
  refine ⟨by have := h.few; rw [List.length_append]; simp; omega, ?_⟩
  rw [h.all, next_step (by intro e; have := congrArg List.length e; rw [List.length_drop] at this; simp at this; omega) hn, if_neg h0, List.drop_drop]
  cases unwordL (l.drop (k + n)) <;> simp
theorem Read.stop {l acc : List UInt8} {k : Nat} {c : UInt8} (h : Read l k acc) (hk : k < l.length) (hn : next (l.drop k) = (c, 0)) : unwordL l = none := by
  rw [h.all, next_step (by intro e; have := congrArg List.length e; rw [List.length_drop] at this; simp at this; omega) hn]; rfl
theorem Read.done {l acc : List UInt8} {k : Nat} (h : Read l k acc) (hk : l.length ≤ k) : unwordL l = some acc := by
  rw [h.all, List.drop_eq_nil_of_le hk]; simp [unwordL]
end Oct
theorem nil_string (w : World) : (convert 37 9 (.slice none 0 0)).run Try.prog w = .ok (.string ⟨#[]⟩) w := by
  have := run_convert_bytes_string (P := Try.prog) w 37 9 5 none 0 0 Try.underlying37 Try.underlying5 Try.underlying9
  rw [this]; rfl
theorem own_string_any {w : World} {B n : Nat} {v : Value} {l : List UInt8} (h : w.ownsRow B 5 1 v n (l.map byteV)) :
    ∃ A c, v = .slice A n c ∧ (convert 37 9 v).run Try.prog w = .ok (.string ⟨l.toArray⟩) w := by
  have hl : l.length = n := by have := h.1; rw [List.length_map] at this; omega
  rcases h.2 with ⟨rfl, h0⟩ | ⟨g, cap, _, rfl, _⟩
  · subst h0
    have : l = [] := List.eq_nil_of_length_eq_zero hl
    subst this
    exact ⟨none, 0, rfl, nil_string w⟩
  · exact ⟨_, cap, rfl, own_string h⟩
/-- A text, whether it is one, and new memory. -/
def NewTextIf (B : Nat) (l : List UInt8) (ok : Bool) (w : World) (e : Ending) (w' : World) : Prop := e = .returned (.tuple #[.string ⟨l.toArray⟩, .bool ok]) ∧ Below B w w'

set_option maxRecDepth 100000 in
set_option maxHeartbeats 2000000 in
theorem unword_calls (s : ByteArray) (w : World) (hs : s.size ≤ 1099511627776) :
    Calls Try.prog 26 #[.string s] w (NewTextIf w.heap.size (Oct.unword s.data.toList) (Oct.isWord s.data.toList) w) := by
  obtain ⟨i0, hi, hz0, hz1, hz2⟩ := info_parts infoByte
  by_cases h37 : s.data.toList = [37]
  · have hE : (s.toList == [37]) = true := by rw [Oct.bytes_data, h37]; rfl
    have HU := Lib.hid (Oct.unword_one h37)
    clear h37
    go_enter Try.func26, Try.ntmps26
    go_wp2
    go_ret2
    exact ⟨ret_two (val_str (by rw [HU.out.1])) (val_bool HU.out.2.symm), Below.refl _ _⟩
  · have hE : (s.toList == [37]) = false := by rw [Oct.bytes_data, beq_eq_false_iff_ne]; exact h37
    have H37 := Lib.hid h37
    clear h37
    go_enter Try.func26, Try.ntmps26
    go_wp2
    go_loopw [4, 5] (fun v i wr => ∃ (k : Nat) (acc : List UInt8), k ≤ s.size ∧ i = .int .i64 k ∧ wr.ownsRow w.heap.size 5 1 v acc.length (acc.map byteV) ∧ Oct.Read s.data.toList k acc ∧ Below w.heap.size w wr) (fun _ i _ => s.size - (intOf i).toNat)
    case atStart => exact ⟨0, [], Nat.zero_le _, rfl, World.ownsRow_nil _ _ _ _, Oct.Read.start _, Below.refl _ _⟩
    case round =>
      obtain ⟨k, acc, hk, rfl, hown, hr, hb⟩ := hrel
      have hfew := hr.few
      have HR := Lib.hid hr
      clear hr
      by_cases hlt : k < s.size
      · have hsz : (s.extract k s.size).size = s.size - k := by rw [ByteArray.size_extract]; omega
        have hnl := Oct.next_le (s.data.toList.drop k)
        rw [List.length_drop, Oct.length_bytes] at hnl
        have hbyte : ∀ W, Calls Try.prog 34 #[.string (s.extract k s.size)] W (NextByte (s.data.toList.drop k) W) := fun W => by
          have := unwordByte_calls (s.extract k s.size) W (by rw [hsz]; simp only [maxLen]; omega) (by rw [hsz]; omega)
          rw [Lib.extract_to_end] at this
          exact this
        unfold NextByte at hbyte
        have HK := Lib.hid (show k < s.data.toList.length from by rw [Oct.length_bytes]; exact hlt)
        rcases hcn : Oct.next (s.data.toList.drop k) with ⟨c, n⟩
        rw [hcn] at hnl hbyte
        have HCN := Lib.hid hcn
        have HB := Lib.hid hbyte
        simp only [] at hnl
        clear hcn hbyte hsz
        by_cases hn : n = 0
        · subst hn
          have HU := Lib.hid (Oct.unword_none H37.out (HR.out.stop HK.out HCN.out))
          clear hnl
          go_wp2_with (go_at_call 34; refine (HB.out _).mono ?_; rintro e w' ⟨rfl, rfl⟩)
          go_ret2
          exact ⟨ret_two (val_str (by rw [HU.out.1])) (val_bool HU.out.2.symm), hb⟩
        · have hz : ((n : Int) == 0) = false := by rw [beq_eq_false_iff_ne]; omega
          have HM := Lib.hid (HR.out.more HK.out HCN.out hn)
          have hn1 : 1 ≤ n := by omega
          clear hn
          go_wp2_with (first
            | (go_at_call 34; refine (HB.out _).mono ?_; rintro e w' ⟨rfl, rfl⟩)
            | (at_builtin; refine wpList_append_own _ rfl _ _ 37 rfl w.heap.size 5 i0 (.int .u8 0) 1 1 Try.underlying37 hi hz0 hz1 hz2 rfl (by decide) _ _ _ rfl (hown.alloc _) ⟨wr.heap.size, 0, none⟩ 1 1 [.int .u8 (c.toNat : Int)] rfl rfl (cell_one_new _ _ _) ?c1a ?c1b ?c1c ?c1d ?_))
          case c1a => intro u hu; simp at hu; subst hu; rfl
          case c1b => simp only [maxLen]; omega
          case c1c => omega
          case c1d => have := hb.size; simp; omega
          · intro v' w1 hown' hgrow _
            have R : w1.ownsRow w.heap.size 5 1 v' (acc ++ [c]).length ((acc ++ [c]).map byteV) := by rw [List.length_append, List.map_append]; exact hown'
            have B := hb.trans (((Below.refl _ wr).alloc hb.size _).grown hgrow (by have := hb.size; simp; omega) (fun g hg => (hown.lt g hg).1))
            clear hown' hgrow hown
            go_wp2
            go_roundw
            case rel => exact ⟨k + n, _, by omega, by go_num, R, HM.out, B⟩
            case measure => simp [intOf]; omega
      · have HU := Lib.hid (Oct.unword_some H37.out (HR.out.done (by rw [Oct.length_bytes]; omega)))
        obtain ⟨A, c, hv, hconv⟩ := own_string_any hown
        rw [hv] at hconv
        rw [hv]
        by_cases h0 : acc.length = 0
        · have hl0 : acc.length ≤ 0 := by omega
          have HD := Lib.hid (show decide (0 < acc.length) = false from decide_eq_false (by omega))
          clear h0 hv hown
          go_wp2
          go_ret2
          exact ⟨ret_two (val_str (by rw [HU.out.1])) (val_bool (by rw [HU.out.2, HD.out])), hb⟩
        · have hl0 : 0 < acc.length := by omega
          have HD := Lib.hid (show decide (0 < acc.length) = true from decide_eq_true (by omega))
          clear h0 hv hown
          go_wp2
          go_ret2
          exact ⟨ret_two (val_str (by rw [HU.out.1])) (val_bool (by rw [HU.out.2, HD.out])), hb⟩
end Go.Proofs.Ytgadhjfpebhnpaa
