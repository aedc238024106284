/- The walks of Lower, of octet and of the reference. -/
import Derived.Test.YtcookddgaomkiaaSmall
import Derived.Test.YtcookddgaomkiaaBytes
namespace Go.Proofs.Ytcookddgaomkiaa
open Go.RowKit
namespace Oct
/-- The first k of a text's bytes made small. -/
def halfLow (l : List UInt8) (k : Nat) : List UInt8 := (l.take k).map low ++ l.drop k
theorem halfLow_zero (l : List UInt8) : halfLow l 0 = l := by simp [halfLow]
theorem halfLow_length (l : List UInt8) (k : Nat) : (halfLow l k).length = l.length := by simp [halfLow]; omega
theorem halfLow_end {l : List UInt8} {k : Nat} (h : l.length ≤ k) : halfLow l k = l.map low := by
  unfold halfLow; rw [List.take_of_length_le h, List.drop_eq_nil_of_le h, List.append_nil]
theorem halfLow_at {l : List UInt8} {k : Nat} (h : k < l.length) : (halfLow l k)[k]? = some l[k] := by
  unfold halfLow
  rw [List.getElem?_append_right (by simp; omega)]
  simp only [List.length_map, List.length_take]
  rw [List.getElem?_drop, List.getElem?_eq_getElem (by omega)]
  congr 1
  have : k + (k - min k l.length) = k := by omega
  simp only [this]
theorem halfLow_set {l : List UInt8} {k : Nat} (h : k < l.length) : (halfLow l k).set k (low l[k]) = halfLow l (k + 1) := by
  unfold halfLow
  rw [List.set_append_right _ _ (by simp; omega), List.take_succ_eq_append_getElem h, List.map_append, List.append_assoc, List.drop_eq_getElem_cons h]
  have : k - ((l.take k).map low).length = 0 := by simp; omega
  rw [this]; rfl
end Oct
set_option maxRecDepth 100000 in
set_option maxHeartbeats 1000000 in
theorem lower_calls (s : ByteArray) (w : World) (hs : s.size ≤ 1099511627776) :
    Calls Try.prog 33 #[.string s] w (NewText w.heap.size (s.data.toList.map Oct.low) w) := by
  have hcv := fun W => run_bytes_of_string (P := Try.prog) W 9 60 5 s Try.underlying9 Try.underlying60 Try.underlying5
  go_enter Try.func33, Try.ntmps33
  go_wp2
  go_loopw [9] (fun i wr => ∃ k : Nat, k ≤ s.size ∧ i = .int .i64 k ∧ Bytes wr w.heap.size (Oct.halfLow s.data.toList k) ∧ Below w.heap.size w wr) (fun i _ => s.size - (intOf i).toNat)
  case atStart => exact ⟨0, Nat.zero_le _, rfl, by rw [Oct.halfLow_zero]; exact Bytes.new w s _ _, ((Below.refl _ w).alloc (Nat.le_refl _) _).drew⟩
  case round =>
    obtain ⟨k, hk, rfl, hB, hb⟩ := hrel
    clear hcv
    by_cases hlt : k < s.size
    · have hlt' : k < s.data.toList.length := by rw [Oct.length_bytes]; exact hlt
      have hcell := hB.cell k _ (Oct.halfLow_at hlt')
      have hfr := hB.free k (by rw [Oct.halfLow_length]; exact hlt')
      have hset := hB.set k (Oct.low s[k])
      have e1 : (Oct.halfLow s.data.toList k).set k (Oct.low s[k]) = Oct.halfLow s.data.toList (k + 1) := Oct.halfLow_set hlt'
      rw [e1] at hset
      have HS := Lib.hid hset
      unfold byteV at hcell
      rw [Oct.getElem_bytes s k hlt] at hcell
      clear hset hB
      go_wp2_with (go_at_call 57; refine (small_calls _ _).mono ?_; rintro e w' ⟨rfl, rfl⟩)
      go_roundw
      case rel => exact ⟨k + 1, by omega, by go_num, HS.out, hb.setCell (p := ⟨w.heap.size, k, none⟩) (Nat.le_refl _) _⟩
      case measure => simp [intOf]; omega
    · have hz := Oct.halfLow_end (l := s.data.toList) (k := k) (by rw [Oct.length_bytes]; omega)
      rw [hz] at hB
      have hl : (s.data.toList.map Oct.low).length = s.size := by rw [List.length_map, Oct.length_bytes]
      have hconv := hB.string (cap := grownCap w s.size 0 5)
      rw [hl] at hconv
      clear hz hl hB
      go_wp2
      go_ret
      exact ⟨rfl, hb⟩

set_option maxRecDepth 100000 in
set_option maxHeartbeats 1000000 in
theorem refLower_calls (s : ByteArray) (w : World) (hs : s.size ≤ 1099511627776) :
    Calls Try.prog 18 #[.string s] w (NewText w.heap.size (s.data.toList.map Oct.low) w) := by
  go_enter Try.func18, Try.ntmps18
  go_wp2
  go_loopw [3, 4] (fun v i wr => ∃ (k : Nat) (o : ByteArray), k ≤ s.size ∧ i = .int .i64 k ∧ v = .string o ∧ o.data.toList = (s.data.toList.take k).map Oct.low ∧ o.size = k ∧ Below w.heap.size w wr) (fun _ i _ => s.size - (intOf i).toNat)
  case atStart => exact ⟨0, ⟨#[]⟩, Nat.zero_le _, rfl, rfl, by simp, rfl, Below.refl _ _⟩
  case round =>
    obtain ⟨k, o, hk, rfl, rfl, ho, hz, hb⟩ := hrel
    have HO := Lib.hid ho
    have hz1 : o.size ≤ k := by omega
    have HZ := Lib.hid hz
    clear ho hz
    by_cases hlt : k < s.size
    · have hc : s[k].toNat < 256 := s[k].toNat_lt
      have h1 := one_string wr (Oct.low s[k])
      have hL := Oct.low_toNat s[k]
      have hsz : ∀ c : UInt8, (⟨#[c]⟩ : ByteArray).size = 1 := fun _ => rfl
      have HN := Lib.hid (show (o ++ ⟨#[Oct.low s[k]]⟩ : ByteArray).data.toList = (s.data.toList.take (k + 1)).map Oct.low from by
        rw [List.take_succ_eq_append_getElem (by rw [Array.length_toList]; exact hlt), List.map_append, ← HO.out]
        rw [ByteArray.data_append, Array.toList_append]; rfl)
      have HM := Lib.hid (show (o ++ ⟨#[Oct.low s[k]]⟩ : ByteArray).size = k + 1 from by rw [ByteArray.size_append, HZ.out]; rfl)
      by_cases hg : (65 : Int) ≤ (s[k].toNat : Int) ∧ (s[k].toNat : Int) ≤ 90
      · have e : ((Oct.low s[k]).toNat : Int) = (s[k].toNat : Int) + 32 := by rw [hL]; rw [if_pos (by omega)]; omega
        rw [e] at h1
        obtain ⟨hg1, hg2⟩ := hg
        clear hL e
        go_wp2
        go_roundw
        case rel => exact ⟨k + 1, _, by omega, by go_num, rfl, HN.out, HM.out, hb.alloc hb.size _⟩
        case measure => simp [intOf]; omega
      · have e : ((Oct.low s[k]).toNat : Int) = (s[k].toNat : Int) := by rw [hL]; rw [if_neg (by omega)]
        rw [e] at h1
        clear hL e
        by_cases hg1 : (65 : Int) ≤ (s[k].toNat : Int)
        · have hg2 : ¬ (s[k].toNat : Int) ≤ 90 := fun h => hg ⟨hg1, h⟩
          clear hg
          go_wp2
          go_roundw
          case rel => exact ⟨k + 1, _, by omega, by go_num, rfl, HN.out, HM.out, hb.alloc hb.size _⟩
          case measure => simp [intOf]; omega
        · clear hg
          go_wp2
          go_roundw
          case rel => exact ⟨k + 1, _, by omega, by go_num, rfl, HN.out, HM.out, hb.alloc hb.size _⟩
          case measure => simp [intOf]; omega
    · have HE := Lib.hid (show o = ⟨(s.data.toList.map Oct.low).toArray⟩ from by
        have := HO.out
        rw [Oct.take_all s k (by omega)] at this
        rw [← this, Lib.mk_data])
      go_wp2
      go_ret
      exact ⟨ret_str HE.out, hb⟩
end Go.Proofs.Ytcookddgaomkiaa
