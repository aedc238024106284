/- The walks of Lower, of octet and of the reference. -/
import Derived.Test.YtgadhjfpebhnpaaWord
namespace Go.Proofs.Ytgadhjfpebhnpaa
open Go.RowKit
namespace Oct
/-- The first k of a text's bytes made small. -/
def halfLow (l : List UInt8) (k : Nat) : List UInt8 := (l.take k).map low ++ l.drop k
theorem halfLow_zero (l : List UInt8) : halfLow l 0 = l := by simp [halfLow]
theorem halfLow_length (l : List UInt8) (k : Nat) : (halfLow l k).length = l.length := by simp [halfLow]; omega
theorem halfLow_end {l : List UInt8} {k : Nat} (h : l.length ≤ k) : halfLow l k = l.map low := by
  unfold halfLow; rw [List.take_of_length_le h, List.drop_eq_nil_of_le h, List.append_nil]
theorem halfLow_at {l : List UInt8} {k : Nat} (h : k < l.length) : (halfLow l k)[k]? = some l[k] := by
  unfold halfLow
  rw [List.getElem?_append_right (by simp; omega)]
  simp only [List.length_map, List.length_take]
  rw [List.getElem?_drop, List.getElem?_eq_getElem (by omega)]
  congr 1
  have : k + (k - min k l.length) = k := by omega
  simp only [this]
theorem halfLow_set {l : List UInt8} {k : Nat} (h : k < l.length) : (halfLow l k).set k (low l[k]) = halfLow l (k + 1) := by
  unfold halfLow
  rw [List.set_append_right _ _ (by simp; omega), List.take_succ_eq_append_getElem h, List.map_append, List.append_assoc, List.drop_eq_getElem_cons h]
  have : k - ((l.take k).map low).length = 0 := by simp; omega
  rw [this]; rfl
end Oct
/-- The bytes l lie at the head of block g, and may be written. -/
structure Bytes (w : World) (g : Nat) (l : List UInt8) : Prop where
  cell : ∀ j c, l[j]? = some c → w.cell? ⟨g, j, none⟩ = some (byteV c)
  free : ∀ j, j < l.length → w.frozen? ⟨g, j, none⟩ = false
theorem Bytes.set {w : World} {g : Nat} {l : List UInt8} (h : Bytes w g l) (k : Nat) (c : UInt8) : Bytes (w.setCell ⟨g, k, none⟩ (byteV c)) g (l.set k c) := by
  refine ⟨fun j d hj => ?_, fun j hj => ?_⟩
  · by_cases e : j = k
    · subst e
      have hlt : j < l.length := by have := (List.getElem?_eq_some_iff.1 hj).1; simpa using this
      rw [List.getElem?_set_self hlt] at hj
      rw [← Option.some.inj hj]
      exact World.cell?_setCell_same w _ _ (h.cell j _ (List.getElem?_eq_getElem hlt))
    · rw [List.getElem?_set_ne (by omega)] at hj
      rw [World.cell?_setCell_other w _ _ _ (by intro e'; injection e' with _ e'; exact e e'.symm)]
      exact h.cell j d hj
  · rw [World.frozen?_setCell]; exact h.free j (by simpa using hj)
theorem Bytes.string {w : World} {g cap : Nat} {l : List UInt8} (h : Bytes w g l) :
    (convert 37 9 (.slice (some ⟨g, 0, none⟩) l.length cap)).run Try.prog w = .ok (.string ⟨l.toArray⟩) w := by
  refine run_convert_bytes_back w 37 9 5 ⟨g, 0, none⟩ cap l Try.underlying37 Try.underlying5 Try.underlying9 (fun j hj => ?_)
  have hadd : (⟨g, 0, none⟩ : Addr).add j = ⟨g, j, none⟩ := by unfold Addr.add; split <;> simp_all
  rw [hadd]
  exact h.cell j _ (List.getElem?_eq_getElem hj)
theorem Bytes.new (w : World) (s : ByteArray) (cap : Nat) (t : TypeId) : Bytes (w.drew.alloc (.cells (bytesRow s cap) t ((bytesRow s cap).size, (bytesRow s cap).size + 1))) w.heap.size s.data.toList := by
  refine ⟨fun j c hj => ?_, fun j hj => ?_⟩
  · obtain ⟨hlt, e⟩ := List.getElem?_eq_some_iff.1 hj
    have := World.cell?_alloc_mark w.drew (bytesRow s cap) t ((bytesRow s cap).size, (bytesRow s cap).size + 1) j
    refine Eq.trans this ?_
    rw [bytesRow_at s cap j (by simpa using hlt)]
    rw [← e]; rfl
  · have := World.frozen?_alloc_mark w.drew (bytesRow s cap) t (bytesRow s cap).size ((bytesRow s cap).size + 1) j
    refine Eq.trans this ?_
    have h1 : j < (bytesRow s cap).size := by simp [bytesRow] at hj ⊢; omega
    simp; omega

set_option maxRecDepth 100000 in
set_option maxHeartbeats 1000000 in
theorem lower_calls (s : ByteArray) (w : World) (hs : s.size ≤ 1099511627776) :
    Calls Try.prog 10 #[.string s] w (NewText w.heap.size (s.data.toList.map Oct.low) w) := by
  have hcv := fun W => run_bytes_of_string (P := Try.prog) W 9 37 5 s Try.underlying9 Try.underlying37 Try.underlying5
  go_enter Try.func10, Try.ntmps10
  go_wp2
  go_loopw [9] (fun i wr => ∃ k : Nat, k ≤ s.size ∧ i = .int .i64 k ∧ Bytes wr w.heap.size (Oct.halfLow s.data.toList k) ∧ Below w.heap.size w wr) (fun i _ => s.size - (intOf i).toNat)
  case atStart => exact ⟨0, Nat.zero_le _, rfl, by rw [Oct.halfLow_zero]; exact Bytes.new w s _ _, ((Below.refl _ w).alloc (Nat.le_refl _) _).drew⟩
  case round =>
    obtain ⟨k, hk, rfl, hB, hb⟩ := hrel
    clear hcv
    by_cases hlt : k < s.size
    · have hlt' : k < s.data.toList.length := by rw [Oct.length_bytes]; exact hlt
      have hcell := hB.cell k _ (Oct.halfLow_at hlt')
      have hfr := hB.free k (by rw [Oct.halfLow_length]; exact hlt')
      have hset := hB.set k (Oct.low s[k])
      have e1 : (Oct.halfLow s.data.toList k).set k (Oct.low s[k]) = Oct.halfLow s.data.toList (k + 1) := Oct.halfLow_set hlt'
      rw [e1] at hset
      have HS := Lib.hid hset
      unfold byteV at hcell
      rw [Oct.getElem_bytes s k hlt] at hcell
      clear hset hB
      go_wp2_with (go_at_call 30; refine (small_calls _ _).mono ?_; rintro e w' ⟨rfl, rfl⟩)
      go_roundw
      case rel => exact ⟨k + 1, by omega, by go_num, HS.out, hb.setCell (p := ⟨w.heap.size, k, none⟩) (Nat.le_refl _) _⟩
      case measure => simp [intOf]; omega
    · have hz := Oct.halfLow_end (l := s.data.toList) (k := k) (by rw [Oct.length_bytes]; omega)
      rw [hz] at hB
      have hl : (s.data.toList.map Oct.low).length = s.size := by rw [List.length_map, Oct.length_bytes]
      have hconv := hB.string (cap := grownCap w s.size 0 5)
      rw [hl] at hconv
      clear hz hl hB
      go_wp2
      go_ret
      exact ⟨rfl, hb⟩

theorem one_string (W : World) (c : UInt8) : (convert 37 9 (.slice (some ⟨W.heap.size, 0, none⟩) 1 1)).run Try.prog (W.alloc (.cells #[.int .u8 (c.toNat : Int)] 5)) = .ok (.string ⟨#[c]⟩) (W.alloc (.cells #[.int .u8 (c.toNat : Int)] 5)) := by
  refine run_convert_bytes_back (W.alloc (.cells #[.int .u8 (c.toNat : Int)] 5)) 37 9 5 ⟨W.heap.size, 0, none⟩ 1 [c] Try.underlying37 Try.underlying5 Try.underlying9 (fun j hj => ?_)
  have : j = 0 := by simp at hj; exact hj
  subst this
  exact cell_one_new W (.int .u8 (c.toNat : Int)) 5 0 _ rfl

set_option maxRecDepth 100000 in
set_option maxHeartbeats 1000000 in
theorem refLower_calls (s : ByteArray) (w : World) (hs : s.size ≤ 1099511627776) :
    Calls Try.prog 11 #[.string s] w (NewText w.heap.size (s.data.toList.map Oct.low) w) := by
  go_enter Try.func11, Try.ntmps11
  go_wp2
  go_loopw [3, 4] (fun v i wr => ∃ (k : Nat) (o : ByteArray), k ≤ s.size ∧ i = .int .i64 k ∧ v = .string o ∧ o.data.toList = (s.data.toList.take k).map Oct.low ∧ o.size = k ∧ Below w.heap.size w wr) (fun _ i _ => s.size - (intOf i).toNat)
  case atStart => exact ⟨0, ⟨#[]⟩, Nat.zero_le _, rfl, rfl, by simp, rfl, Below.refl _ _⟩
  case round =>
    obtain ⟨k, o, hk, rfl, rfl, ho, hz, hb⟩ := hrel
    have HO := Lib.hid ho
    have hz1 : o.size ≤ k := by omega
    have HZ := Lib.hid hz
    clear ho hz
    by_cases hlt : k < s.size
    · have hc : s[k].toNat < 256 := s[k].toNat_lt
      have h1 := one_string wr (Oct.low s[k])
      have hL := Oct.low_toNat s[k]
      have hsz : ∀ c : UInt8, (⟨#[c]⟩ : ByteArray).size = 1 := fun _ => rfl
      have HN := Lib.hid (show (o ++ ⟨#[Oct.low s[k]]⟩ : ByteArray).data.toList = (s.data.toList.take (k + 1)).map Oct.low from by
        rw [List.take_succ_eq_append_getElem (by rw [Array.length_toList]; exact hlt), List.map_append, ← HO.out]
        rw [ByteArray.data_append, Array.toList_append]; rfl)
      have HM := Lib.hid (show (o ++ ⟨#[Oct.low s[k]]⟩ : ByteArray).size = k + 1 from by rw [ByteArray.size_append, HZ.out]; rfl)
      by_cases hg : (65 : Int) ≤ (s[k].toNat : Int) ∧ (s[k].toNat : Int) ≤ 90
      · have e : ((Oct.low s[k]).toNat : Int) = (s[k].toNat : Int) + 32 := by rw [hL]; rw [if_pos (by omega)]; omega
        rw [e] at h1
        obtain ⟨hg1, hg2⟩ := hg
        clear hL e
        go_wp2
        go_roundw
        case rel => exact ⟨k + 1, _, by omega, by go_num, rfl, HN.out, HM.out, hb.alloc hb.size _⟩
        case measure => simp [intOf]; omega
      · have e : ((Oct.low s[k]).toNat : Int) = (s[k].toNat : Int) := by rw [hL]; rw [if_neg (by omega)]
        rw [e] at h1
        clear hL e
        by_cases hg1 : (65 : Int) ≤ (s[k].toNat : Int)
        · have hg2 : ¬ (s[k].toNat : Int) ≤ 90 := fun h => hg ⟨hg1, h⟩
          clear hg
          go_wp2
          go_roundw
          case rel => exact ⟨k + 1, _, by omega, by go_num, rfl, HN.out, HM.out, hb.alloc hb.size _⟩
          case measure => simp [intOf]; omega
        · clear hg
          go_wp2
          go_roundw
          case rel => exact ⟨k + 1, _, by omega, by go_num, rfl, HN.out, HM.out, hb.alloc hb.size _⟩
          case measure => simp [intOf]; omega
    · have HE := Lib.hid (show o = ⟨(s.data.toList.map Oct.low).toArray⟩ from by
        have := HO.out
        rw [Oct.take_all s k (by omega)] at this
        rw [← this, Lib.mk_data])
      go_wp2
      go_ret
      exact ⟨ret_str HE.out, hb⟩
end Go.Proofs.Ytgadhjfpebhnpaa
