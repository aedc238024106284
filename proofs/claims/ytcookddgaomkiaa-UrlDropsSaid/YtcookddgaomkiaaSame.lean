/- The walk of Same (two texts). -/
import Derived.Test.YtcookddgaomkiaaSmall
import Derived.Test.YtcookddgaomkiaaSplit
import Derived.Test.YtcookddgaomkiaaDrawn
namespace Go.Proofs.Ytcookddgaomkiaa
open Go.RowKit
set_option maxHeartbeats 1000000 in
theorem same_calls (a b : ByteArray) (w : World) (ha : a.size ≤ maxLen) :
    Calls Try.prog 42 #[.string a, .string b] w (BoolDrawn (Oct.sameB a.data.toList b.data.toList) w) := by
  unfold maxLen at ha
  by_cases hsz : a.size = b.size
  · have hz : ((a.size : Int) != (b.size : Int)) = false := by rw [hsz]; simp
    have HZ := Lib.hid hsz
    clear hsz
    go_enter Try.func42, Try.ntmps42
    go_wp2
    go_loopw [13] (fun i wr => ∃ k : Nat, k ≤ a.size ∧ i = .int .i64 k ∧ (a.data.toList.take k).map Oct.low = (b.data.toList.take k).map Oct.low ∧ Drawn w wr) (fun i _ => a.size - (intOf i).toNat)
    case atStart => exact ⟨0, Nat.zero_le _, rfl, by simp, Drawn.refl _⟩
    case round =>
      obtain ⟨k, hk, rfl, hm, hd⟩ := hrel
      have HM := Lib.hid hm
      clear hm hz
      by_cases hlt : k < a.size
      · have hlb : k < b.size := by have := HZ.out; omega
        by_cases hc : Oct.low a[k] = Oct.low b[k]
        · have hne : (((Oct.low a[k]).toNat : Int) != ((Oct.low b[k]).toNat : Int)) = false := by rw [hc]; simp
          have HC := Lib.hid hc
          clear hc
          go_wp2
          go_quiet ((go_at_call 57; exact quietL (small_calls _ _)))
          go_wp2
          go_roundw
          case rel => exact ⟨k + 1, by omega, by go_num, Oct.map_take hlt hlb HM.out HC.out, hd.more _⟩
          case measure => simp [intOf]; omega
        · have hne : (((Oct.low a[k]).toNat : Int) != ((Oct.low b[k]).toNat : Int)) = true := by
            rw [bne_iff_ne]; intro e; exact hc (Oct.eq_of_toNat (by omega))
          have HC := Lib.hid hc
          clear hc
          go_wp2
          go_quiet ((go_at_call 57; exact quietL (small_calls _ _)))
          go_wp2
          go_ret
          exact ⟨ret_bool (Oct.same_no hlt hlb HC.out).symm, hd.more _⟩
      · go_wp2
        go_ret
        exact ⟨ret_bool (Oct.same_yes (k := k) (by omega) (by have := HZ.out; omega) HM.out).symm, hd⟩
  · have hz : ((a.size : Int) != (b.size : Int)) = true := by rw [bne_iff_ne]; omega
    have HZ := Lib.hid hsz
    clear hsz
    go_enter Try.func42, Try.ntmps42
    go_wp2
    go_ret
    exact ⟨ret_bool (Oct.same_len HZ.out).symm, Drawn.refl _⟩

end Go.Proofs.Ytcookddgaomkiaa
