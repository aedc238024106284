/- The walks of Same (two texts) and of the reference's Same (two lists of texts). -/
import Derived.Test.YtgadhjfpebhnpaaSmall
import Derived.Test.YtgadhjfpebhnpaaSplit
import Derived.Deep.QuietTactic
import Derived.BigQuiet
namespace Go.Proofs.Ytgadhjfpebhnpaa
open Go.RowKit
/-- Nothing but draws. -/
def Drawn (w w' : World) : Prop := ∃ n, w' = w.drewN n
theorem Drawn.refl (w : World) : Drawn w w := ⟨0, rfl⟩
theorem Drawn.more {w w' : World} (h : Drawn w w') (n : Nat) : Drawn w (w'.drewN n) := by
  obtain ⟨k, rfl⟩ := h
  exact ⟨k + n, World.drewN_drewN _ _ _⟩
theorem Drawn.below {w w' : World} (h : Drawn w w') (B : Nat) : Below B w w' := by
  obtain ⟨n, rfl⟩ := h
  induction n with
  | zero => exact Below.refl _ _
  | succ n ih => exact ih.drew
theorem Drawn.size {w w' : World} (h : Drawn w w') : w'.heap.size = w.heap.size := by
  obtain ⟨n, rfl⟩ := h
  induction n with
  | zero => rfl
  | succ n ih => exact ih
theorem quietL {P : Program} {f : FuncId} {args : Array Value} {w : World} {n : Nat} {v : Value} (h : Calls P f args (w.drewN n) fun e w' => e = .returned v ∧ w.drewN n = w') :
    Calls P f args (w.drewN n) fun e w'' => e = .returned v ∧ ∃ m, w'' = w.drewN m := h.mono fun _ _ hh => ⟨hh.1, n, hh.2.symm⟩

def BoolDrawn (b : Bool) (w : World) (e : Ending) (w' : World) : Prop := e = .returned (.bool b) ∧ Drawn w w'

set_option maxHeartbeats 1000000 in
theorem same_calls (a b : ByteArray) (w : World) (ha : a.size ≤ maxLen) :
    Calls Try.prog 12 #[.string a, .string b] w (BoolDrawn (Oct.sameB a.data.toList b.data.toList) w) := by
  unfold maxLen at ha
  by_cases hsz : a.size = b.size
  · have hz : ((a.size : Int) != (b.size : Int)) = false := by rw [hsz]; simp
    have HZ := Lib.hid hsz
    clear hsz
    go_enter Try.func12, Try.ntmps12
    go_wp2
    go_loopw [13] (fun i wr => ∃ k : Nat, k ≤ a.size ∧ i = .int .i64 k ∧ (a.data.toList.take k).map Oct.low = (b.data.toList.take k).map Oct.low ∧ Drawn w wr) (fun i _ => a.size - (intOf i).toNat)
    case atStart => exact ⟨0, Nat.zero_le _, rfl, by simp, Drawn.refl _⟩
    case round =>
      obtain ⟨k, hk, rfl, hm, hd⟩ := hrel
      have HM := Lib.hid hm
      clear hm hz
      by_cases hlt : k < a.size
      · have hlb : k < b.size := by have := HZ.out; omega
        by_cases hc : Oct.low a[k] = Oct.low b[k]
        · have hne : (((Oct.low a[k]).toNat : Int) != ((Oct.low b[k]).toNat : Int)) = false := by rw [hc]; simp
          have HC := Lib.hid hc
          clear hc
          go_wp2
          go_quiet ((go_at_call 30; exact quietL (small_calls _ _)))
          go_wp2
          go_roundw
          case rel => exact ⟨k + 1, by omega, by go_num, Oct.map_take hlt hlb HM.out HC.out, hd.more _⟩
          case measure => simp [intOf]; omega
        · have hne : (((Oct.low a[k]).toNat : Int) != ((Oct.low b[k]).toNat : Int)) = true := by
            rw [bne_iff_ne]; intro e; exact hc (Oct.eq_of_toNat (by omega))
          have HC := Lib.hid hc
          clear hc
          go_wp2
          go_quiet ((go_at_call 30; exact quietL (small_calls _ _)))
          go_wp2
          go_ret
          exact ⟨ret_bool (Oct.same_no hlt hlb HC.out).symm, hd.more _⟩
      · go_wp2
        go_ret
        exact ⟨ret_bool (Oct.same_yes (k := k) (by omega) (by have := HZ.out; omega) HM.out).symm, hd⟩
  · have hz : ((a.size : Int) != (b.size : Int)) = true := by rw [bne_iff_ne]; omega
    have HZ := Lib.hid hsz
    clear hsz
    go_enter Try.func12, Try.ntmps12
    go_wp2
    go_ret
    exact ⟨ret_bool (Oct.same_len HZ.out).symm, Drawn.refl _⟩

theorem Drawn.cell {w w' : World} (h : Drawn w w') (p : Addr) : w'.cell? p = w.cell? p := by
  obtain ⟨n, rfl⟩ := h
  induction n with
  | zero => rfl
  | succ n ih => exact ih
theorem own_any {w : World} {B n : Nat} {t : TypeId} {v : Value} {xs : List Value} (h : w.ownsRow B t 1 v n xs) :
    ∃ A c, v = .slice A n c ∧ (0 < n → ∃ g, A = some ⟨g, 0, none⟩) := by
  rcases h.2 with ⟨rfl, rfl⟩ | ⟨g, cap, _, rfl, _⟩
  · exact ⟨none, 0, rfl, fun h => absurd h (by omega)⟩
  · exact ⟨some ⟨g, 0, none⟩, cap, rfl, fun _ => ⟨g, rfl⟩⟩
theorem texts_no {ps qs : List (List UInt8)} {k : Nat} {p q : List UInt8} (h1 : ps[k]? = some p) (h2 : qs[k]? = some q) (hne : p ≠ q) : decide (ps = qs) = false :=
  decide_eq_false fun e => hne (by rw [e, h2] at h1; exact (Option.some.inj h1).symm)
theorem texts_more {ps qs : List (List UInt8)} {k : Nat} {p q : List UInt8} (h1 : ps[k]? = some p) (h2 : qs[k]? = some q) (he : p = q) (h : ps.take k = qs.take k) : ps.take (k + 1) = qs.take (k + 1) := by
  rw [List.take_add_one, List.take_add_one, h1, h2, h, he]
theorem texts_yes {ps qs : List (List UInt8)} {k : Nat} (h1 : ps.length ≤ k) (h2 : qs.length ≤ k) (h : ps.take k = qs.take k) : decide (ps = qs) = true := by
  rw [List.take_of_length_le h1, List.take_of_length_le h2] at h
  exact decide_eq_true h

set_option maxHeartbeats 1000000 in
theorem sameTexts_calls (ps qs : List (List UInt8)) (va vb : Value) (Ba Bb : Nat) (w : World) (hn : ps.length ≤ maxLen)
    (ha : w.ownsRow Ba 9 1 va ps.length (ps.map strV)) (hb : w.ownsRow Bb 9 1 vb qs.length (qs.map strV)) :
    Calls Try.prog 21 #[va, vb] w (BoolDrawn (decide (ps = qs)) w) := by
  unfold maxLen at hn
  obtain ⟨A, ca, rfl, hA⟩ := own_any ha
  obtain ⟨B, cb, rfl, hB⟩ := own_any hb
  have KA := Lib.hid hA
  have KB := Lib.hid hB
  clear hA hB
  by_cases hsz : ps.length = qs.length
  · have hz : ((ps.length : Int) != (qs.length : Int)) = false := by rw [hsz]; simp
    have HZ := Lib.hid hsz
    clear hsz
    go_enter Try.func21, Try.ntmps21
    go_wp2
    go_loopw [13] (fun i wr => ∃ k : Nat, k ≤ ps.length ∧ i = .int .i64 k ∧ ps.take k = qs.take k ∧ Drawn w wr) (fun i _ => ps.length - (intOf i).toNat)
    case atStart => exact ⟨0, Nat.zero_le _, rfl, by simp, Drawn.refl _⟩
    case round =>
      obtain ⟨k, hk, rfl, hm, hd⟩ := hrel
      have HM := Lib.hid hm
      clear hm hz
      by_cases hlt : k < ps.length
      · have hlb : k < qs.length := by have := HZ.out; omega
        obtain ⟨g, rfl⟩ := KA.out (by omega)
        obtain ⟨g', rfl⟩ := KB.out (by omega)
        obtain ⟨p, s, hp, hcell, hs, _⟩ := own_cell ha hlt
        obtain ⟨q, t, hq, hcell', ht, _⟩ := own_cell hb hlb
        rw [← hd.cell] at hcell hcell'
        have HP := Lib.hid hp
        have HQ := Lib.hid hq
        have HS := Lib.hid hs
        have HT := Lib.hid ht
        clear hp hq hs ht
        by_cases hc : p = q
        · have hne : (!(s.toList == t.toList)) = false := by rw [Oct.bytes_data, Oct.bytes_data, HS.out, HT.out, hc]; simp
          have HC := Lib.hid hc
          clear hc
          go_wp2
          go_quiet (fail)
          go_wp2
          go_roundw
          case rel => exact ⟨k + 1, by omega, by go_num, texts_more HP.out HQ.out HC.out HM.out, hd.more _⟩
          case measure => simp [intOf]; omega
        · have hne : (!(s.toList == t.toList)) = true := by rw [Oct.bytes_data, Oct.bytes_data, HS.out, HT.out]; simpa using hc
          have HC := Lib.hid hc
          clear hc
          go_wp2
          go_quiet (fail)
          go_wp2
          go_ret
          exact ⟨ret_bool (texts_no HP.out HQ.out HC.out).symm, hd.more _⟩
      · go_wp2
        go_ret
        exact ⟨ret_bool (texts_yes (k := k) (by omega) (by have := HZ.out; omega) HM.out).symm, hd⟩
  · have hz : ((ps.length : Int) != (qs.length : Int)) = true := by rw [bne_iff_ne]; omega
    have HZ := Lib.hid hsz
    clear hsz
    go_enter Try.func21, Try.ntmps21
    go_wp2
    go_ret
    exact ⟨ret_bool (decide_eq_false fun e => HZ.out (by rw [e])).symm, Drawn.refl _⟩
end Go.Proofs.Ytgadhjfpebhnpaa
