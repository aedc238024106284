/- The walk of FormatUint at base 16. -/
import Derived.Test.YtcookddgaomkiaaGreatDoorCells
import Derived.Test.YtcookddgaomkiaaGreatDoorStd
import Derived.Test.YtcookddgaomkiaaGreatDoorPlains
import Derived.Deep.MidRow
namespace Go.Proofs.YtcookddgaomkiaaGreatDoor
open Go.RowKit
theorem tz_key : bits BinOp.and IntKind.u64 16 (IntKind.u64.wrap (-16)) = 16 := by decide
theorem tz_calls (w : World) (h : Std w) : Calls Tryz.prog 105 #[.int .u64 16] w fun e w' => e = .returned (.int .i64 4) ∧ w = w' := by
  have hc := h.bits
  have k1 := tz_key
  go_enter Tryz.func105, Tryz.ntmps105
  go_wp2
  go_ret
  exact ⟨rfl, rfl⟩
theorem two_calls (w : World) : Calls Tryz.prog 104 #[.int .i64 16] w fun e w' => e = .returned (.bool true) ∧ w = w' := by
  have k1 : bits BinOp.and IntKind.i64 16 15 = 0 := by decide
  go_enter Tryz.func104, Tryz.ntmps104
  go_wp2
  go_ret
  exact ⟨rfl, rfl⟩
def zB : List UInt8 := List.replicate 65 0
theorem bytesA_zB : Tryz.zeroCells119 = bytesA zB := by kernel_rfl

theorem lenBits : Tryz.prog.arrayLen 119 = 65 := by kernel_rfl
theorem elemBits : Tryz.prog.elem 119 = 5 := by kernel_rfl
theorem slice_bits (g m : Nat) (h1 : 1 ≤ m) (hm : m ≤ 65) (W : World) :
    (Instr.sliceAt 119 (.pointer (some ⟨g, 0, none⟩)) (some (.int .i64 ((m : Int) - 1))) none none).run Tryz.prog W = .ok (.slice (some ⟨g, m - 1, none⟩) (66 - m) (66 - m)) W := by
  have ht : Tryz.prog.underlying 119 = some (.array (Tryz.prog.arrayLen 119) (Tryz.prog.elem 119)) := by rw [lenBits, elemBits]; exact Tryz.underlying119
  rw [run_sliceAt_array_l W 119 ⟨g, 0, none⟩ ht .i64 ((m : Int) - 1) (by omega) (by rw [lenBits]; omega), elemBits]
  have hs : (sizeOf 5).run Tryz.prog W = .ok 1 W := by kernel_rfl
  rw [hs, Result.andThen_ok, lenBits, slicedAt, if_neg (by omega), Addr.add_mid]
  have e : 0 + ((m : Int) - 1).toNat * 1 = m - 1 := by omega
  have e2 : 65 - ((m : Int) - 1).toNat = 66 - m := by omega
  rw [e, e2]
theorem text_of_row {w : World} {g o : Nat} {t : TypeId} {ys l : List UInt8} (h : Row w g t (bytesA (ys ++ l))) (ho : ys.length = o) (n : Nat) (hn : l.length = n) (cap : Nat) :
    (convert 53 9 (.slice (some ⟨g, o, none⟩) n cap)).run Tryz.prog w = .ok (.string ⟨l.toArray⟩) w := by
  subst hn
  refine run_convert_bytes_back w 53 9 5 ⟨g, o, none⟩ cap l Tryz.underlying53 Tryz.underlying5 Tryz.underlying9 (fun j hj => ?_)
  rw [Addr.add_mid, h.cell, bytesA_at, List.getElem?_append_right (by omega), List.getElem?_eq_getElem (by omega)]
  have e : o + j - ys.length = j := by omega
  simp only [e]; rfl

set_option maxRecDepth 100000 in
set_option maxHeartbeats 2000000 in
theorem bits_calls (n : Nat) (hn : n < 65536) (w : World) (h : Std w) :
    Calls Tryz.prog 84 #[.slice none 0 0, .int .u64 (n : Int), .int .i64 16, .bool false, .bool false] w fun e w' => e = .returned (.tuple #[.slice none 0 0, .string ⟨(Adr.hexT n).toArray⟩]) ∧ Below w.heap.size w w' := by
  have z1 := bytesA_zB
  go_enter Tryz.func84, Tryz.ntmps84
  go_wp2_with fail
  have R0 := Row.new w 119 (bytesA zB)
  have B0 := (Below.refl w.heap.size w).alloc (Nat.le_refl _) (.cells (bytesA zB) 119)
  have H0 := h.below B0
  generalize w.alloc (.cells (bytesA zB) 119) = w0 at *
  refine (two_calls _).mono ?_
  rintro e w1 ⟨rfl, rfl⟩
  go_wp2_with fail
  refine (tz_calls _ H0).mono ?_
  rintro e w1 ⟨rfl, rfl⟩
  go_wp2
  go_loopw [1, 13] (fun u i wr => ∃ k m : Nat, k ≤ 3 ∧ m ≤ 65 ∧ 62 ≤ m ∧ Hid (m = 65 - k) ∧ i = .int .i64 (m : Int) ∧ u = .int .u64 ((n / 16 ^ k : Nat) : Int) ∧ Hid (0 < k → 16 ≤ n / 16 ^ (k - 1)) ∧ Row wr w.heap.size 119 (bytesA (List.replicate m 0 ++ Adr.lowD n k)) ∧ Below w.heap.size w wr) (fun _ i _ => (intOf i).toNat)
  case atStart => exact ⟨0, 65, by omega, by omega, by omega, rfl, rfl, by simp, fun h => absurd h (by omega), by simpa [Adr.lowD, zB] using R0, B0⟩
  case round =>
    clear R0 B0
    obtain ⟨k, m, hk, hm, hm2, HM, rfl, rfl, HL, R, hb⟩ := hrel
    have hx : n / 16 ^ k < 65536 := Nat.lt_of_le_of_lt (Nat.div_le_self _ _) hn
    have e1 : ((m : Int) - 1).toNat = m - 1 := by omega
    have hsz : (List.replicate m 0 ++ Adr.lowD n k).length = 65 := by have := HM.out; rw [List.length_append, Adr.lowD_length, List.length_replicate]; omega
    obtain ⟨u1, c1⟩ : ∃ u, wr.cell? ⟨w.heap.size, m - 1, none⟩ = some u := ⟨_, by rw [R.cell]; exact Array.getElem?_eq_getElem (by rw [bytesA_size, hsz]; omega)⟩
    have f1 := R.free (m - 1)
    have hset : ∀ d : UInt8, Row (wr.setCell ⟨w.heap.size, m - 1, none⟩ (.int .u8 (d.toNat : Int))) w.heap.size 119 (bytesA (List.replicate (m - 1) 0 ++ d :: Adr.lowD n k)) := fun d => by
      have R1 := R.set (m - 1) (byteV d)
      rw [bytesA_set] at R1
      have e : m = (m - 1) + 1 := by omega
      have := Adr.set_front (m - 1) d (Adr.lowD n k)
      rw [← e] at this
      rw [this] at R1
      exact R1
    have HSET := Lib.hid hset
    clear hset hsz
    by_cases hu : 16 ≤ n / 16 ^ k
    · have hand := Adr.and15 (n / 16 ^ k) hx
      have hy : n / 16 ^ k % 16 < 16 := Nat.mod_lt _ (by omega)
      have hg := Adr.digit36 _ hy
      have HD := Lib.hid (show n / 16 ^ (k + 1) = n / 16 ^ k / 16 by rw [Nat.pow_succ, Nat.div_div_eq_div_mul])
      have HK : Hid (k + 1 ≤ 3) := by
        show k + 1 ≤ 3
        rcases Nat.lt_or_ge k 3 with h | h
        · exact h
        · have : k = 3 := by omega
          subst this
          omega
      have HW := Lib.hid (show Adr.lowD n (k + 1) = Adr.dig (n / 16 ^ k % 16) :: Adr.lowD n k from rfl)
      generalize hx0 : n / 16 ^ k = x at *
      have HX := Lib.hid hx0
      clear hx0
      have R1 := HSET.out (Adr.dig (x % 16))
      have B1 := hb.setCell (p := ⟨w.heap.size, m - 1, none⟩) (Nat.le_refl _) (.int .u8 ((Adr.dig (x % 16)).toNat : Int))
      have HM2 := Lib.hid (show m - 1 ≤ 65 ∧ 62 ≤ m - 1 ∧ m - 1 = 65 - (k + 1) by have := HM.out; have := HK.out; omega)
      have HU := Lib.hid hu
      clear R hb
      go_wp2
      go_roundw
      case rel => exact ⟨k + 1, m - 1, HK.out, HM2.out.1, HM2.out.2.1, HM2.out.2.2, val_int (by omega), val_int (by rw [HD.out]; omega), fun _ => by rw [Nat.add_sub_cancel, HX.out]; exact HU.out, by rw [HW.out]; exact R1, B1⟩
      case measure => simp [intOf]; omega
    · have hy : n / 16 ^ k < 16 := by omega
      have hg := Adr.digit36 _ hy
      have HS := Lib.hid (Adr.hexT_eq hn hk hy HL.out)
      have R1 := HSET.out (Adr.dig (n / 16 ^ k))
      have B1 := hb.setCell (p := ⟨w.heap.size, m - 1, none⟩) (Nat.le_refl _) (.int .u8 ((Adr.dig (n / 16 ^ k)).toNat : Int))
      have hsl := slice_bits w.heap.size m (by omega) hm
      have hcv := text_of_row R1 (o := m - 1) (by simp) (66 - m) (by rw [List.length_cons, Adr.lowD_length]; have := HM.out; omega) (66 - m)
      rw [← HS.out] at hcv
      generalize n / 16 ^ k = x at *
      clear R hb HSET R1
      go_wp2
      go_ret2
      exact ⟨rfl, B1⟩
theorem format_inner (n : Nat) (hn : n < 65536) (w : World) (h : Std w) :
    Calls Tryz.prog 100 #[.int .u64 (n : Int), .int .i64 16] w fun e w' => e = .returned (.string ⟨(Adr.hexT n).toArray⟩) ∧ Below w.heap.size w w' := by
  have H := Lib.hid (bits_calls n hn w h)
  go_enter Tryz.func100, Tryz.ntmps100
  go_wp2_with (go_at_call 84; refine H.out.mono ?_; rintro e w1 ⟨rfl, hb⟩)
  go_ret
  exact ⟨rfl, hb⟩
theorem format_calls (n : Nat) (hn : n < 65536) (w : World) (h : Std w) :
    Calls Tryz.prog 80 #[.int .u64 (n : Int), .int .i64 16] w fun e w' => e = .returned (.string ⟨(Adr.hexT n).toArray⟩) ∧ Below w.heap.size w w' := by
  have H := Lib.hid (format_inner n hn w h)
  go_enter Tryz.func80, Tryz.ntmps80
  go_wp2_with (go_at_call 100; refine H.out.mono ?_; rintro e w1 ⟨rfl, hb⟩)
  go_ret
  exact ⟨rfl, hb⟩
end Go.Proofs.YtcookddgaomkiaaGreatDoor
