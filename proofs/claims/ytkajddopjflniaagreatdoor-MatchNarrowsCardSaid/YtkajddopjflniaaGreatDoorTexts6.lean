/- The walk of FormatUint at base 16. -/
import Derived.Test.YtkajddopjflniaaGreatDoorCells
import Derived.Test.YtkajddopjflniaaGreatDoorStd
import Derived.Test.YtkajddopjflniaaGreatDoorPlains
import Derived.Deep.MidRow
import Derived.Test.YtkajddopjflniaaGreatDoorOctets
import Derived.Test.YtkajddopjflniaaGreatDoorHosts
import Derived.Deep.RegionHeld3
import Derived.Laws.Concat
namespace Go.Proofs.YtkajddopjflniaaGreatDoor
open Go.RowKit
theorem tz_key : bits BinOp.and IntKind.u64 16 (IntKind.u64.wrap (-16)) = 16 := by decide
theorem tz_calls (w : World) (h : Std w) : Calls Tryz.prog 111 #[.int .u64 16] w fun e w' => e = .returned (.int .i64 4) ∧ w = w' := by
  have hc := h.bits
  have k1 := tz_key
  go_enter Tryz.func111, Tryz.ntmps111
  go_wp2
  go_ret
  exact ⟨rfl, rfl⟩
theorem two_calls (w : World) : Calls Tryz.prog 110 #[.int .i64 16] w fun e w' => e = .returned (.bool true) ∧ w = w' := by
  have k1 : bits BinOp.and IntKind.i64 16 15 = 0 := by decide
  go_enter Tryz.func110, Tryz.ntmps110
  go_wp2
  go_ret
  exact ⟨rfl, rfl⟩
def zB : List UInt8 := List.replicate 65 0
theorem bytesA_zB : Tryz.zeroCells119 = bytesA zB := by kernel_rfl

theorem lenBits : Tryz.prog.arrayLen 119 = 65 := by kernel_rfl
theorem elemBits : Tryz.prog.elem 119 = 5 := by kernel_rfl
theorem slice_bits (g m : Nat) (h1 : 1 ≤ m) (hm : m ≤ 65) (W : World) :
    (Instr.sliceAt 119 (.pointer (some ⟨g, 0, none⟩)) (some (.int .i64 ((m : Int) - 1))) none none).run Tryz.prog W = .ok (.slice (some ⟨g, m - 1, none⟩) (66 - m) (66 - m)) W := by
  have ht : Tryz.prog.underlying 119 = some (.array (Tryz.prog.arrayLen 119) (Tryz.prog.elem 119)) := by rw [lenBits, elemBits]; exact Tryz.underlying119
  rw [run_sliceAt_array_l W 119 ⟨g, 0, none⟩ ht .i64 ((m : Int) - 1) (by omega) (by rw [lenBits]; omega), elemBits]
  have hs : (sizeOf 5).run Tryz.prog W = .ok 1 W := by kernel_rfl
  rw [hs, Result.andThen_ok, lenBits, slicedAt, if_neg (by omega), Addr.add_mid]
  have e : 0 + ((m : Int) - 1).toNat * 1 = m - 1 := by omega
  have e2 : 65 - ((m : Int) - 1).toNat = 66 - m := by omega
  rw [e, e2]
theorem text_of_row {w : World} {g o : Nat} {t : TypeId} {ys l : List UInt8} (h : Row w g t (bytesA (ys ++ l))) (ho : ys.length = o) (n : Nat) (hn : l.length = n) (cap : Nat) :
    (convert 59 9 (.slice (some ⟨g, o, none⟩) n cap)).run Tryz.prog w = .ok (.string ⟨l.toArray⟩) w := by
  subst hn
  refine run_convert_bytes_back w 59 9 5 ⟨g, o, none⟩ cap l Tryz.underlying59 Tryz.underlying5 Tryz.underlying9 (fun j hj => ?_)
  rw [Addr.add_mid, h.cell, bytesA_at, List.getElem?_append_right (by omega), List.getElem?_eq_getElem (by omega)]
  have e : o + j - ys.length = j := by omega
  simp only [e]; rfl

set_option maxRecDepth 100000 in
set_option maxHeartbeats 2000000 in
theorem bits_calls (n : Nat) (hn : n < 65536) (w : World) (h : Std w) :
    Calls Tryz.prog 102 #[.slice none 0 0, .int .u64 (n : Int), .int .i64 16, .bool false, .bool false] w fun e w' => e = .returned (.tuple #[.slice none 0 0, .string ⟨(Adr.hexT n).toArray⟩]) ∧ Below w.heap.size w w' := by
  have z1 := bytesA_zB
  go_enter Tryz.func102, Tryz.ntmps102
  go_wp2_with fail
  have R0 := Row.new w 119 (bytesA zB)
  have B0 := (Below.refl w.heap.size w).alloc (Nat.le_refl _) (.cells (bytesA zB) 119)
  have H0 := h.below B0
  generalize w.alloc (.cells (bytesA zB) 119) = w0 at *
  refine (two_calls _).mono ?_
  rintro e w1 ⟨rfl, rfl⟩
  go_wp2_with fail
  refine (tz_calls _ H0).mono ?_
  rintro e w1 ⟨rfl, rfl⟩
  go_wp2
  go_loopw [1, 13] (fun u i wr => ∃ k m : Nat, k ≤ 3 ∧ m ≤ 65 ∧ 62 ≤ m ∧ Hid (m = 65 - k) ∧ i = .int .i64 (m : Int) ∧ u = .int .u64 ((n / 16 ^ k : Nat) : Int) ∧ Hid (0 < k → 16 ≤ n / 16 ^ (k - 1)) ∧ Row wr w.heap.size 119 (bytesA (List.replicate m 0 ++ Adr.lowD n k)) ∧ Below w.heap.size w wr) (fun _ i _ => (intOf i).toNat)
  case atStart => exact ⟨0, 65, by omega, by omega, by omega, rfl, rfl, by simp, fun h => absurd h (by omega), by simpa [Adr.lowD, zB] using R0, B0⟩
  case round =>
    clear R0 B0
    obtain ⟨k, m, hk, hm, hm2, HM, rfl, rfl, HL, R, hb⟩ := hrel
    have hx : n / 16 ^ k < 65536 := Nat.lt_of_le_of_lt (Nat.div_le_self _ _) hn
    have e1 : ((m : Int) - 1).toNat = m - 1 := by omega
    have hsz : (List.replicate m 0 ++ Adr.lowD n k).length = 65 := by have := HM.out; rw [List.length_append, Adr.lowD_length, List.length_replicate]; omega
    obtain ⟨u1, c1⟩ : ∃ u, wr.cell? ⟨w.heap.size, m - 1, none⟩ = some u := ⟨_, by rw [R.cell]; exact Array.getElem?_eq_getElem (by rw [bytesA_size, hsz]; omega)⟩
    have f1 := R.free (m - 1)
    have hset : ∀ d : UInt8, Row (wr.setCell ⟨w.heap.size, m - 1, none⟩ (.int .u8 (d.toNat : Int))) w.heap.size 119 (bytesA (List.replicate (m - 1) 0 ++ d :: Adr.lowD n k)) := fun d => by
      have R1 := R.set (m - 1) (byteV d)
      rw [bytesA_set] at R1
      have e : m = (m - 1) + 1 := by omega
      have := Adr.set_front (m - 1) d (Adr.lowD n k)
      rw [← e] at this
      rw [this] at R1
      exact R1
    have HSET := Lib.hid hset
    clear hset hsz
    by_cases hu : 16 ≤ n / 16 ^ k
    · have hand := Adr.and15 (n / 16 ^ k) hx
      have hy : n / 16 ^ k % 16 < 16 := Nat.mod_lt _ (by omega)
      have hg := Adr.digit36 _ hy
      have HD := Lib.hid (show n / 16 ^ (k + 1) = n / 16 ^ k / 16 by rw [Nat.pow_succ, Nat.div_div_eq_div_mul])
      have HK : Hid (k + 1 ≤ 3) := by
        show k + 1 ≤ 3
        rcases Nat.lt_or_ge k 3 with h | h
        · exact h
        · have : k = 3 := by omega
          subst this
          omega
      have HW := Lib.hid (show Adr.lowD n (k + 1) = Adr.dig (n / 16 ^ k % 16) :: Adr.lowD n k from rfl)
      generalize hx0 : n / 16 ^ k = x at *
      have HX := Lib.hid hx0
      clear hx0
      have R1 := HSET.out (Adr.dig (x % 16))
      have B1 := hb.setCell (p := ⟨w.heap.size, m - 1, none⟩) (Nat.le_refl _) (.int .u8 ((Adr.dig (x % 16)).toNat : Int))
      have HM2 := Lib.hid (show m - 1 ≤ 65 ∧ 62 ≤ m - 1 ∧ m - 1 = 65 - (k + 1) by have := HM.out; have := HK.out; omega)
      have HU := Lib.hid hu
      clear R hb
      go_wp2
      go_roundw
      case rel => exact ⟨k + 1, m - 1, HK.out, HM2.out.1, HM2.out.2.1, HM2.out.2.2, val_int (by omega), val_int (by rw [HD.out]; omega), fun _ => by rw [Nat.add_sub_cancel, HX.out]; exact HU.out, by rw [HW.out]; exact R1, B1⟩
      case measure => simp [intOf]; omega
    · have hy : n / 16 ^ k < 16 := by omega
      have hg := Adr.digit36 _ hy
      have HS := Lib.hid (Adr.hexT_eq hn hk hy HL.out)
      have R1 := HSET.out (Adr.dig (n / 16 ^ k))
      have B1 := hb.setCell (p := ⟨w.heap.size, m - 1, none⟩) (Nat.le_refl _) (.int .u8 ((Adr.dig (n / 16 ^ k)).toNat : Int))
      have hsl := slice_bits w.heap.size m (by omega) hm
      have hcv := text_of_row R1 (o := m - 1) (by simp) (66 - m) (by rw [List.length_cons, Adr.lowD_length]; have := HM.out; omega) (66 - m)
      rw [← HS.out] at hcv
      generalize n / 16 ^ k = x at *
      clear R hb HSET R1
      go_wp2
      go_ret2
      exact ⟨rfl, B1⟩
theorem format_inner (n : Nat) (hn : n < 65536) (w : World) (h : Std w) :
    Calls Tryz.prog 96 #[.int .u64 (n : Int), .int .i64 16] w fun e w' => e = .returned (.string ⟨(Adr.hexT n).toArray⟩) ∧ Below w.heap.size w w' := by
  have H := Lib.hid (bits_calls n hn w h)
  go_enter Tryz.func96, Tryz.ntmps96
  go_wp2_with (go_at_call 102; refine H.out.mono ?_; rintro e w1 ⟨rfl, hb⟩)
  go_ret
  exact ⟨rfl, hb⟩
theorem format_calls (n : Nat) (hn : n < 65536) (w : World) (h : Std w) :
    Calls Tryz.prog 90 #[.int .u64 (n : Int), .int .i64 16] w fun e w' => e = .returned (.string ⟨(Adr.hexT n).toArray⟩) ∧ Below w.heap.size w w' := by
  have H := Lib.hid (format_inner n hn w h)
  go_enter Tryz.func90, Tryz.ntmps90
  go_wp2_with (go_at_call 96; refine H.out.mono ?_; rintro e w1 ⟨rfl, hb⟩)
  go_ret
  exact ⟨rfl, hb⟩
end Go.Proofs.YtkajddopjflniaaGreatDoor
/- The walk of rowText, and Join of texts in a row. -/
namespace Go.Proofs.YtkajddopjflniaaGreatDoor
open Go.RowKit
/-- Texts that lie in a row, joined. -/
theorem join_calls (ps : List (List UInt8)) (sep : UInt8) (B : Nat) (w : World) (R : Row w B 9 (textsA ps)) (m : Nat) (hm : ∀ p ∈ ps, p.length ≤ m) (hm1 : m ≤ 1048576) (hn : ps.length ≤ 1048576) :
    Calls Tryz.prog 47 #[.slice (some ⟨B, 0, none⟩) ps.length ps.length, .string ⟨#[sep]⟩] w fun e w' => e = .returned (.string ⟨(Lib.join ps [sep]).toArray⟩) ∧ Below w.heap.size w w' := by
  have hl := Adr.join_length [sep] rfl m ps hm
  have h2 : (m + 1) * ps.length ≤ 1048577 * 1048576 := Nat.mul_le_mul (by omega) hn
  have e1 : ((ps.map fun p => (⟨p.toArray⟩ : ByteArray)).map (·.data.toList)) = ps := by rw [List.map_map]; exact List.map_id ps
  have e2 : (⟨#[sep]⟩ : ByteArray).data.toList = [sep] := rfl
  have h := Tryz.strings_Join B 0 ps.length (ps.map fun p => ⟨p.toArray⟩) ⟨#[sep]⟩ w (fun j x hx => by
    rw [Nat.zero_add, R.cell, textsA_at]
    rw [List.getElem?_map] at hx
    cases hp : ps[j]? with
    | none => rw [hp] at hx; cases hx
    | some p => rw [hp] at hx; rw [← Option.some.inj hx]; rfl) R.lt (by rw [List.length_map]; omega) (by rw [List.length_map]; exact Nat.le_refl _) (by rw [e1, e2]; omega)
  rw [List.length_map, e1, e2] at h
  exact h

set_option maxHeartbeats 1000000 in
theorem rowText_calls (g : List UInt16) (b o cap : Nat) (pre post : List UInt16) (t : TypeId) (w : World) (hw : Std w) (hg : g.length ≤ 1024) (R : Row w b t (wordsA (pre ++ g ++ post))) (ho : pre.length = o) (A : Addr) (hA : 0 < g.length → A = ⟨b, o, none⟩) :
    Calls Tryz.prog 78 #[.slice (some A) g.length cap] w fun e w' => e = .returned (.string ⟨(Adr.rowT g).toArray⟩) ∧ Below w.heap.size w w' := by
  go_enter Tryz.func78, Tryz.ntmps78
  have hmk := make_texts g.length (by omega) w
  have hlen := Adr.rowT_length g
  obtain ⟨ts, hts⟩ : ∃ ts, ts = g.map fun x => Adr.hexT x.toNat := ⟨_, rfl⟩
  have hl : ts.length = g.length := by rw [hts, List.length_map]
  have HTS := Lib.hid hts
  have HSM := Lib.hid (show ∀ p ∈ ts, p.length ≤ 4 by rw [hts]; exact Adr.hexes_small g)
  have HL := Lib.hid hl
  clear hts hl
  go_wp2
  have T0 := Row.new w 9 (textsA (List.replicate g.length []))
  rw [← Adr.fill_zero ts] at T0
  have R0 := R.alloc (.cells (textsA (Adr.fill ts [] g.length 0)) 9)
  have B0 := (Below.refl w.heap.size w).alloc (Nat.le_refl _) (.cells (textsA (Adr.fill ts [] g.length 0)) 9)
  have H0 := hw.below B0
  have sb := R.lt
  rw [← Adr.fill_zero ts]
  clear R hmk
  go_loopw [10] (fun i wr => ∃ k : Nat, k ≤ g.length ∧ i = .int .i64 k ∧ Row wr w.heap.size 9 (textsA (Adr.fill ts [] g.length k)) ∧ Row wr b t (wordsA (pre ++ g ++ post)) ∧ Std wr ∧ Below w.heap.size w wr) (fun i _ => g.length - (intOf i).toNat)
  case atStart => exact ⟨0, Nat.zero_le _, rfl, T0, R0, H0, B0⟩
  case round =>
    clear T0 R0 H0 B0
    obtain ⟨k, hk, rfl, T, R, H, hb⟩ := hrel
    by_cases hlt : k < g.length
    · obtain rfl := hA (by omega)
      obtain ⟨x, hx⟩ : ∃ x, g[k]? = some x := ⟨_, List.getElem?_eq_getElem hlt⟩
      have c0 : wr.cell? ⟨b, o + k, none⟩ = some (.int .u16 (x.toNat : Int)) := by
        rw [R.cell, wordsA_at, List.append_assoc, List.getElem?_append_right (by omega), List.getElem?_append_left (by omega)]
        have e : o + k - pre.length = k := by omega
        rw [e, hx]; rfl
      have hx1 := Adr.u16_lt x
      have HC := Lib.hid (format_calls x.toNat hx1 wr H)
      have HX := Lib.hid (show ts[k]? = some (Adr.hexT x.toNat) by rw [HTS.out, List.getElem?_map, hx]; rfl)
      have HF := Lib.hid (Adr.fill_length (z := ([] : List UInt8)) (k := k) HL.out hk)
      clear hx
      go_wp2_with (go_at_call 90; refine HC.out.mono ?_; rintro e w2 ⟨rfl, b2⟩; have T2 := T.stays b2; have R2 := R.stays b2; have H2 := H.below b2; have B2 := hb.trans (b2.mono hb.size); have s2 := B2.size; obtain ⟨u1, c1⟩ : ∃ u, w2.cell? ⟨w.heap.size, k, none⟩ = some u := ⟨_, by rw [T2.cell]; exact Array.getElem?_eq_getElem (by rw [textsA_size, HF.out]; exact hlt)⟩; have f1 := T2.free k)
      have T3 := T2.set k (strV (Adr.hexT x.toNat))
      rw [textsA_set, Adr.fill_set HL.out hlt HX.out] at T3
      have R3 := R2.other (p := ⟨w.heap.size, k, none⟩) (by simp; omega) (strV (Adr.hexT x.toNat))
      have B3 := B2.setCell (p := ⟨w.heap.size, k, none⟩) (Nat.le_refl _) (strV (Adr.hexT x.toNat))
      have H3 := hw.below B3
      go_roundw
      case rel => exact ⟨k + 1, by omega, by go_num, T3, R3, H3, B3⟩
      case measure => simp [intOf]; omega
    · have hkk : k = g.length := by omega
      subst hkk
      rw [Adr.fill_end HL.out] at T
      have HJ := Lib.hid (join_calls ts 58 w.heap.size wr T 4 HSM.out (by omega) (by rw [HL.out]; omega))
      rw [HL.out] at HJ
      have HR := Lib.hid (show Lib.join ts [58] = Adr.rowT g by rw [HTS.out]; rfl)
      rw [HR.out] at HJ
      go_wp2_with (go_at_call 47; refine HJ.out.mono ?_; rintro e w2 ⟨rfl, b2⟩)
      go_ret
      exact ⟨rfl, hb.trans (b2.mono hb.size)⟩
end Go.Proofs.YtkajddopjflniaaGreatDoor
/- The walk of Text4. -/
namespace Go.Proofs.YtkajddopjflniaaGreatDoor
open Go.RowKit
theorem lenAddr : Tryz.prog.arrayLen 23 = 16 := by kernel_rfl
theorem elemAddr : Tryz.prog.elem 23 = 5 := by kernel_rfl
theorem slice_addr (g : Nat) (W : World) :
    (Instr.sliceAt 23 (.pointer (some ⟨g, 0, none⟩)) (some (.int .i64 12)) none none).run Tryz.prog W = .ok (.slice (some ⟨g, 12, none⟩) 4 4) W := by
  have ht : Tryz.prog.underlying 23 = some (.array (Tryz.prog.arrayLen 23) (Tryz.prog.elem 23)) := by rw [lenAddr, elemAddr]; exact Tryz.underlying23
  rw [run_sliceAt_array_l W 23 ⟨g, 0, none⟩ ht .i64 12 (by omega) (by rw [lenAddr]; omega), elemAddr]
  have hs : (sizeOf 5).run Tryz.prog W = .ok 1 W := by kernel_rfl
  rw [hs, Result.andThen_ok, lenAddr, slicedAt, if_neg (by omega), Addr.add_mid]
  rfl

set_option maxHeartbeats 1000000 in
theorem text4_calls (a : List UInt8) (ha : a.length = 16) (w : World) (hw : Std w) :
    Calls Tryz.prog 59 #[.agg (bytesA a)] w fun e w' => e = .returned (.string ⟨(Adr.tx4 (a.drop 12)).toArray⟩) ∧ Below w.heap.size w w' := by
  have HL := Lib.hid ha
  have hl4 : (a.drop 12).length = 4 := by rw [List.length_drop, ha]
  obtain ⟨ts, hts⟩ : ∃ ts, ts = (a.drop 12).map fun c => Lib.decDigits c.toNat := ⟨_, rfl⟩
  have hl : ts.length = 4 := by rw [hts, List.length_map, hl4]
  have HTS := Lib.hid hts
  have HSM := Lib.hid (show ∀ p ∈ ts, p.length ≤ 3 by rw [hts]; exact Adr.decs_small _)
  have HN := Lib.hid hl
  have HR := Lib.hid (show Lib.join ts [46] = Adr.tx4 (a.drop 12) by rw [hts]; rfl)
  clear hts hl hl4 ha
  go_enter Tryz.func59, Tryz.ntmps59
  have hsl := slice_addr w.heap.size
  have hmk : ∀ W, (Instr.makeSlice 45 (.int .i64 4) (.int .i64 4)).run Tryz.prog W = .ok (.slice (some ⟨W.heap.size, 0, none⟩) 4 4) (W.alloc (.cells (textsA (Adr.fill ts [] 4 0)) 9)) := fun W => by
    have := make_texts 4 (by omega) W
    rw [← Adr.fill_zero ts] at this
    exact this
  go_wp2
  have T0 := Row.new (w.alloc (.cells (bytesA a) 23)) 9 (textsA (Adr.fill ts [] 4 0))
  have R0 := (Row.new w 23 (bytesA a)).alloc (.cells (textsA (Adr.fill ts [] 4 0)) 9)
  have B0 := ((Below.refl w.heap.size w).alloc (Nat.le_refl _) (.cells (bytesA a) 23)).alloc (by simp) (.cells (textsA (Adr.fill ts [] 4 0)) 9)
  have H0 := hw.below B0
  have eN : (w.alloc (.cells (bytesA a) 23)).heap.size = w.heap.size + 1 := by simp
  rw [eN] at T0
  clear hmk hsl eN
  generalize hN : w.heap.size + 1 = N at *
  have sN : w.heap.size < N := by omega
  clear hN
  go_loopw [8] (fun i wr => ∃ k : Nat, k ≤ 4 ∧ i = .int .i64 k ∧ Row wr N 9 (textsA (Adr.fill ts [] 4 k)) ∧ Row wr w.heap.size 23 (bytesA a) ∧ Std wr ∧ Below w.heap.size w wr) (fun i _ => 4 - (intOf i).toNat)
  case atStart => exact ⟨0, Nat.zero_le _, rfl, T0, R0, H0, B0⟩
  case round =>
    clear T0 R0 H0 B0
    obtain ⟨k, hk, rfl, T, R, H, hb⟩ := hrel
    by_cases hlt : k < 4
    · obtain ⟨x, hx⟩ : ∃ x, (a.drop 12)[k]? = some x := ⟨_, List.getElem?_eq_getElem (by rw [List.length_drop, HL.out]; omega)⟩
      have c0 : wr.cell? ⟨w.heap.size, 12 + k, none⟩ = some (.int .u8 (x.toNat : Int)) := by
        rw [R.cell, bytesA_at, ← List.getElem?_drop, hx]; rfl
      have hx1 := x.toNat_lt
      have HC := Lib.hid (itoa_calls x.toNat wr H (by omega))
      have HX := Lib.hid (show ts[k]? = some (Lib.decDigits x.toNat) by rw [HTS.out, List.getElem?_map, hx]; rfl)
      have HF := Lib.hid (Adr.fill_length (z := ([] : List UInt8)) (k := k) HN.out hk)
      clear hx
      go_wp2_with (go_at_call 75; refine HC.out.mono ?_; rintro e w2 ⟨rfl, b2⟩; have T2 := T.stays b2; have R2 := R.stays b2; have B2 := hb.trans (b2.mono hb.size); have s2 := B2.size; obtain ⟨u1, c1⟩ : ∃ u, w2.cell? ⟨N, k, none⟩ = some u := ⟨_, by rw [T2.cell]; exact Array.getElem?_eq_getElem (by rw [textsA_size, HF.out]; exact hlt)⟩; have f1 := T2.free k)
      have T3 := T2.set k (strV (Lib.decDigits x.toNat))
      rw [textsA_set, Adr.fill_set HN.out hlt HX.out] at T3
      have R3 := R2.other (p := ⟨N, k, none⟩) (by simp; omega) (strV (Lib.decDigits x.toNat))
      have B3 := B2.setCell (p := ⟨N, k, none⟩) (by simp; omega) (strV (Lib.decDigits x.toNat))
      have H3 := hw.below B3
      go_roundw
      case rel => exact ⟨k + 1, by omega, by go_num, T3, R3, H3, B3⟩
      case measure => simp [intOf]; omega
    · have hkk : k = 4 := by omega
      subst hkk
      rw [Adr.fill_end HN.out] at T
      have HJ := Lib.hid (join_calls ts 46 N wr T 3 HSM.out (by omega) (by rw [HN.out]; omega))
      rw [HN.out, HR.out] at HJ
      go_wp2_with (go_at_call 47; refine HJ.out.mono ?_; rintro e w2 ⟨rfl, b2⟩)
      go_ret
      exact ⟨rfl, hb.trans (b2.mono hb.size)⟩
end Go.Proofs.YtkajddopjflniaaGreatDoor
/- The walk of noughts. -/
namespace Go.Proofs.YtkajddopjflniaaGreatDoor
open Go.RowKit
set_option maxHeartbeats 2000000 in
theorem noughts_calls (g : List UInt16) (hg : g.length = 8) (w : World) :
    Calls Tryz.prog 77 #[.agg (wordsA g)] w fun e w' => e = .returned (.tuple #[.int .i64 (Adr.nf g : Int), .int .i64 (Adr.nt g : Int)]) ∧ Below w.heap.size w w' := by
  have HG := Lib.hid hg
  clear hg
  have HF := Lib.hid (show (Adr.nst (Adr.zeros g) 8).1 = Adr.nf g from rfl)
  have HT := Lib.hid (show (Adr.nst (Adr.zeros g) 8).2.1 = Adr.nt g from rfl)
  go_enter Tryz.func77, Tryz.ntmps77
  go_wp2
  have R := Row.new w 85 (wordsA g)
  have B := (Below.refl w.heap.size w).alloc (Nat.le_refl _) (.cells (wordsA g) 85)
  generalize w.alloc (.cells (wordsA g) 85) = w0 at *
  go_loop [4, 5, 6, 9] (fun f t s i => ∃ k : Nat, k ≤ 8 ∧ i = .int .i64 k ∧ f = .int .i64 ((Adr.nst (Adr.zeros g) k).1 : Int) ∧ t = .int .i64 ((Adr.nst (Adr.zeros g) k).2.1 : Int) ∧ s = .int .i64 ((Adr.nst (Adr.zeros g) k).2.2 : Int)) (fun _ _ _ i => 8 - (intOf i).toNat)
  case atStart => exact ⟨0, Nat.zero_le _, rfl, rfl, rfl, rfl⟩
  case round =>
    obtain ⟨k, hk, rfl, rfl, rfl, rfl⟩ := hrel
    by_cases hlt : k < 8
    · obtain ⟨x, hx⟩ : ∃ x, g[k]? = some x := ⟨_, List.getElem?_eq_getElem (by rw [HG.out]; exact hlt)⟩
      have c0 : w0.cell? ⟨w.heap.size, k, none⟩ = some (.int .u16 (x.toNat : Int)) := by rw [R.cell, wordsA_at, hx]; rfl
      have hz := Adr.zeros_at hx
      have hb := Adr.nst_le (Adr.zeros g) k
      by_cases hx0 : x = 0
      · have h0 : ((x.toNat : Int) != 0) = false := by rw [hx0]; rfl
        have hzt : (Adr.zeros g).getD k false = true := by rw [hz]; exact decide_eq_true hx0
        by_cases h2 : 2 ≤ k + 1 - (Adr.nst (Adr.zeros g) k).2.2 ∧ (Adr.nst (Adr.zeros g) k).2.1 - (Adr.nst (Adr.zeros g) k).1 < k + 1 - (Adr.nst (Adr.zeros g) k).2.2
        · have HN := Lib.hid (Adr.nst_longer hzt h2)
          clear hx hz hx0 hzt
          generalize Adr.nst (Adr.zeros g) k = y at *
          obtain ⟨f, t, s⟩ := y
          try dsimp only at h2 hb
          obtain ⟨h2a, h2b⟩ := h2
          obtain ⟨hb1, hb2, hb3⟩ := hb
          have d1 : (2 : Int) ≤ (k : Int) + 1 - (s : Int) := by omega
          have d2 : (t : Int) - (f : Int) < (k : Int) + 1 - (s : Int) := by omega
          go_wp2
          go_round
          case rel => exact ⟨k + 1, by omega, by go_num, by rw [HN.out], by rw [HN.out]; go_num, by rw [HN.out]⟩
          case measure => simp [intOf]; omega
        · have HN := Lib.hid (Adr.nst_same hzt h2)
          clear hx hz hx0 hzt
          generalize Adr.nst (Adr.zeros g) k = y at *
          obtain ⟨f, t, s⟩ := y
          try dsimp only at h2 hb
          obtain ⟨hb1, hb2, hb3⟩ := hb
          have hor : (¬ (2 : Int) ≤ (k : Int) + 1 - (s : Int)) ∨ ((2 : Int) ≤ (k : Int) + 1 - (s : Int) ∧ ¬ (t : Int) - (f : Int) < (k : Int) + 1 - (s : Int)) := by omega
          clear h2
          rcases hor with d1 | ⟨d1, d2⟩
          all_goals
            go_wp2
            go_round
            case rel => exact ⟨k + 1, by omega, by go_num, by rw [HN.out], by rw [HN.out], by rw [HN.out]⟩
            case measure => simp [intOf]; omega
      · have h0 : ((x.toNat : Int) != 0) = true := by
          rw [bne_iff_ne]; intro e; exact hx0 (Adr.eq_of_toNat16 (by show x.toNat = 0; omega))
        have hzt : (Adr.zeros g).getD k false = false := by rw [hz]; exact decide_eq_false hx0
        have HN := Lib.hid (Adr.nst_other hzt)
        clear hx hz hx0 hzt
        go_wp2
        go_round
        case rel => exact ⟨k + 1, by omega, by go_num, by rw [HN.out], by rw [HN.out], by rw [HN.out]; go_num⟩
        case measure => simp [intOf]; omega
    · have hkk : k = 8 := by omega
      subst hkk
      go_wp2
      go_ret2
      exact ⟨ret_two (val_int (by rw [HF.out])) (val_int (by rw [HT.out])), B⟩
end Go.Proofs.YtkajddopjflniaaGreatDoor
/- The walk of Text6. -/
namespace Go.Proofs.YtkajddopjflniaaGreatDoor
open Go.RowKit
/-- The groups lie in their block, and all that lay in w lies as it did. -/
structure Kept6 (b : Nat) (g : List UInt16) (w w' : World) : Prop where
  row : Row w' b 85 (wordsA g)
  std : Std w'
  below : Below w.heap.size w w'
theorem Kept6.drew {b : Nat} {g : List UInt16} {w w' : World} (h : Kept6 b g w w') : Kept6 b g w w'.drew :=
  ⟨h.row.drew, h.std.below (Below.refl _ _).drew, h.below.drew⟩
theorem Kept6.on {b : Nat} {g : List UInt16} {w w' w'' : World} (h : Kept6 b g w w') (hb : Below w'.heap.size w' w'') : Kept6 b g w w'' :=
  ⟨h.row.stays hb, h.std.below hb, h.below.trans (hb.mono h.below.size)⟩
theorem rowText_kept (b : Nat) (g0 : List UInt16) (w0 : World) (o n cap : Nat) (A : Addr) (hn : o + n ≤ g0.length) (hA : 0 < n → A = ⟨b, o, none⟩) (hg : g0.length ≤ 1024) (w : World) (h : Kept6 b g0 w0 w) :
    Calls Tryz.prog 78 #[.slice (some A) n cap] w fun e w' => e = .returned (.string ⟨(Adr.rowT ((g0.drop o).take n)).toArray⟩) ∧ Kept6 b g0 w0 w' := by
  have hl : ((g0.drop o).take n).length = n := by simp; omega
  have hR : Row w b 85 (wordsA (g0.take o ++ (g0.drop o).take n ++ (g0.drop o).drop n)) := by
    rw [List.append_assoc, List.take_append_drop, List.take_append_drop]; exact h.row
  have := rowText_calls ((g0.drop o).take n) b o cap (g0.take o) ((g0.drop o).drop n) 85 w h.std (by omega) hR (by simp; omega) A (by rw [hl]; exact hA)
  rw [hl] at this
  exact this.mono fun e w' ⟨he, hb⟩ => ⟨he, h.on hb⟩
theorem slice_front (g m : Nat) (hm : m ≤ 8) (W : World) :
    (Instr.sliceAt 85 (.pointer (some ⟨g, 0, none⟩)) none (some (.int .i64 (m : Int))) none).run Tryz.prog W = .ok (.slice (some ⟨g, 0, none⟩) m 8) W := by
  have ht : Tryz.prog.underlying 85 = some (.array (Tryz.prog.arrayLen 85) (Tryz.prog.elem 85)) := by rw [lenGroups, elemGroups]; exact Tryz.underlying85
  rw [run_sliceAt_array_h W 85 ⟨g, 0, none⟩ ht .i64 (m : Int) (by omega) (by rw [lenGroups]; omega), elemGroups]
  have hs : (sizeOf 84).run Tryz.prog W = .ok 1 W := by kernel_rfl
  rw [hs, Result.andThen_ok, lenGroups, slicedAt, if_neg (by omega), Addr.add_mid]
  rfl
theorem slice_back (g l : Nat) (hl : l ≤ 8) : ∃ A : Addr, (0 < 8 - l → A = ⟨g, l, none⟩) ∧
    ∀ W, (Instr.sliceAt 85 (.pointer (some ⟨g, 0, none⟩)) (some (.int .i64 (l : Int))) none none).run Tryz.prog W = .ok (.slice (some A) (8 - l) (8 - l)) W := by
  obtain ⟨A, h1, h2⟩ := slice_tail g (8 - l) (by omega)
  refine ⟨A, fun h => ?_, fun W => ?_⟩
  · rw [h1 h]; congr 1; omega
  · have := h2 W
    rw [show 8 - ((8 - l : Nat) : Int) = (l : Int) by omega] at this
    exact this

set_option maxHeartbeats 2000000 in
theorem text6_calls (a : List UInt8) (ha : a.length = 16) (w : World) (hw : Std w) :
    Calls Tryz.prog 60 #[.agg (bytesA a)] w fun e w' => e = .returned (.string ⟨(Adr.tx6 (Adr.groups a)).toArray⟩) ∧ Below w.heap.size w w' := by
  have hgl := Adr.groups_length 8 a ha
  have HG := Lib.hid (fun W => groups_calls a ha W)
  have HA := Lib.hid (show (bytesA a).size = 16 by rw [bytesA_size, ha])
  clear ha
  have HTX := Lib.hid (show Adr.tx6 (Adr.groups a) = if Adr.nf (Adr.groups a) = Adr.nt (Adr.groups a) then Adr.rowT (Adr.groups a) else Adr.rowT ((Adr.groups a).take (Adr.nf (Adr.groups a))) ++ 58 :: 58 :: Adr.rowT ((Adr.groups a).drop (Adr.nt (Adr.groups a))) from rfl)
  generalize Adr.groups a = g at *
  have HL := Lib.hid hgl
  have HN := Lib.hid (fun W => noughts_calls g hgl W)
  obtain ⟨hn1, hn2, hn3, _⟩ := Adr.nought_facts hgl
  have hsz : (wordsA g).size = 8 := by rw [wordsA_size, hgl]
  have HZ := Lib.hid hsz
  clear hgl hsz
  have z2 := wordsA_zG
  go_enter Tryz.func60, Tryz.ntmps60
  have R0 := Row.new w 23 (bytesA a)
  have B0 := (Below.refl w.heap.size w).alloc (Nat.le_refl _) (.cells (bytesA a) 23)
  go_wp2_with (refine at_slot 6 rfl ?_; refine wpList_load_row rfl 23 _ rfl w.heap.size rfl 23 _ (0, 0) _ R0 Tryz.underlying23 rfl (by rw [HA.out]; exact infoAddr) ?_)
  generalize w.alloc (.cells (bytesA a) 23) = w0 at *
  refine (HG.out _).mono ?_
  rintro e w1 ⟨rfl, b1⟩
  have B1 := B0.trans (b1.mono B0.size)
  clear B0 R0 b1
  have s1 := B1.size
  have R1 := Row.new w1 85 (wordsA zG)
  have R2 := R1.whole (wordsA g)
  have B2 := below_setRow (B1.alloc s1 (.cells (wordsA zG) 85)) s1 (wordsA g)
  go_wp2_with (first
    | (refine wpList_store_row rfl 85 _ _ rfl w1.heap.size (wordsA g) rfl rfl 85 _ R1 (by rw [HZ.out]; exact infoGroups) (by rw [HZ.out]; rfl) (wordsA_one _) ?_)
    | (refine at_slot 9 rfl ?_; refine wpList_load_row rfl 85 _ rfl w1.heap.size rfl 85 _ (0, 0) _ R2 Tryz.underlying85 rfl (by rw [HZ.out]; exact infoGroups) ?_))
  generalize (w1.alloc (.cells (wordsA zG) 85)).setRow w1.heap.size (wordsA g) = w2 at *
  refine (HN.out _).mono ?_
  rintro e w3 ⟨rfl, b3⟩
  have K : Kept6 w1.heap.size g w w3 := by
    have R3 := R2.stays b3
    have B3 := B2.trans (b3.mono B2.size)
    exact ⟨R3, hw.below B3, B3⟩
  clear R1 R2 B1 B2 b3
  by_cases heq : Adr.nf g = Adr.nt g
  · have he : ((Adr.nf g : Int) == (Adr.nt g : Int)) = true := by rw [heq]; simp
    have HE := Lib.hid (show Adr.rowT ((g.drop 0).take 8) = Adr.tx6 g by unfold Adr.tx6; rw [if_pos heq, List.drop_zero, List.take_of_length_le (by have := HL.out; omega)])
    have HC := Lib.hid (rowText_kept w1.heap.size g w 0 8 8 ⟨w1.heap.size, 0, none⟩ (by have := HL.out; omega) (fun _ => rfl) (by have := HL.out; omega) _ K)
    rw [HE.out] at HC
    clear heq HTX
    go_wp2_with (go_at_call 78; refine HC.out.mono ?_; rintro e w4 ⟨rfl, K4⟩)
    go_ret
    exact ⟨rfl, K4.below⟩
  · have he : ((Adr.nf g : Int) == (Adr.nt g : Int)) = false := by rw [beq_eq_false_iff_ne]; omega
    have hnt : Adr.nf g + 2 ≤ Adr.nt g := by omega
    have HE := Lib.hid (show Adr.rowT ((g.drop 0).take (Adr.nf g)) ++ 58 :: 58 :: Adr.rowT ((g.drop (Adr.nt g)).take (8 - Adr.nt g)) = Adr.tx6 g by
      unfold Adr.tx6; rw [if_neg heq, List.drop_zero, List.take_of_length_le (l := g.drop (Adr.nt g)) (by rw [List.length_drop, HL.out]; exact Nat.le_refl _)])
    have hs1 := slice_front w1.heap.size (Adr.nf g) (by omega)
    obtain ⟨A, hA, hs2⟩ := slice_back w1.heap.size (Adr.nt g) hn3
    have HC1 := Lib.hid (rowText_kept w1.heap.size g w 0 (Adr.nf g) 8 ⟨w1.heap.size, 0, none⟩ (by have := HL.out; omega) (fun _ => rfl) (by have := HL.out; omega))
    have HC2 := Lib.hid (rowText_kept w1.heap.size g w (Adr.nt g) (8 - Adr.nt g) (8 - Adr.nt g) A (by have := HL.out; omega) hA (by have := HL.out; omega))
    have l1 := Adr.rowT_length ((g.drop 0).take (Adr.nf g))
    have l2 := Adr.rowT_length ((g.drop (Adr.nt g)).take (8 - Adr.nt g))
    rw [List.length_take, List.length_drop, HL.out] at l1 l2
    obtain ⟨X, hX⟩ : ∃ X : ByteArray, X = ⟨(Adr.rowT ((g.drop 0).take (Adr.nf g))).toArray⟩ := ⟨_, rfl⟩
    obtain ⟨Y, hY⟩ : ∃ Y : ByteArray, Y = ⟨(Adr.rowT ((g.drop (Adr.nt g)).take (8 - Adr.nt g))).toArray⟩ := ⟨_, rfl⟩
    have x1 : X.size ≤ 40 := by rw [hX]; show (List.toArray _).size ≤ 40; rw [List.size_toArray]; omega
    have y1 : Y.size ≤ 40 := by rw [hY]; show (List.toArray _).size ≤ 40; rw [List.size_toArray]; omega
    have xs : (X ++ ⟨#[58, 58]⟩ : ByteArray).size ≤ 42 := by rw [ByteArray.size_append]; show X.size + 2 ≤ 42; omega
    have cs : (⟨#[58, 58]⟩ : ByteArray).size = 2 := rfl
    have q1 : ¬ 9223372036854775807 < X.size + 2 := by omega
    have q2 : ¬ 9223372036854775807 < X.size + 2 + Y.size := by omega
    have HXY := Lib.hid (show X ++ ⟨#[58, 58]⟩ ++ Y = ⟨(Adr.tx6 g).toArray⟩ by rw [hX, hY, ← HE.out]; apply ByteArray.ext; simp [ByteArray.data_append])
    rw [← hX] at HC1
    rw [← hY] at HC2
    have K3 := K.drew
    clear heq HTX hX hY l1 l2 HE hn1 hn2 hn3 hnt hA
    go_wp2
    go_region_held3 (fun w' => Kept6 w1.heap.size g w w') (assumption) ((first
      | (go_at_call_of 78 (Value.slice (some ⟨w1.heap.size, 0, none⟩) (Adr.nf g) 8); refine (HC1.out _ (by assumption)).mono ?_; rintro e w4 ⟨rfl, K4⟩)
      | (go_at_call 78; refine (HC2.out _ (by assumption)).mono ?_; rintro e w4 ⟨rfl, K4⟩)))
    all_goals
      go_wp2
      go_ret
      exact ⟨ret_str HXY.out, Kept6.below (g := g) (b := w1.heap.size) (by assumption)⟩
end Go.Proofs.YtkajddopjflniaaGreatDoor
/- The walks of host's Text and Right, of hosts of whatever kind. -/
namespace Go.Proofs.YtkajddopjflniaaGreatDoor
open Go.RowKit
set_option maxRecDepth 100000 in
set_option maxHeartbeats 2000000 in
theorem text_calls (h : Hst.Host) (ha : h.addr.length = 16) (t : ByteArray) (ht : t = ⟨(Hst.text h).toArray⟩) (w : World) (hw : Std w) :
    Calls Tryz.prog 45 #[.agg (hostA h)] w fun e w' => e = .returned (.string t) ∧ Below w.heap.size w w' := by
  by_cases k1 : h.kind = 1
  · exact text1_calls h k1 t (by rw [ht]; unfold Hst.text; rw [if_pos k1]) w
  have R := Row.new w 25 (hostA h)
  have B := (Below.refl w.heap.size w).alloc (Nat.le_refl _) (.cells (hostA h) 25)
  have c0 : (w.alloc (.cells (hostA h) 25)).cell? ⟨w.heap.size, 0, none⟩ = some (.int .i64 h.kind) := by rw [R.cell, hostA_kind]
  have HA := Lib.hid (hostA_addr h ha)
  have HS := Lib.hid (hostA_size h ha)
  have H4 := Lib.hid (fun W hW => text4_calls h.addr ha W hW)
  have H6 := Lib.hid (fun W hW => text6_calls h.addr ha W hW)
  by_cases k2 : h.kind = 2
  · have e : t = ⟨(Adr.tx4 (h.addr.drop 12)).toArray⟩ := by rw [ht]; unfold Hst.text; rw [if_neg k1, if_pos k2]
    rw [← e] at H4
    rw [k2] at c0
    generalize bytesA h.addr = X at *
    generalize hostA h = H at *
    clear ht e k1 k2 ha H6
    go_enter Tryz.func45, Tryz.ntmps45
    go_wp2_with (refine at_slot 12 rfl ?_; refine load_part rfl 23 _ rfl w.heap.size 2 16 rfl R Tryz.underlying23 rfl infoAddr (by rw [HS.out]; exact Nat.le_refl _) X HA.out ?_)
    refine (H4.out _ (hw.below B)).mono ?_
    rintro e w' ⟨rfl, d⟩
    go_wp2
    go_ret
    exact ⟨rfl, B.trans (d.mono B.size)⟩
  by_cases k3 : h.kind = 3
  · have hlen := Hst.tx6_short (Adr.groups_length 8 h.addr ha)
    obtain ⟨u, hu⟩ : ∃ u : ByteArray, u = ⟨(Adr.tx6 (Adr.groups h.addr)).toArray⟩ := ⟨_, rfl⟩
    have hul : u.data.toList = Adr.tx6 (Adr.groups h.addr) := by rw [hu]
    have hus : u.size = (Adr.tx6 (Adr.groups h.addr)).length := by rw [← Oct.length_bytes, hul]
    obtain ⟨E, hE⟩ : ∃ E : ByteArray, (⟨#[91]⟩ : ByteArray) ++ u = E := ⟨_, rfl⟩
    have hEs : E.size = 1 + u.size := by rw [← hE, ByteArray.size_append]; rfl
    have hE2 : E ++ (⟨#[93]⟩ : ByteArray) = t := by
      rw [ht]
      unfold Hst.text
      rw [if_neg k1, if_neg k2, if_pos k3, ← hul, ← hE]
      apply ByteArray.ext
      rw [ByteArray.data_append, ByteArray.data_append]
      apply Array.ext'
      rw [Array.toList_append, Array.toList_append]
      rfl
    have hcat1 : ¬ 9223372036854775807 < (⟨#[91]⟩ : ByteArray).size + u.size := by
      show ¬ 9223372036854775807 < 1 + u.size
      omega
    have hcat2 : ¬ 9223372036854775807 < E.size + (⟨#[93]⟩ : ByteArray).size := by
      show ¬ 9223372036854775807 < E.size + 1
      omega
    have h91 : (⟨#[91]⟩ : ByteArray).size = 1 := rfl
    have h93 : (⟨#[93]⟩ : ByteArray).size = 1 := rfl
    rw [← hu] at H6
    rw [k3] at c0
    generalize bytesA h.addr = X at *
    generalize hostA h = H at *
    clear ht hul k1 k2 k3 ha H4 hu
    go_enter Tryz.func45, Tryz.ntmps45
    go_wp2_with (refine at_slot 17 rfl ?_; refine load_part rfl 23 _ rfl w.heap.size 2 16 rfl R Tryz.underlying23 rfl infoAddr (by rw [HS.out]; exact Nat.le_refl _) X HA.out ?_)
    refine (H6.out _ (hw.below B)).mono ?_
    rintro e w' ⟨rfl, d⟩
    go_wp2
    go_ret
    exact ⟨rfl, B.trans (d.mono B.size)⟩
  · have e : t = ⟨#[]⟩ := by rw [ht]; unfold Hst.text; rw [if_neg k1, if_neg k2, if_neg k3]
    subst e
    generalize hostA h = H at *
    generalize h.kind = k at *
    clear ht ha H4 H6 HA
    go_enter Tryz.func45, Tryz.ntmps45
    go_wp2
    go_ret
    exact ⟨rfl, B⟩
set_option maxRecDepth 100000 in
set_option maxHeartbeats 4000000 in
theorem right_calls (h : Hst.Host) (ha : h.addr.length = 16) (hs : h.name.length ≤ 1048000) (w : World) (hw : Std w) :
    Calls Tryz.prog 27 #[.agg (hostA h)] w fun e w' => e = .returned (.bool (Hst.can h)) ∧ Below w.heap.size w w' := by
  have z0 := zeroHost
  obtain ⟨t, ht⟩ : ∃ t : ByteArray, t = ⟨(Hst.text h).toArray⟩ := ⟨_, rfl⟩
  have htx := Hst.text_length h ha
  have H1 := Lib.hid (fun W hW => text_calls h ha t ht W hW)
  have htl : t.data.toList = Hst.text h := by rw [ht]
  have hts : t.size = (Hst.text h).length := by rw [← htl, Oct.length_bytes]
  have H2 := Lib.hid (fun W hW => (parse_calls t W hW (by omega)).mono fun e w' h => newHost_is h)
  rw [htl] at H2
  have hx := Hst.parse_length (Hst.text h)
  have HR : Hid (Hst.can h = decide (Hst.parse (Hst.text h) = some h)) := Lib.hid rfl
  have HZ0 := Lib.hid (show (hostA Hst.zero).size = 18 from rfl)
  have HH := Lib.hid (hostA_size h ha)
  cases ho : Hst.parse (Hst.text h) with
  | none =>
    rw [ho] at H2 HR
    have HR2 : Hid (Hst.can h = false) := Lib.hid (by rw [HR.out]; rfl)
    have e1 : Hst.host none = Hst.zero := rfl
    have e2 : Hst.code none = 31 := rfl
    rw [e1, e2] at H2
    clear ho hx hts htl ht HR e1 e2 htx
    rw [HR2.out]
    generalize hostA h = H at *
    have R0 := Row.new w 25 H
    have B0 := (Below.refl w.heap.size w).alloc (Nat.le_refl _) (.cells H 25)
    go_enter Tryz.func27, Tryz.ntmps27
    go_wp2_with (refine at_slot 6 rfl ?_; refine load_row rfl 25 _ rfl w.heap.size rfl R0 Tryz.underlying25 rfl (by rw [HH.out]; exact infoHost) ?_)
    generalize w.alloc (.cells H 25) = w0 at *
    refine (H1.out _ (hw.below B0)).mono ?_
    rintro e v1 ⟨rfl, d1⟩
    have B1 := B0.trans (d1.mono B0.size)
    go_wp2_with fail
    refine (H2.out _ (hw.below B1)).mono ?_
    rintro e v2 ⟨rfl, d2⟩
    have B2 := B1.trans (d2.mono B1.size)
    obtain ⟨T, U, C, L⟩ := lay_row 25 (hostA Hst.zero) (hostA Hst.zero) B2 B2.size
    clear B0 B1 B2 d1 d2 R0 L
    go_wp2_with (first
      | (refine wpList_store_row rfl 25 _ _ rfl v2.heap.size (hostA Hst.zero) rfl rfl 25 _ T (by rw [HZ0.out]; exact infoHost) rfl (hostA_one _) ?_))
    go_ret
    exact ⟨rfl, C⟩
  | some g =>
    rw [ho] at H2 HR hx
    have hx : g.addr.length = 16 := hx
    have HR2 : Hid (Hst.can h = decide (g = h)) := Lib.hid (by rw [HR.out, decide_eq_decide]; exact ⟨fun e => Option.some.inj e, fun e => by rw [e]⟩)
    have e1 : Hst.host (some g) = g := rfl
    have e2 : Hst.code (some g) = 0 := rfl
    rw [e1, e2] at H2
    have q := eql_host g h hx ha
    have HG := Lib.hid (hostA_size g hx)
    have HG1 := Lib.hid (hostA_one g)
    clear ho hx hts htl ht HR e1 e2 htx
    rw [HR2.out]
    generalize hostA h = H at *
    generalize hostA g = G at *
    generalize decide (g = h) = b at *
    have R0 := Row.new w 25 H
    have B0 := (Below.refl w.heap.size w).alloc (Nat.le_refl _) (.cells H 25)
    go_enter Tryz.func27, Tryz.ntmps27
    go_wp2_with (refine at_slot 6 rfl ?_; refine load_row rfl 25 _ rfl w.heap.size rfl R0 Tryz.underlying25 rfl (by rw [HH.out]; exact infoHost) ?_)
    generalize w.alloc (.cells H 25) = w0 at *
    refine (H1.out _ (hw.below B0)).mono ?_
    rintro e v1 ⟨rfl, d1⟩
    have B1 := B0.trans (d1.mono B0.size)
    have R1 := R0.stays d1
    go_wp2_with fail
    refine (H2.out _ (hw.below B1)).mono ?_
    rintro e v2 ⟨rfl, d2⟩
    have R2 := R1.stays d2
    have B2 := B1.trans (d2.mono B1.size)
    obtain ⟨T, U, C, L⟩ := lay_row 25 (hostA Hst.zero) G B2 B2.size
    have R3 := L _ _ _ R2
    clear B0 B1 B2 d1 d2 R0 R1 R2 L
    go_wp2_with (first
      | (refine wpList_store_row rfl 25 _ _ rfl v2.heap.size G rfl rfl 25 _ T (by rw [HG.out]; exact infoHost) (by rw [HG.out]; rfl) HG1.out ?_)
      | (refine at_slot 14 rfl ?_; refine load_row rfl 25 _ rfl v2.heap.size rfl U Tryz.underlying25 rfl (by rw [HG.out]; exact infoHost) ?_)
      | (refine at_slot 15 rfl ?_; refine load_row rfl 25 _ rfl w.heap.size rfl R3 Tryz.underlying25 rfl (by rw [HH.out]; exact infoHost) ?_))
    go_ret
    exact ⟨rfl, C⟩
end Go.Proofs.YtkajddopjflniaaGreatDoor
