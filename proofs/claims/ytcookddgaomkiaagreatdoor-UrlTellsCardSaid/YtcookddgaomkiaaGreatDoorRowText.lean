/- The walk of rowText, and Join of texts in a row. -/
import Derived.Test.YtcookddgaomkiaaGreatDoorHex
import Derived.Test.YtcookddgaomkiaaGreatDoorOctets
import Derived.Test.YtcookddgaomkiaaGreatDoorPlains
namespace Go.Proofs.YtcookddgaomkiaaGreatDoor
open Go.RowKit
/-- Texts that lie in a row, joined. -/
theorem join_calls (ps : List (List UInt8)) (sep : UInt8) (B : Nat) (w : World) (R : Row w B 9 (textsA ps)) (m : Nat) (hm : ∀ p ∈ ps, p.length ≤ m) (hm1 : m ≤ 1048576) (hn : ps.length ≤ 1048576) :
    Calls Tryz.prog 51 #[.slice (some ⟨B, 0, none⟩) ps.length ps.length, .string ⟨#[sep]⟩] w fun e w' => e = .returned (.string ⟨(Lib.join ps [sep]).toArray⟩) ∧ Below w.heap.size w w' := by
  have hl := Adr.join_length [sep] rfl m ps hm
  have h2 : (m + 1) * ps.length ≤ 1048577 * 1048576 := Nat.mul_le_mul (by omega) hn
  have e1 : ((ps.map fun p => (⟨p.toArray⟩ : ByteArray)).map (·.data.toList)) = ps := by rw [List.map_map]; exact List.map_id ps
  have e2 : (⟨#[sep]⟩ : ByteArray).data.toList = [sep] := rfl
  have h := Tryz.strings_Join B 0 ps.length (ps.map fun p => ⟨p.toArray⟩) ⟨#[sep]⟩ w (fun j x hx => by
    rw [Nat.zero_add, R.cell, textsA_at]
    rw [List.getElem?_map] at hx
    cases hp : ps[j]? with
    | none => rw [hp] at hx; cases hx
    | some p => rw [hp] at hx; rw [← Option.some.inj hx]; rfl) R.lt (by rw [List.length_map]; omega) (by rw [List.length_map]; exact Nat.le_refl _) (by rw [e1, e2]; omega)
  rw [List.length_map, e1, e2] at h
  exact h

set_option maxHeartbeats 1000000 in
theorem rowText_calls (g : List UInt16) (b o cap : Nat) (pre post : List UInt16) (t : TypeId) (w : World) (hw : Std w) (hg : g.length ≤ 1024) (R : Row w b t (wordsA (pre ++ g ++ post))) (ho : pre.length = o) (A : Addr) (hA : 0 < g.length → A = ⟨b, o, none⟩) :
    Calls Tryz.prog 54 #[.slice (some A) g.length cap] w fun e w' => e = .returned (.string ⟨(Adr.rowT g).toArray⟩) ∧ Below w.heap.size w w' := by
  go_enter Tryz.func54, Tryz.ntmps54
  have hmk := make_texts g.length (by omega) w
  have hlen := Adr.rowT_length g
  obtain ⟨ts, hts⟩ : ∃ ts, ts = g.map fun x => Adr.hexT x.toNat := ⟨_, rfl⟩
  have hl : ts.length = g.length := by rw [hts, List.length_map]
  have HTS := Lib.hid hts
  have HSM := Lib.hid (show ∀ p ∈ ts, p.length ≤ 4 by rw [hts]; exact Adr.hexes_small g)
  have HL := Lib.hid hl
  clear hts hl
  go_wp2
  have T0 := Row.new w 9 (textsA (List.replicate g.length []))
  rw [← Adr.fill_zero ts] at T0
  have R0 := R.alloc (.cells (textsA (Adr.fill ts [] g.length 0)) 9)
  have B0 := (Below.refl w.heap.size w).alloc (Nat.le_refl _) (.cells (textsA (Adr.fill ts [] g.length 0)) 9)
  have H0 := hw.below B0
  have sb := R.lt
  rw [← Adr.fill_zero ts]
  clear R hmk
  go_loopw [10] (fun i wr => ∃ k : Nat, k ≤ g.length ∧ i = .int .i64 k ∧ Row wr w.heap.size 9 (textsA (Adr.fill ts [] g.length k)) ∧ Row wr b t (wordsA (pre ++ g ++ post)) ∧ Std wr ∧ Below w.heap.size w wr) (fun i _ => g.length - (intOf i).toNat)
  case atStart => exact ⟨0, Nat.zero_le _, rfl, T0, R0, H0, B0⟩
  case round =>
    clear T0 R0 H0 B0
    obtain ⟨k, hk, rfl, T, R, H, hb⟩ := hrel
    by_cases hlt : k < g.length
    · obtain rfl := hA (by omega)
      obtain ⟨x, hx⟩ : ∃ x, g[k]? = some x := ⟨_, List.getElem?_eq_getElem hlt⟩
      have c0 : wr.cell? ⟨b, o + k, none⟩ = some (.int .u16 (x.toNat : Int)) := by
        rw [R.cell, wordsA_at, List.append_assoc, List.getElem?_append_right (by omega), List.getElem?_append_left (by omega)]
        have e : o + k - pre.length = k := by omega
        rw [e, hx]; rfl
      have hx1 := Adr.u16_lt x
      have HC := Lib.hid (format_calls x.toNat hx1 wr H)
      have HX := Lib.hid (show ts[k]? = some (Adr.hexT x.toNat) by rw [HTS.out, List.getElem?_map, hx]; rfl)
      have HF := Lib.hid (Adr.fill_length (z := ([] : List UInt8)) (k := k) HL.out hk)
      clear hx
      go_wp2_with (go_at_call 80; refine HC.out.mono ?_; rintro e w2 ⟨rfl, b2⟩; have T2 := T.stays b2; have R2 := R.stays b2; have H2 := H.below b2; have B2 := hb.trans (b2.mono hb.size); have s2 := B2.size; obtain ⟨u1, c1⟩ : ∃ u, w2.cell? ⟨w.heap.size, k, none⟩ = some u := ⟨_, by rw [T2.cell]; exact Array.getElem?_eq_getElem (by rw [textsA_size, HF.out]; exact hlt)⟩; have f1 := T2.free k)
      have T3 := T2.set k (strV (Adr.hexT x.toNat))
      rw [textsA_set, Adr.fill_set HL.out hlt HX.out] at T3
      have R3 := R2.other (p := ⟨w.heap.size, k, none⟩) (by simp; omega) (strV (Adr.hexT x.toNat))
      have B3 := B2.setCell (p := ⟨w.heap.size, k, none⟩) (Nat.le_refl _) (strV (Adr.hexT x.toNat))
      have H3 := hw.below B3
      go_roundw
      case rel => exact ⟨k + 1, by omega, by go_num, T3, R3, H3, B3⟩
      case measure => simp [intOf]; omega
    · have hkk : k = g.length := by omega
      subst hkk
      rw [Adr.fill_end HL.out] at T
      have HJ := Lib.hid (join_calls ts 58 w.heap.size wr T 4 HSM.out (by omega) (by rw [HL.out]; omega))
      rw [HL.out] at HJ
      have HR := Lib.hid (show Lib.join ts [58] = Adr.rowT g by rw [HTS.out]; rfl)
      rw [HR.out] at HJ
      go_wp2_with (go_at_call 51; refine HJ.out.mono ?_; rintro e w2 ⟨rfl, b2⟩)
      go_ret
      exact ⟨rfl, hb.trans (b2.mono hb.size)⟩
end Go.Proofs.YtcookddgaomkiaaGreatDoor
