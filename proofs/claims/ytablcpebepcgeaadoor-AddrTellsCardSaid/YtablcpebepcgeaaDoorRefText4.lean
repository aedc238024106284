/- The walk of the reference's Text4. -/
import Derived.Test.YtablcpebepcgeaaDoorRefDec
import Derived.Test.YtablcpebepcgeaaDoorAdrBackPlain
namespace Go.Proofs.YtablcpebepcgeaaDoor
open Go.RowKit
/-- The last four bytes of an address lie in a block. -/
structure KeptF (n0 : Nat) (x0 x1 x2 x3 : UInt8) (w w' : World) : Prop where
  c0 : w'.cell? ⟨n0, 12, none⟩ = some (.int .u8 (x0.toNat : Int))
  c1 : w'.cell? ⟨n0, 13, none⟩ = some (.int .u8 (x1.toNat : Int))
  c2 : w'.cell? ⟨n0, 14, none⟩ = some (.int .u8 (x2.toNat : Int))
  c3 : w'.cell? ⟨n0, 15, none⟩ = some (.int .u8 (x3.toNat : Int))
  below : Below w.heap.size w w'
theorem KeptF.on {n0 : Nat} {x0 x1 x2 x3 : UInt8} {w w' w'' : World} (h : KeptF n0 x0 x1 x2 x3 w w') (hb : Below w'.heap.size w' w'') : KeptF n0 x0 x1 x2 x3 w w'' :=
  ⟨(hb.cell (block_lt_of_cell h.c0)).trans h.c0, (hb.cell (block_lt_of_cell h.c1)).trans h.c1, (hb.cell (block_lt_of_cell h.c2)).trans h.c2, (hb.cell (block_lt_of_cell h.c3)).trans h.c3, h.below.trans (hb.mono h.below.size)⟩
set_option maxRecDepth 100000 in
set_option maxHeartbeats 1500000 in
theorem refText4_calls (a : List UInt8) (ha : a.length = 16) (w : World) :
    Calls Tryd.prog 17 #[.agg (bytesA a)] w fun e w' => e = .returned (.string ⟨(Adr.tx4 (a.drop 12)).toArray⟩) ∧ Below w.heap.size w w' := by
  obtain ⟨x0, x1, x2, x3, hx⟩ : ∃ x0 x1 x2 x3, a.drop 12 = [x0, x1, x2, x3] := by
    have h4 : (a.drop 12).length = 4 := by rw [List.length_drop, ha]
    match a.drop 12, h4 with
    | [x0, x1, x2, x3], _ => exact ⟨x0, x1, x2, x3, rfl⟩
  obtain ⟨X0, hX0⟩ : ∃ X : ByteArray, X = ⟨(Lib.decDigits x0.toNat).toArray⟩ := ⟨_, rfl⟩
  have z0 : X0.size ≤ 3 := by rw [hX0]; show (List.toArray _).size ≤ 3; rw [List.size_toArray]; exact Adr.decT_length _ x0.toNat_lt
  have b0 := x0.toNat_lt
  have h0 := fun W => refDec_calls x0.toNat x0.toNat_lt W
  unfold DecText at h0
  rw [← hX0] at h0
  have H0 := Lib.hid h0
  obtain ⟨X1, hX1⟩ : ∃ X : ByteArray, X = ⟨(Lib.decDigits x1.toNat).toArray⟩ := ⟨_, rfl⟩
  have z1 : X1.size ≤ 3 := by rw [hX1]; show (List.toArray _).size ≤ 3; rw [List.size_toArray]; exact Adr.decT_length _ x1.toNat_lt
  have b1 := x1.toNat_lt
  have h1 := fun W => refDec_calls x1.toNat x1.toNat_lt W
  unfold DecText at h1
  rw [← hX1] at h1
  have H1 := Lib.hid h1
  obtain ⟨X2, hX2⟩ : ∃ X : ByteArray, X = ⟨(Lib.decDigits x2.toNat).toArray⟩ := ⟨_, rfl⟩
  have z2 : X2.size ≤ 3 := by rw [hX2]; show (List.toArray _).size ≤ 3; rw [List.size_toArray]; exact Adr.decT_length _ x2.toNat_lt
  have b2 := x2.toNat_lt
  have h2 := fun W => refDec_calls x2.toNat x2.toNat_lt W
  unfold DecText at h2
  rw [← hX2] at h2
  have H2 := Lib.hid h2
  obtain ⟨X3, hX3⟩ : ∃ X : ByteArray, X = ⟨(Lib.decDigits x3.toNat).toArray⟩ := ⟨_, rfl⟩
  have z3 : X3.size ≤ 3 := by rw [hX3]; show (List.toArray _).size ≤ 3; rw [List.size_toArray]; exact Adr.decT_length _ x3.toNat_lt
  have b3 := x3.toNat_lt
  have h3 := fun W => refDec_calls x3.toNat x3.toNat_lt W
  unfold DecText at h3
  rw [← hX3] at h3
  have H3 := Lib.hid h3
  have HR := Lib.hid (show X0 ++ ⟨#[46]⟩ ++ X1 ++ ⟨#[46]⟩ ++ X2 ++ ⟨#[46]⟩ ++ X3 = ⟨(Adr.tx4 (a.drop 12)).toArray⟩ by
    rw [hX0, hX1, hX2, hX3, hx]
    apply ByteArray.ext
    simp [ByteArray.data_append, Adr.tx4, Adr.join_step, Lib.join_one])
  have cs : (⟨#[46]⟩ : ByteArray).size = 1 := rfl
  have q0 : ¬ 9223372036854775807 < X0.size + 1 := by omega
  have q1 : ¬ 9223372036854775807 < X0.size + 1 + X1.size := by omega
  have q2 : ¬ 9223372036854775807 < X0.size + 1 + X1.size + 1 := by omega
  have q3 : ¬ 9223372036854775807 < X0.size + 1 + X1.size + 1 + X2.size := by omega
  have q4 : ¬ 9223372036854775807 < X0.size + 1 + X1.size + 1 + X2.size + 1 := by omega
  have q5 : ¬ 9223372036854775807 < X0.size + 1 + X1.size + 1 + X2.size + 1 + X3.size := by omega
  have K0 : KeptF w.heap.size x0 x1 x2 x3 w (w.alloc (.cells (bytesA a) 24)) := by
    have R0 := Row.new w 24 (bytesA a)
    have e : ∀ i c, (a.drop 12)[i]? = some c → (w.alloc (.cells (bytesA a) 24)).cell? ⟨w.heap.size, 12 + i, none⟩ = some (.int .u8 (c.toNat : Int)) := fun i c hc => by
      rw [R0.cell, bytesA_at, ← List.getElem?_drop, hc]; rfl
    rw [hx] at e
    exact ⟨e 0 x0 rfl, e 1 x1 rfl, e 2 x2 rfl, e 3 x3 rfl, (Below.refl w.heap.size w).alloc (Nat.le_refl _) _⟩
  clear hX0 hX1 hX2 hX3 h0 h1 h2 h3 hx ha
  have HK : Hid (∀ W W', (W.cell? ⟨w.heap.size, 12, none⟩ = some (.int .u8 (x0.toNat : Int)) ∧ W.cell? ⟨w.heap.size, 13, none⟩ = some (.int .u8 (x1.toNat : Int)) ∧ W.cell? ⟨w.heap.size, 14, none⟩ = some (.int .u8 (x2.toNat : Int)) ∧ W.cell? ⟨w.heap.size, 15, none⟩ = some (.int .u8 (x3.toNat : Int)) ∧ Below w.heap.size w W) → Below W.heap.size W W' → (W'.cell? ⟨w.heap.size, 12, none⟩ = some (.int .u8 (x0.toNat : Int)) ∧ W'.cell? ⟨w.heap.size, 13, none⟩ = some (.int .u8 (x1.toNat : Int)) ∧ W'.cell? ⟨w.heap.size, 14, none⟩ = some (.int .u8 (x2.toNat : Int)) ∧ W'.cell? ⟨w.heap.size, 15, none⟩ = some (.int .u8 (x3.toNat : Int)) ∧ Below w.heap.size w W')) := Lib.hid fun W W' ⟨c0, c1, c2, c3, h⟩ b => by
    have k := (KeptF.mk (n0 := w.heap.size) c0 c1 c2 c3 h).on b
    exact ⟨k.c0, k.c1, k.c2, k.c3, k.below⟩
  have C0 : Hid (∀ W, (W.cell? ⟨w.heap.size, 12, none⟩ = some (.int .u8 (x0.toNat : Int)) ∧ W.cell? ⟨w.heap.size, 13, none⟩ = some (.int .u8 (x1.toNat : Int)) ∧ W.cell? ⟨w.heap.size, 14, none⟩ = some (.int .u8 (x2.toNat : Int)) ∧ W.cell? ⟨w.heap.size, 15, none⟩ = some (.int .u8 (x3.toNat : Int)) ∧ Below w.heap.size w W) → Calls Tryd.prog 31 #[.int .i64 (IntKind.i64.wrap (x0.toNat : Int))] W fun e W' => e = .returned (.string X0) ∧ (W'.cell? ⟨w.heap.size, 12, none⟩ = some (.int .u8 (x0.toNat : Int)) ∧ W'.cell? ⟨w.heap.size, 13, none⟩ = some (.int .u8 (x1.toNat : Int)) ∧ W'.cell? ⟨w.heap.size, 14, none⟩ = some (.int .u8 (x2.toNat : Int)) ∧ W'.cell? ⟨w.heap.size, 15, none⟩ = some (.int .u8 (x3.toNat : Int)) ∧ Below w.heap.size w W')) := Lib.hid fun W h => by rw [show IntKind.i64.wrap (x0.toNat : Int) = (x0.toNat : Int) by rw [IntKind.wrap_i64]; omega]; exact (H0.out W).mono fun e W' hh => ⟨hh.1, HK.out _ _ h hh.2⟩
  have C1 : Hid (∀ W, (W.cell? ⟨w.heap.size, 12, none⟩ = some (.int .u8 (x0.toNat : Int)) ∧ W.cell? ⟨w.heap.size, 13, none⟩ = some (.int .u8 (x1.toNat : Int)) ∧ W.cell? ⟨w.heap.size, 14, none⟩ = some (.int .u8 (x2.toNat : Int)) ∧ W.cell? ⟨w.heap.size, 15, none⟩ = some (.int .u8 (x3.toNat : Int)) ∧ Below w.heap.size w W) → Calls Tryd.prog 31 #[.int .i64 (IntKind.i64.wrap (x1.toNat : Int))] W fun e W' => e = .returned (.string X1) ∧ (W'.cell? ⟨w.heap.size, 12, none⟩ = some (.int .u8 (x0.toNat : Int)) ∧ W'.cell? ⟨w.heap.size, 13, none⟩ = some (.int .u8 (x1.toNat : Int)) ∧ W'.cell? ⟨w.heap.size, 14, none⟩ = some (.int .u8 (x2.toNat : Int)) ∧ W'.cell? ⟨w.heap.size, 15, none⟩ = some (.int .u8 (x3.toNat : Int)) ∧ Below w.heap.size w W')) := Lib.hid fun W h => by rw [show IntKind.i64.wrap (x1.toNat : Int) = (x1.toNat : Int) by rw [IntKind.wrap_i64]; omega]; exact (H1.out W).mono fun e W' hh => ⟨hh.1, HK.out _ _ h hh.2⟩
  have C2 : Hid (∀ W, (W.cell? ⟨w.heap.size, 12, none⟩ = some (.int .u8 (x0.toNat : Int)) ∧ W.cell? ⟨w.heap.size, 13, none⟩ = some (.int .u8 (x1.toNat : Int)) ∧ W.cell? ⟨w.heap.size, 14, none⟩ = some (.int .u8 (x2.toNat : Int)) ∧ W.cell? ⟨w.heap.size, 15, none⟩ = some (.int .u8 (x3.toNat : Int)) ∧ Below w.heap.size w W) → Calls Tryd.prog 31 #[.int .i64 (IntKind.i64.wrap (x2.toNat : Int))] W fun e W' => e = .returned (.string X2) ∧ (W'.cell? ⟨w.heap.size, 12, none⟩ = some (.int .u8 (x0.toNat : Int)) ∧ W'.cell? ⟨w.heap.size, 13, none⟩ = some (.int .u8 (x1.toNat : Int)) ∧ W'.cell? ⟨w.heap.size, 14, none⟩ = some (.int .u8 (x2.toNat : Int)) ∧ W'.cell? ⟨w.heap.size, 15, none⟩ = some (.int .u8 (x3.toNat : Int)) ∧ Below w.heap.size w W')) := Lib.hid fun W h => by rw [show IntKind.i64.wrap (x2.toNat : Int) = (x2.toNat : Int) by rw [IntKind.wrap_i64]; omega]; exact (H2.out W).mono fun e W' hh => ⟨hh.1, HK.out _ _ h hh.2⟩
  have C3 : Hid (∀ W, (W.cell? ⟨w.heap.size, 12, none⟩ = some (.int .u8 (x0.toNat : Int)) ∧ W.cell? ⟨w.heap.size, 13, none⟩ = some (.int .u8 (x1.toNat : Int)) ∧ W.cell? ⟨w.heap.size, 14, none⟩ = some (.int .u8 (x2.toNat : Int)) ∧ W.cell? ⟨w.heap.size, 15, none⟩ = some (.int .u8 (x3.toNat : Int)) ∧ Below w.heap.size w W) → Calls Tryd.prog 31 #[.int .i64 (IntKind.i64.wrap (x3.toNat : Int))] W fun e W' => e = .returned (.string X3) ∧ (W'.cell? ⟨w.heap.size, 12, none⟩ = some (.int .u8 (x0.toNat : Int)) ∧ W'.cell? ⟨w.heap.size, 13, none⟩ = some (.int .u8 (x1.toNat : Int)) ∧ W'.cell? ⟨w.heap.size, 14, none⟩ = some (.int .u8 (x2.toNat : Int)) ∧ W'.cell? ⟨w.heap.size, 15, none⟩ = some (.int .u8 (x3.toNat : Int)) ∧ Below w.heap.size w W')) := Lib.hid fun W h => by rw [show IntKind.i64.wrap (x3.toNat : Int) = (x3.toNat : Int) by rw [IntKind.wrap_i64]; omega]; exact (H3.out W).mono fun e W' hh => ⟨hh.1, HK.out _ _ h hh.2⟩
  go_enter Tryd.func17, Tryd.ntmps17
  go_wp2_with fail
  generalize w.alloc (.cells (bytesA a) 24) = w0 at *
  have K1 : w0.drew.cell? ⟨w.heap.size, 12, none⟩ = some (.int .u8 (x0.toNat : Int)) ∧ w0.drew.cell? ⟨w.heap.size, 13, none⟩ = some (.int .u8 (x1.toNat : Int)) ∧ w0.drew.cell? ⟨w.heap.size, 14, none⟩ = some (.int .u8 (x2.toNat : Int)) ∧ w0.drew.cell? ⟨w.heap.size, 15, none⟩ = some (.int .u8 (x3.toNat : Int)) ∧ Below w.heap.size w w0.drew := HK.out _ _ ⟨K0.c0, K0.c1, K0.c2, K0.c3, K0.below⟩ (Below.refl _ _).drew
  clear K0 H0 H1 H2 H3
  go_region_held3 (fun W' => W'.cell? ⟨w.heap.size, 12, none⟩ = some (.int .u8 (x0.toNat : Int)) ∧ W'.cell? ⟨w.heap.size, 13, none⟩ = some (.int .u8 (x1.toNat : Int)) ∧ W'.cell? ⟨w.heap.size, 14, none⟩ = some (.int .u8 (x2.toNat : Int)) ∧ W'.cell? ⟨w.heap.size, 15, none⟩ = some (.int .u8 (x3.toNat : Int)) ∧ Below w.heap.size w W') (assumption) ((first
    | (go_at_call_of 31 (Value.int .i64 (IntKind.i64.wrap (x0.toNat : Int))); refine (C0.out _ (by assumption)).mono ?_; rintro e w4 ⟨rfl, K4⟩)
    | (go_at_call_of 31 (Value.int .i64 (IntKind.i64.wrap (x1.toNat : Int))); refine (C1.out _ (by assumption)).mono ?_; rintro e w4 ⟨rfl, K4⟩)
    | (go_at_call_of 31 (Value.int .i64 (IntKind.i64.wrap (x2.toNat : Int))); refine (C2.out _ (by assumption)).mono ?_; rintro e w4 ⟨rfl, K4⟩)
    | (go_at_call_of 31 (Value.int .i64 (IntKind.i64.wrap (x3.toNat : Int))); refine (C3.out _ (by assumption)).mono ?_; rintro e w4 ⟨rfl, K4⟩)))
  all_goals
    go_wp2
    go_ret
    rename_i K4 _
    exact ⟨ret_str HR.out, by exact K4.2.2.2.2⟩
end Go.Proofs.YtablcpebepcgeaaDoor
