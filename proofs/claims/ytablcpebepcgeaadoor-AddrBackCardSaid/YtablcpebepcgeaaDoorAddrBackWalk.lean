/- The walk of the law AddrBack. -/
import Derived.Test.YtablcpebepcgeaaDoorAddrAlive
import Derived.Test.YtablcpebepcgeaaDoorArrayEq
import Derived.Test.YtablcpebepcgeaaDoorAdrBackPlain
import Derived.Test.YtablcpebepcgeaaDoorV4
import Derived.Test.YtablcpebepcgeaaDoorText4
namespace Go.Proofs.YtablcpebepcgeaaDoor
open Go.RowKit
namespace Adr
theorem four {α : Type} {l : List α} (h : l.length = 4) : ∃ a b c d, l = [a, b, c, d] := by
  match l, h with
  | [a, b, c, d], _ => exact ⟨a, b, c, d, rfl⟩
def low (x0 x1 x2 x3 : UInt8) : List UInt8 := List.replicate 12 0 ++ [x0, x1, x2, x3]
theorem low_length (x0 x1 x2 x3 : UInt8) : (low x0 x1 x2 x3).length = 16 := rfl
end Adr
theorem back_six (a : List UInt8) (ha : a.length = 16) (w : World) (hw : Std w) (x : ByteArray) (hx : x = ⟨(Adr.tx6 (Adr.groups a)).toArray⟩) :
    Calls Tryd.prog 12 #[.string x] w fun e w' => e = .returned (.tuple #[.agg (bytesA a), .bool true]) ∧ Below w.heap.size w w' := by
  have hg := Adr.groups_length 8 a ha
  have hsz : x.size ≤ 1048576 := by
    have h1 := Adr.rowT_length (Adr.groups a)
    have h2 := Adr.rowT_length ((Adr.groups a).take (Adr.nf (Adr.groups a)))
    have h3 := Adr.rowT_length ((Adr.groups a).drop (Adr.nt (Adr.groups a)))
    rw [List.length_take] at h2
    rw [List.length_drop] at h3
    rw [hx]
    show (List.toArray _).size ≤ _
    rw [List.size_toArray]
    unfold Adr.tx6
    split
    · omega
    · rw [List.length_append, List.length_cons, List.length_cons]; omega
  have h := v6_calls x w hw hsz
  have e : x.data.toList = Adr.tx6 (Adr.groups a) := by rw [hx]
  rw [e, Adr.v6_tx6 hg] at h
  have e2 : Adr.addrOf (some (Adr.groups a)) = a := Adr.from_groups 8 a ha
  rw [e2] at h
  exact h
theorem back_four (l : List UInt8) (hl : l.length = 4) (w : World) (x : ByteArray) (hx : x = ⟨(Adr.tx4 l).toArray⟩) :
    Calls Tryd.prog 10 #[.string x] w fun e w' => e = .returned (.tuple #[.agg (bytesA (List.replicate 12 0 ++ l)), .bool true]) ∧ Below w.heap.size w w' := by
  have hsz : x.size ≤ 1048576 := by
    have h1 := Adr.join_length [46] rfl 3 (l.map fun c => Lib.decDigits c.toNat) (Adr.decs_small l)
    rw [hx]
    show (List.toArray _).size ≤ _
    rw [List.size_toArray]
    rw [List.length_map, hl] at h1
    unfold Adr.tx4
    omega
  have h := v4_calls x w hsz
  have e : x.data.toList = Adr.tx4 l := by rw [hx]
  rw [e, Adr.v4_tx4 hl] at h
  exact h

set_option maxRecDepth 100000 in
set_option maxHeartbeats 4000000 in
theorem back_walk (a : List UInt8) (w : World) (ha : a.length = 16) (hw : Std w) :
    Calls Tryd.prog 5 #[.agg (bytesA a)] w fun e w' => e = .returned (.bool true) ∧ Below w.heap.size w w' := by
  obtain ⟨x0, x1, x2, x3, hx⟩ := Adr.four (l := a.drop 12) (by rw [List.length_drop, ha])
  have hlow : List.replicate 12 0 ++ a.drop 12 = Adr.low x0 x1 x2 x3 := by rw [hx]; rfl
  have HA := Lib.hid alive_calls
  have HT6 := Lib.hid (fun W h => text6_calls a ha W h)
  have HT4 := Lib.hid (fun W h => text4_calls a ha W h)
  obtain ⟨X, hX⟩ : ∃ X : ByteArray, X = ⟨(Adr.tx6 (Adr.groups a)).toArray⟩ := ⟨_, rfl⟩
  obtain ⟨Y, hY⟩ : ∃ Y : ByteArray, Y = ⟨(Adr.tx4 (a.drop 12)).toArray⟩ := ⟨_, rfl⟩
  have HV6 := Lib.hid (fun W h => back_six a ha W h X hX)
  have hv4 := fun W => back_four (a.drop 12) (by rw [List.length_drop, ha]) W Y hY
  rw [hlow] at hv4
  have HV4 := Lib.hid hv4
  rw [← hX] at HT6
  rw [← hY] at HT4
  have at_ : ∀ (W : World) (g : Nat), Row W g 24 (bytesA a) → W.cell? ⟨g, 12, none⟩ = some (.int .u8 (x0.toNat : Int)) ∧ W.cell? ⟨g, 13, none⟩ = some (.int .u8 (x1.toNat : Int)) ∧ W.cell? ⟨g, 14, none⟩ = some (.int .u8 (x2.toNat : Int)) ∧ W.cell? ⟨g, 15, none⟩ = some (.int .u8 (x3.toNat : Int)) := by
    intro W g h
    have e : ∀ i c, (a.drop 12)[i]? = some c → W.cell? ⟨g, 12 + i, none⟩ = some (.int .u8 (c.toNat : Int)) := fun i c hc => by
      rw [h.cell, bytesA_at, ← List.getElem?_drop, hc]; rfl
    rw [hx] at e
    exact ⟨e 0 x0 rfl, e 1 x1 rfl, e 2 x2 rfl, e 3 x3 rfl⟩
  have HAT := Lib.hid at_
  have hset : (((((bytesA zA).setIfInBounds 12 (Value.int .u8 (x0.toNat : Int))).setIfInBounds 13 (Value.int .u8 (x1.toNat : Int))).setIfInBounds 14 (Value.int .u8 (x2.toNat : Int))).setIfInBounds 15 (Value.int .u8 (x3.toNat : Int))) = bytesA (Adr.low x0 x1 x2 x3) := by
    show (((((bytesA zA).setIfInBounds 12 (byteV x0)).setIfInBounds 13 (byteV x1)).setIfInBounds 14 (byteV x2)).setIfInBounds 15 (byteV x3)) = _
    rw [bytesA_set, bytesA_set, bytesA_set, bytesA_set]; rfl
  have q1 : ∀ W, (Op.equalIn 10000 24 (.agg (bytesA a)) (.agg (bytesA a))).run Tryd.prog W = .ok true W := fun W => by rw [eq_addr a a ha ha W]; simp
  have hll := Adr.low_length x0 x1 x2 x3
  have HL := Lib.hid (show (bytesA (Adr.low x0 x1 x2 x3)).size = 16 by rw [bytesA_size, hll])
  have HZ := Lib.hid (show (bytesA a).size = 16 by rw [bytesA_size, ha])
  generalize Adr.low x0 x1 x2 x3 = lw at *
  have q2 : ∀ W, (Op.equalIn 10000 24 (.agg (bytesA lw)) (.agg (bytesA lw))).run Tryd.prog W = .ok true W := fun W => by rw [eq_addr lw lw hll hll W]; simp
  clear hx hlow hX hY hv4 at_ hll ha
  have z1 := bytesA_zA
  have R0 := Row.new w 24 (bytesA a)
  have B0 := (Below.refl w.heap.size w).alloc (Nat.le_refl _) (.cells (bytesA a) 24)
  have S0 := hw.below B0
  go_enter Tryd.func5, Tryd.ntmps5
  go_wp2_with fail
  generalize w.alloc (.cells (bytesA a) 24) = w0 at *
  refine (HA.out _ S0).mono ?_
  rintro e w1 ⟨rfl, b1⟩
  have R1 := R0.stays b1
  have B1 := B0.trans (b1.mono B0.size)
  have S1 := hw.below B1
  clear R0 B0 b1 S0
  go_wp2_with (refine at_slot 11 rfl ?_; refine load_row rfl 24 _ rfl w.heap.size rfl R1 Tryd.underlying24 rfl (by rw [HZ.out]; exact infoAddr) ?_)
  refine (HT6.out _ S1).mono ?_
  rintro e w2 ⟨rfl, b2⟩
  have R2 := R1.stays b2
  have B2 := B1.trans (b2.mono B1.size)
  have S2 := hw.below B2
  clear R1 B1 b2 S1
  go_wp2_with fail
  refine (HV6.out _ S2).mono ?_
  rintro e w3 ⟨rfl, b3⟩
  have R3 := R2.stays b3
  have B3 := B2.trans (b3.mono B2.size)
  have s3 := B3.size
  have T3 := Row.new w3 24 (bytesA zA)
  have T4 := T3.whole (bytesA a)
  have ne : w.heap.size ≠ w3.heap.size := by have := R3.lt; omega
  have R4 := (R3.alloc (.cells (bytesA zA) 24)).aside ne (bytesA a)
  have B4 := below_setRow (B3.alloc s3 (.cells (bytesA zA) 24)) s3 (bytesA a)
  have S4 := hw.below B4
  clear R2 B2 b3 S2 R3 B3 ne
  go_wp2_with (first
    | (refine at_slot 17 rfl ?_; refine load_row rfl 24 _ rfl w.heap.size rfl R4 Tryd.underlying24 rfl (by rw [HZ.out]; exact infoAddr) ?_)
    | (refine wpList_store_row rfl 24 _ _ rfl w3.heap.size (bytesA a) rfl rfl 24 _ T3 (by rw [HZ.out]; exact infoAddr) (by rw [HZ.out]; rfl) (bytesA_one _) ?_))
  generalize (w3.alloc (.cells (bytesA zA) 24)).setRow w3.heap.size (bytesA a) = w4 at *
  refine (HT4.out _ S4).mono ?_
  rintro e w5 ⟨rfl, b5⟩
  have R5 := R4.stays b5
  have T5 := T4.stays b5
  have B5 := B4.trans (b5.mono B4.size)
  clear R4 T3 T4 B4 b5 S4
  go_wp2_with fail
  refine (HV4.out _).mono ?_
  rintro e w6 ⟨rfl, b6⟩
  have R6 := R5.stays b6
  have T6 := T5.stays b6
  have B6 := B5.trans (b6.mono B5.size)
  have s6 := B6.size
  generalize hn3 : w3.heap.size = n3 at *
  clear hn3
  have ne1 : w.heap.size ≠ w6.heap.size := by have := R6.lt; omega
  have ne2 : n3 ≠ w6.heap.size := by have := T6.lt; omega
  have U6 := Row.new w6 24 (bytesA zA)
  have U7 := U6.whole (bytesA lw)
  have R7 := (R6.alloc (.cells (bytesA zA) 24)).aside ne1 (bytesA lw)
  have T7 := (T6.alloc (.cells (bytesA zA) 24)).aside ne2 (bytesA lw)
  have B7 := below_setRow (B6.alloc s6 (.cells (bytesA zA) 24)) s6 (bytesA lw)
  obtain ⟨c0, c1, c2, c3⟩ := HAT.out _ _ R7
  clear R5 T5 B5 b6 R6 T6 B6
  have hsz : ((w6.alloc (.cells (bytesA zA) 24)).setRow w6.heap.size (bytesA lw)).heap.size = w6.heap.size + 1 := by simp
  have V7 := Row.new ((w6.alloc (.cells (bytesA zA) 24)).setRow w6.heap.size (bytesA lw)) 24 (bytesA zA)
  rw [hsz] at V7
  have l0 := R7.lt
  have l1 := T7.lt
  rw [hsz] at l0 l1
  have R8 := (R7.alloc (.cells (bytesA zA) 24)).aside (k := w6.heap.size + 1) (by omega) (bytesA lw)
  have T8 := (T7.alloc (.cells (bytesA zA) 24)).aside (k := w6.heap.size + 1) (by omega) (bytesA lw)
  have U8 := (U7.alloc (.cells (bytesA zA) 24)).aside (k := w6.heap.size + 1) (by omega) (bytesA lw)
  have V8 := V7.whole (bytesA lw)
  have B8 := below_setRow (B7.alloc B7.size (.cells (bytesA zA) 24)) (g := w6.heap.size + 1) (by omega) (bytesA lw)
  clear T7 U7 R7 hsz l0 l1 ne1 ne2
  go_wp2_with (first
    | (refine at_slot 33 rfl ?_; refine load_row rfl 24 _ rfl n3 rfl T8 Tryd.underlying24 rfl (by rw [HZ.out]; exact infoAddr) ?_)
    | (refine at_slot 34 rfl ?_; refine load_row rfl 24 _ rfl w.heap.size rfl R8 Tryd.underlying24 rfl (by rw [HZ.out]; exact infoAddr) ?_)
    | (refine at_slot 41 rfl ?_; refine load_row rfl 24 _ rfl w6.heap.size rfl U8 Tryd.underlying24 rfl (by rw [HL.out]; exact infoAddr) ?_)
    | (refine at_slot 42 rfl ?_; refine load_row rfl 24 _ rfl (w6.heap.size + 1) rfl V8 Tryd.underlying24 rfl (by rw [HL.out]; exact infoAddr) ?_)
    | (refine wpList_store_row rfl 24 _ _ rfl w6.heap.size (bytesA lw) rfl rfl 24 _ U6 (by rw [HL.out]; exact infoAddr) (by rw [HL.out]; rfl) (bytesA_one _) ?_)
    | (refine wpList_store_row rfl 24 _ _ rfl (w6.heap.size + 1) (bytesA lw) rfl rfl 24 _ V7 (by rw [HL.out]; exact infoAddr) (by rw [HL.out]; rfl) (bytesA_one _) ?_))
  go_ret
  exact ⟨rfl, B8⟩
end Go.Proofs.YtablcpebepcgeaaDoor
