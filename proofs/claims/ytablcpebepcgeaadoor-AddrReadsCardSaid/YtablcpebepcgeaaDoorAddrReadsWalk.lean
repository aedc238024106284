/- The walk of the law AddrReads. -/
import Derived.Test.YtablcpebepcgeaaDoorAddrAlive
import Derived.Test.YtablcpebepcgeaaDoorArrayEq
import Derived.Test.YtablcpebepcgeaaDoorRefV4
import Derived.Test.YtablcpebepcgeaaDoorRefV6
namespace Go.Proofs.YtablcpebepcgeaaDoor
open Go.RowKit
namespace Adr
theorem addr4_length (s : List UInt8) : (addr4 (v4 s)).length = 16 := by
  unfold v4
  split
  · next h => show (List.replicate 12 0 ++ _).length = 16; rw [List.length_append, List.length_replicate, List.length_map, h.1]
  · rfl
end Adr
/-- An address is laid in a block of its own: what lay before lies on. -/
theorem lay_addr {w w1 : World} {B : Nat} (hb : Below B w w1) (hB : B ≤ w1.heap.size) (a : List UInt8) :
    Row (w1.alloc (.cells (bytesA zA) 24)) w1.heap.size 24 (bytesA zA) ∧ Row ((w1.alloc (.cells (bytesA zA) 24)).setRow w1.heap.size (bytesA a)) w1.heap.size 24 (bytesA a) ∧ Below B w ((w1.alloc (.cells (bytesA zA) 24)).setRow w1.heap.size (bytesA a)) ∧
    ∀ g c, Row w1 g 24 (bytesA c) → Row ((w1.alloc (.cells (bytesA zA) 24)).setRow w1.heap.size (bytesA a)) g 24 (bytesA c) := by
  have T := Row.new w1 24 (bytesA zA)
  refine ⟨T, T.whole (bytesA a), below_setRow (hb.alloc hB _) hB (bytesA a), fun g c R => ?_⟩
  have hne : g ≠ w1.heap.size := by have := R.lt; omega
  exact (R.alloc _).aside hne (bytesA a)
set_option maxRecDepth 100000 in
set_option maxHeartbeats 4000000 in
theorem reads_walk (s : ByteArray) (w : World) (_hs : s.size ≤ maxLen) (hw : Std w) :
    Calls Tryd.prog 3 #[.string s] w fun e w' => e = .returned (.bool true) ∧ Below w.heap.size w w' := by
  have HA := Lib.hid alive_calls
  by_cases hlen : s.size ≤ 200
  · have H1 := Lib.hid (fun W => v4_calls s W (by omega))
    have H2 := Lib.hid (fun W => refV4_calls s W (by omega))
    have H3 := Lib.hid (fun W h => v6_calls s W h (by omega))
    have H4 := Lib.hid (fun W => refV6_calls s W hlen)
    have ha : (Adr.addr4 (Adr.v4 s.data.toList)).length = 16 := Adr.addr4_length s.data.toList
    have hc : (Adr.addrOf (Adr.v6 s.data.toList)).length = 16 := Adr.addrOf_length s.data.toList
    generalize Adr.addr4 (Adr.v4 s.data.toList) = a at *
    generalize (Adr.v4 s.data.toList).isSome = oa at *
    generalize Adr.addrOf (Adr.v6 s.data.toList) = c at *
    generalize (Adr.v6 s.data.toList).isSome = oc at *
    have q1 : ∀ W, (Op.equalIn 10000 24 (.agg (bytesA a)) (.agg (bytesA a))).run Tryd.prog W = .ok true W := fun W => by rw [eq_addr a a ha ha W]; simp
    have q2 : ∀ W, (Op.equalIn 10000 24 (.agg (bytesA c)) (.agg (bytesA c))).run Tryd.prog W = .ok true W := fun W => by rw [eq_addr c c hc hc W]; simp
    have HZA := Lib.hid (show (bytesA a).size = 16 by rw [bytesA_size, ha])
    have HZC := Lib.hid (show (bytesA c).size = 16 by rw [bytesA_size, hc])
    have z1 := bytesA_zA
    clear ha hc
    go_enter Tryd.func3, Tryd.ntmps3
    go_wp2_with fail
    refine (HA.out _ hw).mono ?_
    rintro e w1 ⟨rfl, b1⟩
    have s1 := b1.size
    go_wp2_with fail
    refine (H1.out _).mono ?_
    rintro e v1 ⟨rfl, d1⟩
    have e1 := b1.trans (d1.mono b1.size)
    obtain ⟨T1, U1, C1, L1⟩ := lay_addr e1 e1.size a
    clear b1 d1 e1 L1
    go_wp2_with (refine wpList_store_row rfl 24 _ _ rfl v1.heap.size (bytesA a) rfl rfl 24 _ T1 (by rw [HZA.out]; exact infoAddr) (by rw [HZA.out]; rfl) (bytesA_one _) ?_)
    generalize (v1.alloc (.cells (bytesA zA) 24)).setRow v1.heap.size (bytesA a) = u1 at *
    clear T1
    generalize hn1 : v1.heap.size = n1 at *
    clear hn1
    refine (H2.out _).mono ?_
    rintro e v2 ⟨rfl, d2⟩
    have e2 := C1.trans (d2.mono C1.size)
    obtain ⟨T2, U2, C2, L2⟩ := lay_addr e2 e2.size a
    have U1x2 := L2 _ _ (U1.stays d2)
    clear U1
    clear C1 d2 e2 L2
    go_wp2_with (refine wpList_store_row rfl 24 _ _ rfl v2.heap.size (bytesA a) rfl rfl 24 _ T2 (by rw [HZA.out]; exact infoAddr) (by rw [HZA.out]; rfl) (bytesA_one _) ?_)
    generalize (v2.alloc (.cells (bytesA zA) 24)).setRow v2.heap.size (bytesA a) = u2 at *
    clear T2
    generalize hn2 : v2.heap.size = n2 at *
    clear hn2
    refine (H3.out _ (hw.below C2)).mono ?_
    rintro e v3 ⟨rfl, d3⟩
    have e3 := C2.trans (d3.mono C2.size)
    obtain ⟨T3, U3, C3, L3⟩ := lay_addr e3 e3.size c
    have U1x2x3 := L3 _ _ (U1x2.stays d3)
    have U2x3 := L3 _ _ (U2.stays d3)
    clear U1x2
    clear U2
    clear C2 d3 e3 L3
    go_wp2_with (refine wpList_store_row rfl 24 _ _ rfl v3.heap.size (bytesA c) rfl rfl 24 _ T3 (by rw [HZC.out]; exact infoAddr) (by rw [HZC.out]; rfl) (bytesA_one _) ?_)
    generalize (v3.alloc (.cells (bytesA zA) 24)).setRow v3.heap.size (bytesA c) = u3 at *
    clear T3
    generalize hn3 : v3.heap.size = n3 at *
    clear hn3
    refine (H4.out _).mono ?_
    rintro e v4 ⟨rfl, d4⟩
    have e4 := C3.trans (d4.mono C3.size)
    obtain ⟨T4, U4, C4, L4⟩ := lay_addr e4 e4.size c
    have U1x2x3x4 := L4 _ _ (U1x2x3.stays d4)
    have U2x3x4 := L4 _ _ (U2x3.stays d4)
    have U3x4 := L4 _ _ (U3.stays d4)
    clear U1x2x3
    clear U2x3
    clear U3
    clear C3 d4 e4 L4
    cases oa <;> cases oc
    all_goals
      go_wp2_with (first
        | (refine at_slot 36 rfl ?_; refine load_row rfl 24 _ rfl n1 rfl U1x2x3x4 Tryd.underlying24 rfl (by rw [HZA.out]; exact infoAddr) ?_)
        | (refine at_slot 37 rfl ?_; refine load_row rfl 24 _ rfl n2 rfl U2x3x4 Tryd.underlying24 rfl (by rw [HZA.out]; exact infoAddr) ?_)
        | (refine at_slot 45 rfl ?_; refine load_row rfl 24 _ rfl n3 rfl U3x4 Tryd.underlying24 rfl (by rw [HZC.out]; exact infoAddr) ?_)
        | (refine at_slot 46 rfl ?_; refine load_row rfl 24 _ rfl v4.heap.size rfl U4 Tryd.underlying24 rfl (by rw [HZC.out]; exact infoAddr) ?_)
        | (refine wpList_store_row rfl 24 _ _ rfl v4.heap.size (bytesA c) rfl rfl 24 _ T4 (by rw [HZC.out]; exact infoAddr) (by rw [HZC.out]; rfl) (bytesA_one _) ?_))
      go_ret
      exact ⟨rfl, C4⟩
  · go_enter Tryd.func3, Tryd.ntmps3
    go_wp2_with fail
    refine (HA.out _ hw).mono ?_
    rintro e w1 ⟨rfl, b1⟩
    go_wp2
    go_ret
    exact ⟨rfl, b1⟩
end Go.Proofs.YtablcpebepcgeaaDoor
