/- The walk of the reference's has: whether a pair is among some. -/
import Derived.Test.YtdidogcgoghdmaaDfaEq
import Derived.Test.YtdidogcgoghdmaaDfaSmall
namespace Go.Proofs.Ytdidogcgoghdmaa
open Go.RowKit
theorem take_not {L : List (Nat × Nat)} {p x : Nat × Nat} {k : Nat} (h : p ∉ L.take k) (hk : L[k]? = some x) (hx : decide (p = x) = false) : p ∉ L.take (k + 1) := by
  rw [List.take_add_one, hk, List.mem_append]
  rintro (e | e)
  · exact h e
  · have e : p = x := by simpa using e
    rw [decide_eq_true e] at hx
    exact absurd hx (by decide)
theorem zeroRef15 : (#[.int .i64 0, .int .i64 0] : Array Value).size = 2 := rfl
set_option maxRecDepth 100000 in
set_option maxHeartbeats 4000000 in
theorem has_calls15 (v : Value) (l : List (Nat × Nat)) (p : Nat × Nat) (w : World) (h : Lies pairA w v l) (hn : l.length ≤ 1000000) :
    Calls Try.prog 46 #[v, .agg (pairA p)] w fun e w' => e = .returned (.bool (decide (p ∈ l))) ∧ Below w.heap.size w w' := by
  have HV := Lib.hid h
  obtain ⟨A, cp, rfl, hcp, _⟩ := h
  have HEQ := Lib.hid (fun x W => eql_ref p x W)
  have HYes : Hid (∀ (k : Nat) x, l[k]? = some x → decide (p = x) = true → decide (p ∈ l) = true) := Lib.hid (fun k x h1 h2 => decide_eq_true (by rw [of_decide_eq_true h2]; exact List.mem_of_getElem? h1))
  have HNo : Hid (p ∉ l.take l.length → decide (p ∈ l) = false) := Lib.hid (fun h => decide_eq_false (by rw [List.take_length] at h; exact h))
  generalize decide (p ∈ l) = r at *
  obtain ⟨P, hP⟩ : ∃ P, pairA p = P := ⟨_, rfl⟩
  have HPN : Hid ((Try.prog.info? 58).map (·.size) = some P.size) := Lib.hid (by rw [← hP]; exact infoRef)
  rw [hP] at HEQ ⊢
  clear hP
  obtain ⟨n, hnn⟩ : ∃ n, l.length = n := ⟨_, rfl⟩
  have HNN := Lib.hid hnn
  rw [hnn] at hn hcp HNo HV ⊢
  have R0 := Row.new w 58 P
  have C1 := (Below.refl w.heap.size w).alloc (Nat.le_refl _) (.cells P 58)
  have HV1 := Lib.hid (HV.out.stays C1)
  clear hnn
  go_enter Try.func46, Try.ntmps46
  go_wp2_with fail
  generalize w.alloc (.cells P 58) = w1 at *
  go_loopw [9] (fun i wr => ∃ k : Nat, k ≤ n ∧ i = .int .i64 (k : Int) ∧ Hid (p ∉ l.take k) ∧ Below w.heap.size w wr ∧ Row wr w.heap.size 58 P) (fun i _ => n - (intOf i).toNat)
  case atStart => exact ⟨0, Nat.zero_le _, rfl, Lib.hid (by simp), C1, R0⟩
  case round =>
    obtain ⟨k, hk, rfl, HNI, hb, hR⟩ := hrel
    clear C1 R0
    by_cases hlt : k < n
    · obtain ⟨x, hx⟩ : ∃ x, l[k]? = some x := ⟨_, List.getElem?_eq_getElem (by rw [HNN.out]; exact hlt)⟩
      have hv2 := HV.out.stays hb
      obtain ⟨g, off, rfl, hg⟩ := hv2.block.2.2 (by rw [HNN.out]; omega)
      rw [← HNN.out] at hv2
      have HCE := Lib.hid (hv2.one (fun x _ => pairA_size x) hx)
      have HXI := Lib.hid hx
      have HEX := Lib.hid (fun W => HEQ.out x W)
      have HYX := Lib.hid (fun h => HYes.out k x hx h)
      have HNX := Lib.hid (fun h => take_not HNI.out hx h)
      obtain ⟨X, hX⟩ : ∃ X, pairA x = X := ⟨_, rfl⟩
      rw [hX] at HCE HEX
      have HXN := Lib.hid (show (Try.prog.info? 58).map (·.size) = some X.size by rw [← hX]; exact infoRef)
      have HXZ := Lib.hid (show (#[.int .i64 0, .int .i64 0] : Array Value).size = X.size by rw [← hX]; rfl)
      have HX1 := Lib.hid (show X.all (·.oneCell') = true by rw [← hX]; exact pairA_one _)
      obtain ⟨Z, U, D, L⟩ := lay_row 58 #[.int .i64 0, .int .i64 0] X (Below.refl wr.heap.size wr) (Nat.le_refl _)
      have R2 := L _ _ _ hR
      have b2 := hb.trans (D.mono hb.size)
      cases hq : decide (p = x) with
      | true =>
        have HZ := Lib.hid (HYX.out hq)
        have heq := HEX.out
        rw [hq] at heq
        clear L D hx hv2 hX hR hb hq HEX HYX HNX HYes HNo
        go_wp2_with (first
          | (refine at_slot 12 rfl ?_; refine load_span rfl 58 _ rfl g (off + k * 2) rfl X HCE.out Try.underlying58 rfl HXN.out ?_)
          | (refine at_store 58 (.tmp 6) (.tmp 12) rfl ?_; refine wpList_store_row rfl 58 _ _ rfl wr.heap.size X rfl rfl 58 _ Z HXN.out HXZ.out HX1.out ?_)
          | (refine at_slot 13 rfl ?_; refine load_row rfl 58 _ rfl w.heap.size rfl R2 Try.underlying58 rfl HPN.out ?_)
          | (refine at_slot 14 rfl ?_; refine load_row rfl 58 _ rfl wr.heap.size rfl U Try.underlying58 rfl HXN.out ?_))
        go_ret
        exact ⟨by rw [HZ.out]; rfl, b2⟩
      | false =>
        have HNK := Lib.hid (HNX.out hq)
        have heq := HEX.out
        rw [hq] at heq
        clear L D hx hv2 hX hR hb hq HEX HYX HNX HYes HNo
        go_wp2_with (first
          | (refine at_slot 12 rfl ?_; refine load_span rfl 58 _ rfl g (off + k * 2) rfl X HCE.out Try.underlying58 rfl HXN.out ?_)
          | (refine at_store 58 (.tmp 6) (.tmp 12) rfl ?_; refine wpList_store_row rfl 58 _ _ rfl wr.heap.size X rfl rfl 58 _ Z HXN.out HXZ.out HX1.out ?_)
          | (refine at_slot 13 rfl ?_; refine load_row rfl 58 _ rfl w.heap.size rfl R2 Try.underlying58 rfl HPN.out ?_)
          | (refine at_slot 14 rfl ?_; refine load_row rfl 58 _ rfl wr.heap.size rfl U Try.underlying58 rfl HXN.out ?_))
        go_roundw
        case rel => exact ⟨k + 1, by omega, by go_num, HNK, b2, R2⟩
        case measure => simp [intOf]; omega
    · have HZ := Lib.hid (HNo.out (by rw [show n = k by omega]; exact HNI.out))
      clear HYes HNo
      go_wp2
      go_ret
      exact ⟨by rw [HZ.out]; rfl, hb⟩
end Go.Proofs.Ytdidogcgoghdmaa
