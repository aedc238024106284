/- The walk of the reference's At: where a cookie stands in a list. -/
import Derived.Test.YtnepgibjijdheaaShelfAt
import Derived.Test.YtnepgibjijdheaaMatchAhead
namespace Go.Proofs.Ytnepgibjijdheaa
open Go.RowKit
/-- Where a cookie stands, as a number; -1: nowhere. -/
def Sh.placeI (s : Sh.Shelf) (c : Ma.Cookie) : Int := match Sh.place s c with | some i => (i : Int) | none => -1
theorem placeI_at {s : Sh.Shelf} {c : Ma.Cookie} {k : Nat} {x : Sh.Kept} (h : ∀ y ∈ s.l.take k, Sh.hit c y = false) (hk : s.l[k]? = some x) (hx : Sh.hit c x = true) : Sh.placeI s c = (k : Int) := by
  obtain ⟨hl, he⟩ := List.getElem?_eq_some_iff.1 hk
  have e : Sh.place s c = some k := by
    unfold Sh.place
    rw [List.findIdx?_eq_some_iff_getElem]
    refine ⟨hl, by rw [he]; exact hx, fun j hj => ?_⟩
    have := h s.l[j] (List.mem_iff_getElem?.2 ⟨j, by rw [List.getElem?_take, if_pos hj, List.getElem?_eq_getElem]⟩)
    rw [this]; simp
  unfold Sh.placeI
  rw [e]
theorem placeI_none {s : Sh.Shelf} {c : Ma.Cookie} (h : ∀ y ∈ s.l.take s.l.length, Sh.hit c y = false) : Sh.placeI s c = -1 := by
  have e : Sh.place s c = none := by
    unfold Sh.place
    rw [List.findIdx?_eq_none_iff]
    rw [List.take_length] at h
    intro x hx
    rw [h x hx]
  unfold Sh.placeI
  rw [e]
theorem keptA_sizes {L : List Sh.Kept} (h : AllOk L) : ∀ k ∈ L, (keptA k).size = 30 := fun k hk => keptA_size k (h k hk).addr
theorem take_more {L : List Sh.Kept} {p : Sh.Kept → Bool} {k : Nat} {x : Sh.Kept} {b : Bool} (h : ∀ y ∈ L.take k, p y = b) (hk : L[k]? = some x) (hx : p x = b) : ∀ y ∈ L.take (k + 1), p y = b := by
  rw [List.take_add_one, hk]
  intro y hy
  rcases List.mem_append.1 hy with e | e
  · exact h y e
  · rw [show y = x by simpa using e]; exact hx
set_option maxRecDepth 100000 in
set_option maxHeartbeats 4000000 in
theorem refAt_calls (s : Sh.Shelf) (c : Ma.Cookie) (hc : c.host.addr.length = 16) (v : Value) (w : World) (ho : AllOk s.l) (hv : Lies keptA w v s.l) (hn : s.l.length ≤ 1000000) :
    Calls Try.prog 20 #[.agg #[v, .int .i64 s.last], .agg (cookieA c)] w fun e w' => e = .returned (.int .i64 (Sh.placeI s c)) ∧ Below w.heap.size w w' := by
  have z1 := zeroKept
  have HC := Lib.hid (show (Try.prog.info? 34).map (·.size) = some (cookieA c).size by rw [cookieA_size c hc]; exact infoCookie)
  have HV := Lib.hid hv
  have HOK := Lib.hid ho
  have HPA := Lib.hid (fun k x h1 h2 h3 => placeI_at (s := s) (c := c) (k := k) (x := x) h1 h2 h3)
  have HPN := Lib.hid (fun h => placeI_none (s := s) (c := c) h)
  have HKY := Lib.hid (fun (x : Sh.Kept) (hx : x ∈ s.l) W => refKey_calls x.c c (ho x hx).addr hc W)
  generalize Sh.placeI s c = pi at *
  obtain ⟨A, cp, rfl, hcp, _⟩ := hv
  obtain ⟨n, hnn⟩ : ∃ n, s.l.length = n := ⟨_, rfl⟩
  have HNN := Lib.hid hnn
  rw [hnn] at hn hcp HPN HV ⊢
  have R0 := (Row.new w 28 #[.slice A n cp, .int .i64 s.last]).alloc (.cells (cookieA c) 34)
  have hN : (w.alloc (.cells #[.slice A n cp, .int .i64 s.last] 28)).heap.size = w.heap.size + 1 := by simp
  have S0 := Row.new (w.alloc (.cells #[.slice A n cp, .int .i64 s.last] 28)) 34 (cookieA c)
  rw [hN] at S0
  have C1 := ((Below.refl w.heap.size w).alloc (Nat.le_refl _) (.cells #[.slice A n cp, .int .i64 s.last] 28)).alloc (by rw [hN]; omega) (.cells (cookieA c) 34)
  have c0 : ((w.alloc (.cells #[.slice A n cp, .int .i64 s.last] 28)).alloc (.cells (cookieA c) 34)).cell? ⟨w.heap.size, 0, none⟩ = some (.slice A n cp) := R0.cell 0
  clear hnn ho hN R0
  go_enter Try.func20, Try.ntmps20
  go_wp2_with fail
  go_loopw [10] (fun i wr => ∃ k : Nat, k ≤ n ∧ i = .int .i64 (k : Int) ∧ (∀ y ∈ s.l.take k, Sh.hit c y = false) ∧ Below w.heap.size w wr ∧ Row wr (w.heap.size + 1) 34 (cookieA c)) (fun i _ => n - (intOf i).toNat)
  case atStart => exact ⟨0, Nat.zero_le _, rfl, (fun y hy => by simp at hy), C1, S0⟩
  case round =>
    obtain ⟨k, hk, rfl, hno, hb, hR⟩ := hrel
    clear C1 S0 c0
    by_cases hlt : k < n
    · obtain ⟨x, hx⟩ : ∃ x, s.l[k]? = some x := ⟨_, List.getElem?_eq_getElem (by rw [HNN.out]; exact hlt)⟩
      have hxm := List.mem_of_getElem? hx
      have ko := HOK.out x hxm
      have hv2 := HV.out.stays hb
      have hcc := hv2.block.2.1
      obtain ⟨g, off, rfl, hg⟩ := hv2.block.2.2 (by rw [HNN.out]; omega)
      rw [← HNN.out] at hv2
      have HCE := Lib.hid (hv2.one (keptA_sizes HOK.out) hx)
      have HNO := Lib.hid hno
      have HXI := Lib.hid hx
      obtain ⟨X, hX⟩ : ∃ X, keptA x = X := ⟨_, rfl⟩
      rw [hX] at HCE
      have HXN := Lib.hid (show (Try.prog.info? 59).map (·.size) = some X.size by rw [← hX, keptA_size _ ko.addr]; exact infoKeptR)
      have HXZ := Lib.hid (show (keptA Sh.zeroK).size = X.size by rw [← hX, keptA_size _ ko.addr]; rfl)
      have HX1 := Lib.hid (show X.all (·.oneCell') = true by rw [← hX]; exact keptA_one _)
      have HX29 := Lib.hid (show 0 + 29 ≤ X.size by rw [← hX, keptA_size _ ko.addr]; decide)
      have HXY := Lib.hid (show X.extract 0 (0 + 29) = cookieA x.c by rw [← hX]; exact keptA_cookie _ ko.addr)
      have HK := Lib.hid (fun W => HKY.out x hxm W)
      obtain ⟨q, hq⟩ : ∃ q, Ma.key x.c c = q := ⟨_, rfl⟩
      have HQ : Hid (Sh.hit c x = q) := Lib.hid hq
      rw [hq] at HK
      obtain ⟨Z, U, D, L⟩ := lay_row 59 (keptA Sh.zeroK) X (Below.refl wr.heap.size wr) (Nat.le_refl _)
      have R2 := L _ _ _ hR
      have b2 := hb.trans (D.mono hb.size)
      clear L D hno hx hv2 hX hq hR hb
      go_wp2_with (first
        | (refine at_slot 14 rfl ?_; refine load_span rfl 59 _ rfl g (off + k * 30) rfl X HCE.out Try.underlying59 rfl HXN.out ?_)
        | (refine at_store 59 (.tmp 6) (.tmp 14) rfl ?_; refine wpList_store_row rfl 59 _ _ rfl wr.heap.size X rfl rfl 59 _ Z HXN.out HXZ.out HX1.out ?_)
        | (refine at_slot 16 rfl ?_; refine load_part rfl 34 _ rfl wr.heap.size 0 29 rfl U Try.underlying34 rfl infoCookie HX29.out (cookieA x.c) HXY.out ?_)
        | (refine at_slot 17 rfl ?_; refine load_row rfl 34 _ rfl (w.heap.size + 1) rfl R2 Try.underlying34 rfl HC.out ?_))
      cases q with
      | true =>
        have HE := Lib.hid (HPA.out k x HNO.out HXI.out HQ.out)
        refine (HK.out _).mono ?_
        rintro e w5 ⟨rfl, d5⟩
        have b5 := b2.trans (d5.mono b2.size)
        clear Z U R2 b2 d5 HPA HPN
        go_wp2
        go_ret
        exact ⟨by rw [HE.out]; rfl, b5⟩
      | false =>
        have HN2 := Lib.hid (take_more HNO.out HXI.out HQ.out)
        refine (HK.out _).mono ?_
        rintro e w5 ⟨rfl, d5⟩
        have b5 := b2.trans (d5.mono b2.size)
        have R5 := R2.stays d5
        clear Z U R2 b2 d5 HPA HPN
        go_wp2
        go_roundw
        case rel => exact ⟨k + 1, by omega, by go_num, HN2.out, b5, R5⟩
        case measure => simp [intOf]; omega
    · obtain rfl : k = n := by omega
      have HE := Lib.hid (HPN.out hno)
      clear HPA HPN hno
      go_wp2
      go_ret
      exact ⟨by rw [HE.out]; rfl, hb⟩
end Go.Proofs.Ytnepgibjijdheaa
