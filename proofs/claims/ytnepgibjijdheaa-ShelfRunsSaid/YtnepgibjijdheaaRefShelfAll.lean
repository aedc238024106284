/- The walk of the reference's All of a shelf. -/
import Derived.Test.YtnepgibjijdheaaRefShelfAt
import Derived.Test.YtnepgibjijdheaaShelfAll
namespace Go.Proofs.Ytnepgibjijdheaa
open Go.RowKit
set_option maxRecDepth 100000 in
set_option maxHeartbeats 4000000 in
theorem refAll_calls (s : Sh.Shelf) (v : Value) (w : World) (ho : AllOk s.l) (hv : Lies keptA w v s.l) (hn : s.l.length ≤ 1000000) :
    Calls Try.prog 30 #[.agg #[v, .int .i64 s.last]] w (NewCookies (Sh.all s) w) := by
  have z1 := zeroKept
  have HV := Lib.hid hv
  have HOK := Lib.hid ho
  obtain ⟨A, cp, rfl, hcp, _⟩ := hv
  have HCT : Hid (∀ k W u, k = s.l.length → W.ownsRow (w.heap.size + 1) 34 29 u k (flat cookieA ((s.l.map (·.c)).take k)) → Below w.heap.size w W → NewCookies (Sh.all s) w (.returned u) W) := Lib.hid (fun k W u hk hO hb => by
    rw [List.take_of_length_le (by rw [List.length_map, hk]; exact Nat.le_refl _), hk] at hO
    refine ⟨u, rfl, ?_, hb⟩
    unfold Sh.all
    refine lies_own (n := 29) (B := w.heap.size + 1) (t := 34) ?_
    rw [List.length_map]
    exact hO)
  generalize NewCookies (Sh.all s) w = post at *
  obtain ⟨n, hnn⟩ : ∃ n, s.l.length = n := ⟨_, rfl⟩
  have HNN := Lib.hid hnn
  rw [hnn] at hn hcp HV ⊢
  have C0 := (Below.refl w.heap.size w).alloc (Nat.le_refl _) (.cells #[.slice A n cp, .int .i64 s.last] 28)
  have hN : (w.alloc (.cells #[.slice A n cp, .int .i64 s.last] 28)).heap.size = w.heap.size + 1 := by simp
  have C1 := C0.alloc C0.size (.cells #[] 34)
  have c0 := ((Row.new w 28 #[.slice A n cp, .int .i64 s.last]).alloc (.cells #[] 34)).cell 0
  have c0 : ((w.alloc (.cells #[.slice A n cp, .int .i64 s.last] 28)).alloc (.cells #[] 34)).cell? ⟨w.heap.size, 0, none⟩ = some (.slice A n cp) := c0
  have E0 := own_empty (w := w.alloc (.cells #[.slice A n cp, .int .i64 s.last] 28)) (E := 34) (n := 29) (by decide)
  rw [hN] at E0
  have hsz : w.heap.size + 1 ≤ ((w.alloc (.cells #[.slice A n cp, .int .i64 s.last] 28)).alloc (.cells #[] 34)).heap.size := by simp
  clear hnn ho hN C0
  go_enter Try.func30, Try.ntmps30
  go_wp2_with fail
  go_loopw [3, 10] (fun u i wr => ∃ (k : Nat) (v : Value), v = u ∧ k ≤ n ∧ i = .int .i64 (k : Int) ∧ wr.ownsRow (w.heap.size + 1) 34 29 v k (flat cookieA ((s.l.map (·.c)).take k)) ∧ Below w.heap.size w wr ∧ w.heap.size + 1 ≤ wr.heap.size) (fun _ i _ => n - (intOf i).toNat)
  case atStart => exact ⟨0, _, rfl, Nat.zero_le _, rfl, E0, C1, hsz⟩
  case round =>
    obtain ⟨k, v, rfl, hk, rfl, hown, hb, hsz2⟩ := hrel
    clear C1 c0 E0 hsz
    by_cases hlt : k < n
    · obtain ⟨x, hx⟩ : ∃ x, s.l[k]? = some x := ⟨_, List.getElem?_eq_getElem (by rw [HNN.out]; exact hlt)⟩
      have hxm := List.mem_of_getElem? hx
      have ko := HOK.out x hxm
      have hv2 := HV.out.stays hb
      have hcc := hv2.block.2.1
      obtain ⟨g, off, rfl, hg⟩ := hv2.block.2.2 (by rw [HNN.out]; omega)
      rw [← HNN.out] at hv2
      have HCE := Lib.hid (hv2.one (keptA_sizes HOK.out) hx)
      have HXI := Lib.hid hx
      obtain ⟨X, hX⟩ : ∃ X, keptA x = X := ⟨_, rfl⟩
      rw [hX] at HCE
      have HXN := Lib.hid (show (Try.prog.info? 59).map (·.size) = some X.size by rw [← hX, keptA_size _ ko.addr]; exact infoKeptR)
      have HXZ := Lib.hid (show (keptA Sh.zeroK).size = X.size by rw [← hX, keptA_size _ ko.addr]; rfl)
      have HX1 := Lib.hid (show X.all (·.oneCell') = true by rw [← hX]; exact keptA_one _)
      have HX30 := Lib.hid (show X.size = 30 by rw [← hX, keptA_size _ ko.addr])
      obtain ⟨Z, U, D, L⟩ := lay_row 59 (keptA Sh.zeroK) X (Below.refl wr.heap.size wr) (Nat.le_refl _)
      have b2 := hb.trans (D.mono hb.size)
      obtain ⟨Y, hY⟩ : ∃ Y, cookieA x.c = Y := ⟨_, rfl⟩
      have HXY := Lib.hid (show X.extract 0 (0 + 29) = Y by rw [← hX, ← hY]; exact keptA_cookie _ ko.addr)
      have HYS := Lib.hid (show Y.size = 29 by rw [← hY]; exact cookieA_size _ ko.addr)
      have HY1 := Lib.hid (show ∀ c ∈ [x.c], (cookieA c).all (·.oneCell') = true from fun c _ => cookieA_one c)
      have HYL := Lib.hid (show ∀ c ∈ [x.c], (cookieA c).size = 29 from fun c hc => by rw [List.mem_singleton.1 hc]; exact cookieA_size _ ko.addr)
      have HRY : Hid (∀ W : World, Row (W.alloc (.cells Y 34)) W.heap.size 34 (cookieA x.c)) := Lib.hid (fun W => by rw [hY]; exact Row.new W _ _)
      have HSN : Hid (flat cookieA ((s.l.map (·.c)).take (k + 1)) = flat cookieA ((s.l.map (·.c)).take k) ++ flat cookieA [x.c]) := Lib.hid (by rw [List.take_add_one, List.getElem?_map, hx, flat_append]; rfl)
      have hown3 := hown.kept (below_grown D) (by
        cases hv : v.ownBlock
        · exact .inl rfl
        · exact .inr (by simp))
      obtain ⟨A2, c2, rfl⟩ : ∃ A c, v = .slice A k c := by
        rcases hown3.2 with ⟨rfl, h0⟩ | ⟨g, cap, cur, rfl, _⟩
        · exact ⟨none, 0, by rw [h0]⟩
        · exact ⟨_, _, rfl⟩
      have hsz3 : w.heap.size + 1 ≤ ((wr.alloc (.cells (keptA Sh.zeroK) 59)).setRow wr.heap.size X).heap.size := by have := D.size; omega
      clear L D hx hv2 hX hb hown
      go_wp2_with (first
        | (refine at_slot 13 rfl ?_; refine load_span rfl 59 _ rfl g (off + k * 30) rfl X HCE.out Try.underlying59 rfl HXN.out ?_)
        | (refine at_store 59 (.tmp 5) (.tmp 13) rfl ?_; refine wpList_store_row rfl 59 _ _ rfl wr.heap.size X rfl rfl 59 _ Z HXN.out HXZ.out HX1.out ?_)
        | (refine at_slot 16 rfl ?_; refine load_part rfl 34 _ rfl wr.heap.size 0 29 rfl U Try.underlying34 rfl infoCookie (by rw [HX30.out]; decide) Y HXY.out ?_)
        | (refine at_slot 17 rfl ?_; generalize (World.setRow _ wr.heap.size X) = x3 at *; refine build_slice_one rfl _ rfl Y rfl Try.underlying45 infoCookieZ HYS.out (by decide) (by decide) ?_)
        | (refine at_slot 18 rfl ?_; refine append_lies rfl _ _ rfl Try.underlying45 infoCookieZ (by kernel_rfl) (by decide) (by decide) rfl (hown3.alloc _) rfl HYL.out HY1.out (lies_single (HRY.out _)) ?ca ?cb ?_))
      case ca => omega
      case cb => omega
      intro v' x5 ho5 hg5 hat5
      have C5 := (b2.alloc b2.size (.cells Y 34)).grown hg5 (by have := b2.size; rw [size_allocS]; omega) (fun b e => by have := (hown3.lt b e).1; omega)
      have ho6 : x5.ownsRow (w.heap.size + 1) 34 29 v' (k + 1) (flat cookieA ((s.l.map (·.c)).take (k + 1))) := by
        rw [HSN.out]; exact ho5
      have hsz5 : w.heap.size + 1 ≤ x5.heap.size := by have := hg5.size; rw [size_allocS] at this; omega
      clear ho5 hown3 hg5 hat5 b2
      go_wp2
      go_roundw
      case rel => exact ⟨k + 1, v', rfl, by omega, by go_num, ho6, C5, hsz5⟩
      case measure => simp [intOf]; omega
    · obtain rfl : k = n := by omega
      have HE := Lib.hid (HCT.out _ wr v HNN.out.symm hown hb)
      clear hown
      go_wp2
      exact HE.out
end Go.Proofs.Ytnepgibjijdheaa
