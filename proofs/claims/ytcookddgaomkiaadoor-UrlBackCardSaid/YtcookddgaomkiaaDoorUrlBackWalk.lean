/- The walk of the law UrlBack. -/
import Derived.Test.YtcookddgaomkiaaDoorUrlAlive
import Derived.Test.YtcookddgaomkiaaDoorUrlText
namespace Go.Proofs.YtcookddgaomkiaaDoor
open Go.RowKit
theorem cell_name {u : Ur.URL} {p : ByteArray} (hp : p = ⟨u.host.name.toArray⟩) : (urlA u)[2]? = some (.string p) := by
  rw [hp]; rfl
set_option maxRecDepth 100000 in
set_option maxHeartbeats 4000000 in
theorem uback_walk (u : Ur.URL) (w : World) (ha : u.host.addr.length = 16) (_hk : (Lit.int .i64 u.host.kind).wf = true ∧ u.host.name.length ≤ maxLen) (_ho : (Lit.int .i64 u.port).wf = true) (_hw : u.path.length ≤ maxLen) (hw : Std w) :
    Calls Tryd.prog 3 #[.agg (urlA u)] w fun e w' => e = .returned (.bool true) ∧ Below w.heap.size w w' := by
  have HA := Lib.hid url_alive
  have z0 := zeroURL
  have HI := Lib.hid (show (Tryd.prog.info? 27).map (·.size) = some (urlA u).size by rw [urlA_size u ha]; exact infoURL)
  have HU := Lib.hid (urlA_size u ha)
  have HU1 := Lib.hid (urlA_one u)
  obtain ⟨p, hp⟩ : ∃ p : ByteArray, p = ⟨u.path.toArray⟩ := ⟨_, rfl⟩
  have hps : p.size = u.path.length := by rw [← Oct.length_bytes, hp]
  obtain ⟨m, hm⟩ : ∃ m : ByteArray, m = ⟨u.host.name.toArray⟩ := ⟨_, rfl⟩
  have hms : m.size = u.host.name.length := by rw [← Oct.length_bytes, hm]
  have C20 := Lib.hid (cell_path ha hp)
  have C2 := Lib.hid (cell_name (u := u) hm)
  have R0 := Row.new w 27 (urlA u)
  have B0 := (Below.refl w.heap.size w).alloc (Nat.le_refl _) (.cells (urlA u) 27)
  clear hp hm
  by_cases h1 : p.size ≤ 3000
  · have g1 : ¬ (3000 : Int) < (p.size : Int) := by omega
    by_cases h2 : m.size ≤ 600
    · have g2 : ¬ (600 : Int) < (m.size : Int) := by omega
      obtain ⟨t, ht⟩ : ∃ t : ByteArray, t = ⟨(Ur.text u).toArray⟩ := ⟨_, rfl⟩
      have H1 := Lib.hid (fun W hW => urlText_calls u ha (by omega) t ht W hW)
      have H3 := Lib.hid (fun W hW => urlRight_calls u ha (by omega) W hW)
      have htl : t.data.toList = Ur.text u := by rw [ht]
      have hts : t.size ≤ 1048576 := by
        have := Ur.text_length u ha
        rw [← htl, Oct.length_bytes] at this
        omega
      have H2 := fun W hW => urlParse_calls t W hW hts
      rw [htl] at H2
      cases hr : Ur.right u with
      | true =>
        rw [Ur.parse_text hr] at H2
        rw [hr] at H3
        have H2 : ∀ W, Std W → Calls Tryd.prog 6 #[.string t] W fun e w' => e = .returned (.tuple #[.agg (urlA u), .int .i64 0]) ∧ Below W.heap.size W w' := H2
        have H2 := Lib.hid H2
        have q := eql_url u u ha ha
        rw [decide_eq_true rfl] at q
        clear hr ht htl hts h1 h2 hps hms
        generalize urlA u = U at *
        go_enter Tryd.func3, Tryd.ntmps3
        go_wp2_with fail
        generalize w.alloc (.cells U 27) = w0 at *
        refine (HA.out _ (hw.below B0)).mono ?_
        rintro e v0 ⟨rfl, d0⟩
        have R1 := R0.stays d0
        have B1 := B0.trans (d0.mono B0.size)
        have c20 := (R1.cell 20).trans C20.out
        have c2 := (R1.cell 2).trans C2.out
        clear R0 B0 d0
        go_wp2_with (refine at_slot 19 rfl ?_; refine load_row rfl 27 _ rfl w.heap.size rfl R1 Tryd.underlying27 rfl HI.out ?_)
        refine (H1.out _ (hw.below B1)).mono ?_
        rintro e v1 ⟨rfl, d1⟩
        have R2 := R1.stays d1
        have B2 := B1.trans (d1.mono B1.size)
        clear R1 B1 d1 c20 c2
        go_wp2_with fail
        refine (H2.out _ (hw.below B2)).mono ?_
        rintro e v2 ⟨rfl, d2⟩
        have R3 := R2.stays d2
        have B3 := B2.trans (d2.mono B2.size)
        obtain ⟨T, V, C, L⟩ := lay_row 27 (urlA Ur.zero) U B3 B3.size
        have R4 := L _ _ _ R3
        clear R2 B2 R3 B3 d2 L
        go_wp2_with (first
          | (refine wpList_store_row rfl 27 _ _ rfl v2.heap.size U rfl rfl 27 _ T (by rw [HU.out]; exact infoURL) (by rw [HU.out]; rfl) HU1.out ?_)
          | (refine at_slot 26 rfl ?_; refine load_row rfl 27 _ rfl w.heap.size rfl R4 Tryd.underlying27 rfl HI.out ?_))
        generalize (v2.alloc (.cells (urlA Ur.zero) 27)).setRow v2.heap.size U = x2 at *
        generalize v2.heap.size = g2 at *
        clear T
        refine (H3.out _ (hw.below C)).mono ?_
        rintro e v3 ⟨rfl, d3⟩
        have R5 := R4.stays d3
        have V5 := V.stays d3
        have C5 := C.trans (d3.mono C.size)
        clear R4 V C d3
        go_wp2_with (first
          | (refine at_slot 38 rfl ?_; refine load_row rfl 27 _ rfl g2 rfl V5 Tryd.underlying27 rfl HI.out ?_)
          | (refine at_slot 39 rfl ?_; refine load_row rfl 27 _ rfl w.heap.size rfl R5 Tryd.underlying27 rfl HI.out ?_))
        go_ret
        exact ⟨rfl, C5⟩
      | false =>
        have ew := Ur.text_wrong hr
        rw [ew.2] at H2
        rw [hr] at H3
        rw [ew.1] at ht
        subst ht
        have H2 : ∀ W, Std W → Calls Tryd.prog 6 #[.string ⟨#[]⟩] W fun e w' => e = .returned (.tuple #[.agg (urlA Ur.zero), .int .i64 41]) ∧ Below W.heap.size W w' := H2
        have H1 : Hid (∀ W, Std W → Calls Tryd.prog 5 #[.agg (urlA u)] W fun e w' => e = .returned (.string ⟨#[]⟩) ∧ Below W.heap.size W w') := H1
        have H2 := Lib.hid H2
        have HZ := Lib.hid (show (urlA Ur.zero).size = 21 from rfl)
        clear hr htl hts h1 h2 hps hms ew
        generalize urlA u = U at *
        go_enter Tryd.func3, Tryd.ntmps3
        go_wp2_with fail
        generalize w.alloc (.cells U 27) = w0 at *
        refine (HA.out _ (hw.below B0)).mono ?_
        rintro e v0 ⟨rfl, d0⟩
        have R1 := R0.stays d0
        have B1 := B0.trans (d0.mono B0.size)
        have c20 := (R1.cell 20).trans C20.out
        have c2 := (R1.cell 2).trans C2.out
        clear R0 B0 d0
        go_wp2_with (refine at_slot 19 rfl ?_; refine load_row rfl 27 _ rfl w.heap.size rfl R1 Tryd.underlying27 rfl HI.out ?_)
        refine (H1.out _ (hw.below B1)).mono ?_
        rintro e v1 ⟨rfl, d1⟩
        have R2 := R1.stays d1
        have B2 := B1.trans (d1.mono B1.size)
        clear R1 B1 d1 c20 c2
        go_wp2_with fail
        refine (H2.out _ (hw.below B2)).mono ?_
        rintro e v2 ⟨rfl, d2⟩
        have R3 := R2.stays d2
        have B3 := B2.trans (d2.mono B2.size)
        obtain ⟨T, V, C, L⟩ := lay_row 27 (urlA Ur.zero) (urlA Ur.zero) B3 B3.size
        have R4 := L _ _ _ R3
        clear R2 B2 R3 B3 d2 L
        go_wp2_with (first
          | (refine wpList_store_row rfl 27 _ _ rfl v2.heap.size (urlA Ur.zero) rfl rfl 27 _ T (by rw [HZ.out]; exact infoURL) rfl (urlA_one _) ?_)
          | (refine at_slot 26 rfl ?_; refine load_row rfl 27 _ rfl w.heap.size rfl R4 Tryd.underlying27 rfl HI.out ?_))
        generalize (v2.alloc (.cells (urlA Ur.zero) 27)).setRow v2.heap.size (urlA Ur.zero) = x2 at *
        clear T
        refine (H3.out _ (hw.below C)).mono ?_
        rintro e v3 ⟨rfl, d3⟩
        go_wp2
        go_ret
        exact ⟨rfl, C.trans (d3.mono C.size)⟩
    · have g2 : (600 : Int) < (m.size : Int) := by omega
      generalize urlA u = U at *
      go_enter Tryd.func3, Tryd.ntmps3
      go_wp2_with fail
      generalize w.alloc (.cells U 27) = w0 at *
      refine (HA.out _ (hw.below B0)).mono ?_
      rintro e v0 ⟨rfl, d0⟩
      have R1 := R0.stays d0
      have c20 := (R1.cell 20).trans C20.out
      have c2 := (R1.cell 2).trans C2.out
      go_wp2
      go_ret
      exact ⟨rfl, B0.trans (d0.mono B0.size)⟩
  · have g1 : (3000 : Int) < (p.size : Int) := by omega
    generalize urlA u = U at *
    go_enter Tryd.func3, Tryd.ntmps3
    go_wp2_with fail
    generalize w.alloc (.cells U 27) = w0 at *
    refine (HA.out _ (hw.below B0)).mono ?_
    rintro e v0 ⟨rfl, d0⟩
    have R1 := R0.stays d0
    have c20 := (R1.cell 20).trans C20.out
    go_wp2
    go_ret
    exact ⟨rfl, B0.trans (d0.mono B0.size)⟩
end Go.Proofs.YtcookddgaomkiaaDoor
