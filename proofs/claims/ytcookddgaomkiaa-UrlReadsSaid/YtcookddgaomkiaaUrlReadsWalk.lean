/- The walk of the law UrlReads. -/
import Derived.Test.YtcookddgaomkiaaUrlAlive
import Derived.Test.YtcookddgaomkiaaRefUrlParse
namespace Go.Proofs.Ytcookddgaomkiaa
open Go.RowKit
set_option maxRecDepth 100000 in
set_option maxHeartbeats 4000000 in
theorem ureads_walk (s : ByteArray) (w : World) (_hs : s.size ≤ maxLen) (hw : Std w) :
    Calls Try.prog 4 #[.string s] w fun e w' => e = .returned (.bool true) ∧ Below w.heap.size w w' := by
  have HA := Lib.hid url_alive
  have z0 := zeroURL
  by_cases hlen : s.size ≤ 3000
  · have hlen1 : ¬ (3000 : Int) < (s.size : Int) := by omega
    have H1 := fun W hW => urlParse_calls s W hW (by omega)
    have H2 := fun W => refUrlParse_calls s W hlen
    have H3 := Lib.hid (fun W => path_calls s W)
    have H4 := Lib.hid (fun W => refPath_calls s W (by unfold maxLen; omega))
    have hal := Ur.parse_host_length s.data.toList
    obtain ⟨o, ho⟩ : ∃ o, Ur.parse s.data.toList = o := ⟨_, rfl⟩
    rw [ho] at H1 H2 hal
    obtain ⟨c, u⟩ := o
    have hal : u.host.addr.length = 16 := hal
    have H1 : ∀ W, Std W → Calls Try.prog 7 #[.string s] W fun e w' => e = .returned (.tuple #[.agg (urlA u), .int .i64 c]) ∧ Below W.heap.size W w' := H1
    have H2 : ∀ W, Calls Try.prog 9 #[.string s] W fun e w' => e = .returned (.tuple #[.agg (urlA u), .int .i64 c]) ∧ Below W.heap.size W w' := H2
    have H1 := Lib.hid H1
    have H2 := Lib.hid H2
    have HU := Lib.hid (urlA_size u hal)
    have HU1 := Lib.hid (urlA_one u)
    have q := eql_url u u hal hal
    rw [decide_eq_true rfl] at q
    clear ho hal
    generalize Ur.isPath s.data.toList = b at *
    generalize urlA u = X at *
    go_enter Try.func4, Try.ntmps4
    go_wp2_with fail
    refine (HA.out _ hw).mono ?_
    rintro e v0 ⟨rfl, d0⟩
    go_wp2_with fail
    refine (H1.out _ (hw.below d0)).mono ?_
    rintro e v1 ⟨rfl, d1⟩
    have B1 := d0.trans (d1.mono d0.size)
    obtain ⟨T1, U1, C1, _⟩ := lay_row 27 (urlA Ur.zero) X B1 B1.size
    go_wp2_with (first
      | (refine wpList_store_row rfl 27 _ _ rfl v1.heap.size X rfl rfl 27 _ T1 (by rw [HU.out]; exact infoURL) (by rw [HU.out]; rfl) HU1.out ?_))
    generalize (v1.alloc (.cells (urlA Ur.zero) 27)).setRow v1.heap.size X = x1 at *
    generalize v1.heap.size = g1 at *
    clear T1 B1 d1 d0
    refine (H2.out _).mono ?_
    rintro e v2 ⟨rfl, d2⟩
    have B2 := C1.trans (d2.mono C1.size)
    have P1 := U1.stays d2
    obtain ⟨T2, U2, C2, L2⟩ := lay_row 27 (urlA Ur.zero) X B2 B2.size
    have P2 := L2 _ _ _ P1
    clear L2 P1 U1 C1 B2 d2
    cases b
    all_goals
      go_wp2_with (first
        | (refine wpList_store_row rfl 27 _ _ rfl v2.heap.size X rfl rfl 27 _ T2 (by rw [HU.out]; exact infoURL) (by rw [HU.out]; rfl) HU1.out ?_)
        | (refine at_slot 22 rfl ?_; refine load_row rfl 27 _ rfl g1 rfl P2 Try.underlying27 rfl (by rw [HU.out]; exact infoURL) ?_)
        | (refine at_slot 23 rfl ?_; refine load_row rfl 27 _ rfl v2.heap.size rfl U2 Try.underlying27 rfl (by rw [HU.out]; exact infoURL) ?_)
        | (go_at_call 10; refine (H3.out _).mono ?_; rintro e v3 ⟨rfl, rfl⟩)
        | (go_at_call 11; refine (H4.out _).mono ?_; rintro e v4 ⟨rfl, rfl⟩))
      go_ret
      exact ⟨rfl, C2⟩
  · have hlen1 : (3000 : Int) < (s.size : Int) := by omega
    go_enter Try.func4, Try.ntmps4
    go_wp2_with fail
    refine (HA.out _ hw).mono ?_
    rintro e w1 ⟨rfl, b1⟩
    go_wp2
    go_ret
    exact ⟨rfl, b1⟩
end Go.Proofs.Ytcookddgaomkiaa
