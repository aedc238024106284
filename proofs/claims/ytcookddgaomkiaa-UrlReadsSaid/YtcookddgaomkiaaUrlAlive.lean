/- The walk of the chapter's example. -/
import Derived.Test.YtcookddgaomkiaaUrlParse
import Derived.Test.YtcookddgaomkiaaCells
namespace Go.Proofs.Ytcookddgaomkiaa
open Go.RowKit
namespace Ur
def exU : URL := ⟨true, ⟨1, [97, 46, 99, 111, 109], Hst.nil16⟩, 8443, [47]⟩
theorem ex1 : parse [72, 84, 84, 80, 83, 58, 47, 47, 65, 46, 99, 111, 109, 58, 56, 52, 52, 51, 63, 120] = (0, exU) := by decide +kernel
end Ur
theorem parseU_is (s : ByteArray) {l : List UInt8} (hl : s.data.toList = l) {o : Int × Ur.URL} (ho : Ur.parse l = o) (hs : s.size ≤ 1048576) (w : World) (hw : Std w) :
    Calls Try.prog 7 #[.string s] w fun e w' => e = .returned (.tuple #[.agg (urlA o.2), .int .i64 o.1]) ∧ Below w.heap.size w w' := by
  have h := urlParse_calls s w hw hs
  rw [hl, ho] at h
  exact h
set_option maxRecDepth 100000 in
set_option maxHeartbeats 4000000 in
theorem url_alive (w : World) (hw : Std w) : Calls Try.prog 8 #[] w fun e w' => e = .returned (.bool true) ∧ Below w.heap.size w w' := by
  have z0 := zeroURL
  have H1 := Lib.hid (fun W hW => parseU_is ⟨#[72, 84, 84, 80, 83, 58, 47, 47, 65, 46, 99, 111, 109, 58, 56, 52, 52, 51, 63, 120]⟩ rfl Ur.ex1 (by decide) W hW)
  have HB1 := Lib.hid (built_name 1 ⟨#[97, 46, 99, 111, 109]⟩)
  have HB2 := Lib.hid (built_url true ⟨1, [97, 46, 99, 111, 109], Hst.nil16⟩ rfl 8443 ⟨#[47]⟩)
  change Hid (Try.prog.built 25 [(0, .int .i64 1), (1, .string ⟨#[97, 46, 99, 111, 109]⟩)] = some (hostA ⟨1, [97, 46, 99, 111, 109], Hst.nil16⟩)) at HB1
  change Hid (Try.prog.built 27 [(0, .bool true), (1, .agg (hostA ⟨1, [97, 46, 99, 111, 109], Hst.nil16⟩)), (2, .int .i64 8443), (3, .string ⟨#[47]⟩)] = some (urlA Ur.exU)) at HB2
  have q := eql_url Ur.exU Ur.exU rfl rfl
  rw [decide_eq_true rfl] at q
  have HX := Lib.hid (show (urlA Ur.exU).size = 21 from rfl)
  have HX1 := Lib.hid (urlA_one Ur.exU)
  change Hid (∀ W, Std W → Calls Try.prog 7 #[.string ⟨#[72, 84, 84, 80, 83, 58, 47, 47, 65, 46, 99, 111, 109, 58, 56, 52, 52, 51, 63, 120]⟩] W fun e w' => e = .returned (.tuple #[.agg (urlA Ur.exU), .int .i64 0]) ∧ Below W.heap.size W w') at H1
  generalize hostA ⟨1, [97, 46, 99, 111, 109], Hst.nil16⟩ = Y at *
  generalize urlA Ur.exU = X at *
  go_enter Try.func8, Try.ntmps8
  go_wp2_with fail
  refine (H1.out _ hw).mono ?_
  rintro e v1 ⟨rfl, d1⟩
  obtain ⟨T1, U1, C1, _⟩ := lay_row 27 (urlA Ur.zero) X d1 d1.size
  go_wp2_with (first
    | (refine wpList_store_row rfl 27 _ _ rfl v1.heap.size X rfl rfl 27 _ T1 (by rw [HX.out]; exact infoURL) (by rw [HX.out]; rfl) HX1.out ?_)
    | (refine at_slot 10 rfl ?_; refine load_row rfl 27 _ rfl v1.heap.size rfl U1 Try.underlying27 rfl (by rw [HX.out]; exact infoURL) ?_)
    | (refine at_slot 11 rfl ?_; refine build_two_g rfl 25 0 1 _ _ rfl _ _ rfl rfl Y HB1.out ?_)
    | (refine at_slot 12 rfl ?_; refine build_four_g rfl 27 0 1 2 3 _ _ _ _ rfl _ _ _ _ rfl rfl rfl rfl X HB2.out ?_))
  go_ret
  exact ⟨rfl, C1⟩
end Go.Proofs.Ytcookddgaomkiaa
