/- The walk of the law UrlNames. -/
import Derived.Test.YtcookddgaomkiaaUrlAlive
namespace Go.Proofs.Ytcookddgaomkiaa
open Go.RowKit
namespace Ur
theorem ex2 : parse [102, 116, 112, 58, 47, 47, 97] = (41, zero) := by decide +kernel
theorem ex3 : parse [104, 116, 116, 112, 58, 47, 47, 97, 46, 49] = (31, zero) := by decide +kernel
theorem ex4 : parse [104, 116, 116, 112, 58, 47, 47, 97, 58, 48] = (42, zero) := by decide +kernel
theorem ex5 : parse [104, 116, 116, 112, 58, 47, 47, 97, 47, 32] = (43, zero) := by decide +kernel
end Ur
set_option maxRecDepth 100000 in
set_option maxHeartbeats 4000000 in
theorem unames_walk (w : World) (hw : Std w) : Calls Try.prog 3 #[] w fun e w' => e = .returned (.bool true) ∧ Below w.heap.size w w' := by
  have z0 := zeroURL
  have HA := Lib.hid url_alive
  have H1 := Lib.hid (fun W hW => parseU_is ⟨#[102, 116, 112, 58, 47, 47, 97]⟩ rfl Ur.ex2 (by decide) W hW)
  have H2 := Lib.hid (fun W hW => parseU_is ⟨#[104, 116, 116, 112, 58, 47, 47, 97, 46, 49]⟩ rfl Ur.ex3 (by decide) W hW)
  have H3 := Lib.hid (fun W hW => parseU_is ⟨#[104, 116, 116, 112, 58, 47, 47, 97, 58, 48]⟩ rfl Ur.ex4 (by decide) W hW)
  have H4 := Lib.hid (fun W hW => parseU_is ⟨#[104, 116, 116, 112, 58, 47, 47, 97, 47, 32]⟩ rfl Ur.ex5 (by decide) W hW)
  change Hid (∀ W, Std W → Calls Try.prog 7 #[.string ⟨#[102, 116, 112, 58, 47, 47, 97]⟩] W fun e w' => e = .returned (.tuple #[.agg (urlA Ur.zero), .int .i64 41]) ∧ Below W.heap.size W w') at H1
  change Hid (∀ W, Std W → Calls Try.prog 7 #[.string ⟨#[104, 116, 116, 112, 58, 47, 47, 97, 46, 49]⟩] W fun e w' => e = .returned (.tuple #[.agg (urlA Ur.zero), .int .i64 31]) ∧ Below W.heap.size W w') at H2
  change Hid (∀ W, Std W → Calls Try.prog 7 #[.string ⟨#[104, 116, 116, 112, 58, 47, 47, 97, 58, 48]⟩] W fun e w' => e = .returned (.tuple #[.agg (urlA Ur.zero), .int .i64 42]) ∧ Below W.heap.size W w') at H3
  change Hid (∀ W, Std W → Calls Try.prog 7 #[.string ⟨#[104, 116, 116, 112, 58, 47, 47, 97, 47, 32]⟩] W fun e w' => e = .returned (.tuple #[.agg (urlA Ur.zero), .int .i64 43]) ∧ Below W.heap.size W w') at H4
  have HZ := Lib.hid (show (urlA Ur.zero).size = 21 from rfl)
  have HZ1 := Lib.hid (urlA_one Ur.zero)
  generalize urlA Ur.zero = Z at *
  go_enter Try.func3, Try.ntmps3
  go_wp2_with fail
  refine (H1.out _ hw).mono ?_
  rintro e v1 ⟨rfl, d1⟩
  have B1 := d1
  obtain ⟨T1, _, C1, _⟩ := lay_row 27 Z Z B1 B1.size
  go_wp2_with (first
    | (refine wpList_store_row rfl 27 _ _ rfl v1.heap.size Z rfl rfl 27 _ T1 (by rw [HZ.out]; exact infoURL) rfl HZ1.out ?_))
  generalize (v1.alloc (.cells Z 27)).setRow v1.heap.size Z = x1 at *
  clear T1 B1 d1
  refine (H2.out _ (hw.below C1)).mono ?_
  rintro e v2 ⟨rfl, d2⟩
  have B2 := C1.trans (d2.mono C1.size)
  obtain ⟨T2, _, C2, _⟩ := lay_row 27 Z Z B2 B2.size
  go_wp2_with (first
    | (refine wpList_store_row rfl 27 _ _ rfl v2.heap.size Z rfl rfl 27 _ T2 (by rw [HZ.out]; exact infoURL) rfl HZ1.out ?_))
  generalize (v2.alloc (.cells Z 27)).setRow v2.heap.size Z = x2 at *
  clear T2 B2 d2
  refine (H3.out _ (hw.below C2)).mono ?_
  rintro e v3 ⟨rfl, d3⟩
  have B3 := C2.trans (d3.mono C2.size)
  obtain ⟨T3, _, C3, _⟩ := lay_row 27 Z Z B3 B3.size
  go_wp2_with (first
    | (refine wpList_store_row rfl 27 _ _ rfl v3.heap.size Z rfl rfl 27 _ T3 (by rw [HZ.out]; exact infoURL) rfl HZ1.out ?_))
  generalize (v3.alloc (.cells Z 27)).setRow v3.heap.size Z = x3 at *
  clear T3 B3 d3
  refine (H4.out _ (hw.below C3)).mono ?_
  rintro e v4 ⟨rfl, d4⟩
  have B4 := C3.trans (d4.mono C3.size)
  obtain ⟨T4, _, C4, _⟩ := lay_row 27 Z Z B4 B4.size
  go_wp2_with (first
    | (refine wpList_store_row rfl 27 _ _ rfl v4.heap.size Z rfl rfl 27 _ T4 (by rw [HZ.out]; exact infoURL) rfl HZ1.out ?_))
  generalize (v4.alloc (.cells Z 27)).setRow v4.heap.size Z = x4 at *
  clear T4 B4 d4
  refine (HA.out _ (hw.below C4)).mono ?_
  rintro e v5 ⟨rfl, d5⟩
  go_wp2
  go_ret
  exact ⟨rfl, C4.trans (d5.mono C4.size)⟩
end Go.Proofs.Ytcookddgaomkiaa
