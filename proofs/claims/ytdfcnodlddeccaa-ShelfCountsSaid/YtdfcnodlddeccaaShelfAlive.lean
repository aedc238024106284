/- The chapter's example, on the shelf itself. -/
import Derived.Test.YtdfcnodlddeccaaBuildListG
import Derived.Test.YtdfcnodlddeccaaShelfPut
import Derived.Test.YtdfcnodlddeccaaShelfAll
import Derived.Test.YtdfcnodlddeccaaSpan
namespace Go.Proofs.Ytdfcnodlddeccaa
open Go.RowKit
namespace Sh
def aA : Ma.Cookie := ⟨[97], [49], Ma.zeroC.host, false, [], false, false, 0, 0, 3, 0, 0⟩
def aB : Ma.Cookie := ⟨[97], [50], Ma.zeroC.host, false, [], false, false, 0, 0, 4, 0, 9⟩
def aC : Ma.Cookie := ⟨[97], [50], Ma.zeroC.host, false, [], false, false, 0, 0, 3, 0, 1⟩
def sA : Shelf := ⟨[⟨{ aA with seq := 1 }, [120]⟩], 1⟩
def sB : Shelf := ⟨[⟨aC, [120]⟩], 1⟩
theorem put_aA : put empty aA [120] = (sA, false) := by decide +kernel
theorem put_aB : put sA aB [120] = (sB, true) := by decide +kernel
end Sh
theorem aA_ok : PlaceOk Sh.aA := ⟨⟨rfl, by decide, by decide⟩, by decide, by decide⟩
theorem aB_ok : PlaceOk Sh.aB := ⟨⟨rfl, by decide, by decide⟩, by decide, by decide⟩
set_option maxRecDepth 100000 in
set_option maxHeartbeats 4000000 in
theorem shelf_alive (w : World) : Calls Try.prog 7 #[] w fun e w' => e = .returned (.bool true) ∧ Below w.heap.size w w' := by
  have HB1 : Try.prog.built 34 [(0, .string ⟨#[97]⟩), (1, .string ⟨#[49]⟩), (9, .int .i64 3)] = some (cookieA Sh.aA) := by kernel_rfl
  have HB1 := Lib.hid HB1
  have HB2 : Try.prog.built 34 [(0, .string ⟨#[97]⟩), (1, .string ⟨#[50]⟩), (9, .int .i64 4), (11, .int .i64 9)] = some (cookieA Sh.aB) := by kernel_rfl
  have HB2 := Lib.hid HB2
  have HB3 : Try.prog.built 34 [(0, .string ⟨#[97]⟩), (1, .string ⟨#[50]⟩), (9, .int .i64 3), (11, .int .i64 1)] = some (cookieA Sh.aC) := by kernel_rfl
  have HB3 := Lib.hid HB3
  have HN := Lib.hid (fun W => newShelf_calls W)
  have H1 := Lib.hid (fun W sb mb (h : ShelfAt W sb mb Sh.empty) => putShelf_calls Sh.aA aA_ok ⟨#[120]⟩ (by decide) W h (by decide))
  have H2 := Lib.hid (fun W sb mb (h : ShelfAt W sb mb Sh.sA) => putShelf_calls Sh.aB aB_ok ⟨#[120]⟩ (by decide) W h (by decide))
  rw [show (Sh.put Sh.empty Sh.aA (⟨#[120]⟩ : ByteArray).data.toList) = (Sh.sA, false) from Sh.put_aA] at H1
  rw [show (Sh.put Sh.sA Sh.aB (⟨#[120]⟩ : ByteArray).data.toList) = (Sh.sB, true) from Sh.put_aB] at H2
  have H3 := Lib.hid (fun W sb mb (h : ShelfAt W sb mb Sh.sB) => allShelf_calls W h)
  unfold NewCookies at H3
  have HEQ : ∀ W, (binOp .eql 34 (.agg (cookieA Sh.aC)) (.agg (cookieA Sh.aC))).run Try.prog W = .ok (.bool true) W := fun W => eql_cookie Sh.aC rfl W
  have HXN := Lib.hid (show (Try.prog.info? 34).map (·.size) = some (cookieA Sh.aC).size from infoCookie)
  have HLC : Hid (∀ (W : World) (v : Value), Lies cookieA W v (Sh.all Sh.sB) → ∃ g off c, v = .slice (some ⟨g, off, none⟩) 1 c ∧ ∀ j u, (cookieA Sh.aC)[j]? = some u → W.cell? ⟨g, off + j, none⟩ = some u) := Lib.hid (fun W v h => by
    have e : Sh.all Sh.sB = [Sh.aC] := rfl
    rw [e] at h
    obtain ⟨A, c, rfl, hc, hh⟩ := h
    obtain ⟨g, off, rfl, hg, hcell⟩ := hh (by decide)
    refine ⟨g, off, c, rfl, fun j u hu => hcell j u ?_⟩
    rw [flat_one, Array.getElem?_toList]
    exact hu)
  generalize cookieA Sh.aA = XA at *
  generalize cookieA Sh.aB = XB at *
  generalize cookieA Sh.aC = XC at *
  go_enter Try.func7, Try.ntmps7
  go_wp2_with fail
  refine (HN.out _).mono ?_
  rintro e x1 ⟨sb, mb, rfl, K1, hsb, hmb, d1⟩
  go_wp2_with (refine at_slot 8 rfl ?_; refine build_list_g rfl 34 _ rfl _ (by rfl) _ HB1.out ?_)
  refine (H1.out _ sb mb K1).mono ?_
  rintro e x2 ⟨rfl, K2, t2⟩
  have d2 := d1.trans (t2.below hsb hmb d1.size)
  clear K1 d1 t2 H1 HN
  go_wp2_with (refine at_slot 13 rfl ?_; refine build_list_g rfl 34 _ rfl _ (by rfl) _ HB2.out ?_)
  refine (H2.out _ sb mb K2).mono ?_
  rintro e x3 ⟨rfl, K3, t3⟩
  have d3 := d2.trans (t3.below hsb hmb d2.size)
  clear K2 d2 t3 H2
  go_wp2_with fail
  refine (H3.out _ sb mb K3).mono ?_
  rintro e x4 ⟨v, rfl, hL, d4⟩
  have C4 := d3.trans (d4.mono d3.size)
  obtain ⟨g, off, c, rfl, hce⟩ := HLC.out _ v hL
  have HCE := Lib.hid hce
  clear hce hL K3 d3 d4 HLC H3
  go_wp2_with (first
    | (refine at_slot 25 rfl ?_; refine load_span rfl 34 _ rfl g off rfl XC HCE.out Try.underlying34 rfl HXN.out ?_)
    | (refine at_slot 26 rfl ?_; refine build_list_g rfl 34 _ rfl _ (by rfl) _ HB3.out ?_))
  go_ret
  exact ⟨rfl, C4⟩
end Go.Proofs.Ytdfcnodlddeccaa
