/- URLs as the reader of a call's arguments has them: taken apart, and put together. -/
import Derived.Test.YtdfcnodlddeccaaHostData
import Derived.Test.YtdfcnodlddeccaaUrlRow
namespace Go.Proofs.Ytdfcnodlddeccaa
open Go.ChangeShapes Go.WideShapes Go.ChangeAt Go.WideMaps Go.WideElems Go.RowKit Go.Deep
section
variable {H : Type} {enc : TypeId × Value → H} {w : World} {base : Nat} {spare : Nat → Bool} {held : Bool}
set_option maxRecDepth 100000 in
/-- A host's cells that came in. -/
theorem open_hostCells {fuel : Nat} {cs : List Value} {y : DataW H × List MemPlace} (hf : DataW.trod enc Try.prog w base spare held fuel 32 cs = some y) :
    ∃ x : Hst.Host, x.addr.length = 16 ∧ cs = (hostA x).toList ∧ y = (hostD x, []) ∧ (Lit.int .i64 x.kind).wf = true ∧ x.name.length ≤ maxLen := by
  obtain ⟨f0, f1, f2, hs, ⟨o0, o1, o2⟩, t0, t1, t2⟩ := host_fields
  obtain ⟨y0, y1, y2, n, hx, hl, h0, h1, h2⟩ := trod_struct3 hs hf
  rw [o0, t0, cellsInt] at h0
  rw [o1, t1, cellsString] at h1
  rw [o2, t2, cellsAddr] at h2
  obtain ⟨k, e0, rfl, wk⟩ := DataW.trod_int Try.underlying3 h0
  obtain ⟨s, e1, rfl, ws⟩ := DataW.trod_string Try.underlying9 h1
  obtain ⟨zs, hzl, e2, rfl, wz⟩ := nums_cells Try.underlying30 Try.underlying5 cellsByte cellsAddr h2
  obtain ⟨l, rfl⟩ := u8s_of wz
  rw [List.length_map] at hzl
  rw [cellsHost] at hl
  have he := three_parts hl e0 e1 e2
  refine ⟨⟨k, s.data.toList, l⟩, hzl, ?_, ?_, wk, ?_⟩
  · rw [he]
    show _ = Value.int .i64 k :: strV s.data.toList :: l.map byteV
    rw [List.map_map]; rfl
  · rw [hx]; rfl
  · show s.data.toList.length ≤ maxLen
    rw [Oct.length_bytes]; exact ws
set_option maxRecDepth 100000 in
theorem shut_hostCells {x : Hst.Host} (ha : x.addr.length = 16) (wk : (Lit.int .i64 x.kind).wf = true) (wn : x.name.length ≤ maxLen) :
    ∃ m, DataW.trod enc Try.prog w base spare held m 32 (hostA x).toList = some (hostD x, []) :=
  shut_host (enc := enc) (w := w) (base := base) (spare := spare) (held := held) ha wk wn
/-- A URL, as data. -/
def urlD (u : Ur.URL) : DataW H := .agg [.lit (.bool u.secure), hostD u.host, .lit (.int .i64 u.port), .lit (.string u.path)]
theorem four_parts {α : Type} {l : List α} (h : l.length = 21) {a c d : α} {r : List α} (h0 : (l.drop 0).take 1 = [a]) (h1 : (l.drop 1).take 18 = r) (h2 : (l.drop 19).take 1 = [c]) (h3 : (l.drop 20).take 1 = [d]) : l = a :: (r ++ [c, d]) := by
  match l, h with
  | [x0, x1, x2, x3, x4, x5, x6, x7, x8, x9, x10, x11, x12, x13, x14, x15, x16, x17, x18, x19, x20], _ =>
    simp at h0 h1 h2 h3
    subst h0; subst h1; subst h2; subst h3; rfl
theorem trod_struct4 {t : TypeId} {f0 f1 f2 f3 : Field} {fuel : Nat} {cs : List Value} {x : DataW H × List MemPlace} (ht : Try.prog.underlying t = some (.struct #[f0, f1, f2, f3])) (h : DataW.trod enc Try.prog w base spare held fuel t cs = some x) :
    ∃ y0 y1 y2 y3 n, x = (.agg [y0.1, y1.1, y2.1, y3.1], y0.2 ++ (y1.2 ++ (y2.2 ++ y3.2))) ∧ cs.length = Try.prog.cellsOf t ∧ DataW.trod enc Try.prog w base spare held n f0.type ((cs.drop f0.offset).take (Try.prog.cellsOf f0.type)) = some y0 ∧
      DataW.trod enc Try.prog w base spare held n f1.type ((cs.drop f1.offset).take (Try.prog.cellsOf f1.type)) = some y1 ∧ DataW.trod enc Try.prog w base spare held n f2.type ((cs.drop f2.offset).take (Try.prog.cellsOf f2.type)) = some y2 ∧
      DataW.trod enc Try.prog w base spare held n f3.type ((cs.drop f3.offset).take (Try.prog.cellsOf f3.type)) = some y3 := by
  obtain ⟨xs, n, _, rfl, hl, hlen, hf⟩ := DataW.trod_struct ht h
  match xs, hlen with
  | [y0, y1, y2, y3], _ => exact ⟨y0, y1, y2, y3, n, by simp, hl, by simpa using hf 0 f0 rfl, by simpa using hf 1 f1 rfl, by simpa using hf 2 f2 rfl, by simpa using hf 3 f3 rfl⟩
theorem trod_struct4_mk {t : TypeId} {f0 f1 f2 f3 : Field} {n : Nat} {cs : List Value} {y0 y1 y2 y3 : DataW H × List MemPlace} (ht : Try.prog.underlying t = some (.struct #[f0, f1, f2, f3])) (hl : cs.length = Try.prog.cellsOf t)
    (h0 : DataW.trod enc Try.prog w base spare held n f0.type ((cs.drop f0.offset).take (Try.prog.cellsOf f0.type)) = some y0)
    (h1 : DataW.trod enc Try.prog w base spare held n f1.type ((cs.drop f1.offset).take (Try.prog.cellsOf f1.type)) = some y1)
    (h2 : DataW.trod enc Try.prog w base spare held n f2.type ((cs.drop f2.offset).take (Try.prog.cellsOf f2.type)) = some y2)
    (h3 : DataW.trod enc Try.prog w base spare held n f3.type ((cs.drop f3.offset).take (Try.prog.cellsOf f3.type)) = some y3) :
    DataW.trod enc Try.prog w base spare held (n + 1) t cs = some (.agg [y0.1, y1.1, y2.1, y3.1], y0.2 ++ (y1.2 ++ (y2.2 ++ y3.2))) := by
  have := trod_struct_mk (enc := enc) (w := w) (base := base) (spare := spare) (held := held) (n := n) (xs := [y0, y1, y2, y3]) ht hl (by simp [h0, h1, h2, h3])
  simpa using this
theorem cellsBool : Try.prog.cellsOf 4 = 1 := by kernel_rfl
theorem urlA_list (u : Ur.URL) : (urlA u).toList = Value.bool u.secure :: ((hostA u.host).toList ++ [Value.int .i64 u.port, strV u.path]) := rfl
end
end Go.Proofs.Ytdfcnodlddeccaa
