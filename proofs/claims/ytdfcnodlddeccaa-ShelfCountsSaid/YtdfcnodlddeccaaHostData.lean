/- Hosts as the reader of a call's arguments has them: taken apart, and put together. -/
import Derived.Test.YtdfcnodlddeccaaArrays
import Derived.Test.YtdfcnodlddeccaaCells
import Derived.Deep.Strs
namespace Go.Proofs.Ytdfcnodlddeccaa
open Go.ChangeShapes Go.WideShapes Go.ChangeAt Go.WideMaps Go.WideElems Go.RowKit Go.Deep
section
variable {H : Type} {enc : TypeId × Value → H} {P : Program} {w : World} {base : Nat} {spare : Nat → Bool} {held : Bool}
/-- The cells of an array of numbers. -/
theorem nums_cells {t e : TypeId} {n : Nat} {k : IntKind} {fuel : Nat} {cs : List Value} {y : DataW H × List MemPlace} (ht : P.underlying t = some (.array n e)) (he : P.underlying e = some (.int k)) (hce : P.cellsOf e = 1) (hct : P.cellsOf t = n)
    (hf : DataW.trod enc P w base spare held fuel t cs = some y) :
    ∃ zs : List Int, zs.length = n ∧ cs = (zs.map fun z => Value.int k z) ∧ y = (.agg (zs.map fun z => .lit (.int k z)), []) ∧ ∀ z ∈ zs, (Lit.int k z).wf = true := by
  obtain ⟨xs, m, _, hx, hlen, hxl, hat⟩ := DataW.trod_array ht hf
  rw [hce] at hat
  rw [hct] at hlen
  have key : ∀ i, i < n → ∃ z, cs[i]? = some (Value.int k z) ∧ xs[i]? = some (.lit (.int k z), []) ∧ (Lit.int k z).wf = true := by
    intro i hi
    have h1 := hat i hi
    have hlt : i < xs.length := by omega
    rw [List.getElem?_eq_getElem hlt] at h1
    obtain ⟨z, e1, e2, e3⟩ := DataW.trod_int he h1
    refine ⟨z, ?_, by rw [List.getElem?_eq_getElem hlt, e2], e3⟩
    have h0 := congrArg (fun l => l[0]?) e1
    simp only [Nat.mul_one] at h0
    rw [List.getElem?_take_of_lt (by omega), List.getElem?_drop] at h0
    simpa using h0
  let num : Value → Int := fun v => match v with | .int _ z => z | _ => 0
  have hzs : ∀ i, i < n → ∃ z, (cs.map num)[i]? = some z ∧ cs[i]? = some (Value.int k z) ∧ xs[i]? = some (.lit (.int k z), []) ∧ (Lit.int k z).wf = true := by
    intro i hi
    obtain ⟨z, e1, e2, e3⟩ := key i hi
    exact ⟨z, by rw [List.getElem?_map, e1]; rfl, e1, e2, e3⟩
  refine ⟨cs.map num, by rw [List.length_map, hlen], ?_, ?_, ?_⟩
  · apply List.ext_getElem?
    intro i
    by_cases hi : i < n
    · obtain ⟨z, e0, e1, _, _⟩ := hzs i hi
      rw [List.getElem?_map, e0, e1]; rfl
    · rw [List.getElem?_eq_none (by omega), List.getElem?_eq_none (by simp; omega)]
  · rw [hx]
    refine Prod.ext ?_ ?_
    · show DataW.agg _ = DataW.agg _
      congr 1
      apply List.ext_getElem?
      intro i
      by_cases hi : i < n
      · obtain ⟨z, e0, _, e2, _⟩ := hzs i hi
        rw [List.getElem?_map, List.getElem?_map, e2, e0]; rfl
      · rw [List.getElem?_eq_none (by simp; omega), List.getElem?_eq_none (by simp; omega)]
    · show List.flatMap _ _ = []
      rw [List.flatMap_eq_nil_iff]
      intro x hxm
      obtain ⟨i, hi, e1⟩ := List.getElem_of_mem hxm
      obtain ⟨z, _, _, e2, _⟩ := hzs i (by omega)
      rw [List.getElem?_eq_getElem hi, e1] at e2
      rw [Option.some.inj e2]
  · intro z hz
    obtain ⟨i, hi, e1⟩ := List.getElem_of_mem hz
    obtain ⟨z', e0, _, _, e3⟩ := hzs i (by simp at hi; omega)
    rw [List.getElem?_eq_getElem hi, e1] at e0
    rw [Option.some.inj e0]; exact e3
theorem u8s_of : ∀ {zs : List Int}, (∀ z ∈ zs, (Lit.int .u8 z).wf = true) → ∃ l : List UInt8, zs = l.map fun c => (c.toNat : Int)
  | [], _ => ⟨[], rfl⟩
  | z :: zs, h => by
    obtain ⟨l, rfl⟩ := u8s_of (zs := zs) fun y hy => h y (by simp [hy])
    obtain ⟨c, rfl⟩ := byte_of (h z (by simp))
    exact ⟨c :: l, rfl⟩
/-- A host, as data. -/
def hostD (x : Hst.Host) : DataW H := .agg [.lit (.int .i64 x.kind), .lit (.string x.name), .agg ((x.addr.map fun c => (c.toNat : Int)).map fun z => .lit (.int .u8 z))]
theorem three_parts {α : Type} {l : List α} (h : l.length = 18) {a b : α} {r : List α} (h0 : (l.drop 0).take 1 = [a]) (h1 : (l.drop 1).take 1 = [b]) (h2 : (l.drop 2).take 16 = r) : l = a :: b :: r := by
  match l, h with
  | x :: y :: t, h =>
    simp at h0 h1 h2
    rw [List.take_of_length_le (by simp at h; omega)] at h2
    rw [h0, h1, h2]
theorem host_fields : ∃ f0 f1 f2, Try.prog.underlying 32 = some (.struct #[f0, f1, f2]) ∧ (f0.offset = 0 ∧ f1.offset = 1 ∧ f2.offset = 2) ∧ f0.type = 3 ∧ f1.type = 9 ∧ f2.type = 30 :=
  ⟨_, _, _, Try.underlying32, ⟨rfl, rfl, rfl⟩, rfl, rfl, rfl⟩
theorem cellsInt : Try.prog.cellsOf 3 = 1 := by kernel_rfl
theorem cellsString : Try.prog.cellsOf 9 = 1 := by kernel_rfl
theorem cellsAddr : Try.prog.cellsOf 30 = 16 := by kernel_rfl
theorem cellsByte : Try.prog.cellsOf 5 = 1 := by kernel_rfl
theorem cellsHost : Try.prog.cellsOf 32 = 18 := by kernel_rfl
set_option maxRecDepth 100000 in
/-- A host that came in. -/
theorem open_host {r : Reach} {b0 : Nat} {v : Value} {d : DataW H} {p : List MemPlace} (hv : Value.okWide Try.prog w r b0 32 v) (h : DataW.Trod enc Try.prog w base spare held 32 v d p) :
    ∃ x : Hst.Host, x.addr.length = 16 ∧ v = .agg (hostA x) ∧ d = hostD x ∧ p = [] ∧ (Lit.int .i64 x.kind).wf = true ∧ x.name.length ≤ maxLen := by
  obtain ⟨f0, f1, f2, hs, ⟨o0, o1, o2⟩, t0, t1, t2⟩ := host_fields
  obtain ⟨cs, rfl, hsz⟩ := okWide_struct hs hv
  obtain ⟨fuel, hf⟩ := h
  obtain ⟨y0, y1, y2, n, hx, hl, h0, h1, h2⟩ := trod_struct3 hs hf
  rw [o0, t0, cellsInt] at h0
  rw [o1, t1, cellsString] at h1
  rw [o2, t2, cellsAddr] at h2
  obtain ⟨k, e0, rfl, wk⟩ := DataW.trod_int Try.underlying3 h0
  obtain ⟨s, e1, rfl, ws⟩ := DataW.trod_string Try.underlying9 h1
  obtain ⟨zs, hzl, e2, rfl, wz⟩ := nums_cells Try.underlying30 Try.underlying5 cellsByte cellsAddr h2
  obtain ⟨l, rfl⟩ := u8s_of wz
  rw [List.length_map] at hzl
  rw [cellsHost] at hl
  have hc : (Value.agg cs).cells.toList = cs.toList := rfl
  rw [hc] at hl e0 e1 e2
  have he := three_parts hl e0 e1 e2
  simp only [Prod.mk.injEq] at hx
  refine ⟨⟨k, s.data.toList, l⟩, hzl, ?_, hx.1, ?_, wk, ?_⟩
  · congr 1
    apply Array.ext'
    rw [he]
    unfold hostA
    show _ = Value.int .i64 k :: strV s.data.toList :: l.map byteV
    rw [List.map_map]; rfl
  · rw [hx.2]; rfl
  · show s.data.toList.length ≤ maxLen
    rw [Oct.length_bytes]; exact ws
set_option maxRecDepth 100000 in
/-- It reads so in whatever world. -/
theorem shut_host {x : Hst.Host} (ha : x.addr.length = 16) (wk : (Lit.int .i64 x.kind).wf = true) (wn : x.name.length ≤ maxLen) :
    DataW.Trod enc Try.prog w base spare held 32 (.agg (hostA x)) (hostD x) [] := by
  obtain ⟨f0, f1, f2, hs, ⟨o0, o1, o2⟩, t0, t1, t2⟩ := host_fields
  obtain ⟨m0, g0⟩ := shut_int (enc := enc) (P := Try.prog) (w := w) (base := base) (spare := spare) (held := held) Try.underlying3 wk
  obtain ⟨m1, g1⟩ := Go.ChangeMaps.shut_string (enc := enc) (P := Try.prog) (w := w) (base := base) (sp := spare) (held := held) (s := ⟨x.name.toArray⟩) Try.underlying9 (Nat.le_trans (Nat.le_of_eq (List.size_toArray ..)) wn)
  have hz : ∀ z ∈ (x.addr.map fun c => (c.toNat : Int)), (Lit.int .u8 z).wf = true := by
    intro z hz
    obtain ⟨c, _, rfl⟩ := List.mem_map.1 hz
    have := c.toNat_lt
    simp only [Lit.wf, Bool.and_eq_true, decide_eq_true_eq]
    exact ⟨by show (0 : Int) ≤ _; omega, by show _ ≤ (255 : Int); omega⟩
  obtain ⟨m2, g2⟩ := shut_nums (enc := enc) (P := Try.prog) (w := w) (base := base) (spare := spare) (held := held) Try.underlying30 Try.underlying5 cellsByte cellsAddr (zs := x.addr.map fun c => (c.toNat : Int)) (by rw [List.length_map, ha]) hz
  have hc : (Value.agg (hostA x)).cells.toList = Value.int .i64 x.kind :: strV x.name :: x.addr.map byteV := rfl
  have hlen : (Value.int .i64 x.kind :: strV x.name :: x.addr.map byteV).length = Try.prog.cellsOf 32 := by
    rw [cellsHost, List.length_cons, List.length_cons, List.length_map, ha]
  refine ⟨max m0 (max m1 m2) + 1, ?_⟩
  rw [hc]
  refine trod_struct3_mk (y0 := (.lit (.int .i64 x.kind), [])) (y1 := (.lit (.string x.name), [])) (y2 := (.agg ((x.addr.map fun c => (c.toNat : Int)).map fun z => .lit (.int .u8 z)), [])) hs hlen ?_ ?_ ?_
  · rw [o0, t0, cellsInt]
    exact DataW.trod_le (by omega) g0
  · rw [o1, t1, cellsString]
    exact DataW.trod_le (by omega) g1
  · rw [o2, t2, cellsAddr]
    have e : ((Value.int .i64 x.kind :: strV x.name :: x.addr.map byteV).drop 2).take 16 = x.addr.map byteV := by
      show (x.addr.map byteV).take 16 = _
      rw [List.take_of_length_le (by rw [List.length_map, ha]; exact Nat.le_refl _)]
    rw [e]
    have g3 : (Value.agg ((x.addr.map fun c => (c.toNat : Int)).map fun z => Value.int .u8 z).toArray).cells.toList = x.addr.map byteV := by
      show ((x.addr.map fun c => (c.toNat : Int)).map fun z => Value.int .u8 z) = _
      rw [List.map_map]; rfl
    rw [g3] at g2
    exact DataW.trod_le (by omega) g2
end
end Go.Proofs.Ytdfcnodlddeccaa
