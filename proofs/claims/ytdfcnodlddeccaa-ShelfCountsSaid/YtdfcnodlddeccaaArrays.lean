/- Arrays of numbers as the reader of a call's arguments has them: taken apart, and put together. What a law with listed variables has to start from. -/
import Derived.Test.YtdfcnodlddeccaaOctets
import Derived.Test.YtdfcnodlddeccaaCells
import Derived.Test.YtdfcnodlddeccaaStd
import Derived.LaidMore
import Derived.Shelf.Vars
import Derived.Stop.LaidErr
import Derived.HandedShaped
import Derived.Lib.TrailingZeros
import Derived.ProofKit
import Derived.Stop.Joined
namespace Go.Proofs.Ytdfcnodlddeccaa
open Go.ChangeShapes Go.WideShapes Go.ChangeAt Go.WideMaps Go.WideElems Go.RowKit
section
variable {H : Type} {enc : TypeId × Value → H} {P : Program} {w : World} {base : Nat} {spare : Nat → Bool} {held : Bool}
theorem mapM_range {α : Type} (f : Nat → Option α) (h : Nat → α) (n : Nat) (hf : ∀ i, i < n → f i = some (h i)) : (List.range n).mapM f = some ((List.range n).map h) := by
  have e : ∀ l : List Nat, (∀ i ∈ l, f i = some (h i)) → l.mapM f = some (l.map h) := by
    intro l
    induction l with
    | nil => intro _; rfl
    | cons a l ih =>
      intro hl
      rw [List.mapM_cons, hl a (by simp), ih fun i hi => hl i (by simp [hi])]
      rfl
  exact e _ fun i hi => hf i (List.mem_range.1 hi)
/-- An array of numbers that came in: its numbers. -/
theorem open_nums {r : Reach} {b0 : Nat} {t e : TypeId} {n : Nat} {k : IntKind} {v : Value} {d : DataW H} {p : List MemPlace} (ht : P.underlying t = some (.array n e)) (he : P.underlying e = some (.int k)) (hce : P.cellsOf e = 1) (hct : P.cellsOf t = n)
    (hv : Value.okWide P w r b0 t v) (h : DataW.Trod enc P w base spare held t v d p) :
    ∃ zs : List Int, zs.length = n ∧ v = .agg (zs.map fun z => Value.int k z).toArray ∧ d = .agg (zs.map fun z => .lit (.int k z)) ∧ p = [] ∧ ∀ z ∈ zs, (Lit.int k z).wf = true := by
  simp only [Value.okWide, ht] at hv
  obtain ⟨cs, rfl, hsz, _⟩ := hv
  obtain ⟨fuel, hf⟩ := h
  obtain ⟨xs, m, _, hx, hlen, hxl, hat⟩ := DataW.trod_array ht hf
  have hc : (Value.agg cs).cells.toList = cs.toList := rfl
  rw [hc] at hlen hat
  rw [hce] at hat
  rw [hct] at hlen
  have key : ∀ i, i < n → ∃ z, cs.toList[i]? = some (Value.int k z) ∧ xs[i]? = some (.lit (.int k z), []) ∧ (Lit.int k z).wf = true := by
    intro i hi
    have h1 := hat i hi
    have hlt : i < xs.length := by omega
    rw [List.getElem?_eq_getElem hlt] at h1
    obtain ⟨z, e1, e2, e3⟩ := DataW.trod_int he h1
    refine ⟨z, ?_, by rw [List.getElem?_eq_getElem hlt, e2], e3⟩
    have h0 := congrArg (fun l => l[0]?) e1
    simp only [Nat.mul_one] at h0
    rw [List.getElem?_take_of_lt (by omega), List.getElem?_drop] at h0
    simpa using h0
  let num : Value → Int := fun v => match v with | .int _ z => z | _ => 0
  have hzs : ∀ i, i < n → ∃ z, (cs.toList.map num)[i]? = some z ∧ cs.toList[i]? = some (Value.int k z) ∧ xs[i]? = some (.lit (.int k z), []) ∧ (Lit.int k z).wf = true := by
    intro i hi
    obtain ⟨z, e1, e2, e3⟩ := key i hi
    exact ⟨z, by rw [List.getElem?_map, e1]; rfl, e1, e2, e3⟩
  refine ⟨cs.toList.map num, by rw [List.length_map, hlen], ?_, ?_, ?_, ?_⟩
  · have : cs.toList = (cs.toList.map num).map fun z => Value.int k z := by
      apply List.ext_getElem?
      intro i
      by_cases hi : i < n
      · obtain ⟨z, e0, e1, _, _⟩ := hzs i hi
        rw [List.getElem?_map, e0, e1]; rfl
      · rw [List.getElem?_eq_none (by omega), List.getElem?_eq_none (by simp; omega)]
    rw [← this]
  · have e := (Prod.mk.injEq _ _ _ _ ▸ hx).1
    rw [e]
    congr 1
    apply List.ext_getElem?
    intro i
    by_cases hi : i < n
    · obtain ⟨z, e0, _, e2, _⟩ := hzs i hi
      rw [List.getElem?_map, List.getElem?_map, e2, e0]; rfl
    · rw [List.getElem?_eq_none (by simp; omega), List.getElem?_eq_none (by simp; omega)]
  · have e := (Prod.mk.injEq _ _ _ _ ▸ hx).2
    rw [e, List.flatMap_eq_nil_iff]
    intro x hxm
    obtain ⟨i, hi, e1⟩ := List.getElem_of_mem hxm
    obtain ⟨z, _, _, e2, _⟩ := hzs i (by omega)
    rw [List.getElem?_eq_getElem hi, e1] at e2
    rw [Option.some.inj e2]
  · intro z hz
    obtain ⟨i, hi, e1⟩ := List.getElem_of_mem hz
    obtain ⟨z', e0, _, _, e3⟩ := hzs i (by simp at hi; omega)
    rw [List.getElem?_eq_getElem hi, e1] at e0
    rw [Option.some.inj e0]; exact e3
/-- It reads so in whatever world. -/
theorem shut_nums {t e : TypeId} {n : Nat} {k : IntKind} {zs : List Int} (ht : P.underlying t = some (.array n e)) (he : P.underlying e = some (.int k)) (hce : P.cellsOf e = 1) (hct : P.cellsOf t = n)
    (hl : zs.length = n) (hz : ∀ z ∈ zs, (Lit.int k z).wf = true) :
    DataW.Trod enc P w base spare held t (.agg (zs.map fun z => Value.int k z).toArray) (.agg (zs.map fun z => .lit (.int k z))) [] := by
  refine ⟨2, ?_⟩
  have hc : (Value.agg (zs.map fun z => Value.int k z).toArray).cells.toList = zs.map fun z => Value.int k z := by
    show ((zs.map fun z => Value.int k z).toArray).toList = _
    simp
  rw [hc]
  unfold DataW.trod
  simp only [ht]
  rw [if_pos (by rw [List.length_map, hl, hct]), hce]
  have hm := mapM_range (fun i => DataW.trod enc P w base spare held 1 e (((zs.map fun z => Value.int k z).drop (i * 1)).take 1)) (fun i => (DataW.lit (.int k (zs.getD i 0)), ([] : List MemPlace))) n fun i hi => by
    have h1 : ((zs.map fun z => Value.int k z).drop (i * 1)).take 1 = [Value.int k (zs.getD i 0)] := by
      rw [Nat.mul_one, List.drop_eq_getElem_cons (by rw [List.length_map]; omega), List.getElem_map]
      have : zs.getD i 0 = zs[i]'(by omega) := by rw [List.getD_eq_getElem?_getD, List.getElem?_eq_getElem (by omega)]; rfl
      rw [this]; rfl
    show DataW.trod enc P w base spare held 1 e (((zs.map fun z => Value.int k z).drop (i * 1)).take 1) = _
    rw [h1]
    exact trod_int_mk 0 he (hz _ (by rw [List.getD_eq_getElem?_getD, List.getElem?_eq_getElem (by omega)]; exact List.getElem_mem _))
  rw [hm]
  simp only [Option.map_some, Option.some.injEq, Prod.mk.injEq, DataW.agg.injEq]
  refine ⟨?_, ?_⟩
  · apply List.ext_getElem?
    intro i
    by_cases hi : i < n
    · simp [hi, List.getElem?_eq_getElem (show i < zs.length by omega)]
    · rw [List.getElem?_eq_none (by simp; omega), List.getElem?_eq_none (by simp; omega)]
  · rw [List.flatMap_eq_nil_iff]
    intro x hx
    obtain ⟨i, _, rfl⟩ := List.mem_map.1 hx
    rfl
end
theorem u8_of {z : Int} (h : (Lit.int .u8 z).wf = true) : 0 ≤ z ∧ z < 256 := by have := bounds_u8 h; omega
theorem u16_of {z : Int} (h : (Lit.int .u16 z).wf = true) : 0 ≤ z ∧ z < 65536 := by
  have := bounds_u16 h; omega
/-- Bytes that came in as numbers. -/
theorem bytes_of {zs : List Int} (h : ∀ z ∈ zs, (Lit.int .u8 z).wf = true) : ∃ a : List UInt8, a.length = zs.length ∧ (zs.map fun z => Value.int .u8 z).toArray = bytesA a := by
  refine ⟨zs.map fun z => UInt8.ofNat z.toNat, by simp, ?_⟩
  unfold bytesA
  rw [List.map_map]
  congr 1
  refine List.map_congr_left fun z hz => ?_
  have := u8_of (h z hz)
  show Value.int .u8 z = .int .u8 ((UInt8.ofNat z.toNat).toNat : Int)
  rw [UInt8.toNat_ofNat']
  exact val_int (by omega)
theorem words_of {zs : List Int} (h : ∀ z ∈ zs, (Lit.int .u16 z).wf = true) : ∃ g : List UInt16, g.length = zs.length ∧ (zs.map fun z => Value.int .u16 z).toArray = wordsA g := by
  refine ⟨zs.map fun z => UInt16.ofNat z.toNat, by simp, ?_⟩
  unfold wordsA
  rw [List.map_map]
  congr 1
  refine List.map_congr_left fun z hz => ?_
  have := u16_of (h z hz)
  show Value.int .u16 z = .int .u16 ((UInt16.ofNat z.toNat).toNat : Int)
  rw [UInt16.toNat_ofNat']
  exact val_int (by omega)
section
variable {H : Type} {enc : TypeId × Value → H}
/-- The wrap for rows that list variables, with the shape of the world besides. -/
theorem handed_shaped {a : Assume} {C : Checked} {os : Os} {f : FuncId} {fn : Func} {s : ChangeSpec} {conds : List PathCond} {apart fresh handsOn again : Bool} {X : World → Array Value → Prop}
    (hX : ∀ (w w' : World) (args : Array Value), w.heap = w'.heap → X w args → X w' args)
    (own : ownKnob C.prog.godebug = none) (started : os.Started) (noInit : C.prog.inits.idxOf? f = none) (hfn : C.prog.funcs[f]? = some fn)
    (witness : ∃ (w : World) (tape : Tape) (i : Input), w.os = os ∧ (w.forCall tape i).Shaped C.prog ∧ i.vars = [] ∧ Input.okWide C.prog (w.forCall tape i) .any w.heap.size f i ∧
      ((s.pre enc C.prog fn conds apart (w.forCall tape i).memory i.args ∧ X (w.forCall tape i).memory i.args) ∧ sizedMet enc C.prog fn (OpenSpec.ofChange s) apart (w.forCall tape i).memory i.args) ∧ a.holds C.prog (lone (Frame.enter C.prog f i.args .normal) [] (w.forCall tape i)))
    (contract : ∀ (W : World) (base : Nat) (args : Array Value) (ds gs : List (DataW H)) (before : List MemPlace),
      (∀ (j : Nat) t v, fn.params[j]? = some t → args[j]? = some v → Value.okWide C.prog W .any base t v) →
      DataW.Whole enc C.prog fn.params.toList s.vars apart W args.toList ds gs before →
      X W args → W.ShapedOpen C.prog →
      Calls C.prog f args W fun e W' => ∃ v, e = .returned v ∧ s.post enc C.prog fn apart fresh handsOn again W args v W') :
    ReturnsInHanded a C os f .any (fun w args => (s.pre enc C.prog fn conds apart w args ∧ X w args) ∧ sizedMet enc C.prog fn (OpenSpec.ofChange s) apart w args) (s.post enc C.prog fn apart fresh handsOn again) := by
  refine returnsInHanded_of_calls own started noInit witness ?_
  intro w tape i _ hsh _ hok hpre _
  obtain ⟨_, _, _, fn', hfn', _, _, _, _, hval⟩ := hok
  have e : fn' = fn := Option.some.inj (hfn'.symm.trans hfn)
  subst e
  obtain ⟨⟨⟨ds, gs, before, hw, _⟩, hx⟩, _⟩ := hpre
  have hw' := DataW.Whole.of_heap (w' := w.forCall tape i) (by rfl) hw
  refine (contract (w.forCall tape i) w.heap.size i.args ds gs before hval hw' (hX _ _ _ (by rfl) hx) hsh).mono fun e W' ⟨v, he, hp⟩ => ?_
  subst he
  exact ChangeSpec.post_blind hp
end
end Go.Proofs.Ytdfcnodlddeccaa
