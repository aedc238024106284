/- Two arrays of numbers held against each other. -/
import Derived.Test.YtcookddgaomkiaaRow
import Derived.ChangeKeysEq
namespace Go.Proofs.Ytcookddgaomkiaa
open Go.RowKit
section
variable {P : Program}
theorem items_ints {e : TypeId} {k : IntKind} (he : P.underlying e = some (.int k)) (hp : P.plainKey e = true) (d : Nat) (zs us : List Int) (w : World) : ∀ is : List Nat, (∀ i ∈ is, i < zs.length ∧ i < us.length) →
    (Op.eqItems (d + 1) e 1 (zs.map fun z => Value.int k z).toArray (us.map fun z => Value.int k z).toArray is).run P w = .ok (decide (∀ i ∈ is, zs[i]? = us[i]?)) w
  | [], _ => by simp [Op.eqItems]
  | i :: is, h => by
    have hi := h i (by simp)
    have ih := items_ints he hp d zs us w is (fun j hj => h j (by simp [hj]))
    have p1 : (part e (zs.map fun z => Value.int k z).toArray (i * 1)).run P w = .ok (.int k zs[i]) w := run_part_plain w hp (by rw [Nat.mul_one]; simp [hi.1])
    have p2 : (part e (us.map fun z => Value.int k z).toArray (i * 1)).run P w = .ok (.int k us[i]) w := run_part_plain w hp (by rw [Nat.mul_one]; simp [hi.2])
    have p3 := run_equalIn_int (P := P) w d e k k zs[i] us[i] he
    simp only [Op.eqItems, Sem.run_bind, p1, p2, p3, Result.andThen_ok]
    by_cases heq : zs[i] = us[i]
    · have hb : (zs[i] == us[i]) = true := by rw [heq]; simp
      rw [hb]
      simp only [Bool.not_true, Bool.false_eq_true, if_false]
      rw [ih]
      congr 1
      rw [decide_eq_decide]
      constructor
      · intro hh j hj
        rcases List.mem_cons.1 hj with rfl | hj
        · rw [List.getElem?_eq_getElem hi.1, List.getElem?_eq_getElem hi.2, heq]
        · exact hh j hj
      · intro hh j hj
        exact hh j (by simp [hj])
    · have hb : (zs[i] == us[i]) = false := by rw [beq_eq_false_iff_ne]; exact heq
      rw [hb]
      simp only [Bool.not_false, if_true, Sem.run_pure]
      congr 1
      symm
      refine decide_eq_false fun hh => heq ?_
      have := hh i (by simp)
      rw [List.getElem?_eq_getElem hi.1, List.getElem?_eq_getElem hi.2] at this
      exact Option.some.inj this
theorem equal_ints {t e : TypeId} {n : Nat} {k : IntKind} {i : TypeInfo} (ht : P.underlying t = some (.array n e)) (he : P.underlying e = some (.int k)) (hp : P.plainKey e = true) (hi : P.info? e = some i) (hc : P.cellsOf e = 1)
    (zs us : List Int) (hz : zs.length = n) (hu : us.length = n) (d : Nat) (w : World) :
    (Op.equalIn (d + 2) t (.agg (zs.map fun z => Value.int k z).toArray) (.agg (us.map fun z => Value.int k z).toArray)).run P w = .ok (decide (zs = us)) w := by
  rw [run_equalIn_array w (d + 1) _ _ ht hi, hc, items_ints he hp d zs us w _ (fun j hj => by rw [hz, hu]; have := List.mem_range.1 hj; exact ⟨this, this⟩)]
  congr 1
  rw [decide_eq_decide]
  constructor
  · intro hh
    apply List.ext_getElem?
    intro j
    by_cases hj : j < n
    · exact hh j (List.mem_range.2 hj)
    · rw [List.getElem?_eq_none (by omega), List.getElem?_eq_none (by omega)]
  · rintro rfl j _
    rfl
end
theorem bytesA_ints (a : List UInt8) : bytesA a = ((a.map fun c => (c.toNat : Int)).map fun z => Value.int .u8 z).toArray := by unfold bytesA; rw [List.map_map]; rfl
theorem wordsA_ints (a : List UInt16) : wordsA a = ((a.map fun c => (c.toNat : Int)).map fun z => Value.int .u16 z).toArray := by unfold wordsA; rw [List.map_map]; rfl
theorem ints_inj8 {a b : List UInt8} : (a.map fun c => (c.toNat : Int)) = (b.map fun c => (c.toNat : Int)) ↔ a = b :=
  ⟨fun h => List.map_inj_right (fun x y e => Oct.eq_of_toNat (by omega)) |>.1 h, fun h => by rw [h]⟩
theorem ints_inj16 {a b : List UInt16} : (a.map fun c => (c.toNat : Int)) = (b.map fun c => (c.toNat : Int)) ↔ a = b :=
  ⟨fun h => List.map_inj_right (fun x y e => Adr.eq_of_toNat16 (by omega)) |>.1 h, fun h => by rw [h]⟩
theorem infoSome8 : ∃ i, Try.prog.info? 5 = some i := Option.isSome_iff_exists.1 (by kernel_rfl)
theorem infoSome16 : ∃ i, Try.prog.info? 81 = some i := Option.isSome_iff_exists.1 (by kernel_rfl)
/-- Two addresses. -/
theorem eq_addr (a b : List UInt8) (ha : a.length = 16) (hb : b.length = 16) (W : World) :
    (Op.equalIn 10000 23 (.agg (bytesA a)) (.agg (bytesA b))).run Try.prog W = .ok (decide (a = b)) W := by
  obtain ⟨i, hi⟩ := infoSome8
  rw [bytesA_ints, bytesA_ints, equal_ints Try.underlying23 Try.underlying5 (by kernel_rfl) hi (by kernel_rfl) _ _ (by simp [ha]) (by simp [hb]) 9998 W]
  exact congrArg (fun b => Result.ok b W) (decide_eq_decide.2 ints_inj8)
/-- Two rows of groups. -/
theorem eq_groups (a b : List UInt16) (ha : a.length = 8) (hb : b.length = 8) (W : World) :
    (Op.equalIn 10000 82 (.agg (wordsA a)) (.agg (wordsA b))).run Try.prog W = .ok (decide (a = b)) W := by
  obtain ⟨i, hi⟩ := infoSome16
  rw [wordsA_ints, wordsA_ints, equal_ints Try.underlying82 Try.underlying81 (by kernel_rfl) hi (by kernel_rfl) _ _ (by simp [ha]) (by simp [hb]) 9998 W]
  exact congrArg (fun b => Result.ok b W) (decide_eq_decide.2 ints_inj16)
end Go.Proofs.Ytcookddgaomkiaa
